import PyProof.Rows.All
import Wide.All
import OpenK.AllK
import Wide.FinOn
import HandS.ForMost
import HandS.Wide
import HandS.Style
import HandS.RevTup
import HandS.Rev
import HandS.IsInst
import HandS.More
import HandS.Conv
import HandS.Defaults
import HandS.ForExc
import HandS.OwnEq
import HandS.Flow
import PyProof.ListStr
import HandS.Walk
import HandS.EndBits
import PyProof.ReprRoads
import PyProof.ReprLen
import HandS.Exc
import HandS.ExcIs
import HandS.TryOnly
import HandS.ExcOwn
import HandS.WordsExc
import HandS.Codes
import KE.KCallOwn
import HandS.FStr
import PyProof.FString3
import PyProof.InstNe
import PyProof.TupleOfStr
import HandS.SortKw
import HandS.SortInts
import KE.GoesZip
import KE.GoesMore
import PyProof.Draws
import PyProof.WalksT
import PySem.Challenge.RW_hopline_k34_heaps_by_numbers
import PyProof.ReprReads
import PyProof.ReprNest
import HandS.ReplaceLit
import HandS.ReplaceDef
import HandS.ReplaceList
import HandS.SortRule
import KE.KSortTupAny
import HandS.Dict
import HandS.SortOrd
import PyProof.Rows.StrFirst
import HandS.DictTup
import HandS.SetKeys
import KE.KExcInit
import HandS.ExcInit
import HandS.ExcField
import KE.KExcIs
import HandS.SetFor
import PyProof.StrLawsFirst

set_option Elab.async false
set_option linter.all false
set_option maxRecDepth 100000
namespace HopR
open PySem PySem.Spec PyProof.Rows L2
/-! rules of my own: texts -/
/-- the signs of a text, each a text -/
def sg (z : Str) : List Str := z.cps.toList.map fun c => ⟨#[c]⟩
theorem sg_len (z : Str) : (sg z).length = z.length := by
  unfold sg
  rw [List.length_map]
  rfl
theorem sg_get {z : Str} {i : Nat} {c : Nat} (h : z.cps[i]? = some c) : (sg z)[i]? = some ⟨#[c]⟩ := by
  unfold sg
  rw [List.getElem?_map, Array.getElem?_toList, h]
  rfl
theorem strsAre_of : ∀ (vs : List Value) (ys : List Str), vs.length = ys.length → (∀ (j : Nat) (v : Value), vs[j]? = some v → ∃ y t, ys[j]? = some y ∧ v = .str y t) → StrsAre vs ys
  | [], [], _, _ => .nil
  | v :: r, y :: q, hl, h => by
    obtain ⟨y', t, e1, e2⟩ := h 0 v rfl
    have e3 : y = y' := Option.some.inj e1
    subst e3 e2
    exact .cons y t (strsAre_of r q (by simpa using hl) fun j w hw => h (j + 1) w hw)
theorem signs_are {z : Str} {acc : Array Value} (h : ItemsOf (SignAt z) acc z.cps.size) : StrsAre acc.toList (sg z) := by
  refine strsAre_of _ _ (by rw [sg_len, Array.length_toList, h.1]; rfl) fun j v hv => ?_
  obtain ⟨c, u, hc, e⟩ := h.2 j v (by rw [← Array.getElem?_toList]; exact hv)
  exact ⟨⟨#[c]⟩, u, sg_get hc, e⟩
section
variable {X : Cx}
/-- sorted(text) -/
def rSortT : List V → Hp → VK → Prop := fun vs H Q => ∃ z : Str, vs = [.str z] ∧ z.length < 64 ∧ ∀ (ys : List Str) (p : Addr), ys.Perm (sg z) → sortedS ys = true → H p = none → Q (.ref p) (upd H p (.lst (ys.map V.str)))
theorem cr_sortT (hcm : X.calm = true) : CallR X (.builtin "sorted") rSortT := by
  intro pins s σ H xs us Q I r h
  obtain ⟨z, rfl, h64, q⟩ := h
  obtain ⟨u, rfl, t, rfl⟩ := vals1 r
  refine Calls.call_function_entry kind_sorted plain_sorted entry_sorted (args_sorted1 (.str z t)) ?_
  unfold Builtin.«sorted»
  refine wpAny_bind (m := checkCount "sorted" 1 1 [Value.str z t].length) (wpAny_pure ?_)
  have hz : z.cps.size < 64 := h64
  refine wpAny_bind (wpAny_collect_str (A := X.A.in1) (show X.A.in1.handled = none from I.ok.hd hcm) z t (fun s' acc hk hg hdr hos hit => ?_) (Nat.le_trans (Nat.le_of_lt hz) (by decide)))
  have hS := signs_are hit
  have es : s' = { s with heap := s'.heap, toks := s'.toks } := by
    cases s'
    cases s
    simp only at hg hdr hos
    subst hg hdr hos
    rfl
  have hal : acc.toList.length < 64 := by rw [Array.length_toList, hit.1]; exact hz
  refine wpAny_bind (wpAny_newList ?_ (Nat.le_trans (Nat.le_of_lt hal) (by decide)))
  have hoL : (s'.heap.push (seqObj "list" acc.toList.toArray 0)).get? s'.heap.objs.size = some (seqObj "list" acc.toList.toArray 0) := Heap.get?_push_size _ rfl
  refine wpAny_bind (wpAny_holding (wpAny_call_entry slot_list_sort ⟨_, hoL, rfl⟩ entry_list_sort (list_sort_treeK strKind_oneLt hoL hS.keysOf (fun v₁ v₂ rest e => keyKind_strs (by rw [← e]; exact hS)) hal fun st' hp hs => ⟨_, rfl, ?_⟩) (args_list_sort _)))
  obtain ⟨ys, g1, g2, g3⟩ := sorted_out_str hS hp hs
  obtain ⟨ep, he'⟩ := sortedHeap_at (vs := acc.toList) (out := (arrOf st').map (·.2)) hoL
  have I1 : Inv X pins σ H s' := by
    rw [es]
    exact I.kept hk
  have hlen : (ys.map V.str).length ≤ sizeLine := by
    rw [List.length_map, g2.length_eq, sg_len]
    exact Nat.le_trans (Nat.le_of_lt h64) (by decide)
  have hne : ∀ b o, s'.heap.get? b = some o → (sortedHeap (s'.heap.push (seqObj "list" acc.toList.toArray 0)) s'.heap.objs.size acc.toList ((arrOf st').map (·.2))).get? b = some o := fun b o e => by
    rw [sortedHeap_old (Nat.ne_of_lt (Heap.lt_size e)) (by rw [size_push']; exact Nat.lt_succ_of_lt (Heap.lt_size e))]
    exact Heap.get?_push_of_some _ e
  refine wpAny_pure ⟨_, rfl, .ref _, upd H s'.heap.objs.size (.lst (ys.map V.str)), I1.laid (t' := s'.toks) hne (Nat.le_refl _) ?_, rfl, q ys _ g2 g3 (I1.hok.fresh (Nat.le_refl _))⟩
  exact ⟨hlen, ((arrOf st').map (·.2)).toList, ep, vals_of_strs g1, by rw [Array.toArray_toList]; exact he'⟩
/-- list(text) -/
def rListT : List V → Hp → VK → Prop := fun vs H Q => ∃ z : Str, vs = [.str z] ∧ z.length ≤ sizeLine ∧ ∀ p : Addr, H p = none → Q (.ref p) (upd H p (.lst ((sg z).map V.str)))
theorem cr_listT (hcm : X.calm = true) : CallR X (.type "list") rListT := by
  intro pins s σ H xs us Q I r h
  obtain ⟨z, rfl, hz, q⟩ := h
  obtain ⟨u, rfl, t, rfl⟩ := vals1 r
  refine call_list_str (I.ok.hd hcm) z t (fun h' tk acc c' hk hS' hit => ?_) hz
  refine ⟨.ref _, upd H s.heap.objs.size (.lst ((sg z).map V.str)), I.laid hk (Nat.le_refl _) ?_, rfl, q _ (I.hok.fresh (Nat.le_refl _))⟩
  exact ⟨by rw [List.length_map, sg_len]; exact hz, acc.toList, c', vals_of_strs (signs_are hit), by rw [Array.toArray_toList]; exact hS'⟩
/-- text * n -/
def repS (z : Str) (n : Nat) : Str := ⟨((List.replicate n z.cps.toList).flatten).toArray⟩
theorem foldl_app : ∀ (n : Nat) (a b : Array Nat), ((List.replicate n a).foldl (· ++ ·) b).toList = b.toList ++ (List.replicate n a.toList).flatten
  | 0, a, b => by simp
  | n + 1, a, b => by
    rw [List.replicate_succ, List.foldl_cons, foldl_app n, List.replicate_succ, List.flatten_cons, Array.toList_append, List.append_assoc]
theorem repS_len (z : Str) (k : Nat) : (repS z k).length = z.length * k := by
  show ((List.replicate k z.cps.toList).flatten).toArray.size = z.cps.size * k
  rw [List.size_toArray, List.length_flatten, List.map_replicate, List.sum_replicate_nat, Array.length_toList, Nat.mul_comm]
def rRepS : R2 := fun x y H Q => ∃ (z : Str) (k : Nat), x = .str z ∧ y = .int (k : Int) ∧ z.length * k ≤ 1000000 ∧ k ≤ 1000000 ∧ Q (.str (repS z k)) H
theorem op_repS : OpR X (binaryOp .Mult) rRepS := by
  intro pins s σ H x y v u Q I rx ry h
  obtain ⟨z, k, rfl, rfl, hz, hk, q⟩ := h
  obtain ⟨t, rfl⟩ := rx
  obtain ⟨t', rfl⟩ := ry
  refine PySem.P.mul_str ?_ ?_ ?_ ?_
  · rw [decide_eq_false (by omega), decide_eq_false (by omega)]
    rfl
  · intro h1 _
    have h0 : (0 : Int) < (k : Int) := by omega
    have h2 : ((z.length * k : Nat) : Int) ≤ 2 ^ 63 - 1 := by omega
    rw [Int.natCast_mul] at h2
    have h3 := (Int.le_ediv_iff_mul_le h0).mpr h2
    omega
  · intro _ _
    unfold Builtin.Str.tooLong
    rw [Int.toNat_natCast, sizeLine_eq]
    exact decide_eq_false (by omega)
  · by_cases h1 : (k : Int) < 1
    · rw [if_pos h1]
      have e : repS z k = Str.empty := by
        have : k = 0 := by omega
        subst this
        rfl
      rw [e] at q
      exact ⟨by decide, .str _, H, I.tok _, ⟨_, rfl⟩, q⟩
    · rw [if_neg h1]
      by_cases h2 : ((k : Int) == 1 || z.length == 0) = true
      · rw [if_pos h2]
        have e : repS z k = z := by
          rw [Bool.or_eq_true] at h2
          rcases h2 with h2 | h2
          · have h3 : (k : Int) = 1 := by simpa using h2
            have h4 : k = 1 := by omega
            subst h4
            unfold repS
            simp
          · have h3 : z.length = 0 := by simpa using h2
            have h4 : z.cps = #[] := Array.eq_empty_of_size_eq_zero h3
            unfold repS
            cases z with | mk zc =>
            simp only at h4
            subst h4
            simp
        rw [e] at q
        exact ⟨.str z, H, I, ⟨t, rfl⟩, q⟩
      · rw [if_neg h2]
        have e : (⟨(List.replicate (k : Int).toNat z.cps).foldl (· ++ ·) #[]⟩ : Str) = repS z k := by
          unfold repS
          rw [Int.toNat_natCast, ← Array.toArray_toList (xs := (List.replicate k z.cps).foldl (· ++ ·) #[]), foldl_app]
          rfl
        rw [e]
        have hl : (repS z k).length ≤ sizeLine := by
          rw [repS_len, sizeLine_eq]
          omega
        exact ⟨hl, .str _, H, I.tok _, ⟨_, rfl⟩, q⟩
/-- text[::-1] -/
def revS (z : Str) : Str := ⟨z.cps.toList.reverse.toArray⟩
theorem revS_len (z : Str) : (revS z).length = z.length := by
  show z.cps.toList.reverse.toArray.size = z.cps.size
  rw [List.size_toArray, List.length_reverse, Array.length_toList]
theorem rev_pick (z : Str) : (⟨((PySem.Builtin.Str.strSliceIndices none none (-1) z.length).filterMap (z.cps[·]?)).toArray⟩ : Str) = revS z := by
  unfold revS
  have e : PySem.Builtin.Str.strSliceIndices none none (-1) z.length = (List.range z.length).reverse := by
    rw [← PySem.W.krv_range, ← PySem.W.krv_sliceRange]
    rfl
  have e2 := PySem.W.krv_all z.cps
  rw [e, List.filterMap_reverse]
  show (⟨((List.range z.cps.size).filterMap (z.cps[·]?)).reverse.toArray⟩ : Str) = _
  rw [e2]
def tRevS (te : TE) : TE := fun σ H Q => te σ H fun x H1 => ∃ z : Str, x = .str z ∧ z.length ≤ sizeLine ∧ Q (.str (revS z)) H1
theorem pe_revS {e : Expr} {te : TE} {k : Nat} {p1 p2 p3 pos : Pos} (he : PE X e te) : PE X (.Subscript e (.Slice none none (some (.UnaryOp .USub (.Constant (.int 1) k p1) p2)) p3) pos) (tRevS te) := by
  refine ⟨fun pins s σ H Q I h => Subscript_ (thn (he.run pins s σ H _ I h) fun v s1 ⟨x, H1, I1, r1, z, ex, hz, q⟩ => ?_)⟩
  subst ex
  obtain ⟨t, rfl⟩ := r1
  have hst : PO X (some (.UnaryOp .USub (.Constant (.int 1) k p1) p2)) (tPart (tUn (rU fun i => .int (-i)) (tC (.int 1)))) := po_some (pe_un un_neg pe_int)
  refine wpAny_Slice (thn (po_none.run pins s1 σ H1 (fun o K2 => o = none ∧ K2 = H1) I1 ⟨rfl, rfl⟩) fun vl s2 ⟨l, H2, I2, pl, el, e2⟩ => ?_)
  subst el e2
  refine thn (po_none.run pins s2 σ H2 (fun o K3 => o = none ∧ K3 = H2) I2 ⟨rfl, rfl⟩) fun vu s3 ⟨u, H3, I3, pu, eu, e3⟩ => ?_
  subst eu e3
  refine thn (hst.run pins s3 σ H3 (fun o K4 => o = some (-1) ∧ K4 = H3) I3 ⟨1, rfl, -1, rfl, rfl, rfl⟩) fun vs s4 ⟨o, H4, I4, ps, eo, e4⟩ => ?_
  subst eo e4
  obtain ⟨l, rfl, hl⟩ := IsPart.raw pl
  obtain ⟨u, rfl, hu⟩ := IsPart.raw pu
  obtain ⟨st, rfl, hst'⟩ := IsPart.raw ps
  have I5 : Inv X pins σ H4 { s4 with heap := s4.heap.push { cls := .type "slice", data := .fields #[partValue l, partValue u, partValue st] } } := I4.kept (t' := s4.toks) fun b ob qq => Heap.get?_push_of_some _ qq
  show wpAny (model X.prog X.w) X.A (subscriptTail e (.Slice none none (some (.UnaryOp .USub (.Constant (.int 1) k p1) p2)) p3) (.str z t) (.ref s4.heap.objs.size)) (EP X pins σ Q) X.xe { s4 with heap := s4.heap.push { cls := .type "slice", data := .fields #[partValue l, partValue u, partValue st] } }
  refine tail_any (ops := [.ref s4.heap.objs.size, .str z t]) (T := "str") (typeIs_str _ _ _) F.slot_str_getitem.lookup ?_ (by with_unfolding_all rfl)
  refine wpAny_getItem_str_slice (l := l) (u := u) (st := st) (Heap.IsSliceOf.new ..) (by rw [hst']; decide) ?_
  have em : sliceMade z t l u st = .str (revS z) := by
    unfold sliceMade slicePicked
    rw [hst', hl, hu]
    rw [if_neg (by simp)]
    rw [← rev_pick z]
    rfl
  rw [em]
  exact ⟨by rw [revS_len]; exact hz, .str _, H4, I5.tok _, ⟨_, rfl⟩, q⟩
end
end HopR

set_option Elab.async false
set_option linter.all false
set_option maxRecDepth 100000
namespace HopR
open PySem PySem.Spec PyProof.Rows L2
/-! rows as lists of truths -/
def cd (b : Bool) : Nat := if b then 111 else 46
def tx (bs : List Bool) : Str := ⟨(bs.map cd).toArray⟩
theorem cd_inj {a b : Bool} (h : cd a = cd b) : a = b := by
  cases a <;> cases b <;> first | rfl | (exact absurd h (by decide))
theorem map_cd_inj : ∀ {as bs : List Bool}, as.map cd = bs.map cd → as = bs
  | [], [], _ => rfl
  | [], _ :: _, h => by simp at h
  | _ :: _, [], h => by simp at h
  | a :: r, b :: q, h => by
    rw [List.map_cons, List.map_cons] at h
    injection h with h1 h2
    rw [cd_inj h1, map_cd_inj h2]
theorem tx_inj {as bs : List Bool} (h : tx as = tx bs) : as = bs := by
  unfold tx at h
  injection h with h
  exact map_cd_inj (by simpa using congrArg Array.toList h)
theorem tx_len (bs : List Bool) : (tx bs).length = bs.length := by
  show (bs.map cd).toArray.size = bs.length
  rw [List.size_toArray, List.length_map]
theorem tx_list (bs : List Bool) : (tx bs).cps.toList = bs.map cd := rfl
theorem tx_get {bs : List Bool} {i : Nat} {b : Bool} (h : bs[i]? = some b) : (tx bs).cps[i]? = some (cd b) := by
  show (bs.map cd).toArray[i]? = some (cd b)
  rw [List.getElem?_toArray, List.getElem?_map, h]
  rfl
theorem ext_str {a b : Str} (h : a.cps.toList = b.cps.toList) : a = b := by
  cases a with | mk x =>
  cases b with | mk y =>
  have e : x = y := Array.toList_inj.mp h
  rw [e]
theorem tx_app (as bs : List Bool) : tx as ++ tx bs = tx (as ++ bs) := by
  apply ext_str
  show ((as.map cd).toArray ++ (bs.map cd).toArray).toList = (as ++ bs).map cd
  rw [Array.toList_append, List.map_append]
theorem tx_rev (bs : List Bool) : revS (tx bs) = tx bs.reverse := by
  unfold revS tx
  simp
theorem tx_sg (bs : List Bool) : sg (tx bs) = bs.map fun b => tx [b] := by
  unfold sg
  rw [tx_list, List.map_map]
  rfl
theorem tx_o : ("o" : Str) = tx [true] := by decide +kernel
theorem tx_f : ("." : Str) = tx [false] := by decide +kernel
/-- a row walked sign by sign: a turn's sign is the text of that place's truth -/
theorem walk_tx {bs : List Bool} : Walk (Its (tx bs)) bs.length (fun _ => True) (fun i H v H' => H' = H ∧ ∃ b, bs[i]? = some b ∧ v = .str (tx [b])) := by
  have w := walk_str (z := tx bs)
  rw [show (tx bs).cps.size = bs.length from tx_len bs] at w
  refine w.mono (fun _ g => g) fun i H x H' hi _ y => ?_
  obtain ⟨e1, c, e2, e3⟩ := y
  have hb : bs[i]? = some bs[i] := List.getElem?_eq_getElem hi
  rw [tx_get hb] at e2
  cases e2
  exact ⟨e1, _, hb, e3⟩
def for_tx {bs : List Bool} {g : TG} {tb : TS} {D : Ends} {σ : L2.St} {H : Hp} (Pv : Nat → L2.St → Hp → Prop) (h0 : Pv 0 σ H)
    (hs : ∀ i b σ H, bs[i]? = some b → Pv i σ H → g (.str (tx [b])) σ H fun σ2 H2 => tb { D with nx := Pv (i + 1), ct := Pv (i + 1), bk := D.nx } σ2 H2) (hd : ∀ σ H, Pv bs.length σ H → D.nx σ H) :=
  for_it (walk_tx (bs := bs)) (g := g) (tb := tb) (D := D) (σ := σ) (H := H) Pv h0 (fun _ _ _ _ _ => trivial)
    (fun i x σ H H' _ p y => by
      obtain ⟨e1, b, hb, e2⟩ := y
      subst e1 e2
      exact hs i b σ _ hb p) hd
def lc_tx {bs : List Bool} {g : TG} {tt : TT} {te : TE} {vs : List Nat} {σ : L2.St} {H1 : Hp} {D : Addr} {Qd : Hp → Prop} (Pv : Nat → Hp → Prop) (h0 : Pv 0 (upd H1 D (.lst [])))
    (hs : ∀ i b H, bs[i]? = some b → Pv i H → g (.str (tx [b])) (wipe σ vs) H fun σ2 H2 => wipe σ2 vs = wipe σ vs ∧ tt σ2 H2 fun kept H3 =>
      if kept = true then (te σ2 H3 fun y H4 => ∃ acc, H4 D = some (.lst acc) ∧ acc.length < sizeLine ∧ Pv (i + 1) (upd H4 D (.lst (acc ++ [y])))) else Pv (i + 1) H3)
    (hd : ∀ H, Pv bs.length H → Qd H) :=
  lc_it (walk_tx (bs := bs)) (g := g) (tt := tt) (te := te) (vs := vs) (σ := σ) (H1 := H1) (D := D) (Qd := Qd) Pv h0 (fun _ _ _ _ => trivial)
    (fun i x H H' _ p y => by
      obtain ⟨e1, b, hb, e2⟩ := y
      subst e1 e2
      exact hs i b _ hb p) hd
end HopR

set_option Elab.async false
set_option linter.all false
set_option maxRecDepth 100000
namespace HopR
open PySem PySem.Spec PyProof.Rows L2 TL
theorem joinL_nil : ∀ ps : List (List Nat), joinL [] ps = ps.flatten
  | [] => rfl
  | [p] => by
    show p = p ++ []
    rw [List.append_nil]
  | p :: q :: r => by
    show p ++ ([] ++ joinL [] (q :: r)) = p ++ (q :: r).flatten
    rw [List.nil_append, joinL_nil (q :: r)]
theorem join0_list (ys : List Str) : (Txt.join "" ys).cps.toList = (ys.map fun y => y.cps.toList).flatten := by
  have e : Txt.join "" ys = Str.join "" ys := PySem.StrLaws.glued_eq_join "" ys
  rw [e]
  have h := tl_join "" ys
  have h2 : tl ("" : Str) = [] := by decide +kernel
  rw [h2, joinL_nil] at h
  exact h
theorem join_tx (bs : List Bool) : Txt.join "" (bs.map fun b => tx [b]) = tx bs := by
  apply ext_str
  rw [join0_list, List.map_map, tx_list]
  induction bs with
  | nil => rfl
  | cons b r ih =>
    rw [List.map_cons, List.flatten_cons, ih]
    rfl
theorem sum_ones : ∀ bs : List Bool, ((bs.map fun b => tx [b]).map (·.length)).sum = bs.length
  | [] => rfl
  | b :: r => by
    rw [List.map_cons, List.map_cons, List.sum_cons, sum_ones r, tx_len]
    show 1 + r.length = r.length + 1
    omega
theorem join_fits {bs : List Bool} (h : bs.length ≤ 1000) : ((bs.map fun b => tx [b]).map (·.length)).sum + (bs.map fun b => tx [b]).length * ("" : Str).length ≤ 16777216 := by
  have e : ("" : Str).length = 0 := by decide +kernel
  rw [sum_ones, e, Nat.mul_zero]
  omega
theorem cut_tx (bs : List Bool) (lo hi : Option Int) : cutS (tx bs) lo hi = tx ((bs.drop (HT.sIx bs.length 0 lo)).take (HT.sIx bs.length bs.length hi - HT.sIx bs.length 0 lo)) := by
  apply ext_str
  unfold cutS
  rw [tx_len, tx_list, tx_list, List.map_take, List.map_drop]
theorem cut_to (bs : List Bool) (k : Nat) : cutS (tx bs) none (some (k : Int)) = tx (bs.take k) := by
  rw [cut_tx, HT.sIx_none, HT.sIx_nat, List.drop_zero, Nat.sub_zero]
  by_cases h : k ≤ bs.length
  · rw [Nat.min_eq_left h]
  · rw [Nat.min_eq_right (by omega), List.take_length, List.take_of_length_le (by omega)]
theorem cut_from (bs : List Bool) (k : Nat) : cutS (tx bs) (some (k : Int)) none = tx (bs.drop k) := by
  rw [cut_tx, HT.sIx_none, HT.sIx_nat]
  by_cases h : k ≤ bs.length
  · rw [Nat.min_eq_left h, List.take_of_length_le (by rw [List.length_drop]; exact Nat.le_refl _)]
  · rw [Nat.min_eq_right (by omega), List.drop_length, List.drop_of_length_le (by omega), List.take_nil]
theorem cut_at (bs : List Bool) (k m : Nat) : cutS (tx bs) (some (k : Int)) (some ((k : Int) + (m : Int))) = tx ((bs.drop k).take m) := by
  have e : ((k : Int) + (m : Int)) = ((k + m : Nat) : Int) := by omega
  rw [e, cut_tx, HT.sIx_nat, HT.sIx_nat]
  by_cases h : k ≤ bs.length
  · rw [Nat.min_eq_left h]
    by_cases h2 : k + m ≤ bs.length
    · rw [Nat.min_eq_left h2, Nat.add_sub_cancel_left]
    · rw [Nat.min_eq_right (by omega), List.take_of_length_le (by rw [List.length_drop]; exact Nat.le_refl _), List.take_of_length_le (by rw [List.length_drop]; omega)]
  · rw [Nat.min_eq_right (by omega), Nat.min_eq_right (by omega), List.drop_length, List.drop_of_length_le (by omega), List.take_nil, List.take_nil]
theorem cut_mid (bs : List Bool) (h : 2 ≤ bs.length) : cutS (tx bs) (some 1) (some (-1)) = tx ((bs.drop 1).take (bs.length - 2)) := by
  rw [cut_tx]
  have e1 : HT.sIx bs.length 0 (some 1) = 1 := by
    rw [show (some (1 : Int)) = some ((1 : Nat) : Int) from rfl, HT.sIx_nat]
    omega
  have e2 : HT.sIx bs.length bs.length (some (-1)) = bs.length - 1 := by
    show (if (-1 : Int) < 0 then ((-1 : Int) + (bs.length : Int)).toNat else min (-1 : Int).toNat bs.length) = bs.length - 1
    rw [if_pos (by decide)]
    omega
  rw [e1, e2]
  congr 2
/-! ### rows: walls, changes, the mirror -/
def ends (bs : List Bool) : List Bool := true :: (bs ++ [false])
theorem ends_len (bs : List Bool) : (ends bs).length = bs.length + 2 := by
  unfold ends
  rw [List.length_cons, List.length_append]
  rfl
def opn (bs : List Bool) (k : Nat) : Bool := decide (((ends bs).drop k).take 2 = [true, false])
def walls (bs : List Bool) : List Nat := (List.range (bs.length + 1)).filter (opn bs)
def bhd (bs : List Bool) (k : Nat) : List Bool := (ends bs).take k ++ [false] ++ [true] ++ (ends bs).drop (k + 2)
def chg (bs : List Bool) (k : Nat) : List Bool := ((bhd bs k).drop 1).take ((bhd bs k).length - 2)
def mir (bs : List Bool) : List Bool := bs.reverse.map (!·)
def num (bs : List Bool) : Int := bs.foldl (fun n b => n * 2 + (if b then 1 else 0)) 0
theorem mem_walls {bs : List Bool} {k : Nat} : k ∈ walls bs ↔ k ≤ bs.length ∧ opn bs k = true := by
  unfold walls
  rw [List.mem_filter, List.mem_range, Nat.lt_succ_iff]
theorem mir_len (bs : List Bool) : (mir bs).length = bs.length := by
  unfold mir
  rw [List.length_map, List.length_reverse]
theorem walls_len (bs : List Bool) : (walls bs).length ≤ bs.length + 1 := by
  unfold walls
  exact Nat.le_trans (List.length_filter_le _ _) (by rw [List.length_range]; exact Nat.le_refl _)
theorem bhd_len {bs : List Bool} {k : Nat} (h : k ≤ bs.length) : (bhd bs k).length = bs.length + 2 := by
  unfold bhd
  rw [List.length_append, List.length_append, List.length_append, List.length_take, List.length_drop, ends_len]
  show min k (bs.length + 2) + 1 + 1 + (bs.length + 2 - (k + 2)) = bs.length + 2
  omega
theorem chg_len {bs : List Bool} {k : Nat} (h : k ≤ bs.length) : (chg bs k).length = bs.length := by
  unfold chg
  rw [List.length_take, List.length_drop, bhd_len h]
  omega
end HopR

set_option Elab.async false
set_option linter.all false
set_option maxRecDepth 100000
namespace HopR
open PySem PySem.Spec PyProof.Rows L2
/-! ### defs that are called where no repr is under way -/
/-- the promise sp of the def at f, kept wherever it is called while no repr is under way -/
structure FnOkG (P : Program) (w : World) (K : PySem.W.Frag) (mg : Str → Option Value) (base : Heap) (CX : CXT) (k : Nat) (f : Addr) (fd : FuncData) (ps : List Str) (sp : Sp) : Prop where
  arity : ∀ {vs H Q E}, sp vs H Q E → vs.length = ps.length
  calls : ∀ {A : Around} {outer : List Env} {s : Shared} {H : Hp} {args : Args} {us : List Value} {vs : List V} {Q : VK} {E : XK}, A.guards = some [] → Room k A → Env0 P w K mg base A outer s H →
    BindsTo s fd args (ps.zip us) → Vals vs us → sp vs H Q E → codeAny (model P w) A (.call (.ref f) args) (CR CX outer P w H s Q E) s
section
variable {P : Program} {w : World} {K : PySem.W.Frag} {mg : Str → Option Value} {base : Heap}
theorem FnOkG.of {CX : CXT} {k : Nat} {f : Addr} {fd : FuncData} {ps : List Str} {sp : Sp} (F : FnOk P w K mg base CX k f fd ps sp) : FnOkG P w K mg base CX k f fd ps sp where
  arity h := F.len _ _ _ _ h
  calls _ room e0 bind vals prom := F.run _ _ _ _ _ _ _ _ _ room e0 bind vals prom
/-- what the body's end says to the caller -/
theorem ends_say {CX : CXT} {N : List Str} {qual : Str} {scope : Scope} {f : Addr} {cdv : Value} {A : Around} {outer : List Env} {s : Shared} {H : Hp} {Q : VK} {E : XK} {fl : Flow} {s' : Shared}
    (h : SP (cxOf CX P w K mg base N qual scope f cdv A outer s H E) [] { nx := fun _ H' => Q .non H', rt := Q } fl s') :
    match fl with | .ret u => CE outer P w H s Q u s' | .next => CE outer P w H s Q Value.none s' | _ => False := by
  match fl, h with
  | .ret u, ⟨v, σ', H', J, rv, g⟩ => exact ⟨v, H', J.os, J.bare, J.base, J.hok, rv, g⟩
  | .next, ⟨σ', H', J, g⟩ => exact ⟨V.non, H', J.os, J.bare, J.base, J.hok, rfl, g⟩
  | .brk, ⟨_, _, _, g⟩ => exact g
  | .cont, ⟨_, _, _, g⟩ => exact g
theorem okG {x qual : Str} {st : Stmt} {f : Addr} {fd : FuncData} {N ps : List Str} {k : Nat} {sp : Sp} (F : Fun K x qual st f fd) (S : FnScope N ps (defScope st)) (len : ∀ vs H Q E, sp vs H Q E → vs.length = ps.length)
    (body : ∀ (cdv : Value) (A : Around) (outer : List Env) (s : Shared) (H : Hp) (vs : List V) (Q : VK) (E : XK), A.guards = some [] → Room k (A.deeper (envOfC qual (defScope st) s.heap.objs.size f cdv)) → sp vs H Q E →
      ∃ t, PSs (cxOf CX0 P w K mg base N qual (defScope st) f cdv A outer s H E).nox (defBody st) t ∧ t { nx := fun _ H' => Q .non H', rt := Q } (start N vs) H) : FnOkG P w K mg base CX0 (k + 1) f fd ps sp where
  arity h := len _ _ _ _ h
  calls {A outer s H args us vs Q E} free room e0 bind vals prom := by
    obtain ⟨_, _, _, _, _, _, cdv, _, _, rfl, lk, code⟩ := F.ex
    have old : ∀ b o, base.get? b = some o → s.heap.get? b = some o := fun b o e => (e0.bs b o e).1
    have here := e0.mod.kin.keeps old
    obtain ⟨t, pr, rd⟩ := body cdv A outer s H vs Q E free (room.deeper _) prom
    have kinds : ∀ y ∈ ps.zip us, (defScope st).names.lookup y.1 = some .local ∨ ((defScope st).names.lookup y.1 = some .cell ∧ ((cellsFrom (s.heap.objs.size + 1) (defScope st).names []).lookup y.1).isSome = true) := by
      intro y hy
      have hp : y.1 ∈ ps := by
        obtain ⟨y1, y2⟩ := y
        exact (List.of_mem_zip hy).1
      exact (S.par _ hp).imp id fun g => ⟨g, PySem.W.cellsFrom_some _ _ _ (.inl g)⟩
    refine codeAny_call_function room.depth (here _ _ lk) rfl S.co S.gen rfl (PySem.W.codeRec_of here code) (bind _ _ _ _ ?_)
    refine wpAny_newFunctionEnv_cells S.kind kinds fun _ e s1 x => ?_
    cases e
    refine ⟨(e0.mod.nolimit.keeps old).keeps x.toInCall.keep, codeAny_func ?_⟩
    have run := pr.nox.run [] s1 _ H _ (inv_start S room.hd e0 (len _ _ _ _ prom) vals x) rd
    refine wpAny_mono run (fun fl s' h => ?_) fun _ _ z => z
    have said := ends_say h
    cases fl with
    | ret _ => exact said
    | next => exact said
    | brk => exact said.elim
    | cont => exact said.elim
end
section
variable {X : Cx} {CX : CXT} {k : Nat} {f : Addr} {fd : FuncData} {ps : List Str} {sp : Sp} {ds : List Value} {dvs : List V} {E : XK}
theorem after_call {pins : List (Addr × Obj)} {σ : L2.St} {H : Hp} {s : Shared} {Q : VK} (hx : Passes CX X E) (I : Inv X pins σ H s) {r : Except Value Flow} {s' : Shared} (h : CR CX X.stack X.prog X.w H s Q E r s') :
    match r with | .ok (.ret u) => EP X pins σ Q u s' | .ok _ => False | .error e => X.xe e s' := by
  match r, h with
  | .error e, h => exact hx pins σ H s e s' I h
  | .ok (.ret u), h => exact I.after h
  | .ok .next, h => exact h
  | .ok .brk, h => exact h
  | .ok .cont, h => exact h
variable {x : Str} {p pos : Pos} {e : Expr} {es : List Expr} {t : TA}
/-- f(e, ..) at a place where no repr is under way -/
theorem pe_callG (F : FnOkG X.prog X.w X.K X.mg X.base CX k f fd ps sp) (hG : X.A.guards = some []) (hr : Room k X.A) (hg : Gl X x) (hm : X.mg x = some (.ref f)) (hk : PySem.W.keepIn X.K (.ref f) = true) (hb : Binds X.K fd ps ds) (hd : Vals dvs ds) (hx : Passes CX X E)
    (ha : PA X (e :: es) t) (hdb : (x == ("__debug__" : Str)) = false := by decide)
    (he : starEach (e :: es) X.env = (false, eval e X.env) :: starEach es X.env := by rfl) (hpl : (backTo pos (starEach es X.env)).any (·.1) = false := by rfl) :
    PE X (.Call (.Name x p) (e :: es) [] pos) (tCall sp dvs E t) := by
  constructor
  intro pins s σ H Q I h
  refine wpAny_Call_Name_kw (ld_glob I hg hm (PySem.W.callWith_K (h₀ := X.base) I.ok.mod.kin hk (thn (ha.run pos pins s σ H _ I h) ?_) he hpl) hdb)
  rintro us s1 ⟨vs, H1, I1, vals, prom⟩
  have all := vals.append hd
  have size : (us ++ ds).length = ps.length := all.length.symm.trans (F.arity prom)
  refine ⟨I1.kIn, wpAny_call (codeAny_mono (F.calls hG hr I1.env0 (hb s1 us I1.kIn size) all prom) fun r s' h => ?_)⟩
  have := after_call hx I1 h
  cases r with
  | error e => exact this
  | ok fl => cases fl <;> exact this
/-! ### repr of data -/
def rReprD (K : PySem.W.Frag) : List V → Hp → VK → Prop := fun vs H Q => ∃ (v : V) (d : PyData), vs = [v] ∧ Dp K H v d ∧ d.showable = true ∧ d.hasDict = false ∧ d.depth ≤ 64 ∧ d.shown.length ≤ sizeLine ∧ Q (.str d.shown) H
theorem cr_reprD (hG : X.A.guards = some []) (hu : X.A.units + 66 < cLine) : CallR X (.builtin "repr") (rReprD X.K) := by
  rintro pins s σ H _ us Q I r ⟨v, d, rfl, hd, hs, hn, hdep, hz, q⟩
  obtain ⟨u, rfl, rv⟩ := vals1 r
  obtain ⟨as, rd⟩ := Dp.reads I d v u hd rv
  cases hd with
  | non =>
    cases rv
    exact P.repr_of_none ⟨.str _, H, I.tok _, ⟨_, rfl⟩, q⟩
  | bl b =>
    cases rv
    exact P.repr_of_bool ⟨.str _, H, I.tok _, ⟨_, rfl⟩, q⟩
  | int i =>
    obtain ⟨t, rfl⟩ := rv
    have hb : i.natAbs.log2 < 1920 := of_decide_eq_true (by simpa only [PyData.showable] using hs)
    exact P.repr_of_int hb ⟨.str _, H, I.tok _, ⟨_, rfl⟩, by simpa only [PyData.shown] using q⟩
  | str x =>
    obtain ⟨t, rfl⟩ := rv
    exact P.repr_of_str ⟨.str _, H, I.tok _, ⟨_, rfl⟩, by simpa only [PyData.shown] using q⟩ (by simpa only [PyData.shown] using hz)
  | lst h1 h2 =>
    cases rv
    exact repr_of_reads' rd hs (fun e => absurd (hn.symm.trans e) (by decide)) hG (by omega) (fun _ _ e => e) (fun h' t tk hk => ⟨.str _, H, I.kept hk, ⟨_, rfl⟩, q⟩) hz
  | tup h1 h2 =>
    cases rv
    exact repr_of_reads' rd hs (fun e => absurd (hn.symm.trans e) (by decide)) hG (by omega) (fun _ _ e => e) (fun h' t tk hk => ⟨.str _, H, I.kept hk, ⟨_, rfl⟩, q⟩) hz
end
/-! ### the end -/
section
variable (K : PySem.W.Frag) (a : Addr) (vs : List Value) (ns : List Int)
/-- the script as the heap has it -/
abbrev scrO : Obj := { cls := .type "list", data := .seq vs.toArray }
/-- tracked is the script alone, locked, and not even that where the top wrote it -/
def scrH : Hp := fun b => if b = a ∧ K.lookup a = none then some (.frz (scrO vs) (.lst (ns.map V.int))) else none
theorem scrH_or (b : Addr) : scrH K a vs ns b = none ∨ (b = a ∧ K.lookup a = none ∧ scrH K a vs ns b = some (.frz (scrO vs) (.lst (ns.map V.int)))) := by
  unfold scrH
  by_cases h : b = a ∧ K.lookup a = none
  · exact .inr ⟨h.1, h.2, if_pos h⟩
  · exact .inl (if_neg h)
theorem scrH_only : Only (scrH K a vs ns) := fun b => (scrH_or K a vs ns b).imp id fun ⟨_, _, e⟩ => ⟨_, _, e⟩
end
section
variable {P : Program} {w : World} {K : PySem.W.Frag} {a : Addr} {vs : List Value} {ns : List Int} {h : Heap}
theorem scrH_sq (kin : K.In h) (at_ : h.get? a = some (scrO vs)) (hi : IntsAre vs ns) (few : ns.length ≤ sizeLine) : SqL K (scrH K a vs ns) a (ns.map V.int) := by
  cases hk : K.lookup a with
  | none => exact .inl (.inr ⟨scrO vs, if_pos ⟨rfl, hk⟩⟩)
  | some o =>
    obtain rfl : o = scrO vs := Option.some.inj ((kin a o hk).symm.trans at_)
    exact .inr ⟨_, vs.toArray, _, hk, rfl, rfl, rfl, by rw [List.size_toArray, hi.length]; exact few, by simpa using vals_ints hi⟩
theorem scrH_ok (at_ : h.get? a = some (scrO vs)) (hi : IntsAre vs ns) (few : ns.length ≤ sizeLine) : HOk P w (scrH K a vs ns) h := by
  intro b u e
  rcases scrH_or K a vs ns b with n | ⟨rfl, _, y⟩
  · exact absurd (n.symm.trans e) (by simp)
  · cases y.symm.trans e
    refine ⟨at_, ?_, vs, _, vals_ints hi, at_⟩
    rw [List.length_map]
    exact few
/-- what isn't the script, and what the top wrote, stands also where the tracked is hidden -/
theorem scrH_base (at_ : h.get? a = some (scrO vs)) {b : Addr} {o : Obj} (e : h.get? b = some o) (q : o ≠ scrO vs ∨ K.lookup b ≠ none) : (hidT h (scrH K a vs ns)).get? b = some o := by
  refine hidT_get e ((scrH_or K a vs ns b).resolve_right ?_)
  rintro ⟨rfl, n, _⟩
  exact q.elim (fun z => z (Option.some.inj (e.symm.trans at_))) fun z => z n
theorem scrH_ns (at_ : h.get? a = some (scrO vs)) {b : Addr} {m : Str → Option Value} : h.Ns b m → (hidT h (scrH K a vs ns)).Ns b m := by
  rintro ⟨o, es, ep, e, dd, r⟩
  refine ⟨o, es, ep, scrH_base at_ e (.inl ?_), dd, r⟩
  rintro rfl
  exact absurd dd (by simp)
end
/-- a law whose promise holds where no repr is under way: nothing is, where it is called -/
theorem walk_ofG {l : PySem.W.OpenLaw} {n k : Nat} {q : Program} {loose : List Str} {XP : (Str → Option Value) → Heap → Prop} {YP : World → Heap → Prop} {d : DefRec} {K : Params → PySem.W.Frag} {sp : World → Sp} {x : Str}
    (most : l.most = some n) (few : n ≤ sizeLine) (plain : d.params.defaults = []) (room : Room k callerA) (top : ∀ (w : World) (h : Heap), YP w h → (K w.params).In h)
    (F : ∀ (w : World) (mg : Str → Option Value) (fa : Addr) (h : Heap), (K w.params).In h → h.Ns mainGlobals mg → mg d.name = some (.ref fa) →
      ∃ fd : FuncData, (∀ (s : Shared) (u : Value), BindsTo s fd ⟨[u], []⟩ [(x, u)]) ∧ ∀ base : Heap, (K w.params).In base → base.Ns mainGlobals mg → FnOkG l.prog w (K w.params) mg base CX0 k fa fd [x] (sp w))
    (prom : ∀ (w : World) (H : Hp) (a : Addr) (ns : List Int), ns.length ≤ n → (∀ z ∈ ns, Builtin.Int.intBits z ≤ 1048576) → Only H → SqL (K w.params) H a (ns.map V.int) → sp w [.ref a] H (fun v _ => v = .bl true) fun _ _ _ => False) :
    PySem.W.WalkO q loose XP YP l.row.toRowW d [] (fun f vs => PySem.call f vs) := by
  apply Att.attach_callB most plain
  intro w s₀ s₁ mg mb fa o pm cd doc a vs ns G Y _ _ _ hmg at_ isI size bits gens
  have kin := top w _ Y
  obtain ⟨fd, bind, hF⟩ := F w mg fa _ kin G.T.g hmg
  have few' := Nat.le_trans size few
  have ok : HOk l.prog w (scrH (K w.params) a vs ns) s₁.heap := scrH_ok at_ isI few'
  have kin' : (K w.params).In (hidT s₁.heap (scrH (K w.params) a vs ns)) := fun b o e => scrH_base at_ (kin b o e) (.inr (by rw [e]; simp))
  have g' := scrH_ns (K := K w.params) (ns := ns) at_ G.T.g
  obtain ⟨mc, lim1, lim2⟩ := G.T.nolimit
  have e0 : Env0 l.prog w (K w.params) mg (hidT s₁.heap (scrH (K w.params) a vs ns)) callerA [] s₁ (scrH (K w.params) a vs ns) :=
    ⟨rfl, ⟨kin', g', ⟨mb, scrH_ns at_ G.T.b, G.T.builtins⟩, ⟨mc, scrH_ns at_ lim1, lim2⟩⟩, fun _ _ => of_hidT, Nat.le_of_eq (hidT_size _ _), trivial, (by intro _ z; cases z), ok, AllBare.of_eq gens⟩
  refine codeAny_mono ((hF _ kin' g').calls (us := [.ref a]) (vs := [.ref a]) rfl room e0 (bind s₁ (.ref a)) (.cons rfl .nil) (prom w _ a ns size bits (scrH_only (K w.params) a vs ns) (scrH_sq kin at_ isI few'))) fun r s' h => ?_
  match r, h with
  | .error e, h => exact h.elim
  | .ok .next, h => exact h.elim
  | .ok .brk, h => exact h.elim
  | .ok .cont, h => exact h.elim
  | .ok (.ret u), ⟨v, H', os, bare, un, ok', rel, is⟩ =>
    have is : v = .bl true := is
    subst is
    cases (show u = Value.bool true from rel)
    refine ⟨rfl, OldK.of_keep ?_, os, bare⟩
    intro b o e
    rcases scrH_or (K w.params) a vs ns b with z | ⟨rfl, _, z⟩
    · exact un.keep b o e z (fun m => nomatch m) (by simp)
    · cases at_.symm.trans e
      exact (ok' _ _ (un.frzs _ _ _ z)).1
end HopR

set_option Elab.async false
set_option linter.all false
set_option maxRecDepth 100000
namespace HopR
open PySem PySem.Spec PyProof.Rows L2
theorem hu66 {A : Around} {k : Nat} (hr : Room k A) : A.units + 66 < cLine := by
  have := hr.un
  omega
/-! ### f(k = v, ..), no value by its place -/
section
variable {X : Cx} {CX : CXT} {k : Nat} {f : Addr} {fd : FuncData} {ps ks : List Str} {sp : Sp} {E : XK} {x : Str} {p pos : Pos} {kws : List Keyword} {tk : TA}
def tCallKw (m : Nat) (sp : Sp) (gV : List V → List V) (E : XK) (tk : TA) : TE := fun σ H Q => tk σ H fun zs H2 => zs.length = m ∧ sp (gV zs) H2 Q E
theorem pe_callKw {g : List Value → List Value} {gV : List V → List V} (F : FnOk X.prog X.w X.K X.mg X.base CX k f fd ps sp) (hr : Room k X.A) (hg : Gl X x) (hm : X.mg x = some (.ref f)) (hk : PySem.W.keepIn X.K (.ref f) = true)
    (hb : ∀ (s : Shared) (ws : List Value), X.K.In s.heap → ws.length = ks.length → BindsTo s fd ⟨[], ks.zip ws⟩ (ps.zip (g ws))) (hrel : ∀ {zs : List V} {ws : List Value}, Vals zs ws → Vals (gV zs) (g ws)) (hx : Passes CX X E) (hkw : PK X kws tk)
    (hall : (backToKw pos (keywordEach kws X.env)).all (·.1.isSome) = true := by rfl) (hks : (backToKw pos (keywordEach kws X.env)).filterMap (·.1) = ks := by rfl) (hdb : (x == ("__debug__" : Str)) = false := by decide)
    (hpl : ((backTo pos (starEach [] X.env)).any (·.1) || (backToKw pos (keywordEach kws X.env)).any (·.1.isNone)) = false := by rfl) :
    PE X (.Call (.Name x p) [] kws pos) (tCallKw ks.length sp gV E tk) := by
  refine ⟨fun pins s σ H Q I h => wpAny_Call_Name_kw (ld_glob I hg hm ?_ hdb)⟩
  refine PySem.W.callWith_KW0 (h₀ := X.base) I.ok.mod.kin hk hall (thn (hkw.run pos pins s σ H _ I h) fun ws s2 ⟨zs, H2, I2, rz, l2, q2⟩ => ⟨I2.kIn, ?_⟩) hpl
  rw [hks]
  refine wpAny_call (codeAny_mono (F.run X.A X.stack s2 H2 ⟨[], ks.zip ws⟩ (g ws) (gV zs) Q E hr I2.env0 (hb s2 ws I2.kIn (rz.length.symm.trans l2)) (hrel rz) q2) fun r s' hq => ?_)
  match r, hq with
  | .error e, hq => exact hx pins σ H2 s2 e s' I2 hq
  | .ok (.ret u), hq => exact I2.after hq
  | .ok .next, hq => exact hq.elim
  | .ok .brk, hq => exact hq.elim
  | .ok .cont, hq => exact hq.elim
end
/-! ### lists of small numbers as data -/
def wv (k : Nat) : V := .int (k : Int)
def dw (k : Nat) : PyData := PyData.int (k : Int)
theorem dp_walls {K : PySem.W.Frag} {H : Hp} : ∀ ks : List Nat, DpAll K H (ks.map wv) (ks.map dw)
  | [] => .nil
  | k :: r => .cons (.int _) (dp_walls r)
theorem lay_dw : ∀ ks : List Nat, PyData.canLayAll0 (ks.map dw) = true
  | [] => rfl
  | k :: r => by
    rw [List.map_cons]
    simp only [PyData.canLayAll0, lay_dw r, Bool.and_true]
    rfl
theorem deep_dw : ∀ ks : List Nat, PyData.depthAll (ks.map dw) = 0
  | [] => rfl
  | k :: r => by
    rw [List.map_cons]
    simp only [PyData.depthAll, deep_dw r]
    rfl
theorem shaped_ints (ks : List Nat) : SeqAt.shaped (.list (ks.map dw)) = true := by
  unfold SeqAt.shaped
  rw [Bool.and_eq_true]
  refine ⟨?_, decide_eq_true ?_⟩
  · simp only [PyData.canLay0, lay_dw]
  · simp only [PyData.depth, deep_dw]
    decide
theorem show_dw : ∀ ks : List Nat, (∀ k ∈ ks, k ≤ 30) → PyData.showableAll (ks.map dw) = true
  | [], _ => rfl
  | k :: r, h => by
    have hk := h k (List.mem_cons_self ..)
    have e : PyData.showable (dw k) = true := by
      show decide ((k : Int).natAbs.log2 < 1920) = true
      refine decide_eq_true (Nat.lt_of_le_of_lt (Nat.log2_le_self _) ?_)
      show k < 1920
      omega
    rw [List.map_cons]
    simp only [PyData.showableAll, e, show_dw r fun q hq => h q (List.mem_cons_of_mem _ hq), Bool.and_true]
theorem nodict_dw : ∀ ks : List Nat, PyData.hasDictAll (ks.map dw) = false
  | [] => rfl
  | k :: r => by
    rw [List.map_cons]
    simp only [PyData.hasDictAll, nodict_dw r, Bool.or_false]
    rfl
theorem text30 : ∀ k < 31, (PyData.shown (dw k)).length ≤ 2 := by decide +kernel
theorem shown_len : ∀ ks : List Nat, (∀ k ∈ ks, k ≤ 30) → ((PyData.shownAll (ks.map dw)).map (·.length)).sum ≤ 2 * ks.length ∧ (PyData.shownAll (ks.map dw)).length = ks.length
  | [], _ => ⟨Nat.le_refl _, rfl⟩
  | k :: r, h => by
    obtain ⟨h1, h2⟩ := shown_len r fun q hq => h q (List.mem_cons_of_mem _ hq)
    have hk := text30 k (by have := h k (List.mem_cons_self ..); omega)
    rw [List.map_cons]
    simp only [PyData.shownAll, List.map_cons, List.sum_cons, List.length_cons]
    omega
theorem ints_show {ks : List Nat} (h : ∀ k ∈ ks, k ≤ 30) (hl : ks.length ≤ 1000) : (PyData.list (ks.map dw)).showable = true ∧ (PyData.list (ks.map dw)).hasDict = false ∧ (PyData.list (ks.map dw)).depth ≤ 64 ∧ (PyData.list (ks.map dw)).shown.length ≤ sizeLine := by
  obtain ⟨h1, h2⟩ := shown_len ks h
  refine ⟨?_, ?_, ?_, ?_⟩
  · simp only [PyData.showable, show_dw ks h]
  · simp only [PyData.hasDict, nodict_dw]
  · simp only [PyData.depth, deep_dw]
    decide
  · simp only [PyData.shown]
    have h3 := listText_len_le (PyData.shownAll (ks.map dw))
    rw [sizeLine_eq]
    omega
/-! ### the law's own words of walls and changes -/
theorem opn_eq {bs : List Bool} {k : Nat} (h : k ≤ bs.length) : opn bs k = ((decide (k = 0) || bs.getD (k - 1) false) && (decide (k = bs.length) || !bs.getD k true)) := by
  have hl := ends_len bs
  have e1 : (ends bs)[k]?.getD false = (decide (k = 0) || bs.getD (k - 1) false) := by
    unfold ends
    cases k with
    | zero => rfl
    | succ j =>
      rw [List.getElem?_cons_succ, List.getElem?_append_left (by omega), List.getD_eq_getElem?_getD]
      simp
  have e2 : (ends bs)[k + 1]?.getD true = (decide (k ≠ bs.length) && bs.getD k true) := by
    unfold ends
    rw [List.getElem?_cons_succ]
    by_cases hk : k = bs.length
    · subst hk
      rw [List.getElem?_append_right (Nat.le_refl _)]
      simp
    · rw [List.getElem?_append_left (by omega), List.getD_eq_getElem?_getD, decide_eq_true hk]
      rfl
  have e3 : opn bs k = (((ends bs)[k]?.getD false) && !((ends bs)[k + 1]?.getD true)) := by
    have g1 : (ends bs)[k]? = some (ends bs)[k] := List.getElem?_eq_getElem (by omega)
    have g2 : (ends bs)[k + 1]? = some (ends bs)[k + 1] := List.getElem?_eq_getElem (by omega)
    have g3 : ((ends bs).drop k).take 2 = [(ends bs)[k], (ends bs)[k + 1]] := by
      rw [List.drop_eq_getElem_cons (by omega), List.drop_eq_getElem_cons (by omega)]
      rfl
    unfold opn
    rw [g3, g1, g2]
    show decide ([(ends bs)[k], (ends bs)[k + 1]] = [true, false]) = ((ends bs)[k] && !(ends bs)[k + 1])
    cases (ends bs)[k] <;> cases (ends bs)[k + 1] <;> rfl
  rw [e3, e1, e2]
  by_cases hk : k = bs.length
  · simp [hk]
  · simp [hk]
def lbeh (bs : List Bool) (k : Nat) : List Bool := if k < bs.length then (if 0 < k then bs.set (k - 1) false else bs).set k true else (if 0 < k then bs.set (k - 1) false else bs)
theorem lbeh_len (bs : List Bool) (k : Nat) : (lbeh bs k).length = bs.length := by
  unfold lbeh
  split <;> split <;> simp
theorem chg_get {bs : List Bool} {k i : Nat} (h : k ≤ bs.length) (hi : i < bs.length) : (chg bs k)[i]? = some (if i + 1 = k then false else if i = k then true else bs[i]) := by
  have hl := ends_len bs
  have hb := bhd_len h
  have he : (ends bs)[i + 1]? = some bs[i] := by
    unfold ends
    rw [List.getElem?_cons_succ, List.getElem?_append_left hi, List.getElem?_eq_getElem hi]
  unfold chg
  rw [List.getElem?_take_of_lt (by rw [hb]; omega), List.getElem?_drop, Nat.add_comm 1 i]
  unfold bhd
  rw [List.append_assoc, List.append_assoc]
  by_cases h1 : i + 1 < k
  · rw [List.getElem?_append_left (by rw [List.length_take]; omega), List.getElem?_take_of_lt h1, he, if_neg (by omega), if_neg (by omega)]
  · rw [List.getElem?_append_right (by rw [List.length_take]; omega), List.length_take, Nat.min_eq_left (by omega)]
    by_cases h2 : i + 1 = k
    · rw [if_pos h2, h2, Nat.sub_self]
      rfl
    · rw [if_neg h2]
      by_cases h3 : i = k
      · rw [if_pos h3, show i + 1 - k = 1 by omega]
        rfl
      · rw [if_neg h3]
        obtain ⟨m, hm⟩ : ∃ m, i + 1 - k = m + 2 := ⟨i + 1 - k - 2, by omega⟩
        rw [hm]
        show ((ends bs).drop (k + 2))[m]? = some bs[i]
        rw [List.getElem?_drop, show k + 2 + m = i + 1 by omega, he]
theorem lbeh_eq {bs : List Bool} {k : Nat} (h : k ≤ bs.length) : lbeh bs k = chg bs k := by
  apply List.ext_getElem?
  intro i
  by_cases hi : i < bs.length
  · rw [chg_get h hi]
    unfold lbeh
    have g : bs[i]? = some bs[i] := List.getElem?_eq_getElem hi
    have inner : (if 0 < k then bs.set (k - 1) false else bs)[i]? = some (if i + 1 = k then false else bs[i]) := by
      by_cases hk : 0 < k
      · rw [if_pos hk, List.getElem?_set]
        by_cases e : k - 1 = i
        · rw [if_pos e, if_pos (by omega), if_pos (by omega)]
        · rw [if_neg e, if_neg (by omega), g]
      · rw [if_neg hk, if_neg (by omega), g]
    have il : (if 0 < k then bs.set (k - 1) false else bs).length = bs.length := by
      split <;> simp
    by_cases hk : k < bs.length
    · rw [if_pos hk, List.getElem?_set]
      by_cases e : k = i
      · rw [if_pos e, if_pos (by rw [il]; exact hk), if_neg (by omega), if_pos e.symm]
      · rw [if_neg e, inner]
        by_cases e2 : i + 1 = k
        · rw [if_pos e2, if_pos e2]
        · rw [if_neg e2, if_neg e2, if_neg (fun z => e z.symm)]
    · rw [if_neg hk, inner]
      by_cases e2 : i + 1 = k
      · rw [if_pos e2, if_pos e2]
      · rw [if_neg e2, if_neg e2, if_neg (by omega)]
  · rw [List.getElem?_eq_none (by rw [lbeh_len]; omega), List.getElem?_eq_none (by rw [chg_len h]; omega)]
end HopR

set_option Elab.async false
set_option linter.all false
set_option maxRecDepth 100000
namespace HopR
open PySem PySem.Spec PyProof.Rows L2
/-! ### an exception that is kept behind its suite -/
/-- the exception at a, of the class cls, its dict d, kept as a value -/
def ExH (cls : Value) (d : Option Addr) (a : Addr) : HO := .ext fun h => ∃ (oe : Obj) (vs : Array Value), h.get? a = some oe ∧ Zc cls d oe ∧ oe.data = .fields vs
theorem exH_ok {P : Program} {w : World} {H : Hp} {h : Heap} {a : Addr} {cls : Value} {d : Option Addr} {oe : Obj} {vs : Array Value} (e : h.get? a = some oe) (z : Zc cls d oe) (q : oe.data = .fields vs) : ObjOk P w H h a (ExH cls d a) :=
  ⟨⟨oe, vs, e, z, q⟩, ⟨oe, e⟩, fun _ _ ⟨o, v, q, r⟩ k => ⟨o, v, k o q, r⟩⟩
section
variable {X : Cx} {pins : List (Addr × Obj)} {σ σ0 : L2.St} {H H0 : Hp} {s sI : Shared} {a : Addr} {oe : Obj} {vs : Array Value} {o : HO}
/-- an object that came behind the entry is tracked from now on -/
theorem track (I : Inv X pins σ H s) (J : Inv X pins σ0 H0 sI) (hI : sI.heap.get? a = none) (hx : X.ex = []) (na : H a = none) (nL : a ≠ X.env.locals) (ha : s.heap.get? a = some oe) (hd : oe.data = .fields vs) (new : ObjOk X.prog X.w (upd H a o) s.heap a o) : Inv X pins σ (upd H a o) s := by
  have n0 : ∀ b u, X.s_0.heap.get? b = some u → b ≠ a := by
    intro b u e z
    subst z
    obtain ⟨u2, q⟩ := J.base.there b u e (by rw [hx]; exact fun z => nomatch z)
    rw [hI] at q
    cases q
  have nN : ∀ {b : Addr} {u : HO}, H b = some u → b ≠ a := fun e => ne_of_none e na
  have bs := I.base
  refine ⟨I.ok, I.os, I.bare, ⟨bs.keep, bs.slot, ?_, bs.there, ?_, ?_, ?_⟩, I.loc, I.cell, ?_, ?_, ?_, ?_, I.len⟩
  · intro b u e n q
    rw [upd_ne (n0 b u e)]
    exact bs.free b u e n q
  · intro b xs e
    have q := bs.tups b xs e
    rw [upd_ne (nN q)]
    exact q
  · intro b ob u e
    have q := bs.frzs b ob u e
    rw [upd_ne (nN q)]
    exact q
  · intro b ps e
    obtain ⟨m, q⟩ := bs.tbls b ps e
    exact ⟨m, by rw [upd_ne (nN q)]; exact q⟩
  · rw [upd_ne nL.symm]
    exact I.free
  · intro x c e
    have nc : c ≠ a := by
      intro z
      subst z
      obtain ⟨v, oc, e1, e2⟩ := I.cell x c e
      rw [ha] at e1
      cases e1
      rw [hd] at e2
      cases e2
    rw [upd_ne nc]
    exact I.freeC x c e
  · intro p hp
    have np : p.1 ≠ a := by
      intro z
      have q := (J.pin p hp).1
      rw [z, hI] at q
      cases q
    obtain ⟨e, n, r⟩ := I.pin p hp
    exact ⟨e, by rw [upd_ne np]; exact n, r⟩
  · intro b u e
    by_cases hb : b = a
    · subst hb
      rw [upd_same] at e
      cases e
      exact new
    · rw [upd_ne hb] at e
      refine (I.hok b u e).stay (fun c v _ q => q) (fun c q => ?_) (fun c xs q => ?_)
      · rw [upd_ne (nN q)]
        exact q
      · rw [upd_ne (nN q)]
        exact q
end
theorem fly_keeps {B h h' : Heap} {l : List Env} {a : Addr} {Z : Obj → Prop} (x : HandSPX.FlyingZ B l a Z h) (k : ∀ b o, h.get? b = some o → h'.get? b = some o) : HandSPX.FlyingZ B l a Z h' := by
  obtain ⟨x1, x2, x3, oe, vs, T, oT, ts, e1, e2, e3, e4, e5, e6, e7, e8, e9⟩ := x
  exact ⟨fun b o e => k b o (x1 b o e), x2, x3.of_keeps (fun b o e _ => ⟨o, k b o e, rfl⟩), oe, vs, T, oT, ts, k _ _ e1, e2, e3, e4, e5, e6, k _ _ e7, e8, e9⟩
/-- the clause's test takes the exceptions whose class has m -/
def Tests (X : Cx) (t : Expr) (m : Value → Prop) : Prop :=
  ∀ (a : Addr) (oe : Obj) (pn pins : List (Addr × Obj)) (σ : L2.St) (H : Hp) (s : Shared) (cls : Value) (Q : Value → Shared → Prop) (E : Value → Shared → Prop), Inv (X.suite a ((a, oe) :: pn)) pins σ H s → s.heap.get? a = some oe → oe.cls = cls → m cls →
    (∀ (c : Value) (h' : Heap), (∀ b o, s.heap.get? b = some o → h'.get? b = some o) → PySem.W.Looks (model X.prog X.w) h' (excMatches (.ref a) c) true → Q c { s with heap := h' }) → wpAny (model X.prog X.w) (X.A.mark (some (.ref a))) (eval t X.env) Q E s
theorem ld_nm {X : Cx} {x : Str} {c : Value} {pins : List (Addr × Obj)} {σ : L2.St} {H : Hp} {s : Shared} {Q : Value → Shared → Prop} {E : Value → Shared → Prop} {p : Pos} (I : Inv X pins σ H s) (hc : Names X x c) (q : Q c s) : wpAny (model X.prog X.w) X.A (eval (.Name x p) X.env) Q E s := by
  obtain ⟨g, nd, h | ⟨h1, h2, h3⟩⟩ := hc
  · exact ld_glob I g h q nd
  · exact ld_blt I g h1 h2 q h3 nd
theorem ty_looks {P : Program} {w : World} {h : Heap} {a : Addr} {oe : Obj} {cls : Value} (e : h.get? a = some oe) (c : oe.cls = cls) : PySem.W.Looks (model P w) h (typeOf (.ref a)) cls := by
  intro A Q E s k q
  exact wpAny_typeOf_ref (k _ _ e) (by rw [c]; exact q)
theorem tests_one {X : Cx} {x : Str} {c : Value} {p : Pos} (hc : Names X x c) : Tests X (.Name x p) fun cls => PySem.W.exmOne X.K cls c = some true := by
  intro a oe pn pins σ H s cls Q E I ha hcl hm k
  exact ld_nm (X := X.suite a ((a, oe) :: pn)) I hc (k c s.heap (fun _ _ z => z) (PySem.W.exm_one I.kIn (ty_looks ha hcl) hm))
theorem tests_two {X : Cx} {x1 x2 : Str} {c1 c2 : Value} {p1 p2 pos : Pos} {u} (h1 : Names X x1 c1) (h2 : Names X x2 c2) : Tests X (.Tuple [.Name x1 p1, .Name x2 p2] u pos) fun cls => PySem.W.exmAny X.K cls [c1, c2] = some true := by
  intro a oe pn pins σ H s cls Q E I ha hcl hm k
  refine wpAny_Tuple_spliced ?_
  refine Calls.spliced_cons (ld_nm (X := X.suite a ((a, oe) :: pn)) I h1 ?_)
  refine Calls.spliced_cons (ld_nm (X := X.suite a ((a, oe) :: pn)) I h2 (Calls.spliced_nil ⟨by show 2 ≤ sizeLine; decide, ?_⟩))
  have hk : ∀ b o, s.heap.get? b = some o → (s.heap.push { cls := .type "tuple", data := .seq [c1, c2].toArray }).get? b = some o := fun b o e => Heap.get?_push_of_some _ e
  refine k (.ref s.heap.objs.size) _ hk ?_
  exact PySem.W.exm_tup2 (fun b o e => hk b o (I.kIn b o e)) (ty_looks (hk _ _ ha) hcl) (Heap.get?_push_size _ rfl) hm
/-- what 'except .. as n: v = n' wishes of an exception of the body: it is taken, and kept in slot j; slot i, n's, is empty behind it -/
def wHeld (m : Value → Prop) (i j : Nat) (D : Ends) : WX := fun cls d σ H => m cls ∧ ∀ a, H a = none → D.nx (((σ.set i (some (.ref a))).set j (some (.ref a))).set i none) (upd H a (ExH cls d a))
section
variable {X : Cx} {n v : Str} {i j : Nat} {t : Expr} {m : Value → Prop} {body : List Stmt} {pos pos' p1 p2 p3 : Pos} {tb : WX → TS}
theorem ps_try_held (hs : X.stack = X.env :: X.outer) (hf : X.env.frame = some X.env.locals) (hN : X.N.Nodup) (hi : X.N[i]? = some n) (hj : X.N[j]? = some v) (hln : X.env.kindOf n = some .local) (hlv : X.env.kindOf v = some .local) (hx : X.ex = []) (ht : Tests X t m)
    (hb : ∀ (W : WX) (pn : List (Addr × Obj)) (xe : Value → Shared → Prop), Takes (X.tr pn xe) W → PassesOwn (model X.prog X.w) X.A X.env xe → PSs (X.tr pn xe) body (tb W))
    (hsu : ∀ (a : Addr) (oe : Obj) (pn : List (Addr × Obj)), PSs (X.suite a ((a, oe) :: pn)) [.Assign [.Name v p1] (.Name n p2) p3] (tAsg (tVar i) (gName j))) :
    PS X (.Try body [.ExceptHandler (some t) (some n) [.Assign [.Name v p1] (.Name n p2) p3] pos'] [] [] pos) (fun D σ H => tb (wHeld m i j D) D σ H) := by
  constructor
  intro pins s σ H D I h
  have ok := I.ok
  have frm : X.A.frames = some (X.env :: X.outer) := ok.frames.trans (congrArg some hs)
  have body_ := hb (wHeld m i j D) (X.pn ++ pins) (fun e s₁ => wpAny (model X.prog X.w) X.A (noteFrame e X.env) (fun _ s₂ => wpAny (model X.prog X.w) X.A (setFlight e none) (fun _ s₃ => wpAny (model X.prog X.w) X.A (handleBy e X.env [.ExceptHandler (some t) (some n) [.Assign [.Name v p1] (.Name n p2) p3] pos']) (SP X pins D) X.xe s₃) X.xe s₂) X.xe s₁) ?caught PassesOwn.looking
  · refine wpAny_Try_except (wpAny_mono (body_.run [] s σ H D (I.toTry _) h) ?_ fun _ _ z => z)
    intro f s1 hsp
    match f, hsp with
    | .next, ⟨σ', H', J', q⟩ => exact wpAny_execs_nil ⟨σ', H', J'.ofTry ok, q⟩
    | .brk, ⟨σ', H', J', q⟩ => exact ⟨σ', H', J'.ofTry ok, q⟩
    | .cont, ⟨σ', H', J', q⟩ => exact ⟨σ', H', J'.ofTry ok, q⟩
    | .ret u, ⟨v, σ', H', J', r, q⟩ => exact ⟨v, σ', H', J'.ofTry ok, r, q⟩
  case caught =>
    rintro u s' ⟨a, B, sI, pins', σ', H', cls, d, rfl, J', nb, up, sky, na, os, ag, hm, hk⟩
    have J : Inv X pins σ' H' sI := J'.ofTry ok
    have sk2 : Sky B (X.env :: X.outer) a (Zc cls d) X.env.locals s'.heap := hs ▸ sky
    show wpAny (model X.prog X.w) X.A (noteFrame (.ref a) X.env) _ _ _
    refine Sky.land Zc.steady frm hf sk2 fun h3 fl3 up3 => ?_
    have notF : ∀ {g : Heap}, HandSPX.FlyingZ B (X.env :: X.outer) a (Zc cls d) g → a ∉ frs (X.env :: X.outer) := by
      intro g fl hmem
      obtain ⟨o1, v1, e1, _, e3⟩ := fl.there
      obtain ⟨_, o2, e2, hn2⟩ := fl.2.2.1.mem hmem
      rw [e1] at e2
      cases e2
      exact hn2 _ e3
    have nfr := notF fl3
    have nL : a ≠ X.env.locals := by
      intro z
      exact nfr (List.mem_filterMap.mpr ⟨X.env, List.mem_cons_self, hf.trans (congrArg some z.symm)⟩)
    have nF : a ∉ X.fs := by
      intro z
      obtain ⟨e, he, q⟩ := List.mem_filterMap.mp z
      exact nfr (List.mem_filterMap.mpr ⟨e, List.mem_cons_of_mem _ he, q⟩)
    have nI : sI.heap.get? a = none := by
      cases e : sI.heap.get? a with
      | none => rfl
      | some o =>
        have q := nb a o e (by rw [hs]; exact nfr)
        rw [fl3.2.1] at q
        cases q
    obtain ⟨oe3, vs3, he3, hz3, hd3⟩ := fl3.there
    have J3 : Inv X pins σ' H' { s' with heap := h3 } := J.landed nb fl3.1 (up.trans up3) os ag
    refine wpAny_handleBy_cons (codeAny_handlers_test ?_) (fun q => nomatch q)
    refine ht a oe3 _ _ _ _ _ cls _ _ (J3.suite he3 hd3 na nL nF) he3 hz3.1 hm fun c h' kp lk => lk.here ?_
    refine codeAny_handlers_suite_as (HandSPX.lands_againZ (fly_keeps fl3 kp) fun h4 fl4 up4 => ?_)
    have upA : sI.heap.UpToSlots h4 := ((up.trans up3).trans (Heap.UpToSlots.of_keeps kp)).trans up4
    have J4 : Inv X pins σ' H' { s' with heap := h4 } := J.landed nb fl4.1 upA os ag
    obtain ⟨oe4, vs4, he4, hz4, hd4⟩ := fl4.there
    refine store_ok (X := X.suite a ((a, oe4) :: (X.pn ++ pins))) (v := .ref a) (J4.suite he4 hd4 na nL nF) hN hi (.inl hln) rfl (fun s5 S5 => ?_) (.inr hln)
    have hlen : i < σ'.length := by
      rw [J.len]
      exact (List.getElem?_eq_some_iff.mp hi).1
    refine wpAny_mono ((hsu a oe4 (X.pn ++ pins)).run [] s5 _ H' { nx := fun σ6 H6 => σ6 = (σ'.set i (some (.ref a))).set j (some (.ref a)) ∧ H6 = H', rt := fun _ _ => False } S5 ?_) (fun f s6 hsp => ?_) (fun _ _ z => False.elim z)
    · exact ⟨.ref a, by simp [hlen], rfl, rfl⟩
    match f, hsp with
    | .next, ⟨σ6, H6, S6, e6, e7⟩ =>
      subst e6 e7
      refine gone_ok (X := X.suite a ((a, oe4) :: (X.pn ++ pins))) S6 hN hi hln fun s7 S7 => ?_
      have ha7 := (S7.pin (a, oe4) (List.mem_append_left _ List.mem_cons_self)).1
      exact ⟨_, _, track (S7.unsuite ok) J nI hx na nL ha7 hd4 (exH_ok ha7 hz4 hd4), hk a na⟩
    | .brk, ⟨_, _, _, z⟩ => exact z.elim
    | .cont, ⟨_, _, _, z⟩ => exact z.elim
    | .ret u, ⟨_, _, _, _, _, z⟩ => exact z.elim
end
end HopR

set_option Elab.async false
set_option linter.all false
set_option maxRecDepth 100000
namespace HopR
open PySem PySem.Spec PyProof.Rows L2
/-! ### isinstance of a kept exception without a dict -/
section
variable {X : Cx}
theorem held_at {pins : List (Addr × Obj)} {σ : L2.St} {H : Hp} {s : Shared} {a D : Addr} (I : Inv X pins σ H s) (ha : H a = some (ExH (.ref D) none a)) : ∃ oe, PySem.W.InstAt s.heap a oe D none := by
  obtain ⟨⟨oe, vs, e, ⟨z1, z2⟩, q⟩, _, _⟩ := I.hok a _ ha
  obtain ⟨oc, od, oda, osl⟩ := oe
  dsimp only at z1 z2 q
  subst z1 z2 q
  exact ⟨_, e, rfl, rfl, trivial⟩
/-- isinstance(kept, c) -/
def rIsH (K : PySem.W.Frag) : List V → Hp → VK → Prop := fun xs H Q => ∃ (a D : Addr) (c : V) (cv : Value) (b : Bool), xs = [.ref a, c] ∧ H a = some (ExH (.ref D) none a) ∧ ExcC K D ∧ ClsV c cv ∧ PySem.W.kitOne K (.ref D) cv = some b ∧ Q (.bl b) H
theorem call_isH : CallR X (.builtin "isinstance") (rIsH X.K) := by
  rintro pins s σ H xs us Q I r ⟨a, D, c, cv, b, rfl, ha, C, kc, e, q⟩
  obtain ⟨u1, u2, rfl, r1, r2⟩ := vals2 r
  obtain rfl := kc.eq r2
  cases (show u1 = Value.ref a from r1)
  obtain ⟨oe, J⟩ := held_at I ha
  exact PySem.W.kia_one (PySem.W.handS_kitx_exc C.hg C.hk C.hs C.hd C.ha C.hn C.ht C.hm) I.kIn J e (fun z => nomatch z) fun tk => ⟨.bl b, H, I.tok tk, rfl, q⟩
/-- isinstance(kept, (c1, c2, ..)) -/
def rIsHT (K : PySem.W.Frag) : List V → Hp → VK → Prop := fun xs H Q => ∃ (a D tp : Addr) (cs : List V) (ws : List Value) (b : Bool), xs = [.ref a, .ref tp] ∧ H a = some (ExH (.ref D) none a) ∧ ExcC K D ∧ H tp = some (.tup cs) ∧ Paired ClsV cs ws ∧ PySem.W.kitAny K (.ref D) ws = some b ∧ Q (.bl b) H
theorem call_isHT : CallR X (.builtin "isinstance") (rIsHT X.K) := by
  rintro pins s σ H xs us Q I r ⟨a, D, tp, cs, ws, b, rfl, ha, C, ht, kc, e, q⟩
  obtain ⟨u1, u2, rfl, r1, r2⟩ := vals2 r
  cases (show u1 = Value.ref a from r1)
  cases (show u2 = Value.ref tp from r2)
  obtain ⟨oe, J⟩ := held_at I ha
  have hT : ObjOk X.prog X.w H s.heap tp (.tup cs) := I.hok tp _ ht
  obtain ⟨_, its, rv, ⟨oc, od, dt, osl⟩, g1, g2, n, g3⟩ := hT
  obtain rfl := ClsV.all kc rv
  simp only at g2 g3
  subst g2 g3
  exact PySem.W.kia_tup (PySem.W.handS_kitx_exc C.hg C.hk C.hs C.hd C.ha C.hn C.ht C.hm) I.kIn J g1 e (fun z => nomatch z) fun tk => ⟨.bl b, H, I.tok tk, rfl, q⟩
end
/-! ### things that are whole numbers or not -/
/-- x is of a built-in type that is no whole number's -/
def Odd (K : PySem.W.Frag) (H : Hp) (x : V) : Prop := ∃ t bI, TyX K H x t ∧ PySem.W.kitOne K t (.type "int") = some bI ∧ (bI = true → PySem.W.kitOne K t (.type "bool") = some true)
theorem odd_non {K : PySem.W.Frag} {H : Hp} : Odd K H .non := ⟨_, false, .base .non, kit_ty (by decide +kernel), fun z => nomatch z⟩
theorem odd_bl {K : PySem.W.Frag} {H : Hp} {b : Bool} : Odd K H (.bl b) := ⟨_, true, .base (.bl b), kit_ty (by decide +kernel), fun _ => kit_ty (by decide +kernel)⟩
theorem odd_str {K : PySem.W.Frag} {H : Hp} {z : Str} : Odd K H (.str z) := ⟨_, false, .base (.str z), kit_ty (by decide +kernel), fun z => nomatch z⟩
theorem odd_lst {K : PySem.W.Frag} {H : Hp} {a : Addr} {xs : List V} (e : H a = some (.lst xs)) : Odd K H (.ref a) := ⟨_, false, .base (.lst e), kit_ty (by decide +kernel), fun z => nomatch z⟩
theorem odd_tup {K : PySem.W.Frag} {H : Hp} {a : Addr} {xs : List V} (e : H a = some (.tup xs)) : Odd K H (.ref a) := ⟨_, false, .base (.tup e), kit_ty (by decide +kernel), fun z => nomatch z⟩
theorem odd_dK {K : PySem.W.Frag} {H : Hp} {a : Addr} {xs : List (Key × V)} (e : H a = some (.dK xs)) : Odd K H (.ref a) := ⟨_, false, .base (.dK e), kit_ty (by decide +kernel), fun z => nomatch z⟩
end HopR

set_option Elab.async false
set_option linter.all false
set_option maxRecDepth 100000
namespace HopR
open PySem L2
theorem same_upd {H : Hp} {p : Addr} {o : HO} (h : H p = none) : Same H (upd H p o) := fun b x e => by
  rw [upd_ne (ne_of_none e h)]
  exact e
theorem same_new {H H1 : Hp} {p : Addr} {o : HO} (h : H p = none) (s : Same H H1) : Same H (upd H1 p o) := fun b x e => by
  rw [upd_ne (ne_of_none e h)]
  exact s _ _ e
/-- a def of the text, its binding, where its name leads -/
structure Fn (K : PySem.W.Frag) (mg : Str → Option Value) (x : Str) (st : Stmt) (ps : List Str) (f : Addr) (fd : FuncData) : Prop where
  F : Fun K x x st f fd
  b : Binds K fd ps []
  g : mg x = some (.ref f)
end HopR

set_option Elab.async false
set_option linter.all false
set_option maxRecDepth 100000
namespace HopR
open PySem L2
/-! ### classes of refusals -/
theorem kit_own {K : PySem.W.Frag} {D C : Addr} {b : Bool} (ne : D ≠ C) (hd : PySem.W.hasDictIn K C = true) (ht : PySem.W.typeIn K (.ref C) = some (.type "type")) (h : PySem.W.subIn K (.ref D) (.ref C) = some b) : PySem.W.kitOne K (.ref D) (.ref C) = some b := by
  obtain ⟨cd, hc, _⟩ := PySem.W.any_some hd
  have e1 : ((Value.ref D == Value.ref C) = true) = False := by
    rw [eq_iff_iff]
    exact ⟨fun z => ne (Value.ref.inj (beq_iff_eq.mp z)), False.elim⟩
  have e2 : ((PySem.W.clsIn K C).isSome && PySem.W.typeIn K (.ref C) == some (.type "type")) = true := by rw [hc, ht] <;> rfl
  unfold PySem.W.kitOne
  rw [if_neg (by rw [e1]; exact id)]
  show (if ((PySem.W.clsIn K C).isSome && PySem.W.typeIn K (.ref C) == some (.type "type")) = true then PySem.W.subIn K (.ref D) (.ref C) else none) = some b
  rw [if_pos e2]
  exact h
theorem kit_me {K : PySem.W.Frag} {D : Addr} : PySem.W.kitOne K (.ref D) (.ref D) = some true := by
  unfold PySem.W.kitOne
  rw [if_pos (by simp)]
theorem kit_blt {K : PySem.W.Frag} {D : Addr} {T : String} {b : Bool} (m : PySem.W.kitMeta T = true) (h : PySem.W.subIn K (.ref D) (.type T) = some b) : PySem.W.kitOne K (.ref D) (.type T) = some b := by
  have e1 : ¬ ((Value.ref D == Value.type T) = true) := fun z => nomatch (beq_iff_eq.mp z)
  unfold PySem.W.kitOne
  rw [if_neg e1]
  show (if PySem.W.kitMeta T = true then PySem.W.subIn K (.ref D) (.type T) else none) = some b
  rw [if_pos m]
  exact h
theorem kitAny_cons {K : PySem.W.Frag} {t c : Value} {r : List Value} (h : PySem.W.kitOne K t c = some false) (q : PySem.W.kitAny K t r = some false) : PySem.W.kitAny K t (c :: r) = some false := by
  simp only [PySem.W.kitAny, h, q]
theorem kitAny_nil {K : PySem.W.Frag} {t : Value} : PySem.W.kitAny K t [] = some false := by simp only [PySem.W.kitAny]
theorem exmAny2 {K : PySem.W.Frag} {t c1 c2 : Value} {b1 b2 : Bool} (h1 : PySem.W.exmOne K t c1 = some b1) (h2 : PySem.W.exmOne K t c2 = some b2) : PySem.W.exmAny K t [c1, c2] = some (b1 || b2) := by
  simp only [PySem.W.exmAny, h1, h2, Bool.or_false]
/-- an own exception class, as its instances are made and asked -/
structure Xc (K : PySem.W.Frag) (D : Addr) (bm : List Value) (nw : String) : Prop where
  x : PySem.W.excIn K D bm nw = true
  k : PySem.W.keepIn K (.ref D) = true
  be : PySem.W.subIn K (.ref D) (.type "BaseException") = some true
  ty : PySem.W.typeIn K (.ref D) = some (.type "type")
  c : ExcC K D
abbrev bmV : List Value := [.type "ValueError", .type "Exception", .type "BaseException", .type "object"]
abbrev bmZ : List Value := [.type "ZeroDivisionError", .type "ArithmeticError", .type "Exception", .type "BaseException", .type "object"]
/-! ### things by their kind -/
theorem tyx_same {K : PySem.W.Frag} {H H' : Hp} {x : V} {t : Value} (s : Same H H') (ty : TyX K H x t) : TyX K H' x t := by
  cases ty with
  | base h =>
    cases h with
    | non => exact .base .non
    | bl x => exact .base (.bl x)
    | int i => exact .base (.int i)
    | str x => exact .base (.str x)
    | flt x => exact .base (.flt x)
    | lst e => exact .base (.lst (s _ _ e))
    | frz e => exact .base (.frz (s _ _ e))
    | tup e => exact .base (.tup (s _ _ e))
    | dK e => exact .base (.dK (s _ _ e))
    | dT e => exact .base (.dT (s _ _ e))
    | ins e a b c d f => exact .base (.ins (s _ _ e) a b c d f)
  | byt b => exact .byt b
  | set e => exact .set (s _ _ e)
  | kList e c => exact .kList e c
  | kTuple e c => exact .kTuple e c
  | kDict e c => exact .kDict e c
  | fTuple e => exact .fTuple (s _ _ e)
  | fDict e => exact .fDict (s _ _ e)
theorem odd_same {K : PySem.W.Frag} {H H' : Hp} {x : V} (s : Same H H') (h : Odd K H x) : Odd K H' x := by
  obtain ⟨t, b, ty, k⟩ := h
  exact ⟨t, b, tyx_same s ty, k⟩
/-- x is no text -/
def NoTxt (K : PySem.W.Frag) (H : Hp) (x : V) : Prop := ∃ t, TyX K H x t ∧ PySem.W.kitOne K t (.type "str") = some false
theorem notxt_non {K : PySem.W.Frag} {H : Hp} : NoTxt K H .non := ⟨_, .base .non, kit_ty (by decide +kernel)⟩
theorem notxt_bl {K : PySem.W.Frag} {H : Hp} {b : Bool} : NoTxt K H (.bl b) := ⟨_, .base (.bl b), kit_ty (by decide +kernel)⟩
theorem notxt_int {K : PySem.W.Frag} {H : Hp} {i : Int} : NoTxt K H (.int i) := ⟨_, .base (.int i), kit_ty (by decide +kernel)⟩
theorem notxt_lst {K : PySem.W.Frag} {H : Hp} {a : Addr} {xs : List V} (e : H a = some (.lst xs)) : NoTxt K H (.ref a) := ⟨_, .base (.lst e), kit_ty (by decide +kernel)⟩
theorem notxt_tup {K : PySem.W.Frag} {H : Hp} {a : Addr} {xs : List V} (e : H a = some (.tup xs)) : NoTxt K H (.ref a) := ⟨_, .base (.tup e), kit_ty (by decide +kernel)⟩
theorem notxt_dK {K : PySem.W.Frag} {H : Hp} {a : Addr} {xs : List (Key × V)} (e : H a = some (.dK xs)) : NoTxt K H (.ref a) := ⟨_, .base (.dK e), kit_ty (by decide +kernel)⟩
theorem notxt_same {K : PySem.W.Frag} {H H' : Hp} {x : V} (s : Same H H') (h : NoTxt K H x) : NoTxt K H' x := by
  obtain ⟨t, ty, k⟩ := h
  exact ⟨t, tyx_same s ty, k⟩
/-! ### signs in the written dict of both signs -/
/-- the sign is a bead or a free place -/
def okc (c : Nat) : Bool := decide (c = 111) || decide (c = 46)
theorem okc_cd (b : Bool) : okc (cd b) = true := by cases b <;> rfl
def keyText : Value → Option Str
  | .str s _ => some s
  | _ => none
theorem keyText_str {v : Value} {s : Str} (h : keyText v = some s) : ∃ t, v = .str s t := by
  cases v <;> simp [keyText] at h
  exact ⟨_, by rw [h]⟩
def keysAre (es : Array DictEntry) : Prop := es.toList.map (fun e => keyText e.key) = [some ("o" : Str), some ("." : Str)]
theorem sign_in {K : PySem.W.Frag} {d : Addr} {es : Array DictEntry} {n : Nat} (l : K.lookup d = some ⟨.type "dict", none, .dict es n, #[]⟩) (hk : keysAre es) (c : Nat) : ∃ r, PySem.W.nsIn K d ⟨#[c]⟩ = some r ∧ r.isSome = okc c := by
  unfold keysAre at hk
  obtain ⟨e1, e2, hes⟩ : ∃ e1 e2, es.toList = [e1, e2] := by
    have hl := congrArg List.length hk
    rw [List.length_map] at hl
    match h : es.toList, hl with
    | [e1, e2], _ => exact ⟨e1, e2, rfl⟩
  rw [hes] at hk
  obtain ⟨t1, k1⟩ := keyText_str (List.cons.inj hk).1
  obtain ⟨t2, k2⟩ := keyText_str (List.cons.inj (List.cons.inj hk).2).1
  have i1 : e1.key.isStr ⟨#[c]⟩ = decide (c = 111) := by
    rw [k1]
    by_cases h : c = 111
    · subst h
      show (("o" : Str) == ⟨#[111]⟩) = true
      decide +kernel
    · rw [decide_eq_false h]
      have : ¬ (("o" : Str) = ⟨#[c]⟩) := fun z => by
        have z2 := congrArg (fun q : Str => q.cps.toList) z
        have z3 : [111] = [c] := z2
        exact h (List.cons.inj z3).1.symm
      simp [Value.isStr, this]
  have i2 : e2.key.isStr ⟨#[c]⟩ = decide (c = 46) := by
    rw [k2]
    by_cases h : c = 46
    · subst h
      show (("." : Str) == ⟨#[46]⟩) = true
      decide +kernel
    · rw [decide_eq_false h]
      have : ¬ (("." : Str) = ⟨#[c]⟩) := fun z => by
        have z2 := congrArg (fun q : Str => q.cps.toList) z
        have z3 : [46] = [c] := z2
        exact h (List.cons.inj z3).1.symm
      simp [Value.isStr, this]
  have r1 : e1.refKey = false := by unfold DictEntry.refKey; rw [k1]
  have r2 : e2.refKey = false := by unfold DictEntry.refKey; rw [k2]
  unfold PySem.W.nsIn
  rw [l]
  simp only [hes, List.find?, i1, i2, List.any_cons, r1, r2, List.any_nil, Bool.or_false]
  unfold okc
  by_cases h1 : c = 111
  · simp [h1]
  · by_cases h2 : c = 46
    · simp [h2]
    · simp [h1, h2]
/-- x is no row: no text, or one that is too short, too long, or has another sign -/
def NotRow (K : PySem.W.Frag) (H : Hp) (x : V) : Prop := NoTxt K H x ∨ ∃ z : Str, x = .str z ∧ z.length ≤ 10000 ∧ (z.length = 0 ∨ 30 < z.length ∨ ∃ c ∈ z.cps.toList, okc c = false)
def NotWord (K : PySem.W.Frag) (H : Hp) (x : V) : Prop := NoTxt K H x ∨ ∃ z : Str, x = .str z ∧ z.length ≤ 10000 ∧ (30 < z.length ∨ ∃ c ∈ z.cps.toList, okc c = false)
theorem notrow_same {K : PySem.W.Frag} {H H' : Hp} {x : V} (s : Same H H') (h : NotRow K H x) : NotRow K H' x := h.imp (notxt_same s) id
theorem notword_same {K : PySem.W.Frag} {H H' : Hp} {x : V} (s : Same H H') (h : NotWord K H x) : NotWord K H' x := h.imp (notxt_same s) id
theorem notword_row {K : PySem.W.Frag} {H : Hp} {x : V} (h : NotWord K H x) : NotRow K H x := h.imp id fun ⟨z, e, l, q⟩ => ⟨z, e, l, .inr q⟩
end HopR

set_option Elab.async false
set_option linter.all false
set_option maxRecDepth 100000
namespace HopR
open PySem L2
/-! ### words: where they can be shortened, and to what -/
def shp (bs : List Bool) (i : Nat) : Bool := decide ((bs.drop i).take 2 = [true, false])
def plc (bs : List Bool) : List Nat := (List.range bs.length).filter (shp bs)
def shA (bs : List Bool) (k : Nat) : List Bool := bs.take (k + 1) ++ bs.drop (k + 2)
def shB (bs : List Bool) (k : Nat) : List Bool := bs.take k ++ bs.drop (k + 1)
theorem shp_split {bs : List Bool} {i : Nat} (h : shp bs i = true) : bs = bs.take i ++ true :: false :: bs.drop (i + 2) ∧ i + 2 ≤ bs.length := by
  have h := of_decide_eq_true h
  have e : bs.drop i = [true, false] ++ (bs.drop i).drop 2 := by
    conv => lhs; rw [← List.take_append_drop 2 (bs.drop i), h]
  rw [List.drop_drop] at e
  have hl := congrArg List.length e
  rw [List.length_drop, List.length_append, List.length_drop] at hl
  have hl2 : bs.length - i = 2 + (bs.length - (i + 2)) := hl
  refine ⟨?_, by omega⟩
  conv => lhs; rw [← List.take_append_drop i bs, e]
  rfl
theorem plc_shp {bs : List Bool} {k : Nat} (h : k ∈ plc bs) : shp bs k = true ∧ k < bs.length := ⟨(List.mem_filter.mp h).2, List.mem_range.mp (List.mem_filter.mp h).1⟩
theorem plc_few (bs : List Bool) : (plc bs).length ≤ bs.length := by
  refine Nat.le_trans (List.length_filter_le _ _) ?_
  rw [List.length_range]
  exact Nat.le_refl _
theorem shA_len {bs : List Bool} {k : Nat} (h : k + 2 ≤ bs.length) : (shA bs k).length + 1 = bs.length := by
  unfold shA
  rw [List.length_append, List.length_take, List.length_drop]
  omega
theorem shB_len {bs : List Bool} {k : Nat} (h : k + 2 ≤ bs.length) : (shB bs k).length + 1 = bs.length := by
  unfold shB
  rw [List.length_append, List.length_take, List.length_drop]
  omega
theorem shA_eq {bs : List Bool} {k : Nat} (h : k ∈ plc bs) : shA bs k = bs.take k ++ [true] ++ bs.drop (k + 2) := by
  obtain ⟨e, hl⟩ := shp_split (plc_shp h).1
  unfold shA
  have e2 : bs.take (k + 1) = bs.take k ++ [true] := by
    rw [List.take_add_one]
    congr 1
    rw [e, List.getElem?_append_right (by rw [List.length_take]; omega), List.length_take, show k - min k bs.length = 0 by omega]
    rfl
  rw [e2]
theorem shB_eq {bs : List Bool} {k : Nat} (h : k ∈ plc bs) : shB bs k = bs.take k ++ [false] ++ bs.drop (k + 2) := by
  obtain ⟨e, hl⟩ := shp_split (plc_shp h).1
  unfold shB
  rw [List.append_assoc]
  congr 1
  have e3 : bs.drop (k + 1) = false :: bs.drop (k + 2) := by
    have h1 : k + 1 < bs.length := by omega
    rw [List.drop_eq_getElem_cons h1]
    congr 1
    have h2 : bs[k + 1]? = some false := by
      rw [e, List.getElem?_append_right (by rw [List.length_take]; omega), List.length_take, show k + 1 - min k bs.length = 1 by omega]
      rfl
    rw [List.getElem?_eq_getElem h1] at h2
    exact Option.some.inj h2
  rw [e3]
  rfl
/-! ### words and other things -/
def isRowB (z : Str) : Bool := decide (1 ≤ z.length) && (decide (z.length ≤ 30) && z.cps.toList.all okc)
def isWordB (z : Str) : Bool := decide (z.length ≤ 30) && z.cps.toList.all okc
/-- whether x is a row -/
def RowB (K : PySem.W.Frag) (H : Hp) (x : V) (b : Bool) : Prop := (NoTxt K H x ∧ b = false) ∨ ∃ z : Str, x = .str z ∧ z.length ≤ 10000 ∧ b = isRowB z
/-- whether x is a word -/
def WordB (K : PySem.W.Frag) (H : Hp) (x : V) (b : Bool) : Prop := (NoTxt K H x ∧ b = false) ∨ ∃ z : Str, x = .str z ∧ z.length ≤ 10000 ∧ b = isWordB z
theorem wordB_same {K : PySem.W.Frag} {H H' : Hp} {x : V} {b : Bool} (s : Same H H') (h : WordB K H x b) : WordB K H' x b := h.imp (fun ⟨q, e⟩ => ⟨notxt_same s q, e⟩) id
theorem rowB_same {K : PySem.W.Frag} {H H' : Hp} {x : V} {b : Bool} (s : Same H H') (h : RowB K H x b) : RowB K H' x b := h.imp (fun ⟨q, e⟩ => ⟨notxt_same s q, e⟩) id
theorem okc_tx (bs : List Bool) : (tx bs).cps.toList.all okc = true := by
  rw [tx_list, List.all_map, List.all_eq_true]
  exact fun b _ => okc_cd b
theorem isWord_tx {bs : List Bool} (h : bs.length ≤ 30) : isWordB (tx bs) = true := by
  unfold isWordB
  rw [okc_tx, tx_len, decide_eq_true h]
  rfl
theorem isRow_tx {bs : List Bool} (h1 : 1 ≤ bs.length) (h : bs.length ≤ 30) : isRowB (tx bs) = true := by
  unfold isRowB
  rw [okc_tx, tx_len, decide_eq_true h, decide_eq_true h1]
  rfl
theorem len0 {z : Str} (h : z.length = 0) : z = "" := by
  apply ext_str
  have : z.cps = #[] := Array.eq_empty_of_size_eq_zero h
  rw [this]
  rfl
/-- as the program tells it: a row, or the text without signs -/
theorem isWord_or (z : Str) : isWordB z = (isRowB z || decide (z = "")) := by
  unfold isWordB isRowB
  by_cases h : z.length = 0
  · rw [len0 h]
    decide +kernel
  · have ne : ¬ z = "" := fun e => h (by rw [e]; decide +kernel)
    rw [decide_eq_false ne, decide_eq_true (show 1 ≤ z.length by omega)]
    simp
/-- a spot at which the word of bs can't be shortened -/
def BadSpot (K : PySem.W.Frag) (H : Hp) (y : V) (ks : List Nat) : Prop := Odd K H y ∨ ∃ i : Int, y = .int i ∧ ∀ k ∈ ks, i ≠ (k : Int)
theorem badspot_same {K : PySem.W.Frag} {H H' : Hp} {y : V} {ks : List Nat} (s : Same H H') (h : BadSpot K H y ks) : BadSpot K H' y ks := h.imp (odd_same s) id
theorem inV_in {ks : List Nat} {k : Nat} (h : k ∈ ks) : inV (wv k) (ks.map wv) = true := by
  unfold inV
  rw [List.any_eq_true]
  exact ⟨wv k, List.mem_map_of_mem h, by unfold wv eqV; simp⟩
theorem inV_no {ks : List Nat} {i : Int} (h : ∀ k ∈ ks, i ≠ (k : Int)) : inV (.int i) (ks.map wv) = false := by
  unfold inV
  rw [List.any_eq_false]
  intro x hx
  obtain ⟨k, hk, rfl⟩ := List.mem_map.mp hx
  unfold wv eqV
  simp
  have := h k hk
  omega
theorem flat_ks (ks : List Nat) : (ks.map wv).all flatV = true := by
  rw [List.all_eq_true]
  intro x hx
  obtain ⟨k, _, rfl⟩ := List.mem_map.mp hx
  rfl
theorem fit {m : Nat} (h : m ≤ 10000) : m ≤ sizeLine := Nat.le_trans h (by decide)
theorem fit' {m : Nat} (h : m ≤ 10000) : m < sizeLine := Nat.lt_of_le_of_lt h (by decide)
theorem tx_fit {bs : List Bool} (h : bs.length ≤ 10000) : (tx bs).length ≤ sizeLine := by
  rw [tx_len]
  exact fit h
theorem tx_nil : ("" : Str) = tx [] := by decide +kernel
theorem dec_str {a b : Str} {p : Prop} [Decidable p] (h : a = b ↔ p) : decide (V.str a = V.str b) = decide p := by
  by_cases q : p
  · rw [decide_eq_true q, decide_eq_true (by rw [h.mpr q])]
  · rw [decide_eq_false q, decide_eq_false fun z => q (h.mp (V.str.inj z))]
end HopR

set_option Elab.async false
set_option linter.all false
set_option maxRecDepth 100000
namespace HopR
open PySem L2
/-! ### the draws -/
def dval (left : Int) (k : Nat) (z : Int) : Int :=
  if (1000000000000000000 : Int) ≤ left then left % z
  else
    let small := left % 1000000000000000000
    let one := (small + 7 * (k : Int) + 1) * (48271 + 2 * (k : Int) * (k : Int)) % 2147483647
    let two := (small / 3 + 11 * (k : Int) + 5) * (39373 + 6 * (k : Int)) % 2147483629
    (one * two + one / 64) % z
def dleft (left : Int) (z : Int) : Int := if (1000000000000000000 : Int) ≤ left then left / z else left
def draws : Int → Nat → List Int → List Int
  | _, _, [] => []
  | left, k, z :: r => dval left k z :: draws (dleft left z) (k + 1) r
theorem draws_len : ∀ (zs : List Int) (c : Int) (k : Nat), (draws c k zs).length = zs.length
  | [], _, _ => rfl
  | z :: r, c, k => by
    show (draws (dleft c z) (k + 1) r).length + 1 = r.length + 1
    rw [draws_len r]
theorem dval_ok {c : Int} {k : Nat} {z : Int} (h : 0 < z) : 0 ≤ dval c k z ∧ dval c k z < z := by
  unfold dval
  split
  · exact ⟨Int.emod_nonneg _ (by omega), Int.emod_lt_of_pos _ h⟩
  · exact ⟨Int.emod_nonneg _ (by omega), Int.emod_lt_of_pos _ h⟩
theorem draws_ok : ∀ (zs : List Int) (c : Int) (k : Nat), (∀ z ∈ zs, 0 < z) → ∀ (i : Nat) (d z : Int), (draws c k zs)[i]? = some d → zs[i]? = some z → 0 ≤ d ∧ d < z
  | [], _, _, _, i, d, z, _, h => by simp at h
  | y :: r, c, k, hp, 0, d, z, h1, h2 => by
    have e1 : dval c k y = d := Option.some.inj h1
    have e2 : y = z := Option.some.inj h2
    subst e1 e2
    exact dval_ok (hp y (List.mem_cons_self ..))
  | y :: r, c, k, hp, i + 1, d, z, h1, h2 => draws_ok r _ _ (fun q hq => hp q (List.mem_cons_of_mem _ hq)) i d z h1 h2
/-- the size of a draw is one that is reckoned with -/
def SizeOk (z : Int) : Prop := 0 < z ∧ z < 18446744073709551616
def bits (cs : List Int) : List Bool := cs.map fun c => decide (c = 1)
theorem signs_rows : ∀ (ys : List Str), (∀ y ∈ ys, ∃ b, y = tx [b]) → ∃ bs : List Bool, ys = bs.map fun b => tx [b]
  | [], _ => ⟨[], rfl⟩
  | y :: r, h => by
    obtain ⟨b, e⟩ := h y (List.mem_cons_self ..)
    obtain ⟨bs, e2⟩ := signs_rows r fun z hz => h z (List.mem_cons_of_mem _ hz)
    exact ⟨b :: bs, by rw [e, e2]; rfl⟩
theorem dot_o (c : Int) (h0 : 0 ≤ c) (h2 : c < 2) : atI (".o" : Str).cps.toList c = some (cd (decide (c = 1))) := by
  have e : (".o" : Str).cps.toList = [46, 111] := by decide +kernel
  rw [e]
  rcases (show c = 0 ∨ c = 1 by omega) with rfl | rfl
  · decide
  · decide
/-- a row -/
def Row (bs : List Bool) : Prop := 1 ≤ bs.length ∧ bs.length ≤ 30
theorem row_size {bs : List Bool} (h : Row bs) : (tx bs).length ≤ sizeLine := tx_fit (Nat.le_trans h.2 (by decide))
theorem flat_rep {α : Type} (x : α) : ∀ m : Nat, (List.replicate m [x]).flatten = List.replicate m x
  | 0 => rfl
  | m + 1 => by
    rw [List.replicate_succ, List.flatten_cons, flat_rep x m]
    rfl
theorem rep_of (m : Nat) : repS "o." m = tx (List.replicate m [true, false]).flatten := by
  unfold repS tx
  have e : ("o." : Str).cps.toList = [true, false].map cd := by decide +kernel
  rw [e, List.map_flatten, List.map_replicate]
theorem rep_of_len (m : Nat) : (List.replicate m [true, false]).flatten.length = 2 * m := by
  rw [List.length_flatten, List.map_replicate, List.sum_replicate_nat]
  show m * 2 = 2 * m
  omega
def spDrawn (K : PySem.W.Frag) : Sp := fun vs H Q _ => ∃ (c : Int) (a : Addr) (zs : List Int), vs = [.int c, .ref a] ∧ SqL K H a (zs.map V.int) ∧ (∀ z ∈ zs, SizeOk z) ∧ zs.length ≤ 1000 ∧
  ∀ H' p, Same H H' → H p = none → H' p = some (.lst ((draws c 0 zs).map V.int)) → Q (.ref p) H'
def spCellH (K : PySem.W.Frag) : Sp := fun vs H Q _ => ∃ (a : Addr) (ns : List Int) (k : Nat), vs = [.ref a, .int (k : Int)] ∧ SqL K H a (ns.map V.int) ∧ ∀ c : Int, Q (.int c) H
def spLRow : Sp := fun vs H Q _ => ∃ (c : Int) (M : Nat), vs = [.int c, .int (M : Int)] ∧ 1 ≤ M ∧ M ≤ 30 ∧ ∀ H' bs, Same H H' → 1 ≤ bs.length → bs.length ≤ M → Q (.str (tx bs)) H'
end HopR

set_option Elab.async false
set_option linter.all false
set_option maxRecDepth 100000
namespace HopR
open PySem PySem.Spec PyProof.Rows L2
/-! ### numbers: // by any number but 0 -/
def CDivWN (_ j : Int) : Prop := j ≠ 0 ∧ j.natAbs.log2 < 9000
theorem op_fdivWN {X : Cx} : OpR X (binaryOp .FloorDiv) (rI CDivWN fun i j => .int (i.fdiv j)) := opI fun i j _ _ _ _ _ hc q => floordiv_int hc.1 q (.inl (PyProof.noPylong_of_log2 hc.2))
theorem gcd_fmod (a b : Int) : Int.gcd b (a.fmod b) = Int.gcd a b := by
  rw [Int.fmod_def, Int.mul_comm, Int.gcd_sub_mul_right_right, Int.gcd_comm]
theorem fmod_less (a : Int) {b : Int} (h : b ≠ 0) : (a.fmod b).natAbs < b.natAbs := by
  have h1 := Int.emod_nonneg a h
  have h2 := Int.emod_lt a h
  rw [Int.fmod_eq_emod]
  by_cases h3 : 0 ≤ b ∨ b ∣ a
  · rw [if_pos h3]
    omega
  · rw [if_neg h3]
    have h4 : a % b ≠ 0 := fun e => h3 (.inr (Int.dvd_of_emod_eq_zero e))
    have h5 : b < 0 := by
      refine Int.not_le.mp fun e => h3 (.inl e)
    omega
/-! ### fractions -/
theorem low_num {t b : Int} (h : b ≠ 0) : (t.fdiv (if b < 0 then -(Int.gcd t b : Int) else (Int.gcd t b : Int))) = (Rat.divInt t b).num := by
  have hd : ((Int.gcd t b : Nat) : Int) ∣ t := Int.gcd_dvd_left ..
  rw [Rat.num_divInt, Int.gcd_comm b t]
  by_cases hb : b < 0
  · rw [if_pos hb, Int.fdiv_eq_ediv_of_dvd (by rw [Int.neg_dvd]; exact hd), Int.ediv_neg, Int.sign_eq_neg_one_of_neg hb, Int.neg_one_mul, Int.neg_ediv_of_dvd hd]
  · have hb2 : 0 < b := by omega
    rw [if_neg hb, Int.fdiv_eq_ediv_of_dvd hd, Int.sign_eq_one_of_pos hb2, Int.one_mul]
theorem low_den {t b : Int} (h : b ≠ 0) : (b.fdiv (if b < 0 then -(Int.gcd t b : Int) else (Int.gcd t b : Int))) = ((Rat.divInt t b).den : Int) := by
  have hd : ((Int.gcd t b : Nat) : Int) ∣ b := Int.gcd_dvd_right ..
  rw [Rat.den_divInt, if_neg h, Int.gcd_comm b t]
  rw [Int.natCast_ediv]
  by_cases hb : b < 0
  · rw [if_pos hb, Int.fdiv_eq_ediv_of_dvd (by rw [Int.neg_dvd]; exact hd), Int.ediv_neg, Int.ofNat_natAbs_of_nonpos (by omega), Int.neg_ediv_of_dvd hd]
  · rw [if_neg hb, Int.fdiv_eq_ediv_of_dvd hd, Int.natAbs_of_nonneg (by omega)]
theorem gcd_pos {t b : Int} (h : b ≠ 0) : 0 < Int.gcd t b := Int.gcd_pos_of_ne_zero_right _ h
/-- both numbers of the fraction are below 2 ^ n -/
def Sz (n : Nat) (q : Rat) : Prop := q.num.natAbs < 2 ^ n ∧ q.den < 2 ^ n
theorem Sz.mono {n m : Nat} {q : Rat} (h : Sz n q) (hm : n ≤ m) : Sz m q := ⟨Nat.lt_of_lt_of_le h.1 (Nat.pow_le_pow_right (by decide) hm), Nat.lt_of_lt_of_le h.2 (Nat.pow_le_pow_right (by decide) hm)⟩
theorem sz_divInt {t b : Int} {n : Nat} (h : b ≠ 0) (ht : t.natAbs < 2 ^ n) (hb : b.natAbs < 2 ^ n) : Sz n (Rat.divInt t b) := by
  have g := gcd_pos (t := t) h
  constructor
  · rw [Rat.num_divInt]
    refine Nat.lt_of_le_of_lt (Int.natAbs_ediv_le_natAbs _ _) ?_
    rw [Int.natAbs_mul]
    rcases Int.lt_or_gt_of_ne h with h | h
    · rw [Int.sign_eq_neg_one_of_neg h]; simpa using ht
    · rw [Int.sign_eq_one_of_pos h]; simpa using ht
  · rw [Rat.den_divInt, if_neg h]
    exact Nat.lt_of_le_of_lt (Nat.div_le_self _ _) hb
theorem den_ne (q : Rat) : ((q.den : Nat) : Int) ≠ 0 := by
  have := q.den_nz
  omega
theorem pos_two (n : Nat) : 0 < 2 ^ n := Nat.pow_pos (by decide)
theorem two_lt {a b : Nat} {n : Nat} (ha : a < 2 ^ n) (hb : b < 2 ^ n) : a + b < 2 ^ (n + 1) := by
  rw [Nat.pow_succ]
  omega
theorem add_eq (q r : Rat) : q + r = Rat.divInt (q.num * r.den + r.num * q.den) ((q.den : Int) * (r.den : Int)) := by
  conv => lhs; rw [← Rat.num_divInt_den q, ← Rat.num_divInt_den r]
  exact Rat.divInt_add_divInt _ _ (den_ne q) (den_ne r)
theorem sub_eq (q r : Rat) : q - r = Rat.divInt (q.num * r.den - r.num * q.den) ((q.den : Int) * (r.den : Int)) := by
  conv => lhs; rw [← Rat.num_divInt_den q, ← Rat.num_divInt_den r]
  exact Rat.divInt_sub_divInt _ _ (den_ne q) (den_ne r)
theorem mul_eq (q r : Rat) : q * r = Rat.divInt (q.num * r.num) ((q.den : Int) * (r.den : Int)) := by
  conv => lhs; rw [← Rat.num_divInt_den q, ← Rat.num_divInt_den r]
  exact Rat.divInt_mul_divInt _ _
theorem div_eq (q r : Rat) : q / r = Rat.divInt (q.num * r.den) ((q.den : Int) * r.num) := by
  rw [Rat.div_def]
  conv => lhs; rw [← Rat.num_divInt_den q, ← Rat.num_divInt_den r]
  rw [Rat.inv_divInt]
  exact Rat.divInt_mul_divInt _ _
end HopR

set_option Elab.async false
set_option linter.all false
set_option maxRecDepth 100000
namespace HopR
open PySem PySem.Spec PyProof.Rows L2
/-! ### products, divided out crosswise -/
theorem mul_num (q r : Rat) : (q.num.fdiv (Int.gcd q.num (r.den : Int) : Int)) * (r.num.fdiv (Int.gcd r.num (q.den : Int) : Int)) = (q * r).num := by
  have h1 : ((Int.gcd q.num (r.den : Int) : Nat) : Int) ∣ q.num := Int.gcd_dvd_left ..
  have h2 : ((Int.gcd r.num (q.den : Int) : Nat) : Int) ∣ r.num := Int.gcd_dvd_left ..
  rw [Int.fdiv_eq_ediv_of_dvd h1, Int.fdiv_eq_ediv_of_dvd h2]
  show _ = (Rat.mul q r).num
  unfold Rat.mul
  rfl
theorem mul_den (q r : Rat) : ((q.den : Int).fdiv (Int.gcd r.num (q.den : Int) : Int)) * ((r.den : Int).fdiv (Int.gcd q.num (r.den : Int) : Int)) = ((q * r).den : Int) := by
  have h1 : ((Int.gcd q.num (r.den : Int) : Nat) : Int) ∣ (r.den : Int) := Int.gcd_dvd_right ..
  have h2 : ((Int.gcd r.num (q.den : Int) : Nat) : Int) ∣ (q.den : Int) := Int.gcd_dvd_right ..
  rw [Int.fdiv_eq_ediv_of_dvd h1, Int.fdiv_eq_ediv_of_dvd h2]
  show _ = ((Rat.mul q r).den : Int)
  unfold Rat.mul
  rfl
end HopR

set_option Elab.async false
set_option linter.all false
set_option maxRecDepth 100000
namespace HopR
open PySem PySem.Spec PyProof.Rows L2
/-! ### len, str and repr of objects of an own class; an attribute as a target -/
section
variable {X : Cx} {CX : CXT} {n : Nat} {C f : Addr} {fd : FuncData} {ps : List Str} {sp : Sp} {E : XK}
/-- a def called by a built-in that runs in the same frames -/
theorem call_at {A : Around} {pins : List (Addr × Obj)} {σ : L2.St} {H : Hp} {s : Shared} {Q : VK} {us : List Value} {vs : List V} (F : FnOk X.prog X.w X.K X.mg X.base CX n f fd ps sp) (room : Room n A) (frames : A.frames = X.A.frames) (bind : Binds X.K fd ps []) (lets : Passes CX X E)
    (I : Inv X pins σ H s) (vals : Vals vs us) (prom : sp vs H Q E) : wpAny (model X.prog X.w) A (call (.ref f) us) (EP X pins σ Q) X.xe s := by
  have I0 := I.env0
  have here : Env0 X.prog X.w X.K X.mg X.base A X.stack s H := { frames := frames.trans I0.frames, mod := I0.mod, bs := I0.bs, bsz := I0.bsz, funs := I0.funs, frf := I0.frf, hok := I0.hok, bare := I0.bare }
  have size := vals.length.symm.trans (F.len _ _ _ _ prom)
  have bound := bind s us I.kIn (by rw [List.append_nil]; exact size)
  rw [List.append_nil] at bound
  refine wpAny_call (codeAny_mono (F.run A X.stack s H ⟨us, []⟩ us vs Q E room here bound vals prom) fun r s' h => ?_)
  have said := after_call lets I h
  cases r with
  | error e => exact said
  | ok fl => cases fl <;> exact said
/-- one object of the class, and what its method promises of it -/
def rOwn1 (C : Addr) (sp : Sp) (E : XK) (R : V → Hp → VK → Prop) : List V → Hp → VK → Prop := fun xs H Q => ∃ a dx fs, xs = [.ref a] ∧ H a = some (.ins C dx fs) ∧ sp [.ref a] H (fun v H' => R v H' Q) E
def isLen : V → Hp → VK → Prop := fun v H Q => ∃ i : Int, v = .int i ∧ (0 ≤ i ∧ i < 2 ^ 63) ∧ Q (.int i) H
def isTxt : V → Hp → VK → Prop := fun v H Q => ∃ z : Str, v = .str z ∧ Q (.str z) H
/-- len(o) -/
theorem cr_lenOwn (len : PySem.W.findIn X.K (.ref C) "__len__" = some (some (.ref f))) (fn : PySem.W.isFn X.K (.ref f) = true) (F : FnOk X.prog X.w X.K X.mg X.base CX n f fd ps sp) (room : Room (n + 1) X.A) (bind : Binds X.K fd ps []) (lets : Passes CX X E) :
    CallR X (.builtin "len") (rOwn1 C sp E isLen) := by
  rintro pins s σ H _ us Q I r ⟨a, dx, fs, rfl, ha, prom⟩
  obtain ⟨u, rfl, rv⟩ := vals1 r
  cases rv
  obtain ⟨_, J, _⟩ := ins_get I.hok ha
  obtain ⟨od, J, _⟩ := J.look
  obtain ⟨m, F0⟩ := I.fr
  refine PySem.W.len_K F0 I.ok.mod.kin J len fn (thn (call_at F room.in1 rfl bind lets I (us := [.ref a]) (vs := [.ref a]) (.cons rfl .nil) prom) ?_)
  rintro w s' ⟨z, H', I', rz, i, rfl, hi, q⟩
  obtain ⟨t, rfl⟩ := rz
  exact ⟨hi, .int i, H', I'.tok _, ⟨_, rfl⟩, q⟩
/-- str(o) -/
theorem cr_strOwn (str : PySem.W.findIn X.K (.ref C) "__str__" = some (some (.ref f))) (fn : PySem.W.isFn X.K (.ref f) = true) (F : FnOk X.prog X.w X.K X.mg X.base CX n f fd ps sp) (room : Room (n + 2) X.A) (bind : Binds X.K fd ps []) (lets : Passes CX X E) :
    CallR X (.type "str") (rOwn1 C sp E isTxt) := by
  rintro pins s σ H _ us Q I r ⟨a, dx, fs, rfl, ha, prom⟩
  obtain ⟨u, rfl, rv⟩ := vals1 r
  cases rv
  obtain ⟨_, J, _⟩ := ins_get I.hok ha
  obtain ⟨od, J, _⟩ := J.look
  have un := room.un
  refine PySem.W.kso_call (by show X.A.units + 1 + 1 < cLine; omega) I.kIn J str fn (thn (call_at F room.in1.in1 rfl bind lets I (us := [.ref a]) (vs := [.ref a]) (.cons rfl .nil) prom) ?_)
  rintro w s' ⟨z, H', I', rz, y, rfl, q⟩
  obtain ⟨t, rfl⟩ := rz
  exact ⟨.str y, H', I', ⟨_, rfl⟩, q⟩
/-- repr(o) -/
theorem cr_reprOwn (rep : PySem.W.findIn X.K (.ref C) "__repr__" = some (some (.ref f))) (fn : PySem.W.isFn X.K (.ref f) = true) (F : FnOk X.prog X.w X.K X.mg X.base CX n f fd ps sp) (room : Room (n + 1) X.A) (bind : Binds X.K fd ps []) (lets : Passes CX X E) :
    CallR X (.builtin "repr") (rOwn1 C sp E isTxt) := by
  rintro pins s σ H _ us Q I r ⟨a, dx, fs, rfl, ha, prom⟩
  obtain ⟨u, rfl, rv⟩ := vals1 r
  cases rv
  obtain ⟨_, J, _⟩ := ins_get I.hok ha
  obtain ⟨od, J, _⟩ := J.look
  obtain ⟨m, F0⟩ := I.fr
  have un := room.un
  refine PySem.W.repr_K (by show X.A.units + 1 < cLine; omega) F0 I.ok.mod.kin J rep fn (thn (call_at F room.in1 rfl bind lets I (us := [.ref a]) (vs := [.ref a]) (.cons rfl .nil) prom) ?_)
  rintro w s' ⟨z, H', I', rz, y, rfl, q⟩
  obtain ⟨t, rfl⟩ := rz
  exact ⟨.str y, H', I', ⟨_, rfl⟩, q⟩
end
section
variable {X : Cx}
/-- o.f as a target: the field is put -/
def gFld (K : PySem.W.Frag) (to : TE) (f : Str) : TG := fun v σ H Q => to σ H fun o H1 => ∃ a C dx fs, o = .ref a ∧ H1 a = some (.ins C dx fs) ∧ Cls K C ∧ NoAttr K C f ∧ fs.length < 1000 ∧ Q σ (upd H1 a (.ins C dx (putF f v fs)))
theorem pg_fld {o : Expr} {to : TE} {f : Str} {pos : Pos} (ho : PE X o to) : PG X (.Attribute o f pos) (gFld X.K to f) := by
  constructor
  intro pins s σ H v u Q I r h
  rw [assign_Attribute]
  refine wpAny_bind (wpAny_holding (thn (ho.run pins s σ H _ I h) ?_))
  rintro ov s1 ⟨x, H1, I1, rx, a, C, dx, fs, rfl, ea, c, na, few, q⟩
  cases rx
  refine wpAny_bind (wpAny_standAt (wpAny_bind (wpAny_holding (setattr_ok I1 ea c na few r fun s2 I2 => ?_))))
  exact wpAny_release ⟨σ, _, I2, q⟩
end
end HopR

set_option Elab.async false
set_option linter.all false
set_option maxRecDepth 100000
namespace HopR
open PySem PySem.Spec PyProof.Rows L2
open Builtin Builtin.Str Builtin.Int
/-! ### f"{n:b}" for n to 100 -/
/-- the figures of n by twos -/
def binText (n : Nat) : Str := ⟨((Nat.toDigits 2 n).map Char.toNat).toArray⟩
set_option maxHeartbeats 8000000 in
theorem gives_b : ∀ (n : Nat) (t u : Tok), n < 101 → Gives («int.__format__» ⟨[.int (n : Int) t, .str "b" u], []⟩) (.str (binText n))
  | 0, _, _, _ => .of_eq rfl
  | 1, _, _, _ => .of_eq rfl
  | 2, _, _, _ => .of_eq rfl
  | 3, _, _, _ => .of_eq rfl
  | 4, _, _, _ => .of_eq rfl
  | 5, _, _, _ => .of_eq rfl
  | 6, _, _, _ => .of_eq rfl
  | 7, _, _, _ => .of_eq rfl
  | 8, _, _, _ => .of_eq rfl
  | 9, _, _, _ => .of_eq rfl
  | 10, _, _, _ => .of_eq rfl
  | 11, _, _, _ => .of_eq rfl
  | 12, _, _, _ => .of_eq rfl
  | 13, _, _, _ => .of_eq rfl
  | 14, _, _, _ => .of_eq rfl
  | 15, _, _, _ => .of_eq rfl
  | 16, _, _, _ => .of_eq rfl
  | 17, _, _, _ => .of_eq rfl
  | 18, _, _, _ => .of_eq rfl
  | 19, _, _, _ => .of_eq rfl
  | 20, _, _, _ => .of_eq rfl
  | 21, _, _, _ => .of_eq rfl
  | 22, _, _, _ => .of_eq rfl
  | 23, _, _, _ => .of_eq rfl
  | 24, _, _, _ => .of_eq rfl
  | 25, _, _, _ => .of_eq rfl
  | 26, _, _, _ => .of_eq rfl
  | 27, _, _, _ => .of_eq rfl
  | 28, _, _, _ => .of_eq rfl
  | 29, _, _, _ => .of_eq rfl
  | 30, _, _, _ => .of_eq rfl
  | 31, _, _, _ => .of_eq rfl
  | 32, _, _, _ => .of_eq rfl
  | 33, _, _, _ => .of_eq rfl
  | 34, _, _, _ => .of_eq rfl
  | 35, _, _, _ => .of_eq rfl
  | 36, _, _, _ => .of_eq rfl
  | 37, _, _, _ => .of_eq rfl
  | 38, _, _, _ => .of_eq rfl
  | 39, _, _, _ => .of_eq rfl
  | 40, _, _, _ => .of_eq rfl
  | 41, _, _, _ => .of_eq rfl
  | 42, _, _, _ => .of_eq rfl
  | 43, _, _, _ => .of_eq rfl
  | 44, _, _, _ => .of_eq rfl
  | 45, _, _, _ => .of_eq rfl
  | 46, _, _, _ => .of_eq rfl
  | 47, _, _, _ => .of_eq rfl
  | 48, _, _, _ => .of_eq rfl
  | 49, _, _, _ => .of_eq rfl
  | 50, _, _, _ => .of_eq rfl
  | 51, _, _, _ => .of_eq rfl
  | 52, _, _, _ => .of_eq rfl
  | 53, _, _, _ => .of_eq rfl
  | 54, _, _, _ => .of_eq rfl
  | 55, _, _, _ => .of_eq rfl
  | 56, _, _, _ => .of_eq rfl
  | 57, _, _, _ => .of_eq rfl
  | 58, _, _, _ => .of_eq rfl
  | 59, _, _, _ => .of_eq rfl
  | 60, _, _, _ => .of_eq rfl
  | 61, _, _, _ => .of_eq rfl
  | 62, _, _, _ => .of_eq rfl
  | 63, _, _, _ => .of_eq rfl
  | 64, _, _, _ => .of_eq rfl
  | 65, _, _, _ => .of_eq rfl
  | 66, _, _, _ => .of_eq rfl
  | 67, _, _, _ => .of_eq rfl
  | 68, _, _, _ => .of_eq rfl
  | 69, _, _, _ => .of_eq rfl
  | 70, _, _, _ => .of_eq rfl
  | 71, _, _, _ => .of_eq rfl
  | 72, _, _, _ => .of_eq rfl
  | 73, _, _, _ => .of_eq rfl
  | 74, _, _, _ => .of_eq rfl
  | 75, _, _, _ => .of_eq rfl
  | 76, _, _, _ => .of_eq rfl
  | 77, _, _, _ => .of_eq rfl
  | 78, _, _, _ => .of_eq rfl
  | 79, _, _, _ => .of_eq rfl
  | 80, _, _, _ => .of_eq rfl
  | 81, _, _, _ => .of_eq rfl
  | 82, _, _, _ => .of_eq rfl
  | 83, _, _, _ => .of_eq rfl
  | 84, _, _, _ => .of_eq rfl
  | 85, _, _, _ => .of_eq rfl
  | 86, _, _, _ => .of_eq rfl
  | 87, _, _, _ => .of_eq rfl
  | 88, _, _, _ => .of_eq rfl
  | 89, _, _, _ => .of_eq rfl
  | 90, _, _, _ => .of_eq rfl
  | 91, _, _, _ => .of_eq rfl
  | 92, _, _, _ => .of_eq rfl
  | 93, _, _, _ => .of_eq rfl
  | 94, _, _, _ => .of_eq rfl
  | 95, _, _, _ => .of_eq rfl
  | 96, _, _, _ => .of_eq rfl
  | 97, _, _, _ => .of_eq rfl
  | 98, _, _, _ => .of_eq rfl
  | 99, _, _, _ => .of_eq rfl
  | 100, _, _, _ => .of_eq rfl
  | n + 101, _, _, h => False.elim (Nat.not_lt_of_le (Nat.le_add_left 101 n) h)
end HopR

set_option Elab.async false
set_option linter.all false
set_option maxRecDepth 100000
namespace HopR
open PySem PySem.Spec PyProof.Rows L2
def tFmtB (te : TE) : TE := fun σ H Q => te σ H fun x H1 => ∃ n : Nat, x = .int (n : Int) ∧ n < 101 ∧ Q (.str (binText n)) H1
theorem bin_small : ∀ n < 101, (binText n).length ≤ sizeLine := by decide +kernel
theorem len_b : (("b" : Str).length == 0) = false := by decide +kernel
theorem fit_b : ("b" : Str).length ≤ sizeLine := by decide +kernel
theorem field_b {prog : Program} {w : World} {A : Around} {E : Value → Shared → Prop} {s : Shared} {n : Nat} {t : Tok} {Q : Value → Shared → Prop} (hn : n < 101) (h : Q (.str (binText n) (s.toks + 1)) { s with toks := s.toks + 1 + 1 }) : wpAny (model prog w) A (formatField (.int (n : Int) t) "b") Q E s :=
  wpAny_formatField_spec (T := "int") (idf := "int.__format__") (B := PySem.Builtin.«int.__format__») (v := .int (n : Int) t) (sp := "b") (x := binText n) len_b (fun s' => typeIs_int s' (n : Int) t) PySem.F.slot_int_format PySem.F.entry_int_format PySem.F.args_int_format_2 (fun u => @gives_b n t u hn) h fit_b (bin_small n hn)
theorem pe_fmtB {X : Cx} {e : Expr} {te : TE} {pos p1 p2 : Pos} {k : Nat} (he : PE X e te) : PE X (.FormattedValue e (-1) (some (.JoinedStr [.Constant (.str "b") k p1] p2)) pos) (tFmtB te) := by
  constructor
  intro pins s σ H Q I h
  refine wpAny_FormattedValue_spec (thn (he.run pins s σ H _ I h) ?_)
  rintro v s1 ⟨x, H1, I1, rx, n, rfl, hn, q⟩
  obtain ⟨t, rfl⟩ := rx
  have js : PE X (.JoinedStr [.Constant (.str "b") k p1] p2) (tC (.str "b")) := pe_joined1 pe_str
  refine thn (js.run pins s1 σ H1 (fun y H2 => y = .str "b" ∧ H2 = H1) I1 ⟨rfl, rfl⟩) ?_
  rintro r s2 ⟨y, H2, I2, ry, rfl, rfl⟩
  obtain ⟨t2, rfl⟩ := ry
  exact ⟨_, t2, rfl, field_b hn ⟨.str (binText n), H2, I2.tok _, ⟨_, rfl⟩, q⟩⟩
end HopR

set_option Elab.async false
set_option linter.all false
set_option maxRecDepth 100000
namespace HopR
open PySem PySem.Spec PyProof.Rows L2
section
variable {X : Cx}
/-! ### x *= y, wide -/
def ipMulW : TIp := fun x y H Q => ∃ i j, x = .int i ∧ y = .int j ∧ CMulW i j ∧ Q (.int (i * j)) H
theorem ip_mulW : PIp X .Mult ipMulW := by
  intro pins s σ H x y v u Q I r1 r2 h
  obtain ⟨i, j, e1, e2, c, q⟩ := h
  subst e1; subst e2
  obtain ⟨t, rfl⟩ := r1
  obtain ⟨t', rfl⟩ := r2
  exact imul_int ⟨.int _, H, I.tok _, ⟨_, rfl⟩, q⟩ c.ok
/-! ### a body in a try whose exceptions are wished for by their class and heap alone -/
def tSome (W : WX) (tb : XK → TS) : TS := fun D σ H => ∃ E1 : XK, (∀ cls d σ' H', E1 cls d H' → W cls d σ' H') ∧ tb E1 D σ H
theorem pss_some {W : WX} {body : List Stmt} {tb : XK → TS} (h : ∀ E1 : XK, (∀ cls d σ' H', E1 cls d H' → W cls d σ' H') → PSs X body (tb E1)) : PSs X body (tSome W tb) :=
  ⟨fun pins s σ H D I ⟨E1, hW, q⟩ => (h E1 hW).run pins s σ H D I q⟩
end
/-! ### the figures of n by twos, from the left -/
def step2 (m c : Nat) : Nat := 2 * m + (if c = 49 then 1 else 0)
theorem bin_fold : ∀ n < 101, (binText n).cps.toList.foldl step2 0 = n := by decide +kernel
theorem step2_le : ∀ (cs : List Nat) (m : Nat), m ≤ cs.foldl step2 m
  | [], m => Nat.le_refl m
  | c :: r, m => by
    rw [List.foldl_cons]
    refine Nat.le_trans ?_ (step2_le r _)
    unfold step2
    omega
theorem bin_le {n i c : Nat} (hn : n < 101) (h : (binText n).cps[i]? = some c) : step2 (((binText n).cps.toList.take i).foldl step2 0) c = ((binText n).cps.toList.take (i + 1)).foldl step2 0 ∧ step2 (((binText n).cps.toList.take i).foldl step2 0) c ≤ n := by
  have e : ((binText n).cps.toList.take (i + 1)).foldl step2 0 = step2 (((binText n).cps.toList.take i).foldl step2 0) c := by
    have h2 : (binText n).cps.toList[i]? = some c := by
      rw [Array.getElem?_toList]
      exact h
    rw [List.take_add_one, h2, List.foldl_append]
    rfl
  refine ⟨e.symm, ?_⟩
  rw [← e]
  have := step2_le ((binText n).cps.toList.drop (i + 1)) (((binText n).cps.toList.take (i + 1)).foldl step2 0)
  rw [← List.foldl_append, List.take_append_drop, bin_fold n hn] at this
  exact this
theorem pow_lt {x : Int} {e m n : Nat} (h : x.natAbs < 2 ^ e) (hm : m ≤ n) : (x ^ m).natAbs < 2 ^ (e * n + 1) := by
  rw [Int.natAbs_pow]
  have h1 : x.natAbs ^ m ≤ (2 ^ e) ^ m := Nat.pow_le_pow_left (Nat.le_of_lt h) m
  rw [← Nat.pow_mul] at h1
  have h2 : 2 ^ (e * m) ≤ 2 ^ (e * n) := Nat.pow_le_pow_right (by decide) (Nat.mul_le_mul_left e hm)
  have h3 : 2 ^ (e * n) < 2 ^ (e * n + 1) := Nat.pow_lt_pow_right (by decide) (by omega)
  omega
end HopR

set_option Elab.async false
set_option linter.all false
set_option maxRecDepth 100000
namespace HopR
open PySem L2
/-! ### fractions above nought -/
theorem num_pos {q : Rat} (h : 0 < q) : 0 < q.num := by
  have h1 : 0 ≤ q.num := Rat.num_nonneg.mpr (by grind)
  have h2 : q.num ≠ 0 := fun e => by
    have : q = 0 := Rat.num_eq_zero.mp e
    rw [this] at h
    exact absurd h (by decide)
  omega
theorem pos_num {q : Rat} (h : 0 < q.num) : 0 < q := by
  have h1 : 0 ≤ q := Rat.num_nonneg.mp (by omega)
  have h2 : q ≠ 0 := fun e => by
    rw [e] at h
    exact absurd h (by decide)
  grind
theorem add_above {x y : Rat} (h : 0 ≤ y) (h2 : 0 < x) : 0 < y + x := by grind
theorem le_above {x : Rat} (h : 0 < x) : 0 ≤ x := by grind
theorem div_ne {q r : Rat} (h : 0 < q) (h2 : 0 < r) : q / r ≠ 0 := by
  rw [Rat.div_def]
  intro e
  rcases Rat.mul_eq_zero.mp e with e | e
  · rw [e] at h
    exact absurd h (by decide)
  · have h3 : r = 0 := by rw [← Rat.inv_inv r, e, Rat.inv_zero]
    rw [h3] at h2
    exact absurd h2 (by decide)
theorem ne_above {x : Rat} (h : 0 < x) : x ≠ 0 := fun e => by
  rw [e] at h
  exact absurd h (by decide)
theorem nat_low (n : Nat) : (0 : Rat) ≤ ((n : Int) : Rat) := by exact_mod_cast Nat.zero_le n
theorem nat_above {n : Nat} (h : 0 < n) : (0 : Rat) < ((n : Int) : Rat) := by exact_mod_cast h
theorem rat_int (t : Int) : Rat.divInt t 1 = (t : Rat) := by
  rw [Rat.divInt_eq_div]
  show (t : Rat) / ((1 : Int) : Rat) = (t : Rat)
  rw [Rat.div_def]
  have e : ((1 : Int) : Rat)⁻¹ = 1 := by decide +kernel
  rw [e, Rat.mul_one]
theorem sz_int {n k : Nat} (h : n < 2 ^ k) (hk : 1 ≤ k) : Sz k ((n : Int) : Rat) := by
  refine ⟨h, ?_⟩
  show 1 < 2 ^ k
  exact Nat.one_lt_two_pow (by omega)
theorem sz_add {n m : Nat} {q r : Rat} (h1 : Sz n q) (h2 : Sz m r) : Sz (n + m + 1) (q + r) := by
  rw [add_eq]
  have b1 : (q.num * r.den).natAbs < 2 ^ (n + m) := by
    rw [Int.natAbs_mul, Nat.pow_add]
    exact Nat.mul_lt_mul'' h1.1 h2.2
  have b2 : (r.num * q.den).natAbs < 2 ^ (n + m) := by
    rw [Int.natAbs_mul, Nat.add_comm, Nat.pow_add]
    exact Nat.mul_lt_mul'' h2.1 h1.2
  refine sz_divInt (Int.mul_ne_zero (den_ne q) (den_ne r)) ?_ ?_
  · exact Nat.lt_of_le_of_lt (Int.natAbs_add_le _ _) (two_lt b1 b2)
  · rw [Int.natAbs_mul]
    have h3 : q.den * r.den < 2 ^ (n + m) := by
      rw [Nat.pow_add]
      exact Nat.mul_lt_mul'' h1.2 h2.2
    exact Nat.lt_of_lt_of_le h3 (Nat.pow_le_pow_right (by decide) (by omega))
theorem sz_mul {n m : Nat} {q r : Rat} (h1 : Sz n q) (h2 : Sz m r) : Sz (n + m) (q * r) := by
  rw [mul_eq]
  refine sz_divInt (Int.mul_ne_zero (den_ne q) (den_ne r)) ?_ ?_
  · rw [Int.natAbs_mul, Nat.pow_add]
    exact Nat.mul_lt_mul'' h1.1 h2.1
  · rw [Int.natAbs_mul, Nat.pow_add]
    exact Nat.mul_lt_mul'' h1.2 h2.2
theorem sz_inv {n : Nat} {r : Rat} (h : Sz n r) (h0 : r ≠ 0) : Sz n r⁻¹ := by
  rw [Rat.inv_def]
  exact sz_divInt (fun e => h0 (Rat.num_eq_zero.mp e)) h.2 h.1
theorem sz_div {n m : Nat} {q r : Rat} (h1 : Sz n q) (h2 : Sz m r) (h0 : r ≠ 0) : Sz (n + m) (q / r) := by
  rw [Rat.div_def]
  exact sz_mul h1 (sz_inv h2 h0)
/-! ### walls -/
theorem two_in {l : List Nat} {a b : Nat} (ha : a ∈ l) (hb : b ∈ l) (h : a ≠ b) : 2 ≤ l.length := by
  match l, ha, hb with
  | [x], ha, hb =>
    have h1 := List.mem_singleton.mp ha
    have h2 := List.mem_singleton.mp hb
    omega
  | _ :: _ :: _, _, _ => simp
theorem one_in {l : List Nat} {a : Nat} (ha : a ∈ l) : 1 ≤ l.length := by
  match l, ha with
  | _ :: _, _ => simp
end HopR

set_option Elab.async false
set_option linter.all false
set_option maxRecDepth 100000
namespace HopR
open PySem PySem.Spec PyProof.Rows L2
/-! ### == and != by an own __eq__ of a class of the text, whose own names hold no __ne__ -/
structure EqC (K : PySem.W.Frag) (C f : Addr) : Prop where
  eq : PySem.W.findIn K (.ref C) "__eq__" = some (some (.ref f))
  fn : PySem.W.isFn K (.ref f) = true
  own : ∃ nm q N bs hd sn sub ab col dd k0 k1 k2 k3 k5 nw, K.lookup C = some (excClassObj nm q C N bs [.type "object"] hd sn sub ab col dd k0 k1 k2 k3 k5 nw) ∧ PySem.W.nsOkIn K N = true ∧ PySem.W.nsIn K N "__eq__" = some (some (.ref f)) ∧ PySem.W.nsIn K N "__ne__" = some none
theorem name_here {K : PySem.W.Frag} {h : Heap} {N : Addr} {mg : Str → Option Value} {x : Str} {v : Value} (kin : K.In h) (names : h.Ns N mg) (e : PySem.W.nsIn K N x = some (some v)) : mg x = some v := by
  rcases names with ⟨o, es, ep, at_, data, -, find⟩
  rw [← find]
  revert e
  unfold PySem.W.nsIn
  cases look : K.lookup N with
  | none => exact fun e => nomatch e
  | some ob =>
    obtain rfl : ob = o := Option.some.inj ((kin _ _ look).symm.trans at_)
    obtain ⟨cls, dict, dat, slots⟩ := ob
    obtain rfl : dat = .dict es ep := data
    intro e
    unfold nsFind findBy
    rw [← Array.find?_toList]
    cases hit : es.toList.find? (·.key.isStr x) with
    | none =>
      simp only [hit] at e
      split at e <;> cases e
    | some en =>
      simp only [hit] at e
      cases e
      rfl
theorem fn_here {K : PySem.W.Frag} {h : Heap} {f : Addr} (kin : K.In h) (fn : PySem.W.isFn K (.ref f) = true) : ∃ o, h.get? f = some o ∧ o.cls = .type "function" := by
  have e : (K.lookup f).map (·.cls) = some (Value.type "function") := beq_iff_eq.mp fn
  obtain ⟨o, look, cls⟩ := Option.map_eq_some_iff.mp e
  exact ⟨o, kin _ _ look, cls⟩
theorem EqC.here {K : PySem.W.Frag} {h : Heap} {C f a : Addr} {o : Obj} (c : EqC K C f) (kin : K.In h) (at_ : h.get? a = some o) (cls : o.cls = .ref C) : h.OwnEqNoNe a C f "object" [.type "object"] := by
  obtain ⟨nm, q, N, bs, hd, sn, sub, ab, col, dd, k0, k1, k2, k3, k5, nw, look, ok, heq, hne⟩ := c.own
  obtain ⟨of, hf, hc⟩ := fn_here kin c.fn
  have names : h.Ns N (h.nsMap N) := .of_isNs (PySem.W.isNs_of_in kin ok)
  exact ⟨o, of, nm, q, N, bs, hd, sn, sub, ab, col, dd, k0, k1, k2, k3, k5, nw, h.nsMap N, _, at_, cls, kin _ _ look, names, name_here kin names heq, hf, hc, PySem.F.cmp_object.mro, PySem.F.cmp_object.eq.lookup, PySem.W.nsMap_none_of_in kin ok hne⟩
section
variable {X : Cx} {CX : CXT} {n : Nat} {C f : Addr} {fd : FuncData} {ps : List Str} {sp : Sp} {E : XK}
/-- two instances of the class; what its __eq__ promises of them, a truth -/
def rOwn (C : Addr) (sp : Sp) (E : XK) (neg : Bool) : R2 := fun x y H Q => ∃ a b dx dy fs gs, x = .ref a ∧ y = .ref b ∧ H a = some (.ins C dx fs) ∧ H b = some (.ins C dy gs) ∧ sp [.ref a, .ref b] H (fun v H' => ∃ k : Bool, v = .bl k ∧ Q (.bl (k ^^ neg)) H') E
theorem two_refs {a b : Addr} : Vals [V.ref a, V.ref b] [Value.ref a, Value.ref b] := .cons rfl (.cons rfl .nil)
theorem op_eqOwn (c : EqC X.K C f) (F : FnOk X.prog X.w X.K X.mg X.base CX n f fd ps sp) (room : Room n X.A) (bind : Binds X.K fd ps []) (lets : Passes CX X E) : OpR X (compareOp .Eq) (rOwn C sp E false) := by
  rintro pins s σ H _ _ v u Q I rx ry ⟨a, b, dx, dy, fs, gs, rfl, rfl, ha, hb, prom⟩
  cases rx; cases ry
  obtain ⟨_, J, _⟩ := ins_get I.hok ha
  obtain ⟨_, J', _⟩ := ins_get I.hok hb
  obtain ⟨_, J, _⟩ := J.look
  obtain ⟨_, J', _⟩ := J'.look
  obtain ⟨m, F0⟩ := I.fr
  refine PySem.W.cmp_K (op := .Eq) (tb := .ref C) room.units0 F0 I.ok.mod.kin J J'.type (by simp [PySem.W.notFirst]) c.eq c.fn (thn (call_at F room rfl bind lets I two_refs prom) ?_)
  rintro w s' ⟨z, H', I', rz, k, rfl, q⟩
  cases rz
  refine ⟨.bl k, H', I', rfl, ?_⟩
  rw [Bool.xor_false] at q
  exact q
theorem op_neOwn (c : EqC X.K C f) (F : FnOk X.prog X.w X.K X.mg X.base CX n f fd ps sp) (room : Room (n + 1) X.A) (bind : Binds X.K fd ps []) (lets : Passes CX X E) : OpR X (compareOp .NotEq) (rOwn C sp E true) := by
  rintro pins ⟨hp, g, d, t, os⟩ σ H _ _ v u Q I rx ry ⟨a, b, dx, dy, fs, gs, rfl, rfl, ha, hb, prom⟩
  cases rx; cases ry
  obtain ⟨_, J, _⟩ := ins_get I.hok ha
  obtain ⟨_, J', _⟩ := ins_get I.hok hb
  obtain ⟨_, J, _⟩ := J.look
  obtain ⟨_, J', _⟩ := J'.look
  have un := room.un
  refine compareOp_ne_ownEq PySem.F.cmp_object (c.here I.kIn J.at_ J.cls) J'.at_ J'.cls (by omega) (thn (call_at (A := X.A.in1) F room.in1 rfl bind lets I two_refs prom) ?_)
  rintro w s' ⟨z, H', I', rz, k, rfl, q⟩
  cases rz
  refine ⟨k, rfl, .bl (!k), H', I', rfl, ?_⟩
  rw [Bool.xor_true] at q
  exact q
end
end HopR

set_option Elab.async false
set_option linter.all false
set_option maxRecDepth 100000
namespace HopR
open PySem L2
/-- a list of draws by its places -/
theorem draws2 {c z0 z1 : Int} (h0 : 0 < z0) (h1 : 0 < z1) : ∃ d0 d1 : Int, draws c 0 [z0, z1] = [d0, d1] ∧ (0 ≤ d0 ∧ d0 < z0) ∧ (0 ≤ d1 ∧ d1 < z1) := by
  have hl := draws_len [z0, z1] c 0
  match hd : draws c 0 [z0, z1], hl with
  | [d0, d1], _ =>
    have hp : ∀ z ∈ [z0, z1], 0 < z := by
      intro z hz
      simp only [List.mem_cons, List.not_mem_nil, or_false] at hz
      rcases hz with rfl | rfl
      · exact h0
      · exact h1
    exact ⟨d0, d1, rfl, draws_ok _ c 0 hp 0 d0 z0 (by rw [hd]; rfl) rfl, draws_ok _ c 0 hp 1 d1 z1 (by rw [hd]; rfl) rfl⟩
end HopR

set_option Elab.async false
set_option linter.all false
set_option maxRecDepth 100000
namespace HopR
open PySem L2
/-! ### texts by their codes -/
def rt (cs : List Nat) : Str := ⟨cs.toArray⟩
def one (c : Nat) : Str := ⟨#[c]⟩
theorem rt_list (cs : List Nat) : (rt cs).cps.toList = cs := by simp [rt]
theorem rt_len (cs : List Nat) : (rt cs).length = cs.length := by
  show cs.toArray.size = cs.length
  simp
theorem rt_of (z : Str) : rt z.cps.toList = z := ext_str (rt_list _)
theorem rt_inj {a b : List Nat} (h : rt a = rt b) : a = b := by
  have := congrArg (fun q : Str => q.cps.toList) h
  simpa only [rt_list] using this
theorem rt_app (a b : List Nat) : rt a ++ rt b = rt (a ++ b) := by
  apply ext_str
  rw [rt_list]
  show ((rt a).cps ++ (rt b).cps).toList = a ++ b
  rw [Array.toList_append, rt_list, rt_list]
theorem rt_fit {cs : List Nat} (h : cs.length ≤ 10000) : (rt cs).length ≤ sizeLine := by
  rw [rt_len]
  exact fit h
theorem sg_rt (cs : List Nat) : sg (rt cs) = cs.map one := by
  unfold sg
  rw [rt_list]
  rfl
theorem join_rt (cs : List Nat) : Txt.join "" (cs.map one) = rt cs := by
  apply ext_str
  rw [join0_list, List.map_map, rt_list]
  induction cs with
  | nil => rfl
  | cons b r ih =>
    rw [List.map_cons, List.flatten_cons, ih]
    rfl
theorem ones_sum : ∀ cs : List Nat, ((cs.map one).map (·.length)).sum = cs.length
  | [] => rfl
  | c :: r => by
    rw [List.map_cons, List.map_cons, List.sum_cons, ones_sum r]
    show 1 + r.length = r.length + 1
    omega
theorem join_rt_fits {cs : List Nat} (h : cs.length ≤ 1000) : ((cs.map one).map (·.length)).sum + (cs.map one).length * ("" : Str).length ≤ 16777216 := by
  have e : ("" : Str).length = 0 := by decide +kernel
  rw [ones_sum, e, Nat.mul_zero]
  omega
theorem cut_rt (cs : List Nat) (lo hi : Option Int) : cutS (rt cs) lo hi = rt ((cs.drop (HT.sIx cs.length 0 lo)).take (HT.sIx cs.length cs.length hi - HT.sIx cs.length 0 lo)) := by
  apply ext_str
  unfold cutS
  rw [rt_len, rt_list, rt_list]
theorem cut_rt_to (cs : List Nat) (k : Nat) : cutS (rt cs) none (some (k : Int)) = rt (cs.take k) := by
  rw [cut_rt, HT.sIx_none, HT.sIx_nat, List.drop_zero, Nat.sub_zero]
  by_cases h : k ≤ cs.length
  · rw [Nat.min_eq_left h]
  · rw [Nat.min_eq_right (by omega), List.take_length, List.take_of_length_le (by omega)]
theorem cut_rt_from (cs : List Nat) (k : Nat) : cutS (rt cs) (some (k : Int)) none = rt (cs.drop k) := by
  rw [cut_rt, HT.sIx_none, HT.sIx_nat]
  by_cases h : k ≤ cs.length
  · rw [Nat.min_eq_left h, List.take_of_length_le (by rw [List.length_drop]; exact Nat.le_refl _)]
  · rw [Nat.min_eq_right (by omega), List.drop_length, List.drop_of_length_le (by omega), List.take_nil]
theorem one_inj {a b : Nat} (h : one a = one b) : a = b := by
  have := congrArg (fun q : Str => q.cps.toList) h
  exact (List.cons.inj this).1
theorem one_eq (a b : Nat) : (one a == one b) = decide (a = b) := by
  by_cases h : a = b
  · subst h
    simp
  · rw [decide_eq_false h]
    have : ¬ (one a = one b) := fun z => h (one_inj z)
    simp [this]
/-! ### signs in a written dict -/
theorem find_key (c : Nat) : ∀ (ts : List Nat) (L : List DictEntry), L.map (fun e => keyText e.key) = ts.map (fun q => some (one q)) → (L.find? (·.key.isStr (one c))).isSome = decide (c ∈ ts) ∧ L.any (·.refKey) = false
  | [], [], _ => ⟨by simp, rfl⟩
  | [], e :: r, h => by simp at h
  | q :: ts, [], h => by simp at h
  | q :: ts, e :: r, h => by
    rw [List.map_cons, List.map_cons] at h
    obtain ⟨h1, h2⟩ := List.cons.inj h
    obtain ⟨t, hk⟩ := keyText_str h1
    obtain ⟨i1, i2⟩ := find_key c ts r h2
    have e1 : e.key.isStr (one c) = decide (q = c) := by
      rw [hk]
      exact one_eq q c
    refine ⟨?_, ?_⟩
    · rw [List.find?_cons, e1]
      by_cases hq : q = c
      · rw [decide_eq_true hq]
        simp [hq]
      · rw [decide_eq_false hq]
        show (r.find? (·.key.isStr (one c))).isSome = _
        rw [i1]
        have : ¬ c = q := fun z => hq z.symm
        simp [this]
    · rw [List.any_cons, i2, Bool.or_false]
      unfold DictEntry.refKey
      rw [hk]
theorem key_in {K : PySem.W.Frag} {d : Addr} {es : Array DictEntry} {n : Nat} {ts : List Nat} (l : K.lookup d = some ⟨.type "dict", none, .dict es n, #[]⟩) (hk : es.toList.map (fun e => keyText e.key) = ts.map (fun q => some (one q))) (c : Nat) :
    ∃ r, PySem.W.nsIn K d (one c) = some r ∧ r.isSome = decide (c ∈ ts) := by
  obtain ⟨h1, h2⟩ := find_key c ts es.toList hk
  unfold PySem.W.nsIn
  rw [l]
  simp only
  cases hf : es.toList.find? (·.key.isStr (one c)) with
  | some e =>
    rw [hf] at h1
    exact ⟨_, rfl, h1⟩
  | none =>
    rw [hf] at h1
    simp only [h2]
    exact ⟨_, rfl, h1⟩
/-! ### rings -/
def okr (c : Nat) : Bool := decide (c ∈ [97, 98, 46])
def isRingB (z : Str) : Bool := decide (2 ≤ z.length) && (decide (z.length ≤ 12) && z.cps.toList.all okr)
/-- whether x is a ring -/
def RingB (K : PySem.W.Frag) (H : Hp) (x : V) (b : Bool) : Prop := (NoTxt K H x ∧ b = false) ∨ ∃ z : Str, x = .str z ∧ z.length ≤ 10000 ∧ b = isRingB z
theorem ringB_same {K : PySem.W.Frag} {H H' : Hp} {x : V} {b : Bool} (s : Same H H') (h : RingB K H x b) : RingB K H' x b := h.imp (fun ⟨q, e⟩ => ⟨notxt_same s q, e⟩) id
/-- a ring by its codes -/
structure Rg (cs : List Nat) : Prop where
  lo : 2 ≤ cs.length
  hi : cs.length ≤ 12
  ok : ∀ c ∈ cs, c ∈ [97, 98, 46]
theorem Rg.isB {cs : List Nat} (h : Rg cs) : isRingB (rt cs) = true := by
  unfold isRingB
  rw [rt_len, rt_list, decide_eq_true h.lo, decide_eq_true h.hi]
  show cs.all okr = true
  rw [List.all_eq_true]
  exact fun c hc => decide_eq_true (h.ok c hc)
/-- how far above the others a sign stands -/
def rk (c : Nat) : Nat := if c = 97 then 2 else if c = 98 then 1 else 0
def nxt (cs : List Nat) (i : Nat) : Nat := (i + 1) % cs.length
theorem nxt_lt {cs : List Nat} (h : Rg cs) (i : Nat) : nxt cs i < cs.length := Nat.mod_lt _ (Nat.lt_of_lt_of_le (by decide) h.lo)
/-- the signs at a place and at the next one exchanged -/
def swp (cs : List Nat) (i : Nat) : List Nat := (cs.set i (cs.getD (nxt cs i) 0)).set (nxt cs i) (cs.getD i 0)
theorem swp_len (cs : List Nat) (i : Nat) : (swp cs i).length = cs.length := by
  unfold swp
  rw [List.length_set, List.length_set]
def ups (cs : List Nat) (i : Nat) : Bool := decide (rk (cs.getD (nxt cs i) 0) < rk (cs.getD i 0))
def rchg (cs : List Nat) (m : Nat) : List Nat := (List.range m).filter (ups cs)
theorem rchg_succ (cs : List Nat) (i : Nat) : rchg cs (i + 1) = rchg cs i ++ (if ups cs i then [i] else []) := by
  unfold rchg
  rw [List.range_succ, List.filter_append]
  congr 1
  cases h : ups cs i with
  | true => simp [h]
  | false => simp [h]
theorem rchg_few (cs : List Nat) (m : Nat) : (rchg cs m).length ≤ m := by
  refine Nat.le_trans (List.length_filter_le _ _) ?_
  rw [List.length_range]
  exact Nat.le_refl _
/-- the data of the changes -/
def dchg (cs : List Nat) (ks : List Nat) : List PyData := ks.map fun (k : Nat) => PyData.tuple [.int (k : Int), .str (rt (swp cs k))]
/-- a list of tuples (place, ring) -/
def Tups (H : Hp) (cs : List Nat) : List Nat → List V → Prop
  | [], vs => vs = []
  | k :: r, vs => ∃ p vr, vs = .ref p :: vr ∧ H p = some (.tup [.int (k : Int), .str (rt (swp cs k))]) ∧ Tups H cs r vr
theorem tups_same {H H' : Hp} {cs : List Nat} (s : Same H H') : ∀ {ks : List Nat} {vs : List V}, Tups H cs ks vs → Tups H' cs ks vs
  | [], _, h => h
  | k :: r, _, ⟨p, vr, e, h1, h2⟩ => ⟨p, vr, e, s _ _ h1, tups_same s h2⟩
theorem tups_add {H : Hp} {cs : List Nat} {k : Nat} {p : Addr} (h1 : H p = some (.tup [.int (k : Int), .str (rt (swp cs k))])) : ∀ {ks : List Nat} {vs : List V}, Tups H cs ks vs → Tups H cs (ks ++ [k]) (vs ++ [.ref p])
  | [], _, h => by
    cases h
    exact ⟨p, [], rfl, h1, rfl⟩
  | q :: r, _, ⟨p', vr, e, h2, h3⟩ => ⟨p', vr ++ [.ref p], by rw [e]; rfl, h2, tups_add h1 h3⟩
theorem tups_upd {H : Hp} {cs : List Nat} {D : Addr} {xs : List V} {o : HO} (hD : H D = some (.lst xs)) : ∀ {ks : List Nat} {vs : List V}, Tups H cs ks vs → Tups (upd H D o) cs ks vs
  | [], _, h => h
  | k :: r, _, ⟨p, vr, e, h1, h2⟩ => ⟨p, vr, e, by
      rw [upd_ne (fun z => by rw [z, hD] at h1; cases h1)]
      exact h1, tups_upd hD h2⟩
theorem tups_len {H : Hp} {cs : List Nat} : ∀ {ks : List Nat} {vs : List V}, Tups H cs ks vs → vs.length = ks.length
  | [], _, h => by
    cases h
    rfl
  | k :: r, _, ⟨p, vr, e, _, h2⟩ => by
    rw [e, List.length_cons, List.length_cons, tups_len h2]
theorem tups_dp {K : PySem.W.Frag} {H : Hp} {cs : List Nat} : ∀ {ks : List Nat} {vs : List V}, Tups H cs ks vs → DpAll K H vs (dchg cs ks)
  | [], _, h => by
    cases h
    exact .nil
  | k :: r, _, ⟨p, vr, e, h1, h2⟩ => by
    rw [e]
    exact .cons (.tup (SqT.of h1) (.cons (.int _) (.cons (.str _) .nil))) (tups_dp h2)
theorem getD_small {cs : List Nat} (h : Rg cs) (i : Nat) : cs.getD i 0 < 1114112 := by
  rw [List.getD_eq_getElem?_getD]
  cases e : cs[i]? with
  | none => show 0 < 1114112; decide
  | some c =>
    have := h.ok c (List.mem_of_getElem? e)
    simp only [List.mem_cons, List.not_mem_nil, or_false] at this
    show c < 1114112
    omega
theorem strOk_swp {cs : List Nat} (h : Rg cs) (i : Nat) : PyData.strOk (rt (swp cs i)) = true := by
  unfold PyData.strOk
  rw [← Array.all_toList, rt_list, List.all_eq_true]
  intro c hc
  refine decide_eq_true ?_
  unfold swp at hc
  rcases List.mem_or_eq_of_mem_set hc with h1 | rfl
  · rcases List.mem_or_eq_of_mem_set h1 with h2 | rfl
    · have := h.ok c h2
      simp only [List.mem_cons, List.not_mem_nil, or_false] at this
      omega
    · exact getD_small h _
  · exact getD_small h _
theorem lay_dchg {cs : List Nat} (h : Rg cs) : ∀ ks : List Nat, PyData.canLayAll0 (dchg cs ks) = true
  | [] => rfl
  | k :: r => by
    show PyData.canLayAll0 (.tuple [.int (k : Int), .str (rt (swp cs k))] :: dchg cs r) = true
    simp only [PyData.canLayAll0, lay_dchg h r, Bool.and_true, PyData.canLay0, strOk_swp h]
theorem deep_dchg (cs : List Nat) : ∀ ks : List Nat, PyData.depthAll (dchg cs ks) ≤ 1
  | [] => by show 0 ≤ 1; decide
  | k :: r => by
    show PyData.depthAll (.tuple [.int (k : Int), .str (rt (swp cs k))] :: dchg cs r) ≤ 1
    have := deep_dchg cs r
    simp only [PyData.depthAll, PyData.depth]
    omega
theorem shaped_dchg {cs : List Nat} (h : Rg cs) (ks : List Nat) : SeqAt.shaped (.list (dchg cs ks)) = true := by
  unfold SeqAt.shaped
  rw [Bool.and_eq_true]
  refine ⟨?_, decide_eq_true ?_⟩
  · simp only [PyData.canLay0, lay_dchg h]
  · have := deep_dchg cs ks
    simp only [PyData.depth]
    omega
theorem eqv_dchg {cs : List Nat} (h : Rg cs) (ks : List Nat) : PyData.eqv (.list (dchg cs ks)) (.list (dchg cs ks)) = true := PySem.SeqAt.eqv_refl _ (by simp only [PyData.canLay0, lay_dchg h])
end HopR

set_option Elab.async false
set_option linter.all false
set_option maxRecDepth 100000
namespace HopR
open PySem PySem.Spec PyProof.Rows L2
section
variable {X : Cx}
/-- tuple(text) -/
def rTupT : List V → Hp → VK → Prop := fun vs H Q => ∃ z : Str, vs = [.str z] ∧ z.length ≤ sizeLine ∧ ∀ p : Addr, H p = none → Q (.ref p) (upd H p (.tup ((sg z).map V.str)))
theorem cr_tupT (hcm : X.calm = true) : CallR X (.type "tuple") rTupT := by
  rintro pins s σ H _ us Q I r ⟨z, rfl, hz, q⟩
  obtain ⟨_, rfl, t, rfl⟩ := vals1 r
  refine call_tuple_str (I.ok.hd hcm) z t (fun h' tk acc old items => ?_) hz
  have after : Inv X pins σ H { s with heap := h', toks := tk } := I.kept old
  refine ⟨.ref h'.objs.size, _, after.laid (t' := tk) (fun b o e => Heap.get?_push_of_some _ e) (Nat.le_refl _) ?_, rfl, q _ (after.hok.fresh (Nat.le_refl _))⟩
  refine ⟨by rw [List.length_map, sg_len]; exact hz, acc.toList, vals_of_strs (signs_are items), ?_⟩
  rw [Array.toArray_toList]
  exact IsTup.new _ _
end
/-! ### lists of whole numbers as data -/
def dis (zs : List Int) : List PyData := zs.map PyData.int
theorem dp_ints {K : PySem.W.Frag} {H : Hp} : ∀ zs : List Int, DpAll K H (zs.map V.int) (dis zs)
  | [] => .nil
  | z :: r => .cons (.int z) (dp_ints r)
theorem lay_ints : ∀ zs : List Int, PyData.canLayAll0 (dis zs) = true
  | [] => rfl
  | z :: r => by
    show PyData.canLayAll0 (.int z :: dis r) = true
    simp only [PyData.canLayAll0, lay_ints r, Bool.and_true]
    rfl
theorem deep_ints : ∀ zs : List Int, PyData.depthAll (dis zs) = 0
  | [] => rfl
  | z :: r => by
    show PyData.depthAll (.int z :: dis r) = 0
    simp only [PyData.depthAll, deep_ints r]
    rfl
theorem shaped_zs (zs : List Int) : SeqAt.shaped (.list (dis zs)) = true := by
  unfold SeqAt.shaped
  rw [Bool.and_eq_true]
  refine ⟨?_, decide_eq_true ?_⟩
  · simp only [PyData.canLay0, lay_ints]
  · simp only [PyData.depth, deep_ints]
    decide
theorem cut_ints (ns : List Int) (hi : Int) (hl : ns.length ≤ 63) : ∃ zs : List Int, cutV (ns.map V.int) none (some hi) = zs.map V.int ∧ zs.length ≤ 63 := by
  unfold cutV
  refine ⟨(ns.drop (HT.sIx (ns.map V.int).length 0 none)).take (HT.sIx (ns.map V.int).length (ns.map V.int).length (some hi) - HT.sIx (ns.map V.int).length 0 none), by rw [List.map_take, List.map_drop], ?_⟩
  rw [List.length_take, List.length_drop]
  omega
end HopR

set_option Elab.async false
set_option linter.all false
set_option maxRecDepth 100000
namespace HopR
open PySem PySem.Spec PyProof.Rows L2
/-! ### sorted(texts, reverse=True): the same texts, in some order -/
def ltS (v u : Value) : Bool := decide ((strOf v).cps.toList < (strOf u).cps.toList)
theorem swo_txt : SrtO.Swo ltS where
  asym x y h := decide_eq_false (List.lt_asymm (of_decide_eq_true h))
  tr x y z h1 h2 := by
    have a := List.not_lt.mp (of_decide_eq_false h1)
    have b := List.not_lt.mp (of_decide_eq_false h2)
    exact decide_eq_false (List.not_lt.mpr (List.le_trans a b))
section
variable {prog : Program} {w : World} {A : Around} {s : Shared}
theorem texts_sortable {l : Addr} {vs : List Value} {ss : List Str} (are : StrsAre vs ss) (two : 2 ≤ vs.length) : SrtO.SortableO prog w A s l vs ltS := by
  intro h' _
  refine ⟨oneType', fun Q E q => ?_, fun x y hx hy => ?_⟩
  · obtain ⟨a, b, r, rfl⟩ : ∃ a b r, vs = a :: b :: r := by
      match vs, two with
      | a :: b :: r, _ => exact ⟨a, b, r, rfl⟩
    rw [keyKind_strs are]
    exact wpAny_pure q
  · obtain ⟨a, t, ea⟩ := are.all _ hx
    obtain ⟨b, u, eb⟩ := are.all _ hy
    show wpAny (model prog w) A (keyLt' oneType' x.1 y.1) (fun r s' => s' = _ ∧ r = ltS x.1 y.1) (fun _ _ => False) _
    rw [ea, eb, keyLt'_oneType]
    exact oneLt_str ⟨rfl, rfl⟩
end
section
variable {X : Cx}
def rSortTR (K : PySem.W.Frag) : List V → List V → Hp → VK → Prop := fun vs zs H Q => ∃ (a : Addr) (xs : List Str), vs = [.ref a] ∧ zs = [.bl true] ∧ SqL K H a (xs.map V.str) ∧ ∀ (ys : List Str) (p : Addr), ys.Perm xs → H p = none → Q (.ref p) (upd H p (.lst (ys.map V.str)))
theorem strs_of_vals : ∀ {xs : List Str} {us : List Value}, Vals (xs.map V.str) us → StrsAre us xs
  | [], _, h => by
    cases h
    exact .nil
  | x :: r, _, h => by
    cases h with
    | cons a b =>
      obtain ⟨t, rfl⟩ := a
      exact .cons x t (strs_of_vals b)
theorem cr_sortTR : CallRK X (.builtin "sorted") [Str.ofString "reverse"] (rSortTR X.K) := by
  rintro pins s σ H _ _ us ws Q I r rz ⟨a, xs, rfl, rfl, hs, q⟩
  obtain rfl := Vals.ref1 r
  obtain ⟨w1, rfl, e1⟩ := vals1 rz
  obtain rfl : w1 = Value.bool true := e1
  obtain ⟨its, rv, hl, hz⟩ := I.list hs
  have are := strs_of_vals rv
  refine SrtR.sorted_ordK (b := true) (fun _ => rfl) (args_sorted_rev _ _) (fun _ => args_list_sort_rev _ _) swo_txt hl.isList (by rw [← rv.length]; exact hz) (fun two _ _ _ _ => texts_sortable are two) fun out _ stb => ?_
  have pm : out.reverse.Perm its := out.reverse_perm.trans (stb.perm.trans its.reverse_perm)
  have are' : StrsAre out.reverse (out.reverse.map strOf) := strsAre_map _ fun v hv => are.all v (pm.mem_iff.mp hv)
  have pm' : (out.reverse.map strOf).Perm xs := by
    have := pm.map strOf
    rw [are.strs] at this
    exact this
  obtain ⟨ep, at_⟩ := sortedAll_at s.heap its (if true = true then out.toArray.reverse else out.toArray)
  have hlen : ((out.reverse.map strOf).map V.str).length ≤ sizeLine := by
    rw [List.length_map, pm'.length_eq]
    rw [List.length_map] at hz
    exact hz
  refine ⟨.ref (s.heap.objs.size + 1), upd H (s.heap.objs.size + 1) (.lst ((out.reverse.map strOf).map V.str)), I.laid (t' := s.toks) (fun _ _ => sortedAll_old) (Nat.le_succ _) ⟨hlen, out.reverse, ep, vals_of_strs are', ?_⟩, rfl, q _ _ pm' (I.hok.fresh (Nat.le_succ _))⟩
  rw [at_]
  simp
end
end HopR

set_option Elab.async false
set_option linter.all false
set_option maxRecDepth 100000
namespace HopR
open PySem PySem.Spec PyProof.Rows L2
/-! ### walks that hand out new tuples -/
/-- n turns; at each a new tuple of items that Y tells -/
def ItTup (n : Nat) (Y : Nat → List V → Prop) : It :=
  ⟨fun i _ => i < n, fun i H v H' => ∃ T xs, v = .ref T ∧ H T = none ∧ H' = upd H T (.tup xs) ∧ Y i xs, fun i _ => n ≤ i⟩
theorem turn_tup {P : Program} {w : World} {K : PySem.W.Frag} {elts : List Expr} {kk : Nat} {tpos : Pos} {it : Addr} {fp wr : List Addr} {n : Nat} {Pt : Nat → Array Value → Prop} {St : Nat → Heap → Prop} {Mid : Nat → Addr → Heap → Prop} {Y : Nat → List V → Prop}
    (mem : it ∈ fp) (obj : ∀ i h, St i h → ∀ b ∈ fp, ∃ o, h.get? b = some o ∧ ∀ v, o.data ≠ .cell v) (W : ∀ A : Around, A.handled = none → WalksT P w A it fp wr n Pt St Mid)
    (tells : ∀ i vals, Pt i vals → ∃ xs, xs.length ≤ sizeLine ∧ Vals xs vals.toList ∧ Y i xs) (self : ∀ (A : Around) (i : Nat) (s : Shared) (Q : Value → Shared → Prop) (E : Value → Shared → Prop), St i s.heap → Q (.ref it) s → wpAny (model P w) A (pyIter (.ref it)) Q E s)
    (W0 : WalksT P w callerA it fp wr n Pt St Mid) :
    Turn P w K (.Tuple elts kk tpos) (ItTup n Y) fp it (fun i h => i ≤ n ∧ St i h) where
  mem := mem
  obj i h st := obj i h st.2
  keep i h h' st k := ⟨st.1, W0.frame i h h' st.2 k⟩
  item := by
    intro X hP hw hK calm i pins s σ H E I free st go
    subst hP hw hK
    have V := W X.A (I.ok.hd calm)
    refine V.item i s _ E go st.2 fun T vals h1 tk told new tup mid old => ⟨.ref T, rfl, ?_⟩
    refine V.go elts kk tpos i T _ _ E mid fun h2 st2 old2 => ?_
    obtain ⟨xs, few, are, y⟩ := tells i vals told
    have out := V.apart i T h1 mid
    obtain ⟨o, ho, hr⟩ := tup
    have tup2 : h2.IsTuple T vals := ⟨o, old2 T o out ho, hr⟩
    have ok : ObjOk X.prog X.w (upd H T (.tup xs)) h2 T (.tup xs) := ⟨few, vals.toList, are, by rw [Array.toArray_toList]; exact tup2⟩
    have J : Inv X pins σ (upd H T (.tup xs)) { s with heap := h2, toks := tk } := I.turnedNew (ch := fp) (fun b ob nb q => old2 b ob (fun z => nb (V.sub b z)) (old b ob (fun z => nb (V.sub b z)) q)) free new ok
    refine ⟨.ref T, _, J, rfl, ⟨T, xs, rfl, I.hok.fresh new, rfl, y⟩, ⟨go, st2⟩, fun b hb => ?_⟩
    obtain ⟨ob, q, _⟩ := obj i s.heap st.2 b hb
    rw [upd_ne (Nat.ne_of_lt (Nat.lt_of_lt_of_le (Heap.lt_size q) new))]
    exact (free b hb).1
  done := by
    intro X hP hw hK calm i pins s σ H E I free st stop
    subst hP hw hK
    have V := W X.A (I.ok.hd calm)
    obtain rfl : i = n := Nat.le_antisymm st.1 stop
    exact V.done s _ E st.2 fun h1 tk old => ⟨rfl, I.turnedL (ch := fp) (fun b o nb q => old b o (fun z => nb (V.sub b z)) q) free⟩
  self A i s Q E st q := self A i s Q E st.2 q
/-- a loop over such a walk -/
theorem walk_tup {n : Nat} {Y : Nat → List V → Prop} : Walk (ItTup n Y) n (fun _ => True) (fun i H v H' => ∃ T xs, v = .ref T ∧ H T = none ∧ H' = upd H T (.tup xs) ∧ Y i xs) :=
  ⟨fun _ _ lt _ => lt, fun _ _ => Nat.le_refl _, fun _ _ _ _ _ _ y => y⟩
/-! ### zip(text, text) -/
theorem draws_txt {prog : Program} {w : World} {A : Around} (hh : A.handled = none) (it : Addr) (x : Str) (t : Tok) :
    Draws prog w A it [it] x.cps.size (fun i v => ∃ c u, x.cps[i]? = some c ∧ v = .str ⟨#[c]⟩ u) (fun i h => h.IsStrIter it (strIterType x) x t i) := by
  unfold strIterType
  split
  · exact .strAscii hh it x t
  · exact .strWide hh it x t
/-- the signs of both texts, place by place -/
def ZipY (x y : Str) (i : Nat) (vs : List V) : Prop := ∃ c e, x.cps[i]? = some c ∧ y.cps[i]? = some e ∧ vs = [.str ⟨#[c]⟩, .str ⟨#[e]⟩]
def iZipS (ta : TA) : TI := fun σ H R => ta σ H fun vs H1 => ∃ x y : Str, vs = [.str x, .str y] ∧ R (ItTup (min x.cps.size y.cps.size) (ZipY x y)) H1
theorem pi_zipS {X : Cx} {e e2 : Expr} {ta : TA} {p pos tpos : Pos} {elts : List Expr} {kk : Nat} (hg : Gl X "zip") (hm : X.mg "zip" = none) (ha : PA X [e, e2] ta)
    (hs : starEach [e, e2] X.env = (false, eval e X.env) :: starEach [e2] X.env := by rfl) (hpl : (backTo pos (starEach [e2] X.env)).any (·.1) = false := by rfl) :
    PI X (.Tuple elts kk tpos) (.Call (.Name "zip" p) [e, e2] [] pos) (iZipS ta) := by
  constructor
  intro pins s σ H R I h
  refine Call_ (ld_blt I hg hm boot_zip (callWith_type1 (thn (ha.run pos pins s σ H _ I h) ?_) hs hpl))
  rintro us s1 ⟨_, H1, J, rel, x, y, rfl, q⟩
  obtain ⟨_, _, rfl, ⟨t, rfl⟩, u, rfl⟩ := vals2 rel
  refine zip_begins2 (begins_text x t) (begins_text y u) trivial trivial fun h' isz pin pout at1 at2 _ old => wpAny_pyIter_zip isz ?_
  have sep : ZipSep2 (s1.heap.objs.size + 4) (s1.heap.objs.size + 2) (s1.heap.objs.size + 3) s1.heap.objs.size (s1.heap.objs.size + 1) [s1.heap.objs.size] [s1.heap.objs.size + 1] := by
    constructor <;> simp
  have W : ∀ A : Around, A.handled = none → WalksT X.prog X.w A (s1.heap.objs.size + 4) _ _ _ _ _ _ := fun A hh => WalksT.zipD2 sep (draws_txt (A := A.in1) hh s1.heap.objs.size x t) (draws_txt (A := A.in1) hh (s1.heap.objs.size + 1) y u)
  refine ⟨s1.heap.objs.size + 4, _, _, _, H1, rfl, J.kept (t' := s1.toks) old, turn_tup (Y := ZipY x y) (by simp) ?_ W ?_ ?_ (W callerA rfl), ⟨Nat.zero_le _, isz, pin, ⟨_, _, pout⟩, ⟨_, at1, rfl, rfl⟩, ⟨_, at2, rfl, rfl⟩⟩, ?_, q⟩
  · rintro i h ⟨hz, h1, ⟨_, _, h2⟩, ⟨o1, g1, _, d1⟩, ⟨o2, g2, _, d2⟩⟩ b hb
    have hb : b = s1.heap.objs.size + 4 ∨ b = s1.heap.objs.size + 2 ∨ b = s1.heap.objs.size + 3 ∨ b = s1.heap.objs.size ∨ b = s1.heap.objs.size + 1 := by simpa using hb
    rcases hb with rfl | rfl | rfl | rfl | rfl
    · exact ⟨_, hz, fun v q => nomatch q⟩
    · exact ⟨_, h1, fun v q => nomatch q⟩
    · exact ⟨_, h2, fun v q => nomatch q⟩
    · exact ⟨o1, g1, fun v q => by rw [d1] at q; cases q⟩
    · exact ⟨o2, g2, fun v q => by rw [d2] at q; cases q⟩
  · rintro i vals ⟨_, _, ⟨c, t1, hc, rfl⟩, ⟨e, t2, he, rfl⟩, rfl⟩
    exact ⟨[.str ⟨#[c]⟩, .str ⟨#[e]⟩], by show 2 ≤ sizeLine; decide, .cons ⟨t1, rfl⟩ (.cons ⟨t2, rfl⟩ .nil), c, e, hc, he, rfl⟩
  · exact fun A i s Q E st q => wpAny_pyIter_zip st.1 q
  · intro b hb
    have hb : b = s1.heap.objs.size + 4 ∨ b = s1.heap.objs.size + 2 ∨ b = s1.heap.objs.size + 3 ∨ b = s1.heap.objs.size ∨ b = s1.heap.objs.size + 1 := by simpa using hb
    have le : s1.heap.objs.size ≤ b := by
      rcases hb with rfl | rfl | rfl | rfl | rfl
      · exact Nat.le_add_right _ _
      · exact Nat.le_add_right _ _
      · exact Nat.le_add_right _ _
      · exact Nat.le_refl _
      · exact Nat.le_add_right _ _
    exact J.fpOk le (J.hok.fresh le)
end HopR

set_option Elab.async false
set_option linter.all false
set_option maxRecDepth 100000
namespace HopR
open PySem L2
/-! ### a row beneath a row -/
def ust (u l : Bool) : Int := (if u then 1 else 0) - (if l then 0 else 1)
def bn : Int → List Bool → List Bool → Bool
  | o, u :: us, l :: ls => if o + ust u l < 0 then false else bn (o + ust u l) us ls
  | o, _, _ => decide (o = 0)
theorem bn_nil (o : Int) (ls : List Bool) : bn o [] ls = decide (o = 0) := by
  cases ls <;> rfl
theorem bn_cons (o : Int) (u l : Bool) (us ls : List Bool) : bn o (u :: us) (l :: ls) = if o + ust u l < 0 then false else bn (o + ust u l) us ls := rfl
def rise (b : Bool) : Int := if b then 1 else -1
theorem rise_two (u l : Bool) : rise u + rise l = 2 * ust u l := by cases u <;> cases l <;> rfl
/-- as the law looks -/
def lb : Int → List Bool → List Nat → Bool
  | h, u :: us, c :: cs => if okc c = false then false else if h + rise u + rise (decide (c = 111)) < 0 then false else lb (h + rise u + rise (decide (c = 111))) us cs
  | h, _, _ => decide (h = 0)
def bls (cs : List Nat) : List Bool := cs.map fun c => decide (c = 111)
theorem lb_eq : ∀ (us : List Bool) (cs : List Nat) (o : Int), us.length = cs.length → lb (2 * o) us cs = (cs.all okc && bn o us (bls cs))
  | [], [], o, _ => by
    show decide (2 * o = 0) = (true && decide (o = 0))
    by_cases h : o = 0
    · rw [decide_eq_true h, decide_eq_true (by omega)]; rfl
    · rw [decide_eq_false h, decide_eq_false (by omega)]; rfl
  | [], c :: cs, o, h => by simp at h
  | u :: us, [], o, h => by simp at h
  | u :: us, c :: cs, o, h => by
    have hl : us.length = cs.length := by simpa using h
    show (if okc c = false then false else if 2 * o + rise u + rise (decide (c = 111)) < 0 then false else lb (2 * o + rise u + rise (decide (c = 111))) us cs) = ((okc c && cs.all okc) && (if o + ust u (decide (c = 111)) < 0 then false else bn (o + ust u (decide (c = 111))) us (bls cs)))
    cases hc : okc c with
    | false => rfl
    | true =>
      rw [if_neg (by decide)]
      have e := rise_two u (decide (c = 111))
      have e2 : 2 * o + rise u + rise (decide (c = 111)) = 2 * (o + ust u (decide (c = 111))) := by omega
      rw [e2, lb_eq us cs _ hl, Bool.true_and]
      by_cases hn : o + ust u (decide (c = 111)) < 0
      · rw [if_pos hn, if_pos (by omega), Bool.and_false]
      · rw [if_neg hn, if_neg (by omega)]
/-- whether x is beneath the row of bs -/
def bnB (bs : List Bool) (cs : List Nat) : Bool := decide (cs.length = bs.length) && (cs.all okc && bn 0 bs (bls cs))
def BnB (K : PySem.W.Frag) (H : Hp) (bs : List Bool) (x : V) (b : Bool) : Prop := (NoTxt K H x ∧ b = false) ∨ ∃ cs : List Nat, x = .str (rt cs) ∧ cs.length ≤ 10000 ∧ b = bnB bs cs
theorem bnB_same {K : PySem.W.Frag} {H H' : Hp} {bs : List Bool} {x : V} {b : Bool} (s : Same H H') (h : BnB K H bs x b) : BnB K H' bs x b := h.imp (fun ⟨q, e⟩ => ⟨notxt_same s q, e⟩) id
theorem tx_rt (bs : List Bool) : tx bs = rt (bs.map cd) := ext_str (by rw [tx_list, rt_list])
theorem bls_tx (bs : List Bool) : bls (bs.map cd) = bs := by
  unfold bls
  rw [List.map_map]
  conv => rhs; rw [← List.map_id bs]
  congr 1
  funext b
  cases b <;> rfl
theorem okc_map (bs : List Bool) : (bs.map cd).all okc = true := by
  rw [List.all_map, List.all_eq_true]
  exact fun b _ => okc_cd b
theorem okc_row {cs : List Nat} (h : cs.all okc = true) : rt cs = tx (bls cs) := by
  rw [tx_rt]
  congr 1
  unfold bls
  rw [List.map_map]
  conv => lhs; rw [← List.map_id cs]
  apply List.map_congr_left
  intro c hc
  have := List.all_eq_true.mp h c hc
  unfold okc at this
  simp only [Bool.or_eq_true, decide_eq_true_eq] at this
  rcases this with rfl | rfl <;> rfl
theorem bnB_tx (bs ls : List Bool) : bnB bs (ls.map cd) = (decide (ls.length = bs.length) && bn 0 bs ls) := by
  unfold bnB
  rw [List.length_map, okc_map, bls_tx, Bool.true_and]
end HopR

set_option Elab.async false
set_option linter.all false
set_option maxRecDepth 100000
namespace HopR
open PySem L2
/-! ### how many ways lead on from each height -/
def geti (L : List Int) (i : Int) : Int := if 0 ≤ i ∧ i < (L.length : Int) then L.getD i.toNat 0 else 0
def own (b : Bool) (L : List Int) : List Int := (List.range L.length).map fun h : Nat => geti L ((h : Int) + (rise b - 1)) + geti L ((h : Int) + (rise b + 1))
def tab (L0 : List Int) : List Bool → List (List Int)
  | [] => [L0]
  | b :: bs => own b ((tab L0 bs).headD []) :: tab L0 bs
theorem own_len (b : Bool) (L : List Int) : (own b L).length = L.length := by
  unfold own
  rw [List.length_map, List.length_range]
theorem own_at {b : Bool} {L : List Int} {h : Nat} (hh : h < L.length) : geti (own b L) (h : Int) = geti L ((h : Int) + (rise b - 1)) + geti L ((h : Int) + (rise b + 1)) := by
  conv => lhs; unfold geti
  rw [if_pos ⟨by omega, by rw [own_len]; omega⟩]
  unfold own
  rw [Int.toNat_natCast, List.getD_eq_getElem?_getD, List.getElem?_map, List.getElem?_range hh]
  rfl
/-- the table from the row's beginning on -/
def hd (L0 : List Int) (bs : List Bool) : List Int := (tab L0 bs).headD []
theorem tab_hd (L0 : List Int) (bs : List Bool) : ∃ r, tab L0 bs = hd L0 bs :: r := by
  cases bs with
  | nil => exact ⟨[], rfl⟩
  | cons b r => exact ⟨tab L0 r, rfl⟩
theorem hd_cons (L0 : List Int) (b : Bool) (bs : List Bool) : hd L0 (b :: bs) = own b (hd L0 bs) := rfl
theorem hd_len (L0 : List Int) : ∀ bs : List Bool, (hd L0 bs).length = L0.length
  | [] => rfl
  | b :: r => by rw [hd_cons, own_len, hd_len L0 r]
theorem tab_len (L0 : List Int) : ∀ bs : List Bool, (tab L0 bs).length = bs.length + 1
  | [] => rfl
  | b :: r => by
    show (tab L0 r).length + 1 = r.length + 1 + 1
    rw [tab_len L0 r]
theorem tab_at (L0 : List Int) : ∀ (bs : List Bool) (k : Nat), k ≤ bs.length → (tab L0 bs)[k]? = some (hd L0 (bs.drop k))
  | bs, 0, _ => by
    obtain ⟨r, e⟩ := tab_hd L0 bs
    rw [e]
    rfl
  | [], k + 1, h => by simp at h
  | b :: r, k + 1, h => by
    show (tab L0 r)[k]? = some (hd L0 (r.drop k))
    exact tab_at L0 r k (by simpa using h)
theorem geti_nn {L : List Int} (h : ∀ x ∈ L, 0 ≤ x) (i : Int) : 0 ≤ geti L i := by
  unfold geti
  split
  · rw [List.getD_eq_getElem?_getD]
    cases e : L[i.toNat]? with
    | none => exact Int.le_refl _
    | some x => exact h x (List.mem_of_getElem? e)
  · exact Int.le_refl _
theorem own_nn {b : Bool} {L : List Int} (h : ∀ x ∈ L, 0 ≤ x) : ∀ x ∈ own b L, 0 ≤ x := by
  intro x hx
  obtain ⟨i, _, rfl⟩ := List.mem_map.mp hx
  have h1 := geti_nn h ((i : Int) + (rise b - 1))
  have h2 := geti_nn h ((i : Int) + (rise b + 1))
  omega
theorem hd_nn {L0 : List Int} (h : ∀ x ∈ L0, 0 ≤ x) : ∀ bs : List Bool, ∀ x ∈ hd L0 bs, 0 ≤ x
  | [] => h
  | b :: r => by
    rw [hd_cons]
    exact own_nn (hd_nn h r)
/-- something always leads on from height 0 -/
theorem hd_zero {L0 : List Int} (h : ∀ x ∈ L0, 0 ≤ x) (h0 : 0 < geti L0 0) (hl : 0 < L0.length) : ∀ bs : List Bool, 0 < geti (hd L0 bs) 0
  | [] => h0
  | b :: r => by
    have ih := hd_zero h h0 hl r
    have e := own_at (b := b) (L := hd L0 r) (h := 0) (by rw [hd_len]; exact hl)
    rw [hd_cons]
    have e' : geti (own b (hd L0 r)) 0 = geti (own b (hd L0 r)) ((0 : Nat) : Int) := rfl
    rw [e', e]
    have n1 := geti_nn (hd_nn h r) (((0 : Nat) : Int) + (rise b - 1))
    have n2 := geti_nn (hd_nn h r) (((0 : Nat) : Int) + (rise b + 1))
    cases b with
    | true =>
      have : (((0 : Nat) : Int) + (rise true - 1)) = 0 := rfl
      rw [this] at n1 ⊢
      omega
    | false =>
      have : (((0 : Nat) : Int) + (rise false + 1)) = 0 := rfl
      rw [this] at n2 ⊢
      omega
theorem geti_at {L : List Int} {j : Nat} (h : j < L.length) : atI (L.map V.int) (j : Int) = some (.int (geti L (j : Int))) := atI_nat (by
  unfold geti
  rw [if_pos ⟨by omega, by omega⟩, List.getElem?_map, List.getD_eq_getElem?_getD, Int.toNat_natCast, List.getElem?_eq_getElem h]
  rfl)
/-! ### lists of lists -/
def Lsts (H : Hp) (o : Addr) : List (List Int) → List V → Prop
  | [], vs => vs = []
  | L :: r, vs => ∃ p vr, vs = .ref p :: vr ∧ p ≠ o ∧ H p = some (.lst (L.map V.int)) ∧ Lsts H o r vr
theorem lsts_same {H H' : Hp} {o : Addr} (s : Same H H') : ∀ {Ls : List (List Int)} {vs : List V}, Lsts H o Ls vs → Lsts H' o Ls vs
  | [], _, h => h
  | L :: r, _, ⟨p, vr, e, n, h1, h2⟩ => ⟨p, vr, e, n, s _ _ h1, lsts_same s h2⟩
theorem lsts_upd {H : Hp} {o : Addr} {x : HO} : ∀ {Ls : List (List Int)} {vs : List V}, Lsts H o Ls vs → Lsts (upd H o x) o Ls vs
  | [], _, h => h
  | L :: r, _, ⟨p, vr, e, n, h1, h2⟩ => ⟨p, vr, e, n, by rw [upd_ne n]; exact h1, lsts_upd h2⟩
theorem lsts_len {H : Hp} {o : Addr} : ∀ {Ls : List (List Int)} {vs : List V}, Lsts H o Ls vs → vs.length = Ls.length
  | [], _, h => by
    cases h
    rfl
  | L :: r, _, ⟨p, vr, e, _, _, h2⟩ => by rw [e, List.length_cons, List.length_cons, lsts_len h2]
theorem lsts_at {H : Hp} {o : Addr} : ∀ {Ls : List (List Int)} {vs : List V} {k : Nat} {L : List Int}, Lsts H o Ls vs → Ls[k]? = some L → ∃ p, vs[k]? = some (.ref p) ∧ H p = some (.lst (L.map V.int))
  | [], _, k, L, h, e => by simp at e
  | M :: r, _, 0, L, ⟨p, vr, ev, _, h1, h2⟩, e => by
    have : M = L := Option.some.inj e
    subst this
    exact ⟨p, by rw [ev]; rfl, h1⟩
  | M :: r, _, k + 1, L, ⟨p, vr, ev, _, h1, h2⟩, e => by
    obtain ⟨p', e1, e2⟩ := lsts_at (k := k) h2 e
    exact ⟨p', by rw [ev]; exact e1, e2⟩
end HopR

set_option Elab.async false
set_option linter.all false
set_option maxRecDepth 100000
namespace HopR
open PySem L2
/-! ### lists of new tuples -/
def TupG {α : Type} (H : Hp) (f : α → List V) : List α → List V → Prop
  | [], vs => vs = []
  | a :: r, vs => ∃ p vr, vs = .ref p :: vr ∧ H p = some (.tup (f a)) ∧ TupG H f r vr
section
variable {α : Type} {H H' : Hp} {f : α → List V}
theorem tupG_same (s : Same H H') : ∀ {as : List α} {vs : List V}, TupG H f as vs → TupG H' f as vs
  | [], _, h => h
  | _ :: _, _, ⟨p, vr, e, h1, h2⟩ => ⟨p, vr, e, s _ _ h1, tupG_same s h2⟩
theorem tupG_upd {D : Addr} {xs : List V} {o : HO} (hD : H D = some (.lst xs)) : ∀ {as : List α} {vs : List V}, TupG H f as vs → TupG (upd H D o) f as vs
  | [], _, h => h
  | _ :: _, _, ⟨p, vr, e, h1, h2⟩ => ⟨p, vr, e, by
      rw [upd_ne (fun z => by rw [z, hD] at h1; cases h1)]
      exact h1, tupG_upd hD h2⟩
theorem tupG_add {a : α} {p : Addr} (h1 : H p = some (.tup (f a))) : ∀ {as : List α} {vs : List V}, TupG H f as vs → TupG H f (as ++ [a]) (vs ++ [.ref p])
  | [], _, h => by
    cases h
    exact ⟨p, [], rfl, h1, rfl⟩
  | _ :: _, _, ⟨p', vr, e, h2, h3⟩ => ⟨p', vr ++ [.ref p], by rw [e]; rfl, h2, tupG_add h1 h3⟩
theorem tupG_len : ∀ {as : List α} {vs : List V}, TupG H f as vs → vs.length = as.length
  | [], _, h => by
    cases h
    rfl
  | _ :: _, _, ⟨_, vr, e, _, h2⟩ => by rw [e, List.length_cons, List.length_cons, tupG_len h2]
theorem tupG_at : ∀ {as : List α} {vs : List V} {k : Nat} {a : α}, TupG H f as vs → as[k]? = some a → ∃ p, vs[k]? = some (.ref p) ∧ H p = some (.tup (f a))
  | [], _, k, a, h, e => by simp at e
  | b :: r, _, 0, a, ⟨p, vr, ev, h1, h2⟩, e => by
    have : b = a := Option.some.inj e
    subst this
    exact ⟨p, by rw [ev]; rfl, h1⟩
  | b :: r, _, k + 1, a, ⟨p, vr, ev, h1, h2⟩, e => by
    obtain ⟨p', e1, e2⟩ := tupG_at (k := k) h2 e
    exact ⟨p', by rw [ev]; exact e1, e2⟩
end
/-! ### from height to height -/
theorem geti_pos {L : List Int} {i : Int} (h : 0 < geti L i) : 0 ≤ i ∧ i < (L.length : Int) := by
  unfold geti at h
  split at h
  · assumption
  · omega
/-- the sign l leads on from height h -/
def leads (L : List Int) (h : Int) (u l : Bool) : Bool := decide (0 ≤ h + rise u + rise l) && decide (0 < geti L (h + rise u + rise l))
theorem some_leads {L : List Int} {h : Nat} {u : Bool} (hh : h < L.length) (hp : 0 < geti (own u L) (h : Int)) : ∃ l, leads L (h : Int) u l = true := by
  rw [own_at hh] at hp
  by_cases h1 : 0 < geti L ((h : Int) + (rise u - 1))
  · refine ⟨false, ?_⟩
    have e : (h : Int) + rise u + rise false = (h : Int) + (rise u - 1) := by
      show (h : Int) + rise u + (-1) = _
      omega
    unfold leads
    rw [e, decide_eq_true (geti_pos h1).1, decide_eq_true h1]
    rfl
  · have h2 : 0 < geti L ((h : Int) + (rise u + 1)) := by omega
    refine ⟨true, ?_⟩
    have e : (h : Int) + rise u + rise true = (h : Int) + (rise u + 1) := by
      show (h : Int) + rise u + 1 = _
      omega
    unfold leads
    rw [e, decide_eq_true (geti_pos h2).1, decide_eq_true h2]
    rfl
end HopR

set_option Elab.async false
set_option linter.all false
set_option maxRecDepth 100000
namespace HopW
/-! ### weights of words -/
/-- a line's numbers, each with g of its place -/
def lp (g : Nat → Rat) : List Nat → Rat
  | [] => 0
  | m :: l => (m : Rat) * g 0 + lp (fun b => g (b + 1)) l
def tp (x : Rat) (g : Nat → Rat) : List (List Nat) → Rat
  | [] => 0
  | l :: t => lp g l + x * tp x g t
def sfx : List Nat → List Nat
  | [] => []
  | m :: l => (m + l.sum) :: sfx l
def go (s : Nat) : List (List Nat) → List (List Nat)
  | [] => [[s]]
  | l :: t => (s :: sfx l.tail) :: go l.sum t
def sg (h : Nat → Rat) : Nat → Rat
  | 0 => 0
  | b + 1 => h 0 + sg (fun j => h (j + 1)) b
def fg (x : Rat) (g : Nat → Rat) : Nat → Rat := fun b => x * g 0 + sg (fun j => g (j + 1)) b
def stT (T : List (List Nat)) (b : Bool) : List (List Nat) := if b then T.map (0 :: ·) else go 0 T
def gf (x : Rat) : List Bool → (Nat → Rat) → (Nat → Rat)
  | [], g => g
  | true :: w, g => fun b => gf x w g (b + 1)
  | false :: w, g => fg x (gf x w g)
theorem cast_add (a b : Nat) : ((a + b : Nat) : Rat) = (a : Rat) + (b : Rat) := by exact_mod_cast rfl
theorem lp_lin (c : Rat) (h : Nat → Rat) : ∀ l : List Nat, lp (fun b => c + h b) l = c * (l.sum : Rat) + lp h l := by
  intro l
  induction l generalizing h with
  | nil => show (0 : Rat) = c * ((0 : Nat) : Rat) + 0; grind
  | cons m l ih =>
    show (m : Rat) * (c + h 0) + lp (fun b => c + h (b + 1)) l = c * ((m :: l).sum : Rat) + ((m : Rat) * h 0 + lp (fun b => h (b + 1)) l)
    rw [ih (fun b => h (b + 1)), List.sum_cons, cast_add]
    grind
theorem lp_sfx (h : Nat → Rat) (m : Nat) : ∀ l : List Nat, lp (sg h) (m :: l) = lp h (sfx l) := by
  intro l
  induction l generalizing h m with
  | nil => show (m : Rat) * 0 + 0 = 0; grind
  | cons m' l ih =>
    show (m : Rat) * 0 + lp (fun b => h 0 + sg (fun j => h (j + 1)) b) (m' :: l) = ((m' + l.sum : Nat) : Rat) * h 0 + lp (fun b => h (b + 1)) (sfx l)
    rw [lp_lin, ih, List.sum_cons]
    grind
theorem lp_fg (x : Rat) (g : Nat → Rat) (l : List Nat) : lp (fg x g) l = x * ((l.sum : Rat) * g 0) + lp (fun b => g (b + 1)) (sfx l.tail) := by
  unfold fg
  rw [lp_lin]
  cases l with
  | nil => show x * g 0 * ((0 : Nat) : Rat) + 0 = x * (((0 : Nat) : Rat) * g 0) + 0; grind
  | cons m l =>
    rw [lp_sfx, List.tail_cons]
    grind
theorem tp_go (x : Rat) (g : Nat → Rat) : ∀ (T : List (List Nat)) (s : Nat), tp x g (go s T) = (s : Rat) * g 0 + tp x (fg x g) T := by
  intro T
  induction T with
  | nil =>
    intro s
    show ((s : Rat) * g 0 + 0) + x * 0 = (s : Rat) * g 0 + 0
    grind
  | cons l t ih =>
    intro s
    show ((s : Rat) * g 0 + lp (fun b => g (b + 1)) (sfx l.tail)) + x * tp x g (go l.sum t) = (s : Rat) * g 0 + (lp (fg x g) l + x * tp x (fg x g) t)
    rw [ih, lp_fg]
    grind
theorem tp_bead (x : Rat) (g : Nat → Rat) : ∀ T : List (List Nat), tp x g (T.map (0 :: ·)) = tp x (fun b => g (b + 1)) T := by
  intro T
  induction T with
  | nil => rfl
  | cons l t ih =>
    show (((0 : Nat) : Rat) * g 0 + lp (fun b => g (b + 1)) l) + x * tp x g (t.map (0 :: ·)) = lp (fun b => g (b + 1)) l + x * tp x (fun b => g (b + 1)) t
    rw [ih]
    grind
theorem tp_st (x : Rat) (g : Nat → Rat) (T : List (List Nat)) (b : Bool) : tp x g (stT T b) = tp x (gf x [b] g) T := by
  cases b with
  | true => exact tp_bead x g T
  | false =>
    show tp x g (go 0 T) = tp x (fg x g) T
    rw [tp_go]
    show ((0 : Nat) : Rat) * g 0 + tp x (fg x g) T = _
    grind
theorem gf_app (x : Rat) (g : Nat → Rat) : ∀ u v : List Bool, gf x (u ++ v) g = gf x u (gf x v g)
  | [], _ => rfl
  | true :: u, v => by
    show (fun b => gf x (u ++ v) g (b + 1)) = fun b => gf x u (gf x v g) (b + 1)
    rw [gf_app x g u v]
  | false :: u, v => by
    show fg x (gf x (u ++ v) g) = fg x (gf x u (gf x v g))
    rw [gf_app x g u v]
theorem tp_fold (x : Rat) (g : Nat → Rat) : ∀ (w : List Bool) (T : List (List Nat)), tp x g (w.foldl stT T) = tp x (gf x w g) T := by
  intro w
  induction w with
  | nil => intro T; rfl
  | cons b w ih =>
    intro T
    show tp x g (w.foldl stT (stT T b)) = _
    rw [ih, tp_st]
    show tp x (gf x [b] (gf x w g)) T = _
    rw [← gf_app]
    rfl
def tbl (w : List Bool) : List (List Nat) := w.foldl stT [[1]]
/-- the weight of a word: x for each free place left, y for each bead -/
def wt (x y : Rat) (w : List Bool) : Rat := gf x w (fun b => y ^ b) 0
theorem wt_tbl (x y : Rat) (w : List Bool) : tp x (fun b => y ^ b) (tbl w) = wt x y w := by
  unfold tbl wt
  rw [tp_fold]
  show (((1 : Nat) : Rat) * gf x w (fun b => y ^ b) 0 + 0) + x * 0 = _
  grind
/-! ### what the weights keep -/
theorem sg_add (h k : Nat → Rat) : ∀ b, sg (fun j => h j + k j) b = sg h b + sg k b := by
  intro b
  induction b generalizing h k with
  | zero => show (0 : Rat) = 0 + 0; grind
  | succ b ih =>
    show h 0 + k 0 + sg (fun j => h (j + 1) + k (j + 1)) b = (h 0 + sg (fun j => h (j + 1)) b) + (k 0 + sg (fun j => k (j + 1)) b)
    rw [ih]
    grind
theorem sg_mul (c : Rat) (h : Nat → Rat) : ∀ b, sg (fun j => c * h j) b = c * sg h b := by
  intro b
  induction b generalizing h with
  | zero => show (0 : Rat) = c * 0; grind
  | succ b ih =>
    show c * h 0 + sg (fun j => c * h (j + 1)) b = c * (h 0 + sg (fun j => h (j + 1)) b)
    rw [ih]
    grind
theorem gf_add (x : Rat) (h k : Nat → Rat) : ∀ (w : List Bool) (b : Nat), gf x w (fun j => h j + k j) b = gf x w h b + gf x w k b := by
  intro w
  induction w with
  | nil => intro b; rfl
  | cons s w ih =>
    intro b
    cases s with
    | true => exact ih (b + 1)
    | false =>
      show x * gf x w (fun j => h j + k j) 0 + sg (fun j => gf x w (fun j => h j + k j) (j + 1)) b = (x * gf x w h 0 + sg (fun j => gf x w h (j + 1)) b) + (x * gf x w k 0 + sg (fun j => gf x w k (j + 1)) b)
      rw [ih 0, show (fun j => gf x w (fun j => h j + k j) (j + 1)) = fun j => gf x w h (j + 1) + gf x w k (j + 1) from funext fun j => ih (j + 1), sg_add]
      grind
theorem gf_mul (x c : Rat) (h : Nat → Rat) : ∀ (w : List Bool) (b : Nat), gf x w (fun j => c * h j) b = c * gf x w h b := by
  intro w
  induction w with
  | nil => intro b; rfl
  | cons s w ih =>
    intro b
    cases s with
    | true => exact ih (b + 1)
    | false =>
      show x * gf x w (fun j => c * h j) 0 + sg (fun j => gf x w (fun j => c * h j) (j + 1)) b = c * (x * gf x w h 0 + sg (fun j => gf x w h (j + 1)) b)
      rw [ih 0, show (fun j => gf x w (fun j => c * h j) (j + 1)) = fun j => c * gf x w h (j + 1) from funext fun j => ih (j + 1), sg_mul]
      grind
theorem sg_last (h : Nat → Rat) : ∀ b, sg h (b + 1) = sg h b + h b := by
  intro b
  induction b generalizing h with
  | zero => show h 0 + 0 = 0 + h 0; grind
  | succ b ih =>
    show h 0 + sg (fun j => h (j + 1)) (b + 1) = (h 0 + sg (fun j => h (j + 1)) b) + h (b + 1)
    rw [ih]
    grind
/-- a bead that comes out is gone, or the free place is -/
theorem wt_of (x y : Rat) (u v : List Bool) : wt x y (u ++ true :: false :: v) = wt x y (u ++ true :: v) + wt x y (u ++ false :: v) := by
  unfold wt
  rw [gf_app, gf_app, gf_app, ← gf_add]
  congr 1
  funext b
  show x * gf x v (fun b => y ^ b) 0 + sg (fun j => gf x v (fun b => y ^ b) (j + 1)) (b + 1) = gf x v (fun b => y ^ b) (b + 1) + (x * gf x v (fun b => y ^ b) 0 + sg (fun j => gf x v (fun b => y ^ b) (j + 1)) b)
  rw [sg_last]
  grind
theorem wt_free (x y : Rat) (v : List Bool) : wt x y (false :: v) = x * wt x y v := by
  show x * gf x v (fun b => y ^ b) 0 + 0 = x * gf x v (fun b => y ^ b) 0
  grind
theorem wt_bead (x y : Rat) (v : List Bool) : wt x y (v ++ [true]) = y * wt x y v := by
  unfold wt
  rw [gf_app, ← gf_mul]
  congr 1
  funext b
  show y ^ (b + 1) = y * y ^ b
  rw [Rat.pow_succ, Rat.mul_comm]
theorem sg_pow {x y : Rat} (h : x * y = x + y) : ∀ b, x + sg (fun j => y ^ (j + 1)) b = x * y ^ b := by
  intro b
  induction b with
  | zero => show x + 0 = x * y ^ 0; rw [Rat.pow_zero]; grind
  | succ b ih =>
    rw [sg_last, Rat.pow_succ]
    have e : x * (y ^ b * y) = y ^ b * (x * y) := by grind
    rw [e, h]
    grind
theorem gf_one {x y : Rat} (h : x * y = x + y) : ∀ (w : List Bool) (b : Nat), gf x w (fun b => y ^ b) b = x ^ (w.count false) * y ^ (w.count true) * y ^ b := by
  intro w
  induction w with
  | nil => intro b; show y ^ b = x ^ 0 * y ^ 0 * y ^ b; rw [Rat.pow_zero, Rat.pow_zero]; grind
  | cons s w ih =>
    intro b
    cases s with
    | true =>
      show gf x w (fun b => y ^ b) (b + 1) = _
      rw [ih, List.count_cons_of_ne (by decide), List.count_cons_self, Rat.pow_succ, Rat.pow_succ]
      grind
    | false =>
      show x * gf x w (fun b => y ^ b) 0 + sg (fun j => gf x w (fun b => y ^ b) (j + 1)) b = _
      rw [ih, show (fun j => gf x w (fun b => y ^ b) (j + 1)) = fun j => (x ^ (w.count false) * y ^ (w.count true)) * y ^ (j + 1) from funext fun j => ih (j + 1), sg_mul, List.count_cons_self, List.count_cons_of_ne (by decide), Rat.pow_succ, Rat.pow_zero]
      have e := sg_pow h b
      grind
theorem wt_one {x y : Rat} (h : x * y = x + y) (w : List Bool) : wt x y w = x ^ (w.count false) * y ^ (w.count true) := by
  unfold wt
  rw [gf_one h, Rat.pow_zero]
  grind
/-! ### all heaps counted -/
def sn (h : Nat → Nat) : Nat → Nat
  | 0 => 0
  | b + 1 => h 0 + sn (fun j => h (j + 1)) b
def gn : List Bool → Nat → Nat
  | [], _ => 1
  | true :: w, b => gn w (b + 1)
  | false :: w, b => sn (gn w) (b + 1)
theorem sn_sg (h : Nat → Nat) : ∀ b, ((sn h b : Nat) : Rat) = sg (fun j => (h j : Rat)) b := by
  intro b
  induction b generalizing h with
  | zero => rfl
  | succ b ih =>
    show ((h 0 + sn (fun j => h (j + 1)) b : Nat) : Rat) = (h 0 : Rat) + sg (fun j => (h (j + 1) : Rat)) b
    rw [cast_add, ih]
theorem gn_gf : ∀ (w : List Bool) (b : Nat), ((gn w b : Nat) : Rat) = gf 1 w (fun b => 1 ^ b) b := by
  intro w
  induction w with
  | nil =>
    intro b
    show ((1 : Nat) : Rat) = 1 ^ b
    induction b with
    | zero => rfl
    | succ b ih => rw [Rat.pow_succ, ← ih, Rat.mul_one]
  | cons s w ih =>
    intro b
    cases s with
    | true => exact ih (b + 1)
    | false =>
      show ((sn (gn w) (b + 1) : Nat) : Rat) = 1 * gf 1 w (fun b => 1 ^ b) 0 + sg (fun j => gf 1 w (fun b => 1 ^ b) (j + 1)) b
      rw [sn_sg]
      show (gn w 0 : Rat) + sg (fun j => (gn w (j + 1) : Rat)) b = _
      rw [ih 0, show (fun j => (gn w (j + 1) : Rat)) = fun j => gf 1 w (fun b => 1 ^ b) (j + 1) from funext fun j => ih (j + 1)]
      grind
theorem gn_wt (w : List Bool) : ((gn w 0 : Nat) : Rat) = wt 1 1 w := gn_gf w 0
end HopW

set_option Elab.async false
set_option linter.all false
set_option maxRecDepth 100000
set_option exponentiation.threshold 200000
namespace Hop
open PySem L2 HopR
def top (i : Nat) : Stmt := PySem.Challenge.pw_hopline_k34_heaps_by_numbers.main.body.getD i (.Pass ⟨0, 0, 0, 0⟩)
abbrev sIsWhole : Stmt := top 7
abbrev sNeedNum : Stmt := top 8
abbrev sIsRow : Stmt := top 14
abbrev sNeedRow : Stmt := top 15
abbrev sCells : Stmt := top 17
abbrev sFilled : Stmt := top 18
abbrev sDue : Stmt := top 19
abbrev sIsHeap : Stmt := top 20
abbrev sNeedHeap : Stmt := top 21
abbrev sCounts : Stmt := top 24
abbrev sHeaps : Stmt := top 25
abbrev sHeapBy : Stmt := top 26
abbrev sHeapAt : Stmt := top 27
abbrev sHeapNum : Stmt := top 28
abbrev sHeapsOf : Stmt := top 29
abbrev sCellAt : Stmt := top 31
abbrev sDrawn : Stmt := top 32
abbrev sLRow : Stmt := top 33
abbrev sLCourse : Stmt := top 34
abbrev sLAll : Stmt := top 35
abbrev sLKind : Stmt := top 36
abbrev sLSmall : Stmt := top 37
abbrev sLGreat : Stmt := top 38
abbrev sLaw : Stmt := top 39
structure TxtP (K : PySem.W.Frag) (mg : Str → Option Value) (C : Addr) : Prop where
  len : mg "len" = none
  range : mg "range" = none
  isi : mg "isinstance" = none
  int : mg "int" = none
  bool : mg "bool" = none
section
variable {P : Program} {w : World} {K : PySem.W.Frag} {mg : Str → Option Value} {base : Heap} {C d : Addr} {es : Array DictEntry} {n : Nat}
def spWhole : Sp := fun vs H Q _ => ∃ i : Int, vs = [.int i] ∧ Q (.bl true) H
theorem scWhole : FnScope ["thing"] ["thing"] (defScope sIsWhole) := ⟨rfl, rfl, rfl, by decide +kernel, rfl, by decide +kernel, by decide +kernel⟩
theorem ok_whole {f : Addr} {fd : FuncData} {k : Nat} (F : Fun K "is_whole" "is_whole" sIsWhole f fd) (T : TxtP K mg C) : FnOk P w K mg base CX0 (k + 1) f fd ["thing"] spWhole := by
  refine F.ok scWhole (fun vs H Q E h => ?_) (fun cdv A outer s H vs Q E hr h => ?_)
  · obtain ⟨i, rfl, _⟩ := h
    rfl
  · obtain ⟨i, rfl, q⟩ := h
    refine ⟨_, pss_one (ps_ret (pe_and (pe_callB call_isi (by rfl) T.isi (by decide +kernel) (pa_cons (pv 0) (pa_cons (pe_bltn (v := .ty "int") (by rfl) T.int (by decide +kernel) rfl) pa_nil)))
      (pe_one (pe_not (pe_callB call_isi (by rfl) T.isi (by decide +kernel) (pa_cons (pv 0) (pa_cons (pe_bltn (v := .ty "bool") (by rfl) T.bool (by decide +kernel) rfl) pa_nil))))))), ?_⟩
    refine ⟨.int i, rfl, .int i, .ty "int", .type "int", .type "int", true, rfl, .ty _, .base (.int _), kit_ty (by decide +kernel), true, rfl, ?_⟩
    exact ⟨.int i, rfl, .int i, .ty "bool", .type "int", .type "bool", false, rfl, .ty _, .base (.int _), kit_ty (by decide +kernel), false, rfl, q⟩
end
structure TxtR (K : PySem.W.Frag) (w : World) (mg : Str → Option Value) (d : Addr) (es : Array DictEntry) (n : Nat) : Prop where
  len : mg "len" = none
  range : mg "range" = none
  all : mg "all" = none
  isi : mg "isinstance" = none
  str : mg "str" = none
  int : mg "int" = none
  bool : mg "bool" = none
  reversed : mg "reversed" = none
  sorted : mg "sorted" = none
  list : mg "list" = none
  repr : mg "repr" = none
  bead : ∃ t, mg "BEAD" = some (.str "o" t)
  free : ∃ t, mg "FREE" = some (.str "." t)
  most : ∃ t, mg "MOST_PLACES" = some (.int 30 t)
  os : mg "OTHER_SIGN" = some (.ref d)
  D : KDict K w d es n
  osO : ∃ t, PySem.W.nsIn K d "o" = some (some (.str "." t))
  osF : ∃ t, PySem.W.nsIn K d "." = some (some (.str "o" t))
/-- a text in a written dict -/
def rInKd (K : PySem.W.Frag) (d : Addr) : R2 := fun x y H Q => ∃ (z : Str) (r : Option Value), x = .str z ∧ y = .ref d ∧ PySem.W.nsIn K d z = some r ∧ Q (.bl r.isSome) H
theorem op_inKd {X : Cx} {d : Addr} {es : Array DictEntry} {n : Nat} (D : KDict X.K X.w d es n) : OpR X (compareOp .In) (rInKd X.K d) := op_in_kd D
def spIsRow : Sp := fun vs H Q _ => ∃ bs, vs = [.str (tx bs)] ∧ Row bs ∧ ∀ H', Same H H' → Q (.bl true) H'
theorem scIsRow : FnScope ["thing", "sign"] ["thing"] (defScope sIsRow) := ⟨rfl, rfl, rfl, by decide +kernel, rfl, by decide +kernel, by decide +kernel⟩
section
variable {P : Program} {w : World} {K : PySem.W.Frag} {mg : Str → Option Value} {base : Heap} {C d : Addr} {es : Array DictEntry} {n : Nat}
theorem in_os (T : TxtR K w mg d es n) (b : Bool) : ∃ r, PySem.W.nsIn K d (tx [b]) = some (some r) ∧ ∃ t, r = .str (tx [!b]) t := by
  cases b with
  | true =>
    obtain ⟨t, e⟩ := T.osO
    rw [tx_o] at e
    exact ⟨_, e, t, by rw [tx_f]; rfl⟩
  | false =>
    obtain ⟨t, e⟩ := T.osF
    rw [tx_f] at e
    exact ⟨_, e, t, by rw [tx_o]; rfl⟩
theorem ok_isrow {f : Addr} {fd : FuncData} {k : Nat} (F : Fun K "is_row" "is_row" sIsRow f fd) (T : TxtR K w mg d es n) : FnOk P w K mg base CX0 (k + 1) f fd ["thing"] spIsRow := by
  refine F.ok scIsRow (fun vs H Q E h => ?_) (fun cdv A outer s H vs Q E hr h => ?_)
  · obtain ⟨bs, rfl, _⟩ := h
    rfl
  · obtain ⟨bs, rfl, hR, q⟩ := h
    have nd := scIsRow.nd
    obtain ⟨tm, gm⟩ := T.most
    refine ⟨_, pss_cons (ps_if (PW.pt (pw_or (pt_not (pt_val (pe_callB call_isi (by rfl) T.isi (by decide +kernel) (pa_cons (pv 0) (pa_cons (pe_bltn (v := .ty "str") (by rfl) T.str (by decide +kernel) rfl) pa_nil)))))
          (pw_or (pt_cmpR op_lt (pe_callB call_len_str (by rfl) T.len PySem.boot_len (pa_cons (pv 0) pa_nil)) pe_int (nomark _))
          (pw_or1 (pt_cmpR op_gt (pe_callB call_len_str (by rfl) T.len PySem.boot_len (pa_cons (pv 0) pa_nil)) (pe_glob (v := .int 30) (by rfl) gm ⟨_, rfl⟩) (nomark _))))))
        (pss_one (ps_ret pe_bl)) pss_nil)
      (pss_one (ps_ret (pe_callB (cr_all rfl) (by rfl) T.all (by decide +kernel) (pa_cons
        (pe_lc (own := [("sign", 1)]) (g := gName 1) (tt := tYes) (te := tOp (rInKd K d) (tVar 1) (tC (.ref d))) rfl nd (pi_str (pv 0)) (blkOk_by (own := [("sign", 1)]) (N := ["thing", "sign"]) (sc := defScope sIsRow) (by decide +kernel))
          (fun _ _ _ _ _ => pg_name (i := 1) nd rfl (Or.inl rfl)) (fun _ _ _ _ _ => pts_nil)
          (fun _ _ _ _ _ => pe_cmpR (op_inKd T.D) (pv 1) (pe_glob (v := .ref d) (by rfl) T.os rfl) (by rfl)))
        pa_nil)))), ?_⟩
    have hz := row_size hR
    refine ⟨.str (tx bs), rfl, .str (tx bs), .ty "str", .type "str", .type "str", true, rfl, .ty _, .base (.str _), kit_ty (by decide +kernel), true, rfl, iteF ?_⟩
    refine ⟨.str (tx bs), rfl, tx bs, rfl, hz, _, _, rfl, rfl, _, rfl, ?_⟩
    rw [tx_len, decide_eq_false (by have := hR.1; omega)]
    refine iteF ⟨.str (tx bs), rfl, tx bs, rfl, hz, _, _, rfl, rfl, _, rfl, ?_⟩
    rw [tx_len, decide_eq_false (by have := hR.2; omega)]
    refine iteF ⟨.str (tx bs), rfl, tx bs, rfl, fun D hD => ?_⟩
    refine lc_tx (bs := bs) (fun i H3 => Same H H3 ∧ H3 D = some (.lst ((List.replicate i true).map V.bl)) ∧ i ≤ 30) ⟨same_upd hD, upd_same, by decide⟩ ?_ ?_
    · rintro i b H3 hb ⟨sm, eD, hi⟩
      obtain ⟨r, e1, t, e2⟩ := in_os T b
      have hi2 : i < bs.length := (List.getElem?_eq_some_iff.mp hb).1
      refine ⟨rfl, .str (tx [b]), rfl, tx [b], some r, rfl, rfl, e1, _, eD, ?_, same_new hD sm, ?_, ?_⟩
      · rw [List.length_map, List.length_replicate]
        exact small1000 (by omega)
      · rw [upd_same, List.replicate_succ', List.map_append]
        rfl
      · have := hR.2
        omega
    · rintro H3 ⟨sm, eD, hi⟩
      refine ⟨D, List.replicate bs.length true, rfl, SqL.of eD, ?_⟩
      have e : (List.replicate bs.length true).all id = true := by simp
      rw [e]
      exact q H3 sm
def spNeed : Sp := fun vs H Q _ => ∃ bs, vs = [.str (tx bs)] ∧ Row bs ∧ ∀ H', Same H H' → Q .non H'
theorem scNeed : FnScope ["thing"] ["thing"] (defScope sNeedRow) := ⟨rfl, rfl, rfl, by decide +kernel, rfl, by decide +kernel, by decide +kernel⟩
theorem ok_need {f f1 : Addr} {fd fd1 : FuncData} {k : Nat} (F : Fun K "need_row" "need_row" sNeedRow f fd) (N1 : Fn K mg "is_row" sIsRow ["thing"] f1 fd1) (T : TxtR K w mg d es n) : FnOk P w K mg base CX0 (k + 2) f fd ["thing"] spNeed := by
  have G1 : FnOk P w K mg base CX0 (k + 1) f1 fd1 ["thing"] spIsRow := ok_isrow N1.F T
  refine F.ok scNeed (fun vs H Q E h => ?_) (fun cdv A outer s H vs Q E hr h => ?_)
  · obtain ⟨bs, rfl, _⟩ := h
    rfl
  · obtain ⟨bs, rfl, hR, q⟩ := h
    refine ⟨_, pss_one (ps_if (pt_not (pt_val (pe_call G1 hr (by rfl) N1.g N1.F.kp N1.b .nil pass0 (pa_cons (pv 0) pa_nil)))) (pss_one ps_never) pss_nil), ?_⟩
    exact ⟨.str (tx bs), rfl, bs, rfl, hR, fun H1 s1 => ⟨true, rfl, iteF (q H1 s1)⟩⟩
end
end Hop

set_option Elab.async false
set_option linter.all false
set_option maxRecDepth 100000
namespace HopR
open PySem PySem.Spec PyProof.Rows L2
/-! ### repr of a list that holds own objects beside data -/
section
variable {X : Cx}
/-- what repr tells of an item of the list at L, n defs deep, now and later -/
def Itm (X : Cx) (n : Nat) (L : Addr) (H : Hp) (x : V) (t : Str) : Prop :=
  ∀ (pins : List (Addr × Obj)) (σ : L2.St) (H1 : Hp) (s : Shared) (u : Value) (base : Nat) (A : Around) (g : List Code) (Q : Str → Shared → Prop), Same H H1 → Inv X pins σ H1 s → RelV x u → base + t.length ≤ sizeLine →
    Room n A → A.frames = X.A.frames → A.guards = some g → (∀ b, b ≠ L → Clear g b) → (∀ s' H2, Inv X pins σ H2 s' → Same H1 H2 → Q t s') → wpAny (model X.prog X.w) A (pyReprUnder base u) Q X.xe s
theorem vals_has {p : Addr} : ∀ {xs : List V} {us : List Value}, Vals xs us → V.ref p ∈ xs → Value.ref p ∈ us
  | _, _, .cons (a := x) (b := y) r t, h => by
    rcases List.mem_cons.mp h with e | h
    · rw [← e] at r
      cases (show y = Value.ref p from r)
      exact List.mem_cons_self ..
    · exact List.mem_cons_of_mem _ (vals_has t h)
theorem all_read {h : Heap} {v : Value} : ∀ {us : List Value} {ds : List PyData} {as : List Addr}, ReadsAll h us ds as → v ∈ us → ∃ d as', Reads h v d as'
  | _, _, _, .cons r t, hm => by
    rcases List.mem_cons.mp hm with e | hm
    · rw [e]
      exact ⟨_, _, r⟩
    · exact all_read t hm
/-- an own object is no datum -/
theorem no_datum {pins : List (Addr × Obj)} {σ : L2.St} {H : Hp} {s : Shared} {p C dx : Addr} {fs : List (Str × V)} (I : Inv X pins σ H s) (hp : H p = some (.ins C dx fs)) {d : PyData} {as : List Addr} : ¬ Reads s.heap (.ref p) d as := by
  obtain ⟨_, J, _⟩ := ins_get I.hok hp
  obtain ⟨od, J, _⟩ := J.look
  have h1 := J.at_
  have h2 := J.cls
  intro r
  cases r with
  | list a b _ _ =>
    rw [h1] at a
    cases a
    rw [h2] at b
    cases b
  | tuple a b _ _ =>
    rw [h1] at a
    cases a
    rw [h2] at b
    cases b
  | dict a b _ _ _ =>
    rw [h1] at a
    cases a
    rw [h2] at b
    cases b
/-- nor is a list that holds one -/
theorem no_datumL {pins : List (Addr × Obj)} {σ : L2.St} {H : Hp} {s : Shared} {L p C dx : Addr} {xs : List V} {fs : List (Str × V)} (I : Inv X pins σ H s) (hL : H L = some (.lst xs)) (hm : V.ref p ∈ xs) (hp : H p = some (.ins C dx fs)) {d : PyData} {as : List Addr} : ¬ Reads s.heap (.ref L) d as := by
  obtain ⟨its, rv, ⟨o, k, ho, hc, hs, hd⟩, _⟩ := I.list (SqL.of hL)
  have hi := vals_has rv hm
  intro r
  cases r with
  | list a _ c e =>
    rw [ho] at a
    cases a
    rw [hd] at c
    cases c
    obtain ⟨d', as', r'⟩ := all_read e (by simpa using hi)
    exact no_datum I hp r'
  | tuple a b _ _ =>
    rw [ho] at a
    cases a
    rw [hc] at b
    exact absurd (Value.type.inj b) (by decide)
  | dict a b _ _ _ =>
    rw [ho] at a
    cases a
    rw [hc] at b
    exact absurd (Value.type.inj b) (by decide)
theorem itm_data {n : Nat} {L : Addr} {H : Hp} {x : V} {d : PyData} (hd : ∀ H1, Same H H1 → Dp X.K H1 x d) (hs : d.showable = true) (hn : d.hasDict = false) (hdep : d.depth ≤ 64) (hz : d.shown.length ≤ sizeLine)
    (hL : ∀ pins σ H1 s, Same H H1 → Inv X pins σ H1 s → ∀ e as, ¬ Reads s.heap (.ref L) e as) : Itm X n L H x d.shown := by
  intro pins σ H1 s u base A g Q sm I ru hb room fr hg hcl hQ
  obtain ⟨as, rd⟩ := Dp.reads I d x u (hd H1 sm) ru
  obtain ⟨bs, few, tells⟩ := ReprK.of_reads (prog := X.prog) (w := X.w) rd hs (fun e => absurd (hn.symm.trans e) (by decide)) hz
  refine tells base hb A g X.xe s Q hg (fun b hb' => hcl b fun e => ?_) (by have := room.un; omega) (fun _ _ e => e) (fun h' tk hk => hQ _ H1 (I.kept hk) (Same.refl _))
  obtain ⟨d', as', r', _⟩ := few b hb'
  rw [e] at r'
  exact hL _ _ _ _ sm I _ _ r'
/-- a special method found in an own class, called by `last` -/
theorem special_own {M : Model} {A : Around} {E : Value → Shared → Prop} {s : Shared} {K : PySem.W.Frag} {x C f : Addr} {ox : Obj} {od : Option Obj} {name : Str} {last : Value → List Value → Sem Value} {Q : Option Value → Shared → Prop} (kin : K.In s.heap) (J : PySem.W.InstAt s.heap x ox C od)
    (has : PySem.W.findIn K (.ref C) name = some (some (.ref f))) (fn : PySem.W.isFn K (.ref f) = true) (run : wpAny M A (last (.ref f) [.ref x]) (fun v => Q (some v)) E s) : wpAny M A (callSpecialIfBoundBy? last (.ref x) name) Q E s := by
  have tell : wpAny M A (do let v ← last (.ref f) [.ref x]; pure (some v)) Q E s := wpAny_bind (wpAny_mono run (fun _ _ h => wpAny_pure h) fun _ _ h => h)
  have bound := PySem.W.bind_fn (M := M) kin (.ref x) (beq_iff_eq.mp fn)
  unfold callSpecialIfBoundBy? bindSpecialIfBound?
  refine wpAny_holding (wpAny_bind (wpAny_bind (wpAny_bind (J.type.here ((PySem.W.looks_findIn kin has).here (wpAny_bind (wpAny_askSetting (wpAny_ite ?_))))))))
  split
  · exact wpAny_bind (bound.here (wpAny_pure tell))
  · exact wpAny_tryCatch (wpAny_bind (bound.here (wpAny_pure tell)))
theorem itm_own {CX : CXT} {k n : Nat} {L a C dx f : Addr} {H : Hp} {fs : List (Str × V)} {fd : FuncData} {ps : List Str} {sp : Sp} {E : XK} {t : Str} (ha : H a = some (.ins C dx fs)) (rep : PySem.W.findIn X.K (.ref C) "__repr__" = some (some (.ref f))) (fn : PySem.W.isFn X.K (.ref f) = true)
    (F : FnOk X.prog X.w X.K X.mg X.base CX k f fd ps sp) (kn : k ≤ n) (bind : Binds X.K fd ps []) (lets : Passes CX X E) (prom : ∀ H1, Same H H1 → sp [.ref a] H1 (fun v H2 => v = .str t ∧ Same H1 H2) E) : Itm X n L H (.ref a) t := by
  intro pins σ H1 s u base A g Q sm I ru hb room fr hg hcl hQ
  cases (show u = Value.ref a from ru)
  obtain ⟨_, J, _⟩ := ins_get I.hok (sm _ _ ha)
  obtain ⟨od, J, _⟩ := J.look
  have un := room.un
  refine wpAny_pyReprUnder_ref (by omega) ?_
  unfold pyReprObjUnder pyReprObjBy
  refine wpAny_bind (wpAny_cRoomFor (by omega) (wpAny_bind (wpAny_bind (J.type.here ((PySem.W.looks_findIn I.kIn rep).here ?_)))))
  show wpAny _ _ (if (some (Value.ref f)).isNone = true then _ else _) _ _ _
  rw [if_neg (by simp)]
  refine wpAny_bind (special_own I.kIn J rep fn (thn (call_at F (room.mono kn) fr bind lets I (us := [.ref a]) (vs := [.ref a]) (.cons rfl .nil) (prom H1 sm)) ?_))
  rintro v s' ⟨z, H', I', rz, rfl, sm'⟩
  obtain ⟨tk, rfl⟩ := rz
  exact wpAny_bind (wpAny_isInstance (T := "str") (b := true) rfl isSubtype_str_str (wpAny_pure ⟨_, _, rfl, hQ s' H' I' sm'⟩))
theorem vals_at : ∀ {xs : List V} {us : List Value}, Vals xs us → ∀ (i : Nat) x u, xs[i]? = some x → us[i]? = some u → RelV x u
  | _, _, .cons r t, 0, x, u, h1, h2 => by
    cases h1
    cases h2
    exact r
  | _, _, .cons r t, i + 1, x, u, h1, h2 => vals_at t i x u h1 h2
theorem texts_of : ∀ {ts : List Str} {us : List Value}, Vals (ts.map V.str) us → ∃ l : List (Str × Tok), us = strValues l ∧ l.map (·.1) = ts
  | [], _, h => by
    cases h
    exact ⟨[], rfl, rfl⟩
  | t :: ts, _, h => by
    cases h with
    | cons r h =>
      obtain ⟨k, rfl⟩ := r
      obtain ⟨l, rfl, e⟩ := texts_of h
      exact ⟨(t, k) :: l, rfl, by rw [List.map_cons, e]⟩
theorem room_loop {k : Nat} {A : Around} (r : Room (k + 1) A) (args : Args) : Room k (A.under (.builtin "list.__repr__.loop" args)) :=
  ⟨r.hd, by
    have := r.dp
    have e : (A.under (.builtin "list.__repr__.loop" args)).depth ≤ A.depth + 1 := by
      first | exact Nat.le_refl _ | (simp [Around.under, Code.weight, Code.isCreation, Code.isGuard, Code.isCaller, Code.frames, Code.isFrame, guardIds])
    omega, by
    have := r.un
    rw [units_under_list_loop]
    omega⟩
theorem frames_loop {A : Around} (args : Args) : (A.under (.builtin "list.__repr__.loop" args)).frames = A.frames := by
  first | rfl | simp [Around.under, Code.envs, Code.isFrame, pushEnvs]
/-- all turns of the list's repr, the texts so far at P -/
theorem turns {A : Around} {n : Nat} {L P : Addr} {H : Hp} {xs : List V} {ts : List Str} {R : Result → Shared → Prop} (hg : A.guards = some []) (room : Room (n + 1) A) (fr : A.frames = X.A.frames) (hP : H P = none) (hL : H L = some (.lst xs)) (len : ts.length = xs.length)
    (tell : ∀ (i : Nat) x t, xs[i]? = some x → ts[i]? = some t → Itm X n L H x t) (fits : (listText ts).length ≤ sizeLine) (bad : ∀ e s', X.xe e s' → R (.error e) s') {pins : List (Addr × Obj)} {σ : L2.St}
    (good : ∀ s' H2 u, Inv X pins σ H2 s' → Same H H2 → R (.ok (.ret (.str (listText ts) u))) s') :
    ∀ (k i : Nat) (H1 : Hp) (s : Shared), xs.length - i = k → i ≤ xs.length → Inv X pins σ H1 s → Same H H1 → H1 P = some (.lst ((ts.take i).map V.str)) →
      codeAny (model X.prog X.w) A (.builtin "list.__repr__.loop" ⟨[.ref L, rawInt i, .ref P, rawInt ((piled (ts.take i) : Nat) : Int)], []⟩) R s := by
  have few := textFrom_len ts 0 "["
  have whole : (listText ts).length = (textFrom 0 "[" ts).length + 1 := by
    show (textFrom 0 "[" ts ++ "]").length = _
    rw [strLen_append]
    rfl
  intro k
  induction k with
  | zero =>
    intro i H1 s hk hi I sm eP
    obtain ⟨its, rv, ⟨o, m, ho, _, _, hd⟩, _⟩ := I.list (SqL.of (sm _ _ hL))
    obtain ⟨its2, rv2, ⟨o2, m2, ho2, _, _, hd2⟩, _⟩ := I.list (SqL.of eP)
    obtain ⟨l, el, e1⟩ := texts_of rv2
    have none_ : its.toArray[i]? = none := by
      have := rv.length
      simp
      omega
    rw [List.take_of_length_le (by omega)] at e1
    refine codeAny_builtin F.entry_list_repr_loop ?_
    show wpAny _ _ (Builtin.«list.__repr__.loop» ⟨[.ref L, .int i 0, .ref P, .int ((piled (ts.take i) : Nat) : Int) 0], []⟩) _ _ s
    rw [repr_loop_tree]
    refine wpAny_bind (wpAny_listItems ho hd ?_)
    rw [Int.toNat_natCast]
    simp only [none_]
    unfold reprEnd
    refine wpAny_bind (wpAny_listItems ho2 hd2 ?_)
    rw [show its2.toArray.toList = strValues l from el, repr_fold, e1]
    exact wpAny_bind (wpAny_pure (wpAny_bind (wpAny_mkStr (wpAny_pure (good _ H1 _ (I.tok _) sm)) fits)))
  | succ k ih =>
    intro i H1 s hk hi I sm eP
    have hlt : i < xs.length := by omega
    obtain ⟨its, rv, ⟨o, m, ho, _, _, hd⟩, _⟩ := I.list (SqL.of (sm _ _ hL))
    have hli := rv.length
    obtain ⟨t, ht⟩ : ∃ t, ts[i]? = some t := ⟨ts[i]'(by omega), List.getElem?_eq_getElem _⟩
    obtain ⟨x, hx⟩ : ∃ x, xs[i]? = some x := ⟨xs[i], List.getElem?_eq_getElem hlt⟩
    have here : its.toArray[i]? = some (its[i]'(by omega)) := by simp
    have rel : RelV x (its[i]'(by omega)) := vals_at rv i _ _ hx (List.getElem?_eq_getElem _)
    have p1 := piled_take_succ ht
    have p2 := piled_take_le ts (i + 1)
    have p3 := piled_le_listText ts
    refine codeAny_builtin F.entry_list_repr_loop ?_
    show wpAny _ _ (Builtin.«list.__repr__.loop» ⟨[.ref L, .int i 0, .ref P, .int ((piled (ts.take i) : Nat) : Int) 0], []⟩) _ _ s
    rw [repr_loop_tree]
    refine wpAny_bind (wpAny_listItems ho hd ?_)
    rw [Int.toNat_natCast]
    simp only [here]
    rw [Int.toNat_natCast]
    refine wpAny_bind (wpAny_holding (wpAny_mono (tell i x t hx ht pins σ H1 s _ (piled (ts.take i) + 1) _ _ _ sm I rel (by omega) (room_loop room _) ((frames_loop _).trans fr) (guards_under_guard (isGuard_list_loop _) hg) (fun b hb => (Clear.nil b).cons (a := L) fun e => hb e.symm) ?_) (fun _ _ h => h) bad))
    intro s' H2 I2 sm2
    refine wpAny_bind (wpAny_mkStr ?_ (Nat.le_trans (few.2.1 t (List.mem_of_getElem? ht)) (by omega)))
    refine wpAny_bind ?_
    show wpAny _ _ (updateSeq P _) _ _ _
    have eP2 := sm2 _ _ eP
    obtain ⟨hz2, its2, n2, rv2, e2⟩ := (show ObjOk X.prog X.w H2 s'.heap P (.lst ((ts.take i).map V.str)) from I2.hok P _ eP2)
    have hl2 := rv2.length
    have hl3 : ((ts.take i).map V.str).length = i := by
      rw [List.length_map, List.length_take]
      omega
    have few1 := few.1
    rw [if_neg (Nat.lt_irrefl 0)] at few1
    refine wpAny_updateSeq e2 rfl (wpAny_pure ⟨F.quiet_list_repr_loop _, ?_⟩) (by rw [List.size_toArray]; omega) (by rw [Array.size_push, List.size_toArray]; omega)
    have i1 : ((i : Int) + 1) = ((i + 1 : Nat) : Int) := by omega
    have i2 : piled (ts.take i) + (t.length + 2) = piled (ts.take (i + 1)) := by omega
    rw [i1, i2]
    have et : (ts.take (i + 1)).map V.str = (ts.take i).map V.str ++ [V.str t] := by
      rw [List.take_add_one, ht, List.map_append]
      rfl
    refine ih (i + 1) (upd H2 P (.lst ((ts.take (i + 1)).map V.str))) _ (by omega) hlt (I2.write (e := P) (by rw [eP2]; trivial) (.inl rfl) (fun b u hb q => (Heap.get?_update_other _ _ (Ne.symm hb)).trans q) ⟨_, Heap.get?_update_self _ e2 rfl⟩ ⟨?_, its2 ++ [.str t s'.toks], n2 + 1, ?_, ?_⟩) (same_new hP (sm.trans sm2)) upd_same
    · rw [et, List.length_append, hl3]
      show i + 1 ≤ sizeLine
      omega
    · rw [et]
      exact rv2.append (.cons ⟨_, rfl⟩ .nil)
    · refine (Heap.get?_update_self _ e2 rfl).trans ?_
      simp [Obj.mapSeq]
/-- repr(xs), xs no empty list, of data and of own objects -/
def rReprL (X : Cx) (n : Nat) : List V → Hp → VK → Prop := fun vs H Q => ∃ (L : Addr) (x : V) (xs : List V) (ts : List Str), vs = [.ref L] ∧ H L = some (.lst (x :: xs)) ∧ ts.length = (x :: xs).length ∧ (∀ (i : Nat) y t, (x :: xs)[i]? = some y → ts[i]? = some t → Itm X n L H y t) ∧
  (listText ts).length ≤ sizeLine ∧ ∀ H', Same H H' → Q (.str (listText ts)) H'
theorem cr_reprL {n : Nat} (hG : X.A.guards = some []) (room : Room (n + 3) X.A) : CallR X (.builtin "repr") (rReprL X n) := by
  rintro pins s σ H _ us Q I r ⟨L, x, xs, ts, rfl, hL, len, tell, fits, q⟩
  obtain ⟨u, rfl, rv⟩ := vals1 r
  cases (show u = Value.ref L from rv)
  obtain ⟨its, rv2, ⟨o, m, ho, hc, _, hd⟩, _⟩ := I.list (SqL.of hL)
  have un := room.un
  have type : s.TypeIs (.ref L) "list" := ⟨o, ho, hc⟩
  have nP : H s.heap.objs.size = none := I.hok.fresh (Nat.le_refl _)
  cases rv2 with
  | cons r1 r2 =>
    refine call_repr_slot (by omega) type F.slot_list_repr.toG ?_
    refine wpAny_call (codeAny_call_builtin F.slot_list_repr.plain F.entry_list_repr (F.slot_list_repr.check _ _ _ _ _ _ _ _ type (F.args_list_repr_1 _) ?_))
    refine wpAny_list_repr_head (A := X.A.in1.in1) hG (fun _ _ _ h => nomatch h) ho hd ?_
    refine wpAny_bind (m := newList []) (wpAny_newObj_type (wpAny_pure ⟨F.quiet_list_repr_loop _, ?_⟩))
    refine turns (A := X.A.in1) (n := n) hG (Room.mono (k := n + 2) (j := n + 1) room.in1 (Nat.le_succ _)) rfl nP hL len tell fits ?bad (pins := pins) (σ := σ) ?good _ 0 (upd H s.heap.objs.size (.lst [])) _ rfl (Nat.zero_le _) (I.laid (t' := s.toks) (fun b o e => Heap.get?_push_of_some _ e) (Nat.le_refl _) ⟨Nat.zero_le _, [], 0, .nil, Heap.get?_push_size _ rfl⟩) (same_upd nP) upd_same
    case bad => exact fun e s' h => h
    case good => exact fun s' H2 u I2 sm => ⟨_, _, rfl, .str _, H2, I2, ⟨_, rfl⟩, q H2 sm⟩
end
end HopR

set_option Elab.async false
set_option linter.all false
set_option maxRecDepth 100000
namespace HopR
open PySem PySem.Spec PyProof.Rows L2
/-! ### {o!r} in an f-string, o of an own class -/
section
variable {X : Cx} {CX : CXT} {n : Nat} {C f : Addr} {fd : FuncData} {ps : List Str} {sp : Sp} {E : XK} {e : Expr} {te : TE} {pos : Pos}
def tFmtO (C : Addr) (sp : Sp) (E : XK) (te : TE) : TE := fun σ H Q => te σ H fun x H1 => ∃ a dx fs, x = .ref a ∧ H1 a = some (.ins C dx fs) ∧ sp [.ref a] H1 (fun v H' => ∃ z : Str, v = .str z ∧ z.length ≤ sizeLine ∧ Q (.str z) H') E
theorem pe_fmtO (rep : PySem.W.findIn X.K (.ref C) "__repr__" = some (some (.ref f))) (fn : PySem.W.isFn X.K (.ref f) = true) (F : FnOk X.prog X.w X.K X.mg X.base CX n f fd ps sp) (room : Room (n + 1) X.A) (bind : Binds X.K fd ps []) (lets : Passes CX X E) (he : PE X e te) :
    PE X (.FormattedValue e 114 none pos) (tFmtO C sp E te) := by
  constructor
  intro pins s σ H Q I h
  refine wpAny_FormattedValue_repr (thn (he.run pins s σ H _ I h) ?_)
  rintro u s1 ⟨_, H1, I1, ru, a, dx, fs, rfl, ha, prom⟩
  cases (show u = Value.ref a from ru)
  obtain ⟨_, J, _⟩ := ins_get I1.hok ha
  obtain ⟨od, J, _⟩ := J.look
  have un := room.un
  rw [pyReprObj_eq_pyReprObjBy]
  unfold pyReprObjBy
  refine wpAny_bind (wpAny_cRoomFor (by omega) (wpAny_bind (wpAny_bind (J.type.here ((PySem.W.looks_findIn I1.kIn rep).here ?_)))))
  show wpAny _ _ (if (some (Value.ref f)).isNone = true then _ else _) _ _ _
  rw [if_neg (by simp)]
  refine wpAny_bind (special_own I1.kIn J rep fn (thn (call_at F (room.mono (Nat.le_succ n)) rfl bind lets I1 (us := [.ref a]) (vs := [.ref a]) (.cons rfl .nil) prom) ?_))
  rintro v s' ⟨_, H', I', rz, z, rfl, hz, q⟩
  obtain ⟨tk, rfl⟩ := rz
  refine wpAny_bind (wpAny_isInstance (T := "str") (b := true) rfl isSubtype_str_str (wpAny_pure ?_))
  exact wpAny_formatField_str ⟨.str z, H', I', ⟨_, rfl⟩, q⟩ ⟨.str z, H', I'.tok _, ⟨_, rfl⟩, q⟩ hz
/-- o == p by the class's own __eq__, told by its two facts alone -/
theorem op_eqTwo (eq : PySem.W.findIn X.K (.ref C) "__eq__" = some (some (.ref f))) (fn : PySem.W.isFn X.K (.ref f) = true) (F : FnOk X.prog X.w X.K X.mg X.base CX n f fd ps sp) (room : Room n X.A) (bind : Binds X.K fd ps []) (lets : Passes CX X E) : OpR X (compareOp .Eq) (rOwn C sp E false) := by
  rintro pins s σ H _ _ v u Q I rx ry ⟨a, b, dx, dy, fs, gs, rfl, rfl, ha, hb, prom⟩
  cases rx; cases ry
  obtain ⟨_, J, _⟩ := ins_get I.hok ha
  obtain ⟨_, J', _⟩ := ins_get I.hok hb
  obtain ⟨_, J, _⟩ := J.look
  obtain ⟨_, J', _⟩ := J'.look
  obtain ⟨m, F0⟩ := I.fr
  refine PySem.W.cmp_K (op := .Eq) (tb := .ref C) room.units0 F0 I.ok.mod.kin J J'.type (by simp [PySem.W.notFirst]) eq fn (thn (call_at F room rfl bind lets I two_refs prom) ?_)
  rintro w s' ⟨z, H', I', rz, k, rfl, q⟩
  cases rz
  rw [Bool.xor_false] at q
  exact ⟨.bl k, H', I', rfl, q⟩
end
/-! ### lists of new tuples -/
def TupH {α : Type} (H : Hp) (f : α → List V) : List α → List V → Prop
  | [], vs => vs = []
  | a :: r, vs => ∃ p vr, vs = .ref p :: vr ∧ H p = some (.tup (f a)) ∧ TupH H f r vr
section
variable {α : Type} {H H' : Hp} {f : α → List V}
theorem tupH_same (s : Same H H') : ∀ {as : List α} {vs : List V}, TupH H f as vs → TupH H' f as vs
  | [], _, h => h
  | _ :: _, _, ⟨p, vr, e, h1, h2⟩ => ⟨p, vr, e, s _ _ h1, tupH_same s h2⟩
theorem tupH_upd {D : Addr} {xs : List V} {o : HO} (hD : H D = some (.lst xs)) : ∀ {as : List α} {vs : List V}, TupH H f as vs → TupH (upd H D o) f as vs
  | [], _, h => h
  | _ :: _, _, ⟨p, vr, e, h1, h2⟩ => ⟨p, vr, e, by
      rw [upd_ne (fun z => by rw [z, hD] at h1; cases h1)]
      exact h1, tupH_upd hD h2⟩
theorem tupH_add {a : α} {p : Addr} (h1 : H p = some (.tup (f a))) : ∀ {as : List α} {vs : List V}, TupH H f as vs → TupH H f (as ++ [a]) (vs ++ [.ref p])
  | [], _, h => by
    cases h
    exact ⟨p, [], rfl, h1, rfl⟩
  | _ :: _, _, ⟨p', vr, e, h2, h3⟩ => ⟨p', vr ++ [.ref p], by rw [e]; rfl, h2, tupH_add h1 h3⟩
theorem tupH_len : ∀ {as : List α} {vs : List V}, TupH H f as vs → vs.length = as.length
  | [], _, h => by
    cases h
    rfl
  | _ :: _, _, ⟨_, vr, e, _, h2⟩ => by rw [e, List.length_cons, List.length_cons, tupH_len h2]
theorem tupH_at : ∀ {as : List α} {vs : List V} {k : Nat} {a : α}, TupH H f as vs → as[k]? = some a → ∃ p, vs[k]? = some (.ref p) ∧ H p = some (.tup (f a))
  | [], _, k, a, h, e => by simp at e
  | b :: r, _, 0, a, ⟨p, vr, ev, h1, h2⟩, e => by
    have : b = a := Option.some.inj e
    subst this
    exact ⟨p, by rw [ev]; rfl, h1⟩
  | b :: r, _, k + 1, a, ⟨p, vr, ev, h1, h2⟩, e => by
    obtain ⟨p', e1, e2⟩ := tupH_at (k := k) h2 e
    exact ⟨p', by rw [ev]; exact e1, e2⟩
end
end HopR

set_option Elab.async false
set_option linter.all false
set_option maxRecDepth 100000
namespace HopR
open PySem PySem.Spec PyProof.Rows L2
/-! ### sum(whole numbers, start=0) -/
theorem may_start (l : Addr) (t : Tok) : checkBuiltinCall "sum" ⟨[.ref l], [(Str.ofString "start", .int 0 t)]⟩ = pure () := by
  have ok : argsOk "sum" ⟨[.ref l], [(Str.ofString "start", .int 0 t)]⟩ := by
    unfold argsOk
    kernel_rfl
  unfold checkBuiltinCall
  rw [F.kind_sum]
  unfold argsOk at ok
  cases h : Manifest.signature? "sum" with
  | none => rfl
  | some sig =>
    rw [h] at ok
    exact ok
section
variable {prog : Program} {w : World} {A : Around} {E : Value → Shared → Prop} {s : Shared}
theorem no_text {i : Int} {t : Tok} {T : String} {Q : Bool → Shared → Prop} (sub : isSubtype (.type "int") (.type T) = pure false) (q : Q false s) : wpAny (model prog w) A (isInstance (.int i t) (.type T)) Q E s := wpAny_isInstance (typeIs_int s i t) sub q
theorem sum_from {l : Addr} {t : Tok} {xs : Array (Int × Tok)} {Q : Value → Shared → Prop} (calm : A.handled = none) (hl : s.heap.IsList l (intItems xs))
    (fin : ∀ h' tk t', (∀ b o, s.heap.get? b = some o → h'.get? b = some o) → Q (.int (preSum (numAt xs) xs.size) t') { s with heap := h', toks := tk }) :
    wpAny (model prog w) A (call (.builtin "sum") [.ref l] [(Str.ofString "start", .int 0 t)]) Q E s := by
  refine wpAny_call (codeAny_call_builtin F.plain_sum F.entry_sum ?_)
  rw [may_start]
  refine wpAny_pure ?_
  unfold Builtin.«sum»
  simp only [List.length_cons, List.length_nil]
  rw [if_neg (by decide)]
  refine wpAny_bind (wpAny_of_eq (show Builtin.Builtins.bindParams "sum" ["start"] 0 ⟨[], [(Str.ofString "start", .int 0 t)]⟩ = pure [some (.int 0 t)] from by kernel_rfl) ?_)
  refine wpAny_bind (iter_intList hl fun s2 e at0 low here => ?_)
  subst e
  dsimp only
  refine wpAny_ite ?_
  split
  case isFalse no => exact absurd rfl no
  refine wpAny_bind (wpAny_rule (wpAny_bind (wpAny_mkInt (wpAny_bind (wpAny_pure ?_)))))
  simp only [List.forIn_cons, List.forIn_nil]
  refine wpAny_bind (wpAny_bind (wpAny_bind (no_text PySem.sub_int_str ?_)))
  rw [if_neg (by decide)]
  refine wpAny_pure (wpAny_bind (wpAny_bind (no_text PySem.sub_int_bytes ?_)))
  rw [if_neg (by decide)]
  refine wpAny_pure (wpAny_bind (wpAny_bind (no_text PySem.sub_int_bytearray ?_)))
  rw [if_neg (by decide)]
  refine wpAny_pure (wpAny_pure (wpAny_bind (wpAny_newObj_type ?_)))
  have W := Walks.list (prog := prog) (w := w) (A := A.in1) calm s.heap.objs.size l here (intItems xs)
  refine wpAny_pure ⟨plainId_quiet F.plain_sum_loop _, codeAny_sum_loopG W (numAt xs) (fun _ _ => intItems_at) _ (fun m => Nat.lt_irrefl _ (low _ m)) _ 0 _ _ 0 0 (.inl rfl) rfl (Nat.zero_le _) (W.frame _ _ _ at0 fun b _ o q => Heap.get?_push_of_some _ q) (Heap.get?_push_size _ rfl) ?_⟩
  intro h' tk t' old
  have q := fin h' tk t' fun b o e => ?_
  · simpa [intItems] using q
  · have lt := Heap.lt_size e
    refine old b o ?_ ?_ (Heap.get?_push_of_some _ (Heap.get?_push_of_some _ e))
    · intro m
      have m : b = s.heap.objs.size := by simpa using m
      exact absurd lt (by rw [m]; exact Nat.lt_irrefl _)
    · rw [Heap.size_push]
      exact Nat.ne_of_lt (Nat.lt_succ_of_lt lt)
end
section
variable {X : Cx}
def rSumK (K : PySem.W.Frag) : List V → List V → Hp → VK → Prop := fun vs zs H Q => ∃ (a : Addr) (ns : List Int), vs = [V.ref a] ∧ zs = [.int 0] ∧ SqL K H a (ns.map V.int) ∧ Q (.int ns.sum) H
theorem cr_sumK (calm : X.calm = true) : CallRK X (.builtin "sum") [Str.ofString "start"] (rSumK X.K) := by
  rintro pins s σ H _ _ us ws Q I r rz ⟨a, ns, rfl, rfl, hs, q⟩
  obtain rfl := Vals.ref1 r
  obtain ⟨_, rfl, t, rfl⟩ := vals1 rz
  obtain ⟨its, rv, hl, _⟩ := I.list hs
  obtain ⟨xs, e⟩ := rv.ints.allInts.items
  have hn : numsOf (intItems xs).toList = ns := by
    rw [← e]
    exact rv.ints.numsOf
  rw [nums_intItems] at hn
  have hl' := hl.isList
  rw [e] at hl'
  refine sum_from (I.ok.hd calm) hl' fun h' tk t' old => ⟨.int ns.sum, H, I.kept old, ⟨t', ?_⟩, q⟩
  rw [preSum_eq, List.take_of_length_le (by simp), hn]
end
end HopR

set_option Elab.async false
set_option linter.all false
set_option maxRecDepth 100000
namespace HopR
open PySem PySem.Spec PyProof.Rows L2
/-! ### tests and statements where a token is out -/
def PTT (X : Cx) (c : Expr) (t : TT) : Prop :=
  ∀ (pins : List (Addr × Obj)) (s : Shared) (σ : L2.St) (H : Hp) (Q : Bool → Hp → Prop), 1 ≤ s.toks → Inv X pins σ H s → t σ H Q → wpAny (model X.prog X.w) X.A (isTrue c X.env (eval c X.env)) (TP X pins σ Q) X.xe s
/-- an expression behind which a token is out -/
def PE1 (X : Cx) (e : Expr) (t : TE) : Prop :=
  ∀ (pins : List (Addr × Obj)) (s : Shared) (σ : L2.St) (H : Hp) (Q : VK), Inv X pins σ H s → t σ H Q → wpAny (model X.prog X.w) X.A (eval e X.env) (fun v s' => 1 ≤ s'.toks ∧ EP X pins σ Q v s') X.xe s
section
variable {X : Cx} {a b e : Expr} {ta tb te : TE} {tA tB' : TT} {rest : List Expr} {pos : Pos}
theorem PTT.of (h : PT X a tA) : PTT X a tA := fun pins s σ H Q _ I q => h.run pins s σ H Q I q
theorem ptt_cmp {op : CmpOp} {r : R2} (ho : OpR X (compareOp op) r) (ha : PET X a ta) (hb : PET X b tb) (hm : behindInMarks op b = false) : PTT X (.Compare a [op] [b] pos) (tTest (tOp r ta tb)) := by
  intro pins s σ H Q h0 I h
  refine wpAny_isTrue_Compare1 (wpAny_mono (PySem.wpAny_toks (ha pins s σ H _ h0 I h)) (fun v s1 q => ?_) fun _ _ z => z.2) hm
  obtain ⟨hk, x, H1, I1, r1, q1⟩ := q
  exact thn (hb pins s1 σ H1 _ (Nat.le_trans h0 hk) I1 q1) fun u s2 ⟨y, H2, I2, r2, q2⟩ => thn (ho pins s2 σ H2 x y v u _ I2 r1 r2 q2) fun c s3 ⟨z, H3, I3, r3, k, e, q3⟩ => by
    subst e
    cases r3
    exact wpAny_truthy_bool ⟨H3, I3, q3⟩
theorem ptt_or (ha : PTT X a tA) (hb : PW X (.BoolOp .Or (b :: rest) pos) tB') : PTT X (.BoolOp .Or (a :: b :: rest) pos) (tOr tA tB') := by
  intro pins s σ H Q h0 I h
  refine isTrue_or (thn (ha pins s σ H _ h0 I h) fun c s1 ⟨H1, I1, q1⟩ => ?_)
  cases c with
  | false => exact hb.run _ pins s1 σ H1 Q I1 q1
  | true => exact ⟨H1, I1, q1⟩
theorem pst_ifT {c : Expr} {a b : List Stmt} {tc : TT} {t u : TS} (hc : PTT X c tc) (ha : PSsT X a t) (hb : PSsT X b u) : PST X (.If c a b pos) (tIfS tc t u) := by
  intro pins s σ H D h0 I h
  refine wpAny_If (wpAny_mono (PySem.wpAny_toks (hc pins s σ H _ h0 I h)) (fun d s1 q => ?_) fun _ _ z => z.2)
  obtain ⟨hk, H1, I1, q1⟩ := q
  have h1 := Nat.le_trans h0 hk
  cases d with
  | false => exact hb pins s1 σ H1 D h1 I1 q1
  | true => exact ha pins s1 σ H1 D h1 I1 q1
theorem pst_set {i : Nat} {x : Str} {pos' : Pos} (hN : X.N.Nodup) (hi : X.N[i]? = some x) (hx : Loc X.env.scope x) (he : PET X e te) (hs : swapsWith e (some (.Name x pos')) pos.line X.env = pure false := by rfl) (hf : X.fn x = true ∨ X.env.scope.names.lookup x = some .local := by first | exact .inl rfl | exact .inr rfl | assumption) :
    PST X (.Assign [.Name x pos'] e pos) (tAsg te (gName i)) := by
  intro pins s σ H D h0 I h
  exact wpAny_Assign_Name (thn (he pins s σ H _ h0 I h) fun v s1 ⟨y, H1, I1, r1, q1⟩ => store_ok I1 hN hi hx r1 (fun s2 I2 => ⟨_, H1, I2, q1⟩) hf) hs
theorem pet_callTy {T : String} {r : List V → Hp → VK → Prop} {x : Str} {es : List Expr} {t : TA} {p : Pos} (hc : CallR X (.type T) r) (hg : Gl X x) (hm : X.mg x = none) (hv : bootBuiltins x = some (.type T)) (ha : PAT X (e :: es) t) (hn : x ≠ "__name__" := by decide) (hdb : (x == ("__debug__" : Str)) = false := by decide)
    (he : starEach (e :: es) X.env = (false, eval e X.env) :: starEach es X.env := by rfl) (hpl : (backTo pos (starEach es X.env)).any (·.1) = false := by rfl) : PET X (.Call (.Name x p) (e :: es) [] pos) (tCB r t) := by
  intro pins s σ H Q h0 I h
  refine wpAny_Call_Name_kw (ld_blt I hg hm hv (PyProof.Rows.callWith_type1 ?_ he hpl) hn hdb)
  exact thn (ha pos pins s σ H _ h0 I h) fun us s1 ⟨vs, H1, I1, r1, q1⟩ => hc pins s1 σ H1 vs us Q I1 r1 q1
theorem pe1_int {i : Int} {j : Nat} : PE1 X (.Constant (.int i) j pos) (tC (.int i)) := fun _ s _ H _ I h => wpAny_Constant_int ⟨by show 1 ≤ s.toks + 1; omega, .int i, H, I.tok _, ⟨_, rfl⟩, h⟩
theorem pe1_opr {op : Operator} {r : R2} (ho : OpR X (binaryOp op) r) (ha : PE X a ta) (hb : PE1 X b tb) : PE1 X (.BinOp a op b pos) (tOp r ta tb) := by
  intro pins s σ H Q I h
  refine wpAny_BinOp (thn (ha.run pins s σ H _ I h) fun v s1 ⟨x, H1, I1, r1, q1⟩ => thn (hb pins s1 σ H1 _ I1 q1) fun u s2 ⟨h2, y, H2, I2, r2, q2⟩ => ?_)
  exact wpAny_mono (PySem.wpAny_toks (ho pins s2 σ H2 x y v u Q I2 r1 r2 q2)) (fun _ _ z => ⟨Nat.le_trans h2 z.1, z.2⟩) fun _ _ z => z.2
theorem pe1_opl {op : Operator} {r : R2} (ho : OpR X (binaryOp op) r) (ha : PE1 X a ta) (hb : PE X b tb) : PE1 X (.BinOp a op b pos) (tOp r ta tb) := by
  intro pins s σ H Q I h
  refine wpAny_BinOp (thn (ha pins s σ H _ I h) fun v s1 ⟨h1, x, H1, I1, r1, q1⟩ => wpAny_mono (PySem.wpAny_toks (hb.run pins s1 σ H1 _ I1 q1)) (fun u s2 z => ?_) fun _ _ z => z.2)
  obtain ⟨h2, y, H2, I2, r2, q2⟩ := z
  exact wpAny_mono (PySem.wpAny_toks (ho pins s2 σ H2 x y v u Q I2 r1 r2 q2)) (fun _ _ z => ⟨Nat.le_trans (Nat.le_trans h1 h2) z.1, z.2⟩) fun _ _ z => z.2
/-- name = value, and behind it a token is out -/
theorem pss_setT {i : Nat} {x : Str} {pos' : Pos} {rest : List Stmt} {u : TS} (hN : X.N.Nodup) (hi : X.N[i]? = some x) (hx : Loc X.env.scope x) (he : PE1 X e te) (hr : PSsT X rest u) (hs : swapsWith e (some (.Name x pos')) pos.line X.env = pure false := by rfl) (hf : X.fn x = true ∨ X.env.scope.names.lookup x = some .local := by first | exact .inl rfl | exact .inr rfl | assumption) :
    PSs X (.Assign [.Name x pos'] e pos :: rest) (tSeq (tAsg te (gName i)) u) := by
  refine ⟨fun pins s σ H D I h => ?_⟩
  refine wpAny_execs_cons (wpAny_Assign_Name (thn (he pins s σ H _ I h) fun v s1 ⟨h1, y, H1, I1, r1, q1⟩ => ?_) hs)
  refine wpAny_mono (PySem.wpAny_toks (store_ok (Q := fun _ s2 => Inv X pins (σ.set i (some y)) H1 s2) I1 hN hi hx r1 (fun s2 I2 => I2) hf)) (fun _ s2 z => ?_) fun _ _ z => z.2
  exact hr pins s2 _ H1 D (Nat.le_trans h1 z.1) z.2 q1
end
end HopR

set_option Elab.async false
set_option linter.all false
set_option maxRecDepth 100000
set_option maxHeartbeats 1000000
namespace HopR
open PySem PySem.Spec PyProof.Rows L2
/-! ### reversed(text) -/
theorem text_norev : typeLookup (.type "str") "__reversed__" = pure none := by rw [typeLookup_type, builtinLookup_eq_fast]; kernel_rfl
theorem text_get : typeLookup (.type "str") "__getitem__" = pure (some (.builtin "str.__getitem__")) := by rw [typeLookup_type, builtinLookup_eq_fast]; kernel_rfl
/-- goes through the text x backwards; the next place is i -/
def RevAt (h : Heap) (a : Addr) (x : Str) (t : Tok) (i : Int) : Prop := ∃ o, h.get? a = some o ∧ o.cls = .type "reversed" ∧ o.data = .fields #[.str x t, rawInt i]
section
variable {prog : Program} {w : World} {A : Around} {E : Value → Shared → Prop} {s : Shared} {x : Str} {t : Tok}
theorem RevAt.kind {a : Addr} {i : Int} (r : RevAt s.heap a x t i) : s.TypeIs (.ref a) "reversed" := r.elim fun o h => ⟨o, h.1, h.2.1⟩
theorem rev_made {Q : Value → Shared → Prop} (few : ¬ (x.length : Int) ≥ 2 ^ 63)
    (q : Q (.ref s.heap.objs.size) { s with heap := s.heap.push { cls := .type "reversed", data := .fields #[.str x t, rawInt ((x.length : Int) - 1)] }, toks := s.toks + 1 + 1 }) : wpAny (model prog w) A (call (.type "reversed") [.str x t]) Q E s := by
  have ty := typeIs_str s x t
  refine callType_codes (Q₁ := fun obj s' => s'.TypeIs obj "reversed" ∧ Q obj s') RT.called_rt (F.typeCall_reversed_1 _) F.entry_object_init (codeAny_of_tree ?_) fun obj s' h =>
    ⟨h.1, F.args_object_init_2 obj _, object_init_meets RT.called_rt.init.lookup RT.called_rt.made (by decide) prog w A.in1 _ s' ⟨h.1, rfl, h.2⟩⟩
  show wpAny _ A.in1.in1 (do checkBuiltinCall "reversed.__new__" ⟨[.type "reversed", .str x t], []⟩; again (.builtin "reversed.__new__" ⟨[.type "reversed", .str x t], []⟩)) _ _ s
  refine wpAny_bind (wpAny_of_eq (F.newCall_reversed_1 _) (wpAny_pure ⟨plainId_quiet F.plain_reversed_new _, codeAny_builtin F.entry_reversed_new ?_⟩))
  rw [Around.under_plainId F.plain_reversed_new _]
  unfold Builtin.«reversed.__new__»
  refine wpAny_bind (wpAny_of_eq (newClass_reversed _) (wpAny_bind (wpAny_of_eq (a := ()) rfl (wpAny_bind (wpAny_of_eq (a := ()) rfl ?_)))))
  refine wpAny_bind (wpAny_specialOf ty text_norev ?_)
  refine wpAny_bind ?_
  wp_delta
  refine wpAny_bind (wpAny_isInstance (T := "str") (U := "dict") (b := false) ty PySem.F.sub_str_dict ?_)
  rw [if_neg Bool.false_ne_true]
  refine wpAny_bind (wpAny_specialOf ty text_get ?_)
  refine wpAny_pure ?_
  rw [if_neg (by decide)]
  refine wpAny_bind (len_str few (wpAny_bind (wpAny_of_eq (a := some ((x.length : Nat) : Int)) rfl (wpAny_bind ?_))))
  show wpAny _ _ (newObj (.type "reversed") (.fields #[.str x t, rawInt ((x.length : Int) - 1)])) _ _ _
  exact wpAny_newObj_type (wpAny_pure ⟨⟨_, Heap.get?_push_size _ rfl, rfl⟩, q⟩)
/-- one sign more -/
theorem rev_item {a : Addr} {i c : Nat} {Q : Option Value → Shared → Prop} (r : RevAt s.heap a x t (i : Int)) (hc : x.cps[i]? = some c) (few : x.length ≤ sizeLine)
    (q : ∀ h' k u, RevAt h' a x t ((i : Int) - 1) → Heap.SameBut a s.heap h' → Q (some (.str ⟨#[c]⟩ u)) { s with heap := h', toks := k }) : wpAny (model prog w) A (pyNext (.ref a)) Q E s := by
  obtain ⟨o, ho, cls, dat⟩ := id r
  have lt : i < x.length := (Array.getElem?_eq_some_iff.mp hc).1
  rw [sizeLine_eq] at few
  have spot : (seqIndex? (i : Int) x.length).bind (x.cps[·]?) = some c := by
    rw [seqIndex_of (by omega) (by omega)]
    exact hc
  unfold pyNext
  refine wpAny_bind (wpAny_attempt (wpAny_callSpecial?_slot (name := Str.ofString "__next__") r.kind RT.slot_rt_next (wpAny_call_entry RT.slot_rt_next r.kind RT.entry_rt_next ?_ (RT.args_rt_next _))))
  unfold Builtin.«reversed.__next__»
  refine wpAny_bind (wpAny_of_eq (a := (Value.ref a, [])) rfl (wpAny_bind (wpAny_field ho dat (x := .str x t) rfl (wpAny_bind (wpAny_field ho dat (x := rawInt (i : Int)) rfl ?_)))))
  show wpAny _ _ (if (i : Int) < 0 then _ else _) _ _ s
  rw [if_neg (by omega)]
  refine wpAny_bind (wpAny_specialOf (typeIs_str s x t) text_get ?_)
  rw [if_neg (by decide)]
  refine wpAny_bind (wpAny_mkInt (wpAny_bind (wpAny_attempt (PyProof.Rows.getItem_str (s := { s with toks := s.toks + 1 }) (by
    rw [decide_eq_false (by omega), decide_eq_false (by omega)]
    rfl) spot ?_))))
  refine wpAny_bind (wpAny_field (s := { s with toks := s.toks + 1 + 1 }) ho dat (x := rawInt (i : Int)) rfl ?_)
  refine wpAny_bind (wpAny_setField (s := { s with toks := s.toks + 1 + 1 }) ho dat (by simp) ?_)
  have out : RevAt (s.heap.update a (Obj.mapFields (·.setIfInBounds 1 (rawInt ((i : Int) - 1))))) a x t ((i : Int) - 1) :=
    ⟨_, Heap.get?_update_self _ ho (Obj.isFreed_of_fields (Obj.data_mapFields dat _)), (Obj.cls_mapFields ..).trans cls, by rw [Obj.data_mapFields dat]; simp⟩
  exact wpAny_pure ⟨_, rfl, wpAny_pure (q _ _ _ out (Heap.SameBut.update ..))⟩
theorem stop_raised {α : Type} {Q : α → Shared → Prop} (calm : A.handled = none) (q : ∀ h' e, (∀ b o, s.heap.get? b = some o → h'.get? b = some o) → (∃ o, h'.get? e = some o ∧ o.cls = .type "StopIteration") → E (.ref e) { s with heap := h' }) :
    wpAny (model prog w) A (Builtin.SmallTypes.stopIteration : Sem α) Q E s := by
  unfold Builtin.SmallTypes.stopIteration
  simp only [newExc, newTuple, raiseNew]
  refine wpAny_bind (wpAny_bind (wpAny_newObj_type (wpAny_bind (m := firstArgMember _ _) (wpAny_of_eq (a := Value.none) rfl (wpAny_newObj_type ?_ (by size_fits)))) (by size_fits)))
  refine wpAny_bind (wpAny_handled ?_)
  rw [calm]
  exact wpAny_bind (wpAny_pure (wpAny_throw (q _ _ (fun b o e => Heap.get?_push_of_some _ (Heap.get?_push_of_some _ e)) ⟨_, Heap.get?_push_size _ rfl, rfl⟩)))
/-- no sign is left -/
theorem rev_end {a : Addr} {Q : Option Value → Shared → Prop} (calm : A.handled = none) (r : RevAt s.heap a x t (-1)) (q : ∀ h', Heap.ExtBut a s.heap h' → Q none { s with heap := h' }) : wpAny (model prog w) A (pyNext (.ref a)) Q E s := by
  obtain ⟨o, ho, cls, dat⟩ := id r
  unfold pyNext
  refine wpAny_bind (wpAny_attempt (wpAny_callSpecial?_slot (name := Str.ofString "__next__") r.kind RT.slot_rt_next (wpAny_call_entry RT.slot_rt_next r.kind RT.entry_rt_next ?_ (RT.args_rt_next _))))
  unfold Builtin.«reversed.__next__»
  refine wpAny_bind (wpAny_of_eq (a := (Value.ref a, [])) rfl (wpAny_bind (wpAny_field ho dat (x := .str x t) rfl (wpAny_bind (wpAny_field ho dat (x := rawInt (-1)) rfl ?_)))))
  show wpAny _ _ (if (-1 : Int) < 0 then _ else _) _ _ s
  rw [if_pos (by decide)]
  refine wpAny_bind (wpAny_rule (wpAny_bind ?_))
  wp_delta
  have ho2 := Heap.get?_update_self (Obj.mapFields (·.setIfInBounds 1 (rawInt (-1)))) ho (Obj.isFreed_of_fields (Obj.data_mapFields dat _))
  refine wpAny_bind (wpAny_setField ho dat (by simp) (wpAny_setField (s := { s with heap := s.heap.update a (Obj.mapFields (·.setIfInBounds 1 (rawInt (-1)))) }) ho2 (Obj.data_mapFields dat _) (by simp) ?_))
  have calm1 : A.in1.handled = none := calm
  refine wpAny_bind (stop_raised calm1 fun h' e old ⟨oe, he, ce⟩ => ?_)
  refine wpAny_bind (wpAny_isInstance (T := "StopIteration") (b := true) ⟨oe, he, ce⟩ isSubtype_stop (wpAny_pure (q _ fun b ob nb g => old b ob ?_)))
  exact (Heap.get?_update_other _ _ (Ne.symm nb)).trans ((Heap.get?_update_other _ _ (Ne.symm nb)).trans g)
end
end HopR

set_option Elab.async false
set_option linter.all false
set_option maxRecDepth 100000
namespace HopR
open PySem PySem.Spec PyProof.Rows L2
/-- the signs of a text from its end on -/
def ItRevS (x : Str) : It := ⟨fun i _ => i < x.cps.size, fun i H v H' => H' = H ∧ ∃ c, x.cps[x.cps.size - 1 - i]? = some c ∧ v = .str ⟨#[c]⟩, fun i _ => x.cps.size ≤ i⟩
theorem turn_revS {P : Program} {w : World} {K : PySem.W.Frag} {tg : Expr} (it : Addr) (x : Str) (t : Tok) (few : x.length ≤ sizeLine) : Turn P w K tg (ItRevS x) [it] it (fun i h => i ≤ x.cps.size ∧ RevAt h it x t ((x.cps.size : Int) - 1 - (i : Nat))) where
  mem := List.mem_singleton.mpr rfl
  obj i h st b hb := by
    obtain rfl := List.mem_singleton.mp hb
    obtain ⟨_, o, g, _, d⟩ := st
    exact ⟨o, g, fun v z => by rw [d] at z; cases z⟩
  keep i h h' st k := let ⟨o, g, r⟩ := st.2; ⟨st.1, o, k it (List.mem_singleton.mpr rfl) o g, r⟩
  item := by
    intro X hP hw hK calm i pins s σ H E I free st go
    subst hP hw hK
    obtain ⟨f0, f1, _, f3, f4, f5⟩ := free it (List.mem_singleton.mpr rfl)
    have go : i < x.cps.size := go
    obtain ⟨_, r⟩ := st
    rw [show (x.cps.size : Int) - 1 - (i : Nat) = ((x.cps.size - 1 - i : Nat) : Int) by omega] at r
    have hc : x.cps[x.cps.size - 1 - i]? = some (x.cps[x.cps.size - 1 - i]'(by omega)) := Array.getElem?_eq_getElem _
    refine rev_item r hc few fun h' k u r' sb => ⟨_, rfl, ?_⟩
    have J : Inv X pins σ H { s with heap := h', toks := k } := I.turned (t' := k) (fun b o nb g => (sb.2 b nb).trans g) f0 f1 f3 f4 f5
    obtain ⟨o, g, c, d⟩ := id r'
    refine go_of (s := { s with heap := h', toks := k }) g c d (by decide) ⟨.str ⟨#[_]⟩, H, J, ⟨u, rfl⟩, ⟨rfl, _, hc, rfl⟩, ⟨go, ?_⟩, fun b hb => (free b hb).1⟩
    rw [show (x.cps.size : Int) - 1 - ((i + 1 : Nat) : Int) = ((x.cps.size - 1 - i : Nat) : Int) - 1 by omega]
    exact r'
  done := by
    intro X hP hw hK calm i pins s σ H E I free st stop
    subst hP hw hK
    obtain ⟨f0, f1, _, f3, f4, f5⟩ := free it (List.mem_singleton.mpr rfl)
    have stop : x.cps.size ≤ i := stop
    obtain ⟨le, r⟩ := st
    rw [show (x.cps.size : Int) - 1 - (i : Nat) = -1 by omega] at r
    exact rev_end (I.ok.hd calm) r fun h' eb => ⟨rfl, I.turned (t' := s.toks) (fun b o nb g => eb b o nb g) f0 f1 f3 f4 f5⟩
  self A i s Q E st q := by
    refine wpAny_pyIter_slot st.2.kind RT.slot_rt_iter (wpAny_call_entry RT.slot_rt_iter st.2.kind RT.entry_rt_iter ?_ (RT.args_rt_iter _))
    show wpAny _ _ (ret (.ref it)) _ _ s
    exact wpAny_pure ⟨_, rfl, "reversed", _, st.2.kind, RT.slot_rt_next.lookup, q⟩
theorem walk_revS {x : Str} : Walk (ItRevS x) x.cps.size (fun _ => True) (fun i H v H' => H' = H ∧ ∃ c, x.cps[x.cps.size - 1 - i]? = some c ∧ v = .str ⟨#[c]⟩) :=
  ⟨fun _ _ lt _ => lt, fun _ _ => Nat.le_refl _, fun _ _ _ _ _ _ y => y⟩
def iRevS (te : TE) : TI := fun σ H R => te σ H fun v H1 => ∃ x : Str, v = .str x ∧ x.length ≤ sizeLine ∧ R (ItRevS x) H1
theorem pi_revS {X : Cx} {tg e : Expr} {te : TE} {p pos : Pos} (hg : Gl X "reversed") (hm : X.mg "reversed" = none) (he : PE X e te) (hs : starEach [e] X.env = (false, eval e X.env) :: starEach [] X.env := by rfl) : PI X tg (.Call (.Name "reversed" p) [e] [] pos) (iRevS te) := by
  constructor
  intro pins s σ H R I h
  refine Call_ (ld_blt I hg hm PyProof.Rows.boot_reversed (callWith_type1 (args_cons (thn (he.run pins s σ H _ I h) ?_) hs) hs rfl))
  rintro v s1 ⟨_, H1, J, rel, x, rfl, few, q⟩
  obtain ⟨t, rfl⟩ := rel
  refine args_nil (rev_made (by have := few; rw [sizeLine_eq] at this; omega) ?_)
  have gone : RevAt (s1.heap.push { cls := .type "reversed", data := .fields #[.str x t, rawInt ((x.length : Int) - 1)] }) s1.heap.objs.size x t ((x.cps.size : Int) - 1 - ((0 : Nat) : Int)) := ⟨_, Heap.get?_push_size _ rfl, rfl, by
    show Data.fields #[.str x t, rawInt ((x.length : Int) - 1)] = _
    rw [show (x.cps.size : Int) - 1 - ((0 : Nat) : Int) = (x.length : Int) - 1 by show (x.cps.size : Int) - 1 - ((0 : Nat) : Int) = (x.cps.size : Int) - 1; omega]⟩
  have J2 : Inv X pins σ H1 { s1 with heap := s1.heap.push { cls := .type "reversed", data := .fields #[.str x t, rawInt ((x.length : Int) - 1)] }, toks := s1.toks + 1 + 1 } := J.kept fun b o g => Heap.get?_push_of_some _ g
  refine (turn_revS (P := X.prog) (w := X.w) (K := X.K) (tg := tg) s1.heap.objs.size x t few).self X.A 0 _ _ _ ⟨Nat.zero_le _, gone⟩ ?_
  exact ⟨_, _, _, ItRevS x, H1, rfl, J2, turn_revS _ x t few, ⟨Nat.zero_le _, gone⟩, fun b hb => by
    obtain rfl := List.mem_singleton.mp hb
    exact J.fpOk (Nat.le_refl _) (J.hok.fresh (Nat.le_refl _)), q⟩
end HopR

set_option Elab.async false
set_option linter.all false
set_option maxRecDepth 100000
namespace HopW
/-! ### rows beneath, counted by the beads that are over -/
def bno : List Bool → Nat → Nat
  | [], 0 => 1
  | [], _ + 1 => 0
  | true :: w, o => bno w o + bno w (o + 1)
  | false :: w, 0 => bno w 0
  | false :: w, o + 1 => bno w o + bno w (o + 1)
def dl (f : Nat → Int) : Nat → Int := fun b => f (b + 1) - f b
def di : Nat → (Nat → Int) → Int
  | 0, f => f 0
  | o + 1, f => di o (dl f)
theorem di_add : ∀ (o : Nat) (f g : Nat → Int), di o (fun b => f b + g b) = di o f + di o g := by
  intro o
  induction o with
  | zero => intro f g; rfl
  | succ o ih =>
    intro f g
    show di o (dl fun b => f b + g b) = di o (dl f) + di o (dl g)
    rw [← ih]
    congr 1
    funext b
    show f (b + 1) + g (b + 1) - (f b + g b) = (f (b + 1) - f b) + (g (b + 1) - g b)
    omega
theorem di_zero : ∀ o : Nat, di o (fun _ => 0) = 0 := by
  intro o
  induction o with
  | zero => rfl
  | succ o ih =>
    show di o (dl fun _ => 0) = 0
    rw [show (dl fun _ => (0 : Int)) = fun _ => 0 from funext fun b => rfl]
    exact ih
theorem sn_last (h : Nat → Nat) : ∀ b, sn h (b + 1) = sn h b + h b := by
  intro b
  induction b generalizing h with
  | zero => show h 0 + 0 = 0 + h 0; omega
  | succ b ih =>
    show h 0 + sn (fun j => h (j + 1)) (b + 1) = (h 0 + sn (fun j => h (j + 1)) b) + h (b + 1)
    rw [ih]
    omega
theorem di_gn : ∀ (w : List Bool) (o : Nat), di o (fun b => (gn w b : Int)) = (bno w o : Int) := by
  intro w
  induction w with
  | nil =>
    intro o
    cases o with
    | zero => rfl
    | succ o =>
      show di o (dl fun _ => ((1 : Nat) : Int)) = ((0 : Nat) : Int)
      rw [show (dl fun _ => ((1 : Nat) : Int)) = fun _ => 0 from funext fun b => rfl]
      exact di_zero o
  | cons s w ih =>
    have two : ∀ o, di o (fun b => (gn w (b + 1) : Int)) = ((bno w o + bno w (o + 1) : Nat) : Int) := fun o => by
      rw [show (fun b => (gn w (b + 1) : Int)) = fun b => (fun b => (gn w b : Int)) b + dl (fun b => (gn w b : Int)) b from funext fun b => by
        show (gn w (b + 1) : Int) = (gn w b : Int) + ((gn w (b + 1) : Int) - (gn w b : Int))
        omega, di_add, ih o, show di o (dl fun b => (gn w b : Int)) = di (o + 1) (fun b => (gn w b : Int)) from rfl, ih (o + 1), Int.natCast_add]
    intro o
    cases s with
    | true => exact two o
    | false =>
      cases o with
      | zero =>
        show ((sn (gn w) 1 : Nat) : Int) = (bno w 0 : Int)
        rw [← ih 0]
        rfl
      | succ o =>
        show di o (dl fun b => ((sn (gn w) (b + 1) : Nat) : Int)) = ((bno w o + bno w (o + 1) : Nat) : Int)
        rw [show (dl fun b => ((sn (gn w) (b + 1) : Nat) : Int)) = fun b => (gn w (b + 1) : Int) from funext fun b => by
          show ((sn (gn w) (b + 1 + 1) : Nat) : Int) - ((sn (gn w) (b + 1) : Nat) : Int) = _
          rw [sn_last]
          omega]
        exact two o
/-- as many rows lie beneath as there are heaps -/
theorem bno_gn (w : List Bool) : bno w 0 = gn w 0 := by
  have := di_gn w 0
  have e : di 0 (fun b => (gn w b : Int)) = (gn w 0 : Int) := rfl
  omega
theorem gn_pos : ∀ (w : List Bool) (b : Nat), 0 < gn w b
  | [], _ => by show 0 < 1; decide
  | true :: w, b => gn_pos w (b + 1)
  | false :: w, b => by
    show 0 < gn w 0 + sn (fun j => gn w (j + 1)) b
    have := gn_pos w 0
    omega
end HopW

set_option Elab.async false
set_option linter.all false
set_option maxRecDepth 100000
/-! Heaps of a row: a course in any order fills one. -/
namespace HopH
abbrev T3 := Nat × Nat × Bool
/-- of the letters S the tuples R are a heap -/
structure Heaped (bs : List Bool) (S : List Nat) (R : List T3) : Prop where
  inn : ∀ b f s, (b, f, s) ∈ R → b ∈ S ∧ f ∈ S ∧ b < f ∧ bs[b]? = some true ∧ bs[f]? = some false
  nd : (R.map fun e => (e.1, e.2.1)).Nodup
  has : ∀ b f, b ∈ S → f ∈ S → b < f → bs[b]? = some true → bs[f]? = some false → ((∃ s, (b, f, s) ∈ R) ↔ ∀ k ∈ S, b < k → k < f → (k, f, true) ∉ R ∧ (b, k, false) ∉ R)
theorem pair_mem {R : List T3} {b f : Nat} : (b, f) ∈ R.map (fun e : T3 => (e.1, e.2.1)) ↔ ∃ s, (b, f, s) ∈ R := by
  rw [List.mem_map]
  constructor
  · rintro ⟨⟨b', f', s⟩, m, e⟩
    cases e
    exact ⟨s, m⟩
  · rintro ⟨s, m⟩
    exact ⟨_, m, rfl⟩
theorem heaped_nil {bs : List Bool} {S : List Nat} (h : ∀ b f, b ∈ S → f ∈ S → b < f → bs[b]? = some true → bs[f]? = some false → False) : Heaped bs S [] :=
  ⟨fun _ _ _ m => absurd m (by simp), by simp, fun b f hb hf l h1 h2 => (h b f hb hf l h1 h2).elim⟩
theorem Heaped.perm {bs : List Bool} {S : List Nat} {R R' : List T3} (h : Heaped bs S R) (p : R.Perm R') : Heaped bs S R' := by
  refine ⟨fun b f s m => h.inn b f s (p.mem_iff.mpr m), (p.map _).nodup_iff.mp h.nd, fun b f hb hf l h1 h2 => ?_⟩
  have e := h.has b f hb hf l h1 h2
  constructor
  · rintro ⟨s, m⟩ k hk k1 k2
    have := e.mp ⟨s, p.mem_iff.mpr m⟩ k hk k1 k2
    exact ⟨fun z => this.1 (p.mem_iff.mpr z), fun z => this.2 (p.mem_iff.mpr z)⟩
  · intro q
    obtain ⟨s, m⟩ := e.mpr fun k hk k1 k2 => ⟨fun z => (q k hk k1 k2).1 (p.mem_iff.mp z), fun z => (q k hk k1 k2).2 (p.mem_iff.mp z)⟩
    exact ⟨s, p.mem_iff.mp m⟩
theorem bad {o : Option Bool} (h1 : o = some true) (h2 : o = some false) : False := by rw [h1] at h2; cases h2
/-- a step at b, f that leaves the free place out -/
theorem heaped_free {bs : List Bool} {S S' : List Nat} {R : List T3} {b f : Nat} (hb : b ∈ S) (hf : f ∈ S) (bf : b < f) (adj : ∀ k ∈ S, b < k → k < f → False) (h1 : bs[b]? = some true) (h2 : bs[f]? = some false)
    (hS : ∀ x, x ∈ S' ↔ x ∈ S ∧ x ≠ f) (h : Heaped bs S' R) : Heaped bs S ((b, f, true) :: R) := by
  have nf : ∀ x s, (x, f, s) ∉ R := fun x s m => ((hS f).mp (h.inn _ _ _ m).2.1).2 rfl
  refine ⟨fun b1 f1 s m => ?_, ?_, fun b1 f1 hb1 hf1 l k1 k2 => ?_⟩
  · rcases List.mem_cons.mp m with e | m
    · cases e; exact ⟨hb, hf, bf, h1, h2⟩
    · obtain ⟨a, c, d⟩ := h.inn _ _ _ m
      exact ⟨((hS _).mp a).1, ((hS _).mp c).1, d⟩
  · rw [List.map_cons, List.nodup_cons]
    exact ⟨fun m => by obtain ⟨s, m⟩ := pair_mem.mp m; exact nf _ _ m, h.nd⟩
  · by_cases ef : f1 = f
    · subst ef
      by_cases eb : b1 = b
      · subst eb
        exact ⟨fun _ k hk z1 z2 => (adj k hk z1 z2).elim, fun _ => ⟨true, List.mem_cons_self ..⟩⟩
      · have lb : b1 < b := by
          rcases Nat.lt_trichotomy b1 b with z | z | z
          · exact z
          · exact absurd z eb
          · exact (adj b1 hb1 z l).elim
        constructor
        · rintro ⟨s, m⟩
          rcases List.mem_cons.mp m with e | m
          · cases e; exact absurd rfl eb
          · exact (nf _ _ m).elim
        · intro q
          exact ((q b hb lb bf).1 (List.mem_cons_self ..)).elim
    · have nb : b1 ≠ f := fun e => by rw [e] at k1; exact bad k1 h2
      have e := h.has b1 f1 ((hS _).mpr ⟨hb1, nb⟩) ((hS _).mpr ⟨hf1, ef⟩) l k1 k2
      have i1 : ∀ x s, (x, f1, s) ∈ (b, f, true) :: R ↔ (x, f1, s) ∈ R := fun x s => by
        constructor
        · intro m
          rcases List.mem_cons.mp m with e | m
          · cases e; exact absurd rfl ef
          · exact m
        · exact List.mem_cons_of_mem _
      have i2 : ∀ k, (b1, k, false) ∈ (b, f, true) :: R ↔ (b1, k, false) ∈ R := fun k => by
        constructor
        · intro m
          rcases List.mem_cons.mp m with e | m
          · cases e
          · exact m
        · exact List.mem_cons_of_mem _
      constructor
      · rintro ⟨s, m⟩ k hk z1 z2
        rw [i1, i2]
        by_cases ek : k = f
        · subst ek
          refine ⟨fun z => ?_, nf _ _⟩
          exact bad (h.inn _ _ _ z).2.2.2.1 h2
        · exact e.mp ⟨s, (i1 _ _).mp m⟩ k ((hS _).mpr ⟨hk, ek⟩) z1 z2
      · intro q
        obtain ⟨s, m⟩ := e.mpr fun k hk z1 z2 => by
          have := q k ((hS _).mp hk).1 z1 z2
          rw [i1, i2] at this
          exact this
        exact ⟨s, (i1 _ _).mpr m⟩
/-- a step at b, f that leaves the bead out -/
theorem heaped_bead {bs : List Bool} {S S' : List Nat} {R : List T3} {b f : Nat} (hb : b ∈ S) (hf : f ∈ S) (bf : b < f) (adj : ∀ k ∈ S, b < k → k < f → False) (h1 : bs[b]? = some true) (h2 : bs[f]? = some false)
    (hS : ∀ x, x ∈ S' ↔ x ∈ S ∧ x ≠ b) (h : Heaped bs S' R) : Heaped bs S ((b, f, false) :: R) := by
  have nb : ∀ x s, (b, x, s) ∉ R := fun x s m => ((hS b).mp (h.inn _ _ _ m).1).2 rfl
  refine ⟨fun b1 f1 s m => ?_, ?_, fun b1 f1 hb1 hf1 l k1 k2 => ?_⟩
  · rcases List.mem_cons.mp m with e | m
    · cases e; exact ⟨hb, hf, bf, h1, h2⟩
    · obtain ⟨a, c, d⟩ := h.inn _ _ _ m
      exact ⟨((hS _).mp a).1, ((hS _).mp c).1, d⟩
  · rw [List.map_cons, List.nodup_cons]
    exact ⟨fun m => by obtain ⟨s, m⟩ := pair_mem.mp m; exact nb _ _ m, h.nd⟩
  · by_cases eb : b1 = b
    · subst eb
      by_cases ef : f1 = f
      · subst ef
        exact ⟨fun _ k hk z1 z2 => (adj k hk z1 z2).elim, fun _ => ⟨false, List.mem_cons_self ..⟩⟩
      · have lf : f < f1 := by
          rcases Nat.lt_trichotomy f f1 with z | z | z
          · exact z
          · exact absurd z.symm ef
          · exact (adj f1 hf1 l z).elim
        constructor
        · rintro ⟨s, m⟩
          rcases List.mem_cons.mp m with e | m
          · cases e; exact absurd rfl ef
          · exact (nb _ _ m).elim
        · intro q
          exact ((q f hf bf lf).2 (List.mem_cons_self ..)).elim
    · have nf : f1 ≠ b := fun e => by rw [e] at k2; exact bad h1 k2
      have e := h.has b1 f1 ((hS _).mpr ⟨hb1, eb⟩) ((hS _).mpr ⟨hf1, nf⟩) l k1 k2
      have i1 : ∀ x s, (b1, x, s) ∈ (b, f, false) :: R ↔ (b1, x, s) ∈ R := fun x s => by
        constructor
        · intro m
          rcases List.mem_cons.mp m with e | m
          · cases e; exact absurd rfl eb
          · exact m
        · exact List.mem_cons_of_mem _
      have i2 : ∀ k, (k, f1, true) ∈ (b, f, false) :: R ↔ (k, f1, true) ∈ R := fun k => by
        constructor
        · intro m
          rcases List.mem_cons.mp m with e | m
          · cases e
          · exact m
        · exact List.mem_cons_of_mem _
      constructor
      · rintro ⟨s, m⟩ k hk z1 z2
        rw [i1, i2]
        by_cases ek : k = b
        · subst ek
          refine ⟨nb _ _, fun z => ?_⟩
          exact bad h1 (h.inn _ _ _ z).2.2.2.2
        · exact e.mp ⟨s, (i1 _ _).mp m⟩ k ((hS _).mpr ⟨hk, ek⟩) z1 z2
      · intro q
        obtain ⟨s, m⟩ := e.mpr fun k hk z1 z2 => by
          have := q k ((hS _).mp hk).1 z1 z2
          rw [i1, i2] at this
          exact this
        exact ⟨s, (i1 _ _).mpr m⟩
/-! ### which cells have a sign -/
theorem one_o {bs : List Bool} {S : List Nat} {R : List T3} (h : Heaped bs S R) {b1 b2 f : Nat} (m1 : (b1, f, true) ∈ R) (m2 : (b2, f, true) ∈ R) : b1 = b2 := by
  have go : ∀ {x y : Nat}, (x, f, true) ∈ R → (y, f, true) ∈ R → ¬ x < y := fun {x y} mx my l => by
    obtain ⟨a, b, c, d, e⟩ := h.inn _ _ _ mx
    obtain ⟨a', b', c', d', e'⟩ := h.inn _ _ _ my
    exact ((h.has x f a b c d e).mp ⟨_, mx⟩ y a' l c').1 my
  have := go m1 m2
  have := go m2 m1
  omega
theorem one_dot {bs : List Bool} {S : List Nat} {R : List T3} (h : Heaped bs S R) {b f1 f2 : Nat} (m1 : (b, f1, false) ∈ R) (m2 : (b, f2, false) ∈ R) : f1 = f2 := by
  have go : ∀ {x y : Nat}, (b, x, false) ∈ R → (b, y, false) ∈ R → ¬ x < y := fun {x y} mx my l => by
    obtain ⟨a, c, d, e, g⟩ := h.inn _ _ _ mx
    obtain ⟨a', c', d', e', g'⟩ := h.inn _ _ _ my
    exact ((h.has b y a' c' d' e' g').mp ⟨_, my⟩ x c d l).2 mx
  have := go m1 m2
  have := go m2 m1
  omega
/-- a cell has a sign just where no nearer one uses the bead or the free place up -/
theorem signed_iff {bs : List Bool} {S : List Nat} {R : List T3} (h : Heaped bs S R) {b f : Nat} (hb : b ∈ S) (hf : f ∈ S) (l : b < f) (h1 : bs[b]? = some true) (h2 : bs[f]? = some false) :
    (∃ s, (b, f, s) ∈ R) ↔ (∀ k, (k, f, true) ∈ R → k ≤ b) ∧ (∀ k, (b, k, false) ∈ R → f ≤ k) := by
  rw [h.has b f hb hf l h1 h2]
  constructor
  · intro q
    refine ⟨fun k m => ?_, fun k m => ?_⟩
    · obtain ⟨a, _, c, _⟩ := h.inn _ _ _ m
      by_cases z : k ≤ b
      · exact z
      · exact ((q k a (by omega) c).1 m).elim
    · obtain ⟨_, a, c, _⟩ := h.inn _ _ _ m
      by_cases z : f ≤ k
      · exact z
      · exact ((q k a c (by omega)).2 m).elim
  · rintro ⟨q1, q2⟩ k hk z1 z2
    exact ⟨fun m => by have := q1 k m; omega, fun m => by have := q2 k m; omega⟩
/-- what is left: free places ahead of beads -/
theorem left_apart {bs : List Bool} {S : List Nat} {R : List T3} (h : Heaped bs S R) {b f : Nat} (hb : b ∈ S) (hf : f ∈ S) (h1 : bs[b]? = some true) (h2 : bs[f]? = some false) (lb : ∀ k, (b, k, false) ∉ R) (lf : ∀ k, (k, f, true) ∉ R) : f < b := by
  rcases Nat.lt_trichotomy f b with z | z | z
  · exact z
  · rw [z] at h2; exact (bad h1 h2).elim
  · obtain ⟨s, m⟩ := (signed_iff h hb hf z h1 h2).mpr ⟨fun k m => (lf k m).elim, fun k m => (lb k m).elim⟩
    cases s with
    | true => exact (lf _ m).elim
    | false => exact (lb _ m).elim
/-! ### sorted lists with the same members are one -/
theorem same_sorted {α : Type} {lt : α → α → Prop} (irr : ∀ x, ¬ lt x x) (asym : ∀ x y, lt x y → lt y x → False) : ∀ {l m : List α}, l.Pairwise lt → m.Pairwise lt → (∀ x, x ∈ l ↔ x ∈ m) → l = m
  | [], [], _, _, _ => rfl
  | [], y :: m, _, _, h => absurd ((h y).mpr (List.mem_cons_self ..)) (by simp)
  | x :: l, [], _, _, h => absurd ((h x).mp (List.mem_cons_self ..)) (by simp)
  | x :: l, y :: m, hl, hm, h => by
    obtain ⟨hx, hl'⟩ := List.pairwise_cons.mp hl
    obtain ⟨hy, hm'⟩ := List.pairwise_cons.mp hm
    have e : x = y := by
      rcases List.mem_cons.mp ((h x).mp (List.mem_cons_self ..)) with e | e
      · exact e
      · rcases List.mem_cons.mp ((h y).mpr (List.mem_cons_self ..)) with e' | e'
        · exact e'.symm
        · exact (asym _ _ (hx _ e') (hy _ e)).elim
    subst e
    refine congrArg (x :: ·) (same_sorted irr asym hl' hm' fun z => ?_)
    constructor
    · intro mz
      rcases List.mem_cons.mp ((h z).mp (List.mem_cons_of_mem _ mz)) with e | e
      · subst e; exact (irr _ (hx _ mz)).elim
      · exact e
    · intro mz
      rcases List.mem_cons.mp ((h z).mpr (List.mem_cons_of_mem _ mz)) with e | e
      · subst e; exact (irr _ (hy _ mz)).elim
      · exact e
/-! ### the cells of a row, and those that are due -/
def beadsOf (bs : List Bool) : List Nat := (List.range bs.length).filter fun p => bs[p]? == some true
def freesOf (bs : List Bool) : List Nat := (List.range bs.length).filter fun p => bs[p]? == some false
def cellsN (bs : List Bool) : List (Nat × Nat) := (beadsOf bs).flatMap fun b => ((freesOf bs).filter fun f => decide (b < f)).map fun f => (b, f)
abbrev I3 := Int × Int × Bool
def ci (c : Nat × Nat) : Int × Int := ((c.1 : Int), (c.2 : Int))
def c3 (e : T3) : I3 := ((e.1 : Int), (e.2.1 : Int), e.2.2)
def pr3 (e : I3) : Int × Int := (e.1, e.2.1)
/-- the nearest bead of a free place: the last one of the list that uses it up -/
def nbI (ts : List I3) (f : Int) : Option Int := (ts.filter fun e => decide (e.2.1 = f) && e.2.2).getLast?.map (·.1)
/-- the nearest free place of a bead: the first one of the list that uses it up -/
def nfI (ts : List I3) (b : Int) : Option Int := (ts.filter fun e => decide (e.1 = b) && !e.2.2).head?.map (·.2.1)
def dueI (ts : List I3) (c : Nat × Nat) : Bool := decide ((nbI ts (c.2 : Int)).getD (c.1 : Int) ≤ (c.1 : Int)) && decide ((c.2 : Int) ≤ (nfI ts (c.1 : Int)).getD (c.2 : Int))
def dueCells (bs : List Bool) (ts : List I3) : List (Int × Int) := ((cellsN bs).filter (dueI ts)).map ci
def isHeapB (bs : List Bool) (ts : List I3) : Bool := decide (ts.map pr3 = dueCells bs ts)
theorem mem_beads {bs : List Bool} {p : Nat} : p ∈ beadsOf bs ↔ bs[p]? = some true := by
  unfold beadsOf
  rw [List.mem_filter, List.mem_range, beq_iff_eq]
  exact ⟨fun h => h.2, fun h => ⟨(List.getElem?_eq_some_iff.mp h).1, h⟩⟩
theorem mem_frees {bs : List Bool} {p : Nat} : p ∈ freesOf bs ↔ bs[p]? = some false := by
  unfold freesOf
  rw [List.mem_filter, List.mem_range, beq_iff_eq]
  exact ⟨fun h => h.2, fun h => ⟨(List.getElem?_eq_some_iff.mp h).1, h⟩⟩
theorem mem_cells {bs : List Bool} {b f : Nat} : (b, f) ∈ cellsN bs ↔ bs[b]? = some true ∧ bs[f]? = some false ∧ b < f := by
  unfold cellsN
  rw [List.mem_flatMap]
  constructor
  · rintro ⟨x, hx, m⟩
    obtain ⟨y, hy, e⟩ := List.mem_map.mp m
    cases e
    obtain ⟨h1, h2⟩ := List.mem_filter.mp hy
    exact ⟨mem_beads.mp hx, mem_frees.mp h1, of_decide_eq_true h2⟩
  · rintro ⟨h1, h2, h3⟩
    exact ⟨b, mem_beads.mpr h1, List.mem_map.mpr ⟨f, List.mem_filter.mpr ⟨mem_frees.mpr h2, decide_eq_true h3⟩, rfl⟩⟩
def ltN (a b : Nat × Nat) : Prop := a.1 < b.1 ∨ a.1 = b.1 ∧ a.2 < b.2
def ltP2 (a b : Int × Int) : Prop := a.1 < b.1 ∨ a.1 = b.1 ∧ a.2 < b.2
theorem range_lt (n : Nat) : (List.range n).Pairwise (· < ·) := List.pairwise_lt_range
theorem flat_lt (g : Nat → List Nat) : ∀ l : List Nat, l.Pairwise (· < ·) → (∀ b, (g b).Pairwise (· < ·)) → (l.flatMap fun b => (g b).map fun f => (b, f)).Pairwise ltN
  | [], _, _ => by simp
  | b :: l, h, hg => by
    obtain ⟨h1, h2⟩ := List.pairwise_cons.mp h
    rw [List.flatMap_cons, List.pairwise_append]
    refine ⟨List.pairwise_map.mpr ((hg b).imp fun h => .inr ⟨rfl, h⟩), flat_lt g l h2 hg, ?_⟩
    intro x hx y hy
    obtain ⟨f, _, rfl⟩ := List.mem_map.mp hx
    obtain ⟨b', hb', m⟩ := List.mem_flatMap.mp hy
    obtain ⟨f', _, rfl⟩ := List.mem_map.mp m
    exact .inl (h1 _ hb')
theorem cells_sorted (bs : List Bool) : (cellsN bs).Pairwise ltN :=
  flat_lt (fun b => (freesOf bs).filter fun f => decide (b < f)) _ ((range_lt _).filter _) fun b => ((range_lt _).filter _).filter _
theorem due_sorted (bs : List Bool) (ts : List I3) : (dueCells bs ts).Pairwise ltP2 := by
  unfold dueCells
  refine List.pairwise_map.mpr (((cells_sorted bs).filter _).imp fun h => ?_)
  rcases h with h | ⟨h1, h2⟩
  · exact .inl (show _ < _ by show ((_ : Nat) : Int) < ((_ : Nat) : Int); omega)
  · exact .inr ⟨by show ((_ : Nat) : Int) = ((_ : Nat) : Int); omega, by show ((_ : Nat) : Int) < ((_ : Nat) : Int); omega⟩
theorem last_mem {α : Type} {l : List α} {x : α} (h : l.getLast? = some x) : x ∈ l := List.mem_of_getLast? h
theorem head_mem {α : Type} {l : List α} {x : α} (h : l.head? = some x) : x ∈ l := List.mem_of_head? h
/-- of a heap: due is what has a sign -/
theorem due_iff {bs : List Bool} {S : List Nat} {R : List T3} (h : Heaped bs S R) {ts : List I3} (p : ts.Perm (R.map c3)) {b f : Nat} (hb : b ∈ S) (hf : f ∈ S) (l : b < f) (h1 : bs[b]? = some true) (h2 : bs[f]? = some false) : dueI ts (b, f) = true ↔ ∃ s, (b, f, s) ∈ R := by
  have mem : ∀ x y s, ((x, y, s) : I3) ∈ ts ↔ ∃ x' y' : Nat, x = x' ∧ y = y' ∧ (x', y', s) ∈ R := fun x y s => by
    rw [p.mem_iff, List.mem_map]
    constructor
    · rintro ⟨⟨x', y', s'⟩, m, e⟩
      cases e
      exact ⟨x', y', rfl, rfl, m⟩
    · rintro ⟨x', y', rfl, rfl, m⟩
      exact ⟨_, m, rfl⟩
  rw [signed_iff h hb hf l h1 h2]
  unfold dueI
  rw [Bool.and_eq_true, decide_eq_true_eq, decide_eq_true_eq]
  have a : ((nbI ts (f : Int)).getD (b : Int) ≤ (b : Int)) ↔ ∀ k, (k, f, true) ∈ R → k ≤ b := by
    unfold nbI
    cases e : (ts.filter fun e => decide (e.2.1 = (f : Int)) && e.2.2).getLast? with
    | none =>
      have em := List.getLast?_eq_none_iff.mp e
      refine ⟨fun _ k m => ?_, fun _ => Int.le_refl _⟩
      have : ((k : Int), (f : Int), true) ∈ ts.filter fun e => decide (e.2.1 = (f : Int)) && e.2.2 := List.mem_filter.mpr ⟨(mem _ _ _).mpr ⟨k, f, rfl, rfl, m⟩, by simp⟩
      rw [em] at this
      exact absurd this (by simp)
    | some x =>
      obtain ⟨m, q⟩ := List.mem_filter.mp (last_mem e)
      obtain ⟨x1, x2, x3⟩ := x
      have q1 : x2 = (f : Int) ∧ x3 = true := by simpa using q
      obtain ⟨rfl, rfl⟩ := q1
      obtain ⟨k0, f0, rfl, e2, m0⟩ := (mem _ _ _).mp m
      have : f0 = f := by omega
      subst this
      show ((k0 : Nat) : Int) ≤ (b : Int) ↔ _
      constructor
      · intro le k mk
        rw [one_o h mk m0]
        omega
      · intro q
        have := q _ m0
        omega
  have c : ((f : Int) ≤ (nfI ts (b : Int)).getD (f : Int)) ↔ ∀ k, (b, k, false) ∈ R → f ≤ k := by
    unfold nfI
    cases e : (ts.filter fun e => decide (e.1 = (b : Int)) && !e.2.2).head? with
    | none =>
      have em := List.head?_eq_none_iff.mp e
      refine ⟨fun _ k m => ?_, fun _ => Int.le_refl _⟩
      have : ((b : Int), (k : Int), false) ∈ ts.filter fun e => decide (e.1 = (b : Int)) && !e.2.2 := List.mem_filter.mpr ⟨(mem _ _ _).mpr ⟨b, k, rfl, rfl, m⟩, by simp⟩
      rw [em] at this
      exact absurd this (by simp)
    | some x =>
      obtain ⟨m, q⟩ := List.mem_filter.mp (head_mem e)
      obtain ⟨x1, x2, x3⟩ := x
      have q1 : x1 = (b : Int) ∧ x3 = false := by simpa using q
      obtain ⟨rfl, rfl⟩ := q1
      obtain ⟨b0, k0, e1, rfl, m0⟩ := (mem _ _ _).mp m
      have : b0 = b := by omega
      subst this
      show (f : Int) ≤ ((k0 : Nat) : Int) ↔ _
      constructor
      · intro le k mk
        rw [one_dot h mk m0]
        omega
      · intro q
        have := q _ m0
        omega
  rw [a, c]
/-- a heap, sorted, is what the program lets by -/
theorem heap_ok {bs : List Bool} {R : List T3} (h : Heaped bs (List.range bs.length) R) {ts : List I3} (p : ts.Perm (R.map c3)) (so : (ts.map pr3).Pairwise ltP2) : ts.map pr3 = dueCells bs ts := by
  refine same_sorted (lt := ltP2) (fun x h => ?_) (fun x y h1 h2 => ?_) so (due_sorted bs ts) fun ⟨x, y⟩ => ?_
  · unfold ltP2 at h; omega
  · unfold ltP2 at h1 h2; omega
  · unfold dueCells
    rw [List.mem_map, List.mem_map]
    constructor
    · rintro ⟨e, m, q⟩
      obtain ⟨⟨b, f, s⟩, mR, rfl⟩ := List.mem_map.mp (p.mem_iff.mp m)
      cases q
      obtain ⟨hb, hf, l, h1, h2⟩ := h.inn _ _ _ mR
      exact ⟨(b, f), List.mem_filter.mpr ⟨mem_cells.mpr ⟨h1, h2, l⟩, (due_iff h p hb hf l h1 h2).mpr ⟨s, mR⟩⟩, rfl⟩
    · rintro ⟨⟨b, f⟩, m, q⟩
      cases q
      obtain ⟨mc, md⟩ := List.mem_filter.mp m
      obtain ⟨h1, h2, l⟩ := mem_cells.mp mc
      obtain ⟨s, mR⟩ := (due_iff h p (List.mem_range.mpr (List.getElem?_eq_some_iff.mp h1).1) (List.mem_range.mpr (List.getElem?_eq_some_iff.mp h2).1) l h1 h2).mp md
      exact ⟨c3 (b, f, s), p.mem_iff.mpr (List.mem_map.mpr ⟨_, mR, rfl⟩), rfl⟩
/-- sorted by all three, no cell twice: sorted by cells -/
theorem pairs_lt {R : List T3} (nd : (R.map fun e => (e.1, e.2.1)).Nodup) {ts : List I3} (p : ts.Perm (R.map c3)) (so : ts.Pairwise fun x y => ¬ ltP2 (pr3 y) (pr3 x)) : (ts.map pr3).Pairwise ltP2 := by
  have nd2 : (ts.map pr3).Nodup := by
    rw [(p.map pr3).nodup_iff, List.map_map, show pr3 ∘ c3 = ci ∘ (fun e : T3 => (e.1, e.2.1)) from rfl, ← List.map_map]
    refine List.Pairwise.map _ ?_ nd
    rintro ⟨a, b⟩ ⟨a', b'⟩ ne e
    unfold ci at e
    injection e with e1 e2
    have e1 : (a : Int) = (a' : Int) := e1
    have e2 : (b : Int) = (b' : Int) := e2
    exact ne (by rw [Int.ofNat.inj e1, Int.ofNat.inj e2])
  have so2 : (ts.map pr3).Pairwise fun x y => ¬ ltP2 y x := List.pairwise_map.mpr so
  refine (List.Pairwise.and nd2 so2).imp ?_
  rintro ⟨a, b⟩ ⟨a', b'⟩ ⟨ne, n⟩
  unfold ltP2 at n ⊢
  have n' : ¬ (a' < a ∨ a' = a ∧ b' < b) := n
  show a < a' ∨ a = a' ∧ b < b'
  rcases Int.lt_trichotomy a a' with z | z | z
  · exact .inl z
  · subst z
    rcases Int.lt_trichotomy b b' with z | z | z
    · exact .inr ⟨rfl, z⟩
    · subst z; exact absurd rfl ne
    · exact absurd (.inr ⟨rfl, z⟩) n'
  · exact absurd (.inl z) n'
end HopH

set_option Elab.async false
set_option linter.all false
set_option maxRecDepth 100000
namespace HopT
open PySem PySem.Spec PyProof.Rows L2
/-! ### sorted(tuples of ints, of any lengths but nought): the same tuples in some order -/
section
variable {prog : Program} {w : World} {A : Around} {E : Value → Shared → Prop} {s : Shared}
def Whole (u : Value) : Prop := ∃ (x : Int) (t : Tok), u = .int x t
def Begun (h : Heap) (v : Value) : Prop := ∃ a o f us n, v = .ref a ∧ h.get? a = some o ∧ o.cls = .type "tuple" ∧ o.data = .seq (f :: us).toArray n ∧ ∀ u ∈ f :: us, Whole u
/-- two rows of ints are always told apart or alike -/
theorem apart {b z : Bool} : ∀ (l : List (Value × Value)) (i : Nat), (∀ p ∈ l, Whole p.1 ∧ Whole p.2) → ∃ c : Bool, ∀ Q : Bool → Shared → Prop, Q c s → PySem.W.KatLex prog w A b z Q l i s
  | [], _, _ => ⟨z, fun _ q => PySem.W.kat_nil q⟩
  | (_, _) :: l, i, hl => by
    obtain ⟨⟨x, t, rfl⟩, ⟨y, u, rfl⟩⟩ := hl _ (List.mem_cons_self ..)
    obtain ⟨c, hc⟩ := apart l (i + 1) (fun p m => hl p (List.mem_cons_of_mem _ m))
    by_cases same : x = y
    · exact ⟨c, fun Q q => PySem.W.kat_cons (SeqAt.EqAt.int_int x t y u prog w _ _ (PySem.W.kat_go (fun _ => PySem.W.kat_yes (hc Q q)) (fun no => by simp [same] at no)))⟩
    · exact ⟨decide (x < y), fun Q q => PySem.W.kat_cons (SeqAt.EqAt.int_int x t y u prog w _ _ (PySem.W.kat_go (fun yes => absurd (by simpa using yes) same) (fun _ => PySem.W.kat_no (TS.oneLt_ints _ q))))⟩
theorem heads {h : Heap} : ∀ vs : List Value, (∀ v ∈ vs, Begun h v) → ∃ fs : List Value, PySem.W.KatTups h vs fs ∧ fs.length = vs.length ∧ ∀ f ∈ fs, Whole f
  | [], _ => ⟨[], .nil, rfl, by simp⟩
  | v :: vs, hv => by
    obtain ⟨fs, k, l, z⟩ := heads vs (fun u m => hv u (List.mem_cons_of_mem _ m))
    obtain ⟨a, o, f, us, n, rfl, g, c, d, i⟩ := hv v (List.mem_cons_self ..)
    refine ⟨f :: fs, .cons g c d (by simp) k, by simp [l], ?_⟩
    intro x m
    cases m with
    | head => exact i f (List.mem_cons_self ..)
    | tail _ m => exact z x m
theorem can_sort {a : Addr} {vs : List Value} (some' : vs ≠ []) (hv : ∀ v ∈ vs, Begun s.heap v) (na : ∀ o, s.heap.get? a = some o → o.cls ≠ .type "tuple") : Srt.Sortable prog w A s a vs := fun h' keep => by
  have hv' : ∀ v ∈ vs, Begun h' v := fun v m => by
    obtain ⟨b, o, f, us, n, e, g, c, r⟩ := hv v m
    exact ⟨b, o, f, us, n, e, keep b o (by rintro rfl; exact na o g c) g, c, r⟩
  obtain ⟨fs, k, l, z⟩ := heads vs hv'
  have p : 0 < fs.length := by rw [l]; exact List.length_pos_iff.mpr some'
  have nt : (Value.type "int" != Value.type "tuple") = true := by first | decide +kernel | rfl
  refine ⟨tuples' true, fun Q E q => PySem.W.kat_kind (T := .type "int") k p (fun f m => ?_) rfl (nt ▸ q), fun x y hx hy => ?_⟩
  · obtain ⟨i, t, rfl⟩ := z f m
    exact .now
  · obtain ⟨a1, o1, f1, us1, n1, e1, g1, c1, d1, i1⟩ := hv' _ hx
    obtain ⟨a2, o2, f2, us2, n2, e2, g2, c2, d2, i2⟩ := hv' _ hy
    obtain ⟨c, hc⟩ := apart (prog := prog) (w := w) (A := A) (s := { s with heap := h' }) (b := true) (z := decide ((f1 :: us1).toArray.size < (f2 :: us2).toArray.size)) ((f1 :: us1).zip (f2 :: us2)) 0 (fun p m => ⟨i1 _ (List.of_mem_zip m).1, i2 _ (List.of_mem_zip m).2⟩)
    rw [e1, e2]
    exact ⟨c, PySem.W.kat_lt g1 d1 g2 d2 (hc _ ⟨rfl, rfl⟩)⟩
end
def rSortedZ (K : PySem.W.Frag) : List V → Hp → VK → Prop := fun vs H Q => ∃ (a : Addr) (ts : List Addr), vs = [.ref a] ∧ SqL K H a (ts.map V.ref) ∧ (∀ t ∈ ts, ∃ (n : Int) (ns : List Int), H t = some (.tup ((n :: ns).map V.int))) ∧
  ∀ (ys : List Addr) p, ys.Perm ts → H p = none → Q (.ref p) (upd H p (.lst (ys.map V.ref)))
theorem refs_are : ∀ {ts : List Addr} {us : List Value}, Vals (ts.map V.ref) us → us = ts.map Value.ref
  | [], _, .nil => rfl
  | _ :: _, _, .cons r t => by cases r; rw [refs_are t]; rfl
theorem are_refs : ∀ ts : List Addr, Vals (ts.map V.ref) (ts.map Value.ref)
  | [] => .nil
  | _ :: ts => .cons rfl (are_refs ts)
theorem perm_refs {out : List Value} {ts : List Addr} (h : out.Perm (ts.map Value.ref)) : ∃ ys : List Addr, out = ys.map Value.ref ∧ ys.Perm ts := by
  let f : Value → Addr := fun v => match v with | .ref a => a | _ => 0
  have e : ∀ l : List Addr, (l.map Value.ref).map f = l := fun l => by induction l with
    | nil => rfl
    | cons x l ih => rw [List.map_cons, List.map_cons, ih]
  refine ⟨out.map f, ?_, by have := h.map f; rwa [e] at this⟩
  rw [List.map_map]
  refine (List.map_id out).symm.trans (List.map_congr_left fun v m => ?_)
  obtain ⟨a, _, rfl⟩ := List.mem_map.mp (h.mem_iff.mp m)
  rfl
theorem cr_sortedZ {X : Cx} : CallR X (.builtin "sorted") (rSortedZ X.K) := by
  rintro pins s σ H vs us Q I r ⟨a, ts, rfl, hs, ht, q⟩
  obtain ⟨its, rv, isl, big⟩ := I.list hs
  obtain rfl := refs_are rv
  rw [Vals.ref1 r]
  have beg : ∀ v ∈ ts.map Value.ref, Begun s.heap v := by
    intro v m
    obtain ⟨t, mt, rfl⟩ := List.mem_map.mp m
    obtain ⟨n, ns, e⟩ := ht t mt
    obtain ⟨_, vs', r', o, g, c, k, d⟩ := I.hok _ _ e
    have wh := SrtO.ints_mem r'.ints
    cases r' with
    | cons r0 rs => exact ⟨t, o, _, _, k, rfl, g, c, d, wh⟩
  refine Srt.sorted_any isl.isList (by simpa using big) (fun two h1 b hb kk => can_sort (by rintro e; rw [e] at two; simp at two) (fun v m => ?_) (fun o g => ?_)) (fun out po => ?_)
  · obtain ⟨t, o, f, us, n, e, g, rest⟩ := beg v m
    exact ⟨t, o, f, us, n, e, (kk _ _ g).2, rest⟩
  · obtain rfl := Option.some.inj (g.symm.trans hb)
    exact fun c => absurd (Value.type.inj c) (by decide)
  · obtain ⟨ys, rfl, py⟩ := perm_refs po
    obtain ⟨k, at'⟩ := sortedAll_at s.heap (ts.map Value.ref) (ys.map Value.ref).toArray
    have len : (ys.map V.ref).length ≤ sizeLine := by rw [List.length_map, py.length_eq]; simpa using big
    exact ⟨.ref _, upd H (s.heap.objs.size + 1) (.lst (ys.map V.ref)), I.laid (t' := s.toks) (fun _ _ => sortedAll_old) (Nat.le_succ _) ⟨len, _, k, are_refs ys, at'⟩, rfl, q ys _ py (I.hok.fresh (Nat.le_succ _))⟩
end HopT

set_option Elab.async false
set_option linter.all false
set_option maxRecDepth 100000
namespace HopT
open PySem PySem.Spec PyProof.Rows L2
/-! ### sorted(tuples of ints and texts, alike in their kinds): in order, however many -/
def ltK : Key → Key → Bool
  | .inl x, .inl y => decide (x < y)
  | .inr s, .inr t => decide (s.cps.toList < t.cps.toList)
  | .inl _, .inr _ => true
  | .inr _, .inl _ => false
def lexK : List Key → List Key → Bool
  | [], [] => false
  | [], _ :: _ => true
  | _ :: _, [] => false
  | a :: l, b :: m => if a = b then lexK l m else ltK a b
theorem str_ext {s t : Str} (h : s.cps.toList = t.cps.toList) : s = t := by
  cases s; cases t
  exact congrArg Str.mk (Array.toList_inj.mp h)
theorem ltK_irr (a : Key) : ltK a a = false := by
  cases a with
  | inl x => exact decide_eq_false (Int.lt_irrefl _)
  | inr s => exact decide_eq_false (List.lt_irrefl _)
theorem ltK_asym (a b : Key) (h : ltK a b = true) : ltK b a = false := by
  cases a <;> cases b
  · exact decide_eq_false (by have := of_decide_eq_true h; omega)
  · rfl
  · cases h
  · exact decide_eq_false (fun z => List.lt_asymm (of_decide_eq_true h) z)
theorem ltK_tri (a b : Key) (h1 : ltK a b = false) (h2 : ltK b a = false) : a = b := by
  cases a <;> cases b
  · have := of_decide_eq_false h1; have := of_decide_eq_false h2; congr 1; omega
  · cases h1
  · cases h2
  · exact congrArg Sum.inr (str_ext (List.le_antisymm (of_decide_eq_false h2) (of_decide_eq_false h1)))
theorem ltK_tr (a b c : Key) (h1 : ltK b a = false) (h2 : ltK c b = false) : ltK c a = false := by
  cases a <;> cases b <;> cases c <;> first | cases h1; done | cases h2; done | rfl | skip
  · exact decide_eq_false (by have := of_decide_eq_false h1; have := of_decide_eq_false h2; omega)
  · exact decide_eq_false (List.le_trans (of_decide_eq_false h1) (of_decide_eq_false h2))
theorem lexK_asym : ∀ l m : List Key, lexK l m = true → lexK m l = false
  | [], [], h => by cases h
  | [], _ :: _, _ => rfl
  | _ :: _, [], h => by cases h
  | a :: l, b :: m, h => by
    unfold lexK at h ⊢
    by_cases e : a = b
    · rw [if_pos e] at h; rw [if_pos e.symm]; exact lexK_asym l m h
    · rw [if_neg e] at h; rw [if_neg (Ne.symm e)]; exact ltK_asym _ _ h
theorem lexK_tr : ∀ l m k : List Key, lexK m l = false → lexK k m = false → lexK k l = false
  | [], [], k, _, h => h
  | [], _ :: _, [], _, h => by cases h
  | [], _ :: _, _ :: _, _, _ => rfl
  | _ :: _, [], _, h, _ => by cases h
  | _ :: _, _ :: _, [], _, h => by cases h
  | a :: l, b :: m, c :: k, h1, h2 => by
    unfold lexK at h1 h2 ⊢
    by_cases e1 : b = a
    · subst e1
      rw [if_pos rfl] at h1
      by_cases e2 : c = b
      · rw [if_pos e2] at h2 ⊢; exact lexK_tr l m k h1 h2
      · rw [if_neg e2] at h2 ⊢; exact h2
    · rw [if_neg e1] at h1
      by_cases e2 : c = b
      · subst e2; rw [if_neg e1]; exact h1
      · rw [if_neg e2] at h2
        have h3 := ltK_tr _ _ _ h1 h2
        by_cases e3 : c = a
        · subst e3
          exact absurd (ltK_tri _ _ h2 h1) (fun z => e2 z)
        · rw [if_neg e3]; exact h3
theorem swo_lexK {α : Type} (k : α → List Key) : SrtO.Swo fun x y => lexK (k x) (k y) := ⟨fun x y => lexK_asym _ _, fun x y z => lexK_tr _ _ _⟩
def kindK : Key → Bool
  | .inl _ => true
  | .inr _ => false
section
variable {prog : Program} {w : World} {A : Around} {E : Value → Shared → Prop} {s : Shared}
def KeysAre (ks : List Key) (us : List Value) : Prop := Vals (ks.map kV) us
theorem lex_run {b : Bool} : ∀ {ks ms : List Key} {us vs : List Value} (i : Nat), KeysAre ks us → KeysAre ms vs → ks.map kindK = ms.map kindK → ∀ Q : Bool → Shared → Prop, Q (lexK ks ms) s → PySem.W.KatLex prog w A b false Q (us.zip vs) i s
  | [], [], _, _, _, .nil, .nil, _, _, q => PySem.W.kat_nil q
  | [], _ :: _, _, _, _, _, _, h, _, _ => by simp at h
  | _ :: _, [], _, _, _, _, _, h, _, _ => by simp at h
  | .inl x :: ks, .inr y :: ms, _, _, _, _, _, h, _, _ => by simp [kindK] at h
  | .inr x :: ks, .inl y :: ms, _, _, _, _, _, h, _, _ => by simp [kindK] at h
  | .inl x :: ks, .inl y :: ms, _, _, i, .cons r1 t1, .cons r2 t2, h, Q, q => by
    obtain ⟨t, rfl⟩ := r1
    obtain ⟨u, rfl⟩ := r2
    have h' : ks.map kindK = ms.map kindK := (List.cons.inj h).2
    unfold lexK at q
    refine PySem.W.kat_cons (SeqAt.EqAt.int_int x t y u prog w _ _ (PySem.W.kat_go (fun e1 => ?_) (fun e1 => ?_)))
    · have e : x = y := by simpa using e1
      rw [if_pos (congrArg Sum.inl e)] at q
      exact PySem.W.kat_yes (lex_run (i + 1) t1 t2 h' Q q)
    · have e : ¬ x = y := by simpa using e1
      rw [if_neg (fun z => e (Sum.inl.inj z))] at q
      exact PySem.W.kat_no (oneLt_any_int q)
  | .inr x :: ks, .inr y :: ms, _, _, i, .cons r1 t1, .cons r2 t2, h, Q, q => by
    obtain ⟨t, rfl⟩ := r1
    obtain ⟨u, rfl⟩ := r2
    have h' : ks.map kindK = ms.map kindK := (List.cons.inj h).2
    unfold lexK at q
    refine PySem.W.kat_cons (SeqAt.EqAt.str_str x t y u prog w _ _ (PySem.W.kat_go (fun e1 => ?_) (fun e1 => ?_)))
    · have e : x = y := by simpa using e1
      rw [if_pos (congrArg Sum.inr e)] at q
      exact PySem.W.kat_yes (lex_run (i + 1) t1 t2 h' Q q)
    · have e : ¬ x = y := by simpa using e1
      rw [if_neg (fun z => e (Sum.inr.inj z))] at q
      exact PySem.W.kat_no (oneLt_any_str q)
/-- at v a tuple of the keys ks -/
def TupK (h : Heap) (v : Value) (ks : List Key) : Prop := ∃ a o us n, v = .ref a ∧ h.get? a = some o ∧ o.cls = .type "tuple" ∧ o.data = .seq us.toArray n ∧ KeysAre ks us
theorem TupK.keeps {h h' : Heap} {v : Value} {ks : List Key} (x : TupK h v ks) (k : ∀ b o, h.get? b = some o → o.cls = .type "tuple" → h'.get? b = some o) : TupK h' v ks := by
  obtain ⟨a, o, us, n, e, g, c, r⟩ := x
  exact ⟨a, o, us, n, e, k _ _ g c, c, r⟩
theorem tup_heads {h : Heap} {k : Value → List Key} {c : Bool} {κs : List Bool} : ∀ vs : List Value, (∀ v ∈ vs, TupK h v (k v) ∧ (k v).map kindK = c :: κs) → ∃ fs : List Value, PySem.W.KatTups h vs fs ∧ fs.length = vs.length ∧ ∀ f ∈ fs, if c then ∃ i t, f = .int i t else ∃ x t, f = .str x t
  | [], _ => ⟨[], .nil, rfl, by simp⟩
  | v :: vs, hv => by
    obtain ⟨fs, kt, l, z⟩ := tup_heads vs (fun u m => hv u (List.mem_cons_of_mem _ m))
    obtain ⟨⟨a, o, us, n, e, g, cl, d, ka⟩, hk⟩ := hv v (List.mem_cons_self ..)
    generalize k v = kv at hk ka
    cases kv with
    | nil => simp at hk
    | cons x ks =>
      obtain ⟨f, us', rfl, r, t⟩ : ∃ f us', us = f :: us' ∧ RelV (kV x) f ∧ Vals (ks.map kV) us' := by
        cases ka with
        | cons r t => exact ⟨_, _, rfl, r, t⟩
      refine ⟨f :: fs, ?_, by simp [l], ?_⟩
      · rw [e]; exact .cons g cl d (by simp) kt
      · intro y m
        rcases List.mem_cons.mp m with rfl | m
        · have hx : kindK x = c := (List.cons.inj hk).1
          cases x with
          | inl i => obtain ⟨t, e⟩ := r; have : c = true := hx.symm; rw [this]; exact ⟨i, t, e⟩
          | inr i => obtain ⟨t, e⟩ := r; have : c = false := hx.symm; rw [this]; exact ⟨i, t, e⟩
        · exact z y m
theorem tups_sortable {a : Addr} {vs : List Value} {k : Value → List Key} {c : Bool} {κs : List Bool} (h0 : 0 < vs.length) (hp : ∀ v ∈ vs, TupK s.heap v (k v) ∧ (k v).map kindK = c :: κs) (ha : ∀ o, s.heap.get? a = some o → o.cls ≠ .type "tuple") : SrtO.SortableO prog w A s a vs fun v u => lexK (k v) (k u) := by
  intro h' keep
  have hp' : ∀ v ∈ vs, TupK h' v (k v) ∧ (k v).map kindK = c :: κs := fun v hm => ⟨(hp v hm).1.keeps fun b o e cl => keep b o (fun z => by subst z; exact ha o e cl) e, (hp v hm).2⟩
  obtain ⟨fs, h1, h2, h3⟩ := tup_heads vs hp'
  refine ⟨tuples' true, fun Q E hq => ?_, ?_⟩
  · cases c with
    | true =>
      have nt : (Value.type "int" != Value.type "tuple") = true := by first | decide +kernel | rfl
      refine PySem.W.kat_kind (T := .type "int") h1 (by omega) (fun f hm => ?_) (by rfl) (nt ▸ hq)
      obtain ⟨x, t, rfl⟩ := h3 f hm
      exact PySem.W.Looks.now
    | false =>
      have nt : (Value.type "str" != Value.type "tuple") = true := by first | decide +kernel | rfl
      refine PySem.W.kat_kind (T := .type "str") h1 (by omega) (fun f hm => ?_) (by rfl) (nt ▸ hq)
      obtain ⟨x, t, rfl⟩ := h3 f hm
      exact PySem.W.Looks.now
  · intro p q hm hm'
    obtain ⟨⟨a1, o1, us1, n1, e1, g1, c1, d1, k1⟩, z1⟩ := hp' _ hm
    obtain ⟨⟨a2, o2, us2, n2, e2, g2, c2, d2, k2⟩, z2⟩ := hp' _ hm'
    show wpAny (model prog w) A (keyLt' (tuples' true) p.1 q.1) (fun r s' => s' = _ ∧ r = lexK (k p.1) (k q.1)) (fun _ _ => False) _
    rw [show keyLt' (tuples' true) p.1 q.1 = keyLt' (tuples' true) (.ref a1) (.ref a2) by rw [e1, e2]]
    refine PySem.W.kat_lt g1 d1 g2 d2 ?_
    have len : us1.length = us2.length := by
      have l1 := Vals.length k1
      have l2 := Vals.length k2
      have l3 := congrArg List.length (z1.trans z2.symm)
      rw [List.length_map] at l1 l2
      rw [List.length_map, List.length_map] at l3
      omega
    have ef : decide (us1.toArray.size < us2.toArray.size) = false := by
      rw [List.size_toArray, List.size_toArray]
      exact decide_eq_false (by omega)
    rw [ef]
    exact lex_run 0 k1 k2 (z1.trans z2.symm) _ ⟨rfl, rfl⟩
end
abbrev ltV (k : V → List Key) (x y : V) : Bool := lexK (k x) (k y)
/-- sorted(xs), xs a list of tuples of ints and texts, alike in their kinds -/
def rSortedTK (K : PySem.W.Frag) : List V → Hp → VK → Prop := fun vs H Q => ∃ (a : Addr) (xs : List V) (k : V → List Key) (c : Bool) (κs : List Bool), vs = [V.ref a] ∧ SqL K H a xs ∧ (∀ x ∈ xs, ∃ t, x = V.ref t ∧ H t = some (.tup ((k x).map kV)) ∧ (k x).map kindK = c :: κs) ∧
  ∀ ys p, SrtO.Srtd (ltV k) ys → ys.Perm xs → H p = none → Q (.ref p) (upd H p (.lst ys))
theorem cr_sortedTK {X : Cx} : CallR X (.builtin "sorted") (rSortedTK X.K) := by
  intro pins s σ H vs us Q I r h
  obtain ⟨a, xs, k, c, κs, rfl, hs, hx, q⟩ := h
  obtain ⟨its, rv, hl, hz⟩ := I.list hs
  rw [Vals.ref1 r]
  obtain ⟨e1, e2⟩ := refs_back rv fun x m => by
    obtain ⟨t, e, _⟩ := hx x m
    exact ⟨t, e⟩
  have tk : ∀ v ∈ its, TupK s.heap v (k (backV v)) ∧ (k (backV v)).map kindK = c :: κs := fun v hv => by
    obtain ⟨t, rfl⟩ := e2 v hv
    have hm : V.ref t ∈ xs := by rw [e1]; exact List.mem_map.mpr ⟨_, hv, rfl⟩
    obtain ⟨t', e, ht, hk⟩ := hx _ hm
    cases e
    obtain ⟨_, its2, r2, o, ho, hc, n, hd⟩ := I.hok _ _ ht
    exact ⟨⟨t, o, its2, n, rfl, ho, hc, hd, r2⟩, hk⟩
  refine SrtO.sorted_ord (swo_lexK fun v => k (backV v)) hl.isList (by rw [← rv.length]; exact hz) (fun h2 h₁ b hb kk => ?_) fun out hso hst => ?_
  · refine tups_sortable (s := { s with heap := h₁ }) (by omega) (fun v hm => ⟨(tk v hm).1.keeps fun b o e _ => (kk b o e).2, (tk v hm).2⟩) fun o e => ?_
    obtain rfl := Option.some.inj (e.symm.trans hb)
    exact fun c => absurd (Value.type.inj c) (by decide)
  · have h3 : ∀ u ∈ out, ∃ a, u = Value.ref a := fun u hu => e2 u (hst.perm.mem_iff.mp hu)
    have pm : (out.map backV).Perm xs := by rw [e1]; exact hst.perm.map backV
    obtain ⟨n, hn⟩ := sortedAll_at s.heap its out.toArray
    refine ⟨.ref _, upd H (s.heap.objs.size + 1) (.lst (out.map backV)), I.laid (t' := s.toks) (fun _ _ => sortedAll_old) (Nat.le_succ _) ⟨?_, out, n, vals_back h3, hn⟩, rfl, q _ _ (SrtO.srtd_map hso) pm (I.hok.fresh (Nat.le_succ _))⟩
    rw [pm.length_eq]
    exact hz
end HopT

set_option Elab.async false
set_option linter.all false
set_option maxRecDepth 100000
namespace HopW
open L2
/-! ### a dict that counts -/
section
variable {α κ : Type} [DecidableEq α] [DecidableEq κ]
def zv (ι : α → κ) (l : List (α × Int)) : List (κ × V) := l.map fun p => (ι p.1, .int p.2)
def gz (k : α) : List (α × Int) → Int
  | [] => 0
  | (j, v) :: l => if j = k then v else gz k l
def pz (k : α) (c : Int) : List (α × Int) → List (α × Int)
  | [] => [(k, c)]
  | (j, v) :: l => if j = k then (j, v + c) :: l else (j, v) :: pz k c l
def ds (φ : α → Rat) : List (α × Int) → Rat
  | [] => 0
  | (j, v) :: l => (v : Rat) * φ j + ds φ l
/-- the keys are told once each -/
def Once (l : List (α × Int)) : Prop := (l.map (·.1)).Nodup
theorem val_zv {ι : α → κ} (inj : ∀ a b, ι a = ι b → a = b) (k : α) : ∀ l : List (α × Int), (valV (zv ι l) (ι k)).getD (.int 0) = .int (gz k l)
  | [] => rfl
  | (j, v) :: l => by
    show (valV ((ι j, V.int v) :: zv ι l) (ι k)).getD (.int 0) = .int (if j = k then v else gz k l)
    by_cases e : j = k
    · rw [if_pos e, valV_pos (by rw [e])]; rfl
    · rw [if_neg e, valV_neg (fun z => e (inj _ _ z))]
      exact val_zv inj k l
theorem val_in {ι : α → κ} (inj : ∀ a b, ι a = ι b → a = b) {k : α} : ∀ {l : List (α × Int)} {i : Nat} {c : Int}, Once l → l[i]? = some (k, c) → valV (zv ι l) (ι k) = some (.int c)
  | (j, v) :: l, 0, c, _, h => by
    obtain ⟨rfl, rfl⟩ := Prod.mk.inj (Option.some.inj h)
    exact valV_pos rfl
  | (j, v) :: l, i + 1, c, o, h => by
    have o' : (j :: l.map (·.1)).Nodup := o
    have h' : l[i]? = some (k, c) := h
    obtain ⟨n1, n2⟩ := List.nodup_cons.mp o'
    have m : k ∈ l.map (·.1) := List.mem_map.mpr ⟨(k, c), List.mem_of_getElem? h', rfl⟩
    refine (valV_neg (fun z => n1 ?_)).trans (val_in inj (i := i) n2 h')
    rw [inj _ _ (show ι j = ι k from z)]; exact m
theorem no_key {ι : α → κ} (inj : ∀ a b, ι a = ι b → a = b) {k : α} : ∀ {l : List (α × Int)}, k ∉ l.map (·.1) → valV (zv ι l) (ι k) = none ∧ ∀ x, (zv ι l).map (fun kv => if kv.1 = ι k then (kv.1, x) else kv) = zv ι l
  | [], _ => ⟨rfl, fun _ => rfl⟩
  | (j, v) :: l, h => by
    have h' : k ∉ j :: l.map (·.1) := h
    have n1 : ¬ ι j = ι k := fun z => h' (by rw [inj _ _ z]; exact List.mem_cons_self ..)
    obtain ⟨a, b⟩ := no_key inj (l := l) (fun m => h' (List.mem_cons_of_mem _ m))
    refine ⟨(valV_neg n1).trans a, fun x => ?_⟩
    show (if ι j = ι k then (ι j, x) else (ι j, V.int v)) :: (zv ι l).map _ = (ι j, V.int v) :: zv ι l
    rw [if_neg n1, b x]
theorem any_zv {ι : α → κ} (k : α) (l : List (α × Int)) : ((zv ι l).any fun kv => decide (kv.1 = ι k)) = (valV (zv ι l) (ι k)).isSome := valV_any (ι k) _
theorem put_zv {ι : α → κ} (inj : ∀ a b, ι a = ι b → a = b) (k : α) (c : Int) : ∀ {l : List (α × Int)}, Once l → putK (zv ι l) (ι k) (.int (gz k l + c)) = zv ι (pz k c l)
  | [], _ => by
    rw [putK_new _ (show valV (zv ι ([] : List (α × Int))) (ι k) = none from rfl)]
    show [(ι k, V.int (0 + c))] = [(ι k, V.int c)]
    rw [Int.zero_add]
  | (j, v) :: l, o => by
    have o' : (j :: l.map (·.1)).Nodup := o
    obtain ⟨n1, n2⟩ := List.nodup_cons.mp o'
    by_cases e : j = k
    · subst e
      show putK ((ι j, V.int v) :: zv ι l) (ι j) (.int ((if j = j then v else gz j l) + c)) = zv ι (if j = j then (j, v + c) :: l else _)
      rw [if_pos rfl, if_pos rfl]
      have q := (no_key inj n1).2 (.int (v + c))
      unfold putK
      rw [if_pos (by simp)]
      show (if ι j = ι j then (ι j, V.int (v + c)) else _) :: (zv ι l).map _ = (ι j, V.int (v + c)) :: zv ι l
      rw [if_pos rfl, q]
    · have n3 : ¬ ι j = ι k := fun z => e (inj _ _ z)
      have ih := put_zv inj k c n2
      show putK ((ι j, V.int v) :: zv ι l) (ι k) (.int ((if j = k then v else gz k l) + c)) = zv ι (if j = k then _ else (j, v) :: pz k c l)
      rw [if_neg e, if_neg e]
      show _ = (ι j, V.int v) :: zv ι (pz k c l)
      rw [← ih]
      generalize V.int (gz k l + c) = x
      unfold putK
      rw [List.any_cons, show decide ((ι j, V.int v).1 = ι k) = false from decide_eq_false n3, Bool.false_or, List.map_cons, if_neg n3]
      by_cases t : ((zv ι l).any fun kv => decide (kv.1 = ι k)) = true
      · rw [if_pos t, if_pos t]
      · rw [if_neg t, if_neg t]; rfl
theorem ds_pz (φ : α → Rat) (k : α) (c : Int) : ∀ l : List (α × Int), ds φ (pz k c l) = ds φ l + (c : Rat) * φ k
  | [] => by show (c : Rat) * φ k + 0 = 0 + (c : Rat) * φ k; grind
  | (j, v) :: l => by
    unfold pz
    split
    · rename_i e; subst e
      show ((v + c : Int) : Rat) * φ j + ds φ l = (v : Rat) * φ j + ds φ l + (c : Rat) * φ j
      rw [Rat.intCast_add]; grind
    · show (v : Rat) * φ j + ds φ (pz k c l) = (v : Rat) * φ j + ds φ l + (c : Rat) * φ k
      rw [ds_pz φ k c l]; grind
theorem keys_pz {k x : α} {c : Int} : ∀ {l : List (α × Int)}, x ∈ (pz k c l).map (·.1) → x = k ∨ x ∈ l.map (·.1)
  | [], h => .inl (by simpa [pz] using h)
  | (j, v) :: l, h => by
    unfold pz at h
    split at h
    · exact .inr h
    · rcases List.mem_cons.mp h with e | m
      · exact .inr (by rw [e]; exact List.mem_cons_self ..)
      · rcases keys_pz m with e | m
        · exact .inl e
        · exact .inr (List.mem_cons_of_mem _ m)
theorem once_pz {k : α} {c : Int} : ∀ {l : List (α × Int)}, Once l → Once (pz k c l)
  | [], _ => by simp [Once, pz]
  | (j, v) :: l, o => by
    have o' : (j :: l.map (·.1)).Nodup := o
    obtain ⟨n1, n2⟩ := List.nodup_cons.mp o'
    unfold pz
    split
    · exact o
    · rename_i e
      exact List.nodup_cons.mpr ⟨fun m => (keys_pz m).elim e n1, once_pz n2⟩
theorem len_pz (k : α) (c : Int) : ∀ l : List (α × Int), (pz k c l).length ≤ l.length + 1
  | [] => Nat.le_refl _
  | (j, v) :: l => by
    unfold pz
    split
    · exact Nat.le_succ _
    · exact Nat.succ_le_succ (len_pz k c l)
theorem ds_app (φ : α → Rat) : ∀ l m : List (α × Int), ds φ (l ++ m) = ds φ l + ds φ m
  | [], m => by show ds φ m = 0 + ds φ m; grind
  | (j, v) :: l, m => by show (v : Rat) * φ j + ds φ (l ++ m) = (v : Rat) * φ j + ds φ l + ds φ m; rw [ds_app φ l m]; grind
theorem ds_take {φ : α → Rat} {l : List (α × Int)} {i : Nat} {k : α} {c : Int} (h : l[i]? = some (k, c)) : ds φ (l.take (i + 1)) = ds φ (l.take i) + (c : Rat) * φ k := by
  rw [List.take_succ, h, ds_app]
  show ds φ (l.take i) + ((c : Rat) * φ k + 0) = _
  grind
end
/-! ### a word without a bead before a free place -/
theorem wt_rest (x y : Rat) (f b : Nat) : wt x y (List.replicate f false ++ List.replicate b true) = x ^ f * y ^ b := by
  induction f with
  | zero =>
    induction b with
    | zero => simp [wt, gf]
    | succ b ih =>
      rw [List.replicate_succ', ← List.append_assoc, wt_bead, ih]
      grind
  | succ f ih =>
    rw [List.replicate_succ, List.cons_append, wt_free, ih]
    grind
end HopW

set_option Elab.async false
set_option linter.all false
set_option maxRecDepth 100000
namespace HopW
open L2
theorem all_pz {α : Type} [DecidableEq α] {R : α → Prop} {k : α} {c : Int} (hk : R k) (hc : 0 ≤ c) : ∀ {l : List (α × Int)}, (∀ p ∈ l, R p.1 ∧ 0 ≤ p.2) → ∀ p ∈ pz k c l, R p.1 ∧ 0 ≤ p.2
  | [], _, p, m => by
    obtain rfl := List.mem_singleton.mp m
    exact ⟨hk, hc⟩
  | (j, v) :: l, h, p, m => by
    have h0 := h _ (List.mem_cons_self ..)
    have h1 : ∀ p ∈ l, R p.1 ∧ 0 ≤ p.2 := fun p m => h p (List.mem_cons_of_mem _ m)
    unfold pz at m
    split at m
    · rcases List.mem_cons.mp m with rfl | m
      · exact ⟨h0.1, Int.add_nonneg h0.2 hc⟩
      · exact h1 p m
    · rcases List.mem_cons.mp m with rfl | m
      · exact h0
      · exact all_pz hk hc h1 p m
/-- what a dict of words, or of ends, keeps -/
structure Tl {α : Type} (R : α → Prop) (M : Nat) (l : List (α × Int)) : Prop where
  o : (l.map (·.1)).Nodup
  a : ∀ p ∈ l, R p.1 ∧ 0 ≤ p.2
  n : l.length ≤ M
theorem Tl.nil {α : Type} {R : α → Prop} {M : Nat} : Tl R M ([] : List (α × Int)) := ⟨List.nodup_nil, by simp, Nat.zero_le _⟩
theorem Tl.put {α : Type} [DecidableEq α] {R : α → Prop} {M : Nat} {l : List (α × Int)} {k : α} {c : Int} (t : Tl R M l) (hk : R k) (hc : 0 ≤ c) : Tl R (M + 1) (pz k c l) :=
  ⟨once_pz t.o, all_pz hk hc t.a, Nat.le_trans (len_pz k c l) (Nat.succ_le_succ t.n)⟩
theorem Tl.up {α : Type} {R : α → Prop} {M N : Nat} {l : List (α × Int)} (t : Tl R M l) (h : M ≤ N) : Tl R N l := ⟨t.o, t.a, Nat.le_trans t.n h⟩
theorem Tl.at {α : Type} {R : α → Prop} {M : Nat} {l : List (α × Int)} (t : Tl R M l) {i : Nat} {k : α} {c : Int} (h : l[i]? = some (k, c)) : R k ∧ 0 ≤ c := t.a _ (List.mem_of_getElem? h)
/-- one turn over a word: an end is told -/
theorem ds_end {x y : Rat} {f b : Nat} {c : Int} {T : List (List Bool × Int)} {i : Nat} (h : T[i]? = some (List.replicate f false ++ List.replicate b true, c)) (G : List ((Nat × Nat) × Int)) {Z : Rat} {L : List (List Bool × Int)}
    (e : ds (wt x y) L + ds (fun e => x ^ e.1 * y ^ e.2) G = ds (wt x y) (T.take i) + Z) : ds (wt x y) L + ds (fun e => x ^ e.1 * y ^ e.2) (pz (f, b) c G) = ds (wt x y) (T.take (i + 1)) + Z := by
  rw [ds_pz, ds_take h, wt_rest]
  show _ + (_ + (c : Rat) * (x ^ f * y ^ b)) = _
  grind
/-- two shorter words are told -/
theorem ds_two {x y : Rat} {u v : List Bool} {c : Int} {T : List (List Bool × Int)} {i : Nat} (h : T[i]? = some (u ++ true :: false :: v, c)) {Z g : Rat} {L : List (List Bool × Int)}
    (e : ds (wt x y) L + g = ds (wt x y) (T.take i) + Z) : ds (wt x y) (pz (u ++ false :: v) c (pz (u ++ true :: v) c L)) + g = ds (wt x y) (T.take (i + 1)) + Z := by
  rw [ds_pz, ds_pz, ds_take h, wt_of]
  grind
end HopW

set_option Elab.async false
set_option linter.all false
set_option maxRecDepth 100000
namespace HopW
open L2
/-! ### ends, weighed by any function of both their numbers -/
def stF (F : Nat → Nat → Rat) : Nat → Nat → Rat := fun a b => F (a + 1) 0 + sg (fun j => F a (j + 1)) b
def gF : List Bool → (Nat → Nat → Rat) → (Nat → Nat → Rat)
  | [], F => F
  | true :: w, F => fun a b => gF w F a (b + 1)
  | false :: w, F => stF (gF w F)
def tF (F : Nat → Nat → Rat) : List (List Nat) → Rat
  | [] => 0
  | l :: t => lp (F 0) l + tF (fun a => F (a + 1)) t
theorem lp_stF (F : Nat → Nat → Rat) (l : List Nat) : lp (stF F 0) l = (l.sum : Rat) * F 1 0 + lp (fun b => F 0 (b + 1)) (sfx l.tail) := by
  show lp (fun b => F 1 0 + sg (fun j => F 0 (j + 1)) b) l = _
  rw [lp_lin]
  cases l with
  | nil => show F 1 0 * ((0 : Nat) : Rat) + 0 = ((0 : Nat) : Rat) * F 1 0 + 0; grind
  | cons m l =>
    rw [lp_sfx, List.tail_cons]
    grind
theorem tF_go : ∀ (T : List (List Nat)) (F : Nat → Nat → Rat) (s : Nat), tF F (go s T) = (s : Rat) * F 0 0 + tF (stF F) T := by
  intro T
  induction T with
  | nil =>
    intro F s
    show ((s : Rat) * F 0 0 + 0) + 0 = (s : Rat) * F 0 0 + 0
    grind
  | cons l t ih =>
    intro F s
    show ((s : Rat) * F 0 0 + lp (fun b => F 0 (b + 1)) (sfx l.tail)) + tF (fun a => F (a + 1)) (go l.sum t) = (s : Rat) * F 0 0 + (lp (stF F 0) l + tF (fun a => stF F (a + 1)) t)
    rw [ih, lp_stF]
    show _ + ((l.sum : Rat) * F 1 0 + tF (stF (fun a => F (a + 1))) t) = _
    have e : (fun a => stF F (a + 1)) = stF (fun a => F (a + 1)) := rfl
    rw [e]
    grind
theorem tF_bead : ∀ (T : List (List Nat)) (F : Nat → Nat → Rat), tF F (T.map (0 :: ·)) = tF (fun a b => F a (b + 1)) T := by
  intro T
  induction T with
  | nil => intro F; rfl
  | cons l t ih =>
    intro F
    show (((0 : Nat) : Rat) * F 0 0 + lp (fun b => F 0 (b + 1)) l) + tF (fun a => F (a + 1)) (t.map (0 :: ·)) = lp (fun b => F 0 (b + 1)) l + tF (fun a b => F (a + 1) (b + 1)) t
    rw [ih]
    grind
theorem tF_st (F : Nat → Nat → Rat) (T : List (List Nat)) (b : Bool) : tF F (stT T b) = tF (gF [b] F) T := by
  cases b with
  | true => exact tF_bead T F
  | false =>
    show tF F (go 0 T) = tF (stF F) T
    rw [tF_go]
    show ((0 : Nat) : Rat) * F 0 0 + tF (stF F) T = _
    grind
theorem gF_app (F : Nat → Nat → Rat) : ∀ u v : List Bool, gF (u ++ v) F = gF u (gF v F)
  | [], _ => rfl
  | true :: u, v => by
    show (fun a b => gF (u ++ v) F a (b + 1)) = fun a b => gF u (gF v F) a (b + 1)
    rw [gF_app F u v]
  | false :: u, v => by
    show stF (gF (u ++ v) F) = stF (gF u (gF v F))
    rw [gF_app F u v]
theorem tF_fold (F : Nat → Nat → Rat) : ∀ (w : List Bool) (T : List (List Nat)), tF F (w.foldl stT T) = tF (gF w F) T := by
  intro w
  induction w with
  | nil => intro T; rfl
  | cons b w ih =>
    intro T
    show tF F (w.foldl stT (stT T b)) = _
    rw [ih, tF_st]
    show tF (gF [b] (gF w F)) T = _
    rw [← gF_app]
    rfl
def wF (F : Nat → Nat → Rat) (w : List Bool) : Rat := gF w F 0 0
theorem wF_tbl (F : Nat → Nat → Rat) (w : List Bool) : tF F (tbl w) = wF F w := by
  unfold tbl wF
  rw [tF_fold]
  show (((1 : Nat) : Rat) * gF w F 0 0 + 0) + 0 = _
  grind
theorem gF_add (F G : Nat → Nat → Rat) : ∀ (w : List Bool) (a b : Nat), gF w (fun i j => F i j + G i j) a b = gF w F a b + gF w G a b := by
  intro w
  induction w with
  | nil => intro a b; rfl
  | cons s w ih =>
    intro a b
    cases s with
    | true => exact ih a (b + 1)
    | false =>
      show gF w (fun i j => F i j + G i j) (a + 1) 0 + sg (fun j => gF w (fun i j => F i j + G i j) a (j + 1)) b = (gF w F (a + 1) 0 + sg (fun j => gF w F a (j + 1)) b) + (gF w G (a + 1) 0 + sg (fun j => gF w G a (j + 1)) b)
      rw [ih (a + 1) 0, show (fun j => gF w (fun i j => F i j + G i j) a (j + 1)) = fun j => gF w F a (j + 1) + gF w G a (j + 1) from funext fun j => ih a (j + 1), sg_add]
      grind
/-- a bead that comes out is gone, or the free place is -/
theorem wF_of (F : Nat → Nat → Rat) (u v : List Bool) : wF F (u ++ true :: false :: v) = wF F (u ++ true :: v) + wF F (u ++ false :: v) := by
  unfold wF
  rw [gF_app, gF_app, gF_app, ← gF_add]
  congr 1
  funext a b
  show gF v F (a + 1) 0 + sg (fun j => gF v F a (j + 1)) (b + 1) = gF v F a (b + 1) + (gF v F (a + 1) 0 + sg (fun j => gF v F a (j + 1)) b)
  rw [sg_last]
  grind
theorem gF_up (F : Nat → Nat → Rat) : ∀ (w : List Bool) (a b : Nat), gF w F (a + 1) b = gF w (fun i => F (i + 1)) a b := by
  intro w
  induction w with
  | nil => intro a b; rfl
  | cons s w ih =>
    intro a b
    cases s with
    | true => exact ih a (b + 1)
    | false =>
      show gF w F (a + 1 + 1) 0 + sg (fun j => gF w F (a + 1) (j + 1)) b = gF w (fun i => F (i + 1)) (a + 1) 0 + sg (fun j => gF w (fun i => F (i + 1)) a (j + 1)) b
      rw [ih (a + 1) 0, show (fun j => gF w F (a + 1) (j + 1)) = fun j => gF w (fun i => F (i + 1)) a (j + 1) from funext fun j => ih a (j + 1)]
theorem wF_free (F : Nat → Nat → Rat) (v : List Bool) : wF F (false :: v) = wF (fun i => F (i + 1)) v := by
  show gF v F 1 0 + 0 = gF v (fun i => F (i + 1)) 0 0
  rw [gF_up]
  grind
theorem wF_bead (F : Nat → Nat → Rat) (v : List Bool) : wF F (v ++ [true]) = wF (fun i j => F i (j + 1)) v := by
  unfold wF
  rw [gF_app]
  rfl
theorem wF_rest (F : Nat → Nat → Rat) (f b : Nat) : wF F (List.replicate f false ++ List.replicate b true) = F f b := by
  induction f generalizing F with
  | zero =>
    induction b generalizing F with
    | zero => rfl
    | succ b ih => rw [List.replicate_succ', ← List.append_assoc, wF_bead, ih]
  | succ f ih => rw [List.replicate_succ, List.cons_append, wF_free, ih]
theorem wF_frees (F : Nat → Nat → Rat) (v : List Bool) : ∀ k : Nat, wF F (List.replicate k false ++ v) = wF (fun i j => F (i + k) j) v := by
  intro k
  induction k generalizing F with
  | zero => rfl
  | succ k ih =>
    rw [List.replicate_succ, List.cons_append, wF_free, ih]
    congr 1
theorem wF_beads (F : Nat → Nat → Rat) (v : List Bool) : ∀ k : Nat, wF F (v ++ List.replicate k true) = wF (fun i j => F i (j + k)) v := by
  intro k
  induction k generalizing F with
  | zero => rw [List.replicate_zero, List.append_nil]; rfl
  | succ k ih =>
    rw [List.replicate_succ', ← List.append_assoc, wF_bead, ih]
    congr 1
/-- not too many ends -/
theorem two_add (m : Nat) : ∀ n : Nat, (2 : Rat) ^ (m + n) = 2 ^ m * 2 ^ n
  | 0 => by rw [Nat.add_zero, Rat.pow_zero, Rat.mul_one]
  | n + 1 => by rw [← Nat.add_assoc, Rat.pow_succ, Rat.pow_succ, two_add m n, Rat.mul_assoc]
theorem sg_two (c : Rat) (h : Nat → Rat) (hc : 0 ≤ c) : ∀ b : Nat, (∀ j, h j ≤ c * 2 ^ (j + 1)) → sg h b + c ≤ c * 2 ^ (b + 1) := by
  intro b
  induction b with
  | zero => intro _; show 0 + c ≤ c * 2 ^ 1; grind
  | succ b ih =>
    intro hh
    have h1 := ih hh
    have h2 := hh b
    rw [sg_last, Rat.pow_succ (n := b + 1)]
    grind
theorem gF_one : ∀ (w : List Bool) (a b : Nat), gF w (fun _ _ => 1) a b ≤ 2 ^ (w.length + b) := by
  intro w
  induction w with
  | nil =>
    intro a b
    show (1 : Rat) ≤ 2 ^ (0 + b)
    rw [Nat.zero_add]
    induction b with
    | zero => rw [Rat.pow_zero]; grind
    | succ b ih => rw [Rat.pow_succ]; grind
  | cons s w ih =>
    intro a b
    cases s with
    | true =>
      have := ih a (b + 1)
      show gF w (fun _ _ => 1) a (b + 1) ≤ 2 ^ (w.length + 1 + b)
      rw [show w.length + 1 + b = w.length + (b + 1) by omega]
      exact this
    | false =>
      have h0 := ih (a + 1) 0
      have p0 : (0 : Rat) ≤ 2 ^ w.length := Rat.le_of_lt (Rat.pow_pos (by decide))
      have h1 := sg_two (2 ^ w.length) (fun j => gF w (fun _ _ => 1) a (j + 1)) p0 b (fun j => by
        rw [← two_add]
        exact ih a (j + 1))
      rw [← two_add] at h1
      show gF w (fun _ _ => 1) (a + 1) 0 + sg (fun j => gF w (fun _ _ => 1) a (j + 1)) b ≤ 2 ^ (w.length + 1 + b)
      rw [show w.length + 1 + b = w.length + (b + 1) by omega]
      rw [Nat.add_zero] at h0
      grind
theorem wF_one (w : List Bool) : wF (fun _ _ => 1) w ≤ 2 ^ w.length := gF_one w 0 0
end HopW

set_option Elab.async false
set_option linter.all false
set_option maxRecDepth 100000
namespace HopW
/-! ### lists of ends: the ends of a table, sorted, and alone so -/
abbrev En := (Nat × Nat) × Int
def lt2 (p q : Nat × Nat) : Prop := p.1 < q.1 ∨ p.1 = q.1 ∧ p.2 < q.2
def Sd (l : List En) : Prop := l.Pairwise (fun a b => lt2 a.1 b.1) ∧ ∀ e ∈ l, 0 < e.2
theorem lt2_irr (p : Nat × Nat) : ¬ lt2 p p := by unfold lt2; omega
theorem lt2_tri (p q : Nat × Nat) : lt2 p q ∨ p = q ∨ lt2 q p := by
  obtain ⟨a, b⟩ := p
  obtain ⟨c, d⟩ := q
  unfold lt2
  simp only [Prod.mk.injEq]
  omega
theorem Sd.tail {e : En} {l : List En} (h : Sd (e :: l)) : Sd l := ⟨(List.pairwise_cons.mp h.1).2, fun x m => h.2 x (List.mem_cons_of_mem _ m)⟩
theorem Sd.head {e : En} {l : List En} (h : Sd (e :: l)) : 0 < e.2 ∧ ∀ x ∈ l, lt2 e.1 x.1 := ⟨h.2 e (List.mem_cons_self ..), (List.pairwise_cons.mp h.1).1⟩
def at1 (k : Nat × Nat) : Nat × Nat → Rat := fun e => if e = k then 1 else 0
theorem ds_off {k : Nat × Nat} : ∀ {l : List En}, (∀ x ∈ l, x.1 ≠ k) → ds (at1 k) l = 0
  | [], _ => rfl
  | (j, v) :: l, h => by
    show (v : Rat) * at1 k j + ds (at1 k) l = 0
    rw [ds_off (l := l) (fun x m => h x (List.mem_cons_of_mem _ m)), show at1 k j = 0 from if_neg (h (j, v) (List.mem_cons_self ..))]
    grind
theorem ds_head {e : En} {l : List En} (h : Sd (e :: l)) : ds (at1 e.1) (e :: l) = (e.2 : Rat) := by
  show (e.2 : Rat) * at1 e.1 e.1 + ds (at1 e.1) l = _
  rw [ds_off (l := l) (fun x m z => lt2_irr _ (by have := h.head.2 x m; rw [z] at this; exact this)), show at1 e.1 e.1 = 1 from if_pos rfl]
  grind
theorem ds_less {k : Nat × Nat} {e : En} {l : List En} (h : Sd (e :: l)) (hk : lt2 k e.1) : ds (at1 k) (e :: l) = 0 := ds_off fun x m z => by
  rcases List.mem_cons.mp m with rfl | m
  · rw [z] at hk; exact lt2_irr _ hk
  · have h2 := h.head.2 x m
    rw [z] at h2
    unfold lt2 at hk h2
    omega
theorem pos_cast {c : Int} (h : 0 < c) : ((c : Int) : Rat) ≠ 0 := fun e => by
  have := Rat.intCast_eq_zero_iff.mp e
  omega
/-- two such lists that weigh alike are the same -/
theorem sd_same : ∀ {l m : List En}, Sd l → Sd m → (∀ φ : Nat × Nat → Rat, ds φ l = ds φ m) → l = m
  | [], [], _, _, _ => rfl
  | [], e :: m, _, h, w => by
    have := w (at1 e.1)
    rw [ds_head h] at this
    exact absurd this.symm (pos_cast h.head.1)
  | e :: l, [], h, _, w => by
    have := w (at1 e.1)
    rw [ds_head h] at this
    exact absurd this (pos_cast h.head.1)
  | e :: l, e' :: m, h, h', w => by
    rcases lt2_tri e.1 e'.1 with c | c | c
    · have := w (at1 e.1)
      rw [ds_head h, ds_less h' c] at this
      exact absurd this (pos_cast h.head.1)
    · have w1 := w (at1 e.1)
      rw [ds_head h, c, ds_head h'] at w1
      have c2 : e.2 = e'.2 := Rat.intCast_inj.mp w1
      have ee : e = e' := Prod.ext c c2
      subst ee
      congr 1
      refine sd_same h.tail h'.tail fun φ => ?_
      have := w φ
      have this : (e.2 : Rat) * φ e.1 + ds φ l = (e.2 : Rat) * φ e.1 + ds φ m := this
      grind
    · have := w (at1 e'.1)
      rw [ds_head h', ds_less h c] at this
      exact absurd this.symm (pos_cast h'.head.1)
/-! ### the ends of a table -/
def enL (f b : Nat) : List Nat → List En
  | [] => []
  | m :: l => (if 0 < m then [((f, b), (m : Int))] else []) ++ enL f (b + 1) l
def enT (f : Nat) : List (List Nat) → List En
  | [] => []
  | l :: t => enL f 0 l ++ enT (f + 1) t
def φF (F : Nat → Nat → Rat) : Nat × Nat → Rat := fun e => F e.1 e.2
theorem ds_if (φ : Nat × Nat → Rat) (k : Nat × Nat) (m : Nat) : ds φ (if 0 < m then [(k, (m : Int))] else []) = (m : Rat) * φ k := by
  by_cases h : 0 < m
  · rw [if_pos h]
    show ((m : Int) : Rat) * φ k + 0 = _
    rw [Rat.intCast_natCast]; grind
  · rw [if_neg h, show m = 0 by omega]
    show (0 : Rat) = ((0 : Nat) : Rat) * φ k
    grind
theorem ds_enL (F : Nat → Nat → Rat) (f : Nat) : ∀ (l : List Nat) (b : Nat), ds (φF F) (enL f b l) = lp (fun j => F f (b + j)) l
  | [], _ => rfl
  | m :: l, b => by
    show ds (φF F) ((if 0 < m then [((f, b), (m : Int))] else []) ++ enL f (b + 1) l) = (m : Rat) * F f (b + 0) + lp (fun j => F f (b + (j + 1))) l
    rw [ds_app, ds_if, ds_enL F f l (b + 1), show (fun j => F f (b + 1 + j)) = fun j => F f (b + (j + 1)) from funext fun j => by rw [Nat.add_assoc, Nat.add_comm 1 j]]
    rfl
theorem ds_enT (F : Nat → Nat → Rat) : ∀ (T : List (List Nat)) (f : Nat), ds (φF F) (enT f T) = tF (fun a => F (f + a)) T
  | [], _ => rfl
  | l :: t, f => by
    show ds (φF F) (enL f 0 l ++ enT (f + 1) t) = lp (F (f + 0)) l + tF (fun a => F (f + (a + 1))) t
    rw [ds_app, ds_enL, ds_enT F t (f + 1), show (fun a => F (f + 1 + a)) = fun a => F (f + (a + 1)) from funext fun j => by rw [Nat.add_assoc, Nat.add_comm 1 j]]
    simp only [Nat.zero_add, Nat.add_zero]
theorem enL_mem {f : Nat} {e : En} : ∀ {l : List Nat} {b : Nat}, e ∈ enL f b l → e.1.1 = f ∧ b ≤ e.1.2 ∧ 0 < e.2
  | [], _, h => absurd h (by simp [enL])
  | m :: l, b, h => by
    rcases List.mem_append.mp h with h | h
    · by_cases hm : 0 < m
      · rw [if_pos hm] at h
        obtain rfl := List.mem_singleton.mp h
        exact ⟨rfl, Nat.le_refl _, by show (0 : Int) < (m : Int); omega⟩
      · rw [if_neg hm] at h
        exact absurd h (by simp)
    · obtain ⟨h1, h2, h3⟩ := enL_mem h
      exact ⟨h1, by omega, h3⟩
theorem enL_sd (f : Nat) : ∀ (l : List Nat) (b : Nat), (enL f b l).Pairwise (fun a b => lt2 a.1 b.1)
  | [], _ => List.Pairwise.nil
  | m :: l, b => by
    refine List.pairwise_append.mpr ⟨?_, enL_sd f l (b + 1), fun x hx y hy => ?_⟩
    · by_cases hm : 0 < m
      · rw [if_pos hm]; exact List.pairwise_singleton _ _
      · rw [if_neg hm]; exact List.Pairwise.nil
    · obtain ⟨y1, y2, _⟩ := enL_mem hy
      by_cases hm : 0 < m
      · rw [if_pos hm] at hx
        obtain rfl := List.mem_singleton.mp hx
        exact .inr ⟨y1.symm, by show b < _; omega⟩
      · rw [if_neg hm] at hx
        exact absurd hx (by simp)
theorem enT_mem {e : En} : ∀ {T : List (List Nat)} {f : Nat}, e ∈ enT f T → f ≤ e.1.1 ∧ 0 < e.2
  | [], _, h => absurd h (by simp [enT])
  | l :: t, f, h => by
    rcases List.mem_append.mp h with h | h
    · obtain ⟨h1, _, h3⟩ := enL_mem h
      exact ⟨by omega, h3⟩
    · obtain ⟨h1, h3⟩ := enT_mem h
      exact ⟨by omega, h3⟩
theorem enT_sd : ∀ (T : List (List Nat)) (f : Nat), (enT f T).Pairwise (fun a b => lt2 a.1 b.1)
  | [], _ => List.Pairwise.nil
  | l :: t, f => List.pairwise_append.mpr ⟨enL_sd f l 0, enT_sd t (f + 1), fun x hx y hy => .inl (by
      have := (enL_mem hx).1
      have := (enT_mem hy).1
      omega)⟩
/-- the ends of a word, sorted -/
def eN (w : List Bool) : List En := enT 0 (tbl w)
theorem eN_sd (w : List Bool) : Sd (eN w) := ⟨enT_sd _ _, fun e h => (enT_mem h).2⟩
theorem eN_ds (F : Nat → Nat → Rat) (w : List Bool) : ds (φF F) (eN w) = wF F w := by
  unfold eN
  rw [ds_enT, ← wF_tbl]
  congr 1
  funext a
  rw [Nat.zero_add]
theorem eN_is {l : List En} {w : List Bool} (h : Sd l) (hw : ∀ F : Nat → Nat → Rat, ds (φF F) l = wF F w) : l = eN w :=
  sd_same h (eN_sd w) fun φ => by
    have := hw (fun a b => φ (a, b))
    rw [← eN_ds] at this
    exact this
theorem le_ds {φ : Nat × Nat → Rat} (h1 : ∀ k, φ k = 1) : ∀ {l : List En}, (∀ e ∈ l, 0 < e.2) → 0 ≤ ds φ l ∧ ∀ e ∈ l, (e.2 : Rat) ≤ ds φ l
  | [], _ => ⟨Rat.le_refl, by simp⟩
  | (j, v) :: l, h => by
    obtain ⟨i1, i2⟩ := le_ds h1 (l := l) (fun x m => h x (List.mem_cons_of_mem _ m))
    have hv : (0 : Rat) ≤ (v : Rat) := by
      have : 0 < v := h (j, v) (List.mem_cons_self ..)
      exact Rat.intCast_nonneg.mpr (by omega)
    have e : ds φ ((j, v) :: l) = (v : Rat) + ds φ l := by
      show (v : Rat) * φ j + ds φ l = _
      rw [h1]; grind
    rw [e]
    refine ⟨by grind, fun x m => ?_⟩
    rcases List.mem_cons.mp m with rfl | m
    · show (v : Rat) ≤ _; grind
    · have := i2 x m; grind
theorem eN_most {w : List Bool} {e : En} (h : e ∈ eN w) : 0 < e.2 ∧ e.2.natAbs ≤ 2 ^ w.length := by
  have p := (eN_sd w).2 e h
  refine ⟨p, ?_⟩
  have h1 := (le_ds (φ := φF fun _ _ => 1) (fun _ => rfl) (eN_sd w).2).2 e h
  rw [eN_ds] at h1
  have h2 := Rat.le_trans h1 (wF_one w)
  have h3 : (e.2 : Rat) ≤ (((2 : Int) ^ w.length : Int) : Rat) := by
    rw [Rat.intCast_pow]; exact h2
  have h4 : e.2 ≤ (2 : Int) ^ w.length := Rat.intCast_le_intCast.mp h3
  have h5 : ((2 ^ w.length : Nat) : Int) = (2 : Int) ^ w.length := by simp
  omega
end HopW

set_option Elab.async false
set_option linter.all false
set_option maxRecDepth 100000
namespace HopW
/-! ### what a sorted list of ends is -/
def le3 (p q : En) : Prop := p.1.1 < q.1.1 ∨ p.1.1 = q.1.1 ∧ (p.1.2 < q.1.2 ∨ p.1.2 = q.1.2 ∧ p.2 ≤ q.2)
theorem sd_of : ∀ {l : List En}, l.Pairwise le3 → (l.map (·.1)).Nodup → (∀ e ∈ l, 0 < e.2) → Sd l
  | [], _, _, _ => ⟨.nil, by simp⟩
  | e :: l, h, n, p => by
    have h' := List.pairwise_cons.mp h
    have n' : (e.1 :: l.map (·.1)).Nodup := n
    have n2 := List.nodup_cons.mp n'
    have ih := sd_of h'.2 n2.2 (fun x m => p x (List.mem_cons_of_mem _ m))
    refine ⟨List.pairwise_cons.mpr ⟨fun x m => ?_, ih.1⟩, p⟩
    have h3 := h'.1 x m
    have ne : e.1 ≠ x.1 := fun z => n2.1 (List.mem_map.mpr ⟨x, m, z.symm⟩)
    obtain ⟨⟨a, b⟩, c⟩ := e
    obtain ⟨⟨a', b'⟩, c'⟩ := x
    have h3 : a < a' ∨ a = a' ∧ (b < b' ∨ b = b' ∧ c ≤ c') := h3
    show a < a' ∨ a = a' ∧ b < b'
    have ne : ¬ (a = a' ∧ b = b') := fun z => ne (by rw [z.1, z.2])
    omega
theorem all_pz1 {α : Type} [DecidableEq α] {R : α → Prop} {k : α} {c : Int} (hk : R k) (hc : 0 < c) : ∀ {l : List (α × Int)}, (∀ p ∈ l, R p.1 ∧ 0 < p.2) → ∀ p ∈ pz k c l, R p.1 ∧ 0 < p.2
  | [], _, p, m => by
    obtain rfl := List.mem_singleton.mp m
    exact ⟨hk, hc⟩
  | (j, v) :: l, h, p, m => by
    have h0 := h _ (List.mem_cons_self ..)
    have h1 : ∀ p ∈ l, R p.1 ∧ 0 < p.2 := fun p m => h p (List.mem_cons_of_mem _ m)
    have h0' : 0 < v := h0.2
    unfold pz at m
    split at m
    · rcases List.mem_cons.mp m with rfl | m
      · exact ⟨h0.1, by show 0 < v + c; omega⟩
      · exact h1 p m
    · rcases List.mem_cons.mp m with rfl | m
      · exact h0
      · exact all_pz1 hk hc h1 p m
/-- what a dict of words, or of ends, keeps: none told nought times -/
structure Tp {α : Type} (R : α → Prop) (M : Nat) (l : List (α × Int)) : Prop where
  o : (l.map (·.1)).Nodup
  a : ∀ p ∈ l, R p.1 ∧ 0 < p.2
  n : l.length ≤ M
theorem Tp.nil {α : Type} {R : α → Prop} {M : Nat} : Tp R M ([] : List (α × Int)) := ⟨List.nodup_nil, by simp, Nat.zero_le _⟩
theorem Tp.put {α : Type} [DecidableEq α] {R : α → Prop} {M : Nat} {l : List (α × Int)} {k : α} {c : Int} (t : Tp R M l) (hk : R k) (hc : 0 < c) : Tp R (M + 1) (pz k c l) :=
  ⟨once_pz t.o, all_pz1 hk hc t.a, Nat.le_trans (len_pz k c l) (Nat.succ_le_succ t.n)⟩
theorem Tp.up {α : Type} {R : α → Prop} {M N : Nat} {l : List (α × Int)} (t : Tp R M l) (h : M ≤ N) : Tp R N l := ⟨t.o, t.a, Nat.le_trans t.n h⟩
theorem Tp.at {α : Type} {R : α → Prop} {M : Nat} {l : List (α × Int)} (t : Tp R M l) {i : Nat} {k : α} {c : Int} (h : l[i]? = some (k, c)) : R k ∧ 0 < c := t.a _ (List.mem_of_getElem? h)
/-- one turn over a word: an end is told -/
theorem dsF_end {F : Nat → Nat → Rat} {f b : Nat} {c : Int} {T : List (List Bool × Int)} {i : Nat} (h : T[i]? = some (List.replicate f false ++ List.replicate b true, c)) (G : List En) {Z : Rat} {L : List (List Bool × Int)}
    (e : ds (wF F) L + ds (φF F) G = ds (wF F) (T.take i) + Z) : ds (wF F) L + ds (φF F) (pz (f, b) c G) = ds (wF F) (T.take (i + 1)) + Z := by
  rw [ds_pz, ds_take h, wF_rest]
  show _ + (_ + (c : Rat) * F f b) = _
  grind
/-- two shorter words are told -/
theorem dsF_two {F : Nat → Nat → Rat} {u v : List Bool} {c : Int} {T : List (List Bool × Int)} {i : Nat} (h : T[i]? = some (u ++ true :: false :: v, c)) {Z g : Rat} {L : List (List Bool × Int)}
    (e : ds (wF F) L + g = ds (wF F) (T.take i) + Z) : ds (wF F) (pz (u ++ false :: v) c (pz (u ++ true :: v) c L)) + g = ds (wF F) (T.take (i + 1)) + Z := by
  rw [ds_pz, ds_pz, ds_take h, wF_of]
  grind
theorem ds_permF {α : Type} (φ : α → Rat) {l m : List (α × Int)} (p : l.Perm m) : ds φ l = ds φ m := by
  induction p with
  | nil => rfl
  | cons x _ ih =>
    show (x.2 : Rat) * φ x.1 + ds φ _ = (x.2 : Rat) * φ x.1 + ds φ _
    rw [ih]
  | swap x y l =>
    show (y.2 : Rat) * φ y.1 + ((x.2 : Rat) * φ x.1 + ds φ l) = (x.2 : Rat) * φ x.1 + ((y.2 : Rat) * φ y.1 + ds φ l)
    grind
  | trans _ _ a b => exact a.trans b
theorem tp_sorted {R : Nat × Nat → Prop} {M : Nat} {l m : List En} (t : Tp R M l) (p : m.Perm l) (h : m.Pairwise le3) : Sd m :=
  sd_of h ((p.map (·.1)).nodup_iff.mpr t.o) (fun e he => (t.a e (p.mem_iff.mp he)).2)
/-! ### great words: so many beads ahead of so many free places -/
def Wb (F : Nat → Nat → Rat) (i j : Nat) : Rat := wF F (List.replicate i true ++ List.replicate j false)
theorem Wb_of (F : Nat → Nat → Rat) (i j : Nat) : Wb F (i + 1) (j + 1) = Wb F (i + 1) j + Wb F i (j + 1) := by
  unfold Wb
  have h := wF_of F (List.replicate i true) (List.replicate j false)
  rw [List.replicate_succ' (n := i), List.replicate_succ (n := j), List.append_assoc, List.append_assoc]
  exact h
theorem Wb_none (F : Nat → Nat → Rat) (j : Nat) : Wb F 0 j = F j 0 := by
  have h := wF_rest F j 0
  rw [List.replicate_zero, List.append_nil] at h
  exact h
theorem Wb_all (F : Nat → Nat → Rat) (i : Nat) : Wb F i 0 = F 0 i := by
  have h := wF_rest F 0 i
  unfold Wb
  rw [List.replicate_zero, List.append_nil]
  exact h
def sR (c : Nat → Rat) : Nat → Rat
  | 0 => 0
  | n + 1 => sR c n + c n
theorem sR_same {c d : Nat → Rat} : ∀ {n : Nat}, (∀ j, j < n → c j = d j) → sR c n = sR d n
  | 0, _ => rfl
  | n + 1, h => by
    show sR c n + c n = sR d n + d n
    rw [sR_same (fun j hj => h j (by omega)), h n (by omega)]
theorem sR_one {c d : Nat → Rat} {k : Nat} {z : Rat} : ∀ {n : Nat}, k < n → (∀ j, j ≠ k → d j = c j) → d k = c k + z → sR d n = sR c n + z
  | 0, h, _, _ => absurd h (by omega)
  | n + 1, h, h1, h2 => by
    show sR d n + d n = sR c n + c n + z
    by_cases e : k = n
    · subst e
      rw [sR_same (c := d) (d := c) (fun j hj => h1 j (by omega)), h2]
      grind
    · rw [sR_one (n := n) (by omega) h1 h2, h1 n (fun z => e z.symm)]
      grind
def rw1 (F : Nat → Nat → Rat) (M : Nat → Nat → Int) (i : Nat) : Nat → Rat := sR fun j => (M i j : Rat) * Wb F i j
/-- what is still to be looked at: all lines below s (fr places each), and m places of line s -/
def XM (F : Nat → Nat → Rat) (fr : Nat) (M : Nat → Nat → Int) (s m : Nat) : Rat := sR (fun i => rw1 F M i fr) s + rw1 F M s m
def addc (M : Nat → Nat → Int) (i0 j0 : Nat) (v : Int) : Nat → Nat → Int := fun i j => if i = i0 ∧ j = j0 then M i j + v else M i j
theorem rw1_off {F : Nat → Nat → Rat} {M : Nat → Nat → Int} {i0 j0 i m : Nat} {v : Int} (h : i ≠ i0 ∨ m ≤ j0) : rw1 F (addc M i0 j0 v) i m = rw1 F M i m := by
  refine sR_same fun j hj => ?_
  rw [show addc M i0 j0 v i j = M i j from if_neg (by omega)]
theorem rw1_on {F : Nat → Nat → Rat} {M : Nat → Nat → Int} {i0 j0 m : Nat} {v : Int} (h : j0 < m) : rw1 F (addc M i0 j0 v) i0 m = rw1 F M i0 m + (v : Rat) * Wb F i0 j0 := by
  refine sR_one h (fun j hj => ?_) ?_
  · rw [show addc M i0 j0 v i0 j = M i0 j from if_neg (by omega)]
  · rw [show addc M i0 j0 v i0 j0 = M i0 j0 + v from if_pos ⟨rfl, rfl⟩, Rat.intCast_add]
    grind
theorem XM_in {F : Nat → Nat → Rat} {fr : Nat} {M : Nat → Nat → Int} {s m j0 : Nat} {v : Int} (h : j0 < m) : XM F fr (addc M s j0 v) s m = XM F fr M s m + (v : Rat) * Wb F s j0 := by
  unfold XM
  rw [rw1_on h, sR_same (d := fun i => rw1 F M i fr) (fun i hi => rw1_off (.inl (by omega)))]
  grind
theorem XM_below {F : Nat → Nat → Rat} {fr : Nat} {M : Nat → Nat → Int} {s m j0 : Nat} {v : Int} (h : j0 < fr) : XM F fr (addc M s j0 v) (s + 1) m = XM F fr M (s + 1) m + (v : Rat) * Wb F s j0 := by
  unfold XM
  rw [rw1_off (i := s + 1) (.inl (by omega)), sR_one (c := fun i => rw1 F M i fr) (k := s) (z := (v : Rat) * Wb F s j0) (by omega) (fun i hi => rw1_off (.inl hi)) (rw1_on h)]
  grind
theorem XM_less (F : Nat → Nat → Rat) (fr : Nat) (M : Nat → Nat → Int) (s m : Nat) : XM F fr M s (m + 1) = XM F fr M s m + (M s m : Rat) * Wb F s m := by
  show sR (fun i => rw1 F M i fr) s + (rw1 F M s m + (M s m : Rat) * Wb F s m) = sR (fun i => rw1 F M i fr) s + rw1 F M s m + _
  grind
theorem XM_line (F : Nat → Nat → Rat) (fr : Nat) (M : Nat → Nat → Int) (s : Nat) : XM F fr M (s + 1) 0 = XM F fr M s fr := by
  show sR (fun i => rw1 F M i fr) s + rw1 F M s fr + 0 = sR (fun i => rw1 F M i fr) s + rw1 F M s fr
  grind
theorem XM_zero (F : Nat → Nat → Rat) (fr : Nat) (M : Nat → Nat → Int) : XM F fr M 0 0 = 0 := by
  show (0 : Rat) + 0 = 0
  grind
/-- a turn within: one way on each hand -/
theorem XM_turn {F : Nat → Nat → Rat} {fr : Nat} {M : Nat → Nat → Int} {s m : Nat} (h : m + 1 < fr) : XM F fr (addc (addc M (s + 1) m (M (s + 1) (m + 1))) s (m + 1) (M (s + 1) (m + 1))) (s + 1) (m + 1) = XM F fr M (s + 1) (m + 1 + 1) := by
  rw [XM_below h, XM_in (by omega), XM_less F fr M (s + 1) (m + 1), Wb_of]
  grind
theorem zero_sum {F : Nat → Nat → Rat} {i n : Nat} : rw1 F (fun _ _ => 0) i n = 0 := by
  unfold rw1
  induction n with
  | zero => rfl
  | succ n ih =>
    show sR _ n + ((0 : Int) : Rat) * Wb F i n = 0
    rw [ih]
    have : ((0 : Int) : Rat) = 0 := rfl
    grind
theorem zero_all {F : Nat → Nat → Rat} {fr s : Nat} : sR (fun i => rw1 F (fun _ _ => 0) i fr) s = 0 := by
  induction s with
  | zero => rfl
  | succ n ih =>
    show sR _ n + rw1 F (fun _ _ => 0) n fr = 0
    rw [ih, zero_sum]
    grind
theorem XM_start (F : Nat → Nat → Rat) (B f : Nat) : XM F (f + 1) (addc (fun _ _ => 0) B f 1) B (f + 1) = Wb F B f := by
  rw [XM_in (Nat.lt_succ_self f)]
  unfold XM
  rw [zero_sum, zero_all]
  have : ((1 : Int) : Rat) = 1 := rfl
  grind
theorem addc_nn {M : Nat → Nat → Int} (h : ∀ i j, 0 ≤ M i j) {i0 j0 : Nat} {v : Int} (hv : 0 ≤ v) : ∀ i j, 0 ≤ addc M i0 j0 v i j := fun i j => by
  unfold addc
  have := h i j
  split <;> omega
/-- ends moved on: free places ahead, beads behind -/
def mv (p q : Nat) (e : En) : En := ((e.1.1 + p, e.1.2 + q), e.2)
theorem ds_mv (F : Nat → Nat → Rat) (p q : Nat) : ∀ G : List En, ds (φF F) (G.map (mv p q)) = ds (φF fun i j => F (i + p) (j + q)) G
  | [] => rfl
  | e :: G => by
    show (e.2 : Rat) * F (e.1.1 + p) (e.1.2 + q) + ds (φF F) (G.map (mv p q)) = (e.2 : Rat) * F (e.1.1 + p) (e.1.2 + q) + ds _ G
    rw [ds_mv F p q G]
theorem once_mv {p q : Nat} : ∀ {G : List En}, (G.map (·.1)).Nodup → ((G.map (mv p q)).map (·.1)).Nodup
  | [], _ => List.nodup_nil
  | e :: G, h => by
    have h' : (e.1 :: G.map (·.1)).Nodup := h
    obtain ⟨n1, n2⟩ := List.nodup_cons.mp h'
    refine List.nodup_cons.mpr ⟨fun m => n1 ?_, once_mv n2⟩
    obtain ⟨x, mx, ex⟩ := List.mem_map.mp m
    obtain ⟨y, my, rfl⟩ := List.mem_map.mp mx
    refine List.mem_map.mpr ⟨y, my, ?_⟩
    have e1 : y.1.1 + p = e.1.1 + p := congrArg Prod.fst ex
    have e2 : y.1.2 + q = e.1.2 + q := congrArg Prod.snd ex
    exact Prod.ext (by omega) (by omega)
/-- the word of p free places, i beads, j free places, q beads -/
def gw (p i j q : Nat) : List Bool := List.replicate p false ++ (List.replicate i true ++ List.replicate j false) ++ List.replicate q true
theorem wF_gw (F : Nat → Nat → Rat) (p i j q : Nat) : wF F (gw p i j q) = Wb (fun a b => F (a + p) (b + q)) i j := by
  unfold gw
  rw [wF_beads, wF_frees]
  rfl
end HopW

set_option Elab.async false
set_option linter.all false
set_option maxRecDepth 100000
namespace HopT
open PySem PySem.Spec PyProof.Rows L2
/-! ### sorted(tuples of three ints), any number of them: rising -/
abbrev T3 := Int × Int × Int
def lexT (p q : T3) : Bool := if p.1 = q.1 then (if p.2.1 = q.2.1 then decide (p.2.2 < q.2.2) else decide (p.2.1 < q.2.1)) else decide (p.1 < q.1)
theorem lexT_iff {p q : T3} : lexT p q = true ↔ p.1 < q.1 ∨ (p.1 = q.1 ∧ (p.2.1 < q.2.1 ∨ (p.2.1 = q.2.1 ∧ p.2.2 < q.2.2))) := by
  unfold lexT
  by_cases e : p.1 = q.1
  · rw [if_pos e]
    by_cases e2 : p.2.1 = q.2.1
    · rw [if_pos e2, decide_eq_true_eq]; omega
    · rw [if_neg e2, decide_eq_true_eq]; omega
  · rw [if_neg e, decide_eq_true_eq]; omega
theorem lexT_no {p q : T3} : lexT p q = false ↔ ¬ (p.1 < q.1 ∨ (p.1 = q.1 ∧ (p.2.1 < q.2.1 ∨ (p.2.1 = q.2.1 ∧ p.2.2 < q.2.2)))) := by
  rw [← lexT_iff]
  cases lexT p q <;> simp
theorem swo_lexT (k : Value → T3) : SrtO.Swo fun v u => lexT (k v) (k u) := by
  refine ⟨fun x y h => ?_, fun x y z h1 h2 => ?_⟩
  · have a := lexT_iff.mp h
    refine lexT_no.mpr ?_
    omega
  · have a := lexT_no.mp h1
    have b := lexT_no.mp h2
    refine lexT_no.mpr ?_
    omega
def IsTrip (h : Heap) (v : Value) (x y z : Int) : Prop := ∃ a o t u r n, v = .ref a ∧ h.get? a = some o ∧ o.cls = .type "tuple" ∧ o.data = .seq [Value.int x t, Value.int y u, Value.int z r].toArray n
section
variable {prog : Program} {w : World} {A : Around} {E : Value → Shared → Prop} {s : Shared}
theorem trip_cmp {vs : List Value} {k : Value → T3} (hp : ∀ v ∈ vs, IsTrip s.heap v (k v).1 (k v).2.1 (k v).2.2) : SrtO.Cmp prog w A s (tuples' true) (fun p => p.1 ∈ vs) (SrtO.lt2 fun v u => lexT (k v) (k u)) := by
  intro p q hm hm'
  have h1 := hp _ hm
  have h2 := hp _ hm'
  show wpAny (model prog w) A (keyLt' (tuples' true) p.1 q.1) (fun r s' => s' = s ∧ r = lexT (k p.1) (k q.1)) (fun _ _ => False) s
  unfold lexT
  generalize (k p.1).1 = x at h1 ⊢
  generalize (k p.1).2.1 = y at h1 ⊢
  generalize (k p.1).2.2 = z at h1 ⊢
  generalize (k q.1).1 = x' at h2 ⊢
  generalize (k q.1).2.1 = y' at h2 ⊢
  generalize (k q.1).2.2 = z' at h2 ⊢
  obtain ⟨a, o, t, u, r, n, e, ho, hc, hd⟩ := h1
  obtain ⟨a', o', t', u', r', n', e', ho', hc', hd'⟩ := h2
  rw [e, e']
  refine PySem.W.kat_lt ho hd ho' hd' ?_
  show PySem.W.KatLex prog w A true (decide (3 < 3)) _ [(.int x t, .int x' t'), (.int y u, .int y' u'), (.int z r, .int z' r')] 0 s
  refine PySem.W.kat_cons (SeqAt.EqAt.int_int x t x' t' prog w _ _ ?_)
  refine PySem.W.kat_go (fun e1 => ?_) (fun e1 => ?_)
  · have ex : x = x' := by simpa using e1
    refine PySem.W.kat_yes (PySem.W.kat_cons (SeqAt.EqAt.int_int y u y' u' prog w _ _ ?_))
    refine PySem.W.kat_go (fun e2 => ?_) (fun e2 => ?_)
    · have ey : y = y' := by simpa using e2
      refine PySem.W.kat_yes (PySem.W.kat_cons (SeqAt.EqAt.int_int z r z' r' prog w _ _ ?_))
      refine PySem.W.kat_go (fun e3 => ?_) (fun e3 => ?_)
      · have ez : z = z' := by simpa using e3
        have e4 : (if x = x' then (if y = y' then decide (z < z') else decide (y < y')) else decide (x < x')) = false := by
          rw [if_pos ex, if_pos ey, ez]
          exact decide_eq_false (Int.lt_irrefl _)
        exact PySem.W.kat_yes (PySem.W.kat_nil ⟨rfl, e4.symm⟩)
      · have e4 : (if x = x' then (if y = y' then decide (z < z') else decide (y < y')) else decide (x < x')) = decide (z < z') := by rw [if_pos ex, if_pos ey]
        refine PySem.W.kat_no (TS.oneLt_ints _ ?_)
        exact (show s = s ∧ decide (z < z') = _ from ⟨rfl, e4.symm⟩)
    · have ey : ¬ y = y' := by simpa using e2
      have e4 : (if x = x' then (if y = y' then decide (z < z') else decide (y < y')) else decide (x < x')) = decide (y < y') := by rw [if_pos ex, if_neg ey]
      refine PySem.W.kat_no (TS.oneLt_ints _ ?_)
      exact (show s = s ∧ decide (y < y') = _ from ⟨rfl, e4.symm⟩)
  · have ex : ¬ x = x' := by simpa using e1
    have e4 : (if x = x' then (if y = y' then decide (z < z') else decide (y < y')) else decide (x < x')) = decide (x < x') := if_neg ex
    exact PySem.W.kat_no (TS.oneLt_ints _ (show s = s ∧ decide (x < x') = _ from ⟨rfl, e4.symm⟩))
theorem trips_sortableO {a : Addr} {vs : List Value} {k : Value → T3} (some' : vs ≠ []) (hp : ∀ v ∈ vs, IsTrip s.heap v (k v).1 (k v).2.1 (k v).2.2) (na : ∀ o, s.heap.get? a = some o → o.cls ≠ .type "tuple") : SrtO.SortableO prog w A s a vs fun v u => lexT (k v) (k u) := by
  intro h' keep
  have hp' : ∀ v ∈ vs, IsTrip h' v (k v).1 (k v).2.1 (k v).2.2 := fun v hm => by
    obtain ⟨b, o, t, u, r, n, e, ho, hc, hd⟩ := hp v hm
    exact ⟨b, o, t, u, r, n, e, keep b o (by rintro rfl; exact na o ho hc) ho, hc, hd⟩
  have hv' : ∀ v ∈ vs, Begun h' v := fun v hm => by
    obtain ⟨b, o, t, u, r, n, e, ho, hc, hd⟩ := hp' v hm
    refine ⟨b, o, _, _, n, e, ho, hc, hd, fun x hx => ?_⟩
    rcases List.mem_cons.mp hx with rfl | hx
    · exact ⟨_, _, rfl⟩
    rcases List.mem_cons.mp hx with rfl | hx
    · exact ⟨_, _, rfl⟩
    obtain rfl := List.mem_singleton.mp hx
    exact ⟨_, _, rfl⟩
  obtain ⟨fs, kt, l, z⟩ := heads vs hv'
  have p : 0 < fs.length := by rw [l]; exact List.length_pos_iff.mpr some'
  have nt : (Value.type "int" != Value.type "tuple") = true := by first | decide +kernel | rfl
  refine ⟨tuples' true, fun Q E q => PySem.W.kat_kind (T := .type "int") kt p (fun f m => ?_) rfl (nt ▸ q), trip_cmp hp'⟩
  obtain ⟨i, t, rfl⟩ := z f m
  exact .now
end
def rSortedQ (K : PySem.W.Frag) : List V → Hp → VK → Prop := fun vs H Q => ∃ (a : Addr) (ts : List Addr) (k : Addr → T3), vs = [.ref a] ∧ SqL K H a (ts.map V.ref) ∧ (∀ t ∈ ts, H t = some (.tup [.int (k t).1, .int (k t).2.1, .int (k t).2.2])) ∧
  ∀ (ys : List Addr) p, ys.Perm ts → ys.Pairwise (fun x y => lexT (k y) (k x) = false) → H p = none → Q (.ref p) (upd H p (.lst (ys.map V.ref)))
theorem cr_sortedQ {X : Cx} : CallR X (.builtin "sorted") (rSortedQ X.K) := by
  rintro pins s σ H vs us Q I r ⟨a, ts, k, rfl, hs, ht, q⟩
  obtain ⟨its, rv, isl, big⟩ := I.list hs
  obtain rfl := refs_are rv
  rw [Vals.ref1 r]
  let kv : Value → T3 := fun v => match v with | .ref a => k a | _ => (0, 0, 0)
  have beg : ∀ v ∈ ts.map Value.ref, IsTrip s.heap v (kv v).1 (kv v).2.1 (kv v).2.2 := by
    intro v m
    obtain ⟨t, mt, rfl⟩ := List.mem_map.mp m
    obtain ⟨_, vs', r', o, g, c, n, d⟩ := I.hok _ _ (ht t mt)
    cases r' with
    | cons r0 rs =>
      cases rs with
      | cons r1 rs =>
        cases rs with
        | cons r2 rs =>
          cases rs
          obtain ⟨t0, rfl⟩ := r0
          obtain ⟨t1, rfl⟩ := r1
          obtain ⟨t2, rfl⟩ := r2
          exact ⟨t, o, t0, t1, t2, n, rfl, g, c, d⟩
  refine SrtO.sorted_ord (swo_lexT kv) isl.isList (by simpa using big) (fun two h1 b hb kk => trips_sortableO (by rintro e; rw [e] at two; simp at two) (fun v m => ?_) (fun o g => ?_)) (fun out so st => ?_)
  · obtain ⟨b', o, t, u, r, n, e, g, rest⟩ := beg v m
    exact ⟨b', o, t, u, r, n, e, (kk _ _ g).2, rest⟩
  · obtain rfl := Option.some.inj (g.symm.trans hb)
    exact fun c => absurd (Value.type.inj c) (by decide)
  · obtain ⟨ys, rfl, py⟩ := perm_refs st.perm
    obtain ⟨kk, at'⟩ := sortedAll_at s.heap (ts.map Value.ref) (ys.map Value.ref).toArray
    have len : (ys.map V.ref).length ≤ sizeLine := by rw [List.length_map, py.length_eq]; simpa using big
    have so' : ys.Pairwise (fun x y => lexT (k y) (k x) = false) := List.pairwise_map.mp so
    exact ⟨.ref _, upd H (s.heap.objs.size + 1) (.lst (ys.map V.ref)), I.laid (t' := s.toks) (fun _ _ => sortedAll_old) (Nat.le_succ _) ⟨len, _, kk, are_refs ys, at'⟩, rfl, q ys _ py so' (I.hok.fresh (Nat.le_succ _))⟩
end HopT

set_option Elab.async false
set_option linter.all false
set_option maxRecDepth 100000
namespace HopR
open PySem L2
/-! ### data that can be shown -/
structure Okd (d : PyData) (k N : Nat) : Prop where
  sh : d.showable = true
  nd : d.hasDict = false
  dp : d.depth ≤ k
  ls : d.leavesShort 13 = true
  wt : d.weight ≤ N
structure Okds (ds : List PyData) (k N : Nat) : Prop where
  sh : PyData.showableAll ds = true
  nd : PyData.hasDictAll ds = false
  dp : PyData.depthAll ds ≤ k
  ls : PyData.leavesShortAll 13 ds = true
  wt : PyData.weightAll ds ≤ N
theorem Okds.nil {k : Nat} : Okds [] k 0 := ⟨rfl, rfl, Nat.zero_le _, rfl, Nat.le_refl _⟩
theorem Okds.cons {d : PyData} {ds : List PyData} {k N M : Nat} (a : Okd d k N) (b : Okds ds k M) : Okds (d :: ds) k (N + 1 + M) where
  sh := by simp only [PyData.showableAll, a.sh, b.sh, Bool.and_true]
  nd := by simp only [PyData.hasDictAll, a.nd, b.nd, Bool.or_false]
  dp := by
    simp only [PyData.depthAll]
    exact Nat.max_le.mpr ⟨a.dp, b.dp⟩
  ls := by simp only [PyData.leavesShortAll, a.ls, b.ls, Bool.and_true]
  wt := by
    simp only [PyData.weightAll]
    have := a.wt
    have := b.wt
    omega
theorem Okds.list {ds : List PyData} {k N : Nat} (a : Okds ds k N) : Okd (.list ds) (k + 1) N :=
  ⟨by simp only [PyData.showable, a.sh], by simp only [PyData.hasDict, a.nd], by simp only [PyData.depth]; exact Nat.succ_le_succ a.dp, by simp only [PyData.leavesShort, a.ls], by simp only [PyData.weight]; exact a.wt⟩
theorem Okds.tuple {ds : List PyData} {k N : Nat} (a : Okds ds k N) : Okd (.tuple ds) (k + 1) N :=
  ⟨by simp only [PyData.showable, a.sh], by simp only [PyData.hasDict, a.nd], by simp only [PyData.depth]; exact Nat.succ_le_succ a.dp, by simp only [PyData.leavesShort, a.ls], by simp only [PyData.weight]; exact a.wt⟩
theorem Okd.int {i : Int} {k : Nat} (h : i.natAbs < 1000000000000) : Okd (.int i) k 41 := by
  have hl : i.natAbs.log2 < 40 ∨ i.natAbs = 0 := by
    by_cases h0 : i.natAbs = 0
    · exact .inr h0
    · exact .inl ((Nat.log2_lt h0).mpr (by omega))
  have hl : i.natAbs.log2 < 40 := hl.elim id fun e => by
    rw [e]
    decide
  refine ⟨decide_eq_true (by omega), rfl, Nat.zero_le _, ?_, ?_⟩
  · simp only [PyData.leavesShort]
    exact decide_eq_true (PyData.shown_int_le h)
  · simp only [PyData.weight]
    split <;> omega
theorem Okd.bool {b : Bool} {k : Nat} : Okd (.bool b) k 0 := ⟨rfl, rfl, Nat.zero_le _, rfl, Nat.le_refl _⟩
theorem Okd.none {k : Nat} : Okd .none k 0 := ⟨rfl, rfl, Nat.zero_le _, rfl, Nat.le_refl _⟩
theorem Okd.tx {bs : List Bool} {k : Nat} : Okd (.str (tx bs)) k bs.length := by
  refine ⟨rfl, rfl, Nat.zero_le _, ?_, ?_⟩
  · simp only [PyData.leavesShort]
    rw [tx_list, List.all_map, List.all_eq_true]
    intro b _
    cases b <;> decide
  · simp only [PyData.weight]
    exact Nat.le_of_eq (tx_len bs)
theorem Okds.ints : ∀ {ks : List Nat} {k : Nat}, (∀ j ∈ ks, j < 1000000000000) → Okds (ks.map dw) k (42 * ks.length)
  | [], k, _ => Okds.nil
  | a :: r, k, h => by
    have h1 : Okd (dw a) k 41 := Okd.int (i := (a : Int)) (h a (List.mem_cons_self ..))
    have h2 : Okds (r.map dw) k (42 * r.length) := Okds.ints fun j hj => h j (List.mem_cons_of_mem _ hj)
    have := Okds.cons h1 h2
    rw [List.length_cons, show 42 * (r.length + 1) = 41 + 1 + 42 * r.length by omega]
    exact this
theorem Okd.mono {d : PyData} {k k' N N' : Nat} (a : Okd d k N) (hk : k ≤ k') (hN : N ≤ N') : Okd d k' N' := ⟨a.sh, a.nd, Nat.le_trans a.dp hk, a.ls, Nat.le_trans a.wt hN⟩
theorem Okd.fits {d : PyData} {k N : Nat} (a : Okd d k N) (hN : N ≤ 1048576) : d.shown.length ≤ sizeLine := PyData.shown_fits (B := 13) (by decide) (by decide) a.ls (Nat.le_trans a.wt hN)
end HopR

set_option Elab.async false
set_option linter.all false
set_option maxRecDepth 100000
namespace HopW
open PySem L2 HopR HopT
/-- an end: what stands in its tuple -/
def f3i (e : En) : List V := [.int (e.1.1 : Int), .int (e.1.2 : Int), .int e.2]
theorem paired_imp {α β : Type} {R S : α → β → Prop} (h : ∀ a b, R a b → S a b) : ∀ {l : List α} {m : List β}, Paired R l m → Paired S l m
  | _, _, .nil => .nil
  | _, _, .cons r t => .cons (h _ _ r) (paired_imp h t)
theorem paired_snoc {α β : Type} {R : α → β → Prop} {a : α} {b : β} : ∀ {l : List α} {m : List β}, Paired R l m → R a b → Paired R (l ++ [a]) (m ++ [b])
  | _, _, .nil, h => .cons h .nil
  | _, _, .cons r t, h => .cons r (paired_snoc t h)
theorem paired_left {α β : Type} {R : α → β → Prop} : ∀ {l : List α} {m : List β}, Paired R l m → ∀ a ∈ l, ∃ b, b ∈ m ∧ R a b
  | _, _, .nil, a, h => absurd h (by simp)
  | x :: l, _, .cons r t, a, h => by
    rcases List.mem_cons.mp h with rfl | h
    · exact ⟨_, List.mem_cons_self .., r⟩
    · obtain ⟨b, m, q⟩ := paired_left t a h
      exact ⟨b, List.mem_cons_of_mem _ m, q⟩
theorem paired_perm {α β : Type} {R : α → β → Prop} {k l : List α} (p : k.Perm l) : ∀ {m : List β}, Paired R l m → ∃ m', m'.Perm m ∧ Paired R k m' := by
  induction p with
  | nil => exact fun h => ⟨_, .refl _, h⟩
  | cons x _ ih =>
    intro m h
    cases h with
    | cons r t =>
      obtain ⟨m', p', h'⟩ := ih t
      exact ⟨_, p'.cons _, .cons r h'⟩
  | swap x y l =>
    intro m h
    cases h with
    | cons r t =>
      cases t with
      | cons r' t => exact ⟨_, .swap _ _ _, .cons r' (.cons r t)⟩
  | trans _ _ ih1 ih2 =>
    intro m h
    obtain ⟨m1, p1, h1⟩ := ih2 h
    obtain ⟨m2, p2, h2⟩ := ih1 h1
    exact ⟨m2, p2.trans p1, h2⟩
theorem paired_len {α β : Type} {R : α → β → Prop} : ∀ {l : List α} {m : List β}, Paired R l m → l.length = m.length
  | _, _, .nil => rfl
  | _, _, .cons _ t => congrArg (· + 1) (paired_len t)
theorem paired_right {α β : Type} {R : α → β → Prop} : ∀ {l : List α} {m : List β}, Paired R l m → ∀ b ∈ m, ∃ a, a ∈ l ∧ R a b
  | _, _, .nil, b, h => absurd h (by simp)
  | _, y :: m, .cons r t, b, h => by
    rcases List.mem_cons.mp h with rfl | h
    · exact ⟨_, List.mem_cons_self .., r⟩
    · obtain ⟨a, mm, q⟩ := paired_right t b h
      exact ⟨a, List.mem_cons_of_mem _ mm, q⟩
theorem paired_pw {α β : Type} {R : α → β → Prop} {S : α → α → Prop} {S' : β → β → Prop} (h : ∀ a b a' b', R a b → R a' b' → S a a' → S' b b') : ∀ {l : List α} {m : List β}, Paired R l m → l.Pairwise S → m.Pairwise S'
  | _, _, .nil, _ => .nil
  | _, _, .cons r t, p => by
    have p' := List.pairwise_cons.mp p
    refine List.pairwise_cons.mpr ⟨fun b hb => ?_, paired_pw h t p'.2⟩
    obtain ⟨a, ha, ra⟩ := paired_right t b hb
    exact h _ _ _ _ r ra (p'.1 a ha)
/-- what three ints stand at t -/
def trK (H : Hp) (t : Addr) : T3 := match H t with
  | some (.tup [.int a, .int b, .int c]) => (a, b, c)
  | _ => (0, 0, 0)
theorem trK_at {H : Hp} {t : Addr} {e : En} (h : H t = some (.tup (f3i e))) : trK H t = ((e.1.1 : Int), (e.1.2 : Int), e.2) := by
  unfold trK
  rw [h]
  rfl
theorem srt_keys {H : Hp} {ts : List Addr} {G : List En} (pr : Paired (fun t e => H t = some (.tup (f3i e))) ts G) : ∀ t ∈ ts, H t = some (.tup [.int (trK H t).1, .int (trK H t).2.1, .int (trK H t).2.2]) := fun t ht => by
  obtain ⟨e, _, h⟩ := paired_left pr t ht
  rw [trK_at h]
  exact h
theorem srt_ends {H : Hp} {ys : List Addr} {G : List En} (pr : Paired (fun t e => H t = some (.tup (f3i e))) ys G) (h : ys.Pairwise (fun x y => lexT (trK H y) (trK H x) = false)) : G.Pairwise le3 := by
  refine paired_pw (fun a b a' b' r r' s => ?_) pr h
  rw [trK_at r, trK_at r'] at s
  have s := lexT_no.mp s
  obtain ⟨⟨a, b⟩, c⟩ := b
  obtain ⟨⟨a', b'⟩, c'⟩ := b'
  have s : ¬ ((a' : Int) < a ∨ ((a' : Int) = a ∧ ((b' : Int) < b ∨ ((b' : Int) = b ∧ c' < c)))) := s
  show a < a' ∨ a = a' ∧ (b < b' ∨ b = b' ∧ c ≤ c')
  omega
theorem tupG_of {H : Hp} : ∀ {ts : List Addr} {G : List En}, Paired (fun t e => H t = some (.tup (f3i e))) ts G → TupG H f3i G (ts.map V.ref)
  | _, _, .nil => rfl
  | _, _, .cons r t => ⟨_, _, rfl, r, tupG_of t⟩
/-! ### a list of ends as data -/
def dE (G : List En) : PyData := .list (G.map fun e => .tuple [.int (e.1.1 : Int), .int (e.1.2 : Int), .int e.2])
theorem dp_ends {K : PySem.W.Frag} {H : Hp} : ∀ {G : List En} {vs : List V}, TupG H f3i G vs → DpAll K H vs (G.map fun e => .tuple [.int (e.1.1 : Int), .int (e.1.2 : Int), .int e.2])
  | [], _, h => by
    cases h
    exact .nil
  | e :: G, _, ⟨p, vr, ev, h1, h2⟩ => by
    rw [ev]
    exact .cons (.tup (SqT.of h1) (.cons (.int _) (.cons (.int _) (.cons (.int _) .nil)))) (dp_ends h2)
theorem dE_of {K : PySem.W.Frag} {H : Hp} {p : Addr} {vs : List V} {G : List En} (e : H p = some (.lst vs)) (g : TupG H f3i G vs) : Dp K H (.ref p) (dE G) := .lst (SqL.of e) (dp_ends g)
theorem lay_ends : ∀ G : List En, PyData.canLayAll0 (G.map fun e => .tuple [.int (e.1.1 : Int), .int (e.1.2 : Int), .int e.2]) = true
  | [] => rfl
  | e :: G => by
    rw [List.map_cons]
    simp only [PyData.canLayAll0, PyData.canLay0, lay_ends G, Bool.and_true]
theorem deep_ends : ∀ G : List En, PyData.depthAll (G.map fun e => .tuple [.int (e.1.1 : Int), .int (e.1.2 : Int), .int e.2]) ≤ 1
  | [] => Nat.zero_le _
  | e :: G => by
    rw [List.map_cons]
    have := deep_ends G
    simp only [PyData.depthAll, PyData.depth]
    omega
theorem dE_shaped (G : List En) : SeqAt.shaped (dE G) = true := by
  unfold SeqAt.shaped dE
  rw [Bool.and_eq_true]
  refine ⟨by simp only [PyData.canLay0, lay_ends], decide_eq_true ?_⟩
  have := deep_ends G
  simp only [PyData.depth]
  omega
theorem dE_self (G : List En) : PyData.eqv (dE G) (dE G) = true := SeqAt.eqv_refl _ (SeqAt.canLay_of_shaped (dE_shaped G))
theorem okd_ends : ∀ {G : List En}, (∀ e ∈ G, e.1.1 < 1000 ∧ e.1.2 < 1000 ∧ e.2.natAbs < 1000000000000) → Okds (G.map fun e => .tuple [.int (e.1.1 : Int), .int (e.1.2 : Int), .int e.2]) 1 (127 * G.length)
  | [], _ => Okds.nil
  | e :: G, h => by
    obtain ⟨h1, h2, h3⟩ := h e (List.mem_cons_self ..)
    have a1 : Okd (.int (e.1.1 : Int)) 0 41 := Okd.int (by omega)
    have a2 : Okd (.int (e.1.2 : Int)) 0 41 := Okd.int (by omega)
    have a3 : Okd (.int e.2) 0 41 := Okd.int h3
    have t := (Okds.cons a1 (Okds.cons a2 (Okds.cons a3 Okds.nil))).tuple
    have r := Okds.cons t (okd_ends (G := G) (fun e m => h e (List.mem_cons_of_mem _ m)))
    rw [List.length_cons, show 127 * (G.length + 1) = (41 + 1 + (41 + 1 + (41 + 1 + 0))) + 1 + 127 * G.length by omega]
    exact r
theorem okd_dE {G : List En} (h : ∀ e ∈ G, e.1.1 < 1000 ∧ e.1.2 < 1000 ∧ e.2.natAbs < 1000000000000) : Okd (dE G) 2 (127 * G.length) := (okd_ends h).list
theorem eN_near {w : List Bool} (hw : w.length ≤ 30) (hl : ∀ e ∈ eN w, e.1.1 < 1000 ∧ e.1.2 < 1000) : ∀ e ∈ eN w, e.1.1 < 1000 ∧ e.1.2 < 1000 ∧ e.2.natAbs < 1000000000000 := fun e he => by
  obtain ⟨h1, h2⟩ := hl e he
  refine ⟨h1, h2, Nat.lt_of_le_of_lt (eN_most he).2 (Nat.lt_of_le_of_lt (Nat.pow_le_pow_right (by decide) hw) (by decide))⟩
end HopW

set_option Elab.async false
set_option linter.all false
set_option maxRecDepth 100000
namespace HopH
open PySem PySem.Spec PyProof.Rows L2 HopR HopT
/-! ### lists of pairs and of triples in the machine -/
def t2v (c : Int × Int) : List V := [.int c.1, .int c.2]
def t3v (e : I3) : List V := [.int e.1, .int e.2.1, .str (tx [e.2.2])]
def k3 (e : I3) : List Key := [.inl e.1, .inl e.2.1, .inr (tx [e.2.2])]
/-- at p a list of new tuples -/
def TL {α : Type} (f : α → List V) (H : Hp) (p : Addr) (l : List α) : Prop := ∃ acc, H p = some (.lst acc) ∧ TupG H f l acc
theorem TL.same {α : Type} {f : α → List V} {H H' : Hp} {p : Addr} {l : List α} (s : Same H H') (h : TL f H p l) : TL f H' p l := let ⟨acc, e, g⟩ := h; ⟨acc, s _ _ e, tupG_same s g⟩
theorem tupG_item {α : Type} {H : Hp} {f : α → List V} : ∀ {as : List α} {vs : List V} {k : Nat} {x : V}, TupG H f as vs → vs[k]? = some x → ∃ a p, as[k]? = some a ∧ x = .ref p ∧ H p = some (.tup (f a))
  | [], _, k, x, h, e => by cases h; simp at e
  | a :: as, _, k, x, ⟨p, vr, ev, h1, h2⟩, e => by
    subst ev
    cases k with
    | zero => cases e; exact ⟨a, p, rfl, rfl, h1⟩
    | succ k => exact tupG_item (as := as) h2 e
theorem tupG_paired {α : Type} {H : Hp} {f : α → List V} : ∀ {as : List α} {vs : List V}, TupG H f as vs → Paired (fun v a => ∃ p, v = V.ref p ∧ H p = some (.tup (f a))) vs as
  | [], _, h => by cases h; exact .nil
  | a :: as, _, ⟨p, vr, ev, h1, h2⟩ => by subst ev; exact .cons ⟨p, rfl, h1⟩ (tupG_paired h2)
theorem tupG_back {α : Type} {H : Hp} {f : α → List V} : ∀ {as : List α} {vs : List V}, Paired (fun v a => ∃ p, v = V.ref p ∧ H p = some (.tup (f a))) vs as → TupG H f as vs
  | _, _, .nil => rfl
  | _, _, .cons ⟨p, e, h⟩ t => ⟨p, _, by rw [e], h, tupG_back t⟩
theorem paired_perm' {α β : Type} {R : α → β → Prop} {k l : List α} (p : k.Perm l) : ∀ {m : List β}, Paired R l m → ∃ m', m'.Perm m ∧ Paired R k m' := by
  induction p with
  | nil => exact fun h => ⟨_, .refl _, h⟩
  | cons x _ ih =>
    intro m h
    cases h with
    | cons r t =>
      obtain ⟨m', p', h'⟩ := ih t
      exact ⟨_, p'.cons _, .cons r h'⟩
  | swap x y l =>
    intro m h
    cases h with
    | cons r t =>
      cases t with
      | cons r' t => exact ⟨_, .swap _ _ _, .cons r' (.cons r t)⟩
  | trans _ _ ih1 ih2 =>
    intro m h
    obtain ⟨m1, p1, h1⟩ := ih2 h
    obtain ⟨m2, p2, h2⟩ := ih1 h1
    exact ⟨m2, p2.trans p1, h2⟩
theorem tupG_perm {α : Type} {H : Hp} {f : α → List V} {as : List α} {vs us : List V} (h : TupG H f as vs) (p : us.Perm vs) : ∃ bs, bs.Perm as ∧ TupG H f bs us := by
  obtain ⟨m, pm, h'⟩ := paired_perm' p (tupG_paired h)
  exact ⟨m, pm, tupG_back h'⟩
/-! ### sorted -/
def keyV? : V → Option Key
  | .int i => some (.inl i)
  | .str s => some (.inr s)
  | _ => none
def kOf (H : Hp) : V → List Key
  | .ref a => match H a with
    | some (.tup xs) => xs.filterMap keyV?
    | _ => []
  | _ => []
theorem keys_back : ∀ ks : List Key, (ks.map kV).filterMap keyV? = ks
  | [] => rfl
  | .inl i :: ks => by rw [List.map_cons]; show List.filterMap keyV? (V.int i :: _) = _; rw [List.filterMap_cons]; show _ :: _ = _; rw [keys_back ks]
  | .inr i :: ks => by rw [List.map_cons]; show List.filterMap keyV? (V.str i :: _) = _; rw [List.filterMap_cons]; show _ :: _ = _; rw [keys_back ks]
theorem kOf_at {H : Hp} {a : Addr} {ks : List Key} (e : H a = some (.tup (ks.map kV))) : kOf H (.ref a) = ks := by
  unfold kOf
  simp only [e]
  exact keys_back ks
theorem srtd_tup {α : Type} {H : Hp} {f : α → List V} {kf : α → List Key} (hf : ∀ a, f a = (kf a).map kV) : ∀ {as : List α} {vs : List V}, TupG H f as vs → SrtO.Srtd (ltV (kOf H)) vs → as.Pairwise fun x y => lexK (kf y) (kf x) = false
  | [], _, _, _ => .nil
  | a :: as, _, ⟨p, vr, ev, h1, h2⟩, h => by
    subst ev
    obtain ⟨h3, h4⟩ := List.pairwise_cons.mp h
    refine .cons (fun b mb => ?_) (srtd_tup hf h2 h4)
    obtain ⟨k, hk⟩ := List.mem_iff_getElem?.mp mb
    obtain ⟨q, e1, e2⟩ := tupG_at h2 hk
    have := h3 _ (List.mem_iff_getElem?.mpr ⟨k, e1⟩)
    unfold ltV at this
    rw [kOf_at (a := q) (ks := kf b) (by rw [e2, hf]), kOf_at (a := p) (ks := kf a) (by rw [h1, hf])] at this
    exact this
/-- sorted(xs), xs a list of tuples alike in their kinds, each told by an α -/
def rSortedA {α : Type} (f : α → List V) (kf : α → List Key) : List V → Hp → VK → Prop := fun vs H Q => ∃ (a : Addr) (l : List α), vs = [V.ref a] ∧ TL f H a l ∧
  ∀ l' p H', l'.Perm l → (l'.Pairwise fun x y => lexK (kf y) (kf x) = false) → Same H H' → H p = none → TL f H' p l' → Q (.ref p) H'
theorem cr_sortedA {X : Cx} {α : Type} {f : α → List V} {kf : α → List Key} (hf : ∀ a, f a = (kf a).map kV) {c : Bool} {κs : List Bool} (hk : ∀ a, (kf a).map kindK = c :: κs) : CallR X (.builtin "sorted") (rSortedA f kf) := by
  intro pins s σ H vs us Q I r h
  obtain ⟨a, l, rfl, ⟨acc, ea, g⟩, q⟩ := h
  refine cr_sortedTK pins s σ H _ us Q I r ⟨a, acc, kOf H, c, κs, rfl, SqL.of ea, fun x mx => ?_, fun ys p so pm np => ?_⟩
  · obtain ⟨i, hi⟩ := List.mem_iff_getElem?.mp mx
    obtain ⟨b, t, _, rfl, et⟩ := tupG_item g hi
    have e2 : H t = some (.tup ((kf b).map kV)) := by rw [et, hf]
    refine ⟨t, rfl, ?_, ?_⟩
    · rw [kOf_at e2]; exact e2
    · rw [kOf_at e2]; exact hk b
  · obtain ⟨bs, pb, gb⟩ := tupG_perm g pm
    exact q bs p _ pb (srtd_tup hf gb so) (same_upd np) np ⟨ys, upd_same, tupG_same (same_upd np) gb⟩
theorem t3v_key (e : I3) : t3v e = (k3 e).map kV := rfl
theorem cr_sorted3 {X : Cx} : CallR X (.builtin "sorted") (rSortedA t3v k3) := cr_sortedA (c := true) (κs := [true, false]) t3v_key fun _ => rfl
theorem lex3 {x y : I3} (h : lexK (k3 y) (k3 x) = false) : ¬ ltP2 (pr3 y) (pr3 x) := by
  intro l
  obtain ⟨x1, x2, x3⟩ := x
  obtain ⟨y1, y2, y3⟩ := y
  unfold ltP2 pr3 at l
  have l : y1 < x1 ∨ y1 = x1 ∧ y2 < x2 := l
  unfold k3 lexK at h
  by_cases e1 : y1 = x1
  · rw [if_pos (congrArg Sum.inl e1)] at h
    unfold lexK at h
    have h2 : y2 < x2 := by omega
    rw [if_neg (fun z => by have := Sum.inl.inj z; omega)] at h
    have := of_decide_eq_false h
    omega
  · rw [if_neg (fun z => e1 (Sum.inl.inj z))] at h
    have := of_decide_eq_false h
    omega
theorem sorted_pairs {R : List T3} (nd : (R.map fun e => (e.1, e.2.1)).Nodup) {ts : List I3} (p : ts.Perm (R.map c3)) (so : ts.Pairwise fun x y => lexK (k3 y) (k3 x) = false) : (ts.map pr3).Pairwise ltP2 := pairs_lt nd p (so.imp lex3)
/-! ### as data -/
def d2 (c : Int × Int) : PyData := .tuple [.int c.1, .int c.2]
def d3 (e : I3) : PyData := .tuple [.int e.1, .int e.2.1, .str (tx [e.2.2])]
theorem dp2 {K : PySem.W.Frag} {H : Hp} : ∀ {l : List (Int × Int)} {vs : List V}, TupG H t2v l vs → DpAll K H vs (l.map d2)
  | [], _, h => by cases h; exact .nil
  | e :: G, _, ⟨p, vr, ev, h1, h2⟩ => by
    rw [ev]
    exact .cons (.tup (SqT.of h1) (.cons (.int _) (.cons (.int _) .nil))) (dp2 h2)
theorem dp3 {K : PySem.W.Frag} {H : Hp} : ∀ {l : List I3} {vs : List V}, TupG H t3v l vs → DpAll K H vs (l.map d3)
  | [], _, h => by cases h; exact .nil
  | e :: G, _, ⟨p, vr, ev, h1, h2⟩ => by
    rw [ev]
    exact .cons (.tup (SqT.of h1) (.cons (.int _) (.cons (.int _) (.cons (.str _) .nil)))) (dp3 h2)
theorem tl_d2 {K : PySem.W.Frag} {H : Hp} {p : Addr} {l : List (Int × Int)} (h : TL t2v H p l) : Dp K H (.ref p) (.list (l.map d2)) := let ⟨_, e, g⟩ := h; .lst (SqL.of e) (dp2 g)
theorem tl_d3 {K : PySem.W.Frag} {H : Hp} {p : Addr} {l : List I3} (h : TL t3v H p l) : Dp K H (.ref p) (.list (l.map d3)) := let ⟨_, e, g⟩ := h; .lst (SqL.of e) (dp3 g)
theorem lay2 : ∀ l : List (Int × Int), PyData.canLayAll0 (l.map d2) = true
  | [] => rfl
  | e :: G => by
    rw [List.map_cons]
    unfold d2
    simp only [PyData.canLayAll0, PyData.canLay0, Bool.and_true]
    exact lay2 G
theorem deep2 : ∀ l : List (Int × Int), PyData.depthAll (l.map d2) ≤ 1
  | [] => Nat.zero_le _
  | e :: G => by
    rw [List.map_cons]
    have := deep2 G
    unfold d2 at this ⊢
    simp only [PyData.depthAll, PyData.depth]
    omega
theorem shaped2 (l : List (Int × Int)) : SeqAt.shaped (.list (l.map d2)) = true := by
  unfold SeqAt.shaped
  rw [Bool.and_eq_true]
  refine ⟨by simp only [PyData.canLay0, lay2], decide_eq_true ?_⟩
  have := deep2 l
  simp only [PyData.depth]
  omega
theorem lay3 : ∀ l : List I3, PyData.canLayAll0 (l.map d3) = true
  | [] => rfl
  | e :: G => by
    rw [List.map_cons]
    have ok : PyData.strOk (tx [e.2.2]) = true := by cases e.2.2 <;> decide +kernel
    have ih := lay3 G
    unfold d3 at ih ⊢
    simp only [PyData.canLayAll0, PyData.canLay0, Bool.and_true, ok, ih]
theorem deep3 : ∀ l : List I3, PyData.depthAll (l.map d3) ≤ 1
  | [] => Nat.zero_le _
  | e :: G => by
    rw [List.map_cons]
    have := deep3 G
    unfold d3 at this ⊢
    simp only [PyData.depthAll, PyData.depth]
    omega
theorem shaped3 (l : List I3) : SeqAt.shaped (.list (l.map d3)) = true := by
  unfold SeqAt.shaped
  rw [Bool.and_eq_true]
  refine ⟨by simp only [PyData.canLay0, lay3], decide_eq_true ?_⟩
  have := deep3 l
  simp only [PyData.depth]
  omega
theorem eqv2 (c c' : Int × Int) : PyData.eqv (d2 c) (d2 c') = decide (c = c') := by
  obtain ⟨a, b⟩ := c
  obtain ⟨a', b'⟩ := c'
  unfold d2
  simp only [PyData.eqv, PyData.eqvAll, Bool.and_true]
  by_cases h1 : a = a' <;> by_cases h2 : b = b' <;> simp [h1, h2]
theorem eqvL2 : ∀ l m : List (Int × Int), PyData.eqvAll (l.map d2) (m.map d2) = decide (l = m)
  | [], [] => rfl
  | [], _ :: _ => by simp [PyData.eqvAll]
  | _ :: _, [] => by simp [PyData.eqvAll]
  | x :: l, y :: m => by
    rw [List.map_cons, List.map_cons]
    simp only [PyData.eqvAll, eqv2, eqvL2 l m]
    by_cases h1 : x = y <;> by_cases h2 : l = m <;> simp [h1, h2]
theorem eqvT2 (l m : List (Int × Int)) : PyData.eqv (.list (l.map d2)) (.list (m.map d2)) = decide (l = m) := by
  rw [← eqvL2]
  simp only [PyData.eqv]
/-! ### the nearest ones, as the list is gone through -/
theorem nbI_snoc (ts : List I3) (e : I3) (f : Int) : nbI (ts ++ [e]) f = if e.2.1 = f ∧ e.2.2 = true then some e.1 else nbI ts f := by
  unfold nbI
  rw [List.filter_append]
  by_cases h : e.2.1 = f ∧ e.2.2 = true
  · rw [if_pos h, List.filter_cons_of_pos (by simp [h]), List.filter_nil, List.getLast?_concat]
    rfl
  · rw [if_neg h, List.filter_cons_of_neg (by simpa using h), List.filter_nil, List.append_nil]
theorem nfI_snoc (ts : List I3) (e : I3) (b : Int) : nfI (ts ++ [e]) b = match nfI ts b with | some x => some x | none => if e.1 = b ∧ e.2.2 = false then some e.2.1 else none := by
  unfold nfI
  rw [List.filter_append]
  cases h : ts.filter (fun e => decide (e.1 = b) && !e.2.2) with
  | cons x l => rfl
  | nil =>
    rw [List.nil_append]
    show _ = if e.1 = b ∧ e.2.2 = false then some e.2.1 else none
    by_cases h : e.1 = b ∧ e.2.2 = false
    · rw [if_pos h, List.filter_cons_of_pos (by simp [h])]; rfl
    · rw [if_neg h, List.filter_cons_of_neg (by simpa using h)]; rfl
theorem nbI_nil (f : Int) : nbI [] f = none := rfl
theorem nfI_nil (f : Int) : nfI [] f = none := rfl
/-! ### the places of beads, of free places, from the left -/
def plsTo (v : Bool) (bs : List Bool) (i : Nat) : List Nat := (List.range i).filter fun p => bs[p]? == some v
theorem plsTo_step {v b : Bool} {bs : List Bool} {i : Nat} (h : bs[i]? = some b) : plsTo v bs (i + 1) = plsTo v bs i ++ (if b = v then [i] else []) := by
  unfold plsTo
  rw [List.range_succ, List.filter_append]
  by_cases e : b = v
  · rw [if_pos e, List.filter_cons_of_pos (by rw [h, e]; simp), List.filter_nil]
  · rw [if_neg e, List.filter_cons_of_neg (by rw [h]; simpa using e), List.filter_nil]
theorem plsTo_len (v : Bool) (bs : List Bool) (i : Nat) : (plsTo v bs i).length ≤ i := by
  unfold plsTo
  exact Nat.le_trans (List.length_filter_le _ _) (by rw [List.length_range]; exact Nat.le_refl _)
/-! ### cells, row by row -/
def cellsTo (bs : List Bool) (B : List Nat) (F : List Nat) : List (Nat × Nat) := B.flatMap fun b => (F.filter fun f => decide (b < f)).map fun f => (b, f)
theorem cellsN_eq (bs : List Bool) : cellsN bs = cellsTo bs (plsTo true bs bs.length) (plsTo false bs bs.length) := rfl
end HopH

set_option Elab.async false
set_option linter.all false
set_option maxRecDepth 100000
namespace HopR
open PySem PySem.Spec PyProof.Rows L2 TL
/-! ### where a word has a bead before a free place -/
theorem of_tx : ("o." : Str) = tx [true, false] := by decide +kernel
theorem sub_tx (bs : List Bool) (i : Nat) : Builtin.Str.subAt (tx bs) (tx [true, false]) i = true ↔ (bs.drop i).take 2 = [true, false] := by
  have e : (tx bs).cps.extract i (i + (tx [true, false]).length) = (tx ((bs.drop i).take 2)).cps := by
    apply Array.toList_inj.mp
    rw [Array.toList_extract, tx_list, tx_list, tx_len, List.extract_eq_drop_take, List.map_take, List.map_drop]
    show ((bs.map cd).drop i).take (i + 2 - i) = _
    rw [Nat.add_sub_cancel_left]
  unfold Builtin.Str.subAt
  rw [e, beq_iff_eq]
  constructor
  · intro h
    apply tx_inj
    exact congrArg Str.mk h
  · intro h; rw [h]
theorem no_pair : ∀ bs : List Bool, (∀ i, (bs.drop i).take 2 ≠ [true, false]) → ∃ f b, bs = List.replicate f false ++ List.replicate b true
  | [], _ => ⟨0, 0, rfl⟩
  | [true], _ => ⟨0, 1, rfl⟩
  | [false], _ => ⟨1, 0, rfl⟩
  | false :: y :: r, h => by
    obtain ⟨f, b, e⟩ := no_pair (y :: r) (fun i => h (i + 1))
    exact ⟨f + 1, b, by rw [e]; rfl⟩
  | true :: false :: r, h => absurd rfl (h 0)
  | true :: true :: r, h => by
    obtain ⟨f, b, e⟩ := no_pair (true :: r) (fun i => h (i + 1))
    cases f with
    | zero => exact ⟨0, b + 1, by rw [e]; rfl⟩
    | succ f => exact absurd (List.cons.inj e).1 (by decide)
theorem find_of (bs : List Bool) : (Txt.find (tx bs) "o." = -1 ∧ ∃ f b, bs = List.replicate f false ++ List.replicate b true) ∨
    ∃ u v, Txt.find (tx bs) "o." = (u.length : Int) ∧ bs = u ++ true :: false :: v := by
  rw [of_tx]
  rcases find_whole (tx bs) (tx [true, false]) with ⟨e, no⟩ | ⟨i, e, ⟨le, at'⟩, _⟩
  · refine .inl ⟨e, no_pair bs fun i h => no i ⟨?_, (sub_tx bs i).mpr h⟩⟩
    rw [tx_len, tx_len]
    have l := congrArg List.length h
    rw [List.length_take, List.length_drop] at l
    simp only [List.length_cons, List.length_nil] at l ⊢
    omega
  · have h := (sub_tx bs i).mp at'
    have l : i ≤ bs.length := by
      have l := congrArg List.length h
      rw [List.length_take, List.length_drop] at l
      simp only [List.length_cons, List.length_nil] at l
      omega
    refine .inr ⟨bs.take i, bs.drop (i + 2), ?_, ?_⟩
    · rw [e, List.length_take, Nat.min_eq_left l]
    · have q := List.take_append_drop 2 (bs.drop i)
      rw [h, List.drop_drop] at q
      have q2 := List.take_append_drop i bs
      rw [← q] at q2
      exact q2.symm
end HopR

set_option Elab.async false
set_option linter.all false
set_option maxRecDepth 100000
namespace HopH
open PySem PySem.Spec PyProof.Rows L2 HopR HopT TL
/-! ### a course: step by step from the other end -/
theorem lt_at {L : List Nat} (so : L.Pairwise (· < ·)) {i j a b : Nat} (hi : L[i]? = some a) (hj : L[j]? = some b) (l : i < j) : a < b := by
  obtain ⟨h1, e1⟩ := List.getElem?_eq_some_iff.mp hi
  obtain ⟨h2, e2⟩ := List.getElem?_eq_some_iff.mp hj
  subst e1 e2
  exact List.pairwise_iff_getElem.mp so i j h1 h2 l
theorem at_lt {L : List Nat} (so : L.Pairwise (· < ·)) {i j a b : Nat} (hi : L[i]? = some a) (hj : L[j]? = some b) (l : a < b) : i < j := by
  rcases Nat.lt_trichotomy i j with z | z | z
  · exact z
  · subst z; rw [hi] at hj; cases hj; omega
  · have := lt_at so hj hi z; omega
theorem mem_erase {L : List Nat} (so : L.Pairwise (· < ·)) {k a : Nat} (h : L[k]? = some a) (x : Nat) : x ∈ L.eraseIdx k ↔ x ∈ L ∧ x ≠ a := by
  rw [List.mem_eraseIdx_iff_getElem?]
  constructor
  · rintro ⟨i, ne, e⟩
    refine ⟨List.mem_of_getElem? e, fun z => ?_⟩
    subst z
    rcases Nat.lt_or_gt_of_ne ne with l | l
    · have := lt_at so e h l; omega
    · have := lt_at so h e l; omega
  · rintro ⟨m, ne⟩
    obtain ⟨i, e⟩ := List.mem_iff_getElem?.mp m
    exact ⟨i, fun z => by subst z; rw [h] at e; cases e; exact ne rfl, e⟩
theorem next_to {L : List Nat} (so : L.Pairwise (· < ·)) {k a b : Nat} (ha : L[k]? = some a) (hb : L[k + 1]? = some b) : ∀ x ∈ L, a < x → x < b → False := by
  intro x m l1 l2
  obtain ⟨i, e⟩ := List.mem_iff_getElem?.mp m
  have := at_lt so ha e l1
  have := at_lt so e hb l2
  omega
theorem step_heap {bs : List Bool} {S L : List Nat} {R : List T3} (so : L.Pairwise (· < ·)) {k b f : Nat} (hb : L[k]? = some b) (hf : L[k + 1]? = some f) (h1 : bs[b]? = some true) (h2 : bs[f]? = some false) (s : Bool)
    (good : ∀ R', Heaped bs L R' → Heaped bs S (R ++ R')) : ∀ R', Heaped bs (L.eraseIdx (if s then k + 1 else k)) R' → Heaped bs S ((R ++ [(b, f, s)]) ++ R') := by
  intro R' h
  have bf := lt_at so hb hf (Nat.lt_succ_self k)
  have adj := next_to so hb hf
  rw [List.append_assoc]
  apply good
  cases s with
  | true => exact heaped_free (List.mem_of_getElem? hb) (List.mem_of_getElem? hf) bf adj h1 h2 (mem_erase so hf) h
  | false => exact heaped_bead (List.mem_of_getElem? hb) (List.mem_of_getElem? hf) bf adj h1 h2 (mem_erase so hb) h
/-! ### where a bead stands before a free place -/
def bitL (bs : List Bool) (l : Nat) : Bool := (bs[l]?).getD false
def ofAt (w : List Bool) (i : Nat) : Bool := decide ((w.drop i).take 2 = [true, false])
def hasOf (w : List Bool) : Bool := (List.range (w.length - 1)).any (ofAt w)
def spotsL (w : List Bool) : List Nat := (List.range (w.length - 1)).filter (ofAt w)
theorem ofAt_iff {w : List Bool} {i : Nat} : ofAt w i = true ↔ w[i]? = some true ∧ w[i + 1]? = some false := by
  unfold ofAt
  rw [decide_eq_true_iff]
  constructor
  · intro h
    have e : ∀ j, j < 2 → w[i + j]? = ([true, false] : List Bool)[j]? := fun j hj => by
      rw [← h, List.getElem?_take_of_lt hj, List.getElem?_drop]
    exact ⟨e 0 (by decide), e 1 (by decide)⟩
  · rintro ⟨h1, h2⟩
    obtain ⟨l1, e1⟩ := List.getElem?_eq_some_iff.mp h1
    obtain ⟨l2, e2⟩ := List.getElem?_eq_some_iff.mp h2
    rw [List.drop_eq_getElem_cons l1, List.drop_eq_getElem_cons l2, e1, e2]
    rfl
theorem ofAt_lt {w : List Bool} {i : Nat} (h : ofAt w i = true) : i < w.length - 1 := by
  obtain ⟨_, h2⟩ := ofAt_iff.mp h
  obtain ⟨l2, _⟩ := List.getElem?_eq_some_iff.mp h2
  omega
theorem mem_spots {w : List Bool} {i : Nat} : i ∈ spotsL w ↔ ofAt w i = true := by
  unfold spotsL
  rw [List.mem_filter, List.mem_range]
  exact ⟨fun h => h.2, fun h => ⟨ofAt_lt h, h⟩⟩
theorem hasOf_spots {w : List Bool} (h : hasOf w = true) : spotsL w ≠ [] := by
  unfold hasOf at h
  obtain ⟨i, _, e⟩ := List.any_eq_true.mp h
  exact fun z => by have := mem_spots.mpr e; rw [z] at this; simp at this
theorem hasOf_no {w : List Bool} (h : hasOf w = false) (i : Nat) : ofAt w i = false := by
  cases e : ofAt w i with
  | false => rfl
  | true =>
    have : hasOf w = true := List.any_eq_true.mpr ⟨i, List.mem_range.mpr (ofAt_lt e), e⟩
    rw [h] at this
    cases this
theorem no_of {w : List Bool} (h : ∀ i, ofAt w i = false) {i j : Nat} (l : i < j) (h1 : w[i]? = some true) (h2 : w[j]? = some false) : False := by
  obtain ⟨a, b, e⟩ := no_pair w fun i z => by
    have := h i
    unfold ofAt at this
    exact of_decide_eq_false this z
  subst e
  have hj : j < a := by
    apply Nat.lt_of_not_le
    intro z
    rw [List.getElem?_append_right (by simpa using z)] at h2
    have := List.mem_of_getElem? h2
    simp at this
  rw [List.getElem?_append_left (by rw [List.length_replicate]; omega)] at h1
  have := List.mem_of_getElem? h1
  simp at this
theorem end_heap {bs : List Bool} {L : List Nat} (so : L.Pairwise (· < ·)) (h : ∀ i, ofAt (L.map (bitL bs)) i = false) : Heaped bs L [] := by
  refine heaped_nil fun b f hb hf l h1 h2 => ?_
  obtain ⟨i, ei⟩ := List.mem_iff_getElem?.mp hb
  obtain ⟨j, ej⟩ := List.mem_iff_getElem?.mp hf
  refine no_of h (at_lt so ei ej l) (i := i) (j := j) ?_ ?_
  · rw [List.getElem?_map, ei]; show some (bitL bs b) = _; unfold bitL; rw [h1]; rfl
  · rw [List.getElem?_map, ej]; show some (bitL bs f) = _; unfold bitL; rw [h2]; rfl
theorem in_of (w : List Bool) : (!(Builtin.Str.occurrences (tx w) "o." 0 (tx w).length 1).isEmpty) = hasOf w := by
  rw [of_tx]
  have iff : ∀ i, StrLaws.At (tx w) (tx [true, false]) (tx w).length i → ofAt w i = true := fun i h => by
    unfold ofAt
    exact decide_eq_true ((sub_tx w i).mp h.2)
  rcases StrLaws.occ_head (tx w) (tx [true, false]) 1 (Nat.le_refl _) with ⟨e, no⟩ | ⟨i, r, e, a, _⟩
  · rw [e]
    show false = _
    cases h : hasOf w with
    | false => rfl
    | true =>
      obtain ⟨i, _, z⟩ := List.any_eq_true.mp h
      refine absurd ⟨?_, (sub_tx w i).mpr (of_decide_eq_true z)⟩ (no i)
      have := ofAt_lt z
      rw [tx_len, tx_len]
      simp only [List.length_cons, List.length_nil]
      omega
  · rw [e]
    show true = _
    have z := iff i a
    exact (List.any_eq_true.mpr ⟨i, List.mem_range.mpr (ofAt_lt z), z⟩).symm
/-! ### a heap in the machine -/
def HeapL (bs : List Bool) (ts : List I3) : Prop := ∃ R, Heaped bs (List.range bs.length) R ∧ ts.Perm (R.map c3) ∧ (ts.map pr3).Pairwise ltP2 ∧ ts.length ≤ 1000
theorem HeapL.ok {bs : List Bool} {ts : List I3} (h : HeapL bs ts) : isHeapB bs ts = true := by
  obtain ⟨R, h1, p, so, _⟩ := h
  unfold isHeapB
  exact decide_eq_true (heap_ok h1 p so)
end HopH

set_option Elab.async false
set_option linter.all false
set_option maxRecDepth 100000
namespace HopT
open PySem PySem.Spec PyProof.Rows L2
/-! ### dict(xs) of a list of pairs whose first things are tuples -/
section
variable {prog : Program} {w : World} {A : Around} {E : Value → Shared → Prop}
abbrev tkd (prog : Program) (w : World) := tupleKind (mixKind prog w)
abbrev E3 := List L2.Key × Addr × Value
def fillH (acc : List E3) (more : List E3) : List E3 := more.foldl (fun a q => storedH a q.1 q.2.1 q.2.2) acc
theorem key_at {h h' : Heap} {ks : List L2.Key} {a : Addr} (x : (tkd prog w).is h ks a) (k : ∀ o, h.get? a = some o → h'.get? a = some o) : (tkd prog w).is h' ks a := by
  obtain ⟨o, its, m, h1, hr⟩ := (show IsTupleKey (mixKind prog w) h ks a from x)
  exact (show IsTupleKey (mixKind prog w) h' ks a from ⟨o, its, m, k _ h1, hr⟩)
theorem dict_at {h h' : Heap} {d : Addr} {xs : List E3} (x : h.DictOfH (tkd prog w) d xs) (kd : ∀ o, h.get? d = some o → h'.get? d = some o) (kk : ∀ y ∈ xs, (tkd prog w).is h' y.1 y.2.1) : h'.DictOfH (tkd prog w) d xs := by
  obtain ⟨o, es, ep, h1, h2, h3, h4, _, h5⟩ := x
  exact ⟨o, es, ep, kd _ h1, h2, h3, h4, kk, h5⟩
theorem stored_le (xs : List E3) (q : E3) : (storedH xs q.1 q.2.1 q.2.2).length ≤ xs.length + 1 := by
  unfold storedH
  by_cases z : (atKey xs q.1).isSome = true
  · rw [if_pos z, List.length_map]; omega
  · rw [if_neg z, List.length_append]; exact Nat.le_refl _
theorem stored_mem {xs : List E3} {q y : E3} (h : y ∈ storedH xs q.1 q.2.1 q.2.2) : y = q ∨ ∃ x ∈ xs, y.1 = x.1 ∧ y.2.1 = x.2.1 := by
  unfold storedH at h
  by_cases z : (atKey xs q.1).isSome = true
  · rw [if_pos z] at h
    obtain ⟨x, mx, e⟩ := List.mem_map.mp h
    refine .inr ⟨x, mx, ?_⟩
    subst e
    unfold putAt
    split
    · exact ⟨rfl, rfl⟩
    · exact ⟨rfl, rfl⟩
  · rw [if_neg z] at h
    rcases List.mem_append.mp h with h | h
    · exact .inr ⟨y, h, rfl, rfl⟩
    · exact .inl (List.mem_singleton.mp h)
/-- the old heap stands below S -/
def Below (S : Addr) (h0 h : Heap) : Prop := ∀ b o, b < S → h0.get? b = some o → h.get? b = some o
def KeyOf (prog : Program) (w : World) (S : Addr) (h0 : Heap) (y : E3) : Prop := y.2.1 < S ∧ (tkd prog w).is h0 y.1 y.2.1
theorem KeyOf.there {S : Addr} {h0 h : Heap} {y : E3} (k : KeyOf prog w S h0 y) (b : Below S h0 h) : (tkd prog w).is h y.1 y.2.1 := key_at k.2 fun o e => b _ _ k.1 e
theorem fill_loop {R : Result → Shared → Prop} {S J l : Addr} {items : Array Value} {res : Value} {h0 : Heap} (hh : A.handled = none) (hu : A.units + 1 < cLine) (hSJ : S < J) (hl0 : h0.IsList l items) (hlS : l < S) :
    ∀ (rest : List E3) (i : Nat) (acc : List E3) (ix : Int) (t : Tok) (s : Shared), items.size = i + rest.length → acc.length + rest.length ≤ sizeLine →
      (∀ (j : Nat) (q : E3), rest[j]? = some q → KeyOf prog w S h0 q ∧ ∃ b : Addr, items[i + j]? = some (.ref b) ∧ b < S ∧ IsTup h0 b #[.ref q.2.1, q.2.2]) →
      (∀ y ∈ acc, KeyOf prog w S h0 y) → Below S h0 s.heap → s.heap.IsListIter J l i → s.heap.DictOfH (tkd prog w) S acc →
      (∀ h' tk, h'.DictOfH (tkd prog w) S (fillH acc rest) → Below S h0 h' → R (.ok (.ret res)) { s with heap := h', toks := tk }) →
      codeAny (model prog w) A (.builtin "dict.update.loop" ⟨[.ref S, .ref J, .int ix t, res], []⟩) R s := by
  intro rest
  induction rest with
  | nil =>
    intro i acc ix t s sz ln ht ha bl it dd fin
    have hl := hl0.at fun o e => bl _ o hlS e
    refine codeAny_builtin ud_entry ?_
    rw [Around.under_plainId ud_plain _]
    show wpAny _ A.in1 (pyNext (.ref J) >>= _) _ _ s
    have out : items[i]? = none := Array.getElem?_eq_none (Nat.le_of_eq sz)
    refine wpAny_bind (wpAny_pyNext_list_end (A := A.in1) hh it hl out fun h' he => ?_)
    show wpAny _ A.in1 (Builtin.Dict.addKeywords S [] >>= _) _ _ _
    have bl' : Below S h0 h' := fun b o hb e => he b o (Nat.ne_of_lt (Nat.lt_trans hb hSJ)) (bl b o hb e)
    exact wpAny_bind (wpAny_pure (wpAny_pure (fin h' s.toks (dict_at dd (fun o e => he S o (Nat.ne_of_lt hSJ) e) fun y my => (ha y my).there bl') bl')))
  | cons q rest ih =>
    intro i acc ix t s sz ln ht ha bl it dd fin
    obtain ⟨kq, b, hb, hbS, tb⟩ := ht 0 q rfl
    rw [List.length_cons] at sz ln
    have hl := hl0.at fun o e => bl _ o hlS e
    refine codeAny_builtin ud_entry ?_
    rw [Around.under_plainId ud_plain _]
    show wpAny _ A.in1 (pyNext (.ref J) >>= _) _ _ s
    refine wpAny_bind (wpAny_pyNext_list_item (x := .ref b) it hl hb fun h1 it1 sm => ?_)
    have bl1 : Below S h0 h1 := fun c o hc e => sm.extBut c o (Nat.ne_of_lt (Nat.lt_trans hc hSJ)) (bl c o hc e)
    have dd1 : h1.DictOfH (tkd prog w) S acc := dict_at dd (fun o e => sm.extBut S o (Nat.ne_of_lt hSJ) e) fun y my => (ha y my).there bl1
    obtain ⟨o, ho, hc, n, hd⟩ := tb
    have ho1 := bl1 b o hbS ho
    show wpAny _ A.in1 (holding [Value.ref b] _ >>= _) _ _ _
    refine wpAny_bind (wpAny_holding (wpAny_bind (wpAny_tryCatch ?_)))
    unfold Builtin.Dict.pairItems
    refine wpAny_bind (wpAny_typeOf (T := "tuple") ⟨o, ho1, hc⟩ ?_)
    rw [if_pos (by first | decide | rfl | simp)]
    refine wpAny_bind (wpAny_seqItems ho1 hd (wpAny_pure ?_))
    show wpAny _ A.in1 (holding [Value.ref q.2.1, q.2.2] (dictSet S (.ref q.2.1) q.2.2)) _ _ _
    refine wpAny_holding (wpAny_dictSet_heap (knd := tkd prog w) (k := q.1) (show A.units + 1 < cLine from hu) (kq.there bl1) dd1 (fun h2 dd2 sm2 => ?_) (by omega))
    have bl2 : Below S h0 h2 := fun c o hc e => sm2.extBut c o (Nat.ne_of_lt hc) (bl1 c o hc e)
    refine wpAny_pure ⟨plainId_quiet ud_plain _, ih (i + 1) (storedH acc q.1 q.2.1 q.2.2) (ix + 1) 0 _ (by omega) ?_ (fun j q' e => ?_) (fun y my => ?_) bl2 (it1.at fun o' e => sm2.extBut J o' (Nat.ne_of_gt hSJ) e) dd2 fun h' tk d' b' => fin h' tk d' b'⟩
    · have z := stored_le acc q
      omega
    · obtain ⟨k', b', hb', r'⟩ := ht (j + 1) q' e
      exact ⟨k', b', by rw [show i + 1 + j = i + (j + 1) by omega]; exact hb', r'⟩
    · rcases stored_mem my with rfl | ⟨x, mx, e1, e2⟩
      · exact kq
      · have := ha x mx
        unfold KeyOf at this ⊢
        rw [e1, e2]
        exact this
theorem dict_of_pairs {s : Shared} {l : Addr} {ol : Obj} {items : Array Value} {n : Nat} {prs : List E3} {Q : Value → Shared → Prop} (hh : A.handled = none) (hu : A.units + 2 < cLine) (hl : s.heap.get? l = some ol) (hc : ol.cls = .type "list") (hd : ol.dict = none)
    (hdat : ol.data = .seq items n) (hsz : items.size = prs.length) (hln : prs.length ≤ sizeLine)
    (ht : ∀ (j : Nat) (q : E3), prs[j]? = some q → KeyOf prog w s.heap.objs.size s.heap q ∧ ∃ b : Addr, items[j]? = some (.ref b) ∧ b < s.heap.objs.size ∧ IsTup s.heap b #[.ref q.2.1, q.2.2])
    (h : ∀ h' tk, h'.DictOfH (tkd prog w) s.heap.objs.size (fillH [] prs) → Below s.heap.objs.size s.heap h' → Q (.ref s.heap.objs.size) { s with heap := h', toks := tk }) :
    wpAny (model prog w) A (call (.type "dict") [.ref l]) Q E s := by
  let nw : Obj := { cls := .type "dict", data := .dict #[] }
  refine callType_codes (Q₁ := fun obj s₁ => obj = .ref s.heap.objs.size ∧ s₁ = { s with heap := s.heap.push nw }) PySem.F.kt_called_dict (PySem.F.kt_typeCall_dict_1 _) PySem.F.entry_dict_init (kt_code_dict_new _ ⟨rfl, rfl⟩) ?_
  rintro obj s₁ ⟨rfl, rfl⟩
  have fresh : (s.heap.push nw).DictOfH (tkd prog w) s.heap.objs.size [] := Heap.DictOfH.new s.heap
  have k0 : ∀ b o, s.heap.get? b = some o → (s.heap.push nw).get? b = some o := fun b o e => Heap.get?_push_of_some _ e
  refine ⟨fresh.typeIs, PySem.F.args_dict_init_2 _ _, ?_⟩
  unfold Builtin.«dict.__init__»
  refine wpAny_bind ?_
  unfold Builtin.Dict.selfAndRest
  refine wpAny_bind (wpAny_notOrdered_dict fresh.typeIs ?_)
  show wpAny _ _ (pure (s.heap.objs.size, [Value.ref l])) _ _ _
  refine wpAny_pure ?_
  show wpAny _ _ (Builtin.Dict.updateFrom "dict.__init__" s.heap.objs.size (.ref l) [] .none) _ _ _
  unfold Builtin.Dict.updateFrom
  refine wpAny_bind (wpAny_typeOf (T := "list") ⟨ol, k0 _ _ hl, hc⟩ ?_)
  rw [if_pos (by first | decide | rfl | simp)]
  refine wpAny_bind (miss_list (k0 _ _ hl) hc hdat hd hh fun h1 tk1 hk1 => ?_)
  rw [if_pos (show (none : Option Value).isNone = true from rfl)]
  refine wpAny_bind (wpAny_rule ?_)
  have lS : l < s.heap.objs.size := Heap.lt_size hl
  have hl0 : s.heap.IsList l items := ⟨ol, hl, hc, n, hdat⟩
  have hl1 : h1.IsList l items := ⟨ol, hk1 _ _ (k0 _ _ hl), hc, n, hdat⟩
  have S1 : s.heap.objs.size < h1.objs.size := Heap.lt_size (hk1 _ _ (Heap.get?_push_size (o := nw) _ rfl))
  refine wpAny_bind (wpAny_pyIter_list hl1 ?_)
  let h2 := h1.push { cls := .type "list_iterator", data := .fields #[.ref l, .int 0 0] }
  have k2 : ∀ b o, (s.heap.push nw).get? b = some o → h2.get? b = some o := fun b o e => Heap.get?_push_of_some _ (hk1 b o e)
  have loop := fill_loop (prog := prog) (w := w) (A := A.in1) (R := wants (fun r s₂ => r = .none ∧ Q (.ref s.heap.objs.size) s₂) E) (S := s.heap.objs.size) (J := h1.objs.size) (l := l) (items := items) (res := Value.none) (h0 := s.heap) hh hu S1 hl0 lS prs 0 [] 0 0 { s with heap := h2, toks := tk1 }
    (by rw [hsz, Nat.zero_add]) (by rw [List.length_nil, Nat.zero_add]; exact hln) (fun j q e => by rw [Nat.zero_add]; exact ht j q e) (fun y my => nomatch my) (fun b o _ e => k2 b o (k0 b o e)) ⟨_, Heap.get?_push_size _ rfl, rfl, rfl⟩
    (dict_at fresh (fun o e => k2 _ o e) fun y my => nomatch my) (fun h' tk d' b' => ⟨rfl, h h' tk d' b'⟩)
  first
    | exact wpAny_pure ⟨plainId_quiet ud_plain _, loop⟩
    | exact wpAny_bind (wpAny_pure (wpAny_pure ⟨plainId_quiet ud_plain _, loop⟩))
end
section
variable {X : Cx}
/-- key, where it lies, value -/
abbrev T3V := List L2.Key × Addr × V
def mergeT (kvs : List (List L2.Key × V)) (more : List T3V) : List (List L2.Key × V) := more.foldl (fun acc q => putK acc q.1 q.2.2) kvs
theorem mergeT_le : ∀ (more : List T3V) (kvs : List (List L2.Key × V)), (mergeT kvs more).length ≤ kvs.length + more.length
  | [], kvs => Nat.le_refl _
  | q :: r, kvs => by
    have h1 := mergeT_le r (putK kvs q.1 q.2.2)
    have h2 := length_putK kvs q.1 q.2.2
    show (mergeT (putK kvs q.1 q.2.2) r).length ≤ kvs.length + (r.length + 1)
    omega
abbrev Alike : List T3V → List E3 → Prop := Paired fun p q => p.1 = q.1 ∧ p.2.1 = q.2.1 ∧ RelV p.2.2 q.2.2
theorem kt_merge {H : Hp} : ∀ {more : List T3V} {rs : List E3} {kvs : List (List L2.Key × V)} {xs : List E3}, Alike more rs → (∀ p ∈ more, H p.2.1 = some (.tup (p.1.map kV))) → KT H kvs xs → KT H (mergeT kvs more) (fillH xs rs) := by
  intro more rs kvs xs al
  induction al generalizing kvs xs with
  | nil => exact fun _ r => r
  | @cons p q ps qs hpq _ ih =>
    intro hk r
    obtain ⟨e1, e2, rv⟩ := hpq
    have hb := hk p (List.mem_cons_self ..)
    show KT H (mergeT (putK kvs p.1 p.2.2) ps) (fillH (storedH xs q.1 q.2.1 q.2.2) qs)
    rw [← e1, ← e2]
    exact ih (fun y my => hk y (List.mem_cons_of_mem _ my)) (r.put p.1 hb rv)
/-- each of a list is a pair: a tuple for a key, a value -/
abbrev PairsAt (K : PySem.W.Frag) (H : Hp) : List Addr → List T3V → Prop := Paired fun p q => H p = some (.tup [.ref q.2.1, q.2.2]) ∧ H q.2.1 = some (.tup (q.1.map kV))
theorem alike_of {pins : List (Addr × Obj)} {σ : L2.St} {H : Hp} {s : Shared} (I : Inv X pins σ H s) : ∀ {ps : List Addr} {kvs : List T3V}, PairsAt X.K H ps kvs →
    ∃ prs : List E3, Alike kvs prs ∧ prs.length = ps.length ∧ ∀ (j : Nat) (q : E3), prs[j]? = some q → KeyOf X.prog X.w s.heap.objs.size s.heap q ∧ ∃ b : Addr, (ps.map Value.ref)[j]? = some (.ref b) ∧ b < s.heap.objs.size ∧ IsTup s.heap b #[.ref q.2.1, q.2.2]
  | _, _, .nil => ⟨[], .nil, rfl, fun j q e => by simp at e⟩
  | _, _, .cons (a := p) (b := kv) h t => by
    obtain ⟨prs, al, hl, hp⟩ := alike_of I t
    obtain ⟨its, rv, tp, _⟩ := I.tuple (SqT.of h.1)
    obtain ⟨u, y, ei, ru, ry⟩ := vals2 rv
    subst ei
    cases (show u = Value.ref kv.2.1 from ru)
    have kk := key_of I.hok h.2
    refine ⟨(kv.1, kv.2.1, y) :: prs, .cons ⟨rfl, rfl, ry⟩ al, by rw [List.length_cons, List.length_cons, hl], fun j q e => ?_⟩
    cases j with
    | zero =>
      cases e
      obtain ⟨o, _, _, ho, _⟩ := id (show IsTupleKey (mixKind X.prog X.w) s.heap kv.1 kv.2.1 from kk)
      exact ⟨⟨Heap.lt_size ho, kk⟩, p, rfl, tp.lt, tp⟩
    | succ j => exact hp j q e
theorem call_dictT (hc : X.calm = true) (hu : X.A.units + 2 < cLine) : CallR X (.type "dict") (fun xs H Q => ∃ (a : Addr) (ps : List Addr) (kvs : List T3V), xs = [.ref a] ∧ H a = some (.lst (ps.map V.ref)) ∧ PairsAt X.K H ps kvs ∧
    ∀ p, H p = none → Q (.ref p) (upd H p (.dT (mergeT [] kvs)))) := by
  intro pins s σ H xs us Q I r q
  obtain ⟨a, ps, kvs, rfl, ea, hp, q⟩ := q
  obtain ⟨u, rfl, rx⟩ := vals1 r
  cases rx
  obtain ⟨its, rv, pl, hz⟩ := I.list (SqL.of ea)
  have ei := refs_at rv
  subst ei
  rw [List.length_map] at hz
  obtain ⟨prs, al, hl, hpr⟩ := alike_of I hp
  obtain ⟨o, n, ho, hcl, hd, hdat⟩ := pl
  refine dict_of_pairs (prs := prs) (I.ok.hd hc) hu ho hcl hd hdat (by simp [hl]) (by rw [hl]; exact hz) (fun j q' e => ?_) fun h' tk d' b' => ?_
  · obtain ⟨k, b, e1, r⟩ := hpr j q' e
    exact ⟨k, b, by simpa using e1, r⟩
  · have nf := I.hok.fresh (Nat.le_refl s.heap.objs.size)
    have hm : (s.heap.objs.size == sysModules) = false := beq_eq_false_iff_ne.mpr (Nat.ne_of_gt I.big)
    have ln : (mergeT [] kvs).length ≤ sizeLine := by
      refine Nat.le_trans (mergeT_le kvs []) ?_
      rw [List.length_nil, Nat.zero_add, al.length, hl]
      exact hz
    obtain ⟨ob, es, ep, g1, g2, g3, g4, _, g5⟩ := d'
    have keys : ∀ {ps : List Addr} {kvs : List T3V}, PairsAt X.K H ps kvs → ∀ p ∈ kvs, H p.2.1 = some (.tup (p.1.map kV)) := by
      intro ps kvs h
      induction h with
      | nil => exact fun p m => nomatch m
      | cons hq _ ih =>
        intro p m
        rcases List.mem_cons.mp m with rfl | m
        · exact hq.2
        · exact ih p m
    have kt : KT H (mergeT [] kvs) (fillH [] prs) := kt_merge al (keys hp) .nil
    refine ⟨.ref s.heap.objs.size, upd H s.heap.objs.size (.dT (mergeT [] kvs)), I.laid (t' := tk) (fun b o e => b' b o (Heap.lt_size e) e) (Nat.le_refl _) (show ObjOk X.prog X.w _ _ _ (.dT (mergeT [] kvs)) from ⟨ln, hm, _, kt.keeps fun c ys ec => ?_, ob, es, ep, g1, g2, g3, g4, g5⟩), rfl, q _ nf⟩
    rw [upd_ne (fun z => by rw [z, nf] at ec; cases ec)]
    exact ec
end
end HopT

set_option linter.all false
namespace HopR
open PySem L2
theorem mir_mir (bs : List Bool) : mir (mir bs) = bs := by
  unfold mir
  rw [← List.map_reverse, List.reverse_reverse, List.map_map]
  have e : ((fun x => !x) ∘ fun x => !x) = (id : Bool → Bool) := by
    funext b
    cases b <;> rfl
  rw [e, List.map_id]
theorem ends_get (bs : List Bool) (k : Nat) (h : k ≤ bs.length) : opn bs k = (((ends bs)[k]?.getD false) && !((ends bs)[k + 1]?.getD true)) := by
  have hl := ends_len bs
  have e1 : (ends bs)[k]? = some (ends bs)[k] := List.getElem?_eq_getElem (by omega)
  have e2 : (ends bs)[k + 1]? = some (ends bs)[k + 1] := List.getElem?_eq_getElem (by omega)
  have e3 : ((ends bs).drop k).take 2 = [(ends bs)[k], (ends bs)[k + 1]] := by
    rw [List.drop_eq_getElem_cons (by omega), List.drop_eq_getElem_cons (by omega)]
    rfl
  unfold opn
  rw [e3, e1, e2]
  show decide ([(ends bs)[k], (ends bs)[k + 1]] = [true, false]) = ((ends bs)[k] && !(ends bs)[k + 1])
  cases (ends bs)[k] <;> cases (ends bs)[k + 1] <;> rfl
theorem ends_mir (bs : List Bool) : ends (mir bs) = mir (ends bs) := by
  unfold ends mir
  simp
theorem mir_get {l : List Bool} {k : Nat} (h : k < l.length) : (mir l)[k]? = some (!(l[l.length - 1 - k]'(by omega))) := by
  unfold mir
  rw [List.getElem?_map, List.getElem?_reverse h, List.getElem?_eq_getElem (by omega)]
  rfl
theorem opn_mir {bs : List Bool} {k : Nat} (h : k ≤ bs.length) : opn (mir bs) k = opn bs (bs.length - k) := by
  have hl := ends_len bs
  rw [ends_get (mir bs) k (by rw [mir_len]; exact h), ends_get bs (bs.length - k) (by omega), ends_mir, mir_get (by omega), mir_get (by omega)]
  have e1 : (ends bs)[bs.length - k]? = some ((ends bs)[bs.length - k]'(by omega)) := List.getElem?_eq_getElem (by omega)
  have e2 : (ends bs)[bs.length - k + 1]? = some ((ends bs)[bs.length - k + 1]'(by omega)) := List.getElem?_eq_getElem (by omega)
  rw [e1, e2]
  have i1 : (ends bs).length - 1 - k = bs.length - k + 1 := by omega
  have i2 : (ends bs).length - 1 - (k + 1) = bs.length - k := by omega
  simp only [i1, i2, Option.getD_some]
  cases (ends bs)[bs.length - k]'(by omega) <;> cases (ends bs)[bs.length - k + 1]'(by omega) <;> rfl
theorem range_rev (n : Nat) : (List.range (n + 1)).map (fun k => n - k) = (List.range (n + 1)).reverse := by
  apply List.ext_getElem
  · simp
  · intro i h1 h2
    rw [List.getElem_map, List.getElem_reverse, List.getElem_range, List.getElem_range, List.length_range]
    omega
theorem walls_mir (bs : List Bool) : walls (mir bs) = ((walls bs).map (fun k => bs.length - k)).reverse := by
  unfold walls
  rw [mir_len]
  have e : (List.range (bs.length + 1)).filter (opn (mir bs)) = (List.range (bs.length + 1)).filter (fun k => opn bs (bs.length - k)) := by
    apply List.filter_congr
    intro k hk
    exact opn_mir (by have := List.mem_range.mp hk; omega)
  rw [e, ← List.map_reverse, ← List.filter_reverse, ← range_rev, List.filter_map, List.map_map]
  have e2 : (List.range (bs.length + 1)).filter (opn bs ∘ fun k => bs.length - k) = (List.range (bs.length + 1)).filter (fun k => opn bs (bs.length - k)) := rfl
  rw [e2]
  conv => lhs; rw [← List.map_id ((List.range (bs.length + 1)).filter fun k => opn bs (bs.length - k))]
  apply List.map_congr_left
  intro k hk
  have := List.mem_range.mp (List.mem_filter.mp hk).1
  show k = bs.length - (bs.length - k)
  omega
theorem mir_app (as bs : List Bool) : mir (as ++ bs) = mir bs ++ mir as := by
  unfold mir
  rw [List.reverse_append, List.map_append]
theorem mir_take (l : List Bool) (k : Nat) (h : k ≤ l.length) : mir (l.take k) = (mir l).drop (l.length - k) := by
  have e := mir_app (l.take k) (l.drop k)
  rw [List.take_append_drop] at e
  rw [e, List.drop_append_of_le_length (by rw [mir_len, List.length_drop]; exact Nat.le_refl _), List.drop_of_length_le (by rw [mir_len, List.length_drop]; exact Nat.le_refl _), List.nil_append]
theorem mir_drop (l : List Bool) (k : Nat) (h : k ≤ l.length) : mir (l.drop k) = (mir l).take (l.length - k) := by
  have e := mir_app (l.take k) (l.drop k)
  rw [List.take_append_drop] at e
  rw [e, List.take_append_of_le_length (by rw [mir_len, List.length_drop]; exact Nat.le_refl _), List.take_of_length_le (by rw [mir_len, List.length_drop]; exact Nat.le_refl _)]
theorem bhd_mir {bs : List Bool} {k : Nat} (h : k ≤ bs.length) : mir (bhd bs k) = bhd (mir bs) (bs.length - k) := by
  have hl := ends_len bs
  unfold bhd
  rw [mir_app, mir_app, mir_app, mir_drop _ _ (by omega), mir_take _ _ (by omega), ends_mir, hl]
  have e1 : bs.length + 2 - (k + 2) = bs.length - k := by omega
  have e2 : bs.length + 2 - k = bs.length - k + 2 := by omega
  rw [e1, e2]
  show (mir (ends bs)).take (bs.length - k) ++ ([false] ++ ([true] ++ (mir (ends bs)).drop (bs.length - k + 2))) = _
  rw [List.append_assoc, List.append_assoc]
theorem chg_mir {bs : List Bool} {k : Nat} (h : k ≤ bs.length) : mir (chg bs k) = chg (mir bs) (bs.length - k) := by
  have hb := bhd_len h
  have hb2 : (bhd (mir bs) (bs.length - k)).length = bs.length + 2 := by
    rw [← bhd_mir h, mir_len, hb]
  unfold chg
  rw [mir_take _ _ (by rw [List.length_drop]; omega), mir_drop _ _ (by omega), List.length_drop, hb, hb2, bhd_mir h]
  have e1 : bs.length + 2 - 1 - (bs.length + 2 - 2) = 1 := by omega
  have e2 : bs.length + 2 - 1 = bs.length + 1 := by omega
  rw [e1, e2, List.drop_take]
  rfl
theorem num_snoc (bs : List Bool) (b : Bool) : num (bs ++ [b]) = num bs * 2 + (if b then 1 else 0) := by
  unfold num
  rw [List.foldl_append]
  rfl
theorem num_not (n : Nat) : ∀ bs : List Bool, bs.length = n → num bs + num (bs.map (!·)) = 2 ^ bs.length - 1 := by
  induction n with
  | zero =>
    intro bs h
    have : bs = [] := List.length_eq_zero_iff.mp h
    subst this
    rfl
  | succ n ih =>
    intro bs h
    have hne : bs ≠ [] := by
      intro e
      rw [e] at h
      cases h
    obtain ⟨as, b, rfl⟩ : ∃ as b, bs = as ++ [b] := ⟨bs.dropLast, bs.getLast hne, (List.dropLast_concat_getLast hne).symm⟩
    have hl : as.length = n := by
      rw [List.length_append] at h
      simpa using h
    have := ih as hl
    rw [List.map_append, List.map_cons, List.map_nil, num_snoc, num_snoc, List.length_append]
    show num as * 2 + _ + (num (as.map (!·)) * 2 + _) = 2 ^ (as.length + 1) - 1
    rw [Int.pow_succ]
    cases b with
    | true =>
      show num as * 2 + 1 + (num (as.map (!·)) * 2 + 0) = 2 ^ as.length * 2 - 1
      omega
    | false =>
      show num as * 2 + 0 + (num (as.map (!·)) * 2 + 1) = 2 ^ as.length * 2 - 1
      omega
theorem num_mir (bs : List Bool) : num bs + num (mir bs).reverse = 2 ^ bs.length - 1 := by
  have e : (mir bs).reverse = bs.map (!·) := by
    unfold mir
    rw [← List.map_reverse, List.reverse_reverse]
  rw [e]
  exact num_not _ bs rfl
theorem walls_ne (bs : List Bool) : walls bs ≠ [] := by
  -- the first place of a free one, or the last wall
  have key : ∃ k, k ≤ bs.length ∧ opn bs k = true := by
    have h : ∀ (l : List Bool), l ≠ [] → l.head? = some true → l.getLast? = some false → ∃ k, k + 1 < l.length ∧ l[k]? = some true ∧ l[k + 1]? = some false := by
      intro l
      induction l with
      | nil => intro h; exact absurd rfl h
      | cons a r ih =>
        intro _ h1 h2
        have ea : a = true := Option.some.inj h1
        subst ea
        cases r with
        | nil =>
          have : true = false := Option.some.inj h2
          cases this
        | cons b q =>
          cases b with
          | false => exact ⟨0, by simp, rfl, rfl⟩
          | true =>
            obtain ⟨k, g1, g2, g3⟩ := ih (by simp) rfl (by rw [List.getLast?_cons_cons] at h2; exact h2)
            exact ⟨k + 1, by simpa using g1, by simpa using g2, by simpa using g3⟩
    obtain ⟨k, g1, g2, g3⟩ := h (ends bs) (by unfold ends; simp) rfl (by unfold ends; rw [List.getLast?_cons]; simp)
    have hl := ends_len bs
    refine ⟨k, by omega, ?_⟩
    rw [ends_get bs k (by omega), g2, g3]
    rfl
  obtain ⟨k, h1, h2⟩ := key
  exact List.ne_nil_of_mem (mem_walls.mpr ⟨h1, h2⟩)
end HopR

set_option Elab.async false
set_option linter.all false
set_option maxRecDepth 100000
namespace HopH
open PySem PySem.Spec PyProof.Rows L2 HopR HopT TL
/-! ### a heap in the mirror -/
def mt3 (n : Nat) (e : HopH.T3) : HopH.T3 := (n - 1 - e.2.1, n - 1 - e.1, !e.2.2)
def mtI (m : Int) (e : I3) : I3 := (m - e.2.1, m - e.1, !e.2.2)
theorem mtI_mtI (m : Int) (e : I3) : mtI m (mtI m e) = e := by
  obtain ⟨a, b, s⟩ := e
  unfold mtI
  have h1 : m - (m - a) = a := by omega
  have h2 : m - (m - b) = b := by omega
  show ((m - (m - a), m - (m - b), !!s) : I3) = _
  rw [h1, h2, Bool.not_not]
theorem mir_at {bs : List Bool} {k : Nat} (h : k < bs.length) : (mir bs)[k]? = (bs[bs.length - 1 - k]?).map (!·) := by
  rw [mir_get h, List.getElem?_eq_getElem]
  rfl
theorem mir_val {bs : List Bool} {k : Nat} {v : Bool} (h : k < bs.length) : (mir bs)[k]? = some v ↔ bs[bs.length - 1 - k]? = some (!v) := by
  rw [mir_at h]
  cases bs[bs.length - 1 - k]? with
  | none => simp
  | some x => cases x <;> cases v <;> simp
theorem mem_mir {bs : List Bool} {R : List HopH.T3} (h : Heaped bs (List.range bs.length) R) {x y : Nat} {s : Bool} (hx : x < bs.length) (hy : y < bs.length) : (x, y, s) ∈ R.map (mt3 bs.length) ↔ (bs.length - 1 - y, bs.length - 1 - x, !s) ∈ R := by
  rw [List.mem_map]
  constructor
  · rintro ⟨⟨b, f, t⟩, m, e⟩
    obtain ⟨hb, hf, _⟩ := h.inn _ _ _ m
    have hb := List.mem_range.mp hb
    have hf := List.mem_range.mp hf
    unfold mt3 at e
    injection e with e1 e2
    injection e2 with e2 e3
    have e1 : bs.length - 1 - f = x := e1
    have e2 : bs.length - 1 - b = y := e2
    have e3 : (!t) = s := e3
    have a1 : bs.length - 1 - y = b := by omega
    have a2 : bs.length - 1 - x = f := by omega
    rw [a1, a2, ← e3, Bool.not_not]
    exact m
  · intro m
    refine ⟨_, m, ?_⟩
    unfold mt3
    have a1 : bs.length - 1 - (bs.length - 1 - x) = x := by omega
    have a2 : bs.length - 1 - (bs.length - 1 - y) = y := by omega
    show (bs.length - 1 - (bs.length - 1 - x), bs.length - 1 - (bs.length - 1 - y), !!s) = _
    rw [a1, a2, Bool.not_not]
theorem mt3_lt {bs : List Bool} {R : List HopH.T3} (h : Heaped bs (List.range bs.length) R) {x y : Nat} {s : Bool} (m : (x, y, s) ∈ R.map (mt3 bs.length)) : x < bs.length ∧ y < bs.length := by
  obtain ⟨⟨b, f, t⟩, m, e⟩ := List.mem_map.mp m
  obtain ⟨hb, hf, _⟩ := h.inn _ _ _ m
  have hb := List.mem_range.mp hb
  have hf := List.mem_range.mp hf
  unfold mt3 at e
  injection e with e1 e2
  injection e2 with e2 e3
  have e1 : bs.length - 1 - f = x := e1
  have e2 : bs.length - 1 - b = y := e2
  omega
theorem heaped_mir {bs : List Bool} {R : List HopH.T3} (h : Heaped bs (List.range bs.length) R) : Heaped (mir bs) (List.range bs.length) (R.map (mt3 bs.length)) := by
  refine ⟨fun b f s m => ?_, ?_, fun b f hb hf l h1 h2 => ?_⟩
  · obtain ⟨xl, yl⟩ := mt3_lt h m
    obtain ⟨hb, hf, l, v1, v2⟩ := h.inn _ _ _ ((mem_mir h xl yl).mp m)
    refine ⟨List.mem_range.mpr xl, List.mem_range.mpr yl, by omega, (mir_val xl).mpr v2, (mir_val yl).mpr v1⟩
  · rw [List.map_map]
    have e : R.map ((fun e : HopH.T3 => (e.1, e.2.1)) ∘ mt3 bs.length) = (R.map fun e : HopH.T3 => (e.1, e.2.1)).map fun c : Nat × Nat => (bs.length - 1 - c.2, bs.length - 1 - c.1) := by
      rw [List.map_map]
      rfl
    rw [e]
    refine List.pairwise_map.mpr ?_
    have nd : (R.map fun e : HopH.T3 => (e.1, e.2.1)).Pairwise (· ≠ ·) := h.nd
    refine (List.pairwise_iff_forall_sublist).mpr fun {x y} sl => ?_
    have ne := (List.pairwise_iff_forall_sublist).mp nd sl
    have mx : x ∈ R.map fun e : HopH.T3 => (e.1, e.2.1) := sl.subset (List.mem_cons_self ..)
    have my : y ∈ R.map fun e : HopH.T3 => (e.1, e.2.1) := sl.subset (List.mem_cons_of_mem _ (List.mem_cons_self ..))
    obtain ⟨x1, x2⟩ := x
    obtain ⟨y1, y2⟩ := y
    obtain ⟨s, mx⟩ := pair_mem.mp mx
    obtain ⟨t, my⟩ := pair_mem.mp my
    obtain ⟨a1, a2, _⟩ := h.inn _ _ _ mx
    obtain ⟨b1, b2, _⟩ := h.inn _ _ _ my
    have a1 := List.mem_range.mp a1
    have a2 := List.mem_range.mp a2
    have b1 := List.mem_range.mp b1
    have b2 := List.mem_range.mp b2
    intro z
    injection z with z1 z2
    have z1 : bs.length - 1 - x2 = bs.length - 1 - y2 := z1
    have z2 : bs.length - 1 - x1 = bs.length - 1 - y1 := z2
    exact ne (by rw [show x1 = y1 by omega, show x2 = y2 by omega])
  · have bl := List.mem_range.mp hb
    have fl := List.mem_range.mp hf
    have v1 := (mir_val bl).mp h1
    have v2 := (mir_val fl).mp h2
    have hh := h.has (bs.length - 1 - f) (bs.length - 1 - b) (List.mem_range.mpr (by omega)) (List.mem_range.mpr (by omega)) (by omega) v2 v1
    constructor
    · rintro ⟨s, m⟩ k hk k1 k2
      have kl := List.mem_range.mp hk
      have q := hh.mp ⟨_, (mem_mir h bl fl).mp m⟩ (bs.length - 1 - k) (List.mem_range.mpr (by omega)) (by omega) (by omega)
      exact ⟨fun z => q.2 ((mem_mir h kl fl).mp z), fun z => q.1 ((mem_mir h bl kl).mp z)⟩
    · intro q
      obtain ⟨s, m⟩ := hh.mpr fun k hk k1 k2 => by
        have kl := List.mem_range.mp hk
        have kl' : bs.length - 1 - k < bs.length := by omega
        have z := q (bs.length - 1 - k) (List.mem_range.mpr kl') (by omega) (by omega)
        rw [mem_mir h kl' fl, mem_mir h bl kl', show bs.length - 1 - (bs.length - 1 - k) = k by omega] at z
        exact ⟨z.2, z.1⟩
      refine ⟨!s, (mem_mir h bl fl).mpr ?_⟩
      rw [Bool.not_not]
      exact m
theorem c3_mir {bs : List Bool} {R : List HopH.T3} (h : Heaped bs (List.range bs.length) R) : (R.map c3).map (mtI ((bs.length : Int) - 1)) = (R.map (mt3 bs.length)).map c3 := by
  rw [List.map_map, List.map_map]
  refine List.map_congr_left fun e m => ?_
  obtain ⟨b, f, s⟩ := e
  obtain ⟨hb, hf, _⟩ := h.inn _ _ _ m
  have hb := List.mem_range.mp hb
  have hf := List.mem_range.mp hf
  show (((bs.length : Int) - 1 - (f : Int), (bs.length : Int) - 1 - (b : Int), !s) : I3) = (((bs.length - 1 - f : Nat) : Int), ((bs.length - 1 - b : Nat) : Int), !s)
  rw [show ((bs.length - 1 - f : Nat) : Int) = (bs.length : Int) - 1 - (f : Int) by omega, show ((bs.length - 1 - b : Nat) : Int) = (bs.length : Int) - 1 - (b : Int) by omega]
/-- sorted, the mirrored ones are a heap in the mirror -/
theorem mir_heap {bs : List Bool} {ts l : List I3} (h : HeapL bs ts) (p : l.Perm (ts.map (mtI ((bs.length : Int) - 1)))) (so : l.Pairwise fun x y => lexK (k3 y) (k3 x) = false) : HeapL (mir bs) l := by
  obtain ⟨R, hR, pR, _, ln⟩ := h
  have hm := heaped_mir hR
  have q : l.Perm ((R.map (mt3 bs.length)).map c3) := by
    rw [← c3_mir hR]
    exact p.trans (pR.map _)
  refine ⟨R.map (mt3 bs.length), by rw [mir_len]; exact hm, q, sorted_pairs hm.nd q so, ?_⟩
  rw [p.length_eq, List.length_map]
  exact ln
theorem HeapL.one {bs cs : List Bool} {ts us : List I3} (h : HeapL bs ts) (g : HeapL cs us) (p : ts.Perm us) : ts = us := by
  obtain ⟨_, _, _, so, _⟩ := h
  obtain ⟨_, _, _, so', _⟩ := g
  refine same_sorted (lt := fun x y => ltP2 (pr3 x) (pr3 y)) (fun x h => ?_) (fun x y h1 h2 => ?_) (List.pairwise_map.mp so) (List.pairwise_map.mp so') fun x => p.mem_iff
  · unfold ltP2 at h; omega
  · unfold ltP2 at h1 h2; omega
theorem mir_back {m : Int} {ts us vs : List I3} (p : us.Perm (ts.map (mtI m))) (q : vs.Perm (us.map (mtI m))) : vs.Perm ts := by
  have e : (ts.map (mtI m)).map (mtI m) = ts := by
    rw [List.map_map]
    exact (List.map_congr_left fun e _ => mtI_mtI m e).trans (List.map_id _)
  have := q.trans (p.map (mtI m))
  rw [e] at this
  exact this
/-! ### a heap from left to right -/
theorem by_step {bs : List Bool} {S l1 l2 : List Nat} {R : List HopH.T3} {b f : Nat} (so : (l1 ++ b :: f :: l2).Pairwise (· < ·)) (h1 : bs[b]? = some true) (h2 : bs[f]? = some false) (good : ∀ R', Heaped bs (l1 ++ b :: f :: l2) R' → Heaped bs S (R ++ R')) :
    (∀ R', Heaped bs (l1 ++ b :: l2) R' → Heaped bs S ((R ++ [(b, f, true)]) ++ R')) ∧ (∀ R', Heaped bs (l1 ++ f :: l2) R' → Heaped bs S ((R ++ [(b, f, false)]) ++ R')) := by
  have g1 : (l1 ++ b :: f :: l2)[l1.length]? = some b := by rw [List.getElem?_append_right (Nat.le_refl _), Nat.sub_self]; rfl
  have g2 : (l1 ++ b :: f :: l2)[l1.length + 1]? = some f := by rw [List.getElem?_append_right (Nat.le_add_right l1.length 1), Nat.add_sub_cancel_left]; rfl
  have st := fun s => step_heap so g1 g2 h1 h2 s good
  have e1 : (l1 ++ b :: f :: l2).eraseIdx (l1.length + 1) = l1 ++ b :: l2 := by
    rw [List.eraseIdx_append_of_length_le (Nat.le_add_right l1.length 1), Nat.add_sub_cancel_left]; rfl
  have e2 : (l1 ++ b :: f :: l2).eraseIdx l1.length = l1 ++ f :: l2 := by
    rw [List.eraseIdx_append_of_length_le (Nat.le_refl _), Nat.sub_self]; rfl
  have s1 := st true
  have s2 := st false
  rw [if_pos rfl, e1] at s1
  rw [if_neg (by decide), e2] at s2
  exact ⟨s1, s2⟩
theorem by_end {bs : List Bool} {F B : List Nat} (so : (F ++ B).Pairwise (· < ·)) (hF : ∀ x ∈ F, bs[x]? = some false) (hB : ∀ x ∈ B, bs[x]? = some true) : Heaped bs (F ++ B) [] := by
  refine heaped_nil fun b f hb hf l h1 h2 => ?_
  have mb : b ∈ B := by
    rcases List.mem_append.mp hb with m | m
    · rw [hF b m] at h1; cases h1
    · exact m
  have mf : f ∈ F := by
    rcases List.mem_append.mp hf with m | m
    · exact m
    · rw [hB f m] at h2; cases h2
  have := (List.pairwise_append.mp so).2.2 f mf b mb
  omega
/-! ### signs by cells -/
def sg (ts : List I3) (c : Int × Int) : Option Bool := (ts.find? fun e => decide (pr3 e = c)).map (·.2.2)
theorem sg_iff {ts : List I3} (nd : (ts.map pr3).Pairwise ltP2) {b f : Int} {s : Bool} : sg ts (b, f) = some s ↔ (b, f, s) ∈ ts := by
  unfold sg
  induction ts with
  | nil => simp
  | cons e ts ih =>
    rw [List.map_cons] at nd
    obtain ⟨h1, h2⟩ := List.pairwise_cons.mp nd
    obtain ⟨x, y, t⟩ := e
    rw [List.find?_cons]
    by_cases z : pr3 (x, y, t) = (b, f)
    · rw [decide_eq_true z]
      have zx : x = b ∧ y = f := by
        unfold pr3 at z
        injection z with z1 z2
        exact ⟨z1, z2⟩
      obtain ⟨rfl, rfl⟩ := zx
      constructor
      · intro q
        have q : t = s := Option.some.inj q
        rw [← q]
        exact List.mem_cons_self ..
      · intro m
        rcases List.mem_cons.mp m with q | m
        · injection q with _ q
          injection q with _ q
          rw [q]; rfl
        · have := h1 _ (List.mem_map.mpr ⟨_, m, rfl⟩)
          unfold ltP2 pr3 at this
          have : x < x ∨ x = x ∧ y < y := this
          omega
    · rw [decide_eq_false z]
      show _ ↔ _
      rw [ih h2]
      constructor
      · exact List.mem_cons_of_mem _
      · intro m
        rcases List.mem_cons.mp m with q | m
        · exact absurd (by rw [← q]; rfl) z
        · exact m
theorem sg_some {ts : List I3} (nd : (ts.map pr3).Pairwise ltP2) {b f : Int} : (sg ts (b, f)).isSome = true ↔ ∃ s, (b, f, s) ∈ ts := by
  cases h : sg ts (b, f) with
  | none =>
    refine ⟨fun z => (by cases z), fun ⟨s, m⟩ => ?_⟩
    rw [(sg_iff nd).mpr m] at h
    cases h
  | some s => exact ⟨fun _ => ⟨s, (sg_iff nd).mp h⟩, fun _ => rfl⟩
/-- of a heap: a cell has a sign just where nothing nearer uses it up -/
theorem cell_iff {bs : List Bool} {ts : List I3} (h : HeapL bs ts) {b f : Nat} (l : b < f) (h1 : bs[b]? = some true) (h2 : bs[f]? = some false) :
    (sg ts ((b : Int), (f : Int))).isSome = true ↔ ∀ k : Nat, b < k → k < f → sg ts ((k : Int), (f : Int)) ≠ some true ∧ sg ts ((b : Int), (k : Int)) ≠ some false := by
  obtain ⟨R, hR, p, so, _⟩ := h
  have fl : f < bs.length := (List.getElem?_eq_some_iff.mp h2).1
  have mem : ∀ {x y : Nat} {s : Bool}, (((x : Int), (y : Int), s) : I3) ∈ ts ↔ (x, y, s) ∈ R := fun {x y s} => by
    rw [p.mem_iff, List.mem_map]
    constructor
    · rintro ⟨⟨x', y', s'⟩, m, e⟩
      unfold c3 at e
      injection e with e1 e2
      injection e2 with e2 e3
      have e1 : (x' : Int) = (x : Int) := e1
      have e2 : (y' : Int) = (y : Int) := e2
      have e3 : s' = s := e3
      rw [← Int.ofNat.inj e1, ← Int.ofNat.inj e2, ← e3]
      exact m
    · exact fun m => ⟨_, m, rfl⟩
  rw [sg_some so]
  have hh := hR.has b f (List.mem_range.mpr (by omega)) (List.mem_range.mpr fl) l h1 h2
  constructor
  · rintro ⟨s, m⟩ k k1 k2
    have q := hh.mp ⟨s, mem.mp m⟩ k (List.mem_range.mpr (by omega)) k1 k2
    exact ⟨fun z => q.1 (mem.mp ((sg_iff so).mp z)), fun z => q.2 (mem.mp ((sg_iff so).mp z))⟩
  · intro q
    obtain ⟨s, m⟩ := hh.mpr fun k _ k1 k2 => ⟨fun z => (q k k1 k2).1 ((sg_iff so).mpr (mem.mpr z)), fun z => (q k k1 k2).2 ((sg_iff so).mpr (mem.mpr z))⟩
    exact ⟨s, mem.mpr m⟩
/-- who has a sign stands on a cell -/
theorem sg_cell {bs : List Bool} {ts : List I3} (h : HeapL bs ts) {b f : Nat} (hs : (sg ts ((b : Int), (f : Int))).isSome = true) : bs[b]? = some true ∧ bs[f]? = some false := by
  obtain ⟨R, hR, p, so, _⟩ := h
  obtain ⟨s, m⟩ := (sg_some so).mp hs
  obtain ⟨⟨x, y, t⟩, m, e⟩ := List.mem_map.mp (p.mem_iff.mp m)
  unfold c3 at e
  injection e with e1 e2
  injection e2 with e2 e3
  have e1 : (x : Int) = (b : Int) := e1
  have e2 : (y : Int) = (f : Int) := e2
  have := hR.inn _ _ _ m
  rw [← Int.ofNat.inj e1, ← Int.ofNat.inj e2]
  exact ⟨this.2.2.2.1, this.2.2.2.2⟩
/-! ### so many ahead of a cell -/
def ahd (ts : List I3) (b f : Int) : Nat := ts.countP fun e => decide (e.1 < b ∨ e.1 = b ∧ e.2.1 < f)
theorem ahd_step {ts : List I3} (so : (ts.map pr3).Pairwise ltP2) (b f : Int) : ahd ts b (f + 1) = ahd ts b f + (if (sg ts (b, f)).isSome = true then 1 else 0) := by
  unfold ahd
  induction ts with
  | nil => simp [sg]
  | cons e ts ih =>
    have so0 := so
    rw [List.map_cons] at so
    obtain ⟨h1, h2⟩ := List.pairwise_cons.mp so
    have ih := ih h2
    rw [List.countP_cons, List.countP_cons, ih]
    obtain ⟨x, y, t⟩ := e
    by_cases z : x = b ∧ y = f
    · obtain ⟨rfl, rfl⟩ := z
      have s1 : (sg ((x, y, t) :: ts) (x, y)).isSome = true := (sg_some so0).mpr ⟨t, List.mem_cons_self ..⟩
      have s2 : (sg ts (x, y)).isSome = false := by
        cases q : (sg ts (x, y)).isSome with
        | false => rfl
        | true =>
          obtain ⟨s, m⟩ := (sg_some h2).mp q
          have := h1 _ (List.mem_map.mpr ⟨_, m, rfl⟩)
          unfold ltP2 pr3 at this
          have : x < x ∨ x = x ∧ y < y := this
          omega
      rw [s1, s2, if_pos rfl, if_neg (by decide), if_pos (decide_eq_true (show x < x ∨ x = x ∧ y < y + 1 by omega)), if_neg (fun q => by have : x < x ∨ x = x ∧ y < y := of_decide_eq_true q; omega)]
    · have s1 : sg ((x, y, t) :: ts) (b, f) = sg ts (b, f) := by
        unfold sg
        rw [List.find?_cons, decide_eq_false (fun q => z (by unfold pr3 at q; injection q with q1 q2; exact ⟨q1, q2⟩))]
      rw [s1]
      have e : decide (x < b ∨ x = b ∧ y < f + 1) = decide (x < b ∨ x = b ∧ y < f) := by
        refine decide_eq_decide.mpr ?_
        constructor <;> intro q <;> omega
      show _ + _ + (if decide (x < b ∨ x = b ∧ y < f + 1) = true then 1 else 0) = _ + (if decide (x < b ∨ x = b ∧ y < f) = true then 1 else 0) + _
      rw [e]
      omega
theorem heap_in {bs : List Bool} {ts : List I3} (h : HeapL bs ts) {e : I3} (m : e ∈ ts) : 0 ≤ e.1 ∧ e.1 < e.2.1 ∧ e.2.1 < (bs.length : Int) := by
  obtain ⟨R, hR, p, _, _⟩ := h
  obtain ⟨⟨b, f, s⟩, m', rfl⟩ := List.mem_map.mp (p.mem_iff.mp m)
  obtain ⟨hb, hf, l, _⟩ := hR.inn _ _ _ m'
  have hf := List.mem_range.mp hf
  show 0 ≤ (b : Int) ∧ (b : Int) < (f : Int) ∧ (f : Int) < _
  omega
theorem countP_same {α : Type} {p q : α → Bool} : ∀ {l : List α}, (∀ x ∈ l, p x = q x) → l.countP p = l.countP q
  | [], _ => rfl
  | x :: l, h => by
    rw [List.countP_cons, List.countP_cons, h x (List.mem_cons_self ..), countP_same fun y m => h y (List.mem_cons_of_mem _ m)]
theorem ahd_row {bs : List Bool} {ts : List I3} (h : HeapL bs ts) (b : Int) : ahd ts b (bs.length : Int) = ahd ts (b + 1) (b + 2) := by
  unfold ahd
  refine countP_same fun e m => decide_eq_decide.mpr ?_
  have := heap_in h m
  constructor <;> intro q <;> omega
theorem ahd_start {bs : List Bool} {ts : List I3} (h : HeapL bs ts) : ahd ts 0 1 = 0 := by
  unfold ahd
  rw [List.countP_eq_zero]
  intro e m z
  have := heap_in h m
  have := of_decide_eq_true z
  omega
theorem ahd_end {bs : List Bool} {ts : List I3} (h : HeapL bs ts) (f : Int) : ahd ts (bs.length : Int) f = ts.length := by
  unfold ahd
  rw [List.countP_eq_length]
  intro e m
  have := heap_in h m
  exact decide_eq_true (by omega)
/-! ### the dict of signs -/
def kP (c : Int × Int) : List L2.Key := [.inl c.1, .inl c.2]
def sgK (ts : List I3) : List (List L2.Key × V) := ts.map fun e => (kP (pr3 e), V.str (tx [e.2.2]))
theorem kP_inj {c d : Int × Int} (h : kP c = kP d) : c = d := by
  obtain ⟨a, b⟩ := c
  obtain ⟨a', b'⟩ := d
  unfold kP at h
  injection h with h1 h2
  injection h2 with h2 _
  have h1 : a = a' := Sum.inl.inj h1
  have h2 : b = b' := Sum.inl.inj h2
  rw [h1, h2]
theorem valV_cons {κ : Type} [DecidableEq κ] (p : κ × V) (l : List (κ × V)) (k : κ) : valV (p :: l) k = if p.1 = k then some p.2 else valV l k := by
  unfold valV
  rw [List.find?_cons]
  by_cases z : p.1 = k
  · rw [if_pos z]; simp [z]
  · rw [if_neg z]; simp [z]
theorem val_sg (ts : List I3) (c : Int × Int) : valV (sgK ts) (kP c) = (sg ts c).map fun s => V.str (tx [s]) := by
  induction ts with
  | nil => rfl
  | cons e ts ih =>
    show valV ((kP (pr3 e), V.str (tx [e.2.2])) :: sgK ts) (kP c) = _
    rw [valV_cons]
    unfold sg
    rw [List.find?_cons]
    by_cases z : pr3 e = c
    · rw [if_pos (by rw [z]), decide_eq_true z]; rfl
    · rw [if_neg (fun q => z (kP_inj q)), decide_eq_false z, ih]; rfl
theorem merge_new : ∀ (more : List T3V) (kvs : List (List L2.Key × V)), (kvs.map (·.1) ++ more.map (·.1)).Nodup → mergeT kvs more = kvs ++ more.map fun q => (q.1, q.2.2)
  | [], kvs, _ => by rw [List.map_nil, List.append_nil]; rfl
  | q :: r, kvs, nd => by
    show mergeT (putK kvs q.1 q.2.2) r = _
    have no : (kvs.any fun kv => decide (kv.1 = q.1)) = false := by
      rw [List.any_eq_false]
      intro x mx z
      have z := of_decide_eq_true z
      exact (List.nodup_append.mp nd).2.2 _ (List.mem_map.mpr ⟨x, mx, rfl⟩) q.1 (List.mem_cons_self ..) z
    have e : putK kvs q.1 q.2.2 = kvs ++ [(q.1, q.2.2)] := by
      unfold putK
      rw [no, if_neg (by decide)]
    rw [e, merge_new r]
    · rw [List.append_assoc]; rfl
    · rw [List.map_append, List.append_assoc]
      exact nd
end HopH

set_option Elab.async false
set_option linter.all false
set_option maxRecDepth 100000
set_option exponentiation.threshold 200000
namespace Hop
open PySem L2 HopR HopT HopH
section
variable {P : Program} {w : World} {K : PySem.W.Frag} {mg : Str → Option Value} {base : Heap} {C d : Addr} {es : Array DictEntry} {n : Nat}
theorem scDrawn : FnScope ["_law_cell", "_law_sizes", "_law_found", "_law_left", "_law_k", "_law_small_here", "_law_one", "_law_two"] ["_law_cell", "_law_sizes"] (defScope sDrawn) := ⟨rfl, rfl, rfl, by decide +kernel, rfl, by decide +kernel, by decide +kernel⟩
theorem ok_drawn {f : Addr} {fd : FuncData} {k : Nat} (F : Fun K "_law_drawn" "_law_drawn" sDrawn f fd) (mL : mg "len" = none) (mR : mg "range" = none) : FnOk P w K mg base CX0 (k + 1) f fd ["_law_cell", "_law_sizes"] (spDrawn K) := by
  refine F.ok scDrawn (fun vs H Q E h => ?_) (fun cdv A outer s H vs Q E hr h => ?_)
  · obtain ⟨c, a, zs, rfl, _⟩ := h
    rfl
  · obtain ⟨c, a, zs, rfl, hS, hz, hlen, q⟩ := h
    have nd := scDrawn.nd
    refine ⟨_, pss_cons (ps_set (i := 2) nd rfl (.inl rfl) (pe_lst pa_nil))
      (pss_cons (ps_set (i := 3) nd rfl (.inl rfl) (pv 0))
      (pss_cons (ps_for PassesOwn.never rfl (pi_range1 (by rfl) mR (pa_cons (pe_callB call_len_seq (by rfl) mL PySem.boot_len (pa_cons (pv 1) pa_nil)) pa_nil)) (pg_name (i := 4) nd rfl (.inl rfl))
        (pss_one (ps_if (pt_cmpR op_ge (pv 3) (pe_op op_pow pe_int pe_int) (nomark _))
          (pss_cons (ps_expr (pe_bm PySem.F.plainAttrs_list PySem.F.slot_list_append PySem.F.type_list_append mt_append (pv 2) (pa_cons (pe_op op_mod (pv 3) (pe_ix ix_list (pv 1) (pv 4) (fun _ _ => rfl))) pa_nil)))
            (pss_one (ps_set (i := 3) nd rfl (.inl rfl) (pe_op op_fdivW (pv 3) (pe_ix ix_list (pv 1) (pv 4) (fun _ _ => rfl))))))
          (pss_cons (ps_set (i := 5) nd rfl (.inl rfl) (pe_op op_mod (pv 3) (pe_op op_pow pe_int pe_int)))
          (pss_cons (ps_set (i := 6) nd rfl (.inl rfl) (pe_op op_mod (pe_op op_mul (pe_op op_add (pe_op op_add (pv 5) (pe_op op_mul pe_int (pv 4))) pe_int) (pe_op op_add pe_int (pe_op op_mul (pe_op op_mul pe_int (pv 4)) (pv 4)))) pe_int))
          (pss_cons (ps_set (i := 7) nd rfl (.inl rfl) (pe_op op_mod (pe_op op_mul (pe_op op_add (pe_op op_add (pe_op op_fdiv (pv 5) pe_int) (pe_op op_mul pe_int (pv 4))) pe_int) (pe_op op_add pe_int (pe_op op_mul pe_int (pv 4)))) pe_int))
          (pss_one (ps_expr (pe_bm PySem.F.plainAttrs_list PySem.F.slot_list_append PySem.F.type_list_append mt_append (pv 2) (pa_cons (pe_op op_mod (pe_op op_add (pe_op op_mul (pv 6) (pv 7)) (pe_op op_fdiv (pv 6) pe_int)) (pe_ix ix_list (pv 1) (pv 4) (fun _ _ => rfl))) pa_nil))))))))))
      (pss_one (ps_ret (pv 2))))), ?_⟩
    -- found = []; left = cell
    refine ⟨Nat.zero_le _, fun o no => ?_⟩
    have s1 : Same H (upd H o (.lst [])) := same_upd no
    refine ⟨.int c, rfl, .ref a, rfl, a, zs.map V.int, rfl, .inl (s1.seq hS), ((zs.map V.int).length : Int), rfl, by omega, (by rw [List.length_map]; omega), ?_⟩
    refine for_range (lo := 0) (n := zs.length) (fun i σ H3 => ∃ (l : Int) (y4 y5 y6 y7 : Option V) (ds : List Int), σ = [some (.int c), some (.ref a), some (.ref o), some (.int l), y4, y5, y6, y7] ∧
        Same H H3 ∧ H3 o = some (.lst (ds.map V.int)) ∧ ds.length = i ∧ ds ++ draws l i (zs.drop i) = draws c 0 zs)
      ⟨c, none, none, none, none, [], rfl, s1, upd_same, rfl, by simp⟩ ?_ ?_ |> (fun h => by rw [List.length_map]; exact h)
    · rintro i σ H3 hi ⟨l, y4, y5, y6, y7, ds, rfl, sm, eo, el, ed⟩
      have hA : SqL K H3 a (zs.map V.int) := sm.seq hS
      have hz1 := hz zs[i] (List.getElem_mem hi)
      have gz : zs[i]? = some zs[i] := List.getElem?_eq_getElem hi
      have g : atI (zs.map V.int) (i : Int) = some (.int zs[i]) := atI_nat (by rw [List.getElem?_map, gz]; rfl)
      have hd : zs.drop i = zs[i] :: zs.drop (i + 1) := List.drop_eq_getElem_cons hi
      rw [hd] at ed
      have ed' : (ds ++ [dval l i zs[i]]) ++ draws (dleft l zs[i]) (i + 1) (zs.drop (i + 1)) = draws c 0 zs := by
        rw [List.append_assoc]
        exact ed
      have small : (ds.map V.int).length < sizeLine := by
        rw [List.length_map]
        exact small1000 (by omega)
      rw [Int.zero_add]
      refine ⟨.int l, rfl, 10, 18, rfl, rfl, ⟨by decide, by decide, by decide⟩, l, 10 ^ 18, rfl, rfl, _, rfl, ite2 (fun e => ?_) (fun e => ?_)⟩
      · have e : (1000000000000000000 : Int) ≤ l := of_decide_eq_true e
        refine ⟨.ref o, rfl, .inl ⟨rfl, _, SqL.of eo⟩, .int l, rfl, .ref a, rfl, .int (i : Int), rfl, a, _, _, _, rfl, rfl, hA, g, l, zs[i], rfl, rfl, hz1.1, o, _, _, rfl, rfl, eo, small, ?_⟩
        have e1 : dval l i zs[i] = l % zs[i] := by
          unfold dval
          rw [if_pos e]
        have e2 : dleft l zs[i] = l / zs[i] := by
          unfold dleft
          rw [if_pos e]
        have sm2 : Same H (upd H3 o (.lst (ds.map V.int ++ [.int (l % zs[i])]))) := same_new no sm
        refine ⟨.int l, rfl, .ref a, rfl, .int (i : Int), rfl, a, _, _, _, rfl, rfl, sm2.seq hS, g, l, zs[i], rfl, rfl, wide_div hz1.1 (b := 64) (by have := hz1.2; have := hz1.1; omega) (by decide) (by decide), ?_⟩
        refine ⟨_, _, _, _, _, ds ++ [dval l i zs[i]], rfl, sm2, ?_, ?_, ?_⟩
        · rw [upd_same, e1, List.map_append]
          rfl
        · rw [List.length_append, el]
          rfl
        · rw [← e2]
          exact ed'
      · have e : ¬ (1000000000000000000 : Int) ≤ l := fun z => e (decide_eq_true z)
        have e2 : dleft l zs[i] = l := by
          unfold dleft
          rw [if_neg e]
        have hi1000 : (i : Int) < 1000 := by omega
        have s0 : 0 ≤ l % 1000000000000000000 := Int.emod_nonneg _ (by decide)
        have s9 : l % 1000000000000000000 < 1000000000000000000 := Int.emod_lt_of_pos _ (by decide)
        refine ⟨.int l, rfl, 10, 18, rfl, rfl, ⟨by decide, by decide, by decide⟩, l, 10 ^ 18, rfl, rfl, (show (0 : Int) < 10 ^ 18 by decide), ?_⟩
        refine ⟨_, rfl, .int (i : Int), rfl, 7, i, rfl, rfl, .inl ⟨by decide, by decide⟩, _, _, rfl, rfl, _, _, rfl, rfl, .int (i : Int), rfl, 2, i, rfl, rfl, .inl ⟨by decide, by decide⟩, .int (i : Int), rfl, _, _, rfl, rfl, .inl ⟨by omega, by omega⟩, _, _, rfl, rfl, _, _, rfl, rfl,
          .inl ⟨by show -(2 ^ 64) < l % 1000000000000000000 + 7 * (i : Int) + 1; omega, by show l % 1000000000000000000 + 7 * (i : Int) + 1 < 2 ^ 64; omega⟩, _, _, rfl, rfl, (show (0 : Int) < 2147483647 by decide), ?_⟩
        refine ⟨_, rfl, _, _, rfl, rfl, ⟨by decide, by decide⟩, .int (i : Int), rfl, 11, i, rfl, rfl, .inl ⟨by decide, by decide⟩, _, _, rfl, rfl, _, _, rfl, rfl, .int (i : Int), rfl, 6, i, rfl, rfl, .inl ⟨by decide, by decide⟩, _, _, rfl, rfl, _, _, rfl, rfl,
          .inl ⟨by show -(2 ^ 64) < l % 1000000000000000000 / 3 + 11 * (i : Int) + 5; omega, by show l % 1000000000000000000 / 3 + 11 * (i : Int) + 5 < 2 ^ 64; omega⟩, _, _, rfl, rfl, (show (0 : Int) < 2147483629 by decide), ?_⟩
        have o0 := Int.emod_nonneg ((l % 1000000000000000000 + 7 * (i : Int) + 1) * (48271 + 2 * (i : Int) * (i : Int))) (show (2147483647 : Int) ≠ 0 by decide)
        have o9 := Int.emod_lt_of_pos ((l % 1000000000000000000 + 7 * (i : Int) + 1) * (48271 + 2 * (i : Int) * (i : Int))) (show (0 : Int) < 2147483647 by decide)
        refine ⟨.ref o, rfl, .inl ⟨rfl, _, SqL.of eo⟩, _, rfl, _, rfl, _, _, rfl, rfl, .inl ⟨Int.lt_of_lt_of_le (by decide) o0, Int.lt_trans o9 (by decide)⟩, _, rfl, _, _, rfl, rfl, ⟨by decide, by decide⟩, _, _, rfl, rfl, .ref a, rfl, .int (i : Int), rfl, a, _, _, _, rfl, rfl, hA, g, _, zs[i], rfl, rfl, hz1.1, o, _, _, rfl, rfl, eo, small, ?_⟩
        have e1 : dval l i zs[i] = ((l % 1000000000000000000 + 7 * (i : Int) + 1) * (48271 + 2 * (i : Int) * (i : Int)) % 2147483647 * ((l % 1000000000000000000 / 3 + 11 * (i : Int) + 5) * (39373 + 6 * (i : Int)) % 2147483629) + (l % 1000000000000000000 + 7 * (i : Int) + 1) * (48271 + 2 * (i : Int) * (i : Int)) % 2147483647 / 64) % zs[i] := by
          unfold dval
          rw [if_neg e]
        refine ⟨_, _, _, _, _, ds ++ [dval l i zs[i]], rfl, same_new no sm, ?_, ?_, ?_⟩
        · rw [upd_same, e1, List.map_append]
          rfl
        · rw [List.length_append, el]
          rfl
        · rw [e2] at ed'
          exact ed'
    · rintro σ H3 ⟨l, y4, y5, y6, y7, ds, rfl, sm, eo, el, ed⟩
      rw [List.drop_length] at ed
      have ed : ds = draws c 0 zs := by
        rw [← ed]
        show ds = ds ++ []
        rw [List.append_nil]
      subst ed
      exact ⟨.ref o, rfl, q H3 o sm no eo⟩

theorem scCell : FnScope ["_law_script", "_law_k"] ["_law_script", "_law_k"] (defScope sCellAt) := ⟨rfl, rfl, rfl, by decide +kernel, rfl, by decide +kernel, by decide +kernel⟩
theorem ok_cell {f : Addr} {fd : FuncData} {k : Nat} (F : Fun K "_law_cell_at" "_law_cell_at" sCellAt f fd) (mL : mg "len" = none) : FnOk P w K mg base CX0 (k + 1) f fd ["_law_script", "_law_k"] (spCellH K) := by
  refine F.ok scCell (fun vs H Q E h => ?_) (fun cdv A outer s H vs Q E hr h => ?_)
  · obtain ⟨a, ns, k, rfl, _⟩ := h
    rfl
  · obtain ⟨a, ns, k, rfl, hS, q⟩ := h
    refine ⟨_, pss_cons (ps_if (pt_cmpR op_lt (pv 1) (pe_callB call_len_seq (by rfl) mL PySem.boot_len (pa_cons (pv 0) pa_nil)) (nomark _)) (pss_one (ps_ret (pe_ix ix_list (pv 0) (pv 1) (fun _ _ => rfl)))) pss_nil) (pss_one (ps_ret pe_int)), ?_⟩
    refine ⟨_, rfl, .ref a, rfl, a, _, rfl, .inl hS, _, _, rfl, rfl, _, rfl, ite2 (fun e => ?_) (fun e => ?_)⟩
    · have e : (k : Int) < ((ns.map V.int).length : Int) := of_decide_eq_true e
      rw [List.length_map] at e
      have hk : k < ns.length := by omega
      exact ⟨.ref a, rfl, .int (k : Int), rfl, a, _, _, .int ns[k], rfl, rfl, hS, atI_nat (by rw [List.getElem?_map, List.getElem?_eq_getElem hk]; rfl), q _⟩
    · exact q 0
theorem scLRow : FnScope ["_law_cell", "_law_most", "_law_draws", "_law_row_here", "_law_draw"] ["_law_cell", "_law_most"] (defScope sLRow) := ⟨rfl, rfl, rfl, by decide +kernel, rfl, by decide +kernel, by decide +kernel⟩
theorem ok_lrow {f f1 : Addr} {fd fd1 : FuncData} {k : Nat} (F : Fun K "_law_row" "_law_row" sLRow f fd) (N1 : Fn K mg "_law_drawn" sDrawn ["_law_cell", "_law_sizes"] f1 fd1) (mL : mg "len" = none) (mR : mg "range" = none) (mS : mg "sorted" = none) : FnOk P w K mg base CX0 (k + 2) f fd ["_law_cell", "_law_most"] spLRow := by
  have G1 : FnOk P w K mg base CX0 (k + 1) f1 fd1 ["_law_cell", "_law_sizes"] (spDrawn K) := ok_drawn N1.F mL mR
  refine F.ok scLRow (fun vs H Q E h => ?_) (fun cdv A outer s H vs Q E hr h => ?_)
  · obtain ⟨c, M, rfl, _⟩ := h
    rfl
  · obtain ⟨c, M, rfl, hM1, hM, q⟩ := h
    have nd := scLRow.nd
    refine ⟨_, pss_cons (ps_set (i := 2) nd rfl (.inl rfl) (pe_call G1 hr (by rfl) N1.g N1.F.kp N1.b .nil pass0 (pa_cons (pv 0) (pa_cons (pe_op op_cat (pe_lst (pa_cons pe_int (pa_cons (pv 1) pa_nil))) (pe_op op_rep (pe_lst (pa_cons pe_int pa_nil)) (pv 1))) pa_nil))))
      (pss_cons (ps_set (i := 3) nd rfl (.inl rfl) (pe_join pe_str (pe_lc (own := [("_law_draw", 4)]) (g := gName 4) (tt := tYes) rfl nd (pi_list (pe_slice sl_list (pv 2) (po_some pe_int) (po_some (pe_op op_add pe_int (pe_ix ix_list (pv 2) pe_int (fun _ _ => rfl))))))
        (blkOk_by (own := [("_law_draw", 4)]) (N := ["_law_cell", "_law_most", "_law_draws", "_law_row_here", "_law_draw"]) (sc := defScope sLRow) (by decide +kernel))
        (fun _ _ _ _ _ => pg_name (i := 4) nd rfl (Or.inl rfl)) (fun _ _ _ _ _ => pts_nil) (fun _ _ _ _ _ => pe_ix ix_str pe_str (pv 4) (fun _ _ => rfl)))))
      (pss_cons (ps_if (pt_cmpR op_eq (pe_ix ix_list (pv 2) pe_int (fun _ _ => rfl)) pe_int (nomark _)) (pss_one (ps_ret (pe_join pe_str (pe_revL (pe_callB (cr_sortT rfl) (by rfl) mS (by decide +kernel) (pa_cons (pv 3) pa_nil)))))) pss_nil)
      (pss_cons (ps_if (pt_cmpR op_eq (pe_ix ix_list (pv 2) pe_int (fun _ _ => rfl)) pe_int (nomark _)) (pss_one (ps_ret (pe_slice sl_str (pe_op op_repS pe_str (pv 1)) po_none (po_some (pe_callB call_len_str (by rfl) mL PySem.boot_len (pa_cons (pv 3) pa_nil)))))) pss_nil)
      (pss_one (ps_ret (pv 3)))))), ?_⟩
    -- the sizes
    refine ⟨.int c, rfl, .int (M : Int), rfl, (by show 2 ≤ sizeLine; decide), fun l1 n1 => ⟨(by show 1 ≤ sizeLine; decide), fun l2 n2 => ?_⟩⟩
    refine ⟨.int (M : Int), rfl, l2, (M : Int), [.int 2], rfl, rfl, upd_same, by omega, by omega, (by rw [Int.toNat_natCast]; exact fit (by show 1 * M ≤ 10000; omega)), fun l3 n3 => ?_⟩
    rw [Int.toNat_natCast, flat_rep]
    have m2 := (same_upd n1).free n2
    have nl12 : l1 ≠ l2 := fun e => by
      rw [← e, upd_same] at n2
      cases n2
    have s2 : Same H (upd (upd H l1 (.lst [.int 6, .int (M : Int)])) l2 (.lst [.int 2])) := same_new m2 (same_upd n1)
    have m3 := s2.free n3
    have nl13 : l1 ≠ l3 := fun e => by
      rw [← e, upd_ne nl12, upd_same] at n3
      cases n3
    refine ⟨l1, l3, [.int 6, .int (M : Int)], _, rfl, rfl, ?_, upd_same, (by rw [List.length_replicate]; exact fit (by show 2 + M ≤ 10000; omega)), fun l4 n4 => ?_⟩
    · rw [upd_ne nl13, upd_ne nl12, upd_same]
    have s3 := same_new (o := .lst (List.replicate M (V.int 2))) m3 s2
    have m4 := s3.free n4
    have hsz : [V.int 6, .int (M : Int)] ++ List.replicate M (V.int 2) = ([6, (M : Int)] ++ List.replicate M 2).map V.int := by
      rw [List.map_append, List.map_replicate]
      rfl
    rw [hsz]
    have hsl : ([6, (M : Int)] ++ List.replicate M 2).length = M + 2 := by
      rw [List.length_append, List.length_replicate]
      show 2 + M = M + 2
      omega
    refine ⟨c, l4, [6, (M : Int)] ++ List.replicate M 2, rfl, SqL.of upd_same, ?_, by rw [hsl]; omega, fun H1 p s4 np ep => ?_⟩
    · intro z hz
      rcases List.mem_append.mp hz with h | h
      · rcases List.mem_cons.mp h with rfl | h
        · exact ⟨by decide, by decide⟩
        · rcases List.mem_cons.mp h with rfl | h
          · exact ⟨by omega, by omega⟩
          · cases h
      · rw [(List.mem_replicate.mp h).2]
        exact ⟨by decide, by decide⟩
    have sH1 : Same H H1 := (same_new m4 s3).trans s4
    generalize hds : draws c 0 ([6, (M : Int)] ++ List.replicate M 2) = ds at ep
    have hpos : ∀ z ∈ ([6, (M : Int)] ++ List.replicate M 2 : List Int), 0 < z := by
      intro z hz
      rcases List.mem_append.mp hz with h | h
      · rcases List.mem_cons.mp h with rfl | h
        · decide
        · obtain rfl := List.mem_singleton.mp h
          omega
      · rw [(List.mem_replicate.mp h).2]
        decide
    have hlen : ds.length = M + 2 := by
      rw [← hds, draws_len, hsl]
    have hok : ∀ (i : Nat) (x z : Int), ds[i]? = some x → ([6, (M : Int)] ++ List.replicate M 2 : List Int)[i]? = some z → 0 ≤ x ∧ x < z := by
      rw [← hds]
      exact draws_ok _ c 0 hpos
    obtain ⟨d0, e0⟩ : ∃ x, ds[0]? = some x := ⟨ds[0], List.getElem?_eq_getElem (by omega)⟩
    obtain ⟨d1, e1⟩ : ∃ x, ds[1]? = some x := ⟨ds[1], List.getElem?_eq_getElem (by omega)⟩
    have b1 := hok 1 d1 (M : Int) e1 rfl
    obtain ⟨m, rfl⟩ : ∃ m : Nat, d1 = (m : Int) := ⟨d1.toNat, by omega⟩
    have hcs : ∀ x ∈ (ds.drop 2).take (m + 1), 0 ≤ x ∧ x < 2 := fun x hx => by
      obtain ⟨j, hj⟩ := List.getElem?_of_mem (List.mem_of_mem_take hx)
      rw [List.getElem?_drop] at hj
      have hj2 : 2 + j < ds.length := (List.getElem?_eq_some_iff.mp hj).1
      refine hok (2 + j) x 2 hj ?_
      rw [List.getElem?_append_right (by show 2 ≤ 2 + j; omega), List.getElem?_replicate]
      show (if 2 + j - 2 < M then some (2 : Int) else none) = some 2
      rw [if_pos (by omega)]
    have hcl : ((ds.drop 2).take (m + 1)).length = m + 1 := by
      rw [List.length_take, List.length_drop, hlen]
      omega
    generalize hcd : (ds.drop 2).take (m + 1) = cs at hcs hcl
    have ecut : cutV (ds.map V.int) (some 2) (some (3 + (m : Int))) = cs.map V.int := by
      unfold cutV
      rw [show (some (2 : Int)) = some ((2 : Nat) : Int) from rfl, show (3 + (m : Int)) = ((3 + m : Nat) : Int) by omega, HT.sIx_nat, HT.sIx_nat, List.length_map, hlen, ← hcd, List.map_take, List.map_drop]
      have i1 : min 2 (M + 2) = 2 := by omega
      have i2 : min (3 + m) (M + 2) - 2 = m + 1 := by omega
      rw [i1, i2]
    have g1 : atI (ds.map V.int) 1 = some (.int (m : Int)) := atI_nat (j := 1) (by rw [List.getElem?_map, e1]; rfl)
    have g0 : atI (ds.map V.int) 0 = some (.int d0) := atI_nat (j := 0) (by rw [List.getElem?_map, e0]; rfl)
    have hbl : (bits cs).length = m + 1 := by
      unfold bits
      rw [List.length_map, hcl]
    have hRow : Row (bits cs) := by
      unfold Row
      rw [hbl]
      omega
    refine ⟨⟨_, rfl⟩, .ref p, rfl, 2, rfl, .ref p, rfl, p, _, 1, .int (m : Int), rfl, rfl, SqL.of ep, g1, 3, (m : Int), rfl, rfl, _, rfl, p, _, rfl, SqL.of ep, fun q1 nq1 => ?_⟩
    rw [ecut]
    have sq1 : Same H (upd H1 q1 (.lst (cs.map V.int))) := same_new (sH1.free nq1) sH1
    have npq : p ≠ q1 := ne_of_none ep nq1
    refine ⟨q1, rfl, ⟨_, SqL.of upd_same⟩, fun D hD => ?_⟩
    have nDq : q1 ≠ D := fun e => by
      rw [← e, upd_same] at hD
      cases hD
    have nDp : p ≠ D := fun e => by
      rw [← e, upd_ne npq, ep] at hD
      cases hD
    have hDH := sq1.free hD
    refine lc_list (K := K) (a := q1) (xs := cs.map V.int) (fun i H3 => Same H H3 ∧ H3 q1 = some (.lst (cs.map V.int)) ∧ H3 p = some (.lst (ds.map V.int)) ∧ H3 D = some (.lst (((bits (cs.take i)).map fun b => tx [b]).map V.str)))
      ⟨same_new hDH sq1, by rw [upd_ne nDq, upd_same], by rw [upd_ne nDp, upd_ne npq]; exact ep, upd_same⟩ (fun i H3 _ h => SqL.of h.2.1) ?_ ?_
    · rintro i x H3 hx ⟨sm, eq1, epp, eD⟩
      rw [List.getElem?_map] at hx
      obtain ⟨u, hu, rfl⟩ := Option.map_eq_some_iff.mp hx
      have hb := hcs u (List.mem_of_getElem? hu)
      refine ⟨rfl, .int u, rfl, ".o", u, _, rfl, rfl, (by decide), dot_o u hb.1 hb.2, _, eD, ?_, same_new hDH sm, ?_, ?_, ?_⟩
      · rw [List.length_map, List.length_map]
        unfold bits
        rw [List.length_map]
        exact small1000 (Nat.le_trans (List.length_take_le _ _) (by have := (List.getElem?_eq_some_iff.mp hu).1; omega))
      · rw [upd_ne nDq]
        exact eq1
      · rw [upd_ne nDp]
        exact epp
      · unfold bits
        rw [upd_same, List.take_add_one, hu, List.map_append, List.map_append, List.map_append]
        rfl
    · rintro H3 ⟨sm, eq1, epp, eD⟩
      rw [List.length_map, List.take_length] at eD
      refine ⟨"", D, _, rfl, rfl, .inl (SqL.of eD), join_fits (by have := hRow.2; omega), ?_⟩
      rw [join_tx]
      -- which kind
      refine ⟨.ref p, rfl, p, _, 0, _, rfl, rfl, SqL.of epp, g0, rfl, _, rfl, ite2 (fun _ => ?_) (fun _ => ?_)⟩
      · have h64 : (tx (bits cs)).length < 64 := by
          rw [tx_len]
          have := hRow.2
          omega
        refine ⟨⟨_, rfl⟩, .str (tx (bits cs)), rfl, tx (bits cs), rfl, h64, fun ys p1 hperm _ np1 => ⟨p1, _, rfl, SqL.of upd_same, fun p2 np2 => ?_⟩⟩
        rw [← List.map_reverse]
        obtain ⟨bs2, e2⟩ := signs_rows ys.reverse fun y hy => by
          have h1 := hperm.mem_iff.mp (List.mem_reverse.mp hy)
          rw [tx_sg] at h1
          obtain ⟨b, _, e⟩ := List.mem_map.mp h1
          exact ⟨b, e.symm⟩
        have hl2 : bs2.length = (bits cs).length := by
          have := congrArg List.length e2
          rw [List.length_reverse, hperm.length_eq, sg_len, tx_len, List.length_map] at this
          exact this.symm
        rw [e2]
        have hR2 : Row bs2 := by
          unfold Row
          rw [hl2]
          exact hRow
        refine ⟨"", p2, _, rfl, rfl, .inl (SqL.of upd_same), join_fits (by have := hR2.2; omega), ?_⟩
        rw [join_tx]
        have sp1 := same_new (o := .lst (ys.map V.str)) (sm.free np1) sm
        exact q _ _ (same_new (sp1.free np2) sp1) hR2.1 (by rw [hl2, hbl]; omega)
      · refine ⟨.ref p, rfl, p, _, 0, _, rfl, rfl, SqL.of epp, g0, rfl, _, rfl, ite2 (fun _ => ?_) (fun _ => ?_)⟩
        · have hrl := rep_of_len M
          refine ⟨.int (M : Int), rfl, "o.", M, rfl, rfl, (by rw [show ("o." : Str).length = 2 by decide +kernel]; omega), by omega, .str (tx (bits cs)), rfl, tx (bits cs), rfl, row_size hRow, _, rfl, _, rfl, ?_, ?_⟩
          · rw [rep_of]
            exact tx_fit (by omega)
          · rw [rep_of, cut_to, tx_len]
            refine q _ _ sm ?_ ?_
            · rw [List.length_take]
              omega
            · rw [List.length_take]
              omega
        · exact ⟨_, rfl, q _ _ sm hRow.1 (by omega)⟩
theorem scNeedNum : FnScope ["thing", "least", "most"] ["thing", "least", "most"] (defScope sNeedNum) := ⟨rfl, rfl, rfl, by decide +kernel, rfl, by decide +kernel, by decide +kernel⟩
def spNum : Sp := fun vs H Q _ => ∃ i lo hi : Int, vs = [.int i, .int lo, .int hi] ∧ lo ≤ i ∧ i ≤ hi ∧ Q .non H
theorem ok_num {f f1 : Addr} {fd g1 : FuncData} {k : Nat} (F : Fun K "need_number" "need_number" sNeedNum f fd) (N1 : Fn K mg "is_whole" sIsWhole ["thing"] f1 g1) (T : TxtP K mg C) : FnOk P w K mg base CX0 (k + 2) f fd ["thing", "least", "most"] spNum := by
  have G1 : FnOk P w K mg base CX0 (k + 1) f1 g1 ["thing"] spWhole := ok_whole N1.F T
  refine F.ok scNeedNum (fun vs H Q E h => ?_) (fun cdv A outer s H vs Q E hr h => ?_)
  · obtain ⟨i, lo, hi, rfl, _⟩ := h
    rfl
  · obtain ⟨i, lo, hi, rfl, h1, h2, q⟩ := h
    refine ⟨_, pss_one (ps_if (PW.pt (pw_or (pt_not (pt_val (pe_call G1 hr (by rfl) N1.g N1.F.kp N1.b .nil pass0 (pa_cons (pv 0) pa_nil)))) (pw_or (pt_cmpR op_lt (pv 0) (pv 1) (nomark _)) (pw_or1 (pt_cmpR op_gt (pv 0) (pv 2) (nomark _)))))) (pss_one ps_never) pss_nil), ?_⟩
    refine ⟨.int i, rfl, i, rfl, true, rfl, iteF ⟨.int i, rfl, .int lo, rfl, _, _, rfl, rfl, _, rfl, ?_⟩⟩
    rw [decide_eq_false (show ¬ i < lo by omega)]
    refine iteF ⟨.int i, rfl, .int hi, rfl, _, _, rfl, rfl, _, rfl, ?_⟩
    rw [decide_eq_false (show ¬ i > hi by omega)]
    exact iteF q
end
end Hop

set_option Elab.async false
set_option linter.all false
set_option maxRecDepth 100000
namespace HopR
open PySem PySem.Spec PyProof.Rows L2
/-! ### enumerate(text) -/
def EnumY (x : Str) (i : Nat) (vs : List V) : Prop := ∃ c, x.cps[i]? = some c ∧ vs = [.int (i : Int), .str ⟨#[c]⟩]
def iEnumS (ta : TA) : TI := fun σ H R => ta σ H fun vs H1 => ∃ x : Str, vs = [.str x] ∧ R (ItTup x.cps.size (EnumY x)) H1
theorem pi_enumS {X : Cx} {e : Expr} {ta : TA} {p pos tpos : Pos} {elts : List Expr} {kk : Nat} (hg : Gl X "enumerate") (hm : X.mg "enumerate" = none) (ha : PA X [e] ta) (hs : starEach [e] X.env = [(false, eval e X.env)] := by rfl) :
    PI X (.Tuple elts kk tpos) (.Call (.Name "enumerate" p) [e] [] pos) (iEnumS ta) := by
  constructor
  intro pins s σ H R I h
  refine Call_ (ld_blt I hg hm boot_enumerate (callWith_type1 (thn (ha.run pos pins s σ H _ I h) ?_) hs rfl))
  rintro us s1 ⟨_, H1, J, rel, x, rfl, q⟩
  obtain ⟨_, rfl, t, rfl⟩ := vals1 rel
  refine call_enumerate_str fun h' ise isi sz old => wpAny_pyIter_enum ise ?_
  have W : ∀ A : Around, A.handled = none → WalksT X.prog X.w A (s1.heap.objs.size + 1) _ _ _ _ _ _ := fun A hh => WalksT.enumerateD (draws_txt (A := A.in1) hh s1.heap.objs.size x t) (s1.heap.objs.size + 1) (Nat.succ_ne_self _) (by simp) (by simp)
  refine ⟨s1.heap.objs.size + 1, _, _, _, H1, rfl, J.kept (t' := s1.toks) old, turn_tup (Y := EnumY x) (by simp) ?_ W ?_ ?_ (W callerA rfl), ⟨Nat.zero_le _, ⟨_, ise⟩, isi⟩, ?_, q⟩
  · rintro i h ⟨⟨_, he⟩, o1, g1, _, d1⟩ b hb
    have hb : b = s1.heap.objs.size + 1 ∨ b = s1.heap.objs.size := by simpa using hb
    rcases hb with rfl | rfl
    · exact ⟨_, he, fun v q => nomatch q⟩
    · exact ⟨o1, g1, fun v q => by rw [d1] at q; cases q⟩
  · rintro i vals ⟨u, _, ⟨c, t1, hc, rfl⟩, rfl⟩
    exact ⟨[.int (i : Int), .str ⟨#[c]⟩], by show 2 ≤ sizeLine; decide, .cons ⟨u, rfl⟩ (.cons ⟨t1, rfl⟩ .nil), c, hc, rfl⟩
  · rintro A i s Q E ⟨⟨_, he⟩, _⟩ q
    exact wpAny_pyIter_enum he q
  · intro b hb
    have hb : b = s1.heap.objs.size + 1 ∨ b = s1.heap.objs.size := by simpa using hb
    have le : s1.heap.objs.size ≤ b := by
      rcases hb with rfl | rfl
      · exact Nat.le_add_right _ _
      · exact Nat.le_refl _
    exact J.fpOk le (J.hok.fresh le)
end HopR

set_option Elab.async false
set_option linter.all false
set_option maxRecDepth 100000
namespace Hop
open PySem L2 HopR HopT HopH
structure TxtH (mg : Str → Option Value) : Prop where
  enum : mg "enumerate" = none
  tup : mg "tuple" = none
theorem is_oH (b : Bool) : decide (V.str ⟨#[cd b]⟩ = V.str "o") = b := by
  cases b with
  | true => exact decide_eq_true (by rw [show ("o" : Str) = ⟨#[cd true]⟩ from by decide +kernel])
  | false => exact decide_eq_false (fun z => absurd (V.str.inj z) (by decide +kernel))
theorem is_fH (b : Bool) : decide (V.str ⟨#[cd b]⟩ = V.str ".") = !b := by
  cases b with
  | false => exact decide_eq_true (by rw [show ("." : Str) = ⟨#[cd false]⟩ from by decide +kernel])
  | true => exact decide_eq_false (fun z => absurd (V.str.inj z) (by decide +kernel))
theorem tx_one (b : Bool) : tx [b] = ⟨#[cd b]⟩ := rfl
theorem bit_at {bs : List Bool} {i : Nat} {c : Nat} (h : (tx bs).cps[i]? = some c) : ∃ b, bs[i]? = some b ∧ c = cd b := by
  rw [← Array.getElem?_toList, tx_list, List.getElem?_map] at h
  obtain ⟨b, e, q⟩ := Option.map_eq_some_iff.mp h
  exact ⟨b, e, q.symm⟩
theorem out_itH {J : It} {n : Nat} {G : Hp → Prop} {Y : Nat → Hp → V → Hp → Prop} (w : Walk J n G Y) {B : (Hp → Prop) → V → Hp → Prop} {H1 : Hp} {Qd : Hp → Prop} (Pv : Nat → Hp → Prop) (h0 : Pv 0 H1) (hG : ∀ i H, i ≤ n → Pv i H → G H)
    (hs : ∀ i x H H', i < n → Pv i H → Y i H x H' → B (Pv (i + 1)) x H') (hd : ∀ H, Pv n H → Qd H) :
    ∃ W : Nat → Nat → Hp → Prop, (∃ m, W 0 m H1) ∧ ∀ i m H, W i m H → (J.stop i H ∧ Qd H) ∨ (J.go i H ∧ ∃ Nx : Hp → Prop, (∀ H', Nx H' → ∃ m', m' < m ∧ W (i + 1) m' H') ∧ ∀ x H', J.yld i H x H' → B Nx x H') := by
  refine ⟨fun i m H => i + m = n ∧ Pv i H, ⟨n, Nat.zero_add n, h0⟩, fun i m H h => ?_⟩
  obtain ⟨e, p⟩ := h
  have hg := hG i H (by omega) p
  cases m with
  | zero =>
    have e : i = n := e
    subst e
    exact .inl ⟨w.stops H hg, hd H p⟩
  | succ m =>
    exact .inr ⟨w.goes i H (by omega) hg, Pv (i + 1), fun H' p' => ⟨m, Nat.lt_succ_self m, by omega, p'⟩, fun x H' y => hs i x H H' (by omega) p (w.yields i H x H' (by omega) hg y)⟩
/-- a new list of new tuples, so many at most -/
def GrA {α : Type} (f : α → List V) (H0 H : Hp) (D : Addr) (l : List α) (n : Nat) : Prop := Same H0 H ∧ ∃ acc, H D = some (.lst acc) ∧ TupG H f l acc ∧ acc.length ≤ n
def rLtI : R2 := rI0 fun i j => .bl (decide (i < j))
def rLeI : R2 := rI0 fun i j => .bl (decide (i ≤ j))
def rGeI : R2 := rI0 fun i j => .bl (decide (j ≤ i))
section
variable {P : Program} {w : World} {K : PySem.W.Frag} {mg : Str → Option Value} {base : Heap} {C d : Addr} {es : Array DictEntry} {n : Nat}
/-! ### cells_of -/
def spCells : Sp := fun vs H Q _ => ∃ bs, vs = [.str (tx bs)] ∧ Row bs ∧ ∀ H' p, Same H H' → H p = none → TL t2v H' p ((cellsN bs).map ci) → Q (.ref p) H'
abbrev nCe : List Str := ["row", "place", "sign", "beads", "frees", "bead", "free"]
theorem scCells : FnScope nCe ["row"] (defScope sCells) := ⟨rfl, rfl, rfl, by decide +kernel, rfl, by decide +kernel, by decide +kernel⟩
structure RowDefs (K : PySem.W.Frag) (mg : Str → Option Value) : Prop where
  R : ∃ r s, Fn K mg "is_row" sIsRow ["thing"] r s
  N : ∃ r s, Fn K mg "need_row" sNeedRow ["thing"] r s
theorem cells_add (bs : List Bool) (B F : List Nat) {i b : Nat} (h : B[i]? = some b) : cellsTo bs (B.take (i + 1)) F = cellsTo bs (B.take i) F ++ (F.filter fun f => decide (b < f)).map fun f => (b, f) := by
  unfold cellsTo
  rw [List.take_add_one, h, List.flatMap_append]
  simp
theorem ok_cells {f : Addr} {fd : FuncData} {k : Nat} (F : Fun K "cells_of" "cells_of" sCells f fd) (N : RowDefs K mg) (T : TxtR K w mg d es n) (TH : TxtH mg) : FnOk P w K mg base CX0 (k + 3) f fd ["row"] spCells := by
  obtain ⟨f1, g1, N1⟩ := N.R
  obtain ⟨f2, g2, N2⟩ := N.N
  have G2 : FnOk P w K mg base CX0 (k + 2) f2 g2 ["thing"] spNeed := ok_need N2.F N1 T
  refine F.ok scCells (fun vs H Q E h => ?_) (fun cdv A outer s H vs Q E hr h => ?_)
  · obtain ⟨bs, rfl, _⟩ := h
    rfl
  · obtain ⟨bs, rfl, hR, q⟩ := h
    have nd := scCells.nd
    obtain ⟨tb, gb⟩ := T.bead
    obtain ⟨tf, gf⟩ := T.free
    have h30 := hR.2
    refine ⟨_, pss_cons (ps_expr (pe_call G2 hr (by rfl) N2.g N2.F.kp N2.b .nil pass0 (pa_cons (pv 0) pa_nil)))
      (pss_cons (ps_setLc (i := 3) (own := [("place", 1), ("sign", 2)]) (g := gTup K 2 (gCons (gName 1) (gCons (gName 2) gNil))) (tt := tTest (tOp rEq (tVar 2) (tC (.str "o")))) (by rfl) nd rfl rfl (sw_true rfl rfl rfl (by decide +kernel)) (pi_enumS (by rfl) TH.enum (pa_cons (pv 0) pa_nil)) (blkOk_by (own := [("place", 1), ("sign", 2)]) (N := nCe) (sc := defScope sCells) (by decide +kernel))
        (fun _ _ _ _ _ => pg_tup (by rfl) (pgs_cons (pg_name (i := 1) nd rfl (.inl rfl)) (pgs_cons (pg_name (i := 2) nd rfl (.inl rfl)) pgs_nil))) (fun _ _ _ _ _ => pts_one (pt_cmpR op_eq (pv 2) (pe_glob (v := .str "o") (by rfl) gb ⟨_, rfl⟩) (nomark _))) (fun _ _ _ _ _ => pv 1))
      (pss_cons (ps_set (i := 4) nd rfl (.inr rfl) (pe_lc (own := [("place", 1), ("sign", 2)]) (g := gTup K 2 (gCons (gName 1) (gCons (gName 2) gNil))) (tt := tTest (tOp rEq (tVar 2) (tC (.str ".")))) (by rfl) nd (pi_enumS (by rfl) TH.enum (pa_cons (pv 0) pa_nil)) (blkOk_by (own := [("place", 1), ("sign", 2)]) (N := nCe) (sc := defScope sCells) (by decide +kernel))
        (fun _ _ _ _ _ => pg_tup (by rfl) (pgs_cons (pg_name (i := 1) nd rfl (.inl rfl)) (pgs_cons (pg_name (i := 2) nd rfl (.inl rfl)) pgs_nil))) (fun _ _ _ _ _ => pts_one (pt_cmpR op_eq (pv 2) (pe_glob (v := .str ".") (by rfl) gf ⟨_, rfl⟩) (nomark _))) (fun _ _ _ _ _ => pv 1)))
      (pss_one (ps_ret (pe_lc2 (own := [("bead", 5), ("free", 6)]) (vs1 := [6]) (g := gName 5) (tt := tYes) (wi1 := iList K (tVar 4)) (g1 := gName 6) (tt1 := tTest (tOp rLtI (tVar 5) (tVar 6))) rfl nd
        (pi_list (pv 3)) (blkOk_by (own := [("bead", 5), ("free", 6)]) (N := nCe) (sc := defScope sCells) (by decide +kernel)) (by decide)
        (fun _ _ _ _ _ => pg_name (i := 5) nd rfl (.inl rfl)) (fun _ _ _ _ _ => pts_nil)
        (fun _ _ _ _ _ => pi_list (pv 4))
        (fun _ _ _ _ _ => pg_name (i := 6) nd rfl (.inl rfl))
        (fun _ _ _ _ _ => pts_one (pt_cmpR (show OpR _ (compareOp .Lt) rLtI from op_lt) (pv 5) (pv 6) (nomark _)))
        (fun _ _ _ _ _ => pe_tup (pa_cons (pv 5) (pa_cons (pv 6) pa_nil)))))))), ?_⟩
    refine ⟨.str (tx bs), rfl, bs, rfl, hR, fun H1 s1 => ?_⟩
    refine ⟨.str (tx bs), rfl, tx bs, rfl, fun D1 n1 => ?_⟩
    have n1H := s1.free n1
    refine lc_it HopR.walk_tup (fun i H3 => Same H H3 ∧ H3 D1 = some (.lst ((plsTo true bs i).map wv))) ⟨same_new n1H s1, upd_same⟩ (fun _ _ _ _ => trivial) ?_ ?_
    · rintro i x H3 H4 hi ⟨s3, eD⟩ ⟨t, xs, rfl, nt, rfl, c, hc, rfl⟩
      obtain ⟨b, hb, rfl⟩ := bit_at hc
      have st := same_upd (o := .tup [.int (i : Int), .str ⟨#[cd b]⟩]) nt
      have et : upd H3 t (.tup [.int (i : Int), .str ⟨#[cd b]⟩]) t = some (.tup [.int (i : Int), .str ⟨#[cd b]⟩]) := upd_same
      generalize upd H3 t (.tup [.int (i : Int), .str ⟨#[cd b]⟩]) = H4 at st et
      refine ⟨t, _, rfl, SqT.of et, rfl, _, _, rfl, _, _, rfl, rfl, rfl, ?_⟩
      refine ⟨_, rfl, rfl, _, rfl, ?_⟩
      rw [is_oH]
      have hs := plsTo_step (v := true) hb
      have hl := plsTo_len true bs i
      have hi2 : i < bs.length := (List.getElem?_eq_some_iff.mp hb).1
      cases b with
      | true =>
        refine iteT ⟨.int (i : Int), rfl, _, st _ _ eD, by rw [List.length_map]; exact fit' (by omega), same_new n1H (s3.trans st), ?_⟩
        rw [upd_same, hs, if_pos rfl, List.map_append]
        rfl
      | false =>
        refine iteF ⟨s3.trans st, ?_⟩
        rw [hs, if_neg (by decide), List.append_nil]
        exact st _ _ eD
    rintro H3 ⟨s3, eD1⟩
    rw [show (tx bs).cps.size = bs.length from tx_len bs] at eD1
    refine ⟨.str (tx bs), rfl, tx bs, rfl, fun D2 n2 => ?_⟩
    have n2H := s3.free n2
    have ne12 : D1 ≠ D2 := ne_of_none eD1 n2
    refine lc_it HopR.walk_tup (fun i H4 => Same H H4 ∧ H4 D1 = some (.lst ((plsTo true bs bs.length).map wv)) ∧ H4 D2 = some (.lst ((plsTo false bs i).map wv))) ⟨same_new n2H s3, by rw [upd_ne ne12]; exact eD1, upd_same⟩ (fun _ _ _ _ => trivial) ?_ ?_
    · rintro i x H4 H5 hi ⟨s4, e1, eD⟩ ⟨t, xs, rfl, nt, rfl, c, hc, rfl⟩
      obtain ⟨b, hb, rfl⟩ := bit_at hc
      have st := same_upd (o := .tup [.int (i : Int), .str ⟨#[cd b]⟩]) nt
      have et : upd H4 t (.tup [.int (i : Int), .str ⟨#[cd b]⟩]) t = some (.tup [.int (i : Int), .str ⟨#[cd b]⟩]) := upd_same
      generalize upd H4 t (.tup [.int (i : Int), .str ⟨#[cd b]⟩]) = H5 at st et
      refine ⟨t, _, rfl, SqT.of et, rfl, _, _, rfl, _, _, rfl, rfl, rfl, ?_⟩
      refine ⟨_, rfl, rfl, _, rfl, ?_⟩
      rw [is_fH]
      have hs := plsTo_step (v := false) hb
      have hl := plsTo_len false bs i
      have hi2 : i < bs.length := (List.getElem?_eq_some_iff.mp hb).1
      cases b with
      | false =>
        refine iteT ⟨.int (i : Int), rfl, _, st _ _ eD, by rw [List.length_map]; exact fit' (by omega), same_new n2H (s4.trans st), by rw [upd_ne ne12]; exact st _ _ e1, ?_⟩
        rw [upd_same, hs, if_pos rfl, List.map_append]
        rfl
      | true =>
        refine iteF ⟨s4.trans st, st _ _ e1, ?_⟩
        rw [hs, if_neg (by decide), List.append_nil]
        exact st _ _ eD
    rintro H4 ⟨s4, e1, e2⟩
    rw [show (tx bs).cps.size = bs.length from tx_len bs] at e2
    have lB := plsTo_len true bs bs.length
    have lF := plsTo_len false bs bs.length
    rw [cellsN_eq] at q
    generalize plsTo true bs bs.length = B at e1 lB q
    generalize plsTo false bs bs.length = F at e2 lF q
    refine ⟨.ref D1, rfl, D1, rfl, ⟨_, SqL.of e1⟩, fun D hD => ?_⟩
    refine out_itH (walk_list (K := K) (a := D1) (xs := B.map wv)) (fun i H5 => GrA t2v H4 H5 D ((cellsTo bs (B.take i) F).map ci) (30 * i)) ⟨same_upd hD, [], upd_same, rfl, Nat.le_refl _⟩ (fun i H5 _ h => SqL.of (h.1 _ _ e1)) ?_ ?_
    · rintro i x H5 H6 hi ⟨s5, acc, eD, gD, hl⟩ ⟨rfl, hx⟩
      rw [List.getElem?_map] at hx
      obtain ⟨b, hb, rfl⟩ := Option.map_eq_some_iff.mp hx
      have hi2 : i < B.length := (List.getElem?_eq_some_iff.mp hb).1
      refine ⟨rfl, .ref D2, rfl, D2, rfl, ⟨_, SqL.of (s5 _ _ e2)⟩, ?_⟩
      refine out_itH (walk_list (K := K) (a := D2) (xs := F.map wv)) (fun j H7 => GrA t2v H4 H7 D ((cellsTo bs (B.take i) F ++ ((F.take j).filter fun f => decide (b < f)).map fun f => (b, f)).map ci) (30 * i + j)) ⟨s5, acc, eD, by
          show TupG H6 t2v ((cellsTo bs (B.take i) F ++ []).map ci) acc
          rw [List.append_nil]
          exact gD, hl⟩ (fun j H7 _ h => SqL.of (h.1 _ _ e2)) ?_ ?_
      · rintro j x H7 H8 hj ⟨s7, acc7, eD7, gD7, hl7⟩ ⟨rfl, hx⟩
        rw [List.getElem?_map] at hx
        obtain ⟨g, hg, rfl⟩ := Option.map_eq_some_iff.mp hx
        have hj2 : j < F.length := (List.getElem?_eq_some_iff.mp hg).1
        refine ⟨rfl, wv b, rfl, wv g, rfl, _, _, rfl, rfl, _, rfl, ?_⟩
        have hE : (F.take (j + 1)).filter (fun f => decide (b < f)) = (F.take j).filter (fun f => decide (b < f)) ++ (if b < g then [g] else []) := by
          rw [List.take_add_one, hg, List.filter_append]
          by_cases z : b < g
          · rw [if_pos z]; simp [z]
          · rw [if_neg z]; simp [z]
        by_cases z : b < g
        · rw [if_pos z] at hE
          rw [decide_eq_true (show (b : Int) < (g : Int) by omega)]
          refine iteT ⟨wv b, rfl, wv g, rfl, (by show 2 ≤ sizeLine; decide), fun p9 n9 => ?_⟩
          have s9 := same_upd (o := .tup [wv b, wv g]) n9
          have e9 : upd H8 p9 (.tup [wv b, wv g]) p9 = some (.tup (t2v (ci (b, g)))) := upd_same
          generalize upd H8 p9 (.tup [wv b, wv g]) = H9 at s9 e9
          refine ⟨acc7, s9 _ _ eD7, fit' (by omega), same_new hD (s7.trans s9), _, upd_same, ?_, ?_⟩
          · simp only [hE, List.map_append, ← List.append_assoc] at gD7 ⊢
            exact tupG_upd (s9 _ _ eD7) (tupG_add e9 (tupG_same s9 gD7))
          · rw [List.length_append]
            show acc7.length + 1 ≤ _
            omega
        · rw [if_neg z, List.append_nil] at hE
          rw [decide_eq_false (show ¬ (b : Int) < (g : Int) by omega)]
          refine iteF ⟨s7, acc7, eD7, ?_, by omega⟩
          rw [hE]
          exact gD7
      · rintro H7 ⟨s7, acc7, eD7, gD7, hl7⟩
        rw [List.length_map] at hl7 gD7
        rw [List.take_length] at gD7
        refine ⟨s7, acc7, eD7, ?_, by omega⟩
        rw [cells_add bs B F hb]
        exact gD7
    · rintro H5 ⟨s5, acc, eD, gD, hl⟩
      rw [List.length_map] at gD hl
      rw [List.take_length] at gD
      exact q H5 D (s4.trans s5) (s4.free hD) ⟨acc, eD, gD⟩
/-! ### is_filled -/
theorem scFilled : FnScope ["thing", "bead", "free", "sign"] ["thing"] (defScope sFilled) := ⟨rfl, rfl, rfl, by decide +kernel, rfl, by decide +kernel, by decide +kernel⟩
/-- no tuple -/
def NoTup (K : PySem.W.Frag) (H : Hp) (x : V) : Prop := ∃ t, TyX K H x t ∧ PySem.W.kitOne K t (.type "tuple") = some false
def spFilled (K : PySem.W.Frag) : Sp := fun vs H Q _ => ∃ x, vs = [x] ∧ ((∃ t e, x = .ref t ∧ H t = some (.tup (t3v e)) ∧ Q (.bl true) H) ∨ (NoTup K H x ∧ Q (.bl false) H) ∨ (∃ (t : Addr) (i j : Int) (c : Nat), x = .ref t ∧ H t = some (.tup [.int i, .int j, .str ⟨#[c]⟩]) ∧ okc c = false ∧ Q (.bl false) H) ∨ (∃ (t : Addr) (ys : List V), x = .ref t ∧ H t = some (.tup ys) ∧ ys.length ≠ 3 ∧ Q (.bl false) H))
theorem ok_filled {f : Addr} {fd : FuncData} {k : Nat} (F : Fun K "is_filled" "is_filled" sFilled f fd) (Nw : ∃ r s, Fn K mg "is_whole" sIsWhole ["thing"] r s) (TP : TxtP K mg C) (T : TxtR K w mg d es n) (TH : TxtH mg) (ke : keysAre es) : FnOk P w K mg base CX0 (k + 2) f fd ["thing"] (spFilled K) := by
  obtain ⟨f1, g1, N1⟩ := Nw
  have G1 : FnOk P w K mg base CX0 (k + 1) f1 g1 ["thing"] spWhole := ok_whole N1.F TP
  refine F.ok scFilled (fun vs H Q E h => ?_) (fun cdv A outer s H vs Q E hr h => ?_)
  · obtain ⟨x, rfl, _⟩ := h
    rfl
  · obtain ⟨x, rfl, h⟩ := h
    have nd := scFilled.nd
    refine ⟨_, pss_cons (ps_if (PW.pt (pw_or (pt_not (pt_val (pe_callB call_isi (by rfl) T.isi (by decide +kernel) (pa_cons (pv 0) (pa_cons (pe_bltn (v := .ty "tuple") (by rfl) TH.tup (by decide +kernel) rfl) pa_nil)))))
        (pw_or1 (pt_cmpR op_ne (pe_callB call_len_seq (by rfl) T.len PySem.boot_len (pa_cons (pv 0) pa_nil)) pe_int (nomark _))))) (pss_one (ps_ret pe_bl)) pss_nil)
      (pss_cons (ps_asg (pv 0) (pg_tup (by rfl) (pgs_cons (pg_name (i := 1) nd rfl (.inl rfl)) (pgs_cons (pg_name (i := 2) nd rfl (.inl rfl)) (pgs_cons (pg_name (i := 3) nd rfl (.inl rfl)) pgs_nil)))))
      (pss_one (ps_ret (pe_and (pe_call G1 hr (by rfl) N1.g N1.F.kp N1.b .nil pass0 (pa_cons (pv 1) pa_nil)) (pe_and (pe_call G1 hr (by rfl) N1.g N1.F.kp N1.b .nil pass0 (pa_cons (pv 2) pa_nil))
        (pe_and (pe_callB call_isi (by rfl) T.isi (by decide +kernel) (pa_cons (pv 3) (pa_cons (pe_bltn (v := .ty "str") (by rfl) T.str (by decide +kernel) rfl) pa_nil)))
        (pe_one (pe_cmpR (op_inKd T.D) (pv 3) (pe_glob (v := .ref d) (by rfl) T.os rfl) (by rfl))))))))), ?_⟩
    rcases h with ⟨t, e, rfl, et, q⟩ | ⟨⟨t, ty, kt⟩, q⟩ | ⟨t, x1, x2, c, rfl, et, hc, q⟩ | ⟨t, ys, rfl, et, hy, q⟩
    · obtain ⟨x1, x2, x3⟩ := e
      refine ⟨.ref t, rfl, .ref t, .ty "tuple", .type "tuple", .type "tuple", true, rfl, .ty _, .base (.tup et), kit_ty (by decide +kernel), true, rfl, iteF ?_⟩
      refine ⟨.ref t, rfl, t, _, rfl, .inr (SqT.of et), rfl, _, rfl, ?_⟩
      rw [show (decide ((V.int ((t3v (x1, x2, x3)).length : Int)) = V.int 3)) = true from rfl]
      refine iteF ⟨.ref t, rfl, t, _, rfl, SqT.of et, rfl, _, _, rfl, _, _, rfl, _, _, rfl, rfl, ?_⟩
      obtain ⟨r, hr', _⟩ := in_os T x3
      exact ⟨.int x1, rfl, x1, rfl, true, rfl, .int x2, rfl, x2, rfl, true, rfl, .str (tx [x3]), rfl, .str (tx [x3]), .ty "str", .type "str", .type "str", true, rfl, .ty _, .base (.str _), kit_ty (by decide +kernel), true, rfl,
        .str (tx [x3]), rfl, tx [x3], _, rfl, rfl, hr', q⟩
    · exact ⟨x, rfl, x, .ty "tuple", t, .type "tuple", false, rfl, .ty _, ty, kt, false, rfl, q⟩
    · refine ⟨.ref t, rfl, .ref t, .ty "tuple", .type "tuple", .type "tuple", true, rfl, .ty _, .base (.tup et), kit_ty (by decide +kernel), true, rfl, iteF ?_⟩
      refine ⟨.ref t, rfl, t, _, rfl, .inr (SqT.of et), rfl, _, rfl, ?_⟩
      rw [show (decide ((V.int (([V.int x1, .int x2, .str ⟨#[c]⟩] : List V).length : Int)) = V.int 3)) = true from rfl]
      refine iteF ⟨.ref t, rfl, t, _, rfl, SqT.of et, rfl, _, _, rfl, _, _, rfl, _, _, rfl, rfl, ?_⟩
      obtain ⟨r, hr', e2⟩ := sign_in T.D.at_ ke c
      rw [hc] at e2
      rw [← e2] at q
      exact ⟨.int x1, rfl, x1, rfl, true, rfl, .int x2, rfl, x2, rfl, true, rfl, .str ⟨#[c]⟩, rfl, .str ⟨#[c]⟩, .ty "str", .type "str", .type "str", true, rfl, .ty _, .base (.str _), kit_ty (by decide +kernel), true, rfl,
        .str ⟨#[c]⟩, rfl, ⟨#[c]⟩, _, rfl, rfl, hr', q⟩
    · refine ⟨.ref t, rfl, .ref t, .ty "tuple", .type "tuple", .type "tuple", true, rfl, .ty _, .base (.tup et), kit_ty (by decide +kernel), true, rfl, iteF ?_⟩
      refine ⟨.ref t, rfl, t, _, rfl, .inr (SqT.of et), rfl, _, rfl, ?_⟩
      rw [show decide (V.int ((ys.length : Nat) : Int) = V.int 3) = false from decide_eq_false fun z => by injection z with z; omega]
      exact q
end
end Hop

set_option Elab.async false
set_option linter.all false
set_option maxRecDepth 100000
namespace Hop
open PySem L2 HopR HopT HopH
section
variable {P : Program} {w : World} {K : PySem.W.Frag} {mg : Str → Option Value} {base : Heap} {C d : Addr} {es : Array DictEntry} {n : Nat}
/-! ### due_cells -/
def spDue : Sp := fun vs H Q _ => ∃ bs p ts, vs = [.str (tx bs), .ref p] ∧ Row bs ∧ TL t3v H p ts ∧ ts.length ≤ 1000 ∧ ∀ H' p', Same H H' → H p' = none → TL t2v H' p' (dueCells bs ts) → Q (.ref p') H'
abbrev nDu : List Str := ["row", "filled", "nearest_bead", "nearest_free", "bead", "free", "sign"]
theorem scDue : FnScope nDu ["row", "filled"] (defScope sDue) := ⟨rfl, rfl, rfl, by decide +kernel, rfl, by decide +kernel, by decide +kernel⟩
theorem nb_get {kvs : List (Key × V)} {o : Option Int} {k : Key} {z : Int} (h : valV kvs k = o.map V.int) : (valV kvs k).getD (V.int z) = V.int (o.getD z) := by
  rw [h]; cases o <;> rfl
set_option maxHeartbeats 1000000 in
theorem ok_due {f fc : Addr} {fd gc : FuncData} {k : Nat} (F : Fun K "due_cells" "due_cells" sDue f fd) (Nc : Fn K mg "cells_of" sCells ["row"] fc gc) (N : RowDefs K mg) (T : TxtR K w mg d es n) (TH : TxtH mg) : FnOk P w K mg base CX0 (k + 4) f fd ["row", "filled"] spDue := by
  have Gc : FnOk P w K mg base CX0 (k + 3) fc gc ["row"] spCells := ok_cells Nc.F N T TH
  refine F.ok scDue (fun vs H Q E h => ?_) (fun cdv A outer s H vs Q E hr h => ?_)
  · obtain ⟨bs, p, ts, rfl, _⟩ := h
    rfl
  · obtain ⟨bs, p, ts, rfl, hR, hT, hlen, q⟩ := h
    have nd := scDue.nd
    have hu := hu_of hr
    obtain ⟨tb, gb⟩ := T.bead
    have h30 := hR.2
    refine ⟨_, pss_cons (ps_set (i := 2) nd rfl (.inr rfl) pe_dnewK)
      (pss_cons (ps_set (i := 3) nd rfl (.inr rfl) pe_dnewK)
      (pss_cons (ps_for PassesOwn.never rfl (pi_list (pv 1)) (pg_tup (by rfl) (pgs_cons (pg_name (i := 4) nd rfl (.inl rfl)) (pgs_cons (pg_name (i := 5) nd rfl (.inl rfl)) (pgs_cons (pg_name (i := 6) nd rfl (.inl rfl)) pgs_nil))))
        (pss_one (ps_if (pt_cmpR op_eq (pv 6) (pe_glob (v := .str "o") (by rfl) gb ⟨_, rfl⟩) (nomark _)) (pss_one (ps_dput hu (pv 2) (pv 5) (pv 4) rfl)) (pss_one (ps_expr (pe_dsetd (pv 3) (pv 4) (pv 5) ⟨rfl, rfl, rfl, rfl⟩))))))
      (pss_one (ps_ret (pe_lc (own := [("bead", 4), ("free", 5)]) (g := gTup K 2 (gCons (gName 4) (gCons (gName 5) gNil))) rfl nd (pi_list (pe_call Gc hr (by rfl) Nc.g Nc.F.kp Nc.b .nil pass0 (pa_cons (pv 0) pa_nil)))
        (blkOk_by (own := [("bead", 4), ("free", 5)]) (N := nDu) (sc := defScope sDue) (by decide +kernel))
        (fun _ _ _ _ _ => pg_tup (by rfl) (pgs_cons (pg_name (i := 4) nd rfl (.inl rfl)) (pgs_cons (pg_name (i := 5) nd rfl (.inl rfl)) pgs_nil)))
        (fun _ _ _ _ _ => pts_one (PW.pt (pw_and (pt_cmpR (show OpR _ (compareOp .GtE) rGeI from op_ge) (pv 4) (pe_dget2 (by assumption) (pv 2) (pv 5) (pv 4) ⟨rfl, rfl, rfl, rfl⟩) (nomark _))
          (pw_and1 (pt_cmpR (show OpR _ (compareOp .LtE) rLeI from op_le) (pv 5) (pe_dget2 (by assumption) (pv 3) (pv 4) (pv 5) ⟨rfl, rfl, rfl, rfl⟩) (nomark _))))))
        (fun _ _ _ _ _ => pe_tup (pa_cons (pv 4) (pa_cons (pv 5) pa_nil)))))))), ?_⟩
    obtain ⟨acc, ep, gp⟩ := hT
    refine fun b1 nb1 => ?_
    have sb1 := same_upd (o := .dK []) nb1
    have eb1 : upd H b1 (.dK []) b1 = some (.dK []) := upd_same
    generalize upd H b1 (.dK []) = H1 at sb1 eb1
    refine fun b2 nb2 => ?_
    have sb2 := same_upd (o := .dK []) nb2
    have eb2 : upd H1 b2 (.dK []) b2 = some (.dK []) := upd_same
    have ne12 : b1 ≠ b2 := ne_of_none eb1 nb2
    have nb2H := sb1.free nb2
    replace eb1 := sb2 _ _ eb1
    have s2 := sb1.trans sb2
    generalize upd H1 b2 (.dK []) = H2 at sb2 eb1 eb2 s2
    refine ⟨.ref p, rfl, p, rfl, ⟨_, SqL.of (s2 _ _ ep)⟩, ?_⟩
    have la := tupG_len gp
    refine for_list (xs := acc) (fun j σ H3 => ∃ (kb kf : List (Key × V)) (y4 y5 y6 : Option V), σ = [some (.str (tx bs)), some (.ref p), some (.ref b1), some (.ref b2), y4, y5, y6] ∧ Same H H3 ∧ H3 b1 = some (.dK kb) ∧ H3 b2 = some (.dK kf) ∧ kb.length ≤ j ∧ kf.length ≤ j ∧
      (∀ k : Int, valV kb (.inl k) = (nbI (ts.take j) k).map V.int) ∧ ∀ k : Int, valV kf (.inl k) = (nfI (ts.take j) k).map V.int)
      ⟨[], [], none, none, none, rfl, s2, eb1, eb2, Nat.le_refl _, Nat.le_refl _, fun k => rfl, fun k => rfl⟩ (fun j σ H3 _ ⟨_, _, _, _, _, _, s3, _⟩ => SqL.of (s3 _ _ ep)) ?_ ?_
    · rintro j x σ H3 hx ⟨kb, kf, y4, y5, y6, rfl, s3, e1, e2, l1, l2, vb, vf⟩
      obtain ⟨e, t, he, rfl, et⟩ := tupG_item gp hx
      obtain ⟨x1, x2, x3⟩ := e
      have hj : j < acc.length := (List.getElem?_eq_some_iff.mp hx).1
      have st : ts.take (j + 1) = ts.take j ++ [(x1, x2, x3)] := by rw [List.take_add_one, he]; rfl
      refine ⟨t, _, rfl, SqT.of (s3 _ _ et), rfl, _, _, rfl, _, _, rfl, _, _, rfl, rfl, ?_⟩
      refine ⟨.str (tx [x3]), rfl, rfl, _, rfl, ?_⟩
      rw [tx_one, is_oH]
      cases x3 with
      | true =>
        refine iteT ⟨.int x1, rfl, .ref b1, rfl, .int x2, rfl, b1, _, rfl, DPut.k (k := .inl x2) e1 (fit' (by omega)), putK kb (.inl x2) (.int x1), kf, _, _, _, rfl, same_new nb1 s3, upd_same, by rw [upd_ne (Ne.symm ne12)]; exact e2, Nat.le_trans (length_putK _ _ _) (by omega), by omega, fun k => ?_, fun k => ?_⟩
        · rw [valV_put, st, nbI_snoc, vb]
          by_cases z : x2 = k
          · rw [if_pos (congrArg Sum.inl z.symm), if_pos ⟨z, rfl⟩]; rfl
          · rw [if_neg (fun h => z (Sum.inl.inj h).symm), if_neg (fun h => z h.1)]
        · rw [st, nfI_snoc, vf]
          cases h : nfI (ts.take j) k with
          | some v => rfl
          | none => rw [if_neg (fun h => nomatch h.2)]
      | false =>
        refine iteF ⟨.ref b2, rfl, b2, rfl, .inl ⟨_, .inl e2⟩, .int x1, rfl, .int x2, rfl, kf, .inl x1, e2, rfl, fit' (by omega), fun v hv => ?_, fun hv => ?_⟩
        · refine ⟨kb, kf, _, _, _, rfl, s3, e1, e2, by omega, by omega, fun k => ?_, fun k => ?_⟩
          · rw [st, nbI_snoc, vb, if_neg (fun h => nomatch h.2)]
          · rw [st, nfI_snoc]
            have hk := vf k
            have hx := vf x1
            rw [hv] at hx
            rw [hk]
            cases h : nfI (ts.take j) k with
            | some v => rfl
            | none =>
              rw [if_neg (fun z => ?_)]
              have z1 : x1 = k := z.1
              rw [z1, h] at hx
              cases hx
        · refine ⟨kb, putK kf (.inl x1) (.int x2), _, _, _, rfl, same_new nb2H s3, by rw [upd_ne ne12]; exact e1, upd_same, by omega, Nat.le_trans (length_putK _ _ _) (by omega), fun k => ?_, fun k => ?_⟩
          · rw [st, nbI_snoc, vb, if_neg (fun h => nomatch h.2)]
          · rw [valV_put, st, nfI_snoc, vf]
            have hx := vf x1
            rw [hv] at hx
            by_cases z : x1 = k
            · subst z
              rw [if_pos rfl]
              cases h : nfI (ts.take j) x1 with
              | some v => rw [h] at hx; cases hx
              | none => rw [if_pos ⟨rfl, rfl⟩]; rfl
            · rw [if_neg (fun h => z (Sum.inl.inj h).symm)]
              cases h : nfI (ts.take j) k with
              | some v => rfl
              | none => rw [if_neg (fun h => z h.1)]
    · rintro σ H3 ⟨kb, kf, y4, y5, y6, rfl, s3, e1, e2, l1, l2, vb, vf⟩
      rw [la, List.take_length] at vb vf
      refine ⟨.str (tx bs), rfl, bs, rfl, hR, fun H4 p4 s4 n4 t4 => ?_⟩
      obtain ⟨ac, ec, gc'⟩ := t4
      have lc := tupG_len gc'
      rw [List.length_map] at lc
      have e14 := s4 _ _ e1
      have e24 := s4 _ _ e2
      refine ⟨p4, rfl, ⟨_, SqL.of ec⟩, fun D hD => ?_⟩
      have lcN : (cellsN bs).length ≤ 900 := by
        have hb : ∀ B : List Nat, (cellsTo bs B (plsTo false bs bs.length)).length ≤ 30 * B.length := fun B => by
          induction B with
          | nil => exact Nat.le_refl _
          | cons b B ih =>
            have h1 : (((plsTo false bs bs.length).filter fun f => decide (b < f)).map fun f => (b, f)).length ≤ 30 := by
              rw [List.length_map]
              exact Nat.le_trans (List.length_filter_le _ _) (Nat.le_trans (plsTo_len _ _ _) h30)
            have : (cellsTo bs (b :: B) (plsTo false bs bs.length)).length = (((plsTo false bs bs.length).filter fun f => decide (b < f)).map fun f => (b, f)).length + (cellsTo bs B (plsTo false bs bs.length)).length := by
              unfold cellsTo
              rw [List.flatMap_cons, List.length_append]
            rw [this, List.length_cons]
            omega
        rw [cellsN_eq]
        have h2 := hb (plsTo true bs bs.length)
        have h3 := plsTo_len true bs bs.length
        omega
      refine lc_list (K := K) (a := p4) (xs := ac) (fun i H5 => GrA t2v H4 H5 D ((((cellsN bs).take i).filter (dueI ts)).map ci) i) ⟨same_upd hD, [], upd_same, rfl, Nat.le_refl _⟩ (fun i H5 _ h => SqL.of (h.1 _ _ ec)) ?_ ?_
      · rintro i x H5 hx ⟨s5, acc5, eD, gD, hl⟩
        obtain ⟨c, t, hc, rfl, et⟩ := tupG_item gc' hx
        rw [List.getElem?_map] at hc
        obtain ⟨⟨b, g⟩, hcb, rfl⟩ := Option.map_eq_some_iff.mp hc
        have hi2 : i < (cellsN bs).length := (List.getElem?_eq_some_iff.mp hcb).1
        refine ⟨t, _, rfl, SqT.of (s5 _ _ et), rfl, _, _, rfl, _, _, rfl, rfl, rfl, ?_⟩
        have hE : (((cellsN bs).take (i + 1)).filter (dueI ts)).map ci = (((cellsN bs).take i).filter (dueI ts)).map ci ++ (if dueI ts (b, g) = true then [ci (b, g)] else []) := by
          rw [List.take_add_one, hcb, List.filter_append, List.map_append]
          by_cases z : dueI ts (b, g) = true
          · rw [if_pos z]; simp [z]
          · rw [if_neg z]; simp [z]
        have hdue : dueI ts (b, g) = (decide ((nbI ts (g : Int)).getD (b : Int) ≤ (b : Int)) && decide ((g : Int) ≤ (nfI ts (b : Int)).getD (g : Int))) := rfl
        refine ⟨.int (b : Int), rfl, .ref b1, rfl, b1, rfl, .inl ⟨_, .inl (s5 _ _ e14)⟩, .int (g : Int), rfl, .int (b : Int), rfl, _, DGet.k (k := .inl (g : Int)) (s5 _ _ e14), (b : Int), (nbI ts (g : Int)).getD (b : Int), rfl, nb_get (vb _), _, rfl, ?_⟩
        cases h1 : decide ((nbI ts (g : Int)).getD (b : Int) ≤ (b : Int)) with
        | false =>
          rw [h1, Bool.false_and] at hdue
          refine iteF (iteF ⟨s5, acc5, eD, ?_, by omega⟩)
          rw [hE, if_neg (by rw [hdue]; decide), List.append_nil]
          exact gD
        | true =>
          rw [h1, Bool.true_and] at hdue
          refine iteT ⟨.int (g : Int), rfl, .ref b2, rfl, b2, rfl, .inl ⟨_, .inl (s5 _ _ e24)⟩, .int (b : Int), rfl, .int (g : Int), rfl, _, DGet.k (k := .inl (b : Int)) (s5 _ _ e24), (g : Int), (nfI ts (b : Int)).getD (g : Int), rfl, nb_get (vf _), _, rfl, ?_⟩
          rw [← hdue]
          cases h2 : dueI ts (b, g) with
          | false =>
            refine iteF ⟨s5, acc5, eD, ?_, by omega⟩
            rw [hE, if_neg (by rw [h2]; decide), List.append_nil]
            exact gD
          | true =>
            refine iteT ⟨.int (b : Int), rfl, .int (g : Int), rfl, (by show 2 ≤ sizeLine; decide), fun p9 n9 => ?_⟩
            have s9 := same_upd (o := .tup [.int (b : Int), .int (g : Int)]) n9
            have e9 : upd H5 p9 (.tup [.int (b : Int), .int (g : Int)]) p9 = some (.tup (t2v (ci (b, g)))) := upd_same
            generalize upd H5 p9 (.tup [.int (b : Int), .int (g : Int)]) = H9 at s9 e9
            refine ⟨acc5, s9 _ _ eD, fit' (by omega), same_new hD (s5.trans s9), _, upd_same, ?_, ?_⟩
            · rw [hE, if_pos h2]
              exact tupG_upd (s9 _ _ eD) (tupG_add e9 (tupG_same s9 gD))
            · rw [List.length_append]
              show acc5.length + 1 ≤ _
              omega
      · rintro H5 ⟨s5, acc5, eD, gD, hl⟩
        rw [lc, List.take_length] at gD
        exact q H5 D ((s3.trans s4).trans s5) ((s3.trans s4).free hD) ⟨acc5, eD, gD⟩
/-! ### is_heap -/
def NoLst (K : PySem.W.Frag) (H : Hp) (x : V) : Prop := ∃ t, TyX K H x t ∧ PySem.W.kitOne K t (.type "list") = some false
theorem NoLst.same {H H' : Hp} {x : V} (s : Same H H') (h : NoLst K H x) : NoLst K H' x := let ⟨t, ty, k⟩ := h; ⟨t, tyx_same s ty, k⟩
/-- one of a list is filled, or no tuple -/
def FilB (K : PySem.W.Frag) (H : Hp) (x : V) (b : Bool) : Prop := (∃ t e, x = .ref t ∧ H t = some (.tup (t3v e)) ∧ b = true) ∨ (NoTup K H x ∧ b = false) ∨ (∃ (t : Addr) (i j : Int) (c : Nat), x = .ref t ∧ H t = some (.tup [.int i, .int j, .str ⟨#[c]⟩]) ∧ okc c = false ∧ b = false) ∨ (∃ (t : Addr) (ys : List V), x = .ref t ∧ H t = some (.tup ys) ∧ ys.length ≠ 3 ∧ b = false)
theorem FilB.same {H H' : Hp} {x : V} {b : Bool} (s : Same H H') (h : FilB K H x b) : FilB K H' x b := by
  rcases h with ⟨t, e, h1, h2, h3⟩ | ⟨⟨t, ty, k⟩, h⟩ | ⟨t, i, j, c, h1, h2, h3⟩ | ⟨t, ys, h1, h2, h3⟩
  · exact .inl ⟨t, e, h1, s _ _ h2, h3⟩
  · exact .inr (.inl ⟨⟨t, tyx_same s ty, k⟩, h⟩)
  · exact .inr (.inr (.inl ⟨t, i, j, c, h1, s _ _ h2, h3⟩))
  · exact .inr (.inr (.inr ⟨t, ys, h1, s _ _ h2, h3⟩))
/-- what is told of x, whether it is a heap -/
def HeapB (K : PySem.W.Frag) (bs : List Bool) (H : Hp) (x : V) (b : Bool) : Prop :=
  (NoLst K H x ∧ b = false) ∨ (∃ p ts, x = .ref p ∧ TL t3v H p ts ∧ ts.length ≤ 1000 ∧ b = isHeapB bs ts) ∨
  (∃ p xs fl, x = .ref p ∧ H p = some (.lst xs) ∧ xs.length ≤ 1000 ∧ Paired (FilB K H) xs fl ∧ fl.all id = false ∧ b = false)
def spIsHeap (K : PySem.W.Frag) : Sp := fun vs H Q _ => ∃ bs x b, vs = [.str (tx bs), x] ∧ Row bs ∧ HeapB K bs H x b ∧ ∀ H', Same H H' → Q (.bl b) H'
abbrev nIH : List Str := ["row", "thing", "each", "bead", "free", "sign"]
theorem scIsHeap : FnScope nIH ["row", "thing"] (defScope sIsHeap) := ⟨rfl, rfl, rfl, by decide +kernel, rfl, by decide +kernel, by decide +kernel⟩
structure HpDefs (K : PySem.W.Frag) (mg : Str → Option Value) : Prop where
  D : RowDefs K mg
  w : ∃ r s, Fn K mg "is_whole" sIsWhole ["thing"] r s
  c : ∃ r s, Fn K mg "cells_of" sCells ["row"] r s
  f : ∃ r s, Fn K mg "is_filled" sFilled ["thing"] r s
  u : ∃ r s, Fn K mg "due_cells" sDue ["row", "filled"] r s
theorem paired_len {α β : Type} {R : α → β → Prop} : ∀ {l : List α} {m : List β}, Paired R l m → l.length = m.length
  | _, _, .nil => rfl
  | _, _, .cons _ t => congrArg (· + 1) (paired_len t)
theorem paired_impH {α β : Type} {R S : α → β → Prop} (h : ∀ a b, R a b → S a b) : ∀ {l : List α} {m : List β}, Paired R l m → Paired S l m
  | _, _, .nil => .nil
  | _, _, .cons r t => .cons (h _ _ r) (paired_impH h t)
theorem paired_get {α β : Type} {R : α → β → Prop} : ∀ {l : List α} {m : List β} {i : Nat} {a : α}, Paired R l m → l[i]? = some a → ∃ b, m[i]? = some b ∧ R a b
  | _, _, 0, a, .cons r t, h => by cases h; exact ⟨_, rfl, r⟩
  | _, _, i + 1, a, .cons r t, h => paired_get (i := i) t h
theorem fil_true {K : PySem.W.Frag} {H : Hp} : ∀ {ts : List I3} {acc : List V}, TupG H t3v ts acc → Paired (FilB K H) acc (List.replicate ts.length true)
  | [], _, h => by cases h; exact .nil
  | e :: ts, _, ⟨p, vr, ev, h1, h2⟩ => by subst ev; exact .cons (.inl ⟨p, e, rfl, h1, rfl⟩) (fil_true h2)
theorem all_rep : ∀ m : Nat, (List.replicate m true).all id = true
  | 0 => rfl
  | m + 1 => by rw [List.replicate_succ, List.all_cons, all_rep m]; rfl
set_option maxHeartbeats 1000000 in
theorem ok_isheap {f : Addr} {fd : FuncData} {k : Nat} (F : Fun K "is_heap" "is_heap" sIsHeap f fd) (N : HpDefs K mg) (TP : TxtP K mg C) (T : TxtR K w mg d es n) (TH : TxtH mg) (ke : keysAre es) : FnOk P w K mg base CX0 (k + 5) f fd ["row", "thing"] (spIsHeap K) := by
  obtain ⟨f1, g1, N1⟩ := N.D.R
  obtain ⟨f2, g2, N2⟩ := N.D.N
  obtain ⟨f3, g3, N3⟩ := N.c
  obtain ⟨f4, g4, N4⟩ := N.f
  obtain ⟨f5, g5, N5⟩ := N.u
  have G2 : FnOk P w K mg base CX0 (k + 4) f2 g2 ["thing"] spNeed := ok_need N2.F N1 T
  have G4 : FnOk P w K mg base CX0 (k + 4) f4 g4 ["thing"] (spFilled K) := ok_filled N4.F N.w TP T TH ke
  have G5 : FnOk P w K mg base CX0 (k + 4) f5 g5 ["row", "filled"] spDue := ok_due N5.F N3 N.D T TH
  refine F.ok scIsHeap (fun vs H Q E h => ?_) (fun cdv A outer s H vs Q E hr h => ?_)
  · obtain ⟨bs, x, b, rfl, _⟩ := h
    rfl
  · obtain ⟨bs, x, b, rfl, hR, hx, q⟩ := h
    have nd := scIsHeap.nd
    have hu := hu66 hr
    have hu64 : (A.deeper (PyProof.Rows.envOfC "is_heap" (defScope sIsHeap) s.heap.objs.size f cdv)).units + 64 < cLine := by omega
    refine ⟨_, pss_cons (ps_expr (pe_call G2 hr (by rfl) N2.g N2.F.kp N2.b .nil pass0 (pa_cons (pv 0) pa_nil)))
      (pss_cons (ps_if (PW.pt (pw_or (pt_not (pt_val (pe_callB call_isi (by rfl) T.isi (by decide +kernel) (pa_cons (pv 1) (pa_cons (pe_bltn (v := .ty "list") (by rfl) T.list (by decide +kernel) rfl) pa_nil)))))
        (pw_or1 (pt_not (pt_val (pe_callB (cr_all rfl) (by rfl) T.all (by decide +kernel) (pa_cons
          (pe_lc (own := [("each", 2)]) (g := gName 2) (tt := tYes) rfl nd (pi_list (pv 1)) (blkOk_by (own := [("each", 2)]) (N := nIH) (sc := defScope sIsHeap) (by decide +kernel))
            (fun _ _ _ _ _ => pg_name (i := 2) nd rfl (Or.inl rfl)) (fun _ _ _ _ _ => pts_nil) (fun _ _ _ _ _ => pe_call G4 hr (by rfl) N4.g N4.F.kp N4.b .nil pass0 (pa_cons (pv 2) pa_nil))) pa_nil))))))) (pss_one (ps_ret pe_bl)) pss_nil)
      (pss_one (ps_ret (pe_cmpR (op_eqD hu64)
        (pe_lc (own := [("bead", 3), ("free", 4), ("sign", 5)]) (g := gTup K 3 (gCons (gName 3) (gCons (gName 4) (gCons (gName 5) gNil)))) (tt := tYes) rfl nd (pi_list (pv 1)) (blkOk_by (own := [("bead", 3), ("free", 4), ("sign", 5)]) (N := nIH) (sc := defScope sIsHeap) (by decide +kernel))
          (fun _ _ _ _ _ => pg_tup (by rfl) (pgs_cons (pg_name (i := 3) nd rfl (.inl rfl)) (pgs_cons (pg_name (i := 4) nd rfl (.inl rfl)) (pgs_cons (pg_name (i := 5) nd rfl (.inl rfl)) pgs_nil)))) (fun _ _ _ _ _ => pts_nil) (fun _ _ _ _ _ => pe_tup (pa_cons (pv 3) (pa_cons (pv 4) pa_nil))))
        (pe_call G5 hr (by rfl) N5.g N5.F.kp N5.b .nil pass0 (pa_cons (pv 0) (pa_cons (pv 1) pa_nil))) (nomark _))))), ?_⟩
    refine ⟨.str (tx bs), rfl, bs, rfl, hR, fun H1 s1 => ?_⟩
    -- a list: each of it is looked at
    have look : ∀ (p : Addr) (xs : List V) (fl : List Bool) (Q' : VK), H1 p = some (.lst xs) → xs.length ≤ 1000 → Paired (FilB K H1) xs fl → (∀ H2, Same H1 H2 → Q' (.bl (fl.all id)) H2) →
        tCB (rAll K) (tCons (tLc (iList K (tVar 1)) (gName 2) tYes (tCall (spFilled K) [] E0 (tCons (tVar 2) tNil)) [2]) tNil) [some (.str (tx bs)), some (.ref p), none, none, none, none] H1 Q' := by
      intro p xs fl Q' ep hl pf hq
      refine ⟨.ref p, rfl, p, rfl, ⟨_, SqL.of ep⟩, fun D hD => ?_⟩
      refine lc_list (K := K) (a := p) (xs := xs) (fun i H3 => Same H1 H3 ∧ H3 D = some (.lst ((fl.take i).map V.bl))) ⟨same_upd hD, upd_same⟩ (fun i H3 _ h => SqL.of (h.1 _ _ ep)) ?_ ?_
      · rintro i x H3 hx ⟨s3, eD⟩
        obtain ⟨b, hb, fb⟩ := paired_get pf hx
        have hi : i < xs.length := (List.getElem?_eq_some_iff.mp hx).1
        refine ⟨rfl, x, rfl, x, rfl, ?_⟩
        have st : fl.take (i + 1) = fl.take i ++ [b] := by rw [List.take_add_one, hb]; rfl
        have lt : ((fl.take i).map V.bl).length < sizeLine := by rw [List.length_map]; exact fit' (Nat.le_trans (List.length_take_le _ _) (by omega))
        have go : ∃ acc, H3 D = some (.lst acc) ∧ acc.length < sizeLine ∧ (Same H1 (upd H3 D (.lst (acc ++ [.bl b]))) ∧ upd H3 D (.lst (acc ++ [.bl b])) D = some (.lst ((fl.take (i + 1)).map V.bl))) :=
          ⟨_, eD, lt, same_new hD s3, by rw [upd_same, st, List.map_append]; rfl⟩
        rcases fb.same s3 with ⟨t, e, rfl, et, rfl⟩ | ⟨nt, rfl⟩ | ⟨t, i', j', c, rfl, et, hc, rfl⟩ | ⟨t, ys, rfl, et, hy, rfl⟩
        · exact .inl ⟨t, e, rfl, et, go⟩
        · exact .inr (.inl ⟨nt, go⟩)
        · exact .inr (.inr (.inl ⟨t, i', j', c, rfl, et, hc, go⟩))
        · exact .inr (.inr (.inr ⟨t, ys, rfl, et, hy, go⟩))
      · rintro H3 ⟨s3, eD⟩
        rw [paired_len pf, List.take_length] at eD
        exact ⟨D, fl, rfl, SqL.of eD, hq H3 s3⟩
    rcases hx with ⟨nl, rfl⟩ | ⟨p, ts, rfl, tl, hl, rfl⟩ | ⟨p, xs, fl, rfl, ep, hl, pf, hfl, rfl⟩
    · obtain ⟨t, ty, kt⟩ := nl.same s1
      exact ⟨x, rfl, x, .ty "list", t, .type "list", false, rfl, .ty _, ty, kt, false, rfl, q H1 s1⟩
    · obtain ⟨acc, ep, gp⟩ := tl.same s1
      have la := tupG_len gp
      refine ⟨.ref p, rfl, .ref p, .ty "list", .type "list", .type "list", true, rfl, .ty _, .base (.lst ep), kit_ty (by decide +kernel), true, rfl, iteF ?_⟩
      refine look p acc _ _ ep (by omega) (fil_true gp) fun H2 s2 => ?_
      rw [all_rep]
      refine ⟨true, rfl, iteF ?_⟩
      have ep2 := s2 _ _ ep
      have gp2 := tupG_same s2 gp
      refine ⟨.ref p, rfl, p, rfl, ⟨_, SqL.of ep2⟩, fun D hD => ?_⟩
      refine lc_list (K := K) (a := p) (xs := acc) (fun i H3 => GrA t2v H2 H3 D ((ts.take i).map pr3) i) ⟨same_upd hD, [], upd_same, rfl, Nat.le_refl _⟩ (fun i H3 _ h => SqL.of (h.1 _ _ ep2)) ?_ ?_
      · rintro i x H3 hx ⟨s3, acc3, eD, gD, hl3⟩
        obtain ⟨e, t, he, rfl, et⟩ := tupG_item gp2 hx
        obtain ⟨x1, x2, x3⟩ := e
        have hi : i < acc.length := (List.getElem?_eq_some_iff.mp hx).1
        refine ⟨t, _, rfl, SqT.of (s3 _ _ et), rfl, _, _, rfl, _, _, rfl, _, _, rfl, rfl, rfl, ?_⟩
        refine ⟨.int x1, rfl, .int x2, rfl, (by show 2 ≤ sizeLine; decide), fun p9 n9 => ?_⟩
        have s9 := same_upd (o := .tup [.int x1, .int x2]) n9
        have e9 : upd H3 p9 (.tup [.int x1, .int x2]) p9 = some (.tup (t2v (pr3 (x1, x2, x3)))) := upd_same
        generalize upd H3 p9 (.tup [.int x1, .int x2]) = H9 at s9 e9
        refine ⟨acc3, s9 _ _ eD, fit' (by omega), same_new hD (s3.trans s9), _, upd_same, ?_, ?_⟩
        · rw [List.take_add_one, he, List.map_append]
          exact tupG_upd (s9 _ _ eD) (tupG_add e9 (tupG_same s9 gD))
        · rw [List.length_append]
          show acc3.length + 1 ≤ _
          omega
      · rintro H3 ⟨s3, acc3, eD, gD, hl3⟩
        rw [la, List.take_length] at gD
        refine ⟨.str (tx bs), rfl, .ref p, rfl, bs, p, ts, rfl, hR, ⟨acc, s3 _ _ ep2, tupG_same s3 gp2⟩, hl, fun H4 p4 s4 n4 t4 => ?_⟩
        refine ⟨.list ((ts.map pr3).map d2), .list ((dueCells bs ts).map d2), tl_d2 ⟨acc3, s4 _ _ eD, tupG_same s4 gD⟩, tl_d2 t4, shaped2 _, shaped2 _, ?_⟩
        rw [eqvT2]
        exact q H4 (((s1.trans s2).trans s3).trans s4)
    · refine ⟨.ref p, rfl, .ref p, .ty "list", .type "list", .type "list", true, rfl, .ty _, .base (.lst (s1 _ _ ep)), kit_ty (by decide +kernel), true, rfl, iteF ?_⟩
      refine look p xs fl _ (s1 _ _ ep) hl (paired_impH (fun _ _ h => h.same s1) pf) fun H2 s2 => ?_
      rw [hfl]
      exact ⟨false, rfl, q H2 (s1.trans s2)⟩
end
end Hop

set_option Elab.async false
set_option linter.all false
set_option maxRecDepth 100000
set_option maxHeartbeats 4000000
namespace HopR
open PySem PySem.Spec PyProof.Rows L2
/-! ### a refusal over IndexError that keeps what was handed in: class N(IndexError), its __init__ says IndexError.__init__(self, text), then self.f = x -/
abbrev bmI : List Value := [.type "IndexError", .type "LookupError", .type "Exception", .type "BaseException", .type "object"]
/-- what is written of the class at C, whose __init__ is at fI, its field f -/
structure Kept (K : PySem.W.Frag) (C fI : Addr) (f : Str) : Prop where
  new : PySem.W.excInitIn K C bmI "IndexError.__new__" = true
  over : PySem.W.excOver K C bmI = true
  ini : PySem.W.findIn K (.ref C) "__init__" = some (some (.ref fI))
  fn : PySem.W.typeIn K (.ref fI) = some (.type "function")
  sa : PySem.W.findIn K (.ref C) "__setattr__" = some (some (.builtin "object.__setattr__"))
  taker : PySem.W.takerIn K C f = some none
  none_ : PySem.W.findIn K (.ref C) f = some none
  keep : PySem.W.keepIn K (.ref C) = true
  ty : PySem.W.typeIn K (.ref C) = some (.type "type")
  xf : XfC K C
theorem type_ie : typeOf (.type "IndexError") = pure (.type "type") := by kernel_rfl
/-- a dict laid for an exception, then named in it, then filled -/
theorem laid_dict {H : Hp} {a d : Addr} {o1 o2 o3 : HO} (n : d ≠ a) : upd (upd (upd H d o1) a o2) d o3 = upd (upd H d o3) a o2 := by
  funext b
  by_cases h1 : b = d
  · subst h1
    rw [upd_same, upd_ne n, upd_same]
  · rw [upd_ne h1]
    by_cases h2 : b = a
    · subst h2
      rw [upd_same, upd_same]
    · rw [upd_ne h2, upd_ne h2, upd_ne h1, upd_ne h1]
theorem gone_dict {H : Hp} {a d : Addr} {o1 o2 o3 o4 : HO} (n : d ≠ a) (na : H a = none) : upd (del (upd (upd (upd H a o1) d o2) a o3) a) d o4 = upd H d o4 := by
  funext b
  by_cases h1 : b = d
  · subst h1
    rw [upd_same, upd_same]
  · rw [upd_ne h1, upd_ne h1]
    by_cases h2 : b = a
    · subst h2
      rw [del_same, na]
    · rw [del_ne h2, upd_ne h2, upd_ne h1, upd_ne h2]
section
variable {X : Cx} {C fI a : Addr} {f : Str}
/-- self.f = y, on an exception without a dict -/
theorem keep_it {pins : List (Addr × Obj)} {σ : L2.St} {H : Hp} {s : Shared} {A : Around} {y : V} {u : Value} {Q : Unit → Shared → Prop} {E : Value → Shared → Prop} (T : Kept X.K C fI f) (I : Inv X pins σ H s) (ha : H a = some (exo a C none)) (r : RelV y u)
    (k : ∀ d s', H d = none → d ≠ a → Inv X pins σ (upd (upd H d (exd d [(f, y)])) a (exo a C (some d))) s' → Q () s') : wpAny (model X.prog X.w) A (setAttr (.ref a) f u) Q E s := by
  obtain ⟨t0, at0⟩ := exo_at I.hok ha
  obtain ⟨cd, c1, c2⟩ := PySem.W.any_some T.xf.hdC
  obtain ⟨hp, g, dr, tk, os⟩ := s
  have lt : a < hp.objs.size := Heap.lt_size at0
  have ne : hp.objs.size ≠ a := Nat.ne_of_gt lt
  refine PySem.W.set_plain (od := none) I.kIn ⟨at0, rfl, rfl, trivial⟩ T.sa ?_
  refine PySem.W.osa_openX (od := none) PySem.F.store_IndexError I.kIn ⟨at0, rfl, rfl, trivial⟩ T.over T.taker fun _ => ?_
  refine wpAny_bind (wpAny_pure (wpAny_bind (PySem.W.instanceDict_exc at0 (PySem.W.looks_clsIn I.kIn c1) c2 ?_)))
  refine HandSPX.store_in_new ?_ ?_
  · exact ⟨_, #[], _, (Heap.get?_update_other _ _ ne.symm).trans (Heap.get?_push_size _ rfl), rfl, fun e he => absurd he (by simp), fun _ => rfl⟩
  · intro h' tk' ns sb
    have I1 : Inv X pins σ (upd H hp.objs.size (exd hp.objs.size [])) ⟨hp.push (PySem.W.dictOf [] 0), g, dr, tk, os⟩ :=
      I.laid (a := hp.objs.size) (o := exd hp.objs.size []) (t' := tk) (fun b o q => Heap.get?_push_of_some _ q) (Nat.le_refl _) (exd_ok (mA := fun _ => none) (Heap.Ns1.of_empty ⟨_, #[], _, Heap.get?_push_size _ rfl, rfl, fun e he => absurd he (by simp), fun _ => rfl⟩) fun _ => True.intro)
    have a1 : (hp.push (PySem.W.dictOf [] 0)).get? a = some _ := Heap.get?_push_of_some _ at0
    have a2 := Heap.get?_update_self (fun o : Obj => { o with dict := some hp.objs.size }) a1 rfl
    have I2 := I1.write (x := a) (e := a) (o := exo a C (some hp.objs.size)) (t' := tk) (h' := (hp.push (PySem.W.dictOf [] 0)).update a fun o => { o with dict := some hp.objs.size }) (by rw [upd_ne ne.symm, ha]; exact True.intro) (.inl rfl)
      (fun b o hb q => (Heap.get?_update_other _ _ (Ne.symm hb)).trans q) ⟨_, a2⟩ (exo_ok a2)
    have d3 : ∃ o, h'.get? hp.objs.size = some o := by
      obtain ⟨o, _, _, q, _⟩ := ns
      exact ⟨o, q⟩
    have I3 := I2.write (x := hp.objs.size) (e := hp.objs.size) (o := exd hp.objs.size [(f, y)]) (t' := tk') (h' := h') (by rw [upd_ne ne, upd_same]; exact True.intro) (.inl rfl)
      (fun b o hb q => (sb.2 b hb).trans q) d3 (exd_ok ns (relO_put (fs := []) r fun g => True.intro))
    rw [laid_dict ne] at I3
    exact k _ _ (I.hok.fresh (Nat.le_refl _)) ne I3
/-- IndexError.__init__(self, ..): nothing of it is told -/
theorem init_ie {pins : List (Addr × Obj)} {σ : L2.St} {H : Hp} {s : Shared} {A : Around} {us : List Value} {Q : Value → Shared → Prop} {E : Value → Shared → Prop} (T : Kept X.K C fI f) (I : Inv X pins σ H s) (ha : H a = some (exo a C none)) (hl : us.length ≤ sizeLine)
    (k : ∀ s', Inv X pins σ H s' → Q .none s') : wpAny (model X.prog X.w) A (call (.builtin "IndexError.__init__") (.ref a :: us)) Q E s := by
  obtain ⟨nm, N, qn, bs, bm, hdct, sn, sub, ab, col, dd, k0, k1, k2, k3, k5, at1, cont⟩ := PySem.W.excInit_of I.kIn T.new
  obtain ⟨t0, at0⟩ := exo_at I.hok ha
  obtain ⟨hp, g, dr, tk, os⟩ := s
  refine wpAny_call (HandSPX.init_base PySem.F.excBase_IndexError cont at1 at0 hl ?_)
  intro h' t1 kp at2
  have same : upd H a (exo a C none) = H := by
    funext b
    by_cases hb : b = a
    · rw [hb, upd_same, ha]
    · rw [upd_ne hb]
  have J := I.write (x := a) (e := a) (o := exo a C none) (t' := tk) (h' := h') (by rw [ha]; exact True.intro) (.inl rfl) kp ⟨_, at2⟩ (exo_ok at2)
  rw [same] at J
  exact k _ J
variable {e o : Expr} {es : List Expr} {te to : TE} {ta : TA} {p p1 p2 p' pos : Pos}
/-- what is asked of IndexError.__init__(self, ..) -/
def tIeI (K : PySem.W.Frag) (f : Str) (ta : TA) : TE := fun σ H Q => ta σ H fun vs H1 => ∃ (a C fI : Addr) (ws : List V), vs = .ref a :: ws ∧ ws.length ≤ 1000 ∧ Kept K C fI f ∧ H1 a = some (exo a C none) ∧ Q .non H1
theorem pe_ieinit {pl : Sem Bool} (f : Str) (hg : Gl X "IndexError") (hm : X.mg "IndexError" = none) (vV : PySem.W.findCls X.K (.type "IndexError") (.type "type") "__init__" = some (.val (.builtin "IndexError.__init__"))) (ha : PA X (e :: es) ta)
    (hc : eval (.Call (.Attribute (.Name "IndexError" p1) "__init__" p2) (e :: es) [] pos) X.env = (do
      let ov ← eval (.Name "IndexError" p1) X.env
      standAt p2.atName
      let (m, first) ← holding [ov] (getMethod ov "__init__" pl)
      callWith pos m first (backTo pos (starEach (e :: es) X.env)) (backToKw pos (keywordEach [] X.env))) := by rfl)
    (he : starEach (e :: es) X.env = (false, eval e X.env) :: starEach es X.env := by rfl) (hpl : (backTo pos (starEach es X.env)).any (·.1) = false := by rfl) :
    PE X (.Call (.Attribute (.Name "IndexError" p1) "__init__" p2) (e :: es) [] pos) (tIeI X.K f ta) := by
  constructor
  intro pins s σ H Q I h
  obtain ⟨m, fr⟩ := I.fr
  refine PySem.W.methodCall_KW (ld_blt I hg hm PyProof.Rows.Boot.«IndexError» (PySem.W.method_type fr I.ok.mod.kin type_ie (by decide +kernel) vV (by decide +kernel) ?_) (by decide) (by decide)) hc
  show wpAny (model X.prog X.w) X.A (callWith pos (Value.builtin "IndexError.__init__") [] (backTo pos (starEach (e :: es) X.env)) []) _ _ _
  refine PyProof.Rows.callWith_method1 (thn (ha.run pos pins _ σ H _ (I.tok _) h) ?_) he hpl
  rintro us s1 ⟨vs, H1, J, r, a, C, fI, ws, rfl, hl, T, at1, q⟩
  cases r with
  | cons ra rr =>
    cases (show _ = Value.ref a from ra)
    refine init_ie T J at1 ?_ fun s' J' => ⟨.non, H1, J', rfl, q⟩
    have := Paired.length rr
    rw [sizeLine_eq]
    omega
/-- self.f = e -/
def tKeep (K : PySem.W.Frag) (f : Str) (to te : TE) : TS := fun D σ H => te σ H fun y H1 => to σ H1 fun x H2 => ∃ a C fI : Addr, x = .ref a ∧ Kept K C fI f ∧ H2 a = some (exo a C none) ∧ ∀ d, H2 d = none → d ≠ a → D.nx σ (upd (upd H2 d (exd d [(f, y)])) a (exo a C (some d)))
theorem ps_keep (ho : PE X o to) (he : PE X e te) (hs : swapsWith e (some (.Attribute o f p')) pos.line X.env = pure false := by rfl) : PS X (.Assign [.Attribute o f p'] e pos) (tKeep X.K f to te) := by
  constructor
  intro pins s σ H D I h
  refine plainObj_wpAny_Assign_Attribute (thn (he.run pins s σ H _ I h) ?_) hs
  rintro v s1 ⟨y, H1, I1, r1, q1⟩
  refine thn (ho.run pins s1 σ H1 _ I1 q1) ?_
  rintro u s2 ⟨x, H2, I2, r2, a, C, fI, rfl, T, ha, q⟩
  cases (show u = Value.ref a from r2)
  exact keep_it T I2 ha r1 fun d s' n ne J => ⟨σ, _, J, q d n ne⟩
/-- what __init__ does -/
def spKeepI (C : Addr) (f : Str) : Sp := fun vs H Q _ => ∃ (a : Addr) (y : V), vs = [.ref a, y] ∧ H a = some (exo a C none) ∧ ∀ d, H d = none → d ≠ a → Q .non (upd (upd H d (exd d [(f, y)])) a (exo a C (some d)))
/-- N(e): the refusal with its field, the dict at d new -/
def tMkK (C : Addr) (f : Str) (ta : TA) : L2.St → Hp → XK → Prop := fun σ H Q => ta σ H fun vs H1 => ∃ y, vs = [y] ∧ ∀ d, H1 d = none → Q (.ref C) (some d) (upd H1 d (.xd [(f, y)]))
theorem pmk_keep {x : Str} {k : Nat} {fd : FuncData} {ps : List Str} (T : Kept X.K C fI f) (F1 : FnOk X.prog X.w X.K X.mg X.base CX0 k fI fd ps (spKeepI C f)) (hr : Room (k + 1) X.A) (hb : Binds X.K fd ps []) (hg : Gl X x) (hm : X.mg x = some (.ref C)) (ha : PA X [e] ta)
    (hdb : (x == ("__debug__" : Str)) = false := by decide) (he : starEach (e :: []) X.env = (false, eval e X.env) :: starEach [] X.env := by rfl) (hpl : (backTo pos (starEach [] X.env)).any (·.1) = false := by rfl) :
    PMk X (.Call (.Name x p) [e] [] pos) (tMkK C f ta) := by
  intro pins s0 σ H0 Q I0 h0
  refine wpAny_Call_Name_kw (ld_glob I0 hg hm ?_ hdb)
  refine PySem.W.callWith_K (h₀ := X.base) I0.ok.mod.kin T.keep (thn (ha.run pos pins s0 σ H0 _ I0 h0) ?_) he hpl
  rintro us s ⟨vs, H, I, r, y, rfl, q⟩
  refine ⟨I.kIn, ?_⟩
  obtain ⟨nm, N, qn, bs, bm, hdct, sn, sub, ab, col, dd, k0, k1, k2, k3, k5, at1, cont⟩ := PySem.W.excInit_of I.kIn T.new
  obtain ⟨hp, g, dr, tk, os⟩ := s
  have na : H (hp.objs.size + 1) = none := I.hok.fresh (Nat.le_succ _)
  have old : ∀ b u, hp.get? b = some u → ((hp.push (PySem.W.kdv_tup us)).push (HandSPX.excO C hp.objs.size)).get? b = some u := fun b u q => Heap.get?_push_of_some _ (Heap.get?_push_of_some _ q)
  have at2 : ((hp.push (PySem.W.kdv_tup us)).push (HandSPX.excO C hp.objs.size)).get? (hp.objs.size + 1) = some (HandSPX.excO C hp.objs.size) := by heap_get
  have J : Inv X pins σ (upd H (hp.objs.size + 1) (exo (hp.objs.size + 1) C none)) ⟨(hp.push (PySem.W.kdv_tup us)).push (HandSPX.excO C hp.objs.size), g, dr, tk, os⟩ := I.laid (t' := tk) old (Nat.le_succ _) (exo_ok at2)
  have rr : Vals [V.ref (hp.objs.size + 1), y] (Value.ref (hp.objs.size + 1) :: us) := .cons rfl r
  have sp : spKeepI C f [V.ref (hp.objs.size + 1), y] (upd H (hp.objs.size + 1) (exo (hp.objs.size + 1) C none)) (fun v H2 => v = .non ∧ ∃ d, H d = none ∧ d ≠ hp.objs.size + 1 ∧ H2 = upd (upd (upd H (hp.objs.size + 1) (exo (hp.objs.size + 1) C none)) d (exd d [(f, y)])) (hp.objs.size + 1) (exo (hp.objs.size + 1) C (some d))) (fun _ _ _ => False) :=
    ⟨_, y, rfl, upd_same, fun d nd ne => ⟨rfl, d, by rw [upd_ne ne] at nd; exact nd, ne, rfl⟩⟩
  have hl : (Value.ref (hp.objs.size + 1) :: us).length = ps.length := rr.length.symm.trans (F1.len _ _ _ _ sp)
  have bi := hb _ (Value.ref (hp.objs.size + 1) :: us) J.kIn (by rw [List.append_nil]; exact hl)
  rw [List.append_nil] at bi
  have lu : us.length ≤ sizeLine := by
    rw [← Paired.length r]
    show 1 ≤ sizeLine
    decide
  refine wpAny_call (HandSPX.call_own PySem.F.excBase_IndexError cont at1 (PySem.W.looks_findIn I.kIn T.ini) (fun self => PySem.W.bind_fn I.kIn self T.fn) lu
    (codeAny_mono (F1.run _ X.stack _ _ ⟨Value.ref (hp.objs.size + 1) :: us, []⟩ _ _ _ _ (hr.make C us []) (J.env0.make C us []) bi rr sp) ?_))
  intro res s' z
  match res, z with
  | .error er, z =>
    have no : Passes CX0 X (fun _ _ _ => False) := fun _ _ _ _ _ _ _ h => h.elim
    exact no pins σ _ _ er s' J z
  | .ok (.ret u), z =>
    obtain ⟨v, H2, os2, bare2, un2, hok2, rv, rfl, d, nd, ne, rfl⟩ := z
    obtain ⟨hz, gz, dz, tz, oz⟩ := s'
    refine ⟨rv, mk_end (d := d) (fs := [(f, y)]) (raises_own T.xf.exC T.ty) I (Nat.le_succ _) old un2 hok2 os2 bare2 upd_same (by rw [upd_ne ne, upd_same]) nd ?_⟩
    rw [gone_dict ne na]
    exact q d nd
  | .ok .next, z => exact z.elim
  | .ok .brk, z => exact z.elim
  | .ok .cont, z => exact z.elim
end
end HopR

set_option Elab.async false
set_option linter.all false
set_option maxRecDepth 100000
set_option maxHeartbeats 4000000
namespace HopR
open PySem PySem.Spec PyProof.Rows L2
/-! ### a kept refusal that has a field -/
section
variable {X : Cx}
/-- what H says of a kept exception of the class at D with the fields fs -/
def Fld (H : Hp) (a D : Addr) (fs : List (Str × V)) : Prop := ∃ d, H a = some (ExH (.ref D) (some d) a) ∧ H d = some (.xd fs)
theorem fld_at {pins : List (Addr × Obj)} {σ : L2.St} {H : Hp} {s : Shared} {a D : Addr} {fs : List (Str × V)} (I : Inv X pins σ H s) (hf : Fld H a D fs) : ∃ oe od, PySem.W.InstAt s.heap a oe D (some od) ∧ ∀ n v, fs.lookup n = some v → ∃ u, PySem.W.lookIn n od = some (some u) ∧ RelV v u := by
  obtain ⟨d, h1, h2⟩ := hf
  obtain ⟨⟨oe, vs, e, ⟨z1, z2⟩, q⟩, _, _⟩ := I.hok a _ h1
  have ok : ObjOk X.prog X.w H s.heap d (.xd fs) := I.hok d _ h2
  obtain ⟨mA, ns, rel⟩ := ok
  obtain ⟨od, at2, look⟩ := lookIn_ns ns
  refine ⟨oe, od, ⟨e, z1, ?_, by rw [z2]; exact at2⟩, fun n v l => ?_⟩
  · unfold PySem.W.notCls
    rw [q]
  · have r := rel n
    rw [l] at r
    obtain ⟨u, hu, ru⟩ := RelO.some_of r
    exact ⟨u, by rw [look, hu], ru⟩
theorem kit_fld {K : PySem.W.Frag} {a D : Addr} {oe : Obj} {od : Option Obj} (C : ExcC K D) : PySem.W.KitX K (.ref a) (.ref D) (fun h => PySem.W.InstAt h a oe D od) :=
  PySem.W.kitx_exc (by obtain ⟨cd, hc, _⟩ := PySem.W.any_some C.hd; rw [hc]; rfl) C.hg C.hk C.hs C.ha C.hn C.ht C.hm
/-- isinstance(kept, c) -/
def rIsF (K : PySem.W.Frag) : List V → Hp → VK → Prop := fun xs H Q => ∃ (a D : Addr) (fs : List (Str × V)) (c : V) (cv : Value) (b : Bool), xs = [.ref a, c] ∧ Fld H a D fs ∧ ExcC K D ∧ ClsV c cv ∧ PySem.W.kitOne K (.ref D) cv = some b ∧ Q (.bl b) H
theorem call_isF : CallR X (.builtin "isinstance") (rIsF X.K) := by
  rintro pins s σ H xs us Q I r ⟨a, D, fs, c, cv, b, rfl, hf, C, kc, e, q⟩
  obtain ⟨u1, u2, rfl, r1, r2⟩ := vals2 r
  obtain rfl := kc.eq r2
  cases (show u1 = Value.ref a from r1)
  obtain ⟨oe, od, J, _⟩ := fld_at I hf
  exact PySem.W.kia_one (kit_fld C) I.kIn J e (fun z => nomatch z) fun tk => ⟨.bl b, H, I.tok tk, rfl, q⟩
/-- isinstance(kept, (c1, c2, ..)) -/
def rIsFT (K : PySem.W.Frag) : List V → Hp → VK → Prop := fun xs H Q => ∃ (a D tp : Addr) (fs : List (Str × V)) (cs : List V) (ws : List Value) (b : Bool), xs = [.ref a, .ref tp] ∧ Fld H a D fs ∧ ExcC K D ∧ H tp = some (.tup cs) ∧ Paired ClsV cs ws ∧ PySem.W.kitAny K (.ref D) ws = some b ∧ Q (.bl b) H
theorem call_isFT : CallR X (.builtin "isinstance") (rIsFT X.K) := by
  rintro pins s σ H xs us Q I r ⟨a, D, tp, fs, cs, ws, b, rfl, hf, C, ht, kc, e, q⟩
  obtain ⟨u1, u2, rfl, r1, r2⟩ := vals2 r
  cases (show u1 = Value.ref a from r1)
  cases (show u2 = Value.ref tp from r2)
  obtain ⟨oe, od, J, _⟩ := fld_at I hf
  have hT : ObjOk X.prog X.w H s.heap tp (.tup cs) := I.hok tp _ ht
  obtain ⟨_, its, rv, ⟨oc, odd, dt, osl⟩, g1, g2, n, g3⟩ := hT
  obtain rfl := ClsV.all kc rv
  simp only at g2 g3
  subst g2 g3
  exact PySem.W.kia_tup (kit_fld C) I.kIn J g1 e (fun z => nomatch z) fun tk => ⟨.bl b, H, I.tok tk, rfl, q⟩
/-- kept.n -/
def tFldH (K : PySem.W.Frag) (n : Str) (te : TE) : TE := fun σ H Q => te σ H fun x H1 => ∃ (a D : Addr) (fs : List (Str × V)) (v : V), x = .ref a ∧ Fld H1 a D fs ∧ XfC K D ∧ PySem.W.findIn K (.ref D) n = some none ∧ fs.lookup n = some v ∧ Q v H1
theorem pe_fldH {e : Expr} {te : TE} {pos : Pos} {n : Str} (he : PE X e te) (hb : attributeBase e n X.env (eval e X.env) = eval e X.env := by rfl) : PE X (.Attribute e n pos) (tFldH X.K n te) := by
  constructor
  intro pins s σ H Q I h
  refine attr_of hb (thn (he.run pins s σ H _ I h) ?_)
  rintro u s1 ⟨x, H1, I1, rx, a, D, fs, v, rfl, hf, T, no, l, q⟩
  cases (show u = Value.ref a from rx)
  obtain ⟨oe, od, J, look⟩ := fld_at I1 hf
  obtain ⟨w, e1, e2⟩ := look n v l
  exact HandSPX.exc_get I1.kIn J T.ga T.gg T.exC (PySem.W.findObj_own T.hdC no rfl e1) (handed_of e2) ⟨v, H1, I1.tok _, e2, q⟩
end
end HopR

set_option Elab.async false
set_option linter.all false
set_option maxRecDepth 100000
namespace HopR
open PySem PySem.Spec PyProof.Rows L2
/-! ### what repr tells, of data and of the empty dict -/
section
variable {X : Cx}
def rReprE : List V → Hp → VK → Prop := fun vs H Q => ∃ a : Addr, vs = [.ref a] ∧ H a = some (.dK []) ∧ Q (.str (PyData.shown (.dict []))) H
theorem cr_reprE (hG : X.A.guards = some []) (hu : X.A.units + 66 < cLine) : CallR X (.builtin "repr") rReprE := by
  rintro pins s σ H _ us Q I r ⟨a, rfl, ha, q⟩
  obtain ⟨u, rfl, rv⟩ := vals1 r
  cases (show u = Value.ref a from rv)
  obtain ⟨_, hsys, vs, kv, o, es, ep, at1, at2, at3, at4, at5, at6⟩ := (show ObjOk X.prog X.w H s.heap a (.dK []) from I.hok a _ ha)
  cases kv
  have e0 : es.toList = [] := by
    generalize es.toList = l at at5
    cases at5
    rfl
  have rd : Reads s.heap (.ref a) (.dict []) (a :: [] ++ []) := Reads.dict at1 at2.1 at3 (by rw [e0]; exact .nil) (by rw [e0]; exact .nil)
  refine repr_of_reads' rd (by decide) (fun _ hm => ?_) hG (by show X.A.units + (1 + 1) < cLine; omega) (fun _ _ e => e) (fun h' t tk hk => ⟨.str _, H, I.kept hk, ⟨_, rfl⟩, q⟩) (by decide +kernel)
  have : sysModules = a := by simpa using hm
  rw [this] at hsys
  simp at hsys
/-- repr(y): data, or {} -/
def rReprA (K : PySem.W.Frag) : List V → Hp → VK → Prop := fun vs H Q => rReprD K vs H Q ∨ rReprE vs H Q
theorem cr_reprA (hG : X.A.guards = some []) (hu : X.A.units + 66 < cLine) : CallR X (.builtin "repr") (rReprA X.K) := by
  intro pins s σ H xs us Q I r h
  rcases h with h | h
  · exact cr_reprD hG hu pins s σ H xs us Q I r h
  · exact cr_reprE hG hu pins s σ H xs us Q I r h
end
/-- repr tells z of y, now and later -/
def ShownA (K : PySem.W.Frag) (H : Hp) (y : V) (z : Str) : Prop := ∀ H', Same H H' → ∀ Q : VK, Q (.str z) H' → rReprA K [y] H' Q
theorem shownA_same {K : PySem.W.Frag} {H H' : Hp} {y : V} {z : Str} (s : Same H H') (h : ShownA K H y z) : ShownA K H' y z := fun H2 s2 => h H2 (s.trans s2)
theorem shownA_of {K : PySem.W.Frag} {H : Hp} {y : V} {d : PyData} (h1 : ∀ H', Same H H' → Dp K H' y d) (h2 : d.showable = true) (h3 : d.hasDict = false) (h4 : d.depth ≤ 64) (h5 : d.shown.length ≤ sizeLine) : ∃ z, ShownA K H y z := ⟨d.shown, fun H' s Q q => .inl ⟨y, d, rfl, h1 H' s, h2, h3, h4, h5, q⟩⟩
theorem shownA_non {K : PySem.W.Frag} {H : Hp} : ∃ z, ShownA K H .non z := shownA_of (d := .none) (fun _ _ => .non) rfl rfl (by decide) (by decide +kernel)
theorem shownA_bl {K : PySem.W.Frag} {H : Hp} {b : Bool} : ∃ z, ShownA K H (.bl b) z := shownA_of (d := .bool b) (fun _ _ => .bl b) rfl rfl (by show 0 ≤ 64; decide) (by cases b <;> decide +kernel)
theorem shownA_0 {K : PySem.W.Frag} {H : Hp} : ∃ z, ShownA K H (.str "0") z := shownA_of (d := .str "0") (fun _ _ => .str "0") rfl rfl (by show 0 ≤ 64; decide) (by decide +kernel)
theorem shownA_int {K : PySem.W.Frag} {H : Hp} {i : Int} (h : i.natAbs < 1000000000000) : ∃ z, ShownA K H (.int i) z := by
  have o : Okd (.int i) 0 41 := Okd.int h
  exact shownA_of (d := .int i) (fun _ _ => .int i) o.sh o.nd (Nat.le_trans o.dp (by decide)) (o.fits (by decide))
theorem shownA_30 {K : PySem.W.Frag} {H : Hp} : ∃ z, ShownA K H (.int 1000000000000000000000000000000) z := shownA_of (d := .int _) (fun _ _ => .int _) (by decide +kernel) rfl (by show 0 ≤ 64; decide) (by decide +kernel)
theorem shownA_lst {K : PySem.W.Frag} {H : Hp} {p : Addr} {k : Nat} (h : k < 1000) (e : H p = some (.lst [wv k])) : ∃ z, ShownA K H (.ref p) z := by
  have o : Okd (.list ([k].map dw)) 1 (42 * 1) := (Okds.ints (ks := [k]) (k := 0) fun j hj => by
    obtain rfl := List.mem_singleton.mp hj
    omega).list
  exact shownA_of (d := .list ([k].map dw)) (fun H' s => .lst (SqL.of (s _ _ e)) (dp_walls [k])) o.sh o.nd (Nat.le_trans o.dp (by decide)) (o.fits (by decide))
theorem shownA_tup {K : PySem.W.Frag} {H : Hp} {p : Addr} {k : Nat} (h : k < 1000) (e : H p = some (.tup [wv k])) : ∃ z, ShownA K H (.ref p) z := by
  have o : Okd (.tuple ([k].map dw)) 1 (42 * 1) := (Okds.ints (ks := [k]) (k := 0) fun j hj => by
    obtain rfl := List.mem_singleton.mp hj
    omega).tuple
  exact shownA_of (d := .tuple ([k].map dw)) (fun H' s => .tup (SqT.of (s _ _ e)) (dp_walls [k])) o.sh o.nd (Nat.le_trans o.dp (by decide)) (o.fits (by decide))
theorem shownA_dK {K : PySem.W.Frag} {H : Hp} {p : Addr} (e : H p = some (.dK [])) : ∃ z, ShownA K H (.ref p) z := ⟨_, fun H' s Q q => .inr ⟨p, rfl, s _ _ e, q⟩⟩
end HopR

set_option Elab.async false
set_option linter.all false
set_option maxRecDepth 100000
namespace HopR
open PySem PySem.Spec PyProof.Rows L2
/-! ### C(e, ..) in a try, where __init__ may raise -/
def tMakeS (C : Addr) (sp : Sp) (E : L2.St → XK) (t : TA) : TE := fun σ H Q => t σ H fun vs H1 => ∀ x dx, H1 x = none → H1 dx = none → dx ≠ x → sp (.ref x :: vs) (upd (upd H1 dx (.own x)) x (.ins C dx [])) (fun v H2 => v = .non ∧ Q (.ref x) H2) (E σ)
section
variable {X : Cx} {CX : CXT} {k : Nat} {f C : Addr} {fd : FuncData} {ps : List Str} {sp : Sp} {E : L2.St → XK} {x : Str} {p pos : Pos} {e : Expr} {es : List Expr} {t : TA}
theorem pe_makeS (M : Mk X.K C f) (F : FnOk X.prog X.w X.K X.mg X.base CX k f fd ps sp) (hr : Room (k + 1) X.A) (hg : Gl X x) (hm : X.mg x = some (.ref C)) (hb : Binds X.K fd ps []) (hx : ∀ σ, PassesAt CX X σ (E σ))
    (ha : PA X (e :: es) t) (hdb : (x == ("__debug__" : Str)) = false := by decide) (he : starEach (e :: es) X.env = (false, eval e X.env) :: starEach es X.env := by rfl) (hpl : (backTo pos (starEach es X.env)).any (·.1) = false := by rfl) :
    PE X (.Call (.Name x p) (e :: es) [] pos) (tMakeS C sp E t) := by
  constructor
  intro pins s0 σ H0 Q I0 h0
  refine wpAny_Call_Name_kw (ld_glob I0 hg hm ?_ hdb)
  refine PySem.W.callWith_K (h₀ := X.base) I0.ok.mod.kin M.kp ?_ he hpl
  refine thn (ha.run pos pins s0 σ H0 _ I0 h0) ?_
  rintro us s ⟨vs, H, I, r, h⟩
  refine ⟨I.kIn, ?_⟩
  have hq := h (s.heap.objs.size + 1) s.heap.objs.size (I.hok.fresh (Nat.le_succ _)) (I.hok.fresh (Nat.le_refl _)) (Nat.ne_of_lt (Nat.lt_succ_self _))
  have J := Inv.made (C := C) I
  have r2 : Vals (V.ref (s.heap.objs.size + 1) :: vs) (Value.ref (s.heap.objs.size + 1) :: us) := .cons rfl r
  have hl : (Value.ref (s.heap.objs.size + 1) :: us).length = ps.length := r2.length.symm.trans (F.len _ _ _ _ hq)
  have hbi := hb _ (Value.ref (s.heap.objs.size + 1) :: us) J.kIn (by rw [List.append_nil]; exact hl)
  rw [List.append_nil] at hbi
  have run := F.run _ X.stack _ _ ⟨Value.ref (s.heap.objs.size + 1) :: us, []⟩ _ _ _ (E σ) (hr.make C us []) (J.env0.make C us []) hbi r2 hq
  refine wpAny_call (make_map (f := f) I.kIn M.makes M.init (beq_iff_eq.mp M.fn) (codeAny_mono run ?_))
  intro r s' hq'
  match r, hq' with
  | .error e, hq' => exact hx σ pins _ _ e s' J hq'
  | .ok (.ret u), hq' =>
    obtain ⟨v, H', I3, rv, ev, q3⟩ := J.after hq'
    subst ev
    exact ⟨rv, V.ref (s.heap.objs.size + 1), H', I3, rfl, q3⟩
  | .ok .next, hq' => exact hq'.elim
  | .ok .brk, hq' => exact hq'.elim
  | .ok .cont, hq' => exact hq'.elim
end
end HopR

set_option Elab.async false
set_option linter.all false
set_option maxRecDepth 100000
namespace HopR
open PySem PySem.Spec PyProof.Rows L2
/-! ### o.m(e, ..) in a try, where the method may raise: the wish may speak of the names' values -/
def tMethT (C : Addr) (m : Str) (sp : Sp) (E : L2.St → XK) (to : TE) (t : TA) : TE := fun σ H Q => to σ H fun x H1 => ∃ a dx fs, x = .ref a ∧ H1 a = some (.ins C dx fs) ∧ fs.lookup m = none ∧ t σ H1 fun vs H2 => sp (.ref a :: vs) H2 Q (E σ)
section
variable {X : Cx} {CX : CXT} {k : Nat} {f C : Addr} {fd : FuncData} {ps : List Str} {sp : Sp} {E : L2.St → XK} {m : Str} {apos pos : Pos} {o e : Expr} {es : List Expr} {to : TE} {t : TA}
theorem pe_methT {pl : Sem Bool} (ho : PE X o to) (c : Cls X.K C) (hm : Meth X.K C m f) (F : FnOk X.prog X.w X.K X.mg X.base CX k f fd ps sp) (hr : Room k X.A) (hb : Binds X.K fd ps []) (hx : ∀ σ, PassesAt CX X σ (E σ)) (ha : PA X (e :: es) t)
    (h1 : starEach (e :: es) X.env = (false, eval e X.env) :: starEach es X.env := by rfl) (h2 : (backTo pos (starEach es X.env)).any (·.1) = false := by rfl)
    (h3 : eval (.Call (.Attribute o m apos) (e :: es) [] pos) X.env = (do
      let ov ← eval o X.env
      standAt apos.atName
      let (g, first) ← holding [ov] (getMethod ov m pl)
      callWith pos g first (backTo pos (starEach (e :: es) X.env)) (backToKw pos (keywordEach [] X.env))) := by rfl) :
    PE X (.Call (.Attribute o m apos) (e :: es) [] pos) (tMethT C m sp E to t) := by
  constructor
  intro pins s0 σ H0 Q I0 h0
  refine PySem.W.methodCall_KW (pl := pl) (thn (ho.run pins s0 σ H0 _ I0 h0) ?_) h3
  rintro u s1 ⟨x, H1, I1, rx, a, dx, fs, rfl, ea, no, q⟩
  cases (show u = Value.ref a from rx)
  refine getmeth_ok I1 ea c hm no ?_
  refine PySem.W.callWith_K (first := [.ref a]) (h₀ := X.base) I0.ok.mod.kin hm.kp (thn (ha.run pos pins s1 σ H1 _ I1 q) ?_) h1 h2
  rintro us s ⟨vs, H, I, r, prom⟩
  refine ⟨I.kIn, ?_⟩
  have vals : Vals (V.ref a :: vs) (Value.ref a :: us) := .cons rfl r
  have len : (Value.ref a :: us).length = ps.length := vals.length.symm.trans (F.len _ _ _ _ prom)
  have bound := hb s (Value.ref a :: us) I.kIn (by rw [List.append_nil]; exact len)
  rw [List.append_nil] at bound
  refine wpAny_call (codeAny_mono (F.run X.A X.stack s H ⟨Value.ref a :: us, []⟩ _ _ Q (E σ) hr I.env0 bound vals prom) ?_)
  intro res s' z
  match res, z with
  | .error er, z => exact hx σ pins _ _ er s' I z
  | .ok (.ret _), z => exact I.after z
  | .ok .next, z => exact z.elim
  | .ok .brk, z => exact z.elim
  | .ok .cont, z => exact z.elim
end
end HopR

set_option Elab.async false
set_option linter.all false
set_option maxRecDepth 100000
namespace HopR
open PySem PySem.Spec PyProof.Rows L2
/-! ### f(e, .., k = v, ..) in a try whose wish may speak of the names' values -/
def tCallT (n m : Nat) (sp : Sp) (gV : List V → List V → List V) (E : L2.St → XK) (t tk : TA) : TE := fun σ H Q => t σ H fun vs H1 => tk σ H1 fun zs H2 => vs.length = n ∧ zs.length = m ∧ sp (gV vs zs) H2 Q (E σ)
section
variable {X : Cx} {CX : CXT} {k n : Nat} {f : Addr} {fd : FuncData} {ps ks : List Str} {sp : Sp} {E : L2.St → XK} {x : Str} {p pos : Pos} {e : Expr} {es : List Expr} {kws : List Keyword} {t tk : TA} {g : List Value → List Value → List Value} {gV : List V → List V → List V}
theorem pe_callT (G : FnOk X.prog X.w X.K X.mg X.base CX k f fd ps sp) (room : Room k X.A) (glob : Gl X x) (here : X.mg x = some (.ref f)) (kp : PySem.W.keepIn X.K (.ref f) = true) (b : KBn X.K fd ps n ks g gV) (hx : ∀ σ, PassesAt CX X σ (E σ))
    (args : PA X (e :: es) t) (kargs : PK X kws tk) (named : (backToKw pos (keywordEach kws X.env)).all (·.1.isSome) = true := by rfl) (names : (backToKw pos (keywordEach kws X.env)).filterMap (·.1) = ks := by rfl)
    (nodbg : (x == ("__debug__" : Str)) = false := by decide) (first : starEach (e :: es) X.env = (false, eval e X.env) :: starEach es X.env := by rfl)
    (plain : ((backTo pos (starEach (e :: es) X.env)).any (·.1) || (backToKw pos (keywordEach kws X.env)).any (·.1.isNone)) = false := by rfl) :
    PE X (.Call (.Name x p) (e :: es) kws pos) (tCallT n ks.length sp gV E t tk) := by
  constructor
  intro pins s0 σ H0 Q I0 h0
  refine wpAny_Call_Name_kw (ld_glob I0 glob here ?_ nodbg)
  refine PySem.W.callWith_KW (h₀ := X.base) I0.ok.mod.kin kp named (thn (args.run pos pins s0 σ H0 _ I0 h0) ?_) plain first
  rintro us s1 ⟨vs, H1, I1, r1, q1⟩
  refine thn (kargs.run pos pins s1 σ H1 _ I1 q1) ?_
  rintro ws s2 ⟨zs, H2, I2, r2, l1, l2, prom⟩
  refine ⟨I2.kIn, ?_⟩
  rw [names]
  have bound := b.to s2 us ws I2.kIn (r1.length ▸ l1) (r2.length ▸ l2)
  refine wpAny_call (codeAny_mono (G.run X.A X.stack s2 H2 ⟨us, ks.zip ws⟩ _ _ Q (E σ) room I2.env0 bound (b.rel r1 r2) prom) ?_)
  intro res s' z
  match res, z with
  | .error er, z => exact hx σ pins _ _ er s' I2 z
  | .ok (.ret _), z => exact I2.after z
  | .ok .next, z => exact z.elim
  | .ok .brk, z => exact z.elim
  | .ok .cont, z => exact z.elim
end
end HopR

set_option Elab.async false
set_option linter.all false
set_option maxRecDepth 100000
set_option exponentiation.threshold 200000
namespace Hop
open PySem L2 HopR HopT HopH
structure HqDefs (K : PySem.W.Frag) (mg : Str → Option Value) : Prop where
  D : HpDefs K mg
  h : ∃ r s, Fn K mg "is_heap" sIsHeap ["row", "thing"] r s
  n : ∃ r s, Fn K mg "need_heap" sNeedHeap ["row", "thing"] r s
section
variable {P : Program} {w : World} {K : PySem.W.Frag} {mg : Str → Option Value} {base : Heap} {C d : Addr} {es : Array DictEntry} {n : Nat}
variable {NR NH NN TM : Addr}
def spNeedHeap : Sp := fun vs H Q _ => ∃ bs p ts, vs = [.str (tx bs), .ref p] ∧ Row bs ∧ TL t3v H p ts ∧ ts.length ≤ 1000 ∧ isHeapB bs ts = true ∧ ∀ H', Same H H' → Q .non H'
theorem scNeedHeap : FnScope ["row", "thing"] ["row", "thing"] (defScope sNeedHeap) := ⟨rfl, rfl, rfl, by decide +kernel, rfl, by decide +kernel, by decide +kernel⟩
theorem ok_needheap {f : Addr} {fd : FuncData} {k : Nat} (F : Fun K "need_heap" "need_heap" sNeedHeap f fd) (N : HqDefs K mg) (TP : TxtP K mg C) (T : TxtR K w mg d es n) (TH : TxtH mg) (ke : keysAre es) : FnOk P w K mg base CX0 (k + 6) f fd ["row", "thing"] spNeedHeap := by
  obtain ⟨r1, s1, N1⟩ := N.h
  have G1 : FnOk P w K mg base CX0 (k + 5) r1 s1 ["row", "thing"] (spIsHeap K) := ok_isheap N1.F N.D TP T TH ke
  refine F.ok scNeedHeap (fun vs H Q E h => ?_) (fun cdv A outer s H vs Q E hr h => ?_)
  · obtain ⟨bs, p, ts, rfl, _⟩ := h
    rfl
  · obtain ⟨bs, p, ts, rfl, hR, tl, hl, hb, q⟩ := h
    refine ⟨_, PSs.nox (pss_one (ps_if (pt_not (pt_val (pe_call G1 hr (by rfl) N1.g N1.F.kp N1.b .nil pass0 (pa_cons (pv 0) (pa_cons (pv 1) pa_nil))))) (pss_one ps_never) pss_nil)), ?_⟩
    exact ⟨.str (tx bs), rfl, .ref p, rfl, bs, .ref p, true, rfl, hR, .inr (.inl ⟨p, ts, rfl, tl, hl, hb.symm⟩), fun H1 s1 => ⟨true, rfl, iteF (q H1 s1)⟩⟩
theorem vals_take1 {zs : List V} {ws : List Value} (h : Vals zs ws) : Vals (zs.take 1) (ws.take 1) := by
  cases h with
  | nil => exact .nil
  | cons r t => exact .cons r .nil
theorem vals_drop1 {zs : List V} {ws : List Value} (h : Vals zs ws) : Vals (zs.drop 1) (ws.drop 1) := by
  cases h with
  | nil => exact .nil
  | cons r t => exact t
/-- the refusals over ValueError -/
structure Ev (K : PySem.W.Frag) (mg : Str → Option Value) (NR NH NN TM : Addr) : Prop where
  gNR : mg "NoRow" = some (.ref NR)
  gNH : mg "NoHeap" = some (.ref NH)
  gNN : mg "NoNumber" = some (.ref NN)
  gTM : mg "TooMany" = some (.ref TM)
  R : Xc K NR bmV "ValueError.__new__"
  H : Xc K NH bmV "ValueError.__new__"
  N : Xc K NN bmV "ValueError.__new__"
  M : Xc K TM bmV "ValueError.__new__"
def spIsRowB (K : PySem.W.Frag) : Sp := fun vs H Q _ => ∃ x b, vs = [x] ∧ RowB K H x b ∧ ∀ H', Same H H' → Q (.bl b) H'
theorem ok_isrowB {f : Addr} {fd : FuncData} {k : Nat} (F : Fun K "is_row" "is_row" sIsRow f fd) (T : TxtR K w mg d es n) (ke : keysAre es) : FnOk P w K mg base CX0 (k + 1) f fd ["thing"] (spIsRowB K) := by
  refine F.ok scIsRow (fun vs H Q E h => ?_) (fun cdv A outer s H vs Q E hr h => ?_)
  · obtain ⟨x, b, rfl, _⟩ := h
    rfl
  · obtain ⟨x, b, rfl, hb, q⟩ := h
    have nd := scIsRow.nd
    obtain ⟨tm, gm⟩ := T.most
    refine ⟨_, pss_cons (ps_if (PW.pt (pw_or (pt_not (pt_val (pe_callB call_isi (by rfl) T.isi (by decide +kernel) (pa_cons (pv 0) (pa_cons (pe_bltn (v := .ty "str") (by rfl) T.str (by decide +kernel) rfl) pa_nil)))))
          (pw_or (pt_cmpR op_lt (pe_callB call_len_str (by rfl) T.len PySem.boot_len (pa_cons (pv 0) pa_nil)) pe_int (nomark _))
          (pw_or1 (pt_cmpR op_gt (pe_callB call_len_str (by rfl) T.len PySem.boot_len (pa_cons (pv 0) pa_nil)) (pe_glob (v := .int 30) (by rfl) gm ⟨_, rfl⟩) (nomark _))))))
        (pss_one (ps_ret pe_bl)) pss_nil)
      (pss_one (ps_ret (pe_callB (cr_all rfl) (by rfl) T.all (by decide +kernel) (pa_cons
        (pe_lc (own := [("sign", 1)]) (g := gName 1) (tt := tYes) (te := tOp (rInKd K d) (tVar 1) (tC (.ref d))) rfl nd (pi_str (pv 0)) (blkOk_by (own := [("sign", 1)]) (N := ["thing", "sign"]) (sc := defScope sIsRow) (by decide +kernel))
          (fun _ _ _ _ _ => pg_name (i := 1) nd rfl (Or.inl rfl)) (fun _ _ _ _ _ => pts_nil)
          (fun _ _ _ _ _ => pe_cmpR (op_inKd T.D) (pv 1) (pe_glob (v := .ref d) (by rfl) T.os rfl) (by rfl)))
        pa_nil)))), ?_⟩
    rcases hb with ⟨⟨t, ty, kt⟩, rfl⟩ | ⟨z, rfl, hz, rfl⟩
    · exact ⟨x, rfl, x, .ty "str", t, .type "str", false, rfl, .ty _, ty, kt, false, rfl, q H (Same.refl _)⟩
    · refine ⟨.str z, rfl, .str z, .ty "str", .type "str", .type "str", true, rfl, .ty _, .base (.str _), kit_ty (by decide +kernel), true, rfl, iteF ?_⟩
      refine ⟨.str z, rfl, z, rfl, fit hz, _, _, rfl, rfl, _, rfl, ?_⟩
      by_cases h1 : z.length < 1
      · rw [decide_eq_true (show (z.length : Int) < 1 by omega)]
        have e : isRowB z = false := by
          unfold isRowB
          rw [decide_eq_false (by omega)]
          rfl
        rw [e] at q
        exact q H (Same.refl _)
      rw [decide_eq_false (show ¬ (z.length : Int) < 1 by omega)]
      refine iteF ⟨.str z, rfl, z, rfl, fit hz, _, _, rfl, rfl, _, rfl, ?_⟩
      by_cases h2 : 30 < z.length
      · rw [decide_eq_true (show (z.length : Int) > 30 by omega)]
        have e : isRowB z = false := by
          unfold isRowB
          rw [decide_eq_false (show ¬ z.length ≤ 30 by omega)]
          simp
        rw [e] at q
        exact q H (Same.refl _)
      rw [decide_eq_false (show ¬ (z.length : Int) > 30 by omega)]
      refine iteF ⟨.str z, rfl, z, rfl, fun D hD => ?_⟩
      refine lc_it walk_str (fun i H3 => Same H H3 ∧ H3 D = some (.lst (((z.cps.toList.take i).map okc).map V.bl))) ⟨same_upd hD, upd_same⟩ (fun _ _ _ _ => trivial) ?_ ?_
      · rintro i x H3 H' hi ⟨sm, eD⟩ ⟨rfl, c, hc, rfl⟩
        obtain ⟨r, e1, e2⟩ := sign_in T.D.at_ ke c
        refine ⟨rfl, .str ⟨#[c]⟩, rfl, ⟨#[c]⟩, r, rfl, rfl, e1, _, eD, ?_, same_new hD sm, ?_⟩
        · rw [List.length_map, List.length_map]
          refine fit' (Nat.le_trans (List.length_take_le _ _) ?_)
          have : i < z.length := hi
          omega
        · rw [upd_same, e2, List.take_add_one, Array.getElem?_toList, hc, List.map_append, List.map_append]
          rfl
      · rintro H3 ⟨sm, eD⟩
        refine ⟨D, (z.cps.toList.map okc), rfl, SqL.of ?_, ?_⟩
        · rw [eD, List.take_of_length_le (by rw [Array.length_toList]; exact Nat.le_refl _)]
        · have e : (z.cps.toList.map okc).all id = isRowB z := by
            unfold isRowB
            rw [decide_eq_true (show 1 ≤ z.length by omega), decide_eq_true (show z.length ≤ 30 by omega), List.all_map]
            rfl
          rw [e]
          exact q H3 sm
def spNoRow (K : PySem.W.Frag) (NR : Addr) : Sp := fun vs H _ E => ∃ x, vs = [x] ∧ RowB K H x false ∧ ∀ H', Same H H' → E (.ref NR) none H'
theorem ok_norow {f f1 : Addr} {fd fd1 : FuncData} {k : Nat} (F : Fun K "need_row" "need_row" sNeedRow f fd) (N1 : Fn K mg "is_row" sIsRow ["thing"] f1 fd1) (T : TxtR K w mg d es n) (ke : keysAre es) (Z : Ev K mg NR NH NN TM) :
    FnOk P w K mg base (L2.CX P w) (k + 2) f fd ["thing"] (spNoRow K NR) := by
  have G1 : FnOk P w K mg base CX0 (k + 1) f1 fd1 ["thing"] (spIsRowB K) := ok_isrowB N1.F T ke
  refine F.okX scNeed (fun vs H Q E h => ?_) (fun cdv A outer s H vs Q E hr h => ?_)
  · obtain ⟨x, rfl, _⟩ := h
    rfl
  · obtain ⟨x, rfl, hb, q⟩ := h
    refine ⟨_, pss_one (ps_if (pt_not (pt_val (pe_call G1 hr (by rfl) N1.g N1.F.kp N1.b .nil pass0 (pa_cons (pv 0) pa_nil))))
      (pss_one (ps_raise rfl (takes_of rfl rfl rfl rfl) (pmk_own PySem.F.excBase_ValueError Z.R.x Z.gNR Z.R.k (raises_own Z.R.be Z.R.ty) rfl))) pss_nil), ?_⟩
    exact ⟨x, rfl, x, false, rfl, hb, fun H1 s1 => ⟨false, rfl, q H1 s1⟩⟩
theorem HeapB.same {bs : List Bool} {H H' : Hp} {x : V} {b : Bool} (s : Same H H') (h : HeapB K bs H x b) : HeapB K bs H' x b := by
  rcases h with ⟨h, e⟩ | ⟨p, ts, e, t, l, q⟩ | ⟨p, xs, fl, e, ep, l, pf, a, q⟩
  · exact .inl ⟨h.same s, e⟩
  · exact .inr (.inl ⟨p, ts, e, t.same s, l, q⟩)
  · exact .inr (.inr ⟨p, xs, fl, e, s _ _ ep, l, paired_impH (fun _ _ h => h.same s) pf, a, q⟩)
def spNoRow2 (K : PySem.W.Frag) (NR : Addr) : Sp := fun vs H _ E => ∃ x y, vs = [x, y] ∧ RowB K H x false ∧ ∀ H', Same H H' → E (.ref NR) none H'
theorem ok_isheapX {f : Addr} {fd : FuncData} {k : Nat} (F : Fun K "is_heap" "is_heap" sIsHeap f fd) (N : RowDefs K mg) (T : TxtR K w mg d es n) (ke : keysAre es) (Z : Ev K mg NR NH NN TM) : FnOk P w K mg base (L2.CX P w) (k + 3) f fd ["row", "thing"] (spNoRow2 K NR) := by
  obtain ⟨f1, g1, N1⟩ := N.R
  obtain ⟨f2, g2, N2⟩ := N.N
  have G2 : FnOk P w K mg base (L2.CX P w) (k + 2) f2 g2 ["thing"] (spNoRow K NR) := ok_norow N2.F N1 T ke Z
  refine F.okX scIsHeap (fun vs H Q E h => ?_) (fun cdv A outer s H vs Q E hr h => ?_)
  · obtain ⟨x, y, rfl, _⟩ := h
    rfl
  · obtain ⟨x, y, rfl, hx, q⟩ := h
    refine ⟨_, pss_cons (ps_expr (pe_call G2 hr (by rfl) N2.g N2.F.kp N2.b .nil (passes_call (E := E) (takes_of rfl rfl rfl rfl) (fun _ _ _ _ h => h)) (pa_cons (pv 0) pa_nil))) (pss_cons ps_never (pss_one ps_never)), ?_⟩
    exact ⟨x, rfl, x, rfl, hx, q⟩
def spNoHp (K : PySem.W.Frag) (NR NH : Addr) : Sp := fun vs H _ E => ∃ x h, vs = [x, h] ∧ ((RowB K H x false ∧ ∀ H', Same H H' → E (.ref NR) none H') ∨ (∃ bs, x = .str (tx bs) ∧ Row bs ∧ HeapB K bs H h false ∧ ∀ H', Same H H' → E (.ref NH) none H'))
theorem ok_noheap {f : Addr} {fd : FuncData} {k : Nat} (F : Fun K "need_heap" "need_heap" sNeedHeap f fd) (N : HqDefs K mg) (TP : TxtP K mg C) (T : TxtR K w mg d es n) (TH : TxtH mg) (ke : keysAre es) (Z : Ev K mg NR NH NN TM) : FnOk P w K mg base (L2.CX P w) (k + 6) f fd ["row", "thing"] (spNoHp K NR NH) := by
  obtain ⟨r1, s1, N1⟩ := N.h
  have G1 : FnOk P w K mg base CX0 (k + 5) r1 s1 ["row", "thing"] (spIsHeap K) := ok_isheap N1.F N.D TP T TH ke
  have G2 : FnOk P w K mg base (L2.CX P w) (k + 5) r1 s1 ["row", "thing"] (spNoRow2 K NR) := ok_isheapX N1.F N.D.D T ke Z
  refine F.okX scNeedHeap (fun vs H Q E h => ?_) (fun cdv A outer s H vs Q E hr h => ?_)
  · obtain ⟨x, y, rfl, _⟩ := h
    rfl
  · obtain ⟨x, y, rfl, h⟩ := h
    rcases h with ⟨hx, q⟩ | ⟨bs, rfl, hR, hh, q⟩
    · refine ⟨_, pss_one (ps_if (pt_not (pt_val (pe_call G2 hr (by rfl) N1.g N1.F.kp N1.b .nil (passes_call (E := E) (takes_of rfl rfl rfl rfl) (fun _ _ _ _ h => h)) (pa_cons (pv 0) (pa_cons (pv 1) pa_nil))))) (pss_one ps_never) pss_nil), ?_⟩
      exact ⟨x, rfl, y, rfl, x, y, rfl, hx, q⟩
    · refine ⟨_, pss_one (ps_if (pt_not (pt_val (pe_call G1 hr (by rfl) N1.g N1.F.kp N1.b .nil pass0 (pa_cons (pv 0) (pa_cons (pv 1) pa_nil)))))
        (pss_one (ps_raise rfl (takes_of rfl rfl rfl rfl) (pmk_own PySem.F.excBase_ValueError Z.H.x Z.gNH Z.H.k (raises_own Z.H.be Z.H.ty) rfl))) pss_nil), ?_⟩
      exact ⟨.str (tx bs), rfl, y, rfl, bs, y, false, rfl, hR, hh, fun H1 s1 => ⟨false, rfl, q H1 s1⟩⟩
end
end Hop

set_option Elab.async false
set_option linter.all false
set_option maxRecDepth 100000
namespace HopH
/-! ### the heap of a number -/
/-- while the number reaches the count: beads from the top, what is left of them, the rest -/
def popF (c : Nat → Nat) : List Nat → Nat → List Nat × List Nat × Nat
  | [], r => ([], [], r)
  | b :: B, r => if c (B.length + 1) ≤ r then (b :: (popF c B (r - c (B.length + 1))).1, (popF c B (r - c (B.length + 1))).2) else ([], b :: B, r)
def topF (i : Nat) (B : List Nat) : List T3 := match B with
  | [] => []
  | b :: _ => [(b, i, true)]
def hbF : List Bool → Nat → List Nat → Nat → List T3
  | [], _, _, _ => []
  | true :: w, i, B, r => hbF w (i + 1) (i :: B) r
  | false :: w, i, B, r => (popF (HopW.gn w) B r).1.map (fun b => (b, i, false)) ++ (topF i (popF (HopW.gn w) B r).2.1 ++ hbF w (i + 1) (popF (HopW.gn w) B r).2.1 (popF (HopW.gn w) B r).2.2)
/-- behind the taking out -/
def hbG (w : List Bool) (i : Nat) (z : List Nat × List Nat × Nat) : List T3 := z.1.map (fun b => (b, i, false)) ++ (topF i z.2.1 ++ hbF w (i + 1) z.2.1 z.2.2)
theorem hbF_free (w : List Bool) (i : Nat) (B : List Nat) (r : Nat) : hbF (false :: w) i B r = hbG w i (popF (HopW.gn w) B r) := rfl
theorem hbF_bead (w : List Bool) (i : Nat) (B : List Nat) (r : Nat) : hbF (true :: w) i B r = hbF w (i + 1) (i :: B) r := rfl
theorem popF_nil (c : Nat → Nat) (r : Nat) : popF c [] r = ([], [], r) := rfl
theorem popF_yes {c : Nat → Nat} {b : Nat} {B : List Nat} {r : Nat} (h : c (B.length + 1) ≤ r) : popF c (b :: B) r = (b :: (popF c B (r - c (B.length + 1))).1, (popF c B (r - c (B.length + 1))).2) := by
  rw [popF]
  exact if_pos h
theorem popF_no {c : Nat → Nat} {b : Nat} {B : List Nat} {r : Nat} (h : ¬ c (B.length + 1) ≤ r) : popF c (b :: B) r = ([], b :: B, r) := by
  rw [popF]
  exact if_neg h
theorem hbG_yes {w : List Bool} {i b : Nat} {B : List Nat} {r : Nat} (h : HopW.gn w (B.length + 1) ≤ r) : hbG w i (popF (HopW.gn w) (b :: B) r) = (b, i, false) :: hbG w i (popF (HopW.gn w) B (r - HopW.gn w (B.length + 1))) := by
  rw [popF_yes h]
  rfl
theorem hbG_no {w : List Bool} {i b : Nat} {B : List Nat} {r : Nat} (h : ¬ HopW.gn w (B.length + 1) ≤ r) : hbG w i (popF (HopW.gn w) (b :: B) r) = (b, i, true) :: hbF w (i + 1) (b :: B) r := by
  rw [popF_no h]
  rfl
theorem hbG_nil {w : List Bool} {i r : Nat} : hbG w i (popF (HopW.gn w) [] r) = hbF w (i + 1) [] r := rfl
theorem popF_len (c : Nat → Nat) : ∀ (B : List Nat) (r : Nat), (popF c B r).1.length + (popF c B r).2.1.length = B.length
  | [], _ => rfl
  | b :: B, r => by
    by_cases h : c (B.length + 1) ≤ r
    · rw [popF_yes h]
      have := popF_len c B (r - c (B.length + 1))
      show (popF c B (r - c (B.length + 1))).1.length + 1 + (popF c B (r - c (B.length + 1))).2.1.length = B.length + 1
      omega
    · rw [popF_no h]
      show 0 + (B.length + 1) = _
      rw [List.length_cons]
      omega
theorem hbF_len : ∀ (w : List Bool) (i : Nat) (B : List Nat) (r : Nat), (hbF w i B r).length ≤ B.length + w.length
  | [], _, _, _ => Nat.zero_le _
  | true :: w, i, B, r => by
    have := hbF_len w (i + 1) (i :: B) r
    rw [hbF_bead]
    rw [List.length_cons] at this ⊢
    omega
  | false :: w, i, B, r => by
    rw [hbF_free]
    have h1 := popF_len (HopW.gn w) B r
    generalize popF (HopW.gn w) B r = z at h1
    have h2 := hbF_len w (i + 1) z.2.1 z.2.2
    have h3 : (topF i z.2.1).length ≤ 1 := by
      unfold topF
      split
      · exact Nat.zero_le _
      · exact Nat.le_refl _
    unfold hbG
    rw [List.length_append, List.length_append, List.length_map, List.length_cons]
    omega
/-- beads taken out, one after the other -/
theorem pop_heap {bs : List Bool} {S : List Nat} {i : Nat} {rest : List Nat} {F : List Nat} (h2 : bs[i]? = some false) (c : Nat → Nat) : ∀ (B : List Nat) (r : Nat) (R : List T3), (F ++ B.reverse ++ i :: rest).Pairwise (· < ·) → (∀ x ∈ B, bs[x]? = some true) →
    (∀ R', Heaped bs (F ++ B.reverse ++ i :: rest) R' → Heaped bs S (R ++ R')) →
    (F ++ (popF c B r).2.1.reverse ++ i :: rest).Pairwise (· < ·) ∧ (∀ x ∈ (popF c B r).2.1, bs[x]? = some true) ∧ ∀ R', Heaped bs (F ++ (popF c B r).2.1.reverse ++ i :: rest) R' → Heaped bs S ((R ++ (popF c B r).1.map fun b => (b, i, false)) ++ R')
  | [], r, R, so, hB, good => by
    rw [popF_nil]
    refine ⟨so, hB, fun R' h => ?_⟩
    show Heaped bs S (R ++ [] ++ R')
    rw [List.append_nil]
    exact good R' h
  | b :: B, r, R, so, hB, good => by
    by_cases h : c (B.length + 1) ≤ r
    · rw [popF_yes h]
      have e : F ++ (b :: B).reverse ++ i :: rest = (F ++ B.reverse) ++ b :: i :: rest := by
        rw [List.reverse_cons, ← List.append_assoc, List.append_assoc (F ++ B.reverse)]
        rfl
      rw [e] at so good
      have so' : (F ++ B.reverse ++ i :: rest).Pairwise (· < ·) := so.sublist (List.Sublist.append_left (List.sublist_cons_self _ _) _)
      have st := (by_step so (hB b (List.mem_cons_self ..)) h2 good).2
      obtain ⟨k1, k2, k3⟩ := pop_heap h2 c B (r - c (B.length + 1)) (R ++ [(b, i, false)]) so' (fun x m => hB x (List.mem_cons_of_mem _ m)) st
      refine ⟨k1, k2, fun R' h => ?_⟩
      have := k3 R' h
      rw [List.append_assoc R] at this
      exact this
    · rw [popF_no h]
      refine ⟨so, hB, fun R' h => ?_⟩
      show Heaped bs S (R ++ [] ++ R')
      rw [List.append_nil]
      exact good R' h
theorem hb_heap {bs : List Bool} {S : List Nat} : ∀ (w : List Bool) (i : Nat) (B : List Nat) (r : Nat) (F : List Nat) (R : List T3), bs.drop i = w → (F ++ B.reverse ++ List.range' i w.length).Pairwise (· < ·) → (∀ x ∈ F, bs[x]? = some false) → (∀ x ∈ B, bs[x]? = some true) →
    (∀ R', Heaped bs (F ++ B.reverse ++ List.range' i w.length) R' → Heaped bs S (R ++ R')) → Heaped bs S (R ++ hbF w i B r)
  | [], i, B, r, F, R, e, so, hF, hB, good => by
    rw [show List.range' i ([] : List Bool).length = [] from rfl, List.append_nil] at so good
    exact good [] (by_end so hF fun x m => hB x (List.mem_reverse.mp m))
  | x :: w, i, B, r, F, R, e, so, hF, hB, good => by
    have il : i < bs.length := by
      rcases Nat.lt_or_ge i bs.length with h | h
      · exact h
      · rw [List.drop_eq_nil_of_le h] at e; cases e
    have e' := e
    rw [List.drop_eq_getElem_cons il] at e'
    obtain ⟨e1, e2⟩ := List.cons.inj e'
    have bi : bs[i]? = some x := by rw [List.getElem?_eq_getElem il, e1]
    have rg : List.range' i (x :: w).length = i :: List.range' (i + 1) w.length := by
      rw [List.length_cons, List.range'_succ]
    rw [rg] at so good
    cases x with
    | true =>
      rw [hbF_bead]
      have ec : F ++ B.reverse ++ i :: List.range' (i + 1) w.length = F ++ (i :: B).reverse ++ List.range' (i + 1) w.length := by
        rw [List.reverse_cons, ← List.append_assoc, List.append_assoc (F ++ B.reverse)]
        rfl
      rw [ec] at so good
      exact hb_heap w (i + 1) (i :: B) r F R e2 so hF (fun x m => by
        rcases List.mem_cons.mp m with rfl | m
        · exact bi
        · exact hB x m) good
    | false =>
      rw [hbF_free]
      unfold hbG
      obtain ⟨k1, k2, k3⟩ := pop_heap bi (HopW.gn w) B r R so hB good
      generalize popF (HopW.gn w) B r = z at k1 k2 k3
      obtain ⟨z1, z2, z3⟩ := z
      have k1 : (F ++ z2.reverse ++ i :: List.range' (i + 1) w.length).Pairwise (· < ·) := k1
      have k2 : ∀ x ∈ z2, bs[x]? = some true := k2
      have k3 : ∀ R', Heaped bs (F ++ z2.reverse ++ i :: List.range' (i + 1) w.length) R' → Heaped bs S ((R ++ z1.map fun b => (b, i, false)) ++ R') := k3
      show Heaped bs S (R ++ (z1.map (fun b => (b, i, false)) ++ (topF i z2 ++ hbF w (i + 1) z2 z3)))
      rw [← List.append_assoc]
      cases z2 with
      | nil =>
        show Heaped bs S ((R ++ z1.map fun b => (b, i, false)) ++ hbF w (i + 1) [] z3)
        have ec : F ++ ([] : List Nat).reverse ++ i :: List.range' (i + 1) w.length = F ++ [i] ++ ([] : List Nat).reverse ++ List.range' (i + 1) w.length := by
          rw [List.reverse_nil, List.append_nil, List.append_nil, List.append_assoc]
          rfl
        rw [ec] at k1 k3
        exact hb_heap w (i + 1) [] z3 (F ++ [i]) _ e2 k1 (fun x m => by
          rcases List.mem_append.mp m with m | m
          · exact hF x m
          · rw [List.mem_singleton.mp m]; exact bi) (fun x m => by simp at m) k3
      | cons b B' =>
        have ec : F ++ (b :: B').reverse ++ i :: List.range' (i + 1) w.length = (F ++ B'.reverse) ++ b :: i :: List.range' (i + 1) w.length := by
          rw [List.reverse_cons, ← List.append_assoc, List.append_assoc (F ++ B'.reverse)]
          rfl
        rw [ec] at k1 k3
        have st := (by_step k1 (k2 b (List.mem_cons_self ..)) bi k3).1
        have ed : (F ++ B'.reverse) ++ b :: List.range' (i + 1) w.length = F ++ (b :: B').reverse ++ List.range' (i + 1) w.length := by
          rw [List.reverse_cons, ← List.append_assoc, List.append_assoc (F ++ B'.reverse) [b]]
          rfl
        have so' : ((F ++ B'.reverse) ++ b :: List.range' (i + 1) w.length).Pairwise (· < ·) := k1.sublist (List.Sublist.append_left (List.Sublist.cons_cons b (List.sublist_cons_self _ _)) _)
        rw [ed] at st so'
        have := hb_heap w (i + 1) (b :: B') z3 F _ e2 so' hF k2 st
        rw [List.append_assoc] at this
        rw [List.append_assoc]
        rw [List.append_assoc] at this
        exact this
theorem hb_all (bs : List Bool) (r : Nat) : Heaped bs (List.range bs.length) (hbF bs 0 [] r) := by
  have h := hb_heap (bs := bs) (S := List.range bs.length) bs 0 [] r [] [] List.drop_zero
    (by rw [List.reverse_nil, List.nil_append, List.nil_append, ← List.range_eq_range']; exact range_lt _) (fun x m => by simp at m) (fun x m => by simp at m)
    (fun R' h => by
      rw [List.reverse_nil, List.nil_append, List.nil_append, ← List.range_eq_range'] at h
      exact h)
  exact h
end HopH

set_option Elab.async false
set_option linter.all false
set_option maxRecDepth 100000
set_option exponentiation.threshold 200000
namespace Hop
open PySem L2 HopR HopT HopH
/-! ### what counts_of keeps -/
def gl (w : List Bool) (m : Nat) : List Nat := (List.range m).map (HopW.gn w)
theorem gl_len (w : List Bool) (m : Nat) : (gl w m).length = m := by
  unfold gl
  rw [List.length_map, List.length_range]
theorem gl_nil (m : Nat) : (List.replicate m [V.int 1]).flatten = (gl [] m).map wv := by
  unfold gl
  induction m with
  | zero => rfl
  | succ m ih =>
    rw [List.range_succ, List.map_append, List.map_append, ← ih, List.replicate_succ', List.flatten_append]
    rfl
theorem gl_bead (w : List Bool) (m : Nat) : (gl w m).drop 1 = gl (true :: w) (m - 1) := by
  unfold gl
  cases m with
  | zero => rfl
  | succ m =>
    rw [List.range_succ_eq_map, List.map_cons, List.map_map]
    rfl
theorem sum_sn (g : Nat → Nat) : ∀ k, ((List.range k).map g).sum = HopW.sn g k := by
  intro k
  induction k generalizing g with
  | zero => rfl
  | succ k ih =>
    rw [List.range_succ_eq_map, List.map_cons, List.map_map, List.sum_cons]
    show g 0 + ((List.range k).map fun j => g (j + 1)).sum = g 0 + HopW.sn (fun j => g (j + 1)) k
    rw [ih]
theorem gl_take {w : List Bool} {m b : Nat} (h : b < m) : ((gl w m).take (b + 1)).sum = HopW.gn (false :: w) b := by
  unfold gl
  rw [← List.map_take, List.take_range, Nat.min_eq_left (by omega), sum_sn]
  rfl
theorem drop_back {bs : List Bool} {i : Nat} (hi : i < bs.length) : ∃ b, bs[bs.length - 1 - i]? = some b ∧ bs.drop (bs.length - (i + 1)) = b :: bs.drop (bs.length - i) := by
  have hj : bs.length - 1 - i < bs.length := by omega
  refine ⟨bs[bs.length - 1 - i], List.getElem?_eq_getElem hj, ?_⟩
  rw [show bs.length - (i + 1) = bs.length - 1 - i by omega, List.drop_eq_getElem_cons hj, show bs.length - 1 - i + 1 = bs.length - i by omega]
def rAddI : R2 := rI0 fun i j => .int (i + j)
theorem cutN_to (v : List Nat) (k : Nat) : cutV (v.map wv) none (some (k : Int)) = (v.take k).map wv := by
  unfold cutV
  rw [HT.sIx_nat, List.length_map, List.map_take]
  show ((v.map wv).drop 0).take (min k v.length - 0) = _
  rw [List.drop_zero, Nat.sub_zero]
  by_cases h : k ≤ v.length
  · rw [Nat.min_eq_left h]
  · rw [Nat.min_eq_right (by omega), List.take_of_length_le (by rw [List.length_map]; exact Nat.le_refl _), List.take_of_length_le (by rw [List.length_map]; omega)]
theorem cutN_from (v : List Nat) (k : Nat) : cutV (v.map wv) (some (k : Int)) none = (v.drop k).map wv := by
  unfold cutV
  rw [HT.sIx_nat, List.length_map, List.map_drop]
  show ((v.map wv).drop (min k v.length)).take (v.length - min k v.length) = _
  by_cases h : k ≤ v.length
  · rw [Nat.min_eq_left h, List.take_of_length_le (by rw [List.length_drop, List.length_map]; exact Nat.le_refl _)]
  · rw [Nat.min_eq_right (by omega), Nat.sub_self, List.take_zero, List.drop_of_length_le (by rw [List.length_map]; omega)]
structure TxtS (mg : Str → Option Value) : Prop where
  sum : mg "sum" = none
theorem ints_of' (l : List Nat) : l.map wv = (l.map fun m : Nat => (m : Int)).map V.int := by
  rw [List.map_map]; rfl
theorem ints_sum' (l : List Nat) : V.int (l.map fun m : Nat => (m : Int)).sum = wv l.sum := by
  have : (l.map fun m : Nat => (m : Int)).sum = ((l.sum : Nat) : Int) := by
    induction l with
    | nil => rfl
    | cons a l ih => rw [List.map_cons, List.sum_cons, List.sum_cons, ih]; omega
  rw [this]; rfl
/-- from place j on: by the number of beads left ahead -/
def CntAt (H : Hp) (bs : List Bool) (L : List V) (j : Nat) : Prop := ∃ (b : Addr) (m : Nat), L[j]? = some (.ref b) ∧ H b = some (.lst ((gl (bs.drop j) m).map wv)) ∧ j + 1 ≤ m ∧ m ≤ 31
def Cnts (H : Hp) (bs : List Bool) (p : Addr) : Prop := ∃ L, H p = some (.lst L) ∧ ∀ j, j ≤ bs.length → CntAt H bs L j
theorem Cnts.same {H H' : Hp} {bs : List Bool} {p : Addr} (s : Same H H') (h : Cnts H bs p) : Cnts H' bs p := by
  obtain ⟨L, e, h⟩ := h
  refine ⟨L, s _ _ e, fun j hj => ?_⟩
  obtain ⟨b, m, e1, e2, r⟩ := h j hj
  exact ⟨b, m, e1, s _ _ e2, r⟩
section
variable {P : Program} {w : World} {K : PySem.W.Frag} {mg : Str → Option Value} {base : Heap} {C d : Addr} {es : Array DictEntry} {n : Nat}
abbrev tHead (K : PySem.W.Frag) : TE := tCB (rSum K) (tCons (tSl (rSlL K) (tVar 3) tNoPart (tPart (tOp rAddI (tVar 4) (tC (.int 1))))) tNil)
def spCounts : Sp := fun vs H Q _ => ∃ bs, vs = [.str (tx bs)] ∧ Row bs ∧ ∀ H' p, Same H H' → H p = none → Cnts H' bs p → Q (.ref p) H'
abbrev nCO : List Str := ["row", "counts", "sign", "behind", "beads"]
theorem scCounts : FnScope nCO ["row"] (defScope sCounts) := ⟨rfl, rfl, rfl, by decide +kernel, rfl, by decide +kernel, by decide +kernel⟩
set_option maxHeartbeats 4000000 in
theorem ok_counts {f : Addr} {fd : FuncData} {k : Nat} (F : Fun K "counts_of" "counts_of" sCounts f fd) (T : TxtR K w mg d es n) (T0 : TxtS mg) : FnOk P w K mg base CX0 (k + 1) f fd ["row"] spCounts := by
  refine F.ok scCounts (fun vs H Q E h => ?_) (fun cdv A outer s H vs Q E hr h => ?_)
  · obtain ⟨bs, rfl, _⟩ := h
    rfl
  · obtain ⟨bs, rfl, hR, q⟩ := h
    have nd := scCounts.nd
    obtain ⟨tb, gb⟩ := T.bead
    have h30 := hR.2
    have wr := row_size hR
    refine ⟨_, pss_cons (ps_set (i := 1) nd rfl (.inl rfl) (pe_lst (pa_cons (pe_op op_rep (pe_lst (pa_cons pe_int pa_nil)) (pe_op op_add (pe_callB call_len_str (by rfl) T.len PySem.boot_len (pa_cons (pv 0) pa_nil)) pe_int)) pa_nil)))
      (pss_cons (ps_for PassesOwn.never rfl (pi_revS (by rfl) T.reversed (pv 0)) (pg_name (i := 2) nd rfl (.inl rfl))
        (pss_cons (ps_set (i := 3) nd rfl (.inr rfl) (pe_ix ix_list (pv 1) (pe_un un_neg pe_int) (fun _ _ => rfl)))
        (pss_one (ps_if (pt_cmpR op_eq (pv 2) (pe_glob (v := .str "o") (by rfl) gb ⟨_, rfl⟩) (nomark _))
          (pss_one (ps_expr (pe_bm PySem.F.plainAttrs_list PySem.F.slot_list_append PySem.F.type_list_append mt_append (pv 1) (pa_cons (pe_slice sl_list (pv 3) (po_some pe_int) po_none) pa_nil))))
          (pss_one (ps_expr (pe_bm PySem.F.plainAttrs_list PySem.F.slot_list_append PySem.F.type_list_append mt_append (pv 1) (pa_cons
            (pe_lc (own := [("beads", 4)]) (g := gName 4) (tt := tYes) (te := tHead K) rfl nd (pi_range1 (by rfl) T.range (pa_cons (pe_callB call_len_seq (by rfl) T.len PySem.boot_len (pa_cons (pv 3) pa_nil)) pa_nil)) (blkOk_by (own := [("beads", 4)]) (N := nCO) (sc := defScope sCounts) (by decide +kernel)) (fun _ _ _ _ _ => pg_name (i := 4) nd rfl (Or.inl rfl)) (fun _ _ _ _ _ => pts_nil)
              (fun _ _ _ _ _ => pe_callB (show CallR _ (.builtin "sum") (rSum K) from cr_sum rfl) (by rfl) T0.sum (by decide +kernel) (pa_cons (pe_slice (show SlR _ (rSlL K) from sl_list) (pv 3) po_none (po_some (pe_op (show OpR _ (binaryOp .Add) rAddI from op_add) (pv 4) pe_int))) pa_nil))) pa_nil))))))))
      (pss_one (ps_ret (pe_revL (pv 1))))), ?_⟩
    refine ⟨(by show 1 ≤ sizeLine; decide), fun l1 n1 => ?_⟩
    have t1 := same_upd (o := .lst [.int 1]) n1
    have e1 : upd H l1 (.lst [.int 1]) l1 = some (.lst [.int 1]) := upd_same
    generalize upd H l1 (.lst [.int 1]) = H1 at t1 e1
    refine ⟨.str (tx bs), rfl, tx bs, rfl, wr, _, _, rfl, rfl, l1, _, [.int 1], rfl, rfl, e1, by rw [tx_len]; omega, by rw [tx_len]; omega, ?_, fun l2 n2 => ⟨(by show 1 ≤ sizeLine; decide), fun o no => ?_⟩⟩
    · rw [show (((tx bs).length : Int) + 1).toNat = bs.length + 1 by rw [tx_len]; omega]
      exact fit (by show 1 * (bs.length + 1) ≤ _; omega)
    rw [show (((tx bs).length : Int) + 1).toNat = bs.length + 1 by rw [tx_len]; omega, gl_nil] at *
    have t2 := same_upd (o := .lst ((gl [] (bs.length + 1)).map wv)) n2
    have e2 : upd H1 l2 (.lst ((gl [] (bs.length + 1)).map wv)) l2 = some (.lst ((gl [] (bs.length + 1)).map wv)) := upd_same
    generalize upd H1 l2 (.lst ((gl [] (bs.length + 1)).map wv)) = H2 at t2 e2 no
    have s02 := t1.trans t2
    have no0 : H o = none := s02.free no
    have nlo : l2 ≠ o := ne_of_none e2 no
    have s03 := s02.trans (same_upd (o := .lst [.ref l2]) no)
    have e3 : upd H2 o (.lst [.ref l2]) o = some (.lst ([] ++ [.ref l2])) := upd_same
    have e23 := (same_upd (o := .lst [.ref l2]) no) _ _ e2
    generalize upd H2 o (.lst [.ref l2]) = H3 at s03 e3 e23
    have dl : (tx bs).cps.size = bs.length := tx_len bs
    refine ⟨.str (tx bs), rfl, tx bs, rfl, wr, ?_⟩
    refine for_it walk_revS (fun i σ H4 => ∃ (y2 y3 y4 : Option V) (ps : List V) (b : Addr) (m : Nat), σ = [some (.str (tx bs)), some (.ref o), y2, y3, y4] ∧ Same H H4 ∧ H4 o = some (.lst (ps ++ [.ref b])) ∧ b ≠ o ∧ H4 b = some (.lst ((gl (bs.drop (bs.length - i)) m).map wv)) ∧ bs.length + 1 ≤ m + i ∧ m ≤ 31 ∧ ps.length = i ∧ ∀ k, k < i → ∃ (b' : Addr) (m' : Nat), ps[k]? = some (.ref b') ∧ b' ≠ o ∧ H4 b' = some (.lst ((gl (bs.drop (bs.length - k)) m').map wv)) ∧ bs.length + 1 ≤ m' + k ∧ m' ≤ 31)
      ⟨_, _, _, [], l2, bs.length + 1, rfl, s03, e3, nlo, by rw [Nat.sub_zero, List.drop_length]; exact e23, by omega, by omega, rfl, fun k hk => absurd hk (Nat.not_lt_zero _)⟩ (fun _ _ _ _ _ => trivial) ?_ ?_
    · rintro i x σ H4 H5 hi ⟨y2, y3, y4, ps, b, m, rfl, s4, e4, nb, eb, hm1, hm2, hps, old⟩ ⟨rfl, c, hc, rfl⟩
      rw [dl] at hi
      rw [← Array.getElem?_toList, tx_list, dl, List.getElem?_map] at hc
      obtain ⟨z, hz, hd⟩ := drop_back hi
      rw [hz] at hc
      obtain rfl : cd z = c := Option.some.inj hc
      have eb0 := eb
      have old' : ∀ {H6 H7 : Hp} {ho : HO}, Same H5 H6 → H7 = upd H6 o ho → ∀ k, k < i + 1 → ∃ (b' : Addr) (m' : Nat), (ps ++ [V.ref b])[k]? = some (.ref b') ∧ b' ≠ o ∧ H7 b' = some (.lst ((gl (bs.drop (bs.length - k)) m').map wv)) ∧ bs.length + 1 ≤ m' + k ∧ m' ≤ 31 := fun {H6 H7 ho} s56 e7 k hk => by
        subst e7
        by_cases z : k < i
        · obtain ⟨b', m', q1, q2, q3, q4⟩ := old k z
          exact ⟨b', m', by rw [List.getElem?_append_left (by omega)]; exact q1, q2, by rw [upd_ne q2]; exact s56 _ _ q3, q4⟩
        · have ez : k = i := by omega
          subst ez
          exact ⟨b, m, by rw [List.getElem?_append_right (by omega), hps, Nat.sub_self]; rfl, nb, by rw [upd_ne nb]; exact s56 _ _ eb0, by omega, hm2⟩
      rw [hd]
      generalize bs.drop (bs.length - i) = v at eb
      refine ⟨.ref o, rfl, 1, rfl, o, _, _, .ref b, rfl, rfl, SqL.of e4, atI_last ps (.ref b), ?_⟩
      have eo : decide (V.str ⟨#[cd z]⟩ = V.str "o") = z := is_oH z
      refine ⟨.str ⟨#[cd z]⟩, rfl, rfl, _, rfl, ?_⟩
      rw [eo]
      cases z with
      | true =>
        refine iteT ⟨.ref o, rfl, .inl ⟨rfl, _, SqL.of e4⟩, .ref b, rfl, 1, rfl, b, _, rfl, SqL.of eb, fun p np => ?_⟩
        rw [show (1 : Int) = ((1 : Nat) : Int) from rfl, cutN_from, gl_bead]
        have s5 := same_upd (o := .lst ((gl (true :: v) (m - 1)).map wv)) np
        have e5 : upd H5 p (.lst ((gl (true :: v) (m - 1)).map wv)) p = some (.lst ((gl (true :: v) (m - 1)).map wv)) := upd_same
        generalize upd H5 p (.lst ((gl (true :: v) (m - 1)).map wv)) = H6 at s5 e5
        have np2 : p ≠ o := fun z => by
          rw [z, e4] at np
          cases np
        refine ⟨o, _, _, rfl, rfl, s5 _ _ e4, ?_, _, _, _, ps ++ [.ref b], p, m - 1, rfl, same_new no0 (s4.trans s5), upd_same, np2, by rw [upd_ne np2]; exact e5, by omega, by omega, by rw [List.length_append]; show ps.length + 1 = _; omega, old' s5 rfl⟩
        · rw [List.length_append]
          exact fit' (by show ps.length + 1 ≤ _; omega)
      | false =>
        refine iteF ⟨.ref o, rfl, .inl ⟨rfl, _, SqL.of e4⟩, .ref b, rfl, b, _, rfl, .inl (SqL.of eb), _, rfl, by omega, by rw [List.length_map, gl_len]; omega, fun p np => ?_⟩
        rw [show ((((gl v m).map wv).length : Int)).toNat = m by rw [List.length_map, gl_len]; omega]
        have np2 : p ≠ o := fun z => by
          rw [z, e4] at np
          cases np
        refine lc_range (lo := 0) (n := m) (fun j H6 => Same H5 H6 ∧ H6 p = some (.lst ((gl (false :: v) j).map wv))) ⟨same_upd np, upd_same⟩ ?_ ?_
        · rintro j H6 hj ⟨s6, e6⟩
          refine ⟨rfl, .ref b, rfl, .int (0 + (j : Int)), rfl, 0 + (j : Int), 1, rfl, rfl, _, rfl, b, _, rfl, SqL.of (s6 _ _ eb), fun p7 n7 => ?_⟩
          rw [show (0 : Int) + (j : Int) + 1 = ((j + 1 : Nat) : Int) by omega, cutN_to]
          have s7 := same_upd (o := .lst (((gl v m).take (j + 1)).map wv)) n7
          have e7 : upd H6 p7 (.lst (((gl v m).take (j + 1)).map wv)) p7 = some (.lst (((gl v m).take (j + 1)).map wv)) := upd_same
          generalize upd H6 p7 (.lst (((gl v m).take (j + 1)).map wv)) = H7 at s7 e7
          refine ⟨p7, _, rfl, SqL.of (by rw [← ints_of']; exact e7), ?_⟩
          rw [ints_sum', gl_take hj]
          refine ⟨_, s7 _ _ e6, ?_, same_new np (s6.trans s7), ?_⟩
          · rw [List.length_map, gl_len]
            exact fit' (by omega)
          · rw [upd_same]
            show _ = some (HO.lst (((List.range (j + 1)).map (HopW.gn (false :: v))).map wv))
            rw [List.range_succ, List.map_append, List.map_append]
            rfl
        · rintro H6 ⟨s6, e6⟩
          refine ⟨o, _, _, rfl, rfl, s6 _ _ e4, ?_, _, _, _, ps ++ [.ref b], p, m, rfl, same_new no0 (s4.trans s6), upd_same, np2, by rw [upd_ne np2]; exact e6, by omega, by omega, by rw [List.length_append]; show ps.length + 1 = _; omega, old' s6 rfl⟩
          · rw [List.length_append]
            exact fit' (by show ps.length + 1 ≤ _; omega)
    · rintro σ H4 ⟨y2, y3, y4, ps, b, m, rfl, s4, e4, nb, eb, hm1, hm2, hps, old⟩
      rw [dl] at hm1 eb hps old
      rw [Nat.sub_self, List.drop_zero] at eb
      refine ⟨.ref o, rfl, o, _, rfl, SqL.of e4, fun p np => ?_⟩
      have s5 := same_upd (o := .lst (ps ++ [V.ref b]).reverse) np
      refine q _ p (s4.trans s5) (s4.free np) ⟨_, upd_same, fun j hj => ?_⟩
      have hlen : (ps ++ [V.ref b]).length = bs.length + 1 := by
        rw [List.length_append, hps]
        rfl
      have rv : (ps ++ [V.ref b]).reverse[j]? = (ps ++ [V.ref b])[bs.length - j]? := by
        rw [List.getElem?_reverse (by omega), hlen, show bs.length + 1 - 1 - j = bs.length - j by omega]
      unfold CntAt
      rw [rv]
      by_cases z : j = 0
      · subst z
        exact ⟨b, m, by rw [Nat.sub_zero, ← hps, List.getElem?_append_right (Nat.le_refl _), Nat.sub_self]; rfl, by rw [List.drop_zero]; exact s5 _ _ eb, by omega, hm2⟩
      · obtain ⟨b', m', q1, q2, q3, q4, q5⟩ := old (bs.length - j) (by omega)
        rw [show bs.length - (bs.length - j) = j by omega] at q3
        exact ⟨b', m', by rw [List.getElem?_append_left (by omega)]; exact q1, s5 _ _ q3, by omega, q5⟩

/-! ### heaps_many -/
def spHeaps : Sp := fun vs H Q _ => ∃ bs, vs = [.str (tx bs)] ∧ Row bs ∧ ∀ H', Same H H' → Q (wv (HopW.gn bs 0)) H'
theorem scHeaps : FnScope ["row"] ["row"] (defScope sHeaps) := ⟨rfl, rfl, rfl, by decide +kernel, rfl, by decide +kernel, by decide +kernel⟩
theorem ok_heaps {f : Addr} {fd : FuncData} {k : Nat} (F : Fun K "heaps_many" "heaps_many" sHeaps f fd) (N1 : ∃ r s, Fn K mg "is_row" sIsRow ["thing"] r s) (N2 : ∃ r s, Fn K mg "need_row" sNeedRow ["thing"] r s) (N3 : ∃ r s, Fn K mg "counts_of" sCounts ["row"] r s) (T : TxtR K w mg d es n) (T0 : TxtS mg) : FnOk P w K mg base CX0 (k + 3) f fd ["row"] spHeaps := by
  obtain ⟨r1, s1, N1⟩ := N1
  obtain ⟨r2, s2, N2⟩ := N2
  obtain ⟨r3, s3, N3⟩ := N3
  have G2 : FnOk P w K mg base CX0 (k + 2) r2 s2 ["thing"] spNeed := ok_need N2.F N1 T
  have G3 : FnOk P w K mg base CX0 (k + 2) r3 s3 ["row"] spCounts := ok_counts N3.F T T0
  refine F.ok scHeaps (fun vs H Q E h => ?_) (fun cdv A outer s H vs Q E hr h => ?_)
  · obtain ⟨bs, rfl, _⟩ := h
    rfl
  · obtain ⟨bs, rfl, hR, q⟩ := h
    refine ⟨_, pss_cons (ps_expr (pe_call G2 hr (by rfl) N2.g N2.F.kp N2.b .nil pass0 (pa_cons (pv 0) pa_nil)))
      (pss_one (ps_ret (pe_ix ix_list (pe_ix ix_list (pe_call G3 hr (by rfl) N3.g N3.F.kp N3.b .nil pass0 (pa_cons (pv 0) pa_nil)) pe_int (fun _ _ => rfl)) pe_int (fun _ _ => rfl)))), ?_⟩
    refine ⟨.str (tx bs), rfl, bs, rfl, hR, fun H1 s1 => ⟨.str (tx bs), rfl, bs, rfl, hR, fun H2 p s2 np cn => ?_⟩⟩
    obtain ⟨L, e1, ca⟩ := cn
    obtain ⟨b, m, l0, e2, hm, _⟩ := ca 0 (Nat.zero_le _)
    rw [List.drop_zero] at e2
    have g0 : ((gl bs m).map wv)[0]? = some (wv (HopW.gn bs 0)) := by
      unfold gl
      rw [List.getElem?_map, List.getElem?_map, List.getElem?_range (by omega)]
      rfl
    refine ⟨p, _, 0, .ref b, rfl, rfl, SqL.of e1, atI_nat (j := 0) l0, b, _, 0, wv (HopW.gn bs 0), rfl, rfl, SqL.of e2, atI_nat (j := 0) g0, ?_⟩
    exact q H2 (s1.trans s2)
/-! ### heap_by -/
def spHeapBy : Sp := fun vs H Q _ => ∃ (bs : List Bool) (cp : Addr) (N : Nat), vs = [.str (tx bs), .ref cp, wv N] ∧ Row bs ∧ Cnts H bs cp ∧ ∀ H' p ts, Same H H' → H p = none → TL t3v H' p ts → ts.Perm ((hbF bs 0 [] N).map c3) → HeapL bs ts → Q (.ref p) H'
abbrev nHB : List Str := ["row", "counts", "number", "heap", "beads", "rest", "place", "sign"]
theorem scHeapBy : FnScope nHB ["row", "counts", "number"] (defScope sHeapBy) := ⟨rfl, rfl, rfl, by decide +kernel, rfl, by decide +kernel, by decide +kernel⟩
/-- the state: the beads left, what is filled -/
structure HbSt (H H3 : Hp) (hp bp : Addr) (B : List Nat) (R : List HopH.T3) : Prop where
  s : Same H H3
  b : H3 bp = some (.lst (B.reverse.map wv))
  h : ∃ acc, H3 hp = some (.lst acc) ∧ TupG H3 t3v (R.map c3) acc
theorem HbSt.put {H H3 : Hp} {hp bp : Addr} {B : List Nat} {R : List HopH.T3} (x : HbSt H H3 hp bp B R) (nh : H hp = none) (ne : hp ≠ bp) {t : Addr} {e : HopH.T3} {acc : List V} (e1 : H3 hp = some (.lst acc)) (g : TupG H3 t3v (R.map c3) acc) (nt : H3 t = none) :
    HbSt H (upd (upd H3 t (.tup (t3v (c3 e)))) hp (.lst (acc ++ [.ref t]))) hp bp B (R ++ [e]) := by
  have st := same_upd (o := .tup (t3v (c3 e))) nt
  have et : upd H3 t (.tup (t3v (c3 e))) t = some (.tup (t3v (c3 e))) := upd_same
  generalize upd H3 t (.tup (t3v (c3 e))) = H4 at st et
  refine ⟨same_new nh (x.s.trans st), ?_, _, upd_same, ?_⟩
  · rw [upd_ne (Ne.symm ne)]
    exact st _ _ x.b
  · rw [List.map_append]
    exact tupG_upd (st _ _ e1) (tupG_add et (tupG_same st g))
theorem HbSt.pop {H H3 : Hp} {hp bp : Addr} {b : Nat} {B : List Nat} {R : List HopH.T3} (x : HbSt H H3 hp bp (b :: B) R) (nb : H bp = none) (ne : hp ≠ bp) : HbSt H (upd H3 bp (.lst (B.reverse.map wv))) hp bp B R := by
  obtain ⟨acc, e1, g⟩ := x.h
  refine ⟨same_new nb x.s, upd_same, acc, ?_, tupG_upd x.b g⟩
  rw [upd_ne ne]
  exact e1
theorem gl_at {w : List Bool} {m j : Nat} (h : j < m) : ((gl w m).map wv)[j]? = some (wv (HopW.gn w j)) := by
  unfold gl
  rw [List.getElem?_map, List.getElem?_map, List.getElem?_range h]
  rfl
set_option maxHeartbeats 4000000 in
theorem ok_heapby {f : Addr} {fd : FuncData} {k : Nat} (F : Fun K "heap_by" "heap_by" sHeapBy f fd) (T : TxtR K w mg d es n) (TH : TxtH mg) : FnOk P w K mg base CX0 (k + 1) f fd ["row", "counts", "number"] spHeapBy := by
  refine F.ok scHeapBy (fun vs H Q E h => ?_) (fun cdv A outer s H vs Q E hr h => ?_)
  · obtain ⟨bs, cp, N, rfl, _⟩ := h
    rfl
  · obtain ⟨bs, cp, N, rfl, hR, hc, q⟩ := h
    have nd := scHeapBy.nd
    obtain ⟨tb, gb⟩ := T.bead
    obtain ⟨tf, gf⟩ := T.free
    have h30 := hR.2
    have wr := row_size hR
    refine ⟨_, pss_cons (ps_set (i := 3) nd rfl (.inl rfl) (pe_lst pa_nil))
      (pss_cons (ps_set (i := 4) nd rfl (.inl rfl) (pe_lst pa_nil))
      (pss_cons (ps_set (i := 5) nd rfl (.inl rfl) (pv 2))
      (pss_cons (ps_for PassesOwn.never rfl (pi_enumS (by rfl) TH.enum (pa_cons (pv 0) pa_nil)) (pg_tup (by rfl) (pgs_cons (pg_name (i := 6) nd rfl (.inl rfl)) (pgs_cons (pg_name (i := 7) nd rfl (.inl rfl)) pgs_nil)))
        (pss_cons (ps_if (pt_cmpR op_eq (pv 7) (pe_glob (v := .str "o") (by rfl) gb ⟨_, rfl⟩) (nomark _))
          (pss_cons (ps_expr (pe_bm PySem.F.plainAttrs_list PySem.F.slot_list_append PySem.F.type_list_append mt_append (pv 4) (pa_cons (pv 6) pa_nil))) (pss_one ps_continue)) pss_nil)
        (pss_cons (ps_while PassesOwn.never (PW.pt (pw_and (pt_truth (pv 4) (by intro _; rfl)) (pw_and1 (pt_cmpR op_ge (pv 5) (pe_ix ix_list (pe_ix ix_list (pv 1) (pe_op op_add (pv 6) pe_int) (fun _ _ => rfl)) (pe_callB call_len_seq (by rfl) T.len PySem.boot_len (pa_cons (pv 4) pa_nil)) (fun _ _ => rfl)) (nomark _)))))
          (pss_cons (ps_aug (i := 5) nd rfl (.inl rfl) (pe_ix ix_list (pe_ix ix_list (pv 1) (pe_op op_add (pv 6) pe_int) (fun _ _ => rfl)) (pe_callB call_len_seq (by rfl) T.len PySem.boot_len (pa_cons (pv 4) pa_nil)) (fun _ _ => rfl)) ip_sub)
          (pss_one (ps_expr (pe_bm PySem.F.plainAttrs_list PySem.F.slot_list_append PySem.F.type_list_append mt_append (pv 3) (pa_cons (pe_tup (pa_cons (pe_bm0 PySem.F.plainAttrs_list PySem.F.slot_list_pop PySem.F.type_list_pop mt_pop (pv 4)) (pa_cons (pv 6) (pa_cons (pe_glob (v := .str ".") (by rfl) gf ⟨_, rfl⟩) pa_nil)))) pa_nil))))))
        (pss_one (ps_if (pt_truth (pv 4) (by intro _; rfl)) (pss_one (ps_expr (pe_bm PySem.F.plainAttrs_list PySem.F.slot_list_append PySem.F.type_list_append mt_append (pv 3) (pa_cons (pe_tup (pa_cons (pe_ix ix_list (pv 4) (pe_un un_neg pe_int) (fun _ _ => rfl)) (pa_cons (pv 6) (pa_cons (pe_glob (v := .str "o") (by rfl) gb ⟨_, rfl⟩) pa_nil)))) pa_nil)))) pss_nil)))))
      (pss_one (ps_ret (pe_callB (show CallR _ (.builtin "sorted") (rSortedA t3v k3) from cr_sorted3) (by rfl) T.sorted (by decide +kernel) (pa_cons (pv 3) pa_nil))))))), ?_⟩
    refine ⟨(by show 0 ≤ sizeLine; decide), fun hp nhp => ⟨(by show 0 ≤ sizeLine; decide), fun bp nbp => ⟨_, rfl, .str (tx bs), rfl, tx bs, rfl, ?_⟩⟩⟩
    have nhp0 := nhp
    have s1 := same_upd (o := .lst []) nhp
    have e1 : upd H hp (.lst []) hp = some (.lst []) := upd_same
    generalize upd H hp (.lst []) = H1 at s1 e1 nbp
    have s2 := same_upd (o := .lst []) nbp
    have ne : hp ≠ bp := ne_of_none e1 nbp
    have nb : H bp = none := s1.free nbp
    have hT := hbF_len bs 0 [] N
    have hAll := hb_all bs N
    generalize hTT : hbF bs 0 [] N = T0 at hT hAll q
    have st0 : HbSt H (upd H1 bp (.lst [])) hp bp [] [] := ⟨s1.trans s2, upd_same, [], s2 _ _ e1, rfl⟩
    refine for_it HopR.walk_tup (fun i σ H3 => ∃ (B : List Nat) (r : Nat) (R : List HopH.T3) (y6 y7 : Option V), σ = [some (.str (tx bs)), some (.ref cp), some (wv N), some (.ref hp), some (.ref bp), some (wv r), y6, y7] ∧ HbSt H H3 hp bp B R ∧ B.length ≤ i ∧ R ++ hbF (bs.drop i) i B r = T0)
      ⟨[], N, [], _, _, rfl, st0, Nat.le_refl _, hTT⟩ (fun _ _ _ _ _ => trivial) ?_ ?_
    · rintro i x σ H3 H4 hi ⟨B, r, R, y6, y7, rfl, st, hB, hRT⟩ ⟨t, xs, rfl, nt, rfl, c, hcx, rfl⟩
      obtain ⟨z, hz, rfl⟩ := bit_at hcx
      have il : i < bs.length := (List.getElem?_eq_some_iff.mp hz).1
      have hdr : bs.drop i = z :: bs.drop (i + 1) := by
        rw [List.drop_eq_getElem_cons il]
        rw [List.getElem?_eq_getElem il] at hz
        rw [Option.some.inj hz]
      have tt := same_upd (o := .tup [.int (i : Int), .str ⟨#[cd z]⟩]) nt
      have et : upd H3 t (.tup [.int (i : Int), .str ⟨#[cd z]⟩]) t = some (.tup [.int (i : Int), .str ⟨#[cd z]⟩]) := upd_same
      generalize upd H3 t (.tup [.int (i : Int), .str ⟨#[cd z]⟩]) = H4 at tt et
      have st4 : HbSt H H4 hp bp B R := let ⟨acc, a1, a2⟩ := st.h; ⟨st.s.trans tt, tt _ _ st.b, acc, tt _ _ a1, tupG_same tt a2⟩
      clear st tt hcx
      refine ⟨t, _, rfl, SqT.of et, rfl, _, _, rfl, _, _, rfl, rfl, ?_⟩
      clear et nt
      refine ⟨_, rfl, rfl, _, rfl, ?_⟩
      rw [is_oH]
      rw [hdr] at hRT
      cases z with
      | true =>
        refine iteT ⟨.ref bp, rfl, .inl ⟨rfl, _, SqL.of st4.b⟩, .int (i : Int), rfl, bp, _, _, rfl, rfl, st4.b, ?_, ?_⟩
        · rw [List.length_map, List.length_reverse]
          exact fit' (by omega)
        · obtain ⟨acc, a1, a2⟩ := st4.h
          refine ⟨i :: B, r, R, _, _, rfl, ⟨same_new nb st4.s, ?_, acc, ?_, tupG_upd st4.b a2⟩, by rw [List.length_cons]; omega, hRT⟩
          · rw [upd_same, List.reverse_cons, List.map_append]
            rfl
          · rw [upd_ne ne]
            exact a1
      | false =>
        refine iteF ?_
        rw [hbF_free] at hRT
        have cAt : ∀ {H' : Hp}, Same H H' → ∃ L b m, H' cp = some (.lst L) ∧ L[i + 1]? = some (V.ref b) ∧ H' b = some (.lst ((gl (bs.drop (i + 1)) m).map wv)) ∧ i + 2 ≤ m := fun {H'} s => by
          obtain ⟨L, e, h⟩ := hc.same s
          obtain ⟨b, m, q1, q2, q3, _⟩ := h (i + 1) il
          exact ⟨L, b, m, e, q1, q2, q3⟩
        generalize bs.drop (i + 1) = v at hRT cAt
        refine ⟨fun m σ H5 => ∃ (B : List Nat) (r : Nat) (R : List HopH.T3), m = B.length ∧ σ = [some (.str (tx bs)), some (.ref cp), some (wv N), some (.ref hp), some (.ref bp), some (wv r), some (.int (i : Int)), some (.str ⟨#[cd false]⟩)] ∧ HbSt H H5 hp bp B R ∧ B.length ≤ i ∧ R ++ hbG v i (popF (HopW.gn v) B r) = T0, ⟨B.length, B, r, R, rfl, rfl, st4, hB, hRT⟩, ?_⟩
        clear hRT hB st4
        clear r R B H4
        rintro m σ H5 ⟨B, r, R, rfl, rfl, st, hB, hRT⟩
        have hRl : R.length ≤ T0.length := by rw [← hRT, List.length_append]; exact Nat.le_add_right _ _
        have accl : ∀ {acc : List V}, TupG H5 t3v (R.map c3) acc → acc.length < sizeLine := fun {acc} g => by
          have := tupG_len g
          rw [List.length_map] at this
          exact fit' (by rw [this]; rw [List.length_nil] at hT; omega)
        cases B with
        | nil =>
          refine ⟨.ref bp, rfl, false, .inl ⟨_, SqL.of st.b, rfl⟩, iteF (iteF ?_)⟩
          refine ⟨.ref bp, rfl, false, .inl ⟨_, SqL.of st.b, rfl⟩, iteF ?_⟩
          exact ⟨[], r, R, _, _, rfl, st, Nat.zero_le _, hRT⟩
        | cons b B =>
          obtain ⟨L, cb, m, c1, c2, c3', c4⟩ := cAt st.s
          have lenB : (((b :: B).reverse.map wv).length : Int) = ((B.length + 1 : Nat) : Int) := by
            rw [List.length_map, List.length_reverse, List.length_cons]
          rw [List.length_cons] at hB
          refine ⟨.ref bp, rfl, true, .inl ⟨_, SqL.of st.b, by simp⟩, iteT ?_⟩
          refine ⟨wv r, rfl, .ref cp, rfl, .int (i : Int), rfl, (i : Int), 1, rfl, rfl, cp, _, _, .ref cb, rfl, rfl, SqL.of c1, (show atI L (((i + 1 : Nat) : Int)) = _ from atI_nat c2), .ref bp, rfl, bp, _, rfl, .inl (SqL.of st.b), cb, _, _, wv (HopW.gn v (B.length + 1)), rfl, rfl, SqL.of c3', (by rw [lenB]; exact atI_nat (gl_at (by omega))), (r : Int), ((HopW.gn v (B.length + 1) : Nat) : Int), rfl, rfl, _, rfl, ?_⟩
          by_cases hcm : HopW.gn v (B.length + 1) ≤ r
          · rw [decide_eq_true (show ((HopW.gn v (B.length + 1) : Nat) : Int) ≤ (r : Int) by omega)]
            rw [hbG_yes hcm] at hRT
            refine iteT ⟨fun σ' H' => ∃ (B' : List Nat) (r' : Nat) (R' : List HopH.T3), B'.length = B.length ∧ σ' = [some (.str (tx bs)), some (.ref cp), some (wv N), some (.ref hp), some (.ref bp), some (wv r'), some (.int (i : Int)), some (.str ⟨#[cd false]⟩)] ∧ HbSt H H' hp bp B' R' ∧ B'.length ≤ i ∧ R' ++ hbG v i (popF (HopW.gn v) B' r') = T0, fun σ' H' ⟨B', r', R', h1, h2, h3⟩ => ⟨B'.length, by rw [h1, List.length_cons]; omega, B', r', R', rfl, h2, h3⟩, ?_⟩
            refine ⟨wv r, rfl, .ref cp, rfl, .int (i : Int), rfl, (i : Int), 1, rfl, rfl, cp, _, _, .ref cb, rfl, rfl, SqL.of c1, (show atI L (((i + 1 : Nat) : Int)) = _ from atI_nat c2), .ref bp, rfl, bp, _, rfl, .inl (SqL.of st.b), cb, _, _, wv (HopW.gn v (B.length + 1)), rfl, rfl, SqL.of c3', (by rw [lenB]; exact atI_nat (gl_at (by omega))), (r : Int), ((HopW.gn v (B.length + 1) : Nat) : Int), rfl, rfl, ?_⟩
            obtain ⟨acc, a1, a2⟩ := st.h
            refine ⟨.ref hp, rfl, .inl ⟨rfl, _, SqL.of a1⟩, .ref bp, rfl, .inl ⟨rfl, _, SqL.of st.b⟩, bp, _, wv b, rfl, rfl, st.b, ?_, .int (i : Int), rfl, (by show 3 ≤ sizeLine; decide), fun t nt => ?_⟩
            · rw [List.reverse_cons, List.map_append, List.length_append]
              show (B.reverse.map wv ++ [wv b])[(B.reverse.map wv).length]? = _
              rw [List.getElem?_append_right (Nat.le_refl _), Nat.sub_self]
              rfl
            have dl : ((b :: B).reverse.map wv).dropLast = B.reverse.map wv := by
              rw [List.reverse_cons, List.map_append]
              exact List.dropLast_concat
            rw [dl] at nt ⊢
            have sp := st.pop nb ne
            generalize upd H5 bp (.lst (B.reverse.map wv)) = H6 at sp nt
            obtain ⟨acc6, b1, b2⟩ := sp.h
            have l6 : acc6.length < sizeLine := by
              have h1 := tupG_len b2
              rw [List.length_map] at h1
              exact fit' (by rw [h1]; rw [List.length_nil] at hT; omega)
            have fs : (V.str "." : V) = .str (tx [false]) := by rw [show ("." : Str) = tx [false] by decide +kernel]
            rw [fs]
            refine ⟨hp, _, _, rfl, rfl, same_upd nt _ _ b1, l6, B, r - HopW.gn v (B.length + 1), R ++ [(b, i, false)], rfl, ?_, sp.put (e := (b, i, false)) (nhp0) ne b1 b2 nt, by omega, by rw [List.append_assoc]; exact hRT⟩
            have er : V.int ((r : Int) - ((HopW.gn v (B.length + 1) : Nat) : Int)) = wv (r - HopW.gn v (B.length + 1)) := by
              unfold wv
              rw [show ((r - HopW.gn v (B.length + 1) : Nat) : Int) = (r : Int) - ((HopW.gn v (B.length + 1) : Nat) : Int) by omega]
            show [some (.str (tx bs)), some (.ref cp), some (wv N), some (.ref hp), some (.ref bp), some (V.int ((r : Int) - ((HopW.gn v (B.length + 1) : Nat) : Int))), some (.int (i : Int)), some (.str ⟨#[cd false]⟩)] = _
            rw [er]
          · rw [decide_eq_false (show ¬ ((HopW.gn v (B.length + 1) : Nat) : Int) ≤ (r : Int) by omega)]
            rw [hbG_no hcm] at hRT
            refine iteF ⟨.ref bp, rfl, true, .inl ⟨_, SqL.of st.b, by simp⟩, iteT ?_⟩
            obtain ⟨acc, a1, a2⟩ := st.h
            refine ⟨.ref hp, rfl, .inl ⟨rfl, _, SqL.of a1⟩, .ref bp, rfl, 1, rfl, bp, _, -1, wv b, rfl, rfl, SqL.of st.b, ?_, .int (i : Int), rfl, (by show 3 ≤ sizeLine; decide), fun t nt => ?_⟩
            · rw [List.reverse_cons, List.map_append]
              exact atI_last _ _
            have fs : (V.str "o" : V) = .str (tx [true]) := by rw [show ("o" : Str) = tx [true] by decide +kernel]
            rw [fs]
            refine ⟨hp, _, _, rfl, rfl, same_upd nt _ _ a1, accl a2, b :: B, r, R ++ [(b, i, true)], _, _, rfl, st.put (e := (b, i, true)) (nhp0) ne a1 a2 nt, by rw [List.length_cons]; omega, by rw [List.append_assoc]; exact hRT⟩
    · rintro σ H3 ⟨B, r, R, y6, y7, rfl, st, hB, hRT⟩
      rw [show (tx bs).cps.size = bs.length from tx_len bs, List.drop_length] at hRT
      have hRT : R = T0 := by
        have : R ++ [] = T0 := hRT
        rw [List.append_nil] at this
        exact this
      subst hRT
      obtain ⟨acc, a1, a2⟩ := st.h
      refine ⟨.ref hp, rfl, hp, R.map c3, rfl, ⟨acc, a1, a2⟩, fun l p H5 pm so s5 np tl => ?_⟩
      refine q H5 p l (st.s.trans s5) (st.s.free np) tl pm ⟨R, hAll, pm, sorted_pairs hAll.nd pm so, ?_⟩
      rw [pm.length_eq, List.length_map]
      rw [List.length_nil] at hT
      omega
/-! ### heap_at -/
def spHeapAt : Sp := fun vs H Q _ => ∃ (bs : List Bool) (N : Nat), vs = [.str (tx bs), wv N] ∧ Row bs ∧ N < HopW.gn bs 0 ∧ ∀ H' p ts, Same H H' → H p = none → TL t3v H' p ts → ts.Perm ((hbF bs 0 [] N).map c3) → HeapL bs ts → Q (.ref p) H'
theorem scHeapAt : FnScope ["row", "number", "counts"] ["row", "number"] (defScope sHeapAt) := ⟨rfl, rfl, rfl, by decide +kernel, rfl, by decide +kernel, by decide +kernel⟩
structure CoDefs (K : PySem.W.Frag) (mg : Str → Option Value) : Prop where
  W : ∃ r s, Fn K mg "is_whole" sIsWhole ["thing"] r s
  R : ∃ r s, Fn K mg "is_row" sIsRow ["thing"] r s
  N : ∃ r s, Fn K mg "need_row" sNeedRow ["thing"] r s
  U : ∃ r s, Fn K mg "need_number" sNeedNum ["thing", "least", "most"] r s
  C : ∃ r s, Fn K mg "counts_of" sCounts ["row"] r s
  B : ∃ r s, Fn K mg "heap_by" sHeapBy ["row", "counts", "number"] r s
theorem ok_heapat {f : Addr} {fd : FuncData} {k : Nat} (F : Fun K "heap_at" "heap_at" sHeapAt f fd) (N : CoDefs K mg) (TP : TxtP K mg C) (T : TxtR K w mg d es n) (TH : TxtH mg) (T0 : TxtS mg) : FnOk P w K mg base CX0 (k + 3) f fd ["row", "number"] spHeapAt := by
  obtain ⟨r1, s1, N1⟩ := N.R
  obtain ⟨r2, s2, N2⟩ := N.N
  obtain ⟨r3, s3, N3⟩ := N.C
  obtain ⟨r4, s4, N4⟩ := N.U
  obtain ⟨r5, s5, N5⟩ := N.B
  obtain ⟨r6, s6, N6⟩ := N.W
  have G2 : FnOk P w K mg base CX0 (k + 2) r2 s2 ["thing"] spNeed := ok_need N2.F N1 T
  have G3 : FnOk P w K mg base CX0 (k + 2) r3 s3 ["row"] spCounts := ok_counts N3.F T T0
  have G4 : FnOk P w K mg base CX0 (k + 2) r4 s4 ["thing", "least", "most"] spNum := ok_num N4.F N6 TP
  have G5 : FnOk P w K mg base CX0 (k + 2) r5 s5 ["row", "counts", "number"] spHeapBy := ok_heapby N5.F T TH
  refine F.ok scHeapAt (fun vs H Q E h => ?_) (fun cdv A outer s H vs Q E hr h => ?_)
  · obtain ⟨bs, N, rfl, _⟩ := h
    rfl
  · obtain ⟨bs, N, rfl, hR, hN, q⟩ := h
    have nd := scHeapAt.nd
    refine ⟨_, pss_cons (ps_expr (pe_call G2 hr (by rfl) N2.g N2.F.kp N2.b .nil pass0 (pa_cons (pv 0) pa_nil)))
      (pss_cons (ps_set (i := 2) nd rfl (.inl rfl) (pe_call G3 hr (by rfl) N3.g N3.F.kp N3.b .nil pass0 (pa_cons (pv 0) pa_nil)))
      (pss_cons (ps_expr (pe_call G4 hr (by rfl) N4.g N4.F.kp N4.b .nil pass0 (pa_cons (pv 1) (pa_cons pe_int (pa_cons (pe_op op_sub (pe_ix ix_list (pe_ix ix_list (pv 2) pe_int (fun _ _ => rfl)) pe_int (fun _ _ => rfl)) pe_int) pa_nil)))))
      (pss_one (ps_ret (pe_call G5 hr (by rfl) N5.g N5.F.kp N5.b .nil pass0 (pa_cons (pv 0) (pa_cons (pv 2) (pa_cons (pv 1) pa_nil)))))))), ?_⟩
    refine ⟨.str (tx bs), rfl, bs, rfl, hR, fun H1 s1 => ⟨.str (tx bs), rfl, bs, rfl, hR, fun H2 cp s2 np cn => ?_⟩⟩
    obtain ⟨L, e1, ca⟩ := id cn
    obtain ⟨b, m, l0, e2, hm, _⟩ := ca 0 (Nat.zero_le _)
    rw [List.drop_zero] at e2
    refine ⟨wv N, rfl, .ref cp, rfl, cp, _, 0, .ref b, rfl, rfl, SqL.of e1, atI_nat (j := 0) l0, b, _, 0, wv (HopW.gn bs 0), rfl, rfl, SqL.of e2, atI_nat (j := 0) (gl_at (by omega)), ((HopW.gn bs 0 : Nat) : Int), 1, rfl, rfl, (N : Int), 0, ((HopW.gn bs 0 : Nat) : Int) - 1, rfl, by omega, by omega, ?_⟩
    have s12 := s1.trans s2
    exact ⟨.str (tx bs), rfl, .ref cp, rfl, wv N, rfl, bs, cp, N, rfl, hR, cn, fun H' p ts s3 n3 => q H' p ts (s12.trans s3) (s12.free n3)⟩
end
end Hop

set_option Elab.async false
set_option linter.all false
set_option maxRecDepth 100000
namespace HopH
/-! ### a letter taken out of a heap, another one put in -/
theorem pair_one {R : List T3} (nd : (R.map fun e => (e.1, e.2.1)).Nodup) {b f : Nat} {s t : Bool} (h1 : (b, f, s) ∈ R) (h2 : (b, f, t) ∈ R) : s = t := by
  induction R with
  | nil => simp at h1
  | cons e R ih =>
    rw [List.map_cons, List.nodup_cons] at nd
    rcases List.mem_cons.mp h1 with q1 | q1 <;> rcases List.mem_cons.mp h2 with q2 | q2
    · rw [← q1] at q2; injection q2 with _ q2; injection q2 with _ q2; exact q2.symm
    · exact absurd (List.mem_map.mpr ⟨_, q2, by rw [← q1]⟩) nd.1
    · exact absurd (List.mem_map.mpr ⟨_, q1, by rw [← q2]⟩) nd.1
    · exact ih nd.2 q1 q2
theorem nodup_filter {R : List T3} (p : T3 → Bool) (nd : (R.map fun e => (e.1, e.2.1)).Nodup) : ((R.filter p).map fun e => (e.1, e.2.1)).Nodup :=
  nd.sublist (List.filter_sublist.map _)
/-- b and f stand side by side: their cell has a sign -/
theorem cut_sign {bs : List Bool} {S : List Nat} {R : List T3} (h : Heaped bs S R) {b f : Nat} (hb : b ∈ S) (hf : f ∈ S) (bf : b < f) (adj : ∀ k ∈ S, b < k → k < f → False) (h1 : bs[b]? = some true) (h2 : bs[f]? = some false) : ∃ s, (b, f, s) ∈ R :=
  (h.has b f hb hf bf h1 h2).mpr fun k hk z1 z2 => (adj k hk z1 z2).elim
theorem cut_free_only {bs : List Bool} {S : List Nat} {R : List T3} (h : Heaped bs S R) {b f : Nat} (hb : b ∈ S) (bf : b < f) (adj : ∀ k ∈ S, b < k → k < f → False) (m : (b, f, true) ∈ R) {b1 : Nat} {s1 : Bool} (m1 : (b1, f, s1) ∈ R) : b1 = b ∧ s1 = true := by
  obtain ⟨a1, a2, a3, a4, a5⟩ := h.inn _ _ _ m1
  rcases Nat.lt_trichotomy b1 b with z | z | z
  · exact ((((h.has b1 f a1 a2 a3 a4 a5).mp ⟨_, m1⟩ b hb z bf).1) m).elim
  · subst z; exact ⟨rfl, pair_one h.nd m1 m⟩
  · exact (adj b1 a1 z a3).elim
theorem cut_bead_only {bs : List Bool} {S : List Nat} {R : List T3} (h : Heaped bs S R) {b f : Nat} (hf : f ∈ S) (bf : b < f) (adj : ∀ k ∈ S, b < k → k < f → False) (m : (b, f, false) ∈ R) {f1 : Nat} {s1 : Bool} (m1 : (b, f1, s1) ∈ R) : f1 = f ∧ s1 = false := by
  obtain ⟨a1, a2, a3, a4, a5⟩ := h.inn _ _ _ m1
  rcases Nat.lt_trichotomy f1 f with z | z | z
  · exact (adj f1 a2 a3 z).elim
  · subst z; exact ⟨rfl, pair_one h.nd m1 m⟩
  · exact ((((h.has b f1 a1 a2 a3 a4 a5).mp ⟨_, m1⟩ f hf bf z).2) m).elim
theorem cut_free {bs : List Bool} {S S' : List Nat} {R : List T3} (h : Heaped bs S R) {b f : Nat} (hb : b ∈ S) (bf : b < f) (adj : ∀ k ∈ S, b < k → k < f → False) (h2 : bs[f]? = some false) (m : (b, f, true) ∈ R)
    (hS : ∀ x, x ∈ S' ↔ x ∈ S ∧ x ≠ f) : Heaped bs S' (R.filter fun e => decide (e.1 ≠ f) && decide (e.2.1 ≠ f)) := by
  have mem : ∀ {x y : Nat} {s : Bool}, x ≠ f → y ≠ f → ((x, y, s) ∈ R.filter (fun e => decide (e.1 ≠ f) && decide (e.2.1 ≠ f)) ↔ (x, y, s) ∈ R) := fun {x y s} nx ny => by
    rw [List.mem_filter]
    exact ⟨fun q => q.1, fun q => ⟨q, by simp [nx, ny]⟩⟩
  refine ⟨fun b1 f1 s m1 => ?_, nodup_filter _ h.nd, fun b1 f1 hb1 hf1 l k1 k2 => ?_⟩
  · obtain ⟨q, z⟩ := List.mem_filter.mp m1
    have z : b1 ≠ f ∧ f1 ≠ f := by simpa using z
    obtain ⟨a1, a2, r⟩ := h.inn _ _ _ q
    exact ⟨(hS _).mpr ⟨a1, z.1⟩, (hS _).mpr ⟨a2, z.2⟩, r⟩
  · obtain ⟨hb1, nb⟩ := (hS _).mp hb1
    obtain ⟨hf1, nf⟩ := (hS _).mp hf1
    have e := h.has b1 f1 hb1 hf1 l k1 k2
    constructor
    · rintro ⟨s, q⟩ k hk z1 z2
      obtain ⟨hk, nk⟩ := (hS _).mp hk
      rw [mem nk nf, mem nb nk]
      exact e.mp ⟨s, (mem nb nf).mp q⟩ k hk z1 z2
    · intro q
      obtain ⟨s, r⟩ := e.mpr fun k hk z1 z2 => by
        by_cases ek : k = f
        · subst ek
          refine ⟨fun z => bad (h.inn _ _ _ z).2.2.2.1 h2, fun z => ?_⟩
          have := (cut_free_only h hb bf adj m z).2
          cases this
        · have := q k ((hS _).mpr ⟨hk, ek⟩) z1 z2
          rw [mem ek nf, mem nb ek] at this
          exact this
      exact ⟨s, (mem nb nf).mpr r⟩
theorem cut_bead {bs : List Bool} {S S' : List Nat} {R : List T3} (h : Heaped bs S R) {b f : Nat} (hf : f ∈ S) (bf : b < f) (adj : ∀ k ∈ S, b < k → k < f → False) (h1 : bs[b]? = some true) (m : (b, f, false) ∈ R)
    (hS : ∀ x, x ∈ S' ↔ x ∈ S ∧ x ≠ b) : Heaped bs S' (R.filter fun e => decide (e.1 ≠ b) && decide (e.2.1 ≠ b)) := by
  have mem : ∀ {x y : Nat} {s : Bool}, x ≠ b → y ≠ b → ((x, y, s) ∈ R.filter (fun e => decide (e.1 ≠ b) && decide (e.2.1 ≠ b)) ↔ (x, y, s) ∈ R) := fun {x y s} nx ny => by
    rw [List.mem_filter]
    exact ⟨fun q => q.1, fun q => ⟨q, by simp [nx, ny]⟩⟩
  refine ⟨fun b1 f1 s m1 => ?_, nodup_filter _ h.nd, fun b1 f1 hb1 hf1 l k1 k2 => ?_⟩
  · obtain ⟨q, z⟩ := List.mem_filter.mp m1
    have z : b1 ≠ b ∧ f1 ≠ b := by simpa using z
    obtain ⟨a1, a2, r⟩ := h.inn _ _ _ q
    exact ⟨(hS _).mpr ⟨a1, z.1⟩, (hS _).mpr ⟨a2, z.2⟩, r⟩
  · obtain ⟨hb1, nb⟩ := (hS _).mp hb1
    obtain ⟨hf1, nf⟩ := (hS _).mp hf1
    have e := h.has b1 f1 hb1 hf1 l k1 k2
    constructor
    · rintro ⟨s, q⟩ k hk z1 z2
      obtain ⟨hk, nk⟩ := (hS _).mp hk
      rw [mem nk nf, mem nb nk]
      exact e.mp ⟨s, (mem nb nf).mp q⟩ k hk z1 z2
    · intro q
      obtain ⟨s, r⟩ := e.mpr fun k hk z1 z2 => by
        by_cases ek : k = b
        · subst ek
          refine ⟨fun z => ?_, fun z => bad h1 (h.inn _ _ _ z).2.2.2.2⟩
          have := (cut_bead_only h hf bf adj m z).2
          cases this
        · have := q k ((hS _).mpr ⟨hk, ek⟩) z1 z2
          rw [mem ek nf, mem nb ek] at this
          exact this
      exact ⟨s, (mem nb nf).mpr r⟩
/-- a letter that no other one meets -/
def Lone (bs : List Bool) (S : List Nat) (x : Nat) : Prop := (bs[x]? = some true ∧ ∀ y ∈ S, x < y → bs[y]? ≠ some false) ∨ (bs[x]? = some false ∧ ∀ y ∈ S, y < x → bs[y]? ≠ some true)
theorem lone_none {bs : List Bool} {S : List Nat} {R : List T3} {x : Nat} (inn : ∀ b f s, (b, f, s) ∈ R → b ∈ S ∧ f ∈ S ∧ b < f ∧ bs[b]? = some true ∧ bs[f]? = some false) (l : Lone bs S x) : (∀ f s, (x, f, s) ∉ R) ∧ ∀ b s, (b, x, s) ∉ R := by
  constructor
  · intro f s m
    obtain ⟨a1, a2, a3, a4, a5⟩ := inn _ _ _ m
    rcases l with ⟨q1, q2⟩ | ⟨q1, q2⟩
    · exact q2 f a2 a3 a5
    · exact bad a4 q1
  · intro b s m
    obtain ⟨a1, a2, a3, a4, a5⟩ := inn _ _ _ m
    rcases l with ⟨q1, q2⟩ | ⟨q1, q2⟩
    · exact bad q1 a5
    · exact q2 b a1 a3 a4
theorem lone_out {bs : List Bool} {S S' : List Nat} {R : List T3} {x : Nat} (h : Heaped bs S R) (l : Lone bs S x) (hS : ∀ y, y ∈ S' ↔ y ∈ S ∧ y ≠ x) : Heaped bs S' R := by
  obtain ⟨n1, n2⟩ := lone_none h.inn l
  refine ⟨fun b f s m => ?_, h.nd, fun b f hb hf bf k1 k2 => ?_⟩
  · obtain ⟨a1, a2, r⟩ := h.inn _ _ _ m
    exact ⟨(hS _).mpr ⟨a1, fun z => by subst z; exact n1 _ _ m⟩, (hS _).mpr ⟨a2, fun z => by subst z; exact n2 _ _ m⟩, r⟩
  · rw [h.has b f ((hS _).mp hb).1 ((hS _).mp hf).1 bf k1 k2]
    constructor
    · exact fun q k hk => q k ((hS _).mp hk).1
    · intro q k hk z1 z2
      by_cases e : k = x
      · subst e; exact ⟨n1 _ _, n2 _ _⟩
      · exact q k ((hS _).mpr ⟨hk, e⟩) z1 z2
theorem lone_in {bs : List Bool} {S S' : List Nat} {R : List T3} {x : Nat} (h : Heaped bs S' R) (l : Lone bs S x) (hS : ∀ y, y ∈ S' ↔ y ∈ S ∧ y ≠ x) : Heaped bs S R := by
  have inn : ∀ b f s, (b, f, s) ∈ R → b ∈ S ∧ f ∈ S ∧ b < f ∧ bs[b]? = some true ∧ bs[f]? = some false := fun b f s m => by
    obtain ⟨a1, a2, r⟩ := h.inn _ _ _ m
    exact ⟨((hS _).mp a1).1, ((hS _).mp a2).1, r⟩
  obtain ⟨n1, n2⟩ := lone_none inn l
  refine ⟨inn, h.nd, fun b f hb hf bf k1 k2 => ?_⟩
  have nb : b ≠ x := fun z => by
    subst z
    rcases l with ⟨q1, q2⟩ | ⟨q1, q2⟩
    · exact q2 f hf bf k2
    · exact bad k1 q1
  have nf : f ≠ x := fun z => by
    subst z
    rcases l with ⟨q1, q2⟩ | ⟨q1, q2⟩
    · exact bad q1 k2
    · exact q2 b hb bf k1
  rw [h.has b f ((hS _).mpr ⟨hb, nb⟩) ((hS _).mpr ⟨hf, nf⟩) bf k1 k2]
  constructor
  · intro q k hk z1 z2
    by_cases e : k = x
    · subst e; exact ⟨n1 _ _, n2 _ _⟩
    · exact q k ((hS _).mpr ⟨hk, e⟩) z1 z2
  · exact fun q k hk => q k ((hS _).mp hk).1
/-! ### letters named anew -/
def rl (φ : Nat → Nat) (e : T3) : T3 := (φ e.1, φ e.2.1, e.2.2)
theorem heaped_map {bs bs' : List Bool} {S S' : List Nat} {R : List T3} (φ : Nat → Nat) (mono : ∀ x ∈ S, ∀ y ∈ S, x < y → φ x < φ y) (val : ∀ x ∈ S, bs'[φ x]? = bs[x]?) (hS : ∀ y, y ∈ S' ↔ ∃ x ∈ S, y = φ x) (h : Heaped bs S R) : Heaped bs' S' (R.map (rl φ)) := by
  have inj : ∀ x ∈ S, ∀ y ∈ S, φ x = φ y → x = y := fun x hx y hy e => by
    rcases Nat.lt_trichotomy x y with z | z | z
    · have := mono x hx y hy z; omega
    · exact z
    · have := mono y hy x hx z; omega
  have back : ∀ x ∈ S, ∀ y ∈ S, φ x < φ y → x < y := fun x hx y hy l => by
    rcases Nat.lt_trichotomy x y with z | z | z
    · exact z
    · subst z; omega
    · have := mono y hy x hx z; omega
  have mem : ∀ {x y : Nat} {s : Bool}, x ∈ S → y ∈ S → ((φ x, φ y, s) ∈ R.map (rl φ) ↔ (x, y, s) ∈ R) := fun {x y s} hx hy => by
    rw [List.mem_map]
    constructor
    · rintro ⟨⟨x', y', s'⟩, m, e⟩
      obtain ⟨a1, a2, _⟩ := h.inn _ _ _ m
      unfold rl at e
      injection e with e1 e2
      injection e2 with e2 e3
      have e1 := inj _ a1 _ hx e1
      have e2 := inj _ a2 _ hy e2
      have e3 : s' = s := e3
      have e1 : x' = x := e1
      have e2 : y' = y := e2
      rw [← e1, ← e2, ← e3]
      exact m
    · exact fun m => ⟨_, m, rfl⟩
  refine ⟨fun b f s m => ?_, ?_, fun b f hb hf bf k1 k2 => ?_⟩
  · obtain ⟨⟨x, y, t⟩, m', e⟩ := List.mem_map.mp m
    unfold rl at e
    injection e with e1 e2
    injection e2 with e2 e3
    have e1 : φ x = b := e1
    have e2 : φ y = f := e2
    subst e1 e2
    obtain ⟨a1, a2, a3, a4, a5⟩ := h.inn _ _ _ m'
    exact ⟨(hS _).mpr ⟨x, a1, rfl⟩, (hS _).mpr ⟨y, a2, rfl⟩, mono _ a1 _ a2 a3, by rw [val _ a1]; exact a4, by rw [val _ a2]; exact a5⟩
  · have nd := h.nd
    have inn := h.inn
    clear h mem
    induction R with
    | nil => simp
    | cons e R ih =>
      rw [List.map_cons, List.nodup_cons] at nd
      rw [List.map_cons, List.map_cons, List.nodup_cons]
      refine ⟨fun m => ?_, ih nd.2 fun b f s m => inn b f s (List.mem_cons_of_mem _ m)⟩
      obtain ⟨z, hz, ez⟩ := List.mem_map.mp m
      obtain ⟨u, hu, rfl⟩ := List.mem_map.mp hz
      obtain ⟨u1, u2, u3⟩ := u
      obtain ⟨e1, e2, e3⟩ := e
      unfold rl at ez
      injection ez with q1 q2
      obtain ⟨a1, a2, _⟩ := inn _ _ _ (List.mem_cons_of_mem _ hu)
      obtain ⟨b1, b2, _⟩ := inn _ _ _ (List.mem_cons_self ..)
      have q1 := inj _ a1 _ b1 q1
      have q2 := inj _ a2 _ b2 q2
      exact nd.1 (List.mem_map.mpr ⟨_, hu, by show (u1, u2) = (e1, e2); rw [show u1 = e1 from q1, show u2 = e2 from q2]⟩)
  · obtain ⟨x, hx, rfl⟩ := (hS _).mp hb
    obtain ⟨y, hy, rfl⟩ := (hS _).mp hf
    have e := h.has x y hx hy (back _ hx _ hy bf) (by rw [← val _ hx]; exact k1) (by rw [← val _ hy]; exact k2)
    constructor
    · rintro ⟨s, m⟩ k hk z1 z2
      obtain ⟨u, hu, rfl⟩ := (hS _).mp hk
      rw [mem hu hy, mem hx hu]
      exact e.mp ⟨s, (mem hx hy).mp m⟩ u hu (back _ hx _ hu z1) (back _ hu _ hy z2)
    · intro q
      obtain ⟨s, m⟩ := e.mpr fun u hu z1 z2 => by
        have := q (φ u) ((hS _).mpr ⟨u, hu, rfl⟩) (mono _ hx _ hu z1) (mono _ hu _ hy z2)
        rw [mem hu hy, mem hx hu] at this
        exact this
      exact ⟨s, (mem hx hy).mpr m⟩
/-- where a place is then: one taken out, one put in -/
def plc2 (t u x : Nat) : Nat := if u ≤ (if t < x then x - 1 else x) then (if t < x then x - 1 else x) + 1 else (if t < x then x - 1 else x)
theorem plc2_mono {t u x y : Nat} (nx : x ≠ t) (ny : y ≠ t) (l : x < y) : plc2 t u x < plc2 t u y := by
  unfold plc2
  by_cases h1 : t < x <;> by_cases h2 : t < y <;> simp only [h1, h2, if_true, if_false] <;> split <;> split <;> omega
theorem plc2_ne {t u x : Nat} : plc2 t u x ≠ u := by
  unfold plc2
  by_cases h1 : t < x <;> simp only [h1, if_true, if_false] <;> split <;> omega
theorem plc2_lt {t u x n : Nat} (nx : x ≠ t) (ht : t < n) (hx : x < n) : plc2 t u x < n := by
  unfold plc2
  by_cases h1 : t < x <;> simp only [h1, if_true, if_false] <;> split <;> omega
theorem plc2_back {t u x : Nat} (nx : x ≠ t) : plc2 u t (plc2 t u x) = x := by
  unfold plc2
  by_cases h1 : t < x <;> simp only [h1, if_true, if_false] <;> split <;> split <;> split <;> omega
theorem erase_at {bs : List Bool} {t x : Nat} (nx : x ≠ t) : (bs.eraseIdx t)[if t < x then x - 1 else x]? = bs[x]? := by
  by_cases h : t < x
  · rw [if_pos h, List.getElem?_eraseIdx_of_ge (by omega), show x - 1 + 1 = x by omega]
  · rw [if_neg h, List.getElem?_eraseIdx_of_lt (by omega)]
theorem plc2_val {bs bs' : List Bool} {t u x : Nat} (e : bs.eraseIdx t = bs'.eraseIdx u) (nx : x ≠ t) : bs'[plc2 t u x]? = bs[x]? := by
  rw [← erase_at nx, e]
  unfold plc2
  generalize (if t < x then x - 1 else x) = y
  have h := erase_at (bs := bs') (t := u) (x := if u ≤ y then y + 1 else y) (by split <;> omega)
  rw [← h]
  congr 1
  by_cases z : u ≤ y
  · rw [if_pos z, if_pos (by omega)]; rfl
  · rw [if_neg z, if_neg (by omega)]
end HopH

set_option Elab.async false
set_option linter.all false
set_option maxRecDepth 100000
namespace HopH
open HopW (gn sn)
/-! ### the number of a heap -/
/-- counts below β, m of them -/
def sd (c : Nat → Nat) : Nat → Nat → Nat
  | _, 0 => 0
  | β, m + 1 => c β + sd c (β - 1) m
/-- how many beads the free place i uses up -/
def uF (R : List T3) (i : Nat) : Nat := R.countP fun e => decide (e.2.1 = i) && !e.2.2
def nuF : List Bool → Nat → Nat → (Nat → Nat) → Nat
  | [], _, _, _ => 0
  | true :: w, i, β, U => nuF w (i + 1) (β + 1) U
  | false :: w, i, β, U => sd (gn w) β (U i) + nuF w (i + 1) (β - U i) U
theorem nuF_congr : ∀ (w : List Bool) (i β : Nat) (U U' : Nat → Nat), (∀ j, i ≤ j → U j = U' j) → nuF w i β U = nuF w i β U'
  | [], _, _, _, _, _ => rfl
  | true :: w, i, β, U, U', h => nuF_congr w (i + 1) (β + 1) U U' fun j hj => h j (by omega)
  | false :: w, i, β, U, U', h => by
    show sd (gn w) β (U i) + nuF w (i + 1) (β - U i) U = sd (gn w) β (U' i) + nuF w (i + 1) (β - U' i) U'
    rw [h i (Nat.le_refl _), nuF_congr w (i + 1) (β - U' i) U U' fun j hj => h j (by omega)]
theorem uF_cons (e : T3) (R : List T3) (j : Nat) : uF (e :: R) j = uF R j + (if e.2.1 = j ∧ e.2.2 = false then 1 else 0) := by
  unfold uF
  rw [List.countP_cons]
  congr 1
  by_cases h : e.2.1 = j
  · rw [decide_eq_true h]
    cases e.2.2 <;> simp [h]
  · rw [decide_eq_false h]
    simp [h]
theorem uF_perm {R R' : List T3} (p : R.Perm R') (j : Nat) : uF R j = uF R' j := p.countP_eq _
theorem uF_zero {R : List T3} {j : Nat} (h : ∀ e ∈ R, e.2.1 = j → e.2.2 = true) : uF R j = 0 := by
  unfold uF
  rw [List.countP_eq_zero]
  intro e m
  rw [Bool.and_eq_true, decide_eq_true_eq]
  rintro ⟨a, b⟩
  rw [h e m a] at b
  cases b
theorem sn_end (h : Nat → Nat) : ∀ b, sn h (b + 1) = sn h b + h b := by
  intro b
  induction b generalizing h with
  | zero => show h 0 + 0 = 0 + h 0; omega
  | succ b ih =>
    show h 0 + sn (fun j => h (j + 1)) (b + 1) = (h 0 + sn (fun j => h (j + 1)) b) + h (b + 1)
    rw [ih (fun j => h (j + 1))]
    omega
theorem gn_free (w : List Bool) (β : Nat) : gn (false :: w) (β + 1) = gn (false :: w) β + gn w (β + 1) := sn_end (gn w) (β + 1)
theorem gn_free0 (w : List Bool) : gn (false :: w) 0 = gn w 0 := by
  show gn w 0 + 0 = _
  omega
theorem gn_ge (w : List Bool) (β : Nat) : gn w β ≤ gn (false :: w) β := by
  cases β with
  | zero => rw [gn_free0]; exact Nat.le_refl _
  | succ β => rw [gn_free]; omega
theorem hbF_from : ∀ (w : List Bool) (i : Nat) (B : List Nat) (r : Nat), ∀ e ∈ hbF w i B r, i ≤ e.2.1
  | [], _, _, _, e, m => by cases m
  | true :: w, i, B, r, e, m => by
    have := hbF_from w (i + 1) (i :: B) r e m
    omega
  | false :: w, i, B, r, e, m => by
    rw [hbF_free] at m
    unfold hbG at m
    rcases List.mem_append.mp m with m | m
    · obtain ⟨b, _, rfl⟩ := List.mem_map.mp m
      exact Nat.le_refl _
    rcases List.mem_append.mp m with m | m
    · generalize (popF (gn w) B r).2.1 = L at m
      cases L with
      | nil => cases m
      | cons b L =>
        rw [show topF i (b :: L) = [(b, i, true)] from rfl, List.mem_singleton] at m
        rw [m]
        exact Nat.le_refl _
    · have := hbF_from w (i + 1) _ _ e m
      omega
/-- the number of what a number tells -/
theorem num_hb : ∀ (w : List Bool) (i : Nat) (B : List Nat) (r : Nat), r < gn w B.length → nuF w i B.length (uF (hbF w i B r)) = r := by
  intro w
  induction w with
  | nil =>
    intro i B r h
    have h : r < 1 := h
    show 0 = r
    omega
  | cons x w ih =>
    cases x with
    | true =>
      intro i B r h
      rw [hbF_bead]
      exact ih (i + 1) (i :: B) r h
    | false =>
      intro i B
      induction B with
      | nil =>
        intro r h
        rw [hbF_free, hbG_nil]
        have z : uF (hbF w (i + 1) [] r) i = 0 := uF_zero fun e m q => by
          have := hbF_from w (i + 1) [] r e m
          omega
        show sd (gn w) 0 (uF (hbF w (i + 1) [] r) i) + nuF w (i + 1) (0 - uF (hbF w (i + 1) [] r) i) _ = r
        rw [z]
        have h : r < gn (false :: w) 0 := h
        rw [gn_free0] at h
        have := ih (i + 1) [] r h
        show 0 + nuF w (i + 1) 0 _ = r
        rw [Nat.zero_add]
        exact this
      | cons b B ihB =>
        intro r h
        have h : r < gn (false :: w) (B.length + 1) := h
        rw [gn_free] at h
        rw [hbF_free]
        by_cases c : gn w (B.length + 1) ≤ r
        · rw [hbG_yes c, ← hbF_free]
          have q := ihB (r - gn w (B.length + 1)) (by omega)
          generalize hbF (false :: w) i B (r - gn w (B.length + 1)) = R at q
          have u1 : uF ((b, i, false) :: R) i = uF R i + 1 := by rw [uF_cons, if_pos ⟨rfl, rfl⟩]
          have q : sd (gn w) B.length (uF R i) + nuF w (i + 1) (B.length - uF R i) (uF R) = r - gn w (B.length + 1) := q
          show sd (gn w) (B.length + 1) (uF ((b, i, false) :: R) i) + nuF w (i + 1) (B.length + 1 - uF ((b, i, false) :: R) i) (uF ((b, i, false) :: R)) = r
          rw [u1, nuF_congr w (i + 1) (B.length + 1 - (uF R i + 1)) (uF ((b, i, false) :: R)) (uF R) fun j hj => by rw [uF_cons, if_neg fun z => by have : i = j := z.1; omega]; rfl, show B.length + 1 - (uF R i + 1) = B.length - uF R i by omega]
          show gn w (B.length + 1) + sd (gn w) (B.length + 1 - 1) (uF R i) + _ = r
          rw [Nat.add_sub_cancel]
          omega
        · rw [hbG_no c]
          have q := ih (i + 1) (b :: B) r (by show r < gn w (B.length + 1); omega)
          have z : uF (hbF w (i + 1) (b :: B) r) i = 0 := uF_zero fun e m q => by
            have := hbF_from w (i + 1) (b :: B) r e m
            omega
          generalize hbF w (i + 1) (b :: B) r = R at q z
          have u1 : ∀ j, uF ((b, i, true) :: R) j = uF R j := fun j => by rw [uF_cons, if_neg fun z => by cases z.2]; rfl
          show sd (gn w) (B.length + 1) (uF ((b, i, true) :: R) i) + nuF w (i + 1) (B.length + 1 - uF ((b, i, true) :: R) i) (uF ((b, i, true) :: R)) = r
          rw [u1, z, nuF_congr w (i + 1) _ (uF ((b, i, true) :: R)) (uF R) fun j _ => u1 j]
          show 0 + nuF w (i + 1) (B.length + 1) (uF R) = r
          rw [Nat.zero_add]
          exact q
theorem mem_mid {l1 l2 : List Nat} {x : Nat} (so : (l1 ++ x :: l2).Pairwise (· < ·)) : ∀ y, y ∈ l1 ++ l2 ↔ y ∈ l1 ++ x :: l2 ∧ y ≠ x := by
  obtain ⟨_, h2, h3⟩ := List.pairwise_append.mp so
  obtain ⟨h4, _⟩ := List.pairwise_cons.mp h2
  intro y
  rw [List.mem_append, List.mem_append, List.mem_cons]
  constructor
  · rintro (m | m)
    · exact ⟨.inl m, fun e => by have := h3 y m x (List.mem_cons_self ..); omega⟩
    · exact ⟨.inr (.inr m), fun e => by have := h4 y m; omega⟩
  · rintro ⟨m | m | m, n⟩
    · exact .inl m
    · exact absurd m n
    · exact .inr m
theorem Heaped.nodup {bs : List Bool} {S : List Nat} {R : List T3} (h : Heaped bs S R) : R.Nodup := (List.pairwise_map.mp h.nd).imp fun {a b} n e => n (by rw [e])
theorem touchT {R : List T3} {x : Nat} {e : T3} (nd : R.Nodup) (he : e ∈ R) (ht : e.1 = x ∨ e.2.1 = x) (only : ∀ a ∈ R, a.1 = x ∨ a.2.1 = x → a = e) : R.Perm (e :: R.filter fun a => decide (a.1 ≠ x) && decide (a.2.1 ≠ x)) := by
  have kp : ∀ a : T3, (decide (a.1 ≠ x) && decide (a.2.1 ≠ x)) = true ↔ ¬ (a.1 = x ∨ a.2.1 = x) := fun a => by
    rw [Bool.and_eq_true, decide_eq_true_eq, decide_eq_true_eq, not_or]
  refine (List.perm_ext_iff_of_nodup nd ?_).mpr fun a => ?_
  · refine List.nodup_cons.mpr ⟨fun m => ?_, nd.filter _⟩
    exact (kp e).mp (List.mem_filter.mp m).2 ht
  · rw [List.mem_cons, List.mem_filter, kp]
    constructor
    · intro m
      by_cases z : a.1 = x ∨ a.2.1 = x
      · exact .inl (only a m z)
      · exact .inr ⟨m, z⟩
    · rintro (rfl | ⟨m, _⟩)
      · exact he
      · exact m
theorem no_touch {R : List T3} {x : Nat} (h : ∀ a ∈ R, a.1 ≠ x ∧ a.2.1 ≠ x) : R.filter (fun a => decide (a.1 ≠ x) && decide (a.2.1 ≠ x)) = R := by
  refine List.filter_eq_self.mpr fun a m => ?_
  rw [decide_eq_true (h a m).1, decide_eq_true (h a m).2]
  rfl
/-- each heap is the heap of its number -/
theorem num_back {bs : List Bool} : ∀ (w : List Bool) (i : Nat) (B F : List Nat) (R : List T3), bs.drop i = w → (F ++ B.reverse ++ List.range' i w.length).Pairwise (· < ·) → (∀ x ∈ F, bs[x]? = some false) → (∀ x ∈ B, bs[x]? = some true) →
    Heaped bs (F ++ B.reverse ++ List.range' i w.length) R → nuF w i B.length (uF R) < gn w B.length ∧ R.Perm (hbF w i B (nuF w i B.length (uF R))) := by
  intro w
  induction w with
  | nil =>
    intro i B F R e so hF hB h
    rw [show List.range' i ([] : List Bool).length = [] from rfl, List.append_nil] at so h
    refine ⟨by show 0 < 1; decide, ?_⟩
    have : R = [] := by
      cases R with
      | nil => rfl
      | cons a R =>
        obtain ⟨b, f, s⟩ := a
        obtain ⟨a1, a2, a3, a4, a5⟩ := h.inn b f s (List.mem_cons_self ..)
        obtain ⟨_, _, h3⟩ := List.pairwise_append.mp so
        rcases List.mem_append.mp a1 with m1 | m1
        · exact absurd (hF b m1) (by rw [a4]; simp)
        rcases List.mem_append.mp a2 with m2 | m2
        · have := h3 f m2 b m1; omega
        · exact absurd (hB f (List.mem_reverse.mp m2)) (by rw [a5]; simp)
    rw [this]
    exact .nil
  | cons x w ih =>
    intro i B F R e so hF hB h
    have il : i < bs.length := by
      rcases Nat.lt_or_ge i bs.length with h | h
      · exact h
      · rw [List.drop_eq_nil_of_le h] at e; cases e
    rw [List.drop_eq_getElem_cons il] at e
    obtain ⟨e1, e2⟩ := List.cons.inj e
    have bi : bs[i]? = some x := by rw [List.getElem?_eq_getElem il, e1]
    have rg : List.range' i (x :: w).length = i :: List.range' (i + 1) w.length := by
      rw [List.length_cons, List.range'_succ]
    rw [rg] at so h
    cases x with
    | true =>
      have ec : F ++ B.reverse ++ i :: List.range' (i + 1) w.length = F ++ (i :: B).reverse ++ List.range' (i + 1) w.length := by
        rw [List.reverse_cons, ← List.append_assoc, List.append_assoc (F ++ B.reverse)]
        rfl
      rw [ec] at so h
      exact ih (i + 1) (i :: B) F R e2 so hF (fun x m => by
        rcases List.mem_cons.mp m with rfl | m
        · exact bi
        · exact hB x m) h
    | false =>
      clear rg e
      induction B generalizing R with
      | nil =>
        have ec : F ++ ([] : List Nat).reverse ++ i :: List.range' (i + 1) w.length = F ++ [i] ++ ([] : List Nat).reverse ++ List.range' (i + 1) w.length := by
          rw [List.reverse_nil, List.append_nil, List.append_nil, List.append_assoc]
          rfl
        have z : uF R i = 0 := uF_zero fun a m q => by
          obtain ⟨b, f, s⟩ := a
          have q : f = i := q
          subst q
          obtain ⟨a1, a2, a3, a4, a5⟩ := h.inn _ _ _ m
          rw [List.reverse_nil, List.append_nil] at so a1
          obtain ⟨_, k2, k3⟩ := List.pairwise_append.mp so
          rcases List.mem_append.mp a1 with m1 | m1
          · exact absurd (hF b m1) (by rw [a4]; simp)
          · rcases List.mem_cons.mp m1 with m1 | m1
            · omega
            · have := (List.pairwise_cons.mp k2).1 b m1
              omega
        rw [ec] at so h
        obtain ⟨q1, q2⟩ := ih (i + 1) [] (F ++ [i]) R e2 so (fun x m => by
          rcases List.mem_append.mp m with m | m
          · exact hF x m
          · rw [List.mem_singleton.mp m]; exact bi) (fun x m => by simp at m) h
        have en : nuF (false :: w) i ([] : List Nat).length (uF R) = nuF w (i + 1) ([] : List Nat).length (uF R) := by
          show sd (gn w) 0 (uF R i) + nuF w (i + 1) (0 - uF R i) (uF R) = nuF w (i + 1) 0 (uF R)
          rw [z]
          show 0 + nuF w (i + 1) 0 (uF R) = _
          omega
        rw [en]
        refine ⟨Nat.lt_of_lt_of_le q1 (gn_ge w 0), ?_⟩
        rw [hbF_free, hbG_nil]
        exact q2
      | cons b B ihB =>
        have ec : F ++ (b :: B).reverse ++ i :: List.range' (i + 1) w.length = (F ++ B.reverse) ++ b :: i :: List.range' (i + 1) w.length := by
          rw [List.reverse_cons, ← List.append_assoc, List.append_assoc (F ++ B.reverse)]
          rfl
        have bb := hB b (List.mem_cons_self ..)
        have so0 := so
        rw [ec] at so h
        have gb : ((F ++ B.reverse) ++ b :: i :: List.range' (i + 1) w.length)[(F ++ B.reverse).length]? = some b := by rw [List.getElem?_append_right (Nat.le_refl _), Nat.sub_self]; rfl
        have gi : ((F ++ B.reverse) ++ b :: i :: List.range' (i + 1) w.length)[(F ++ B.reverse).length + 1]? = some i := by rw [List.getElem?_append_right (Nat.le_add_right _ _), Nat.add_sub_cancel_left]; rfl
        have adj := next_to so gb gi
        have bS := List.mem_of_getElem? gb
        have iS := List.mem_of_getElem? gi
        have lt : b < i := lt_at so gb gi (Nat.lt_succ_self _)
        obtain ⟨s, m⟩ := cut_sign h bS iS lt adj bb bi
        cases s with
        | true =>
          have ed : (F ++ B.reverse ++ [b]) ++ List.range' (i + 1) w.length = F ++ (b :: B).reverse ++ List.range' (i + 1) w.length := by
            rw [List.reverse_cons, List.append_assoc F]
          have ee : (F ++ B.reverse) ++ b :: i :: List.range' (i + 1) w.length = (F ++ B.reverse ++ [b]) ++ i :: List.range' (i + 1) w.length := by
            rw [List.append_assoc (F ++ B.reverse)]
            rfl
          have hS := mem_mid (by rw [← ee]; exact so : ((F ++ B.reverse ++ [b]) ++ i :: List.range' (i + 1) w.length).Pairwise (· < ·))
          rw [← ee, ed] at hS
          have hc := cut_free h bS lt adj bi m hS
          have so' : (F ++ (b :: B).reverse ++ List.range' (i + 1) w.length).Pairwise (· < ·) := by
            rw [← ed]
            rw [ee] at so
            exact so.sublist (List.Sublist.append_left (List.sublist_cons_self _ _) _)
          obtain ⟨q1, q2⟩ := ih (i + 1) (b :: B) F _ e2 so' hF hB hc
          have pR := touchT h.nodup m (.inr rfl) fun a ma z => by
            obtain ⟨b1, f1, s1⟩ := a
            rcases z with z | z
            · have z : b1 = i := z
              subst z
              exact absurd (h.inn _ _ _ ma).2.2.2.1 (by rw [bi]; simp)
            · have z : f1 = i := z
              subst z
              obtain ⟨r1, r2⟩ := cut_free_only h bS lt adj m ma
              rw [r1, r2]
          generalize (R.filter fun e => decide (e.1 ≠ i) && decide (e.2.1 ≠ i)) = R' at pR q1 q2 hc
          have u1 : ∀ j, uF R j = uF R' j := fun j => by rw [uF_perm pR, uF_cons, if_neg fun z => by cases z.2]; rfl
          have u0 : uF R i = 0 := by
            rw [u1]
            refine uF_zero fun a ma z => ?_
            obtain ⟨b1, f1, s1⟩ := a
            have z : f1 = i := z
            subst z
            have := ((hS f1).mp (hc.inn _ _ _ ma).2.1).2
            exact absurd rfl this
          have en : nuF (false :: w) i (b :: B).length (uF R) = nuF w (i + 1) (b :: B).length (uF R') := by
            show sd (gn w) (B.length + 1) (uF R i) + nuF w (i + 1) (B.length + 1 - uF R i) (uF R) = nuF w (i + 1) (B.length + 1) (uF R')
            rw [u0, nuF_congr w (i + 1) _ (uF R) (uF R') fun j _ => u1 j]
            show 0 + nuF w (i + 1) (B.length + 1) (uF R') = _
            omega
          rw [en]
          refine ⟨Nat.lt_of_lt_of_le q1 (gn_ge w _), ?_⟩
          have q1 : nuF w (i + 1) (B.length + 1) (uF R') < gn w (B.length + 1) := q1
          rw [hbF_free, hbG_no (show ¬ gn w (B.length + 1) ≤ nuF w (i + 1) (b :: B).length (uF R') from by show ¬ gn w (B.length + 1) ≤ nuF w (i + 1) (B.length + 1) (uF R'); omega)]
          exact pR.trans (q2.cons _)
        | false =>
          have hS := mem_mid so
          have hc := cut_bead h iS lt adj bb m hS
          have so' : ((F ++ B.reverse) ++ i :: List.range' (i + 1) w.length).Pairwise (· < ·) := so.sublist (List.Sublist.append_left (List.sublist_cons_self _ _) _)
          obtain ⟨q1, q2⟩ := ihB _ so' (fun x m => hB x (List.mem_cons_of_mem _ m)) hc
          have pR := touchT h.nodup m (.inl rfl) fun a ma z => by
            obtain ⟨b1, f1, s1⟩ := a
            rcases z with z | z
            · have z : b1 = b := z
              subst z
              obtain ⟨r1, r2⟩ := cut_bead_only h iS lt adj m ma
              rw [r1, r2]
            · have z : f1 = b := z
              subst z
              exact absurd (h.inn _ _ _ ma).2.2.2.2 (by rw [bb]; simp)
          generalize (R.filter fun e => decide (e.1 ≠ b) && decide (e.2.1 ≠ b)) = R' at pR q1 q2 hc
          have ui : uF R i = uF R' i + 1 := by rw [uF_perm pR, uF_cons, if_pos ⟨rfl, rfl⟩]
          have u1 : ∀ j, i + 1 ≤ j → uF R j = uF R' j := fun j hj => by rw [uF_perm pR, uF_cons, if_neg fun z => by have : i = j := z.1; omega]; rfl
          have en : nuF (false :: w) i (b :: B).length (uF R) = gn w (B.length + 1) + nuF (false :: w) i B.length (uF R') := by
            show sd (gn w) (B.length + 1) (uF R i) + nuF w (i + 1) (B.length + 1 - uF R i) (uF R) = gn w (B.length + 1) + (sd (gn w) B.length (uF R' i) + nuF w (i + 1) (B.length - uF R' i) (uF R'))
            rw [ui, nuF_congr w (i + 1) _ (uF R) (uF R') u1, show B.length + 1 - (uF R' i + 1) = B.length - uF R' i by omega]
            show gn w (B.length + 1) + sd (gn w) (B.length + 1 - 1) (uF R' i) + _ = _
            rw [Nat.add_sub_cancel]
            omega
          rw [en]
          have gf := gn_free w B.length
          refine ⟨by show _ < gn (false :: w) (B.length + 1); omega, ?_⟩
          rw [hbF_free, hbG_yes (by omega), ← hbF_free, Nat.add_sub_cancel_left]
          exact pR.trans (q2.cons _)
theorem num_all {bs : List Bool} {R : List T3} (h : Heaped bs (List.range bs.length) R) : nuF bs 0 0 (uF R) < gn bs 0 ∧ R.Perm (hbF bs 0 [] (nuF bs 0 0 (uF R))) := by
  have := num_back (bs := bs) bs 0 [] [] R List.drop_zero (by rw [List.reverse_nil, List.nil_append, List.nil_append, ← List.range_eq_range']; exact range_lt _) (fun x m => by simp at m) (fun x m => by simp at m) (by rw [List.reverse_nil, List.nil_append, List.nil_append, ← List.range_eq_range']; exact h)
  exact this
end HopH

set_option Elab.async false
set_option linter.all false
set_option maxRecDepth 100000
set_option exponentiation.threshold 200000
namespace Hop
open PySem L2 HopR HopT HopH
theorem inV_ints (ns : List Int) (x : Int) : inV (.int x) (ns.map V.int) = ns.contains x := by
  unfold inV
  rw [List.any_map, List.contains_eq_any_beq]
  congr 1
  funext y
  show eqV (.int y) (.int x) = (x == y)
  unfold eqV
  by_cases h : x = y
  · subst h; simp
  · rw [beq_eq_false_iff_ne.mpr h]
    simp [h, Ne.symm h]
theorem flt_step {l : List Nat} {p : Nat → Bool} {i a : Nat} (h : l[i]? = some a) : (l.take (i + 1)).filter p = (l.take i).filter p ++ (if p a = true then [a] else []) := by
  rw [List.take_add_one, h, List.filter_append]
  by_cases z : p a = true
  · rw [if_pos z]; simp [z]
  · rw [if_neg z]; simp [z]
theorem range_take' {n i : Nat} (h : i ≤ n) : (List.range n).take i = List.range i := by rw [List.take_range, Nat.min_eq_left h]
theorem code_at {bs : List Bool} {p : Nat} {b : Bool} (h : bs[p]? = some b) : atI (tx bs).cps.toList (p : Int) = some (cd b) := atI_nat (by rw [tx_list, List.getElem?_map, h]; rfl)
/-! ### _law_course -/
theorem erase_wv : ∀ (L : List Nat) (j : Nat), ((L.map fun n : Nat => (n : Int)).eraseIdx j).map V.int = (L.eraseIdx j).map wv
  | [], j => by simp
  | a :: L, 0 => by rw [List.map_cons, List.eraseIdx_cons_zero, List.eraseIdx_cons_zero, List.map_map]; rfl
  | a :: L, j + 1 => by
    rw [List.map_cons, List.eraseIdx_cons_succ, List.eraseIdx_cons_succ, List.map_cons, List.map_cons, erase_wv L j]
    rfl
theorem sum_tx : ∀ w : List Bool, ((w.map fun b => tx [b]).map (·.length)).sum = w.length
  | [] => rfl
  | b :: w => by
    rw [List.map_cons, List.map_cons, List.sum_cons, sum_tx w, List.length_cons, tx_len]
    simp only [List.length_cons, List.length_nil]
    omega
theorem two_of (a b : Bool) : decide (V.str (⟨#[cd a]⟩ ++ ⟨#[cd b]⟩) = V.str "o.") = (a && !b) := by
  cases a <;> cases b
  · exact decide_eq_false (fun z => absurd (V.str.inj z) (by decide +kernel))
  · exact decide_eq_false (fun z => absurd (V.str.inj z) (by decide +kernel))
  · exact decide_eq_true (congrArg V.str (by decide +kernel))
  · exact decide_eq_false (fun z => absurd (V.str.inj z) (by decide +kernel))
theorem ofAt_val {w : List Bool} {i : Nat} {a b : Bool} (h1 : w[i]? = some a) (h2 : w[i + 1]? = some b) : ofAt w i = (a && !b) := by
  cases e : (a && !b) with
  | true =>
    refine ofAt_iff.mpr ?_
    rw [h1, h2]
    cases a <;> cases b
    · cases e
    · cases e
    · exact ⟨rfl, rfl⟩
    · cases e
  | false =>
    cases z : ofAt w i with
    | false => rfl
    | true =>
      have := ofAt_iff.mp z
      rw [h1, h2] at this
      obtain ⟨p, q⟩ := this
      cases p; cases q
      cases e
theorem o_dot (x : Int) : ∃ s : Bool, atI ("o." : Str).cps.toList (x % 2) = some (cd s) := by
  have : x % 2 = 0 ∨ x % 2 = 1 := by omega
  rcases this with e | e
  · rw [e]; exact ⟨true, by decide +kernel⟩
  · rw [e]; exact ⟨false, by decide +kernel⟩
section
variable {P : Program} {w : World} {K : PySem.W.Frag} {mg : Str → Option Value} {base : Heap} {C d : Addr} {es : Array DictEntry} {n : Nat}
def spCourse (K : PySem.W.Frag) : Sp := fun vs H Q _ => ∃ (bs : List Bool) (dp : Addr) (ds : List Int), vs = [.str (tx bs), .ref dp] ∧ Row bs ∧ SqL K H dp ((ds : List Int).map V.int) ∧ 1 ≤ ds.length ∧ ds.length ≤ 1000 ∧ (∀ x ∈ ds, 0 ≤ x) ∧ ∀ H' p ts, Same H H' → H p = none → TL t3v H' p ts → HeapL bs ts → Q (.ref p) H'
abbrev nCo : List Str := ["_law_row_here", "_law_draws", "_law_letters", "_law_heap", "_law_turn", "_law_letter", "_law_k", "_law_some", "_law_at", "_law_bead", "_law_free", "_law_sign"]
theorem scCo : FnScope nCo ["_law_row_here", "_law_draws"] (defScope sLCourse) := ⟨rfl, rfl, rfl, by decide +kernel, rfl, by decide +kernel, by decide +kernel⟩
/-- m letters are left -/
def WC (bs : List Bool) (dp : Addr) (H : Hp) (m : Nat) (σ : St) (H2 : Hp) : Prop := ∃ (lp hp : Addr) (L : List Nat) (R : List HopH.T3) (y5 y6 y7 y8 y9 y10 y11 : Option V),
  σ = [some (.str (tx bs)), some (.ref dp), some (.ref lp), some (.ref hp), some (wv R.length), y5, y6, y7, y8, y9, y10, y11] ∧ L.length = m ∧ R.length + m = bs.length ∧ Same H H2 ∧ H lp = none ∧ H hp = none ∧ lp ≠ hp ∧
  H2 lp = some (.lst (L.map wv)) ∧ (∃ acc, H2 hp = some (.lst acc) ∧ TupG H2 t3v (R.map c3) acc) ∧ L.Pairwise (· < ·) ∧ (∀ x ∈ L, x < bs.length) ∧ ∀ R', Heaped bs L R' → Heaped bs (List.range bs.length) (R ++ R')
def rAddS : R2 := fun x y H Q => ∃ i j, x = .str i ∧ y = .str j ∧ i.length + j.length ≤ sizeLine ∧ Q (.str (i ++ j)) H
set_option maxHeartbeats 2000000 in
theorem ok_course {f : Addr} {fd : FuncData} {k : Nat} (F : Fun K "_law_course" "_law_course" sLCourse f fd) (T : TxtR K w mg d es n) : FnOk P w K mg base CX0 (k + 1) f fd ["_law_row_here", "_law_draws"] (spCourse K) := by
  refine F.ok scCo (fun vs H Q E h => ?_) (fun cdv A outer s H vs Q E hr h => ?_)
  · obtain ⟨bs, dp, ds, rfl, _⟩ := h
    rfl
  · obtain ⟨bs, dp, ds, rfl, hR, hd, d1, d2, dz, q⟩ := h
    have nd := scCo.nd
    have h30 := hR.2
    have wr := row_size hR
    refine ⟨_, pss_cons (ps_set (i := 2) nd rfl (.inr rfl) (pe_listRg (by rfl) (by rfl) T.list (prg_1 (by rfl) T.range (pe_callB call_len_str (by rfl) T.len PySem.boot_len (pa_cons (pv 0) pa_nil)))))
      (pss_cons (ps_set (i := 3) nd rfl (.inl rfl) (pe_lst pa_nil))
      (pss_cons (ps_set (i := 4) nd rfl (.inl rfl) pe_int)
      (pss_cons (ps_while PassesOwn.never (pt_cmpR op_in_str pe_str (pe_join pe_str (pe_lc (own := [("_law_letter", 5)]) (g := gName 5) (tt := tYes) (te := tOp rIxS (tVar 0) (tVar 5)) (by rfl) nd (pi_list (pv 2)) (blkOk_by (own := [("_law_letter", 5)]) (N := nCo) (sc := defScope sLCourse) (by decide +kernel))
            (fun _ _ _ _ _ => pg_name (i := 5) nd rfl (.inl rfl)) (fun _ _ _ _ _ => pts_nil) (fun _ _ _ _ _ => pe_ix ix_str (pv 0) (pv 5) (fun _ _ => rfl)))) (by rfl))
        (pss_cons (ps_setLc (i := 7) (own := [("_law_k", 6)]) (g := gName 6) (tt := tTest (tOp rEq (tOp rAddS (tOp rIxS (tVar 0) (tOp (rIxL K) (tVar 2) (tVar 6))) (tOp rIxS (tVar 0) (tOp (rIxL K) (tVar 2) (tOp (rI0 fun i j => .int (i + j)) (tVar 6) (tC (.int 1)))))) (tC (.str "o.")))) (by rfl) nd rfl rfl (sw_true rfl rfl rfl (by decide +kernel))
            (pi_range1 (by rfl) T.range (pa_cons (pe_op op_sub (pe_callB call_len_seq (by rfl) T.len PySem.boot_len (pa_cons (pv 2) pa_nil)) pe_int) pa_nil)) (blkOk_by (own := [("_law_k", 6)]) (N := nCo) (sc := defScope sLCourse) (by decide +kernel))
            (fun _ _ _ _ _ => pg_name (i := 6) nd rfl (.inl rfl))
            (fun _ _ _ _ _ => pts_one (pt_cmpR op_eq (pe_op (show OpR _ (binaryOp .Add) rAddS from op_add_str) (pe_ix ix_str (pv 0) (pe_ix (show IxR _ (rIxL K) from ix_list) (pv 2) (pv 6) (fun _ _ => rfl)) (fun _ _ => rfl)) (pe_ix ix_str (pv 0) (pe_ix (show IxR _ (rIxL K) from ix_list) (pv 2) (pe_op op_add (pv 6) pe_int) (fun _ _ => rfl)) (fun _ _ => rfl))) pe_str (nomark _))) (fun _ _ _ _ _ => pv 6))
        (pss_cons (ps_set (i := 8) nd rfl (.inl rfl) (pe_ix ix_list (pv 7) (pe_op op_mod (pe_op op_fdiv (pe_ix ix_list (pv 1) (pe_op op_mod (pv 4) (pe_callB call_len_seq (by rfl) T.len PySem.boot_len (pa_cons (pv 1) pa_nil))) (fun _ _ => rfl)) pe_int) (pe_callB call_len_seq (by rfl) T.len PySem.boot_len (pa_cons (pv 7) pa_nil))) (fun _ _ => rfl)))
        (pss_cons (ps_par (by rfl) nd (i := 9) (j := 10) rfl rfl (by decide) rfl rfl (pa_cons (pe_ix ix_list (pv 2) (pv 8) (fun _ _ => rfl)) (pa_cons (pe_ix ix_list (pv 2) (pe_op op_add (pv 8) pe_int) (fun _ _ => rfl)) pa_nil)) (by rfl))
        (pss_cons (ps_set (i := 11) nd rfl (.inl rfl) (pe_ix ix_str pe_str (pe_op op_mod (pe_ix ix_list (pv 1) (pe_op op_mod (pv 4) (pe_callB call_len_seq (by rfl) T.len PySem.boot_len (pa_cons (pv 1) pa_nil))) (fun _ _ => rfl)) pe_int) (fun _ _ => rfl)))
        (pss_cons (ps_expr (pe_bm PySem.F.plainAttrs_list PySem.F.slot_list_append PySem.F.type_list_append mt_append (pv 3) (pa_cons (pe_tup (pa_cons (pv 9) (pa_cons (pv 10) (pa_cons (pv 11) pa_nil)))) pa_nil)))
        (pss_cons (ps_expr (pe_bm PySem.F.plainAttrs_list PySem.F.slot_list_remove PySem.F.type_list_remove mt_remove (pv 2) (pa_cons (pe_ix ix_list (pe_lst (pa_cons (pv 10) (pa_cons (pv 9) pa_nil))) (pe_callTy call_int1 (by rfl) T.int (by decide +kernel) (pa_cons (pe_cmpR op_eq (pv 11) pe_str (nomark _)) pa_nil)) (fun _ _ => rfl)) pa_nil)))
        (pss_one (ps_set (i := 4) nd rfl (.inl rfl) (pe_op op_add (pv 4) pe_int))))))))))
      (pss_one (ps_ret (pe_callB (show CallR _ (.builtin "sorted") (rSortedA t3v k3) from cr_sorted3) (by rfl) T.sorted (by decide +kernel) (pa_cons (pv 3) pa_nil))))))), ?_⟩
    refine ⟨.str (tx bs), rfl, tx bs, rfl, wr, ((tx bs).length : Int), rfl, ⟨by decide, by decide, by rw [tx_len]; omega, by rw [tx_len]; omega, by rw [tx_len]; omega⟩, fun lp nlp => ⟨(by show 0 ≤ sizeLine; decide), fun hp nhp => ?_⟩⟩
    have rg : rgV 0 (((tx bs).length : Nat) : Int) = (List.range bs.length).map wv := by
      unfold rgV
      rw [tx_len, Int.sub_zero, Int.toNat_natCast]
      exact List.map_congr_left fun i _ => by rw [Int.zero_add]; rfl
    rw [rg] at nhp ⊢
    have s1 := same_upd (o := .lst ((List.range bs.length).map wv)) nlp
    have e1 : upd H lp (.lst ((List.range bs.length).map wv)) lp = some (.lst ((List.range bs.length).map wv)) := upd_same
    generalize upd H lp (.lst ((List.range bs.length).map wv)) = H1 at s1 e1 nhp
    have s2 := same_upd (o := .lst []) nhp
    refine ⟨WC bs dp H, ⟨bs.length, lp, hp, List.range bs.length, [], none, none, none, none, none, none, none, rfl, List.length_range, Nat.zero_add _, s1.trans s2, nlp, s1.free nhp, ne_of_none e1 nhp, s2 _ _ e1, ⟨[], upd_same, rfl⟩, range_lt _, fun x hx => List.mem_range.mp hx, fun R' h => h⟩, ?_⟩
    clear e1 s1 s2 nhp rg nlp
    clear H1 lp hp
    rintro m σ H3 ⟨lp, hp, L, R, y5, y6, y7, y8, y9, y10, y11, rfl, hm, hRm, s3, nlp, nhp, lh, el, ⟨acc, eh, gh⟩, so, lb, good⟩
    have hL : L.length ≤ 30 := by omega
    have bit : ∀ {i a : Nat}, L[i]? = some a → bs[a]? = some (bitL bs a) := fun {i a} h => by
      have := lb a (List.mem_of_getElem? h)
      unfold bitL
      rw [List.getElem?_eq_getElem this]
      rfl
    have atL : ∀ {i a : Nat}, L[i]? = some a → atI (L.map wv) (i : Int) = some (wv a) := fun {i a} h => atI_nat (by rw [List.getElem?_map, h]; rfl)
    refine ⟨⟨_, rfl⟩, .ref lp, rfl, lp, rfl, ⟨_, SqL.of el⟩, fun D1 nD1 => ?_⟩
    refine lc_list (K := K) (a := lp) (xs := L.map wv) (fun i H4 => Same H3 H4 ∧ H4 D1 = some (.lst ((((L.take i).map (bitL bs)).map fun b => tx [b]).map V.str))) ⟨same_upd nD1, upd_same⟩ (fun i H4 _ h => SqL.of (h.1 _ _ el)) ?_ ?_
    · rintro i x H4 hx ⟨s4, eD⟩
      rw [List.getElem?_map] at hx
      obtain ⟨a, ha, rfl⟩ := Option.map_eq_some_iff.mp hx
      have hi := (List.getElem?_eq_some_iff.mp ha).1
      have st : L.take (i + 1) = L.take i ++ [a] := by rw [List.take_add_one, ha]; rfl
      refine ⟨rfl, .str (tx bs), rfl, wv a, rfl, _, (a : Int), cd (bitL bs a), rfl, rfl, wr, code_at (bit ha), _, eD, ?_, same_new nD1 s4, ?_⟩
      · rw [List.length_map, List.length_map, List.length_map, List.length_take]; exact fit' (by omega)
      · rw [upd_same, st, List.map_append, List.map_append, List.map_append]; rfl
    rintro H4 ⟨s4, eD1⟩
    rw [List.length_map, List.take_length] at eD1
    refine ⟨"", D1, (L.map (bitL bs)).map fun b => tx [b], rfl, rfl, .inl (SqL.of eD1), ?_, "o.", _, rfl, rfl, _, rfl, ?_⟩
    · rw [sum_tx, List.length_map, List.length_map]
      show L.length + L.length * 0 ≤ _
      omega
    rw [join_tx, in_of]
    have s04 := s3.trans s4
    have el4 := s4 _ _ el
    have eh4 := s4 _ _ eh
    have gh4 := tupG_same s4 gh
    have hW : ∀ {i a : Nat}, L[i]? = some a → (L.map (bitL bs))[i]? = some (bitL bs a) := fun {i a} h => by rw [List.getElem?_map, h]; rfl
    cases hw : hasOf (L.map (bitL bs)) with
    | false =>
      have hpd := good [] (end_heap so (hasOf_no hw))
      rw [List.append_nil] at hpd
      refine iteF ⟨.ref hp, rfl, hp, R.map c3, rfl, ⟨acc, eh4, gh4⟩, fun l' p H' pm sm' s5 np tl => ?_⟩
      exact q H' p l' (s04.trans s5) (s04.free np) tl ⟨R, hpd, pm, sorted_pairs hpd.nd pm sm', by rw [pm.length_eq, List.length_map]; omega⟩
    | true =>
      refine iteT ⟨fun σ' H' => ∃ m', m' < m ∧ WC bs dp H m' σ' H', fun _ _ h => h, ?_⟩
      have sne := hasOf_spots hw
      have h2 : 2 ≤ L.length := by
        obtain ⟨i, hi⟩ := List.exists_mem_of_ne_nil _ sne
        have := ofAt_lt (mem_spots.mp hi)
        rw [List.length_map] at this
        omega
      refine ⟨.ref lp, rfl, lp, _, rfl, .inl (SqL.of el4), ((L.map wv).length : Int), 1, rfl, rfl, ((L.length - 1 : Nat) : Int), (by rw [List.length_map]; exact congrArg (fun z => [V.int z]) (by omega)), by omega, by omega, fun D2 nD2 => ?_⟩
      have st : ∀ i, i < L.length - 1 → ((List.range (L.length - 1)).take (i + 1)).filter (ofAt (L.map (bitL bs))) = ((List.range (L.length - 1)).take i).filter (ofAt (L.map (bitL bs))) ++ (if ofAt (L.map (bitL bs)) i = true then [i] else []) := fun i hi => flt_step (by rw [List.getElem?_range hi])
      refine lc_it (walk_range (lo := 0) (n := L.length - 1)) (fun i H5 => Same H4 H5 ∧ H5 D2 = some (.lst ((((List.range (L.length - 1)).take i).filter (ofAt (L.map (bitL bs)))).map wv))) ⟨same_upd nD2, upd_same⟩ (fun _ _ _ _ => trivial) ?_ ?_
      · rintro i x H5 H6 hi ⟨s5, eD⟩ ⟨rfl, rfl⟩
        have h1 : L[i]? = some L[i] := List.getElem?_eq_getElem (by omega)
        have h1' : L[i + 1]? = some L[i + 1] := List.getElem?_eq_getElem (by omega)
        generalize L[i] = a1 at h1
        generalize L[i + 1] = a2 at h1'
        have z0 : (fun i : Nat => V.int (0 + (i : Int))) i = V.int (i : Int) := by show V.int (0 + _) = _; rw [Int.zero_add]
        rw [z0]
        refine ⟨rfl, .str (tx bs), rfl, .ref lp, rfl, .int (i : Int), rfl, lp, _, (i : Int), wv a1, rfl, rfl, SqL.of (s5 _ _ el4), atL h1, tx bs, (a1 : Int), cd (bitL bs a1), rfl, rfl, wr, code_at (bit h1), ?_⟩
        refine ⟨.str (tx bs), rfl, .ref lp, rfl, .int (i : Int), rfl, (i : Int), 1, rfl, rfl, lp, _, (i : Int) + 1, wv a2, rfl, rfl, SqL.of (s5 _ _ el4), atL h1', tx bs, (a2 : Int), cd (bitL bs a2), rfl, rfl, wr, code_at (bit h1'), ?_⟩
        refine ⟨⟨#[_]⟩, ⟨#[_]⟩, rfl, rfl, (by show 1 + 1 ≤ sizeLine; decide), rfl, _, rfl, ?_⟩
        rw [two_of, ← ofAt_val (hW h1) (hW h1'), st i hi]
        have lt : ((((List.range (L.length - 1)).take i).filter (ofAt (L.map (bitL bs)))).map wv).length < sizeLine := by
          rw [List.length_map]
          exact fit' (Nat.le_trans (List.length_filter_le _ _) (Nat.le_trans (List.length_take_le _ _) (by omega)))
        cases hc : ofAt (L.map (bitL bs)) i with
        | false =>
          refine iteF ⟨s5, ?_⟩
          rw [if_neg (by decide), List.append_nil]
          exact eD
        | true =>
          refine iteT ⟨.int (i : Int), rfl, _, eD, lt, same_new nD2 s5, ?_⟩
          rw [upd_same, if_pos rfl, List.map_append]
          rfl
      rintro H5 ⟨s5, eD2⟩
      have eD2 : H5 D2 = some (.lst ((spotsL (L.map (bitL bs))).map wv)) := by
        rw [eD2]
        unfold spotsL
        rw [range_take' (Nat.le_refl _), List.length_map]
      have s05 := s04.trans s5
      have el5 := s5 _ _ el4
      have eh5 := s5 _ _ eh4
      have gh5 := tupG_same s5 gh4
      have hd5 := s05.seq hd
      have pos : (0 : Int) < ((ds.map V.int).length : Int) := by rw [List.length_map]; omega
      have hr' : R.length % ds.length < ds.length := Nat.mod_lt _ (by omega)
      have gd : ds[R.length % ds.length]? = some ds[R.length % ds.length] := List.getElem?_eq_getElem hr'
      have dv0 := dz _ (List.getElem_mem hr')
      generalize ds[R.length % ds.length] = dv at gd dv0
      have atD : atI (ds.map V.int) ((R.length : Int) % ((ds.map V.int).length : Int)) = some (.int dv) := by
        rw [List.length_map, ← Int.natCast_emod]
        exact atI_nat (by rw [List.getElem?_map, gd]; rfl)
      have spos : 0 < (spotsL (L.map (bitL bs))).length := List.length_pos_iff.mpr sne
      obtain ⟨j, hj, jl⟩ : ∃ j : Nat, (dv / 2) % (((spotsL (L.map (bitL bs))).map wv).length : Int) = (j : Int) ∧ j < (spotsL (L.map (bitL bs))).length := by
        rw [List.length_map]
        have a1 := Int.emod_nonneg (dv / 2) (show (((spotsL (L.map (bitL bs))).length : Nat) : Int) ≠ 0 by omega)
        have a2 := Int.emod_lt_of_pos (dv / 2) (show (0 : Int) < (((spotsL (L.map (bitL bs))).length : Nat) : Int) by omega)
        exact ⟨_, (Int.toNat_of_nonneg a1).symm, by omega⟩
      have gk : (spotsL (L.map (bitL bs)))[j]? = some (spotsL (L.map (bitL bs)))[j] := List.getElem?_eq_getElem jl
      generalize (spotsL (L.map (bitL bs)))[j] = k0 at gk
      have ok := mem_spots.mp (List.mem_of_getElem? gk)
      have kl := ofAt_lt ok
      rw [List.length_map] at kl
      obtain ⟨o1, o2⟩ := ofAt_iff.mp ok
      have h1 : L[k0]? = some L[k0] := List.getElem?_eq_getElem (by omega)
      have h1' : L[k0 + 1]? = some L[k0 + 1] := List.getElem?_eq_getElem (by omega)
      generalize L[k0] = b0 at h1
      generalize L[k0 + 1] = f0 at h1'
      have v1 : bs[b0]? = some true := by rw [bit h1]; exact (hW h1).symm.trans o1
      have v2 : bs[f0]? = some false := by rw [bit h1']; exact (hW h1').symm.trans o2
      refine ⟨.ref D2, rfl, .ref dp, rfl, wv R.length, rfl, .ref dp, rfl, dp, _, rfl, .inl hd5, (R.length : Int), _, rfl, rfl, pos, dp, _, _, .int dv, rfl, rfl, hd5, atD, dv, 2, rfl, rfl, ⟨by decide, by decide⟩, ?_⟩
      refine ⟨.ref D2, rfl, D2, _, rfl, .inl (SqL.of eD2), dv / 2, _, rfl, rfl, (by rw [List.length_map]; omega), D2, _, _, wv k0, rfl, rfl, SqL.of eD2, (by rw [hj]; exact atI_nat (by rw [List.getElem?_map, gk]; rfl)), ?_⟩
      refine ⟨.ref lp, rfl, wv k0, rfl, lp, _, (k0 : Int), wv b0, rfl, rfl, SqL.of el5, atL h1, .ref lp, rfl, wv k0, rfl, (k0 : Int), 1, rfl, rfl, lp, _, (k0 : Int) + 1, wv f0, rfl, rfl, SqL.of el5, atL h1', _, _, rfl, ?_⟩
      obtain ⟨s, hs⟩ := o_dot dv
      refine ⟨.ref dp, rfl, wv R.length, rfl, .ref dp, rfl, dp, _, rfl, .inl hd5, (R.length : Int), _, rfl, rfl, pos, dp, _, _, .int dv, rfl, rfl, hd5, atD, dv, 2, rfl, rfl, (show (0 : Int) < 2 by decide), "o.", dv % 2, cd s, rfl, rfl, (by decide +kernel), hs, ?_⟩
      have lacc := tupG_len gh5
      rw [List.length_map] at lacc
      refine ⟨.ref hp, rfl, .inl ⟨rfl, _, SqL.of eh5⟩, wv b0, rfl, wv f0, rfl, .str ⟨#[cd s]⟩, rfl, (by show 3 ≤ sizeLine; decide), fun p9 n9 => ?_⟩
      have s9 := same_upd (o := .tup [wv b0, wv f0, .str ⟨#[cd s]⟩]) n9
      have e9 : upd H5 p9 (.tup [wv b0, wv f0, .str ⟨#[cd s]⟩]) p9 = some (.tup (t3v (c3 (b0, f0, s)))) := upd_same
      generalize upd H5 p9 (.tup [wv b0, wv f0, .str ⟨#[cd s]⟩]) = H6 at s9 e9
      have s06 := s05.trans s9
      have eh6 := s9 _ _ eh5
      refine ⟨hp, acc, .ref p9, rfl, rfl, eh6, fit' (by omega), ?_⟩
      have el7 : upd H6 hp (.lst (acc ++ [.ref p9])) lp = some (.lst (L.map wv)) := by rw [upd_ne lh]; exact s9 _ _ el5
      have eh7 : upd H6 hp (.lst (acc ++ [.ref p9])) hp = some (.lst (acc ++ [.ref p9])) := upd_same
      have gh7 : TupG (upd H6 hp (.lst (acc ++ [.ref p9]))) t3v ((R ++ [(b0, f0, s)]).map c3) (acc ++ [.ref p9]) := by
        rw [List.map_append]
        exact tupG_upd eh6 (tupG_add e9 (tupG_same s9 gh5))
      have s07 : Same H (upd H6 hp (.lst (acc ++ [.ref p9]))) := same_new nhp s06
      generalize upd H6 hp (.lst (acc ++ [.ref p9])) = H7 at el7 eh7 gh7 s07
      refine ⟨.ref lp, rfl, .inl ⟨rfl, _, SqL.of el7⟩, wv f0, rfl, wv b0, rfl, (by show 2 ≤ sizeLine; decide), fun p10 n10 => ?_⟩
      have s10 := same_upd (o := .lst [wv f0, wv b0]) n10
      have e10 : upd H7 p10 (.lst [wv f0, wv b0]) p10 = some (.lst [wv f0, wv b0]) := upd_same
      generalize upd H7 p10 (.lst [wv f0, wv b0]) = H8 at s10 e10
      have s08 := s07.trans s10
      have el8 := s10 _ _ el7
      have eh8 := s10 _ _ eh7
      have gh8 := tupG_same s10 gh7
      refine ⟨.str ⟨#[cd s]⟩, rfl, rfl, .inr ⟨_, rfl, p10, [wv f0, wv b0], _, wv (if s = true then f0 else b0), rfl, rfl, SqL.of e10, ?_, ?_⟩⟩
      · rw [is_fH]
        cases s <;> rfl
      have el8' : H8 lp = some (.lst ((L.map fun n : Nat => (n : Int)).map V.int)) := by rw [el8, List.map_map]; rfl
      have hjj : (L.map fun n : Nat => (n : Int))[if s = true then k0 + 1 else k0]? = some (((if s = true then f0 else b0 : Nat)) : Int) := by
        rw [List.getElem?_map]
        cases s with
        | true => rw [if_pos rfl, if_pos rfl, h1']; rfl
        | false => rw [if_neg (by decide), if_neg (by decide), h1]; rfl
      have hL' : L[if s = true then k0 + 1 else k0]? = some (if s = true then f0 else b0) := by
        cases s with
        | true => rw [if_pos rfl, if_pos rfl, h1']
        | false => rw [if_neg (by decide), if_neg (by decide), h1]
      have jlt := (List.getElem?_eq_some_iff.mp hL').1
      refine ⟨lp, L.map fun n : Nat => (n : Int), _, if s = true then k0 + 1 else k0, rfl, rfl, el8', hjj, fun i hi z => ?_, ?_⟩
      · rw [List.getElem?_map] at z
        obtain ⟨y, hy, e⟩ := Option.map_eq_some_iff.mp z
        have e : (y : Int) = (((if s = true then f0 else b0) : Nat) : Int) := e
        have := lt_at so hy hL' hi
        omega
      have er : ((L.map fun n : Nat => (n : Int)).eraseIdx (if s = true then k0 + 1 else k0)).map V.int = (L.eraseIdx (if s = true then k0 + 1 else k0)).map wv := erase_wv _ _
      rw [er]
      refine ⟨wv R.length, rfl, (R.length : Int), 1, rfl, rfl, m - 1, by omega, lp, hp, L.eraseIdx (if s = true then k0 + 1 else k0), R ++ [(b0, f0, s)], _, _, _, _, _, _, _, (by rw [List.length_append]; rfl), ?_, ?_, same_new nlp s08, nlp, nhp, lh, upd_same, ⟨acc ++ [.ref p9], ?_, tupG_upd el8 gh8⟩, so.sublist (List.eraseIdx_sublist ..), fun x hx => lb x (List.mem_of_mem_eraseIdx hx), step_heap so h1 h1' v1 v2 s good⟩
      · rw [List.length_eraseIdx_of_lt jlt, hm]
      · rw [List.length_append]
        show R.length + 1 + (m - 1) = _
        omega
      · rw [upd_ne (Ne.symm lh)]
        exact eh8
end
end Hop

set_option Elab.async false
set_option linter.all false
set_option maxRecDepth 100000
namespace HopH
open HopW (gn sn)
open L2 HopR HopT
/-- no free place uses up more beads than are left -/
def uOK : List Bool → Nat → Nat → (Nat → Nat) → Prop
  | [], _, _, _ => True
  | true :: w, i, β, U => uOK w (i + 1) (β + 1) U
  | false :: w, i, β, U => U i ≤ β ∧ uOK w (i + 1) (β - U i) U
theorem uOK_congr : ∀ (w : List Bool) (i β : Nat) (U U' : Nat → Nat), (∀ j, i ≤ j → U j = U' j) → uOK w i β U → uOK w i β U'
  | [], _, _, _, _, _, _ => trivial
  | true :: w, i, β, U, U', h, k => uOK_congr w (i + 1) (β + 1) U U' (fun j hj => h j (by omega)) k
  | false :: w, i, β, U, U', h, k => by
    obtain ⟨k1, k2⟩ := k
    rw [h i (Nat.le_refl _)] at k1 k2
    exact ⟨k1, uOK_congr w (i + 1) (β - U' i) U U' (fun j hj => h j (by omega)) k2⟩
theorem uOK_hb : ∀ (w : List Bool) (i : Nat) (B : List Nat) (r : Nat), uOK w i B.length (uF (hbF w i B r)) := by
  intro w
  induction w with
  | nil => intro i B r; trivial
  | cons x w ih =>
    cases x with
    | true =>
      intro i B r
      exact ih (i + 1) (i :: B) r
    | false =>
      intro i B
      induction B with
      | nil =>
        intro r
        have z : uF (hbF w (i + 1) [] r) i = 0 := uF_zero fun e m q => by
          have := hbF_from w (i + 1) [] r e m
          omega
        refine ⟨by rw [hbF_free, hbG_nil, z]; exact Nat.zero_le _, ?_⟩
        rw [hbF_free, hbG_nil, z]
        exact ih (i + 1) [] r
      | cons b B ihB =>
        intro r
        by_cases c : gn w (B.length + 1) ≤ r
        · rw [hbF_free, hbG_yes c, ← hbF_free]
          obtain ⟨q1, q2⟩ := ihB (r - gn w (B.length + 1))
          generalize hbF (false :: w) i B (r - gn w (B.length + 1)) = R at q1 q2
          have u1 : uF ((b, i, false) :: R) i = uF R i + 1 := by rw [uF_cons, if_pos ⟨rfl, rfl⟩]
          refine ⟨by rw [u1, List.length_cons]; omega, ?_⟩
          rw [u1, List.length_cons, show B.length + 1 - (uF R i + 1) = B.length - uF R i by omega]
          exact uOK_congr w (i + 1) _ _ _ (fun j hj => by rw [uF_cons, if_neg fun z => by have : i = j := z.1; omega]; rfl) q2
        · rw [hbF_free, hbG_no c]
          have q := ih (i + 1) (b :: B) r
          have z : uF (hbF w (i + 1) (b :: B) r) i = 0 := uF_zero fun e m q => by
            have := hbF_from w (i + 1) (b :: B) r e m
            omega
          generalize hbF w (i + 1) (b :: B) r = R at q z
          have u1 : ∀ j, uF ((b, i, true) :: R) j = uF R j := fun j => by rw [uF_cons, if_neg fun z => by cases z.2]; rfl
          refine ⟨by rw [u1, z]; exact Nat.zero_le _, ?_⟩
          rw [u1, z]
          exact uOK_congr w (i + 1) _ _ _ (fun j _ => (u1 j).symm) q
/-- the number of a list of tuples -/
def uI (ts : List I3) (i : Nat) : Nat := ((ts.filter fun e => !e.2.2).map fun e => e.2.1).count (i : Int)
def numL (bs : List Bool) (ts : List I3) : Nat := nuF bs 0 0 (uI ts)
theorem uI_uF {R : List T3} {ts : List I3} (p : ts.Perm (R.map c3)) (i : Nat) : uI ts i = uF R i := by
  unfold uI
  rw [((p.filter _).map _).count_eq]
  clear p
  induction R with
  | nil => rfl
  | cons e R ih =>
    obtain ⟨b, f, s⟩ := e
    rw [uF_cons, ← ih, List.map_cons]
    cases s with
    | true =>
      rw [List.filter_cons_of_neg (by simp [c3]), if_neg fun z => by cases z.2]
      rfl
    | false =>
      rw [List.filter_cons_of_pos (by simp [c3]), List.map_cons, List.count_cons]
      congr 1
      show (if ((f : Int) == (i : Int)) = true then 1 else 0) = _
      by_cases h : f = i
      · subst h
        rw [if_pos (beq_self_eq_true _), if_pos ⟨rfl, rfl⟩]
      · rw [if_neg (by rw [beq_iff_eq]; omega), if_neg fun z => h z.1]
theorem numL_at {bs : List Bool} {ts : List I3} {N : Nat} (p : ts.Perm ((hbF bs 0 [] N).map c3)) (h : N < gn bs 0) : numL bs ts = N := by
  unfold numL
  rw [nuF_congr bs 0 0 (uI ts) (uF (hbF bs 0 [] N)) fun j _ => uI_uF p j]
  exact num_hb bs 0 [] N h
theorem numL_back {bs : List Bool} {ts : List I3} (h : HeapL bs ts) : numL bs ts < gn bs 0 ∧ ts.Perm ((hbF bs 0 [] (numL bs ts)).map c3) := by
  obtain ⟨R, hR, p, _, _⟩ := h
  have e : numL bs ts = nuF bs 0 0 (uF R) := nuF_congr bs 0 0 _ _ fun j _ => uI_uF p j
  obtain ⟨q1, q2⟩ := num_all hR
  rw [e]
  exact ⟨q1, p.trans (q2.map _)⟩
theorem uOK_heap {bs : List Bool} {ts : List I3} (h : HeapL bs ts) : uOK bs 0 0 (uI ts) := by
  obtain ⟨R, hR, p, _, _⟩ := h
  obtain ⟨q1, q2⟩ := num_all hR
  exact uOK_congr bs 0 0 (uF (hbF bs 0 [] (nuF bs 0 0 (uF R)))) _ (fun j _ => by rw [uI_uF p, uF_perm q2]) (uOK_hb bs 0 [] _)
end HopH

set_option Elab.async false
set_option linter.all false
set_option maxRecDepth 100000
set_option exponentiation.threshold 200000
namespace Hop
open PySem L2 HopR HopT HopH
section
variable {P : Program} {w : World} {K : PySem.W.Frag} {mg : Str → Option Value} {base : Heap} {C d : Addr} {es : Array DictEntry} {n : Nat}
/-! ### heap_number -/
def spHeapNum : Sp := fun vs H Q _ => ∃ (bs : List Bool) (p : Addr) (ts : List I3), vs = [.str (tx bs), .ref p] ∧ Row bs ∧ TL t3v H p ts ∧ HeapL bs ts ∧ ∀ H', Same H H' → Q (wv (numL bs ts)) H'
abbrev nHN : List Str := ["row", "heap", "counts", "sign", "users", "number", "beads", "place", "turn", "bead", "free"]
theorem scHN : FnScope nHN ["row", "heap"] (defScope sHeapNum) := ⟨rfl, rfl, rfl, by decide +kernel, rfl, by decide +kernel, by decide +kernel⟩
def frI (ts : List I3) : List Int := (ts.filter fun e => !e.2.2).map fun e => e.2.1
theorem frI_step {ts : List I3} {i : Nat} {e : I3} (h : ts[i]? = some e) : frI (ts.take (i + 1)) = frI (ts.take i) ++ (if (!e.2.2) = true then [e.2.1] else []) := by
  unfold frI
  have e1 : (ts.take (i + 1)).filter (fun e => !e.2.2) = (ts.take i).filter (fun e => !e.2.2) ++ (if (!e.2.2) = true then [e] else []) := by
    rw [List.take_add_one, h, List.filter_append]
    congr 1
    cases q : (!e.2.2) <;> simp [q]
  rw [e1, List.map_append]
  congr 1
  cases (!e.2.2) <;> rfl
set_option maxHeartbeats 4000000 in
theorem ok_heapnum {f : Addr} {fd : FuncData} {k : Nat} (F : Fun K "heap_number" "heap_number" sHeapNum f fd) (Nh : ∃ r s, Fn K mg "need_heap" sNeedHeap ["row", "thing"] r s) (Nc : ∃ r s, Fn K mg "counts_of" sCounts ["row"] r s) (N : HqDefs K mg) (TP : TxtP K mg C) (T : TxtR K w mg d es n) (TH : TxtH mg) (T0 : TxtS mg) (ke : keysAre es) : FnOk P w K mg base CX0 (k + 7) f fd ["row", "heap"] spHeapNum := by
  obtain ⟨r1, s1, N1⟩ := Nh
  obtain ⟨r2, s2, N2⟩ := Nc
  have G1 : FnOk P w K mg base CX0 (k + 6) r1 s1 ["row", "thing"] spNeedHeap := ok_needheap N1.F N TP T TH ke
  have G2 : FnOk P w K mg base CX0 (k + 6) r2 s2 ["row"] spCounts := ok_counts N2.F T T0
  refine F.ok scHN (fun vs H Q E h => ?_) (fun cdv A outer s H vs Q E hr h => ?_)
  · obtain ⟨bs, p, ts, rfl, _⟩ := h
    rfl
  · obtain ⟨bs, p, ts, rfl, hR, tl, hl, q⟩ := h
    have nd := scHN.nd
    obtain ⟨tb, gb⟩ := T.bead
    obtain ⟨tf, gf⟩ := T.free
    have h30 := hR.2
    have lts : ts.length ≤ 1000 := let ⟨_, _, _, _, h⟩ := hl; h
    refine ⟨_, pss_cons (ps_expr (pe_call G1 hr (by rfl) N1.g N1.F.kp N1.b .nil pass0 (pa_cons (pv 0) (pa_cons (pv 1) pa_nil))))
      (pss_cons (ps_set (i := 2) nd rfl (.inl rfl) (pe_call G2 hr (by rfl) N2.g N2.F.kp N2.b .nil pass0 (pa_cons (pv 0) pa_nil)))
      (pss_cons (ps_setLc (i := 4) (own := [("bead", 9), ("free", 10), ("sign", 3)]) (g := gTup K 3 (gCons (gName 9) (gCons (gName 10) (gCons (gName 3) gNil)))) (by rfl) nd rfl rfl (sw_true rfl rfl rfl (by decide +kernel)) (pi_list (pv 1)) (blkOk_by (own := [("bead", 9), ("free", 10), ("sign", 3)]) (N := nHN) (sc := defScope sHeapNum) (by decide +kernel))
          (fun _ _ _ _ _ => pg_tup (by rfl) (pgs_cons (pg_name (i := 9) nd rfl (.inl rfl)) (pgs_cons (pg_name (i := 10) nd rfl (.inl rfl)) (pgs_cons (pg_name (i := 3) nd rfl (.inl rfl)) pgs_nil))))
          (fun _ _ _ _ _ => pts_one (pt_cmpR op_eq (pv 3) (pe_glob (v := .str ".") (by rfl) gf ⟨_, rfl⟩) (nomark _)))
          (fun _ _ _ _ _ => pv 10))
      (pss_cons (ps_set (i := 5) nd rfl (.inl rfl) pe_int)
      (pss_cons (ps_set (i := 6) nd rfl (.inl rfl) pe_int)
      (pss_cons (ps_for PassesOwn.never rfl (pi_enumS (by rfl) TH.enum (pa_cons (pv 0) pa_nil)) (pg_tup (by rfl) (pgs_cons (pg_name (i := 7) nd rfl (.inl rfl)) (pgs_cons (pg_name (i := 3) nd rfl (.inl rfl)) pgs_nil)))
        (pss_cons (ps_if (pt_cmpR op_eq (pv 3) (pe_glob (v := .str "o") (by rfl) gb ⟨_, rfl⟩) (nomark _)) (pss_cons (ps_aug (i := 6) nd rfl (.inl rfl) pe_int ip_add) (pss_one ps_continue)) pss_nil)
        (pss_one (ps_for PassesOwn.never rfl (pi_range1 (by rfl) T.range (pa_cons (pe_bm PySem.F.plainAttrs_list PySem.F.slot_list_count PySem.F.type_list_count mt_lcount (pv 4) (pa_cons (pv 7) pa_nil)) pa_nil)) (pg_name (i := 8) nd rfl (.inl rfl))
          (pss_cons (ps_aug (i := 5) nd rfl (.inl rfl) (pe_ix ix_list (pe_ix ix_list (pv 2) (pe_op op_add (pv 7) pe_int) (fun _ _ => rfl)) (pv 6) (fun _ _ => rfl)) ip_add)
          (pss_one (ps_aug (i := 6) nd rfl (.inl rfl) pe_int ip_sub)))))))
      (pss_one (ps_ret (pv 5)))))))), ?_⟩
    refine ⟨.str (tx bs), rfl, .ref p, rfl, bs, p, ts, rfl, hR, tl, lts, hl.ok, fun H1 s1 => ?_⟩
    refine ⟨.str (tx bs), rfl, bs, rfl, hR, fun H2 cp s2 ncp cn => ?_⟩
    have s12 := s1.trans s2
    obtain ⟨acc, ep, gp⟩ := tl.same s12
    have la := tupG_len gp
    refine ⟨.ref p, rfl, p, rfl, ⟨_, SqL.of ep⟩, fun D nD => ?_⟩
    refine lc_list (K := K) (a := p) (xs := acc) (fun i H3 => Same H2 H3 ∧ H3 D = some (.lst ((frI (ts.take i)).map V.int))) ⟨same_upd nD, upd_same⟩ (fun i H3 _ h => SqL.of (h.1 _ _ ep)) ?_ ?_
    · rintro i x H3 hx ⟨s3, eD⟩
      obtain ⟨e, t, he, rfl, et⟩ := tupG_item gp hx
      obtain ⟨x1, x2, x3⟩ := e
      have hi := (List.getElem?_eq_some_iff.mp hx).1
      have st := frI_step he
      refine ⟨t, _, rfl, SqT.of (s3 _ _ et), rfl, _, _, rfl, _, _, rfl, _, _, rfl, rfl, rfl, ?_⟩
      refine ⟨.str (tx [x3]), rfl, rfl, _, rfl, ?_⟩
      rw [tx_one, is_fH]
      have lt : ((frI (ts.take i)).map V.int).length < sizeLine := by
        unfold frI
        rw [List.length_map, List.length_map]
        exact fit' (Nat.le_trans (List.length_filter_le _ _) (Nat.le_trans (List.length_take_le _ _) (by omega)))
      have st : frI (ts.take (i + 1)) = frI (ts.take i) ++ (if (!x3) = true then [x2] else []) := st
      cases hc : (!x3) with
      | true =>
        rw [hc, if_pos rfl] at st
        exact iteT ⟨.int x2, rfl, _, eD, lt, same_new nD s3, by rw [upd_same, st, List.map_append]; rfl⟩
      | false =>
        rw [hc, if_neg (by decide), List.append_nil] at st
        exact iteF ⟨s3, by rw [st]; exact eD⟩
    rintro H3 ⟨s3, eD⟩
    rw [la, List.take_length] at eD
    have s03 := s12.trans s3
    have cn3 := cn.same s3
    refine ⟨.str (tx bs), rfl, tx bs, rfl, ?_⟩
    refine for_it HopR.walk_tup (fun i σ H4 => ∃ (nu β : Nat) (y3 y7 y8 : Option V), σ = [some (.str (tx bs)), some (.ref p), some (.ref cp), y3, some (.ref D), some (wv nu), some (wv β), y7, y8, none, none] ∧ Same H3 H4 ∧ β ≤ i ∧ uOK (bs.drop i) i β (uI ts) ∧ nu + nuF (bs.drop i) i β (uI ts) = numL bs ts)
      ⟨0, 0, _, _, _, rfl, Same.refl _, Nat.le_refl _, uOK_heap hl, by rw [Nat.zero_add]; rfl⟩ (fun _ _ _ _ _ => trivial) ?_ ?_
    · rintro i x σ H4 H5 hi ⟨nu, β, y3, y7, y8, rfl, s4, hβ, ok, hN⟩ ⟨t, xs, rfl, nt, rfl, c, hcx, rfl⟩
      obtain ⟨z, hz, rfl⟩ := bit_at hcx
      have il : i < bs.length := (List.getElem?_eq_some_iff.mp hz).1
      have hdr : bs.drop i = z :: bs.drop (i + 1) := by
        rw [List.drop_eq_getElem_cons il]
        rw [List.getElem?_eq_getElem il] at hz
        rw [Option.some.inj hz]
      rw [hdr] at ok hN
      have tt := same_upd (o := .tup [.int (i : Int), .str ⟨#[cd z]⟩]) nt
      have et : upd H4 t (.tup [.int (i : Int), .str ⟨#[cd z]⟩]) t = some (.tup [.int (i : Int), .str ⟨#[cd z]⟩]) := upd_same
      generalize upd H4 t (.tup [.int (i : Int), .str ⟨#[cd z]⟩]) = H5 at tt et
      have s5 := s4.trans tt
      refine ⟨t, _, rfl, SqT.of et, rfl, _, _, rfl, _, _, rfl, rfl, ?_⟩
      refine ⟨_, rfl, rfl, _, rfl, ?_⟩
      rw [is_oH]
      cases z with
      | true =>
        refine iteT ⟨wv β, rfl, (β : Int), 1, rfl, rfl, ?_⟩
        exact ⟨nu, β + 1, _, _, _, rfl, s5, by omega, ok, hN⟩
      | false =>
        obtain ⟨ok1, ok2⟩ := ok
        have hN : nu + (sd (HopW.gn (bs.drop (i + 1))) β (uI ts i) + nuF (bs.drop (i + 1)) (i + 1) (β - uI ts i) (uI ts)) = numL bs ts := hN
        refine iteF ⟨.ref D, rfl, .inl ⟨rfl, _, SqL.of (s5 _ _ eD)⟩, .int (i : Int), rfl, D, frI ts, (i : Int), rfl, rfl, SqL.of (s5 _ _ eD), ((uI ts i : Nat) : Int), rfl, by omega, by omega, ?_⟩
        have hc5 : CntAt H5 bs _ (i + 1) := (cn3.same s5).choose_spec.2 (i + 1) il
        have ec5 := (cn3.same s5).choose_spec.1
        generalize (cn3.same s5).choose = Lc at hc5 ec5
        obtain ⟨cb, m, q1, q2, q3, _⟩ := hc5
        refine for_range (lo := 0) (n := uI ts i) (fun j σ H6 => ∃ (nu' : Nat) (y8 : Option V), σ = [some (.str (tx bs)), some (.ref p), some (.ref cp), some (.str ⟨#[cd false]⟩), some (.ref D), some (wv nu'), some (wv (β - j)), some (.int (i : Int)), y8, none, none] ∧ H6 = H5 ∧ nu' + sd (HopW.gn (bs.drop (i + 1))) (β - j) (uI ts i - j) = nu + sd (HopW.gn (bs.drop (i + 1))) β (uI ts i)) ⟨nu, _, rfl, rfl, rfl⟩ ?_ ?_
        · rintro j σ H6 hj ⟨nu', y8, rfl, rfl, hn⟩
          have gat : atI ((gl (bs.drop (i + 1)) m).map wv) (((β - j : Nat) : Int)) = some (wv (HopW.gn (bs.drop (i + 1)) (β - j))) := atI_nat (gl_at (by omega))
          refine ⟨wv nu', rfl, .ref cp, rfl, .int (i : Int), rfl, (i : Int), 1, rfl, rfl, cp, _, _, .ref cb, rfl, rfl, SqL.of ec5, (show atI Lc (((i + 1 : Nat) : Int)) = _ from atI_nat q1), wv (β - j), rfl, cb, _, _, wv (HopW.gn (bs.drop (i + 1)) (β - j)), rfl, rfl, SqL.of q2, gat, (nu' : Int), ((HopW.gn (bs.drop (i + 1)) (β - j) : Nat) : Int), rfl, rfl, wv (β - j), rfl, ((β - j : Nat) : Int), 1, rfl, rfl, nu' + HopW.gn (bs.drop (i + 1)) (β - j), some (.int (0 + (j : Int))), ?_, rfl, ?_⟩
          · rw [show wv (nu' + HopW.gn (bs.drop (i + 1)) (β - j)) = V.int ((nu' : Int) + ((HopW.gn (bs.drop (i + 1)) (β - j) : Nat) : Int)) from by unfold wv; rw [show ((nu' + HopW.gn (bs.drop (i + 1)) (β - j) : Nat) : Int) = (nu' : Int) + ((HopW.gn (bs.drop (i + 1)) (β - j) : Nat) : Int) by omega], show wv (β - (j + 1)) = V.int (((β - j : Nat) : Int) - 1) from by unfold wv; rw [show ((β - (j + 1) : Nat) : Int) = ((β - j : Nat) : Int) - 1 by omega]]
            rfl
          · have e1 : uI ts i - j = (uI ts i - (j + 1)) + 1 := by omega
            rw [e1] at hn
            have hn : nu' + (HopW.gn (bs.drop (i + 1)) (β - j) + sd (HopW.gn (bs.drop (i + 1))) (β - j - 1) (uI ts i - (j + 1))) = nu + sd (HopW.gn (bs.drop (i + 1))) β (uI ts i) := hn
            rw [show β - (j + 1) = β - j - 1 by omega]
            omega
        · rintro σ H6 ⟨nu', y8, rfl, rfl, hn⟩
          rw [Nat.sub_self] at hn
          have hn : nu' + 0 = nu + sd (HopW.gn (bs.drop (i + 1))) β (uI ts i) := hn
          exact ⟨nu', β - uI ts i, _, _, _, rfl, s5, by omega, ok2, by omega⟩
    · rintro σ H4 ⟨nu, β, y3, y7, y8, rfl, s4, hβ, ok, hN⟩
      rw [show (tx bs).cps.size = bs.length from tx_len bs, List.drop_length] at hN
      have hN : nu + 0 = numL bs ts := hN
      have := q H4 (s03.trans s4)
      rw [← hN] at this
      exact ⟨wv nu, rfl, this⟩
end
end Hop

set_option Elab.async false
set_option linter.all false
set_option maxRecDepth 100000
set_option exponentiation.threshold 200000
namespace Hop
open PySem L2 HopR HopT HopH
/-! ### lists of heaps -/
def Hps (bs : List Bool) (hs : List (List I3)) : Prop := hs.length = HopW.gn bs 0 ∧ ∀ (j : Nat) (ts : List I3), hs[j]? = some ts → ts.Perm ((hbF bs 0 [] j).map c3) ∧ HeapL bs ts
structure HS (H H' : Hp) (p : Addr) (hs : List (List I3)) : Prop where
  at_ : ∃ as : List Addr, H' p = some (.lst (as.map V.ref)) ∧ as.length = hs.length ∧ (∀ (j : Nat) (a : Addr) (ts : List I3), as[j]? = some a → hs[j]? = some ts → TL t3v H' a ts) ∧ ∀ a ∈ as, H a = none ∧ a ≠ p
theorem tl_put {H : Hp} {D a : Addr} {xs : List V} {o : HO} {ts : List I3} (e : H D = some (.lst xs)) (ne : a ≠ D) (h : TL t3v H a ts) : TL t3v (upd H D o) a ts := by
  obtain ⟨acc, e1, g⟩ := h
  exact ⟨acc, by rw [upd_ne ne]; exact e1, tupG_upd e g⟩
section
variable {P : Program} {w : World} {K : PySem.W.Frag} {mg : Str → Option Value} {base : Heap} {C d : Addr} {es : Array DictEntry} {n : Nat}
variable {NR NH NN TM : Addr}
def spOdd (K : PySem.W.Frag) : Sp := fun vs H Q _ => ∃ x, vs = [x] ∧ Odd K H x ∧ Q (.bl false) H
theorem ok_odd {f : Addr} {fd : FuncData} {k : Nat} (F : Fun K "is_whole" "is_whole" sIsWhole f fd) (T : TxtP K mg C) : FnOk P w K mg base CX0 (k + 1) f fd ["thing"] (spOdd K) := by
  refine F.ok scWhole (fun vs H Q E h => ?_) (fun cdv A outer s H vs Q E hr h => ?_)
  · obtain ⟨x, rfl, _⟩ := h
    rfl
  · obtain ⟨x, rfl, ⟨t, bI, ty, k1, k2⟩, q⟩ := h
    refine ⟨_, pss_one (ps_ret (pe_and (pe_callB call_isi (by rfl) T.isi (by decide +kernel) (pa_cons (pv 0) (pa_cons (pe_bltn (v := .ty "int") (by rfl) T.int (by decide +kernel) rfl) pa_nil)))
      (pe_one (pe_not (pe_callB call_isi (by rfl) T.isi (by decide +kernel) (pa_cons (pv 0) (pa_cons (pe_bltn (v := .ty "bool") (by rfl) T.bool (by decide +kernel) rfl) pa_nil))))))), ?_⟩
    refine ⟨x, rfl, x, .ty "int", t, .type "int", bI, rfl, .ty _, ty, k1, bI, rfl, ?_⟩
    cases bI with
    | false => exact q
    | true => exact ⟨x, rfl, x, .ty "bool", t, .type "bool", true, rfl, .ty _, ty, k2 rfl, true, rfl, q⟩
def spNN (K : PySem.W.Frag) (NN : Addr) : Sp := fun vs H Q E => ∃ (x : V) (lo hi : Int), vs = [x, .int lo, .int hi] ∧ ((∃ i : Int, x = .int i ∧ lo ≤ i ∧ i ≤ hi ∧ Q .non H) ∨ (Odd K H x ∧ E (.ref NN) none H) ∨ (∃ i : Int, x = .int i ∧ (i < lo ∨ hi < i) ∧ E (.ref NN) none H))
theorem ok_neednum {f f1 : Addr} {fd g1 : FuncData} {k : Nat} (F : Fun K "need_number" "need_number" sNeedNum f fd) (N1 : Fn K mg "is_whole" sIsWhole ["thing"] f1 g1) (T : TxtP K mg C) (Z : Ev K mg NR NH NN TM) :
    FnOk P w K mg base (L2.CX P w) (k + 2) f fd ["thing", "least", "most"] (spNN K NN) := by
  have G1 : FnOk P w K mg base CX0 (k + 1) f1 g1 ["thing"] spWhole := ok_whole N1.F T
  have G0 : FnOk P w K mg base CX0 (k + 1) f1 g1 ["thing"] (spOdd K) := ok_odd N1.F T
  refine F.okX scNeedNum (fun vs H Q E h => ?_) (fun cdv A outer s H vs Q E hr h => ?_)
  · obtain ⟨x, lo, hi, rfl, _⟩ := h
    rfl
  · obtain ⟨x, lo, hi, rfl, h⟩ := h
    rcases h with ⟨i, rfl, h1, h2, q⟩ | ⟨ox, e⟩ | ⟨i, rfl, hi', e⟩
    · refine ⟨_, pss_one (ps_if (PW.pt (pw_or (pt_not (pt_val (pe_call G1 hr (by rfl) N1.g N1.F.kp N1.b .nil pass0 (pa_cons (pv 0) pa_nil)))) (pw_or (pt_cmpR op_lt (pv 0) (pv 1) (nomark _)) (pw_or1 (pt_cmpR op_gt (pv 0) (pv 2) (nomark _)))))) (pss_one ps_never) pss_nil), ?_⟩
      refine ⟨.int i, rfl, i, rfl, true, rfl, iteF ⟨.int i, rfl, .int lo, rfl, _, _, rfl, rfl, _, rfl, ?_⟩⟩
      rw [decide_eq_false (show ¬ i < lo by omega)]
      refine iteF ⟨.int i, rfl, .int hi, rfl, _, _, rfl, rfl, _, rfl, ?_⟩
      rw [decide_eq_false (show ¬ i > hi by omega)]
      exact iteF q
    · refine ⟨_, pss_one (ps_if (PW.pt (pw_or (pt_not (pt_val (pe_call G0 hr (by rfl) N1.g N1.F.kp N1.b .nil pass0 (pa_cons (pv 0) pa_nil)))) (pw_or (pt_cmpR op_lt (pv 0) (pv 1) (nomark _)) (pw_or1 (pt_cmpR op_gt (pv 0) (pv 2) (nomark _))))))
        (pss_one (ps_raise rfl (takes_of rfl rfl rfl rfl) (pmk_own PySem.F.excBase_ValueError Z.N.x Z.gNN Z.N.k (raises_own Z.N.be Z.N.ty) rfl))) pss_nil), ?_⟩
      exact ⟨x, rfl, x, rfl, ox, false, rfl, iteT e⟩
    · refine ⟨_, pss_one (ps_if (PW.pt (pw_or (pt_not (pt_val (pe_call G1 hr (by rfl) N1.g N1.F.kp N1.b .nil pass0 (pa_cons (pv 0) pa_nil)))) (pw_or (pt_cmpR op_lt (pv 0) (pv 1) (nomark _)) (pw_or1 (pt_cmpR op_gt (pv 0) (pv 2) (nomark _))))))
        (pss_one (ps_raise rfl (takes_of rfl rfl rfl rfl) (pmk_own PySem.F.excBase_ValueError Z.N.x Z.gNN Z.N.k (raises_own Z.N.be Z.N.ty) rfl))) pss_nil), ?_⟩
      refine ⟨.int i, rfl, i, rfl, true, rfl, iteF ⟨.int i, rfl, .int lo, rfl, _, _, rfl, rfl, _, rfl, ?_⟩⟩
      by_cases h0 : i < lo
      · rw [decide_eq_true h0]
        exact iteT e
      · rw [decide_eq_false h0]
        refine iteF ⟨.int i, rfl, .int hi, rfl, _, _, rfl, rfl, _, rfl, ?_⟩
        rw [decide_eq_true (show i > hi by omega)]
        exact iteT e
/-! ### heaps_of -/
def spHeapsOf : Sp := fun vs H Q _ => ∃ bs : List Bool, vs = [.str (tx bs)] ∧ Row bs ∧ HopW.gn bs 0 ≤ 500 ∧ ∀ H' p hs, Same H H' → H p = none → HS H H' p hs → Hps bs hs → Q (.ref p) H'
abbrev nHO : List Str := ["row", "counts", "many", "number"]
theorem scHO : FnScope nHO ["row"] (defScope sHeapsOf) := ⟨rfl, rfl, rfl, by decide +kernel, rfl, by decide +kernel, by decide +kernel⟩
structure TxtM (mg : Str → Option Value) : Prop where
  most : ∃ t, mg "MOST_TOLD" = some (.int 500 t)
set_option maxHeartbeats 4000000 in
theorem ok_heapsof {f : Addr} {fd : FuncData} {k : Nat} (F : Fun K "heaps_of" "heaps_of" sHeapsOf f fd) (N : CoDefs K mg) (TP : TxtP K mg C) (T : TxtR K w mg d es n) (TH : TxtH mg) (T0 : TxtS mg) (TM5 : TxtM mg) : FnOk P w K mg base CX0 (k + 3) f fd ["row"] spHeapsOf := by
  obtain ⟨r1, s1, N1⟩ := N.R
  obtain ⟨r2, s2, N2⟩ := N.N
  obtain ⟨r3, s3, N3⟩ := N.C
  obtain ⟨r5, s5, N5⟩ := N.B
  have G2 : FnOk P w K mg base CX0 (k + 2) r2 s2 ["thing"] spNeed := ok_need N2.F N1 T
  have G3 : FnOk P w K mg base CX0 (k + 2) r3 s3 ["row"] spCounts := ok_counts N3.F T T0
  have G5 : FnOk P w K mg base CX0 (k + 2) r5 s5 ["row", "counts", "number"] spHeapBy := ok_heapby N5.F T TH
  refine F.ok scHO (fun vs H Q E h => ?_) (fun cdv A outer s H vs Q E hr h => ?_)
  · obtain ⟨bs, rfl, _⟩ := h
    rfl
  · obtain ⟨bs, rfl, hR, h5, q⟩ := h
    have nd := scHO.nd
    obtain ⟨tm, gm⟩ := TM5.most
    refine ⟨_, pss_cons (ps_expr (pe_call G2 hr (by rfl) N2.g N2.F.kp N2.b .nil pass0 (pa_cons (pv 0) pa_nil)))
      (pss_cons (ps_set (i := 1) nd rfl (.inr rfl) (pe_call G3 hr (by rfl) N3.g N3.F.kp N3.b .nil pass0 (pa_cons (pv 0) pa_nil)))
      (pss_cons (ps_set (i := 2) nd rfl (.inl rfl) (pe_ix ix_list (pe_ix ix_list (pv 1) pe_int (fun _ _ => rfl)) pe_int (fun _ _ => rfl)))
      (pss_cons (ps_if (pt_cmpR op_gt (pv 2) (pe_glob (v := .int 500) (by rfl) gm ⟨_, rfl⟩) (nomark _)) (pss_one ps_never) pss_nil)
      (pss_one (ps_ret (pe_lc (own := [("number", 3)]) (g := gName 3) (tt := tYes) rfl nd (pi_range1 (by rfl) T.range (pa_cons (pv 2) pa_nil)) (blkOk_by (own := [("number", 3)]) (N := nHO) (sc := defScope sHeapsOf) (by decide +kernel)) (fun _ _ _ _ _ => pg_name (i := 3) nd rfl (.inl rfl)) (fun _ _ _ _ _ => pts_nil)
        (fun _ _ _ _ _ => pe_call G5 hr (by rfl) N5.g N5.F.kp N5.b .nil pass0 (pa_cons (pv 0) (pa_cons (pv 1) (pa_cons (pv 3) pa_nil)))))))))), ?_⟩
    refine ⟨.str (tx bs), rfl, bs, rfl, hR, fun H1 s1 => ⟨.str (tx bs), rfl, bs, rfl, hR, fun H2 cp s2 np cn => ?_⟩⟩
    obtain ⟨Lc, e1, ca⟩ := id cn
    obtain ⟨b, m, l0, e2, hm, _⟩ := ca 0 (Nat.zero_le _)
    rw [List.drop_zero] at e2
    have s12 := s1.trans s2
    refine ⟨.ref cp, rfl, cp, _, 0, .ref b, rfl, rfl, SqL.of e1, atI_nat (j := 0) l0, b, _, 0, wv (HopW.gn bs 0), rfl, rfl, SqL.of e2, atI_nat (j := 0) (gl_at (by omega)), ?_⟩
    refine ⟨wv (HopW.gn bs 0), rfl, _, _, rfl, rfl, _, rfl, ?_⟩
    rw [decide_eq_false (show ¬ (500 : Int) < ((HopW.gn bs 0 : Nat) : Int) by omega)]
    refine iteF ⟨wv (HopW.gn bs 0), rfl, ((HopW.gn bs 0 : Nat) : Int), rfl, by omega, by omega, fun D nD => ?_⟩
    refine lc_it (walk_range (lo := 0) (n := HopW.gn bs 0)) (fun i H4 => Same H2 H4 ∧ ∃ (as : List Addr) (hs : List (List I3)), H4 D = some (.lst (as.map V.ref)) ∧ as.length = i ∧ hs.length = i ∧ (∀ (j : Nat) (a : Addr) (ts : List I3), as[j]? = some a → hs[j]? = some ts → TL t3v H4 a ts) ∧ (∀ (j : Nat) (ts : List I3), hs[j]? = some ts → ts.Perm ((hbF bs 0 [] j).map c3) ∧ HeapL bs ts) ∧ ∀ a ∈ as, H2 a = none ∧ a ≠ D)
      ⟨same_upd nD, [], [], upd_same, rfl, rfl, fun j a ts h => by simp at h, fun j ts h => by simp at h, fun a h => by simp at h⟩ (fun _ _ _ _ => trivial) ?_ ?_
    · rintro i x H4 H5 hi ⟨s4, as, hs, eD, l1, l2, h1, h2, h3⟩ ⟨rfl, rfl⟩
      refine ⟨rfl, .str (tx bs), rfl, .ref cp, rfl, .int (0 + (i : Int)), rfl, bs, cp, i, by rw [Int.zero_add]; rfl, hR, cn.same s4, fun H6 p ts s6 n6 tl pm hl => ?_⟩
      have eD6 := s6 _ _ eD
      have nD2 : p ≠ D := fun z => by rw [z, eD] at n6; cases n6
      refine ⟨_, eD6, fit' (by rw [List.length_map]; omega), same_new nD (s4.trans s6), as ++ [p], hs ++ [ts], ?_, ?_, ?_, ?_, ?_, ?_⟩
      · rw [upd_same, List.map_append]
        rfl
      · rw [List.length_append, l1]
        rfl
      · rw [List.length_append, l2]
        rfl
      · intro j a us ha hu
        rcases Nat.lt_or_ge j i with z | z
        · rw [List.getElem?_append_left (by omega)] at ha hu
          exact tl_put eD6 (h3 a (List.mem_of_getElem? ha)).2 ((h1 j a us ha hu).same s6)
        · have zz : j = i := by
            have := (List.getElem?_eq_some_iff.mp ha).1
            rw [List.length_append, List.length_singleton] at this
            omega
          subst zz
          rw [List.getElem?_append_right (by omega), l1, Nat.sub_self] at ha
          rw [List.getElem?_append_right (by omega), l2, Nat.sub_self] at hu
          cases ha
          cases hu
          exact tl_put eD6 nD2 tl
      · intro j us hu
        rcases Nat.lt_or_ge j i with z | z
        · rw [List.getElem?_append_left (by omega)] at hu
          exact h2 j us hu
        · have zz : j = i := by
            have := (List.getElem?_eq_some_iff.mp hu).1
            rw [List.length_append, List.length_singleton] at this
            omega
          subst zz
          rw [List.getElem?_append_right (by omega), l2, Nat.sub_self] at hu
          cases hu
          exact ⟨pm, hl⟩
      · intro a ha
        rcases List.mem_append.mp ha with ha | ha
        · exact h3 a ha
        · rw [List.mem_singleton.mp ha]
          exact ⟨s4.free n6, nD2⟩
    rintro H4 ⟨s4, as, hs, eD, l1, l2, h1, h2, h3⟩
    have s14 := s12.trans s4
    exact q H4 D hs s14 (s12.free nD) ⟨as, eD, by rw [l1, l2], h1, fun a ha => ⟨s12.free (h3 a ha).1, (h3 a ha).2⟩⟩ ⟨l2, h2⟩
/-! ### the doors refuse -/
def spNoMany (K : PySem.W.Frag) (NR TM : Addr) : Sp := fun vs H _ E => ∃ x, vs = [x] ∧ ((RowB K H x false ∧ ∀ H', Same H H' → E (.ref NR) none H') ∨ (∃ bs, x = .str (tx bs) ∧ Row bs ∧ 500 < HopW.gn bs 0 ∧ ∀ H', Same H H' → E (.ref TM) none H'))
theorem ok_nomany {f : Addr} {fd : FuncData} {k : Nat} (F : Fun K "heaps_of" "heaps_of" sHeapsOf f fd) (N : CoDefs K mg) (TP : TxtP K mg C) (T : TxtR K w mg d es n) (TH : TxtH mg) (T0 : TxtS mg) (TM5 : TxtM mg) (ke : keysAre es) (Z : Ev K mg NR NH NN TM) : FnOk P w K mg base (L2.CX P w) (k + 3) f fd ["row"] (spNoMany K NR TM) := by
  obtain ⟨r1, s1, N1⟩ := N.R
  obtain ⟨r2, s2, N2⟩ := N.N
  obtain ⟨r3, s3, N3⟩ := N.C
  have G2 : FnOk P w K mg base CX0 (k + 2) r2 s2 ["thing"] spNeed := ok_need N2.F N1 T
  have G2x : FnOk P w K mg base (L2.CX P w) (k + 2) r2 s2 ["thing"] (spNoRow K NR) := ok_norow N2.F N1 T ke Z
  have G3 : FnOk P w K mg base CX0 (k + 2) r3 s3 ["row"] spCounts := ok_counts N3.F T T0
  refine F.okX scHO (fun vs H Q E h => ?_) (fun cdv A outer s H vs Q E hr h => ?_)
  · obtain ⟨x, rfl, _⟩ := h
    rfl
  · obtain ⟨x, rfl, h⟩ := h
    have nd := scHO.nd
    obtain ⟨tm, gm⟩ := TM5.most
    rcases h with ⟨hx, q⟩ | ⟨bs, rfl, hR, h5, q⟩
    · refine ⟨_, pss_cons (ps_expr (pe_call G2x hr (by rfl) N2.g N2.F.kp N2.b .nil (passes_call (E := E) (takes_of rfl rfl rfl rfl) (fun _ _ _ _ h => h)) (pa_cons (pv 0) pa_nil))) pss_never, ?_⟩
      exact ⟨x, rfl, x, rfl, hx, q⟩
    · refine ⟨_, pss_cons (ps_expr (pe_call G2 hr (by rfl) N2.g N2.F.kp N2.b .nil pass0 (pa_cons (pv 0) pa_nil)))
        (pss_cons (ps_set (i := 1) nd rfl (.inr rfl) (pe_call G3 hr (by rfl) N3.g N3.F.kp N3.b .nil pass0 (pa_cons (pv 0) pa_nil)))
        (pss_cons (ps_set (i := 2) nd rfl (.inl rfl) (pe_ix ix_list (pe_ix ix_list (pv 1) pe_int (fun _ _ => rfl)) pe_int (fun _ _ => rfl)))
        (pss_cons (ps_if (pt_cmpR op_gt (pv 2) (pe_glob (v := .int 500) (by rfl) gm ⟨_, rfl⟩) (nomark _))
          (pss_one (ps_raise rfl (takes_of rfl rfl rfl rfl) (pmk_own PySem.F.excBase_ValueError Z.M.x Z.gTM Z.M.k (raises_own Z.M.be Z.M.ty) rfl))) pss_nil)
        pss_never))), ?_⟩
      refine ⟨.str (tx bs), rfl, bs, rfl, hR, fun H1 s1 => ⟨.str (tx bs), rfl, bs, rfl, hR, fun H2 cp s2 np cn => ?_⟩⟩
      obtain ⟨Lc, e1, ca⟩ := id cn
      obtain ⟨b, m, l0, e2, hm, _⟩ := ca 0 (Nat.zero_le _)
      rw [List.drop_zero] at e2
      refine ⟨.ref cp, rfl, cp, _, 0, .ref b, rfl, rfl, SqL.of e1, atI_nat (j := 0) l0, b, _, 0, wv (HopW.gn bs 0), rfl, rfl, SqL.of e2, atI_nat (j := 0) (gl_at (by omega)), ?_⟩
      refine ⟨wv (HopW.gn bs 0), rfl, _, _, rfl, rfl, _, rfl, ?_⟩
      rw [decide_eq_true (show (500 : Int) < ((HopW.gn bs 0 : Nat) : Int) by omega)]
      exact iteT (q H2 (s1.trans s2))
theorem ok_nomanyrow {f : Addr} {fd : FuncData} {k : Nat} (F : Fun K "heaps_many" "heaps_many" sHeaps f fd) (N : CoDefs K mg) (T : TxtR K w mg d es n) (ke : keysAre es) (Z : Ev K mg NR NH NN TM) : FnOk P w K mg base (L2.CX P w) (k + 3) f fd ["row"] (spNoRow K NR) := by
  obtain ⟨r1, s1, N1⟩ := N.R
  obtain ⟨r2, s2, N2⟩ := N.N
  have G2x : FnOk P w K mg base (L2.CX P w) (k + 2) r2 s2 ["thing"] (spNoRow K NR) := ok_norow N2.F N1 T ke Z
  refine F.okX scHeaps (fun vs H Q E h => ?_) (fun cdv A outer s H vs Q E hr h => ?_)
  · obtain ⟨x, rfl, _⟩ := h
    rfl
  · obtain ⟨x, rfl, hx, q⟩ := h
    refine ⟨_, pss_cons (ps_expr (pe_call G2x hr (by rfl) N2.g N2.F.kp N2.b .nil (passes_call (E := E) (takes_of rfl rfl rfl rfl) (fun _ _ _ _ h => h)) (pa_cons (pv 0) pa_nil))) pss_never, ?_⟩
    exact ⟨x, rfl, x, rfl, hx, q⟩
theorem ok_nonumrow {f : Addr} {fd : FuncData} {k : Nat} (F : Fun K "heap_number" "heap_number" sHeapNum f fd) (Nh : ∃ r s, Fn K mg "need_heap" sNeedHeap ["row", "thing"] r s) (N : HqDefs K mg) (TP : TxtP K mg C) (T : TxtR K w mg d es n) (TH : TxtH mg) (ke : keysAre es) (Z : Ev K mg NR NH NN TM) : FnOk P w K mg base (L2.CX P w) (k + 7) f fd ["row", "heap"] (spNoHp K NR NH) := by
  obtain ⟨r1, s1, N1⟩ := Nh
  have G1 : FnOk P w K mg base (L2.CX P w) (k + 6) r1 s1 ["row", "thing"] (spNoHp K NR NH) := ok_noheap N1.F N TP T TH ke Z
  refine F.okX scHN (fun vs H Q E h => ?_) (fun cdv A outer s H vs Q E hr h => ?_)
  · obtain ⟨x, y, rfl, _⟩ := h
    rfl
  · obtain ⟨x, y, rfl, h⟩ := h
    refine ⟨_, pss_cons (ps_expr (pe_call G1 hr (by rfl) N1.g N1.F.kp N1.b .nil (passes_call (E := E) (takes_of rfl rfl rfl rfl) (fun _ _ _ _ h => h)) (pa_cons (pv 0) (pa_cons (pv 1) pa_nil)))) pss_never, ?_⟩
    exact ⟨x, rfl, y, rfl, x, y, rfl, h⟩
/-- no number of a heap -/
def BadN (K : PySem.W.Frag) (H : Hp) (bs : List Bool) (y : V) : Prop := Odd K H y ∨ ∃ i : Int, y = .int i ∧ (i < 0 ∨ ((HopW.gn bs 0 : Nat) : Int) ≤ i)
def spNoAt (K : PySem.W.Frag) (NR NN : Addr) : Sp := fun vs H _ E => ∃ x y, vs = [x, y] ∧ ((RowB K H x false ∧ ∀ H', Same H H' → E (.ref NR) none H') ∨ (∃ bs, x = .str (tx bs) ∧ Row bs ∧ BadN K H bs y ∧ ∀ H', Same H H' → E (.ref NN) none H'))
theorem ok_noat {f : Addr} {fd : FuncData} {k : Nat} (F : Fun K "heap_at" "heap_at" sHeapAt f fd) (N : CoDefs K mg) (TP : TxtP K mg C) (T : TxtR K w mg d es n) (TH : TxtH mg) (T0 : TxtS mg) (ke : keysAre es) (Z : Ev K mg NR NH NN TM) : FnOk P w K mg base (L2.CX P w) (k + 3) f fd ["row", "number"] (spNoAt K NR NN) := by
  obtain ⟨r1, s1, N1⟩ := N.R
  obtain ⟨r2, s2, N2⟩ := N.N
  obtain ⟨r3, s3, N3⟩ := N.C
  obtain ⟨r4, s4, N4⟩ := N.U
  obtain ⟨r6, s6, N6⟩ := N.W
  have G2 : FnOk P w K mg base CX0 (k + 2) r2 s2 ["thing"] spNeed := ok_need N2.F N1 T
  have G2x : FnOk P w K mg base (L2.CX P w) (k + 2) r2 s2 ["thing"] (spNoRow K NR) := ok_norow N2.F N1 T ke Z
  have G3 : FnOk P w K mg base CX0 (k + 2) r3 s3 ["row"] spCounts := ok_counts N3.F T T0
  have G4 : FnOk P w K mg base (L2.CX P w) (k + 2) r4 s4 ["thing", "least", "most"] (spNN K NN) := ok_neednum N4.F N6 TP Z
  refine F.okX scHeapAt (fun vs H Q E h => ?_) (fun cdv A outer s H vs Q E hr h => ?_)
  · obtain ⟨x, y, rfl, _⟩ := h
    rfl
  · obtain ⟨x, y, rfl, h⟩ := h
    have nd := scHeapAt.nd
    rcases h with ⟨hx, q⟩ | ⟨bs, rfl, hR, hb, q⟩
    · refine ⟨_, pss_cons (ps_expr (pe_call G2x hr (by rfl) N2.g N2.F.kp N2.b .nil (passes_call (E := E) (takes_of rfl rfl rfl rfl) (fun _ _ _ _ h => h)) (pa_cons (pv 0) pa_nil))) pss_never, ?_⟩
      exact ⟨x, rfl, x, rfl, hx, q⟩
    · refine ⟨_, pss_cons (ps_expr (pe_call G2 hr (by rfl) N2.g N2.F.kp N2.b .nil pass0 (pa_cons (pv 0) pa_nil)))
        (pss_cons (ps_set (i := 2) nd rfl (.inl rfl) (pe_call G3 hr (by rfl) N3.g N3.F.kp N3.b .nil pass0 (pa_cons (pv 0) pa_nil)))
        (pss_cons (ps_expr (pe_call G4 hr (by rfl) N4.g N4.F.kp N4.b .nil (passes_call (E := E) (takes_of rfl rfl rfl rfl) (fun _ _ _ _ h => h)) (pa_cons (pv 1) (pa_cons pe_int (pa_cons (pe_op op_sub (pe_ix ix_list (pe_ix ix_list (pv 2) pe_int (fun _ _ => rfl)) pe_int (fun _ _ => rfl)) pe_int) pa_nil)))))
        pss_never)), ?_⟩
      refine ⟨.str (tx bs), rfl, bs, rfl, hR, fun H1 s1 => ⟨.str (tx bs), rfl, bs, rfl, hR, fun H2 cp s2 np cn => ?_⟩⟩
      obtain ⟨Lc, e1, ca⟩ := id cn
      obtain ⟨b, m, l0, e2, hm, _⟩ := ca 0 (Nat.zero_le _)
      rw [List.drop_zero] at e2
      have s12 := s1.trans s2
      refine ⟨y, rfl, .ref cp, rfl, cp, _, 0, .ref b, rfl, rfl, SqL.of e1, atI_nat (j := 0) l0, b, _, 0, wv (HopW.gn bs 0), rfl, rfl, SqL.of e2, atI_nat (j := 0) (gl_at (by omega)), ((HopW.gn bs 0 : Nat) : Int), 1, rfl, rfl, y, 0, ((HopW.gn bs 0 : Nat) : Int) - 1, rfl, ?_⟩
      rcases hb with ho | ⟨i, rfl, hi⟩
      · exact .inr (.inl ⟨odd_same s12 ho, q H2 s12⟩)
      · exact .inr (.inr ⟨i, rfl, by omega, q H2 s12⟩)
end
end Hop

set_option Elab.async false
set_option linter.all false
set_option maxRecDepth 100000
namespace HopH
open PySem PySem.Spec PyProof PyProof.Rows L2 HopR HopT
open HopW (gn)
/-! ### all heaps by the leftmost pair -/
theorem find_of (w : List Bool) : (Txt.find (tx w) "o." = -1 ∧ hasOf w = false) ∨ ∃ i : Nat, ofAt w i = true ∧ (∀ j, j < i → ofAt w j = false) ∧ Txt.find (tx w) "o." = (i : Int) := by
  have iff : ∀ i, StrLaws.At (tx w) (tx [true, false]) (tx w).length i ↔ ofAt w i = true := fun i => by
    constructor
    · intro h
      unfold ofAt
      exact decide_eq_true ((sub_tx w i).mp h.2)
    · intro z
      refine ⟨?_, (sub_tx w i).mpr (of_decide_eq_true z)⟩
      have := ofAt_lt z
      rw [tx_len, tx_len]
      simp only [List.length_cons, List.length_nil]
      omega
  have eo : ("o." : Str) = tx [true, false] := of_tx
  unfold Txt.find
  rw [eo]
  rcases StrLaws.occ_head (tx w) (tx [true, false]) 1 (Nat.le_refl _) with ⟨e, no⟩ | ⟨i, r, e, a, fst⟩
  · rw [e]
    refine .inl ⟨rfl, ?_⟩
    cases h : hasOf w with
    | false => rfl
    | true =>
      obtain ⟨i, _, z⟩ := List.any_eq_true.mp h
      exact absurd ((iff i).mpr z) (no i)
  · rw [e]
    refine .inr ⟨i, (iff i).mp a, fun j hj => ?_, rfl⟩
    cases z : ofAt w j with
    | false => rfl
    | true => exact absurd ((iff j).mpr z) (fst j hj)
def AllH (w : List Bool) (i : Nat) (B : List Nat) : List (List T3) := (List.range (gn w B.length)).map (hbF w i B)
theorem all_nil (i : Nat) (B : List Nat) : AllH [] i B = [[]] := rfl
theorem all_free0 (w : List Bool) (i : Nat) : AllH (false :: w) i [] = AllH w (i + 1) [] := by
  unfold AllH
  rw [show gn (false :: w) ([] : List Nat).length = gn w ([] : List Nat).length from gn_free0 w]
  rfl
theorem all_free (w : List Bool) (i b : Nat) (B : List Nat) : AllH (false :: w) i (b :: B) = (AllH w (i + 1) (b :: B)).map (fun R => (b, i, true) :: R) ++ (AllH (false :: w) i B).map (fun R => (b, i, false) :: R) := by
  unfold AllH
  have e : gn (false :: w) (b :: B).length = gn w (b :: B).length + gn (false :: w) B.length := by
    show gn (false :: w) (B.length + 1) = gn w (B.length + 1) + _
    rw [gn_free]
    omega
  rw [e, List.range_add, List.map_append, List.map_map, List.map_map, List.map_map]
  congr 1
  · refine List.map_congr_left fun r m => ?_
    have m := List.mem_range.mp m
    show hbF (false :: w) i (b :: B) r = (b, i, true) :: hbF w (i + 1) (b :: B) r
    rw [hbF_free, hbG_no (by have : r < gn w (B.length + 1) := m; omega)]
  · refine List.map_congr_left fun r m => ?_
    show hbF (false :: w) i (b :: B) (gn w (B.length + 1) + r) = (b, i, false) :: hbF (false :: w) i B r
    rw [hbF_free, hbG_yes (by omega), Nat.add_sub_cancel_left, ← hbF_free]
theorem gn_le : ∀ (w : List Bool) (β : Nat), gn w β ≤ 2 ^ (β + w.length) := by
  intro w
  induction w with
  | nil => intro β; exact Nat.one_le_two_pow
  | cons x w ih =>
    cases x with
    | true =>
      intro β
      have := ih (β + 1)
      rw [show β + 1 + w.length = β + (true :: w).length by rw [List.length_cons]; omega] at this
      exact this
    | false =>
      intro β
      induction β with
      | zero =>
        rw [gn_free0]
        refine Nat.le_trans (ih 0) (Nat.pow_le_pow_right (by decide) ?_)
        rw [List.length_cons]
        omega
      | succ β ihβ =>
        rw [gn_free]
        have h1 := ih (β + 1)
        have e1 : 2 ^ (β + (false :: w).length) = 2 ^ (β + 1 + w.length) := by rw [List.length_cons]; congr 1; omega
        have e2 : 2 ^ (β + 1 + (false :: w).length) = 2 ^ (β + 1 + w.length) * 2 := by
          rw [← Nat.pow_succ, List.length_cons]
          congr 1
        omega
/-- letters that are left, read as beads, frees behind them not yet reached -/
structure PS (bs : List Bool) (L : List Nat) (w : List Bool) (i : Nat) (B F : List Nat) : Prop where
  e : L = F ++ B.reverse ++ List.range' i w.length
  d : bs.drop i = w
  so : L.Pairwise (· < ·)
  f : ∀ x ∈ F, bs[x]? = some false
  b : ∀ x ∈ B, bs[x]? = some true
theorem ps_cons {bs : List Bool} {L : List Nat} {x : Bool} {w : List Bool} {i : Nat} {B F : List Nat} (h : PS bs L (x :: w) i B F) : bs[i]? = some x ∧ bs.drop (i + 1) = w ∧ L = F ++ B.reverse ++ i :: List.range' (i + 1) w.length := by
  have e := h.d
  have il : i < bs.length := by
    rcases Nat.lt_or_ge i bs.length with h | h
    · exact h
    · rw [List.drop_eq_nil_of_le h] at e; cases e
  rw [List.drop_eq_getElem_cons il] at e
  obtain ⟨e1, e2⟩ := List.cons.inj e
  refine ⟨by rw [List.getElem?_eq_getElem il, e1], e2, ?_⟩
  rw [h.e, List.length_cons, List.range'_succ]
theorem norm {bs : List Bool} {L : List Nat} : ∀ {w : List Bool} {i : Nat} {B F : List Nat}, PS bs L w i B F → ∃ w' i' B' F', PS bs L w' i' B' F' ∧ AllH w i B = AllH w' i' B' ∧ (w' = [] ∨ ∃ v b B'', w' = false :: v ∧ B' = b :: B'') := by
  intro w
  induction w with
  | nil => intro i B F h; exact ⟨[], i, B, F, h, rfl, .inl rfl⟩
  | cons x w ih =>
    intro i B F h
    obtain ⟨h1, h2, h3⟩ := ps_cons h
    cases x with
    | true =>
      obtain ⟨w', i', B', F', q1, q2, q3⟩ := ih (i := i + 1) (B := i :: B) (F := F) ⟨by rw [h3, List.reverse_cons, ← List.append_assoc, List.append_assoc (F ++ B.reverse)]; rfl, h2, h.so, h.f, fun x m => by
        rcases List.mem_cons.mp m with rfl | m
        · exact h1
        · exact h.b x m⟩
      exact ⟨w', i', B', F', q1, q2, q3⟩
    | false =>
      cases B with
      | nil =>
        obtain ⟨w', i', B', F', q1, q2, q3⟩ := ih (i := i + 1) (B := []) (F := F ++ [i]) ⟨by rw [h3, List.reverse_nil, List.append_nil, List.append_nil, List.append_assoc]; rfl, h2, h.so, fun x m => by
          rcases List.mem_append.mp m with m | m
          · exact h.f x m
          · rw [List.mem_singleton.mp m]; exact h1, fun x m => by simp at m⟩
        exact ⟨w', i', B', F', q1, by rw [all_free0]; exact q2, q3⟩
      | cons b B => exact ⟨false :: w, i, b :: B, F, h, rfl, .inr ⟨w, b, B, rfl, rfl⟩⟩
theorem bitL_of {bs : List Bool} {x : Nat} {v : Bool} (h : bs[x]? = some v) : bitL bs x = v := by
  unfold bitL
  rw [h]
  rfl
/-- frees, then beads: no pair begins there -/
theorem no_pair {bs : List Bool} {F B rest : List Nat} (hF : ∀ x ∈ F, bs[x]? = some false) (hB : ∀ x ∈ B, bs[x]? = some true) {j : Nat} (hj : j + 1 < F.length + B.length) : ofAt ((F ++ B.reverse ++ rest).map (bitL bs)) j = false := by
  cases z : ofAt ((F ++ B.reverse ++ rest).map (bitL bs)) j with
  | false => rfl
  | true =>
    obtain ⟨z1, z2⟩ := ofAt_iff.mp z
    rw [List.getElem?_map, List.getElem?_append_left (by rw [List.length_append, List.length_reverse]; omega)] at z1 z2
    by_cases c : j < F.length
    · rw [List.getElem?_append_left c, List.getElem?_eq_getElem c] at z1
      have := bitL_of (hF _ (List.getElem_mem c))
      simp [this] at z1
    · rw [List.getElem?_append_right (by omega)] at z2
      obtain ⟨y, hy, e⟩ := Option.map_eq_some_iff.mp z2
      have := bitL_of (hB y (List.mem_reverse.mp (List.mem_of_getElem? hy)))
      rw [this] at e
      cases e
theorem ps_end {bs : List Bool} {L : List Nat} {i : Nat} {B F : List Nat} (h : PS bs L [] i B F) : ∀ j, ofAt (L.map (bitL bs)) j = false := by
  intro j
  have e := h.e
  rw [show List.range' i ([] : List Bool).length = [] from rfl] at e
  by_cases c : j + 1 < F.length + B.length
  · rw [e]
    exact no_pair h.f h.b c
  · cases z : ofAt (L.map (bitL bs)) j with
    | false => rfl
    | true =>
      have := ofAt_lt z
      rw [List.length_map, e, List.append_nil, List.length_append, List.length_reverse] at this
      omega
theorem ps_pair {bs : List Bool} {L : List Nat} {v : List Bool} {i b : Nat} {B F : List Nat} (h : PS bs L (false :: v) i (b :: B) F) :
    L[F.length + B.length]? = some b ∧ L[F.length + B.length + 1]? = some i ∧ ofAt (L.map (bitL bs)) (F.length + B.length) = true ∧ (∀ j, j < F.length + B.length → ofAt (L.map (bitL bs)) j = false) ∧ PS bs (L.eraseIdx (F.length + B.length + 1)) v (i + 1) (b :: B) F ∧ PS bs (L.eraseIdx (F.length + B.length)) (false :: v) i B F := by
  obtain ⟨h1, h2, h3⟩ := ps_cons h
  have ec : L = (F ++ B.reverse) ++ b :: i :: List.range' (i + 1) v.length := by
    rw [h3, List.reverse_cons, ← List.append_assoc, List.append_assoc (F ++ B.reverse)]
    rfl
  have ln : (F ++ B.reverse).length = F.length + B.length := by rw [List.length_append, List.length_reverse]
  have g1 : L[F.length + B.length]? = some b := by rw [ec, ← ln, List.getElem?_append_right (Nat.le_refl _), Nat.sub_self]; rfl
  have g2 : L[F.length + B.length + 1]? = some i := by rw [ec, ← ln, List.getElem?_append_right (Nat.le_add_right _ _), Nat.add_sub_cancel_left]; rfl
  have bb := h.b b (List.mem_cons_self ..)
  refine ⟨g1, g2, ?_, fun j hj => ?_, ⟨?_, h2, h.so.sublist (List.eraseIdx_sublist ..), h.f, h.b⟩, ⟨?_, h.d, h.so.sublist (List.eraseIdx_sublist ..), h.f, fun x m => h.b x (List.mem_cons_of_mem _ m)⟩⟩
  · refine ofAt_iff.mpr ⟨?_, ?_⟩
    · rw [List.getElem?_map, g1]
      exact congrArg some (bitL_of bb)
    · rw [List.getElem?_map, g2]
      exact congrArg some (bitL_of h1)
  · rw [h3]
    exact no_pair h.f h.b (by rw [List.length_cons]; omega)
  · rw [ec, ← ln, List.eraseIdx_append_of_length_le (Nat.le_add_right _ _), Nat.add_sub_cancel_left, List.reverse_cons, ← List.append_assoc, List.append_assoc (F ++ B.reverse)]
    rfl
  · rw [ec, ← ln, List.eraseIdx_append_of_length_le (Nat.le_refl _), Nat.sub_self, List.length_cons, List.range'_succ]
    rfl
end HopH

set_option Elab.async false
set_option linter.all false
set_option maxRecDepth 100000
set_option exponentiation.threshold 200000
namespace Hop
open PySem L2 HopR HopT HopH
/-! ### _law_all -/
def AH (Rs : List (List HopH.T3)) (hs : List (List I3)) : Prop := hs.length = Rs.length ∧ ∀ (j : Nat) (ts : List I3) (R : List HopH.T3), hs[j]? = some ts → Rs[j]? = some R → ts.Perm (R.map c3) ∧ ts.Pairwise fun x y => lexK (k3 y) (k3 x) = false
def spAll (K : PySem.W.Frag) (m : Nat) : Sp := fun vs H Q _ => ∃ (bs : List Bool) (lp : Addr) (L : List Nat) (w : List Bool) (i : Nat) (B F : List Nat), vs = [.str (tx bs), .ref lp] ∧ Row bs ∧ SqL K H lp (L.map wv) ∧ PS bs L w i B F ∧ L.length ≤ m ∧ m ≤ 8 ∧ ∀ H' p hs, Same H H' → H p = none → HS H H' p hs → AH (AllH w i B) hs → Q (.ref p) H'
abbrev nAl : List Str := ["_law_row_here", "_law_letters", "_law_word", "_law_at", "_law_bead", "_law_free", "_law_first", "_law_second", "_law_found", "_law_letter", "_law_heap"]
theorem scAl : FnScope nAl ["_law_row_here", "_law_letters"] (defScope sLAll) := ⟨rfl, rfl, rfl, by decide +kernel, rfl, by decide +kernel, by decide +kernel⟩
theorem all_len {bs : List Bool} {L : List Nat} {w : List Bool} {i : Nat} {B F : List Nat} (h : PS bs L w i B F) (l8 : L.length ≤ 8) : (AllH w i B).length ≤ 256 ∧ ∀ R ∈ AllH w i B, R.length ≤ 8 := by
  have e := congrArg List.length h.e
  rw [List.length_append, List.length_append, List.length_reverse, List.length_range'] at e
  refine ⟨?_, fun R m => ?_⟩
  · unfold AllH
    rw [List.length_map, List.length_range]
    refine Nat.le_trans (gn_le w B.length) ?_
    exact Nat.le_trans (Nat.pow_le_pow_right (by decide) (show B.length + w.length ≤ 8 by omega)) (by decide)
  · unfold AllH at m
    obtain ⟨r, _, rfl⟩ := List.mem_map.mp m
    have := hbF_len w i B r
    omega
/-- each list with one tuple more, sorted -/
def More (e : I3) (hs us : List (List I3)) : Prop := us.length = hs.length ∧ ∀ (j : Nat) (u : List I3), us[j]? = some u → ∃ ts, hs[j]? = some ts ∧ u.Perm (ts ++ [e]) ∧ u.Pairwise fun x y => lexK (k3 y) (k3 x) = false
theorem more_ah {e : HopH.T3} {Rs : List (List HopH.T3)} {hs us : List (List I3)} (a : AH Rs hs) (m : More (c3 e) hs us) : AH (Rs.map fun R => e :: R) us := by
  refine ⟨by rw [m.1, a.1, List.length_map], fun j u R hu hR => ?_⟩
  obtain ⟨ts, ht, p, so⟩ := m.2 j u hu
  rw [List.getElem?_map] at hR
  obtain ⟨R0, h0, rfl⟩ := Option.map_eq_some_iff.mp hR
  refine ⟨?_, so⟩
  refine p.trans ((List.perm_append_singleton _ _).trans ?_)
  rw [List.map_cons]
  exact ((a.2 j ts R0 ht h0).1).cons _
theorem ah_app {Rs Rs' : List (List HopH.T3)} {hs hs' : List (List I3)} (a : AH Rs hs) (b : AH Rs' hs') : AH (Rs ++ Rs') (hs ++ hs') := by
  refine ⟨by rw [List.length_append, List.length_append, a.1, b.1], fun j ts R h1 h2 => ?_⟩
  rcases Nat.lt_or_ge j hs.length with z | z
  · rw [List.getElem?_append_left z] at h1
    rw [List.getElem?_append_left (by rw [← a.1]; exact z)] at h2
    exact a.2 j ts R h1 h2
  · rw [List.getElem?_append_right z] at h1
    rw [List.getElem?_append_right (by rw [← a.1]; exact z), ← a.1] at h2
    exact b.2 _ ts R h1 h2
theorem str_drop {n k : Nat} {L : List Nat} (h : L.length ≤ 8) (hn : n ≤ 8) : cutV (L.map wv) (some (n : Int)) none = (L.drop n).map wv := by
  have hl : (L.map wv).length = L.length := List.length_map ..
  unfold cutV
  rw [HT.sIx_none, HT.sIx_nat, hl, ← List.map_drop, ← List.map_take]
  by_cases z : n ≤ L.length
  · rw [Nat.min_eq_left z, List.take_of_length_le (by rw [List.length_drop]; exact Nat.le_refl _)]
  · rw [Nat.min_eq_right (by omega), Nat.sub_self, List.drop_eq_nil_of_le (by omega : L.length ≤ n)]
    rfl
theorem str_take {n k : Nat} {L : List Nat} : cutV (L.map wv) none (some (n : Int)) = (L.take n).map wv := by
  have hl : (L.map wv).length = L.length := List.length_map ..
  unfold cutV
  rw [HT.sIx_none, HT.sIx_nat, hl, List.drop_zero, Nat.sub_zero, ← List.map_take]
  by_cases z : n ≤ L.length
  · rw [Nat.min_eq_left z]
  · rw [Nat.min_eq_right (by omega), List.take_of_length_le (Nat.le_refl _), List.take_of_length_le (by omega)]
section
variable {P : Program} {w : World} {K : PySem.W.Frag} {mg : Str → Option Value} {base : Heap} {C d : Addr} {es : Array DictEntry} {n : Nat}
set_option maxHeartbeats 4000000 in
theorem ok_all0 {f : Addr} {fd : FuncData} {k : Nat} (F : Fun K "_law_all" "_law_all" sLAll f fd) (T : TxtR K w mg d es n) : FnOk P w K mg base CX0 (k + 1) f fd ["_law_row_here", "_law_letters"] (spAll K 0) := by
  refine F.ok scAl (fun vs H Q E h => ?_) (fun cdv A outer s H vs Q E hr h => ?_)
  · obtain ⟨bs, lp, L, w, i, B, F, rfl, _⟩ := h
    rfl
  · obtain ⟨bs, lp, L, v0, i0, B0, F0, rfl, hR, hL, ps0, lm, m8, q⟩ := h
    have nd := scAl.nd
    have h30 := hR.2
    have wr := row_size hR
    obtain ⟨w', i', B', F', ps, eA, cs⟩ := norm ps0
    rw [eA] at q
    clear eA
    have bit : ∀ {j a : Nat}, L[j]? = some a → bs[a]? = some (bitL bs a) := fun {j a} h => by
      have m := List.mem_of_getElem? h
      rw [ps.e] at m
      have al : a < bs.length := by
        rcases List.mem_append.mp m with m | m
        · rcases List.mem_append.mp m with m | m
          · exact (List.getElem?_eq_some_iff.mp (ps.f a m)).1
          · exact (List.getElem?_eq_some_iff.mp (ps.b a (List.mem_reverse.mp m))).1
        · rw [List.mem_range'_1] at m
          have := congrArg List.length ps.d
          rw [List.length_drop] at this
          omega
      unfold bitL
      rw [List.getElem?_eq_getElem al]
      rfl
    refine ⟨_, pss_cons (ps_set (i := 2) nd rfl (.inl rfl) (pe_join pe_str (pe_lc (own := [("_law_letter", 9)]) (g := gName 9) (tt := tYes) (te := tOp rIxS (tVar 0) (tVar 9)) (by rfl) nd (pi_list (pv 1)) (blkOk_by (own := [("_law_letter", 9)]) (N := nAl) (sc := defScope sLAll) (by decide +kernel)) (fun _ _ _ _ _ => pg_name (i := 9) nd rfl (.inl rfl)) (fun _ _ _ _ _ => pts_nil) (fun _ _ _ _ _ => pe_ix ix_str (pv 0) (pv 9) (fun _ _ => rfl)))))
      (pss_cons (ps_set (i := 3) nd rfl (.inl rfl) (pe_m1 PySem.F.slot_str_find PySem.F.type_str_find mt_find (pv 2) pe_str))
      (pss_cons (ps_if (pt_cmpR op_lt (pv 3) pe_int (nomark _)) (pss_one (ps_ret (pe_lst (pa_cons (pe_lst pa_nil) pa_nil)))) pss_nil)
      pss_never)), ?_⟩
    refine ⟨⟨_, rfl⟩, .ref lp, rfl, lp, rfl, ⟨_, hL⟩, fun D1 nD1 => ?_⟩
    refine lc_list (K := K) (a := lp) (xs := L.map wv) (fun i H4 => Same H H4 ∧ H4 D1 = some (.lst ((((L.take i).map (bitL bs)).map fun b => tx [b]).map V.str))) ⟨same_upd nD1, upd_same⟩ (fun i H4 _ h => h.1.seq hL) ?_ ?_
    · rintro i x H4 hx ⟨s4, eD⟩
      rw [List.getElem?_map] at hx
      obtain ⟨a, ha, rfl⟩ := Option.map_eq_some_iff.mp hx
      have hi := (List.getElem?_eq_some_iff.mp ha).1
      have st : L.take (i + 1) = L.take i ++ [a] := by rw [List.take_add_one, ha]; rfl
      refine ⟨rfl, .str (tx bs), rfl, wv a, rfl, _, (a : Int), cd (bitL bs a), rfl, rfl, wr, code_at (bit ha), _, eD, ?_, same_new nD1 s4, ?_⟩
      · rw [List.length_map, List.length_map, List.length_map, List.length_take]; exact fit' (by omega)
      · rw [upd_same, st, List.map_append, List.map_append, List.map_append]; rfl
    rintro H1 ⟨s1, eD1⟩
    rw [List.length_map, List.take_length] at eD1
    refine ⟨"", D1, (L.map (bitL bs)).map fun b => tx [b], rfl, rfl, .inl (SqL.of eD1), ?_, ?_⟩
    · rw [sum_tx, List.length_map, List.length_map]
      show L.length + L.length * 0 ≤ _
      omega
    rw [join_tx]
    refine ⟨.str (tx (L.map (bitL bs))), rfl, ⟨_, rfl⟩, _, "o.", rfl, rfl, ?_⟩
    have cs : w' = [] := by
      rcases cs with c | ⟨v, b, B'', rfl, rfl⟩
      · exact c
      · have := (List.getElem?_eq_some_iff.mp (ps_pair ps).1).1
        omega
    subst cs
    have fnd : Txt.find (tx (L.map (bitL bs))) "o." = -1 := by
      rcases HopH.find_of (L.map (bitL bs)) with ⟨e, _⟩ | ⟨j, hj, _, _⟩
      · exact e
      · have := ps_end ps j
        rw [this] at hj
        cases hj
    rw [fnd]
    refine ⟨.int (-1), rfl, -1, 0, rfl, rfl, _, rfl, iteT ?_⟩
    refine ⟨(by show 0 ≤ sizeLine; decide), fun o no => ⟨(by show 1 ≤ sizeLine; decide), fun o2 no2 => ?_⟩⟩
    have t1 := same_upd (o := .lst []) no
    have e1 : upd H1 o (.lst []) o = some (.lst []) := upd_same
    generalize upd H1 o (.lst []) = H2 at t1 e1 no2 ⊢
    have t2 := same_upd (o := .lst [.ref o]) no2
    have s13 := (s1.trans t1).trans t2
    refine q _ o2 [[]] s13 ((s1.trans t1).free no2) ⟨[o], upd_same, rfl, fun j a ts ha ht => ?_, fun a ha => ?_⟩ ⟨rfl, fun j ts R h1 h2 => ?_⟩
    · cases j with
      | zero =>
        cases ha
        cases ht
        exact ⟨[], t2 _ _ e1, rfl⟩
      | succ j => simp at ha
    · rw [List.mem_singleton.mp ha]
      exact ⟨s1.free no, fun z => by rw [z, no2] at e1; cases e1⟩
    · cases j with
      | zero =>
        cases h1
        cases h2
        exact ⟨.nil, .nil⟩
      | succ j => simp at h1
set_option maxHeartbeats 16000000 in
theorem ok_all {f : Addr} {fd : FuncData} {k : Nat} (F : Fun K "_law_all" "_law_all" sLAll f fd) (N : Fn K mg "_law_all" sLAll ["_law_row_here", "_law_letters"] f fd) (T : TxtR K w mg d es n) (m : Nat) (ihm : FnOk P w K mg base CX0 (k + m + 1) f fd ["_law_row_here", "_law_letters"] (spAll K m)) : FnOk P w K mg base CX0 (k + (m + 1) + 1) f fd ["_law_row_here", "_law_letters"] (spAll K (m + 1)) := by
  refine F.ok scAl (fun vs H Q E h => ?_) (fun cdv A outer s H vs Q E hr h => ?_)
  · obtain ⟨bs, lp, L, w, i, B, F, rfl, _⟩ := h
    rfl
  · obtain ⟨bs, lp, L, v0, i0, B0, F0, rfl, hR, hL, ps0, lm, m8, q⟩ := h
    have nd := scAl.nd
    have h30 := hR.2
    have wr := row_size hR
    obtain ⟨w', i', B', F', ps, eA, cs⟩ := norm ps0
    rw [eA] at q
    clear eA
    have bit : ∀ {j a : Nat}, L[j]? = some a → bs[a]? = some (bitL bs a) := fun {j a} h => by
      have m := List.mem_of_getElem? h
      rw [ps.e] at m
      have al : a < bs.length := by
        rcases List.mem_append.mp m with m | m
        · rcases List.mem_append.mp m with m | m
          · exact (List.getElem?_eq_some_iff.mp (ps.f a m)).1
          · exact (List.getElem?_eq_some_iff.mp (ps.b a (List.mem_reverse.mp m))).1
        · rw [List.mem_range'_1] at m
          have := congrArg List.length ps.d
          rw [List.length_drop] at this
          omega
      unfold bitL
      rw [List.getElem?_eq_getElem al]
      rfl
    refine ⟨_, pss_cons (ps_set (i := 2) nd rfl (.inl rfl) (pe_join pe_str (pe_lc (own := [("_law_letter", 9)]) (g := gName 9) (tt := tYes) (te := tOp rIxS (tVar 0) (tVar 9)) (by rfl) nd (pi_list (pv 1)) (blkOk_by (own := [("_law_letter", 9)]) (N := nAl) (sc := defScope sLAll) (by decide +kernel)) (fun _ _ _ _ _ => pg_name (i := 9) nd rfl (.inl rfl)) (fun _ _ _ _ _ => pts_nil) (fun _ _ _ _ _ => pe_ix ix_str (pv 0) (pv 9) (fun _ _ => rfl)))))
      (pss_cons (ps_set (i := 3) nd rfl (.inl rfl) (pe_m1 PySem.F.slot_str_find PySem.F.type_str_find mt_find (pv 2) pe_str))
      (pss_cons (ps_if (pt_cmpR op_lt (pv 3) pe_int (nomark _)) (pss_one (ps_ret (pe_lst (pa_cons (pe_lst pa_nil) pa_nil)))) pss_nil)
      (pss_cons (ps_asg (pe_tup (pa_cons (pe_ix ix_list (pv 1) (pv 3) (fun _ _ => rfl)) (pa_cons (pe_ix ix_list (pv 1) (pe_op op_add (pv 3) pe_int) (fun _ _ => rfl)) pa_nil))) (pg_tup (by rfl) (pgs_cons (pg_name (i := 4) nd rfl (.inr rfl)) (pgs_cons (pg_name (i := 5) nd rfl (.inr rfl)) pgs_nil))))
      (pss_cons (ps_set (i := 6) nd rfl (.inl rfl) (pe_call ihm hr (by rfl) N.g N.F.kp N.b .nil pass0 (pa_cons (pv 0) (pa_cons (pe_op op_cat (pe_slice sl_list (pv 1) po_none (po_some (pe_op op_add (pv 3) pe_int))) (pe_slice sl_list (pv 1) (po_some (pe_op op_add (pv 3) pe_int)) po_none)) pa_nil))))
      (pss_cons (ps_set (i := 7) nd rfl (.inl rfl) (pe_call ihm hr (by rfl) N.g N.F.kp N.b .nil pass0 (pa_cons (pv 0) (pa_cons (pe_op op_cat (pe_slice sl_list (pv 1) po_none (po_some (pv 3))) (pe_slice sl_list (pv 1) (po_some (pe_op op_add (pv 3) pe_int)) po_none)) pa_nil))))
      (pss_cons (ps_setLc (i := 8) (own := [("_law_heap", 10)]) (g := gName 10) (tt := tYes) (by rfl) nd rfl rfl (sw_true rfl rfl rfl (by decide +kernel)) (pi_list (pv 6)) (blkOk_by (own := [("_law_heap", 10)]) (N := nAl) (sc := defScope sLAll) (by decide +kernel)) (fun _ _ _ _ _ => pg_name (i := 10) nd rfl (.inl rfl)) (fun _ _ _ _ _ => pts_nil) (fun _ _ _ _ _ => (pe_callB (show CallR _ (.builtin "sorted") (rSortedA t3v k3) from cr_sorted3) (by rfl) T.sorted (by decide +kernel) (pa_cons (pe_op (show OpR _ (binaryOp .Add) rCat from op_cat) (pv 10) (pe_lst (pa_cons (pe_tup (pa_cons (pv 4) (pa_cons (pv 5) (pa_cons pe_str pa_nil)))) pa_nil))) pa_nil))))
      (pss_one (ps_ret (pe_op op_cat (pv 8) (pe_lc (own := [("_law_heap", 10)]) (g := gName 10) (tt := tYes) rfl nd (pi_list (pv 7)) (blkOk_by (own := [("_law_heap", 10)]) (N := nAl) (sc := defScope sLAll) (by decide +kernel)) (fun _ _ _ _ _ => pg_name (i := 10) nd rfl (.inl rfl)) (fun _ _ _ _ _ => pts_nil) (fun _ _ _ _ _ => (pe_callB (show CallR _ (.builtin "sorted") (rSortedA t3v k3) from cr_sorted3) (by rfl) T.sorted (by decide +kernel) (pa_cons (pe_op (show OpR _ (binaryOp .Add) rCat from op_cat) (pv 10) (pe_lst (pa_cons (pe_tup (pa_cons (pv 4) (pa_cons (pv 5) (pa_cons pe_str pa_nil)))) pa_nil))) pa_nil))))))))))))), ?_⟩
    refine ⟨⟨_, rfl⟩, .ref lp, rfl, lp, rfl, ⟨_, hL⟩, fun D1 nD1 => ?_⟩
    refine lc_list (K := K) (a := lp) (xs := L.map wv) (fun i H4 => Same H H4 ∧ H4 D1 = some (.lst ((((L.take i).map (bitL bs)).map fun b => tx [b]).map V.str))) ⟨same_upd nD1, upd_same⟩ (fun i H4 _ h => h.1.seq hL) ?_ ?_
    · rintro i x H4 hx ⟨s4, eD⟩
      rw [List.getElem?_map] at hx
      obtain ⟨a, ha, rfl⟩ := Option.map_eq_some_iff.mp hx
      have hi := (List.getElem?_eq_some_iff.mp ha).1
      have st : L.take (i + 1) = L.take i ++ [a] := by rw [List.take_add_one, ha]; rfl
      refine ⟨rfl, .str (tx bs), rfl, wv a, rfl, _, (a : Int), cd (bitL bs a), rfl, rfl, wr, code_at (bit ha), _, eD, ?_, same_new nD1 s4, ?_⟩
      · rw [List.length_map, List.length_map, List.length_map, List.length_take]; exact fit' (by omega)
      · rw [upd_same, st, List.map_append, List.map_append, List.map_append]; rfl
    rintro H1 ⟨s1, eD1⟩
    rw [List.length_map, List.take_length] at eD1
    refine ⟨"", D1, (L.map (bitL bs)).map fun b => tx [b], rfl, rfl, .inl (SqL.of eD1), ?_, ?_⟩
    · rw [sum_tx, List.length_map, List.length_map]
      show L.length + L.length * 0 ≤ _
      omega
    rw [join_tx]
    refine ⟨.str (tx (L.map (bitL bs))), rfl, ⟨_, rfl⟩, _, "o.", rfl, rfl, ?_⟩
    rcases cs with rfl | cs
    · clear ihm
      have fnd : Txt.find (tx (L.map (bitL bs))) "o." = -1 := by
        rcases HopH.find_of (L.map (bitL bs)) with ⟨e, _⟩ | ⟨j, hj, _, _⟩
        · exact e
        · have := ps_end ps j
          rw [this] at hj
          cases hj
      rw [fnd]
      refine ⟨.int (-1), rfl, -1, 0, rfl, rfl, _, rfl, iteT ?_⟩
      refine ⟨(by show 0 ≤ sizeLine; decide), fun o no => ⟨(by show 1 ≤ sizeLine; decide), fun o2 no2 => ?_⟩⟩
      have t1 := same_upd (o := .lst []) no
      have e1 : upd H1 o (.lst []) o = some (.lst []) := upd_same
      generalize upd H1 o (.lst []) = H2 at t1 e1 no2 ⊢
      have t2 := same_upd (o := .lst [.ref o]) no2
      have s13 := (s1.trans t1).trans t2
      refine q _ o2 [[]] s13 ((s1.trans t1).free no2) ⟨[o], upd_same, rfl, fun j a ts ha ht => ?_, fun a ha => ?_⟩ ⟨rfl, fun j ts R h1 h2 => ?_⟩
      · cases j with
        | zero =>
          cases ha
          cases ht
          exact ⟨[], t2 _ _ e1, rfl⟩
        | succ j => simp at ha
      · rw [List.mem_singleton.mp ha]
        exact ⟨s1.free no, fun z => by rw [z, no2] at e1; cases e1⟩
      · cases j with
        | zero =>
          cases h1
          cases h2
          exact ⟨.nil, .nil⟩
        | succ j => simp at h1
    obtain ⟨v, b, B, rfl, rfl⟩ := cs
    obtain ⟨g1, g2, o1, o2, psO, psB⟩ := ps_pair ps
    obtain ⟨a8, hA⟩ := all_len psO (by rw [List.length_eraseIdx_of_lt (List.getElem?_eq_some_iff.mp g2).1]; omega)
    obtain ⟨b8, hB8⟩ := all_len psB (by rw [List.length_eraseIdx_of_lt (List.getElem?_eq_some_iff.mp g1).1]; omega)
    have gl1 := (List.getElem?_eq_some_iff.mp g1).1
    have gl2 := (List.getElem?_eq_some_iff.mp g2).1
    have lO : (L.eraseIdx (F'.length + B.length + 1)).length ≤ m := by rw [List.length_eraseIdx_of_lt gl2]; omega
    have lB : (L.eraseIdx (F'.length + B.length)).length ≤ m := by rw [List.length_eraseIdx_of_lt gl1]; omega
    have fnd : Txt.find (tx (L.map (bitL bs))) "o." = ((F'.length + B.length : Nat) : Int) := by
      rcases HopH.find_of (L.map (bitL bs)) with ⟨_, e⟩ | ⟨j, hj, fst, e⟩
      · exact absurd (hasOf_no e (F'.length + B.length)) (by rw [o1]; decide)
      · rw [e]
        rcases Nat.lt_trichotomy j (F'.length + B.length) with z | z | z
        · have := o2 j z
          rw [this] at hj
          cases hj
        · rw [z]
        · have := fst _ z
          rw [o1] at this
          cases this
    rw [fnd]
    generalize hat : F'.length + B.length = at' at g1 g2 o1 o2 psO psB gl1 gl2 lO lB fnd ⊢
    have hL1 := s1.seq hL
    refine ⟨.int (at' : Int), rfl, (at' : Int), 0, rfl, rfl, _, rfl, ?_⟩
    rw [decide_eq_false (show ¬ (at' : Int) < 0 by omega)]
    have atL : ∀ {j a : Nat}, L[j]? = some a → atI (L.map wv) (j : Int) = some (wv a) := fun {j a} h => atI_nat (by rw [List.getElem?_map, h]; rfl)
    refine iteF ⟨.ref lp, rfl, .int (at' : Int), rfl, lp, _, (at' : Int), wv b, rfl, rfl, hL1, atL g1, .ref lp, rfl, .int (at' : Int), rfl, (at' : Int), 1, rfl, rfl, lp, _, (at' : Int) + 1, wv i', rfl, rfl, hL1, (by rw [show (at' : Int) + 1 = ((at' + 1 : Nat) : Int) by omega]; exact atL g2), (by show 2 ≤ sizeLine; decide), fun t nt => ?_⟩
    have s2 := same_upd (o := .tup [wv b, wv i']) nt
    have et : upd H1 t (.tup [wv b, wv i']) t = some (.tup [wv b, wv i']) := upd_same
    generalize upd H1 t (.tup [wv b, wv i']) = H2 at s2 et
    have s12 := s1.trans s2
    have hL2 := s12.seq hL
    refine ⟨t, _, rfl, SqT.of et, rfl, _, _, rfl, _, _, rfl, rfl, ?_⟩
    -- both calls
    have c1 : cutV (L.map wv) none (some ((at' : Int) + 1)) = (L.take (at' + 1)).map wv := by
      rw [show (at' : Int) + 1 = ((at' + 1 : Nat) : Int) by omega]
      exact str_take (k := 0)
    have c2 : cutV (L.map wv) (some ((at' : Int) + 2)) none = (L.drop (at' + 2)).map wv := by
      rw [show (at' : Int) + 2 = ((at' + 2 : Nat) : Int) by omega]
      exact str_drop (k := 0) (by omega) (by omega)
    have c3' : cutV (L.map wv) none (some (at' : Int)) = (L.take at').map wv := str_take (k := 0)
    have c4 : cutV (L.map wv) (some ((at' : Int) + 1)) none = (L.drop (at' + 1)).map wv := by
      rw [show (at' : Int) + 1 = ((at' + 1 : Nat) : Int) by omega]
      exact str_drop (k := 0) (by omega) (by omega)
    have sz : ∀ a c : Nat, ((L.take a).map wv).length + ((L.drop c).map wv).length ≤ sizeLine := fun a c => by
      rw [List.length_map, List.length_map, List.length_take, List.length_drop]
      exact Nat.le_of_lt (fit' (by omega))
    refine ⟨.str (tx bs), rfl, .ref lp, rfl, .int (at' : Int), rfl, (at' : Int), 1, rfl, rfl, (at' : Int) + 1, rfl, lp, _, rfl, hL2, fun z1 nz1 => ?_⟩
    rw [c1]
    have t1 := same_upd (o := .lst ((L.take (at' + 1)).map wv)) nz1
    have f1 : upd H2 z1 (.lst ((L.take (at' + 1)).map wv)) z1 = some (.lst ((L.take (at' + 1)).map wv)) := upd_same
    generalize upd H2 z1 (.lst ((L.take (at' + 1)).map wv)) = J1 at t1 f1
    refine ⟨.ref lp, rfl, .int (at' : Int), rfl, (at' : Int), 2, rfl, rfl, (at' : Int) + 2, rfl, lp, _, rfl, t1.seq hL2, fun z2 nz2 => ?_⟩
    rw [c2]
    have t2 := same_upd (o := .lst ((L.drop (at' + 2)).map wv)) nz2
    have f2 : upd J1 z2 (.lst ((L.drop (at' + 2)).map wv)) z2 = some (.lst ((L.drop (at' + 2)).map wv)) := upd_same
    generalize upd J1 z2 (.lst ((L.drop (at' + 2)).map wv)) = J2 at t2 f2
    refine ⟨z1, z2, _, _, rfl, rfl, t2 _ _ f1, f2, sz _ _, fun z3 nz3 => ?_⟩
    rw [← List.map_append, ← List.eraseIdx_eq_take_drop_succ]
    have t3 := same_upd (o := .lst ((L.eraseIdx (at' + 1)).map wv)) nz3
    have f3 : upd J2 z3 (.lst ((L.eraseIdx (at' + 1)).map wv)) z3 = some (.lst ((L.eraseIdx (at' + 1)).map wv)) := upd_same
    generalize upd J2 z3 (.lst ((L.eraseIdx (at' + 1)).map wv)) = J3 at t3 f3
    have s13 := ((s12.trans t1).trans t2).trans t3
    refine ⟨bs, z3, _, v, i' + 1, b :: B, F', rfl, hR, SqL.of f3, psO, lO, by omega, fun H4 p1 hs1 s4 np1 HS1 AH1 => ?_⟩
    have s14 := s13.trans s4
    have hL4 := s14.seq hL
    refine ⟨.str (tx bs), rfl, .ref lp, rfl, .int (at' : Int), rfl, (at' : Int), rfl, lp, _, rfl, hL4, fun z4 nz4 => ?_⟩
    rw [c3']
    have t4 := same_upd (o := .lst ((L.take at').map wv)) nz4
    have f4 : upd H4 z4 (.lst ((L.take at').map wv)) z4 = some (.lst ((L.take at').map wv)) := upd_same
    generalize upd H4 z4 (.lst ((L.take at').map wv)) = J4 at t4 f4
    refine ⟨.ref lp, rfl, .int (at' : Int), rfl, (at' : Int), 1, rfl, rfl, (at' : Int) + 1, rfl, lp, _, rfl, t4.seq hL4, fun z5 nz5 => ?_⟩
    rw [c4]
    have t5 := same_upd (o := .lst ((L.drop (at' + 1)).map wv)) nz5
    have f5 : upd J4 z5 (.lst ((L.drop (at' + 1)).map wv)) z5 = some (.lst ((L.drop (at' + 1)).map wv)) := upd_same
    generalize upd J4 z5 (.lst ((L.drop (at' + 1)).map wv)) = J5 at t5 f5
    refine ⟨z4, z5, _, _, rfl, rfl, t5 _ _ f4, f5, sz _ _, fun z6 nz6 => ?_⟩
    rw [← List.map_append, ← List.eraseIdx_eq_take_drop_succ]
    have t6 := same_upd (o := .lst ((L.eraseIdx at').map wv)) nz6
    have f6 : upd J5 z6 (.lst ((L.eraseIdx at').map wv)) z6 = some (.lst ((L.eraseIdx at').map wv)) := upd_same
    generalize upd J5 z6 (.lst ((L.eraseIdx at').map wv)) = J6 at t6 f6
    have s46 := (t4.trans t5).trans t6
    refine ⟨bs, z6, _, false :: v, i', B, F', rfl, hR, SqL.of f6, psB, lB, by omega, fun H7 p2 hs2 s7 np2 HS2 AH2 => ?_⟩
    have s47 := s46.trans s7
    have s17 := s14.trans s47
    obtain ⟨as1, ep1', la1, tls1', fr1⟩ := HS1.at_
    obtain ⟨as2, ep2, la2, tls2, fr2⟩ := HS2.at_
    have ep1 := s47 _ _ ep1'
    have tls1 : ∀ (j : Nat) (a : Addr) (ts : List I3), as1[j]? = some a → hs1[j]? = some ts → TL t3v H7 a ts := fun j a ts h1 h2 => (tls1' j a ts h1 h2).same s47
    have bnd : ∀ {Rs : List (List HopH.T3)} {hs : List (List I3)}, AH Rs hs → (∀ R ∈ Rs, R.length ≤ 8) → ∀ (j : Nat) (ts : List I3), hs[j]? = some ts → ts.length ≤ 8 := fun {Rs hs} a h j ts ht => by
      have jl := (List.getElem?_eq_some_iff.mp ht).1
      rw [a.1] at jl
      have p := (a.2 j ts _ ht (List.getElem?_eq_getElem jl)).1
      rw [p.length_eq, List.length_map]
      exact h _ (List.getElem_mem jl)
    have bnd1 := bnd AH1 hA
    have bnd2 := bnd AH2 hB8
    have n1' : as1.length ≤ 256 := by rw [la1, AH1.1]; exact a8
    have n2' : as2.length ≤ 256 := by rw [la2, AH2.1]; exact b8
    refine ⟨.ref p1, rfl, p1, rfl, ⟨_, SqL.of ep1⟩, fun DA nDA => ?_⟩
    refine lc_list (K := K) (a := p1) (xs := (as1.map V.ref)) (fun j H9 => Same H7 H9 ∧ ∃ (as' : List Addr) (us : List (List I3)), H9 DA = some (.lst (as'.map V.ref)) ∧ as'.length = j ∧ us.length = j ∧ (∀ (k : Nat) (a : Addr) (u : List I3), as'[k]? = some a → us[k]? = some u → TL t3v H9 a u) ∧ (∀ (k : Nat) (u : List I3), us[k]? = some u → ∃ ts, hs1[k]? = some ts ∧ u.Perm (ts ++ [((b : Int), (i' : Int), true)]) ∧ u.Pairwise fun x y => lexK (k3 y) (k3 x) = false) ∧ ∀ a ∈ as', H7 a = none ∧ a ≠ DA)
      ⟨same_upd nDA, [], [], upd_same, rfl, rfl, fun k a u h => by simp at h, fun k u h => by simp at h, fun a h => by simp at h⟩ (fun j H9 _ h => SqL.of (h.1 _ _ ep1)) ?_ ?_
    · rintro j x H9 hx ⟨s9, as', us, eD, l1, l2, h1, h2, h3⟩
      rw [List.getElem?_map] at hx
      obtain ⟨a, ha, rfl⟩ := Option.map_eq_some_iff.mp hx
      have jl := (List.getElem?_eq_some_iff.mp ha).1
      obtain ⟨ts, ht⟩ : ∃ ts, hs1[j]? = some ts := ⟨hs1[j]'(by rw [← la1]; exact jl), List.getElem?_eq_getElem _⟩
      have t8 := bnd1 j ts ht
      obtain ⟨acc, ea, ga⟩ := (tls1 j a ts ha ht).same s9
      have la := tupG_len ga
      refine ⟨rfl, .ref a, rfl, wv b, rfl, wv i', rfl, (by show 3 ≤ sizeLine; decide), fun p1 n1 => ⟨(by show 1 ≤ sizeLine; decide), fun o no => ?_⟩⟩
      have fs : (V.str "o" : V) = .str (tx [true]) := by rw [show ("o" : Str) = tx [true] by decide +kernel]
      rw [fs] at no ⊢
      have q1 := same_upd (o := .tup (t3v ((b : Int), (i' : Int), true))) n1
      have f1 : upd H9 p1 (.tup (t3v ((b : Int), (i' : Int), true))) p1 = some (.tup (t3v ((b : Int), (i' : Int), true))) := upd_same
      have et : HO.tup [wv b, wv i', V.str (tx [true])] = .tup (t3v ((b : Int), (i' : Int), true)) := rfl
      rw [et] at no ⊢
      generalize upd H9 p1 (.tup (t3v ((b : Int), (i' : Int), true))) = J1 at q1 f1 no ⊢
      have q2 := same_upd (o := .lst [.ref p1]) no
      have f2 : upd J1 o (.lst [.ref p1]) o = some (.lst [.ref p1]) := upd_same
      refine ⟨a, o, acc, [.ref p1], rfl, rfl, q2 _ _ (q1 _ _ ea), f2, (by rw [la]; exact Nat.le_of_lt (fit' (by show ts.length + 1 ≤ _; omega))), fun l nl => ?_⟩
      have q3 := same_upd (o := .lst (acc ++ [.ref p1])) nl
      have tl3 : TL t3v (upd (upd J1 o (.lst [.ref p1])) l (.lst (acc ++ [.ref p1]))) l (ts ++ [((b : Int), (i' : Int), true)]) := ⟨_, upd_same, tupG_same q3 (tupG_add (q2 _ _ f1) (tupG_same q2 (tupG_same q1 ga)))⟩
      have q13 := (q1.trans q2).trans q3
      generalize upd (upd J1 o (.lst [.ref p1])) l (.lst (acc ++ [.ref p1])) = J3 at tl3 q13
      refine ⟨l, _, rfl, tl3, fun u p' J4 pm so q4 np tlu => ?_⟩
      have q14 := q13.trans q4
      have eD4 := q14 _ _ eD
      have npD : p' ≠ DA := fun z => by rw [z, q13 _ _ eD] at np; cases np
      refine ⟨_, eD4, fit' (by rw [List.length_map]; omega), same_new nDA (s9.trans q14), as' ++ [p'], us ++ [u], ?_, ?_, ?_, ?_, ?_, ?_⟩
      · rw [upd_same, List.map_append]
        rfl
      · rw [List.length_append, l1]; rfl
      · rw [List.length_append, l2]; rfl
      · intro k a2 u2 ha2 hu2
        rcases Nat.lt_or_ge k j with z | z
        · rw [List.getElem?_append_left (by omega)] at ha2 hu2
          exact tl_put eD4 (h3 a2 (List.mem_of_getElem? ha2)).2 ((h1 k a2 u2 ha2 hu2).same q14)
        · have zz : k = j := by
            have := (List.getElem?_eq_some_iff.mp ha2).1
            rw [List.length_append, List.length_singleton] at this
            omega
          subst zz
          rw [List.getElem?_append_right (by omega), l1, Nat.sub_self] at ha2
          rw [List.getElem?_append_right (by omega), l2, Nat.sub_self] at hu2
          cases ha2
          cases hu2
          exact tl_put eD4 npD tlu
      · intro k u2 hu2
        rcases Nat.lt_or_ge k j with z | z
        · rw [List.getElem?_append_left (by omega)] at hu2
          exact h2 k u2 hu2
        · have zz : k = j := by
            have := (List.getElem?_eq_some_iff.mp hu2).1
            rw [List.length_append, List.length_singleton] at this
            omega
          subst zz
          rw [List.getElem?_append_right (by omega), l2, Nat.sub_self] at hu2
          cases hu2
          exact ⟨ts, ht, pm, so⟩
      · intro a2 ha2
        rcases List.mem_append.mp ha2 with ha2 | ha2
        · exact h3 a2 ha2
        · rw [List.mem_singleton.mp ha2]
          exact ⟨(s9.trans q13).free np, npD⟩
    rintro H8 ⟨s8, as1', us1, eDA, ka, kb, kc, kd, kf⟩
    rw [List.length_map] at ka kb
    have ep28 := s8 _ _ ep2
    have tls28 : ∀ (j : Nat) (a : Addr) (ts : List I3), as2[j]? = some a → hs2[j]? = some ts → TL t3v H8 a ts := fun j a ts h1 h2 => (tls2 j a ts h1 h2).same s8
    refine ⟨.ref DA, rfl, .ref p2, rfl, p2, rfl, ⟨_, SqL.of ep28⟩, fun DB nDB => ?_⟩
    refine lc_list (K := K) (a := p2) (xs := (as2.map V.ref)) (fun j H9 => Same H8 H9 ∧ ∃ (as' : List Addr) (us : List (List I3)), H9 DB = some (.lst (as'.map V.ref)) ∧ as'.length = j ∧ us.length = j ∧ (∀ (k : Nat) (a : Addr) (u : List I3), as'[k]? = some a → us[k]? = some u → TL t3v H9 a u) ∧ (∀ (k : Nat) (u : List I3), us[k]? = some u → ∃ ts, hs2[k]? = some ts ∧ u.Perm (ts ++ [((b : Int), (i' : Int), false)]) ∧ u.Pairwise fun x y => lexK (k3 y) (k3 x) = false) ∧ ∀ a ∈ as', H8 a = none ∧ a ≠ DB)
      ⟨same_upd nDB, [], [], upd_same, rfl, rfl, fun k a u h => by simp at h, fun k u h => by simp at h, fun a h => by simp at h⟩ (fun j H9 _ h => SqL.of (h.1 _ _ ep28)) ?_ ?_
    · rintro j x H9 hx ⟨s9, as', us, eD, l1, l2, h1, h2, h3⟩
      rw [List.getElem?_map] at hx
      obtain ⟨a, ha, rfl⟩ := Option.map_eq_some_iff.mp hx
      have jl := (List.getElem?_eq_some_iff.mp ha).1
      obtain ⟨ts, ht⟩ : ∃ ts, hs2[j]? = some ts := ⟨hs2[j]'(by rw [← la2]; exact jl), List.getElem?_eq_getElem _⟩
      have t8 := bnd2 j ts ht
      obtain ⟨acc, ea, ga⟩ := (tls28 j a ts ha ht).same s9
      have la := tupG_len ga
      refine ⟨rfl, .ref a, rfl, wv b, rfl, wv i', rfl, (by show 3 ≤ sizeLine; decide), fun p1 n1 => ⟨(by show 1 ≤ sizeLine; decide), fun o no => ?_⟩⟩
      have fs : (V.str "." : V) = .str (tx [false]) := by rw [show ("." : Str) = tx [false] by decide +kernel]
      rw [fs] at no ⊢
      have q1 := same_upd (o := .tup (t3v ((b : Int), (i' : Int), false))) n1
      have f1 : upd H9 p1 (.tup (t3v ((b : Int), (i' : Int), false))) p1 = some (.tup (t3v ((b : Int), (i' : Int), false))) := upd_same
      have et : HO.tup [wv b, wv i', V.str (tx [false])] = .tup (t3v ((b : Int), (i' : Int), false)) := rfl
      rw [et] at no ⊢
      generalize upd H9 p1 (.tup (t3v ((b : Int), (i' : Int), false))) = J1 at q1 f1 no ⊢
      have q2 := same_upd (o := .lst [.ref p1]) no
      have f2 : upd J1 o (.lst [.ref p1]) o = some (.lst [.ref p1]) := upd_same
      refine ⟨a, o, acc, [.ref p1], rfl, rfl, q2 _ _ (q1 _ _ ea), f2, (by rw [la]; exact Nat.le_of_lt (fit' (by show ts.length + 1 ≤ _; omega))), fun l nl => ?_⟩
      have q3 := same_upd (o := .lst (acc ++ [.ref p1])) nl
      have tl3 : TL t3v (upd (upd J1 o (.lst [.ref p1])) l (.lst (acc ++ [.ref p1]))) l (ts ++ [((b : Int), (i' : Int), false)]) := ⟨_, upd_same, tupG_same q3 (tupG_add (q2 _ _ f1) (tupG_same q2 (tupG_same q1 ga)))⟩
      have q13 := (q1.trans q2).trans q3
      generalize upd (upd J1 o (.lst [.ref p1])) l (.lst (acc ++ [.ref p1])) = J3 at tl3 q13
      refine ⟨l, _, rfl, tl3, fun u p' J4 pm so q4 np tlu => ?_⟩
      have q14 := q13.trans q4
      have eD4 := q14 _ _ eD
      have npD : p' ≠ DB := fun z => by rw [z, q13 _ _ eD] at np; cases np
      refine ⟨_, eD4, fit' (by rw [List.length_map]; omega), same_new nDB (s9.trans q14), as' ++ [p'], us ++ [u], ?_, ?_, ?_, ?_, ?_, ?_⟩
      · rw [upd_same, List.map_append]
        rfl
      · rw [List.length_append, l1]; rfl
      · rw [List.length_append, l2]; rfl
      · intro k a2 u2 ha2 hu2
        rcases Nat.lt_or_ge k j with z | z
        · rw [List.getElem?_append_left (by omega)] at ha2 hu2
          exact tl_put eD4 (h3 a2 (List.mem_of_getElem? ha2)).2 ((h1 k a2 u2 ha2 hu2).same q14)
        · have zz : k = j := by
            have := (List.getElem?_eq_some_iff.mp ha2).1
            rw [List.length_append, List.length_singleton] at this
            omega
          subst zz
          rw [List.getElem?_append_right (by omega), l1, Nat.sub_self] at ha2
          rw [List.getElem?_append_right (by omega), l2, Nat.sub_self] at hu2
          cases ha2
          cases hu2
          exact tl_put eD4 npD tlu
      · intro k u2 hu2
        rcases Nat.lt_or_ge k j with z | z
        · rw [List.getElem?_append_left (by omega)] at hu2
          exact h2 k u2 hu2
        · have zz : k = j := by
            have := (List.getElem?_eq_some_iff.mp hu2).1
            rw [List.length_append, List.length_singleton] at this
            omega
          subst zz
          rw [List.getElem?_append_right (by omega), l2, Nat.sub_self] at hu2
          cases hu2
          exact ⟨ts, ht, pm, so⟩
      · intro a2 ha2
        rcases List.mem_append.mp ha2 with ha2 | ha2
        · exact h3 a2 ha2
        · rw [List.mem_singleton.mp ha2]
          exact ⟨(s9.trans q13).free np, npD⟩
    rintro H9 ⟨s9, as2', us2, eDB, m1, m2, m3, m4, m5⟩
    rw [List.length_map] at m1 m2
    have eDA9 := s9 _ _ eDA
    refine ⟨DA, DB, _, _, rfl, rfl, eDA9, eDB, (by rw [List.length_map, List.length_map]; exact Nat.le_of_lt (fit' (by omega))), fun pz npz => ?_⟩
    rw [← List.map_append]
    have sz9 := same_upd (o := .lst ((as1' ++ as2').map V.ref)) npz
    have s19 := (s17.trans s8).trans s9
    have M1 : More (HopH.c3 (b, i', true)) hs1 us1 := ⟨by rw [kb, la1], kd⟩
    have M2 : More (HopH.c3 (b, i', false)) hs2 us2 := ⟨by rw [m2, la2], m4⟩
    refine q _ pz (us1 ++ us2) (s19.trans sz9) (s19.free npz) ⟨as1' ++ as2', upd_same, by rw [List.length_append, List.length_append, ka, kb, m1, m2], fun j a ts ha ht => ?_, fun a ha => ?_⟩ (by rw [all_free]; exact ah_app (more_ah AH1 M1) (more_ah AH2 M2))
    · rcases Nat.lt_or_ge j as1'.length with z | z
      · rw [List.getElem?_append_left z] at ha
        rw [List.getElem?_append_left (by omega)] at ht
        exact ((kc j a ts ha ht).same s9).same sz9
      · rw [List.getElem?_append_right z] at ha
        rw [List.getElem?_append_right (by omega), show j - us1.length = j - as1'.length by omega] at ht
        exact (m3 _ a ts ha ht).same sz9
    · have nn : ∀ {Hx : Hp} {ts : List I3}, TL t3v Hx a ts → Same Hx H9 → a ≠ pz := fun {Hx ts} tl sx z => by
        obtain ⟨acc, e, _⟩ := tl
        have := sx _ _ e
        rw [z, npz] at this
        cases this
      rcases List.mem_append.mp ha with ha | ha
      · obtain ⟨j, hj⟩ := List.mem_iff_getElem?.mp ha
        have jl := (List.getElem?_eq_some_iff.mp hj).1
        obtain ⟨ts, ht⟩ : ∃ ts, us1[j]? = some ts := ⟨us1[j]'(by omega), List.getElem?_eq_getElem _⟩
        exact ⟨s17.free (kf a ha).1, nn (kc j a ts hj ht) s9⟩
      · obtain ⟨j, hj⟩ := List.mem_iff_getElem?.mp ha
        have jl := (List.getElem?_eq_some_iff.mp hj).1
        obtain ⟨ts, ht⟩ : ∃ ts, us2[j]? = some ts := ⟨us2[j]'(by omega), List.getElem?_eq_getElem _⟩
        exact ⟨(s17.trans s8).free (m5 a ha).1, nn (m3 j a ts hj ht) (Same.refl _)⟩
end
end Hop

set_option Elab.async false
set_option linter.all false
set_option maxRecDepth 100000
namespace HopR
open PySem PySem.Spec PyProof PyProof.Rows L2
section
variable {X : Cx}
/-- how often a truth stands in a list of truths -/
def isB (k : Bool) : Value → Bool
  | .bool b => b == k
  | _ => false
theorem bl_vals : ∀ {bs : List Bool} {its : List Value}, Vals (bs.map V.bl) its → (∀ y ∈ its, ∃ b, y = .bool b) ∧ ∀ k, its.countP (isB k) = bs.count k
  | [], _, h => by cases h; exact ⟨fun y m => by simp at m, fun k => rfl⟩
  | b :: bs, _, h => by
    cases h with
    | cons r h =>
      cases r
      obtain ⟨h1, h2⟩ := bl_vals h
      refine ⟨fun y m => ?_, fun k => ?_⟩
      · rcases List.mem_cons.mp m with rfl | m
        · exact ⟨b, rfl⟩
        · exact h1 y m
      · rw [List.countP_cons, List.count_cons, h2 k]
        rfl
def rCntB (K : PySem.W.Frag) : V → List V → Hp → VK → Prop := fun x xs H Q => ∃ (p : Addr) (bs : List Bool) (k : Bool), x = .ref p ∧ xs = [.bl k] ∧ SqL K H p (bs.map V.bl) ∧ Q (.int ((bs.count k : Nat) : Int)) H
theorem mt_countB : MtR X "list.count" (rCntB X.K) := by
  intro pins s σ H x xs v us Q I rx rxs h
  obtain ⟨p, bs, k, rfl, rfl, hs, q⟩ := h
  cases rx
  obtain ⟨u, rfl, ru⟩ := rxs.one
  cases ru
  obtain ⟨its, rv, ⟨⟨cls, dd, data, sl⟩, n, ho, hc, hdn, hd⟩, hlen⟩ := I.list hs
  simp only at hc hd
  subst hc hd
  obtain ⟨b1, b2⟩ := bl_vals rv
  have eqs : ∀ y ∈ its.toArray, SeqAt.EqAt X.A.in1 s y (.bool k) (isB k y) := fun y hy => by
    obtain ⟨b, rfl⟩ := b1 y (by simpa using hy)
    exact eqAt_V (y := .bl b) (x := .bl k) rfl rfl rfl rfl
  refine call_meets PySem.F.slot_list_count ⟨_, ho, rfl⟩ PySem.F.entry_list_count (PySem.F.args_list_count_2 _ _) (SeqAt.list_countAt p its.toArray n dd sl (.bool k) (isB k)) ⟨ho, eqs, ?_⟩
  refine ⟨.int ((bs.count k : Nat) : Int), H, I.tok _, ⟨s.toks, ?_⟩, q⟩
  show Value.int ((its.toArray.toList.countP (isB k) : Nat) : Int) s.toks = Value.int ((bs.count k : Nat) : Int) s.toks
  rw [show its.toArray.toList = its from by simp, b2 k]
end
end HopR

set_option Elab.async false
set_option linter.all false
set_option maxRecDepth 100000
set_option exponentiation.threshold 200000
namespace Hop
open PySem L2 HopR HopT HopH
/-! ### _law_kind -/
inductive Knd where
  | num | heap | many | row
  deriving DecidableEq
def Knd.ix : Knd → Nat
  | .num => 0
  | .heap => 1
  | .many => 2
  | .row => 3
def clk (NR NH NN TM : Addr) : Knd → Addr
  | .num => NN
  | .heap => NH
  | .many => TM
  | .row => NR
structure EvK (K : PySem.W.Frag) (mg : Str → Option Value) (HE NR NH NN TM : Addr) : Prop where
  V : Ev K mg NR NH NN TM
  gHE : mg "HopError" = some (.ref HE)
  m : ∀ a : Knd, PySem.W.exmOne K (.ref (clk NR NH NN TM a)) (.ref HE) = some true
  kit : ∀ a b : Knd, PySem.W.kitOne K (.ref (clk NR NH NN TM a)) (.ref (clk NR NH NN TM b)) = some (decide (a = b))
theorem EvK.xc {K : PySem.W.Frag} {mg : Str → Option Value} {HE NR NH NN TM : Addr} (Z : EvK K mg HE NR NH NN TM) (a : Knd) : Xc K (clk NR NH NN TM a) bmV "ValueError.__new__" := by
  cases a
  · exact Z.V.N
  · exact Z.V.H
  · exact Z.V.M
  · exact Z.V.R
def ksL (a : Knd) : List Bool := [decide (a = .num), decide (a = .heap), decide (a = .many), decide (a = .row)]
theorem ks_count (a : Knd) : (ksL a).count true = 1 := by cases a <;> rfl
theorem ks_ix (a : Knd) : ((ksL a).map V.bl)[a.ix]? = some (.bl true) := by cases a <;> rfl
theorem ks_first (a : Knd) (m : Nat) (z : V) (h : m < a.ix) (e : ((ksL a).map V.bl)[m]? = some z) : eqV z (.bl true) = false := by
  cases a with
  | num => exact absurd h (by simp [Knd.ix])
  | heap =>
    have h : m < 1 := h
    obtain rfl : m = 0 := by omega
    cases e
    rfl
  | many =>
    have h : m < 2 := h
    obtain rfl | rfl : m = 0 ∨ m = 1 := by omega
    · cases e; rfl
    · cases e; rfl
  | row =>
    have h : m < 3 := h
    obtain rfl | rfl | rfl : m = 0 ∨ m = 1 ∨ m = 2 := by omega
    · cases e; rfl
    · cases e; rfl
    · cases e; rfl
section
variable {P : Program} {w : World} {K : PySem.W.Frag} {mg : Str → Option Value} {base : Heap} {C d : Addr} {es : Array DictEntry} {n : Nat}
variable {HE NR NH NN TM : Addr}
/-- which door refuses what, and how -/
def RefK (K : PySem.W.Frag) (H : Hp) (dr : Int) (x y : V) (a : Knd) : Prop :=
  ((dr = 0 ∨ dr = 1 ∨ dr = 2 ∨ dr = 3) ∧ RowB K H x false ∧ a = .row) ∨ (dr = 0 ∧ (∃ bs, x = .str (tx bs) ∧ Row bs ∧ BadN K H bs y) ∧ a = .num) ∨
  (dr = 1 ∧ (∃ bs, x = .str (tx bs) ∧ Row bs ∧ HeapB K bs H y false) ∧ a = .heap) ∨ (dr = 2 ∧ (∃ bs, x = .str (tx bs) ∧ Row bs ∧ 500 < HopW.gn bs 0) ∧ a = .many)
def spKind (K : PySem.W.Frag) : Sp := fun vs H Q _ => ∃ (dr : Int) (x y : V) (a : Knd), vs = [.int dr, x, y] ∧ RefK K H dr x y a ∧ ∀ H', Same H H' → Q (wv a.ix) H'
abbrev nKi : List Str := ["_law_door", "_law_row_here", "_law_thing", "_law_error", "e", "_law_kinds"]
theorem scKind : FnScope nKi ["_law_door", "_law_row_here", "_law_thing"] (defScope sLKind) := ⟨rfl, rfl, rfl, by decide +kernel, rfl, by decide +kernel, by decide +kernel⟩
structure DoDefs (K : PySem.W.Frag) (mg : Str → Option Value) : Prop where
  C : CoDefs K mg
  Q : HqDefs K mg
  h : ∃ r s, Fn K mg "need_heap" sNeedHeap ["row", "thing"] r s
  at_ : ∃ r s, Fn K mg "heap_at" sHeapAt ["row", "number"] r s
  nu : ∃ r s, Fn K mg "heap_number" sHeapNum ["row", "heap"] r s
  of : ∃ r s, Fn K mg "heaps_of" sHeapsOf ["row"] r s
  ma : ∃ r s, Fn K mg "heaps_many" sHeaps ["row"] r s
set_option maxHeartbeats 8000000 in
theorem ok_kind {f : Addr} {fd : FuncData} {k : Nat} (F : Fun K "_law_kind" "_law_kind" sLKind f fd) (N : DoDefs K mg) (TP : TxtP K mg C) (T : TxtR K w mg d es n) (TH : TxtH mg) (T0 : TxtS mg) (TM5 : TxtM mg) (ke : keysAre es) (Z : EvK K mg HE NR NH NN TM) :
    FnOk P w K mg base CX0 (k + 8) f fd ["_law_door", "_law_row_here", "_law_thing"] (spKind K) := by
  obtain ⟨r1, s1, N1⟩ := N.at_
  obtain ⟨r2, s2, N2⟩ := N.nu
  obtain ⟨r3, s3, N3⟩ := N.of
  obtain ⟨r4, s4, N4⟩ := N.ma
  have G1 : FnOk P w K mg base (L2.CX P w) (k + 7) r1 s1 ["row", "number"] (spNoAt K NR NN) := ok_noat N1.F N.C TP T TH T0 ke Z.V
  have G2 : FnOk P w K mg base (L2.CX P w) (k + 7) r2 s2 ["row", "heap"] (spNoHp K NR NH) := ok_nonumrow N2.F N.h N.Q TP T TH ke Z.V
  have G3 : FnOk P w K mg base (L2.CX P w) (k + 7) r3 s3 ["row"] (spNoMany K NR TM) := ok_nomany N3.F N.C TP T TH T0 TM5 ke Z.V
  have G4 : FnOk P w K mg base (L2.CX P w) (k + 7) r4 s4 ["row"] (spNoRow K NR) := ok_nomanyrow N4.F N.C T ke Z.V
  refine F.ok scKind (fun vs H Q E h => ?_) (fun cdv A outer s H vs Q E hr h => ?_)
  · obtain ⟨dr, x, y, a, rfl, _⟩ := h
    rfl
  · obtain ⟨dr, x, y, a, rfl, hk, q⟩ := h
    have nd := scKind.nd
    refine ⟨_, pss_cons (ps_set (i := 3) nd rfl (.inl rfl) pe_non)
      (pss_cons (ps_try_held (i := 4) (j := 3) rfl rfl nd rfl rfl rfl rfl rfl (tests_one ⟨rfl, by decide, .inl Z.gHE⟩)
          (fun W1 pn xe tk _ => pss_one (ps_if (pt_cmpR op_eq (pv 0) pe_int (nomark _))
            (pss_one (ps_expr (pe_callS G1 hr (by rfl) N1.g N1.F.kp N1.b (fun σ => passAt tk σ) (pa_cons (pv 1) (pa_cons (pv 2) pa_nil)))))
            (pss_one (ps_if (pt_cmpR op_eq (pv 0) pe_int (nomark _))
              (pss_one (ps_expr (pe_callS G2 hr (by rfl) N2.g N2.F.kp N2.b (fun σ => passAt tk σ) (pa_cons (pv 1) (pa_cons (pv 2) pa_nil)))))
              (pss_one (ps_if (pt_cmpR op_eq (pv 0) pe_int (nomark _))
                (pss_one (ps_expr (pe_callS G3 hr (by rfl) N3.g N3.F.kp N3.b (fun σ => passAt tk σ) (pa_cons (pv 1) pa_nil))))
                (pss_one (ps_expr (pe_callS G4 hr (by rfl) N4.g N4.F.kp N4.b (fun σ => passAt tk σ) (pa_cons (pv 1) pa_nil))))))))))
          (fun a oe pn => pss_one (ps_set (i := 3) nd rfl (.inl rfl) (pv 4))))
      (pss_cons (ps_set (i := 5) nd rfl (.inl rfl) (pe_lst (pa_cons (pe_callB call_isH (by rfl) T.isi (by decide +kernel) (pa_cons (pv 3) (pa_cons (pe_glob (v := .ref NN) (by rfl) Z.V.gNN rfl) pa_nil))) (pa_cons (pe_callB call_isH (by rfl) T.isi (by decide +kernel) (pa_cons (pv 3) (pa_cons (pe_glob (v := .ref NH) (by rfl) Z.V.gNH rfl) pa_nil))) (pa_cons (pe_callB call_isH (by rfl) T.isi (by decide +kernel) (pa_cons (pv 3) (pa_cons (pe_glob (v := .ref TM) (by rfl) Z.V.gTM rfl) pa_nil))) pa_nil)))))
      (pss_cons (ps_expr (pe_bm PySem.F.plainAttrs_list PySem.F.slot_list_append PySem.F.type_list_append mt_append (pv 5) (pa_cons (pe_callB call_isH (by rfl) T.isi (by decide +kernel) (pa_cons (pv 3) (pa_cons (pe_glob (v := .ref NR) (by rfl) Z.V.gNR rfl) pa_nil))) pa_nil)))
      (pss_one (ps_ret (pe_ifExp (pt_cmpR op_eq (pe_bm PySem.F.plainAttrs_list PySem.F.slot_list_count PySem.F.type_list_count mt_countB (pv 5) (pa_cons pe_bl pa_nil)) pe_int (nomark _)) (pe_bm PySem.F.plainAttrs_list PySem.F.slot_list_index PySem.F.type_list_index mt_index (pv 5) (pa_cons pe_bl pa_nil)) (pe_un un_neg pe_int))))))), ?_⟩
    refine ⟨.int dr, rfl, rfl, _, rfl, ?_⟩
    rcases hk with ⟨hd, hx, rfl⟩ | ⟨rfl, ⟨bs, rfl, hR, hb⟩, rfl⟩ | ⟨rfl, ⟨bs, rfl, hR, hb⟩, rfl⟩ | ⟨rfl, ⟨bs, rfl, hR, hb⟩, rfl⟩
    · rcases hd with rfl | rfl | rfl | rfl
      · refine iteT ⟨x, rfl, y, rfl, x, y, rfl, .inl ⟨hx, fun H1 s1 => ⟨Z.m .row, fun ea na => ?_⟩⟩⟩
        have sA : Same H (upd H1 ea (ExH (.ref NR) none ea)) := same_new (s1.free na) s1
        have eA : upd H1 ea (ExH (.ref NR) none ea) ea = some (ExH (.ref NR) none ea) := upd_same
        generalize upd H1 ea (ExH (.ref NR) none ea) = H2 at sA eA
        have kit := Z.kit .row
        have xc := (Z.xc .row).c
        refine ⟨.ref ea, rfl, ea, NR, .ref NN, .ref NN, decide (Knd.row = .num), rfl, eA, xc, .own _, kit .num, .ref ea, rfl, ea, NR, .ref NH, .ref NH, decide (Knd.row = .heap), rfl, eA, xc, .own _, kit .heap, .ref ea, rfl, ea, NR, .ref TM, .ref TM, decide (Knd.row = .many), rfl, eA, xc, .own _, kit .many, (by show 3 ≤ sizeLine; decide), fun l nl => ?_⟩
        have t1 := same_upd (o := .lst [.bl (decide (Knd.row = .num)), .bl (decide (Knd.row = .heap)), .bl (decide (Knd.row = .many))]) nl
        have e1 : upd H2 l (.lst [.bl (decide (Knd.row = .num)), .bl (decide (Knd.row = .heap)), .bl (decide (Knd.row = .many))]) l = some (.lst [.bl (decide (Knd.row = .num)), .bl (decide (Knd.row = .heap)), .bl (decide (Knd.row = .many))]) := upd_same
        have nl0 := sA.free nl
        generalize upd H2 l (.lst [.bl (decide (Knd.row = .num)), .bl (decide (Knd.row = .heap)), .bl (decide (Knd.row = .many))]) = H3 at t1 e1
        refine ⟨.ref l, rfl, .inl ⟨rfl, _, SqL.of e1⟩, .ref ea, rfl, ea, NR, .ref NR, .ref NR, decide (Knd.row = .row), rfl, t1 _ _ eA, xc, .own _, kit .row, l, _, _, rfl, rfl, e1, (by show 3 < sizeLine; decide), ?_⟩
        have e4 : upd H3 l (.lst ([.bl (decide (Knd.row = .num)), .bl (decide (Knd.row = .heap)), .bl (decide (Knd.row = .many))] ++ [.bl (decide (Knd.row = .row))])) l = some (.lst ((ksL .row).map V.bl)) := upd_same
        have s4' := same_new (o := .lst ([.bl (decide (Knd.row = .num)), .bl (decide (Knd.row = .heap)), .bl (decide (Knd.row = .many))] ++ [.bl (decide (Knd.row = .row))])) nl0 (sA.trans t1)
        generalize upd H3 l (.lst ([.bl (decide (Knd.row = .num)), .bl (decide (Knd.row = .heap)), .bl (decide (Knd.row = .many))] ++ [.bl (decide (Knd.row = .row))])) = H4 at e4 s4'
        refine ⟨.ref l, rfl, .inl ⟨rfl, _, SqL.of e4⟩, l, ksL .row, true, rfl, rfl, SqL.of e4, rfl, _, rfl, ?_⟩
        rw [ks_count]
        exact iteT ⟨.ref l, rfl, .inl ⟨rfl, _, SqL.of e4⟩, l, _, .bl true, Knd.ix .row, .bl true, rfl, rfl, SqL.of e4, rfl, rfl, ks_ix .row, rfl, ks_first .row, q H4 s4'⟩
      · refine iteF ⟨.int 1, rfl, rfl, _, rfl, iteT ⟨x, rfl, y, rfl, x, y, rfl, .inl ⟨hx, fun H1 s1 => ⟨Z.m .row, fun ea na => ?_⟩⟩⟩⟩
        have sA : Same H (upd H1 ea (ExH (.ref NR) none ea)) := same_new (s1.free na) s1
        have eA : upd H1 ea (ExH (.ref NR) none ea) ea = some (ExH (.ref NR) none ea) := upd_same
        generalize upd H1 ea (ExH (.ref NR) none ea) = H2 at sA eA
        have kit := Z.kit .row
        have xc := (Z.xc .row).c
        refine ⟨.ref ea, rfl, ea, NR, .ref NN, .ref NN, decide (Knd.row = .num), rfl, eA, xc, .own _, kit .num, .ref ea, rfl, ea, NR, .ref NH, .ref NH, decide (Knd.row = .heap), rfl, eA, xc, .own _, kit .heap, .ref ea, rfl, ea, NR, .ref TM, .ref TM, decide (Knd.row = .many), rfl, eA, xc, .own _, kit .many, (by show 3 ≤ sizeLine; decide), fun l nl => ?_⟩
        have t1 := same_upd (o := .lst [.bl (decide (Knd.row = .num)), .bl (decide (Knd.row = .heap)), .bl (decide (Knd.row = .many))]) nl
        have e1 : upd H2 l (.lst [.bl (decide (Knd.row = .num)), .bl (decide (Knd.row = .heap)), .bl (decide (Knd.row = .many))]) l = some (.lst [.bl (decide (Knd.row = .num)), .bl (decide (Knd.row = .heap)), .bl (decide (Knd.row = .many))]) := upd_same
        have nl0 := sA.free nl
        generalize upd H2 l (.lst [.bl (decide (Knd.row = .num)), .bl (decide (Knd.row = .heap)), .bl (decide (Knd.row = .many))]) = H3 at t1 e1
        refine ⟨.ref l, rfl, .inl ⟨rfl, _, SqL.of e1⟩, .ref ea, rfl, ea, NR, .ref NR, .ref NR, decide (Knd.row = .row), rfl, t1 _ _ eA, xc, .own _, kit .row, l, _, _, rfl, rfl, e1, (by show 3 < sizeLine; decide), ?_⟩
        have e4 : upd H3 l (.lst ([.bl (decide (Knd.row = .num)), .bl (decide (Knd.row = .heap)), .bl (decide (Knd.row = .many))] ++ [.bl (decide (Knd.row = .row))])) l = some (.lst ((ksL .row).map V.bl)) := upd_same
        have s4' := same_new (o := .lst ([.bl (decide (Knd.row = .num)), .bl (decide (Knd.row = .heap)), .bl (decide (Knd.row = .many))] ++ [.bl (decide (Knd.row = .row))])) nl0 (sA.trans t1)
        generalize upd H3 l (.lst ([.bl (decide (Knd.row = .num)), .bl (decide (Knd.row = .heap)), .bl (decide (Knd.row = .many))] ++ [.bl (decide (Knd.row = .row))])) = H4 at e4 s4'
        refine ⟨.ref l, rfl, .inl ⟨rfl, _, SqL.of e4⟩, l, ksL .row, true, rfl, rfl, SqL.of e4, rfl, _, rfl, ?_⟩
        rw [ks_count]
        exact iteT ⟨.ref l, rfl, .inl ⟨rfl, _, SqL.of e4⟩, l, _, .bl true, Knd.ix .row, .bl true, rfl, rfl, SqL.of e4, rfl, rfl, ks_ix .row, rfl, ks_first .row, q H4 s4'⟩
      · refine iteF ⟨.int 2, rfl, rfl, _, rfl, iteF ⟨.int 2, rfl, rfl, _, rfl, iteT ⟨x, rfl, x, rfl, .inl ⟨hx, fun H1 s1 => ⟨Z.m .row, fun ea na => ?_⟩⟩⟩⟩⟩
        have sA : Same H (upd H1 ea (ExH (.ref NR) none ea)) := same_new (s1.free na) s1
        have eA : upd H1 ea (ExH (.ref NR) none ea) ea = some (ExH (.ref NR) none ea) := upd_same
        generalize upd H1 ea (ExH (.ref NR) none ea) = H2 at sA eA
        have kit := Z.kit .row
        have xc := (Z.xc .row).c
        refine ⟨.ref ea, rfl, ea, NR, .ref NN, .ref NN, decide (Knd.row = .num), rfl, eA, xc, .own _, kit .num, .ref ea, rfl, ea, NR, .ref NH, .ref NH, decide (Knd.row = .heap), rfl, eA, xc, .own _, kit .heap, .ref ea, rfl, ea, NR, .ref TM, .ref TM, decide (Knd.row = .many), rfl, eA, xc, .own _, kit .many, (by show 3 ≤ sizeLine; decide), fun l nl => ?_⟩
        have t1 := same_upd (o := .lst [.bl (decide (Knd.row = .num)), .bl (decide (Knd.row = .heap)), .bl (decide (Knd.row = .many))]) nl
        have e1 : upd H2 l (.lst [.bl (decide (Knd.row = .num)), .bl (decide (Knd.row = .heap)), .bl (decide (Knd.row = .many))]) l = some (.lst [.bl (decide (Knd.row = .num)), .bl (decide (Knd.row = .heap)), .bl (decide (Knd.row = .many))]) := upd_same
        have nl0 := sA.free nl
        generalize upd H2 l (.lst [.bl (decide (Knd.row = .num)), .bl (decide (Knd.row = .heap)), .bl (decide (Knd.row = .many))]) = H3 at t1 e1
        refine ⟨.ref l, rfl, .inl ⟨rfl, _, SqL.of e1⟩, .ref ea, rfl, ea, NR, .ref NR, .ref NR, decide (Knd.row = .row), rfl, t1 _ _ eA, xc, .own _, kit .row, l, _, _, rfl, rfl, e1, (by show 3 < sizeLine; decide), ?_⟩
        have e4 : upd H3 l (.lst ([.bl (decide (Knd.row = .num)), .bl (decide (Knd.row = .heap)), .bl (decide (Knd.row = .many))] ++ [.bl (decide (Knd.row = .row))])) l = some (.lst ((ksL .row).map V.bl)) := upd_same
        have s4' := same_new (o := .lst ([.bl (decide (Knd.row = .num)), .bl (decide (Knd.row = .heap)), .bl (decide (Knd.row = .many))] ++ [.bl (decide (Knd.row = .row))])) nl0 (sA.trans t1)
        generalize upd H3 l (.lst ([.bl (decide (Knd.row = .num)), .bl (decide (Knd.row = .heap)), .bl (decide (Knd.row = .many))] ++ [.bl (decide (Knd.row = .row))])) = H4 at e4 s4'
        refine ⟨.ref l, rfl, .inl ⟨rfl, _, SqL.of e4⟩, l, ksL .row, true, rfl, rfl, SqL.of e4, rfl, _, rfl, ?_⟩
        rw [ks_count]
        exact iteT ⟨.ref l, rfl, .inl ⟨rfl, _, SqL.of e4⟩, l, _, .bl true, Knd.ix .row, .bl true, rfl, rfl, SqL.of e4, rfl, rfl, ks_ix .row, rfl, ks_first .row, q H4 s4'⟩
      · refine iteF ⟨.int 3, rfl, rfl, _, rfl, iteF ⟨.int 3, rfl, rfl, _, rfl, iteF ⟨x, rfl, x, rfl, hx, fun H1 s1 => ⟨Z.m .row, fun ea na => ?_⟩⟩⟩⟩
        have sA : Same H (upd H1 ea (ExH (.ref NR) none ea)) := same_new (s1.free na) s1
        have eA : upd H1 ea (ExH (.ref NR) none ea) ea = some (ExH (.ref NR) none ea) := upd_same
        generalize upd H1 ea (ExH (.ref NR) none ea) = H2 at sA eA
        have kit := Z.kit .row
        have xc := (Z.xc .row).c
        refine ⟨.ref ea, rfl, ea, NR, .ref NN, .ref NN, decide (Knd.row = .num), rfl, eA, xc, .own _, kit .num, .ref ea, rfl, ea, NR, .ref NH, .ref NH, decide (Knd.row = .heap), rfl, eA, xc, .own _, kit .heap, .ref ea, rfl, ea, NR, .ref TM, .ref TM, decide (Knd.row = .many), rfl, eA, xc, .own _, kit .many, (by show 3 ≤ sizeLine; decide), fun l nl => ?_⟩
        have t1 := same_upd (o := .lst [.bl (decide (Knd.row = .num)), .bl (decide (Knd.row = .heap)), .bl (decide (Knd.row = .many))]) nl
        have e1 : upd H2 l (.lst [.bl (decide (Knd.row = .num)), .bl (decide (Knd.row = .heap)), .bl (decide (Knd.row = .many))]) l = some (.lst [.bl (decide (Knd.row = .num)), .bl (decide (Knd.row = .heap)), .bl (decide (Knd.row = .many))]) := upd_same
        have nl0 := sA.free nl
        generalize upd H2 l (.lst [.bl (decide (Knd.row = .num)), .bl (decide (Knd.row = .heap)), .bl (decide (Knd.row = .many))]) = H3 at t1 e1
        refine ⟨.ref l, rfl, .inl ⟨rfl, _, SqL.of e1⟩, .ref ea, rfl, ea, NR, .ref NR, .ref NR, decide (Knd.row = .row), rfl, t1 _ _ eA, xc, .own _, kit .row, l, _, _, rfl, rfl, e1, (by show 3 < sizeLine; decide), ?_⟩
        have e4 : upd H3 l (.lst ([.bl (decide (Knd.row = .num)), .bl (decide (Knd.row = .heap)), .bl (decide (Knd.row = .many))] ++ [.bl (decide (Knd.row = .row))])) l = some (.lst ((ksL .row).map V.bl)) := upd_same
        have s4' := same_new (o := .lst ([.bl (decide (Knd.row = .num)), .bl (decide (Knd.row = .heap)), .bl (decide (Knd.row = .many))] ++ [.bl (decide (Knd.row = .row))])) nl0 (sA.trans t1)
        generalize upd H3 l (.lst ([.bl (decide (Knd.row = .num)), .bl (decide (Knd.row = .heap)), .bl (decide (Knd.row = .many))] ++ [.bl (decide (Knd.row = .row))])) = H4 at e4 s4'
        refine ⟨.ref l, rfl, .inl ⟨rfl, _, SqL.of e4⟩, l, ksL .row, true, rfl, rfl, SqL.of e4, rfl, _, rfl, ?_⟩
        rw [ks_count]
        exact iteT ⟨.ref l, rfl, .inl ⟨rfl, _, SqL.of e4⟩, l, _, .bl true, Knd.ix .row, .bl true, rfl, rfl, SqL.of e4, rfl, rfl, ks_ix .row, rfl, ks_first .row, q H4 s4'⟩
    · refine iteT ⟨.str (tx bs), rfl, y, rfl, .str (tx bs), y, rfl, .inr ⟨bs, rfl, hR, hb, fun H1 s1 => ⟨Z.m .num, fun ea na => ?_⟩⟩⟩
      have sA : Same H (upd H1 ea (ExH (.ref NN) none ea)) := same_new (s1.free na) s1
      have eA : upd H1 ea (ExH (.ref NN) none ea) ea = some (ExH (.ref NN) none ea) := upd_same
      generalize upd H1 ea (ExH (.ref NN) none ea) = H2 at sA eA
      have kit := Z.kit .num
      have xc := (Z.xc .num).c
      refine ⟨.ref ea, rfl, ea, NN, .ref NN, .ref NN, decide (Knd.num = .num), rfl, eA, xc, .own _, kit .num, .ref ea, rfl, ea, NN, .ref NH, .ref NH, decide (Knd.num = .heap), rfl, eA, xc, .own _, kit .heap, .ref ea, rfl, ea, NN, .ref TM, .ref TM, decide (Knd.num = .many), rfl, eA, xc, .own _, kit .many, (by show 3 ≤ sizeLine; decide), fun l nl => ?_⟩
      have t1 := same_upd (o := .lst [.bl (decide (Knd.num = .num)), .bl (decide (Knd.num = .heap)), .bl (decide (Knd.num = .many))]) nl
      have e1 : upd H2 l (.lst [.bl (decide (Knd.num = .num)), .bl (decide (Knd.num = .heap)), .bl (decide (Knd.num = .many))]) l = some (.lst [.bl (decide (Knd.num = .num)), .bl (decide (Knd.num = .heap)), .bl (decide (Knd.num = .many))]) := upd_same
      have nl0 := sA.free nl
      generalize upd H2 l (.lst [.bl (decide (Knd.num = .num)), .bl (decide (Knd.num = .heap)), .bl (decide (Knd.num = .many))]) = H3 at t1 e1
      refine ⟨.ref l, rfl, .inl ⟨rfl, _, SqL.of e1⟩, .ref ea, rfl, ea, NN, .ref NR, .ref NR, decide (Knd.num = .row), rfl, t1 _ _ eA, xc, .own _, kit .row, l, _, _, rfl, rfl, e1, (by show 3 < sizeLine; decide), ?_⟩
      have e4 : upd H3 l (.lst ([.bl (decide (Knd.num = .num)), .bl (decide (Knd.num = .heap)), .bl (decide (Knd.num = .many))] ++ [.bl (decide (Knd.num = .row))])) l = some (.lst ((ksL .num).map V.bl)) := upd_same
      have s4' := same_new (o := .lst ([.bl (decide (Knd.num = .num)), .bl (decide (Knd.num = .heap)), .bl (decide (Knd.num = .many))] ++ [.bl (decide (Knd.num = .row))])) nl0 (sA.trans t1)
      generalize upd H3 l (.lst ([.bl (decide (Knd.num = .num)), .bl (decide (Knd.num = .heap)), .bl (decide (Knd.num = .many))] ++ [.bl (decide (Knd.num = .row))])) = H4 at e4 s4'
      refine ⟨.ref l, rfl, .inl ⟨rfl, _, SqL.of e4⟩, l, ksL .num, true, rfl, rfl, SqL.of e4, rfl, _, rfl, ?_⟩
      rw [ks_count]
      exact iteT ⟨.ref l, rfl, .inl ⟨rfl, _, SqL.of e4⟩, l, _, .bl true, Knd.ix .num, .bl true, rfl, rfl, SqL.of e4, rfl, rfl, ks_ix .num, rfl, ks_first .num, q H4 s4'⟩
    · refine iteF ⟨.int 1, rfl, rfl, _, rfl, iteT ⟨.str (tx bs), rfl, y, rfl, .str (tx bs), y, rfl, .inr ⟨bs, rfl, hR, hb, fun H1 s1 => ⟨Z.m .heap, fun ea na => ?_⟩⟩⟩⟩
      have sA : Same H (upd H1 ea (ExH (.ref NH) none ea)) := same_new (s1.free na) s1
      have eA : upd H1 ea (ExH (.ref NH) none ea) ea = some (ExH (.ref NH) none ea) := upd_same
      generalize upd H1 ea (ExH (.ref NH) none ea) = H2 at sA eA
      have kit := Z.kit .heap
      have xc := (Z.xc .heap).c
      refine ⟨.ref ea, rfl, ea, NH, .ref NN, .ref NN, decide (Knd.heap = .num), rfl, eA, xc, .own _, kit .num, .ref ea, rfl, ea, NH, .ref NH, .ref NH, decide (Knd.heap = .heap), rfl, eA, xc, .own _, kit .heap, .ref ea, rfl, ea, NH, .ref TM, .ref TM, decide (Knd.heap = .many), rfl, eA, xc, .own _, kit .many, (by show 3 ≤ sizeLine; decide), fun l nl => ?_⟩
      have t1 := same_upd (o := .lst [.bl (decide (Knd.heap = .num)), .bl (decide (Knd.heap = .heap)), .bl (decide (Knd.heap = .many))]) nl
      have e1 : upd H2 l (.lst [.bl (decide (Knd.heap = .num)), .bl (decide (Knd.heap = .heap)), .bl (decide (Knd.heap = .many))]) l = some (.lst [.bl (decide (Knd.heap = .num)), .bl (decide (Knd.heap = .heap)), .bl (decide (Knd.heap = .many))]) := upd_same
      have nl0 := sA.free nl
      generalize upd H2 l (.lst [.bl (decide (Knd.heap = .num)), .bl (decide (Knd.heap = .heap)), .bl (decide (Knd.heap = .many))]) = H3 at t1 e1
      refine ⟨.ref l, rfl, .inl ⟨rfl, _, SqL.of e1⟩, .ref ea, rfl, ea, NH, .ref NR, .ref NR, decide (Knd.heap = .row), rfl, t1 _ _ eA, xc, .own _, kit .row, l, _, _, rfl, rfl, e1, (by show 3 < sizeLine; decide), ?_⟩
      have e4 : upd H3 l (.lst ([.bl (decide (Knd.heap = .num)), .bl (decide (Knd.heap = .heap)), .bl (decide (Knd.heap = .many))] ++ [.bl (decide (Knd.heap = .row))])) l = some (.lst ((ksL .heap).map V.bl)) := upd_same
      have s4' := same_new (o := .lst ([.bl (decide (Knd.heap = .num)), .bl (decide (Knd.heap = .heap)), .bl (decide (Knd.heap = .many))] ++ [.bl (decide (Knd.heap = .row))])) nl0 (sA.trans t1)
      generalize upd H3 l (.lst ([.bl (decide (Knd.heap = .num)), .bl (decide (Knd.heap = .heap)), .bl (decide (Knd.heap = .many))] ++ [.bl (decide (Knd.heap = .row))])) = H4 at e4 s4'
      refine ⟨.ref l, rfl, .inl ⟨rfl, _, SqL.of e4⟩, l, ksL .heap, true, rfl, rfl, SqL.of e4, rfl, _, rfl, ?_⟩
      rw [ks_count]
      exact iteT ⟨.ref l, rfl, .inl ⟨rfl, _, SqL.of e4⟩, l, _, .bl true, Knd.ix .heap, .bl true, rfl, rfl, SqL.of e4, rfl, rfl, ks_ix .heap, rfl, ks_first .heap, q H4 s4'⟩
    · refine iteF ⟨.int 2, rfl, rfl, _, rfl, iteF ⟨.int 2, rfl, rfl, _, rfl, iteT ⟨.str (tx bs), rfl, .str (tx bs), rfl, .inr ⟨bs, rfl, hR, hb, fun H1 s1 => ⟨Z.m .many, fun ea na => ?_⟩⟩⟩⟩⟩
      have sA : Same H (upd H1 ea (ExH (.ref TM) none ea)) := same_new (s1.free na) s1
      have eA : upd H1 ea (ExH (.ref TM) none ea) ea = some (ExH (.ref TM) none ea) := upd_same
      generalize upd H1 ea (ExH (.ref TM) none ea) = H2 at sA eA
      have kit := Z.kit .many
      have xc := (Z.xc .many).c
      refine ⟨.ref ea, rfl, ea, TM, .ref NN, .ref NN, decide (Knd.many = .num), rfl, eA, xc, .own _, kit .num, .ref ea, rfl, ea, TM, .ref NH, .ref NH, decide (Knd.many = .heap), rfl, eA, xc, .own _, kit .heap, .ref ea, rfl, ea, TM, .ref TM, .ref TM, decide (Knd.many = .many), rfl, eA, xc, .own _, kit .many, (by show 3 ≤ sizeLine; decide), fun l nl => ?_⟩
      have t1 := same_upd (o := .lst [.bl (decide (Knd.many = .num)), .bl (decide (Knd.many = .heap)), .bl (decide (Knd.many = .many))]) nl
      have e1 : upd H2 l (.lst [.bl (decide (Knd.many = .num)), .bl (decide (Knd.many = .heap)), .bl (decide (Knd.many = .many))]) l = some (.lst [.bl (decide (Knd.many = .num)), .bl (decide (Knd.many = .heap)), .bl (decide (Knd.many = .many))]) := upd_same
      have nl0 := sA.free nl
      generalize upd H2 l (.lst [.bl (decide (Knd.many = .num)), .bl (decide (Knd.many = .heap)), .bl (decide (Knd.many = .many))]) = H3 at t1 e1
      refine ⟨.ref l, rfl, .inl ⟨rfl, _, SqL.of e1⟩, .ref ea, rfl, ea, TM, .ref NR, .ref NR, decide (Knd.many = .row), rfl, t1 _ _ eA, xc, .own _, kit .row, l, _, _, rfl, rfl, e1, (by show 3 < sizeLine; decide), ?_⟩
      have e4 : upd H3 l (.lst ([.bl (decide (Knd.many = .num)), .bl (decide (Knd.many = .heap)), .bl (decide (Knd.many = .many))] ++ [.bl (decide (Knd.many = .row))])) l = some (.lst ((ksL .many).map V.bl)) := upd_same
      have s4' := same_new (o := .lst ([.bl (decide (Knd.many = .num)), .bl (decide (Knd.many = .heap)), .bl (decide (Knd.many = .many))] ++ [.bl (decide (Knd.many = .row))])) nl0 (sA.trans t1)
      generalize upd H3 l (.lst ([.bl (decide (Knd.many = .num)), .bl (decide (Knd.many = .heap)), .bl (decide (Knd.many = .many))] ++ [.bl (decide (Knd.many = .row))])) = H4 at e4 s4'
      refine ⟨.ref l, rfl, .inl ⟨rfl, _, SqL.of e4⟩, l, ksL .many, true, rfl, rfl, SqL.of e4, rfl, _, rfl, ?_⟩
      rw [ks_count]
      exact iteT ⟨.ref l, rfl, .inl ⟨rfl, _, SqL.of e4⟩, l, _, .bl true, Knd.ix .many, .bl true, rfl, rfl, SqL.of e4, rfl, rfl, ks_ix .many, rfl, ks_first .many, q H4 s4'⟩
end
end Hop

set_option Elab.async false
set_option linter.all false
set_option maxRecDepth 100000
set_option exponentiation.threshold 200000
namespace Hop
open PySem L2 HopR HopT HopH
theorem HeapL.len {bs : List Bool} {ts : List I3} (h : HeapL bs ts) (hR : Row bs) : ts.length ≤ 900 := by
  have e := of_decide_eq_true (show decide (ts.map pr3 = dueCells bs ts) = true from h.ok)
  have l := congrArg List.length e
  rw [List.length_map] at l
  rw [l]
  unfold dueCells
  rw [List.length_map]
  have h1 := List.length_filter_le (dueI ts) (cellsN bs)
  have h2 : ∀ B : List Nat, (cellsTo bs B (plsTo false bs bs.length)).length ≤ 30 * B.length := fun B => by
    induction B with
    | nil => exact Nat.le_refl _
    | cons b B ih =>
      have h1 : (((plsTo false bs bs.length).filter fun f => decide (b < f)).map fun f => (b, f)).length ≤ 30 := by
        rw [List.length_map]
        exact Nat.le_trans (List.length_filter_le _ _) (Nat.le_trans (plsTo_len _ _ _) hR.2)
      have : (cellsTo bs (b :: B) (plsTo false bs bs.length)).length = (((plsTo false bs bs.length).filter fun f => decide (b < f)).map fun f => (b, f)).length + (cellsTo bs B (plsTo false bs bs.length)).length := by
        unfold cellsTo
        rw [List.flatMap_cons, List.length_append]
      rw [this, List.length_cons]
      omega
  rw [cellsN_eq] at h1 ⊢
  have h3 := h2 (plsTo true bs bs.length)
  have h4 := plsTo_len true bs bs.length
  have := hR.2
  omega
def dH (ts : List I3) : PyData := .list (ts.map d3)
theorem okd_d3 : ∀ {ts : List I3}, (∀ e ∈ ts, e.1.natAbs < 1000000000000 ∧ e.2.1.natAbs < 1000000000000) → Okds (ts.map d3) 1 (87 * ts.length)
  | [], _ => Okds.nil
  | e :: r, h => by
    obtain ⟨h1, h2⟩ := h e (List.mem_cons_self ..)
    have t := (Okds.cons (Okd.int (k := 0) h1) (Okds.cons (Okd.int (k := 0) h2) (Okds.cons (Okd.tx (bs := [e.2.2]) (k := 0)) Okds.nil))).tuple
    have q := Okds.cons t (okd_d3 (ts := r) fun x m => h x (List.mem_cons_of_mem _ m))
    exact ⟨q.sh, q.nd, q.dp, q.ls, Nat.le_trans q.wt (by simp only [List.length_cons, List.length_nil]; omega)⟩
theorem okd_H {bs : List Bool} {ts : List I3} (hR : Row bs) (h : HeapL bs ts) : Okd (dH ts) 2 100000 := by
  have l := HeapL.len h hR
  have h30 := hR.2
  exact ((okd_d3 fun e m => by
    have := heap_in h m
    constructor <;> omega).list).mono (Nat.le_refl _) (by omega)
theorem eqv_H (ts : List I3) : PyData.eqv (dH ts) (dH ts) = true := PySem.SeqAt.eqv_refl _ (by unfold dH; simp only [PyData.canLay0, lay3])
/-! ### lists of heaps, as data -/
def dHs (hs : List (List I3)) : PyData := .list (hs.map dH)
theorem hps_of {bs : List Bool} {hs : List (List I3)} (hR : Row bs) (a : AH (AllH bs 0 []) hs) : Hps bs hs := by
  have e : (AllH bs 0 []).length = HopW.gn bs 0 := by unfold AllH; rw [List.length_map, List.length_range]; rfl
  refine ⟨by rw [a.1, e], fun j ts ht => ?_⟩
  have jl := (List.getElem?_eq_some_iff.mp ht).1
  rw [a.1, e] at jl
  have hj : (AllH bs 0 [])[j]? = some (hbF bs 0 [] j) := by
    unfold AllH
    rw [List.getElem?_map, List.getElem?_range (show j < HopW.gn bs ([] : List Nat).length from jl)]
    rfl
  obtain ⟨p, so⟩ := a.2 j ts _ ht hj
  have hb := hb_all bs j
  refine ⟨p, ⟨_, hb, p, sorted_pairs hb.nd p so, ?_⟩⟩
  rw [p.length_eq, List.length_map]
  have := hbF_len bs 0 [] j
  have := hR.2
  rw [List.length_nil] at *
  omega
theorem hps_one {bs : List Bool} {hs hs' : List (List I3)} (a : Hps bs hs) (b : Hps bs hs') : hs = hs' := by
  refine List.ext_getElem? fun j => ?_
  rcases Nat.lt_or_ge j (HopW.gn bs 0) with z | z
  · have e1 : hs[j]? = some (hs[j]'(by rw [a.1]; exact z)) := List.getElem?_eq_getElem _
    have e2 : hs'[j]? = some (hs'[j]'(by rw [b.1]; exact z)) := List.getElem?_eq_getElem _
    obtain ⟨p1, h1⟩ := a.2 j _ e1
    obtain ⟨p2, h2⟩ := b.2 j _ e2
    rw [e1, e2, HeapL.one h1 h2 (p1.trans p2.symm)]
  · rw [List.getElem?_eq_none (by rw [a.1]; exact z), List.getElem?_eq_none (by rw [b.1]; exact z)]
theorem dp_list {K : PySem.W.Frag} {H : Hp} : ∀ {as : List Addr} {hs : List (List I3)}, as.length = hs.length → (∀ (j : Nat) (a : Addr) (ts : List I3), as[j]? = some a → hs[j]? = some ts → TL t3v H a ts) → DpAll K H (as.map V.ref) (hs.map dH)
  | [], [], _, _ => .nil
  | a :: as, ts :: hs, e, h => .cons (tl_d3 (h 0 a ts rfl rfl)) (dp_list (by simpa using e) fun j a' ts' h1 h2 => h (j + 1) a' ts' h1 h2)
theorem dp_HS {K : PySem.W.Frag} {H0 H : Hp} {p : Addr} {hs : List (List I3)} (h : HS H0 H p hs) : Dp K H (.ref p) (dHs hs) := by
  obtain ⟨as, e, l, t, _⟩ := h.at_
  exact .lst (SqL.of e) (dp_list l t)
theorem HS.same {H0 H H' : Hp} {p : Addr} {hs : List (List I3)} (h : HS H0 H p hs) (s : Same H H') : HS H0 H' p hs := by
  obtain ⟨as, e, l, t, f⟩ := h.at_
  exact ⟨as, s _ _ e, l, fun j a ts h1 h2 => (t j a ts h1 h2).same s, f⟩
theorem okd_list : ∀ {hs : List (List I3)}, (∀ ts ∈ hs, Okd (dH ts) 2 697) → Okds (hs.map dH) 2 (698 * hs.length)
  | [], _ => Okds.nil
  | ts :: hs, h => by
    have q := Okds.cons (h ts (List.mem_cons_self ..)) (okd_list (hs := hs) fun x m => h x (List.mem_cons_of_mem _ m))
    exact ⟨q.sh, q.nd, q.dp, q.ls, Nat.le_trans q.wt (by simp only [List.length_cons]; omega)⟩
theorem len_small {bs : List Bool} {hs : List (List I3)} (b8 : bs.length ≤ 8) (h : Hps bs hs) : hs.length ≤ 256 ∧ ∀ ts ∈ hs, ts.length ≤ 8 := by
  refine ⟨?_, fun ts m => ?_⟩
  · rw [h.1]
    refine Nat.le_trans (gn_le bs 0) (Nat.le_trans (Nat.pow_le_pow_right (by decide) (show 0 + bs.length ≤ 8 by omega)) (by decide))
  · obtain ⟨j, hj⟩ := List.mem_iff_getElem?.mp m
    have p := (h.2 j ts hj).1
    rw [p.length_eq, List.length_map]
    have := hbF_len bs 0 [] j
    rw [List.length_nil] at this
    omega
theorem okd_small {bs : List Bool} {hs : List (List I3)} (b8 : bs.length ≤ 8) (h : Hps bs hs) : (∀ ts ∈ hs, Okd (dH ts) 2 697) ∧ Okd (dHs hs) 3 200000 := by
  obtain ⟨l1, l2⟩ := len_small b8 h
  have o : ∀ ts ∈ hs, Okd (dH ts) 2 697 := fun ts m => by
    have l8 := l2 ts m
    obtain ⟨j, hj⟩ := List.mem_iff_getElem?.mp m
    have hp := (h.2 j ts hj).2
    exact ((okd_d3 fun e me => by
      have := heap_in hp me
      constructor <;> omega).list).mono (Nat.le_refl _) (by omega)
  exact ⟨o, ((okd_list o).list).mono (Nat.le_refl _) (by omega)⟩
theorem ps_start (bs : List Bool) : PS bs (List.range bs.length) bs 0 [] [] := ⟨by rw [List.reverse_nil, List.nil_append, List.nil_append, ← List.range_eq_range'], List.drop_zero, range_lt _, fun x m => by simp at m, fun x m => by simp at m⟩
section
variable {P : Program} {w : World} {K : PySem.W.Frag} {mg : Str → Option Value} {base : Heap} {C d : Addr} {es : Array DictEntry} {n : Nat}
variable {HE NR NH NN TM : Addr}
theorem ok_alls {f : Addr} {fd : FuncData} {k : Nat} (F : Fun K "_law_all" "_law_all" sLAll f fd) (N : Fn K mg "_law_all" sLAll ["_law_row_here", "_law_letters"] f fd) (T : TxtR K w mg d es n) : ∀ m : Nat, FnOk P w K mg base CX0 (k + m + 1) f fd ["_law_row_here", "_law_letters"] (spAll K m)
  | 0 => ok_all0 F T
  | m + 1 => ok_all F N T m (ok_alls F N T m)
/-! ### _law_small -/
def spSmall : Sp := fun vs H Q _ => ∃ bs : List Bool, vs = [.str (tx bs)] ∧ Row bs ∧ bs.length ≤ 8 ∧ ∀ H', Same H H' → Q (.bl true) H'
abbrev nSm : List Str := ["_law_row_here", "_law_due", "_law_many", "_law_turn", "_law_found", "_law_number", "_law_told"]
theorem scSm : FnScope nSm ["_law_row_here"] (defScope sLSmall) := ⟨rfl, rfl, rfl, by decide +kernel, rfl, by decide +kernel, by decide +kernel⟩
set_option maxHeartbeats 8000000 in
theorem ok_small {f : Addr} {fd : FuncData} {k : Nat} (F : Fun K "_law_small" "_law_small" sLSmall f fd) (Na : ∃ r s, Fn K mg "_law_all" sLAll ["_law_row_here", "_law_letters"] r s) (Nc : ∃ r s, Fn K mg "counts_of" sCounts ["row"] r s) (N : DoDefs K mg) (TP : TxtP K mg C) (T : TxtR K w mg d es n) (TH : TxtH mg) (T0 : TxtS mg) (TM5 : TxtM mg) (ke : keysAre es) : FnOkG P w K mg base CX0 (k + 10) f fd ["_law_row_here"] spSmall := by
  obtain ⟨r0, s0, N0⟩ := Na
  obtain ⟨r1, s1, N1⟩ := N.at_
  obtain ⟨r2, s2, N2⟩ := N.nu
  obtain ⟨r3, s3, N3⟩ := N.of
  obtain ⟨r4, s4, N4⟩ := N.ma
  have G0 : FnOk P w K mg base CX0 (k + 9) r0 s0 ["_law_row_here", "_law_letters"] (spAll K 8) := ok_alls (k := k) N0.F N0 T 8
  have G1 : FnOk P w K mg base CX0 (k + 9) r1 s1 ["row", "number"] spHeapAt := ok_heapat N1.F N.C TP T TH T0
  have G2 : FnOk P w K mg base CX0 (k + 9) r2 s2 ["row", "heap"] spHeapNum := ok_heapnum N2.F N.h Nc N.Q TP T TH T0 ke
  have G3 : FnOk P w K mg base CX0 (k + 9) r3 s3 ["row"] spHeapsOf := ok_heapsof N3.F N.C TP T TH T0 TM5
  have G4 : FnOk P w K mg base CX0 (k + 9) r4 s4 ["row"] spHeaps := ok_heaps N4.F N.C.R N.C.N N.C.C T T0
  refine okG F scSm (fun vs H Q E h => ?_) (fun cdv A outer s H vs Q E hG hr h => ?_)
  · obtain ⟨bs, rfl, _⟩ := h
    rfl
  · obtain ⟨bs, rfl, hR, b8, q⟩ := h
    have nd := scSm.nd
    have hu := hu66 hr
    have wr := row_size hR
    refine ⟨_, pss_cons (ps_set (i := 1) nd rfl (.inl rfl) (pe_call G0 hr (by rfl) N0.g N0.F.kp N0.b .nil pass0 (pa_cons (pv 0) (pa_cons (pe_listRg (by rfl) (by rfl) T.list (prg_1 (by rfl) T.range (pe_callB call_len_str (by rfl) T.len PySem.boot_len (pa_cons (pv 0) pa_nil)))) pa_nil))))
      (pss_cons (ps_set (i := 2) nd rfl (.inl rfl) (pe_call G4 hr (by rfl) N4.g N4.F.kp N4.b .nil pass0 (pa_cons (pv 0) pa_nil)))
      (pss_cons (ps_if (PW.pt (pw_or (pt_val (pe_callB call_isi (by rfl) T.isi (by decide +kernel) (pa_cons (pv 2) (pa_cons (pe_bltn (v := .ty "bool") (by rfl) T.bool (by decide +kernel) rfl) pa_nil))))
          (pw_or1 (pt_cmpR op_ne (pv 2) (pe_callB call_len_seq (by rfl) T.len PySem.boot_len (pa_cons (pv 1) pa_nil)) (nomark _))))) (pss_one (ps_ret pe_bl)) pss_nil)
      (pss_cons (ps_for PassesOwn.never rfl (pi_range1 (by rfl) T.range (pa_cons pe_int pa_nil)) (pg_name (i := 3) nd rfl (.inl rfl))
        (pss_cons (ps_set (i := 4) nd rfl (.inl rfl) (pe_call G3 hr (by rfl) N3.g N3.F.kp N3.b .nil pass0 (pa_cons (pv 0) pa_nil)))
        (pss_cons (ps_if (PW.pt (pw_or (pt_not (pt_val (pe_callB call_isi (by rfl) T.isi (by decide +kernel) (pa_cons (pv 4) (pa_cons (pe_bltn (v := .ty "list") (by rfl) T.list (by decide +kernel) rfl) pa_nil)))))
            (pw_or1 (pt_cmpR op_ne (pe_callB (cr_reprD hG hu) (by rfl) T.repr (by decide +kernel) (pa_cons (pv 4) pa_nil)) (pe_callB (cr_reprD hG hu) (by rfl) T.repr (by decide +kernel) (pa_cons (pv 1) pa_nil)) (nomark _))))) (pss_one (ps_ret pe_bl)) pss_nil)
        (pss_cons (ps_expr (pe_bm PySem.F.plainAttrs_list PySem.F.slot_list_append PySem.F.type_list_append mt_append (pe_ix ix_list (pv 4) pe_int (fun _ _ => rfl)) (pa_cons pe_non pa_nil)))
        (pss_one (ps_expr (pe_bm0 PySem.F.plainAttrs_list PySem.F.slot_list_pop PySem.F.type_list_pop mt_pop (pv 4))))))))
      (pss_cons (ps_for PassesOwn.never rfl (pi_list (pe_lst (pa_cons pe_int (pa_cons (pe_op op_fdiv (pv 2) pe_int) (pa_cons (pe_op op_fdiv (pv 2) pe_int) (pa_cons (pe_op op_sub (pv 2) pe_int) pa_nil)))))) (pg_name (i := 5) nd rfl (.inl rfl))
        (pss_cons (ps_set (i := 6) nd rfl (.inl rfl) (pe_call G2 hr (by rfl) N2.g N2.F.kp N2.b .nil pass0 (pa_cons (pv 0) (pa_cons (pe_ix ix_list (pv 1) (pv 5) (fun _ _ => rfl)) pa_nil))))
        (pss_one (ps_if (PW.pt (pw_or (pt_cmpR op_ne (pe_callB (cr_reprD hG hu) (by rfl) T.repr (by decide +kernel) (pa_cons (pe_call G1 hr (by rfl) N1.g N1.F.kp N1.b .nil pass0 (pa_cons (pv 0) (pa_cons (pv 5) pa_nil))) pa_nil)) (pe_callB (cr_reprD hG hu) (by rfl) T.repr (by decide +kernel) (pa_cons (pe_ix ix_list (pv 1) (pv 5) (fun _ _ => rfl)) pa_nil)) (nomark _))
            (pw_or (pt_val (pe_callB call_isi (by rfl) T.isi (by decide +kernel) (pa_cons (pv 6) (pa_cons (pe_bltn (v := .ty "bool") (by rfl) T.bool (by decide +kernel) rfl) pa_nil))))
            (pw_or1 (pt_cmpR op_ne (pv 6) (pv 5) (nomark _)))))) (pss_one (ps_ret pe_bl)) pss_nil))))
      (pss_one (ps_ret pe_bl)))))), ?_⟩
    refine ⟨.str (tx bs), rfl, .str (tx bs), rfl, tx bs, rfl, wr, ((tx bs).length : Int), rfl, ⟨by decide, by decide, by rw [tx_len]; omega, by rw [tx_len]; omega, by rw [tx_len]; omega⟩, fun lp nlp => ?_⟩
    have rg : rgV 0 (((tx bs).length : Nat) : Int) = (List.range bs.length).map wv := by
      unfold rgV
      rw [tx_len, Int.sub_zero, Int.toNat_natCast]
      exact List.map_congr_left fun i _ => by rw [Int.zero_add]; rfl
    rw [rg]
    have t1 := same_upd (o := .lst ((List.range bs.length).map wv)) nlp
    have e1 : upd H lp (.lst ((List.range bs.length).map wv)) lp = some (.lst ((List.range bs.length).map wv)) := upd_same
    generalize upd H lp (.lst ((List.range bs.length).map wv)) = H1 at t1 e1
    refine ⟨bs, lp, List.range bs.length, bs, 0, [], [], rfl, hR, SqL.of e1, ps_start bs, by rw [List.length_range]; exact b8, Nat.le_refl _, fun H2 pd hs s2' npd HD AD => ?_⟩
    have hp := hps_of hR AD
    obtain ⟨oks, okl⟩ := okd_small b8 hp
    obtain ⟨hl1, _⟩ := len_small b8 hp
    have ftl := okl.fits (by decide)
    have s02 := t1.trans s2'
    have gp := HopW.gn_pos bs 0
    refine ⟨.str (tx bs), rfl, bs, rfl, hR, fun H3 s3' => ?_⟩
    have HD3 := HD.same s3'
    obtain ⟨asD, eD, lD, tD, _⟩ := HD3.at_
    have s03 := s02.trans s3'
    refine ⟨wv (HopW.gn bs 0), rfl, .int ((HopW.gn bs 0 : Nat) : Int), .ty "bool", .type "int", .type "bool", false, rfl, .ty _, .base (.int _), kit_ty (by decide +kernel), false, rfl, ?_⟩
    refine ⟨wv (HopW.gn bs 0), rfl, .ref pd, rfl, pd, _, rfl, .inl (SqL.of eD), rfl, _, rfl, ?_⟩
    have ln : ((asD.map V.ref).length : Int) = ((HopW.gn bs 0 : Nat) : Int) := by rw [List.length_map, lD, hp.1]
    rw [ln]
    rw [show decide (wv (HopW.gn bs 0) = V.int ((HopW.gn bs 0 : Nat) : Int)) = true from decide_eq_true rfl]
    refine iteF ⟨2, rfl, (by decide), (by decide), ?_⟩
    refine for_range (lo := 0) (n := 2) (fun m σ H4 => ∃ y3 y4, σ = [some (.str (tx bs)), some (.ref pd), some (wv (HopW.gn bs 0)), y3, y4, none, none] ∧ Same H3 H4) ⟨_, _, rfl, Same.refl _⟩ ?_ ?_
    · rintro m σ H4 hm ⟨y3, y4, rfl, s4'⟩
      refine ⟨.str (tx bs), rfl, bs, rfl, hR, by rw [← hp.1]; omega, fun H5 pf hf s5' npf HF PF => ?_⟩
      have eh := hps_one PF hp
      subst eh
      obtain ⟨asF, eF, lF, tF, fF⟩ := id HF.at_
      refine ⟨.ref pf, rfl, .ref pf, .ty "list", .type "list", .type "list", true, rfl, .ty _, .base (.lst eF), kit_ty (by decide +kernel), true, rfl, iteF ?_⟩
      refine ⟨.ref pf, rfl, _, dHs hf, rfl, dp_HS HF, okl.sh, okl.nd, Nat.le_trans okl.dp (by decide), ftl, .ref pd, rfl, _, dHs hf, rfl, dp_HS ((HD3.same s4').same s5'), okl.sh, okl.nd, Nat.le_trans okl.dp (by decide), ftl, rfl, _, rfl, ?_⟩
      rw [decide_eq_true rfl]
      have p0 : 0 < asF.length := by rw [lF, PF.1]; exact gp
      obtain ⟨a0, ha0⟩ : ∃ a, asF[0]? = some a := ⟨asF[0], List.getElem?_eq_getElem p0⟩
      obtain ⟨t0, ht0⟩ : ∃ t, hf[0]? = some t := ⟨hf[0]'(by rw [← lF]; exact p0), List.getElem?_eq_getElem _⟩
      obtain ⟨acc, e0, g0⟩ := tF 0 a0 t0 ha0 ht0
      obtain ⟨n0, ne0⟩ := fF a0 (List.mem_of_getElem? ha0)
      have la := tupG_len g0
      have l8 := (len_small b8 PF).2 t0 (List.mem_of_getElem? ht0)
      have s45 := s4'.trans s5'
      refine iteF ⟨.ref pf, rfl, pf, _, 0, .ref a0, rfl, rfl, SqL.of eF, atI_nat (j := 0) (by rw [List.getElem?_map, ha0]; rfl), .inl ⟨rfl, _, SqL.of e0⟩, a0, acc, .non, rfl, rfl, e0, fit' (by omega), ?_⟩
      have eF' : upd H5 a0 (.lst (acc ++ [.non])) pf = some (.lst (asF.map V.ref)) := by rw [upd_ne ne0.symm]; exact eF
      have s6' : Same H3 (upd H5 a0 (.lst (acc ++ [.non]))) := same_new (s4'.free n0) s45
      generalize upd H5 a0 (.lst (acc ++ [.non])) = H6 at eF' s6'
      have pl : ((asF.map V.ref))[(asF.map V.ref).length - 1]? = some ((asF.map V.ref)[(asF.map V.ref).length - 1]'(by rw [List.length_map]; omega)) := List.getElem?_eq_getElem _
      exact ⟨.ref pf, rfl, .inl ⟨rfl, _, SqL.of eF'⟩, pf, _, _, rfl, rfl, eF', pl, _, _, rfl, same_new (s4'.free npf) s6'⟩
    · rintro σ H4 ⟨y3, y4, rfl, s4'⟩
      refine ⟨wv (HopW.gn bs 0), rfl, _, _, rfl, rfl, ⟨by decide, by decide⟩, wv (HopW.gn bs 0), rfl, _, _, rfl, rfl, ⟨by decide, by decide⟩, wv (HopW.gn bs 0), rfl, _, _, rfl, rfl, (by show 4 ≤ sizeLine; decide), fun l nl => ?_⟩
      have t5 := same_upd (o := .lst [.int 0, .int (((HopW.gn bs 0 : Nat) : Int) / 2), .int (((HopW.gn bs 0 : Nat) : Int) / 3), .int (((HopW.gn bs 0 : Nat) : Int) - 1)]) nl
      have e5 : upd H4 l (.lst [.int 0, .int (((HopW.gn bs 0 : Nat) : Int) / 2), .int (((HopW.gn bs 0 : Nat) : Int) / 3), .int (((HopW.gn bs 0 : Nat) : Int) - 1)]) l = some (.lst ([0, HopW.gn bs 0 / 2, HopW.gn bs 0 / 3, HopW.gn bs 0 - 1].map wv)) := by
        rw [upd_same]
        show some (HO.lst [V.int 0, V.int (((HopW.gn bs 0 : Nat) : Int) / 2), V.int (((HopW.gn bs 0 : Nat) : Int) / 3), V.int (((HopW.gn bs 0 : Nat) : Int) - 1)]) = some (.lst [V.int ((0 : Nat) : Int), V.int ((HopW.gn bs 0 / 2 : Nat) : Int), V.int ((HopW.gn bs 0 / 3 : Nat) : Int), V.int ((HopW.gn bs 0 - 1 : Nat) : Int)])
        rw [show ((HopW.gn bs 0 / 2 : Nat) : Int) = ((HopW.gn bs 0 : Nat) : Int) / 2 by omega, show ((HopW.gn bs 0 / 3 : Nat) : Int) = ((HopW.gn bs 0 : Nat) : Int) / 3 by omega, show ((HopW.gn bs 0 - 1 : Nat) : Int) = ((HopW.gn bs 0 : Nat) : Int) - 1 by omega]
        rfl
      generalize upd H4 l (.lst [.int 0, .int (((HopW.gn bs 0 : Nat) : Int) / 2), .int (((HopW.gn bs 0 : Nat) : Int) / 3), .int (((HopW.gn bs 0 : Nat) : Int) - 1)]) = H5 at t5 e5
      have s35 := s4'.trans t5
      refine ⟨l, rfl, ⟨_, SqL.of e5⟩, ?_⟩
      refine for_list (K := K) (a := l) (xs := [0, HopW.gn bs 0 / 2, HopW.gn bs 0 / 3, HopW.gn bs 0 - 1].map wv) (fun i σ H6 => ∃ y3 y4 y5 y6, σ = [some (.str (tx bs)), some (.ref pd), some (wv (HopW.gn bs 0)), y3, y4, y5, y6] ∧ Same H5 H6) ⟨_, _, _, _, rfl, Same.refl _⟩ (fun i σ H6 _ ⟨_, _, _, _, _, h⟩ => SqL.of (h _ _ e5)) ?_ ?_
      · rintro i x σ H6 hx ⟨y3, y4, y5, y6, rfl, s6'⟩
        rw [List.getElem?_map] at hx
        obtain ⟨jn, hj, rfl⟩ := Option.map_eq_some_iff.mp hx
        have jl : jn < HopW.gn bs 0 := by
          have m := List.mem_of_getElem? hj
          simp only [List.mem_cons, List.not_mem_nil, or_false] at m
          rcases m with rfl | rfl | rfl | rfl <;> omega
        obtain ⟨a, ha⟩ : ∃ a, asD[jn]? = some a := ⟨asD[jn]'(by rw [lD, hp.1]; exact jl), List.getElem?_eq_getElem _⟩
        obtain ⟨ts, ht⟩ : ∃ t, hs[jn]? = some t := ⟨hs[jn]'(by rw [hp.1]; exact jl), List.getElem?_eq_getElem _⟩
        obtain ⟨pm, hl⟩ := hp.2 jn ts ht
        have okt := oks ts (List.mem_of_getElem? ht)
        have ftt := okt.fits (by decide)
        have s36 := s35.trans s6'
        have eD6 := s36 _ _ eD
        have tl6 := (tD jn a ts ha ht).same s36
        have atD : atI (asD.map V.ref) (jn : Int) = some (.ref a) := atI_nat (by rw [List.getElem?_map, ha]; rfl)
        refine ⟨.str (tx bs), rfl, .ref pd, rfl, wv jn, rfl, pd, _, (jn : Int), .ref a, rfl, rfl, SqL.of eD6, atD, bs, a, ts, rfl, hR, tl6, hl, fun H7 s7' => ?_⟩
        rw [numL_at pm jl]
        refine ⟨.str (tx bs), rfl, wv jn, rfl, bs, jn, rfl, hR, jl, fun H8 p8 us s8' np8 tl8 pm8 hl8 => ?_⟩
        have eu := HeapL.one hl8 hl (pm8.trans pm.symm)
        subst eu
        have s78 := s7'.trans s8'
        refine ⟨.ref p8, dH us, rfl, tl_d3 tl8, okt.sh, okt.nd, Nat.le_trans okt.dp (by decide), ftt, .ref pd, rfl, wv jn, rfl, pd, _, (jn : Int), .ref a, rfl, rfl, SqL.of (s78 _ _ eD6), atD, .ref a, dH us, rfl, tl_d3 (tl6.same s78), okt.sh, okt.nd, Nat.le_trans okt.dp (by decide), ftt, rfl, _, rfl, ?_⟩
        rw [decide_eq_true rfl]
        refine iteF ⟨wv jn, rfl, .int (jn : Int), .ty "bool", .type "int", .type "bool", false, rfl, .ty _, .base (.int _), kit_ty (by decide +kernel), false, rfl, ?_⟩
        refine ⟨wv jn, rfl, wv jn, rfl, rfl, _, rfl, ?_⟩
        rw [decide_eq_true rfl]
        exact iteF ⟨_, _, _, _, rfl, s6'.trans s78⟩
      · rintro σ H6 ⟨y3, y4, y5, y6, rfl, s6'⟩
        exact q _ (s03.trans (s35.trans s6'))
end
end Hop

set_option Elab.async false
set_option linter.all false
set_option maxRecDepth 100000
set_option exponentiation.threshold 200000
namespace Hop
open PySem L2 HopR HopT HopH
/-! ### _law_great -/
section
variable {P : Program} {w : World} {K : PySem.W.Frag} {mg : Str → Option Value} {base : Heap} {C d : Addr} {es : Array DictEntry} {n : Nat}
variable {HE NR NH NN TM : Addr}
def spGreat (K : PySem.W.Frag) : Sp := fun vs H Q _ => ∃ (bs : List Bool) (dp : Addr) (d0 : Int) (ds : List Int), vs = [.str (tx bs), .ref dp] ∧ Row bs ∧ SqL K H dp ((d0 :: ds).map V.int) ∧ ds.length ≤ 100 ∧ (∀ x ∈ d0 :: ds, 0 ≤ x) ∧ ∀ H', Same H H' → Q (.bl true) H'
abbrev nGr : List Str := ["_law_row_here", "_law_draws", "_law_many", "_law_heap", "_law_number", "_law_other"]
theorem scGr : FnScope nGr ["_law_row_here", "_law_draws"] (defScope sLGreat) := ⟨rfl, rfl, rfl, by decide +kernel, rfl, by decide +kernel, by decide +kernel⟩
set_option maxHeartbeats 8000000 in
theorem ok_great {f : Addr} {fd : FuncData} {k : Nat} (F : Fun K "_law_great" "_law_great" sLGreat f fd) (Nk : ∃ r s, Fn K mg "_law_course" sLCourse ["_law_row_here", "_law_draws"] r s) (Ni : ∃ r s, Fn K mg "_law_kind" sLKind ["_law_door", "_law_row_here", "_law_thing"] r s) (Nc : ∃ r s, Fn K mg "counts_of" sCounts ["row"] r s) (N : DoDefs K mg) (TP : TxtP K mg C) (T : TxtR K w mg d es n) (TH : TxtH mg) (T0 : TxtS mg) (TM5 : TxtM mg) (ke : keysAre es) (Z : EvK K mg HE NR NH NN TM) : FnOk P w K mg base CX0 (k + 10) f fd ["_law_row_here", "_law_draws"] (spGreat K) := by
  obtain ⟨r0, s0, N0⟩ := Nk
  obtain ⟨r1, s1, N1⟩ := N.at_
  obtain ⟨r2, s2, N2⟩ := N.nu
  obtain ⟨r3, s3, N3⟩ := Ni
  obtain ⟨r4, s4, N4⟩ := N.ma
  have G0 : FnOk P w K mg base CX0 (k + 9) r0 s0 ["_law_row_here", "_law_draws"] (spCourse K) := ok_course N0.F T
  have G1 : FnOk P w K mg base CX0 (k + 9) r1 s1 ["row", "number"] spHeapAt := ok_heapat N1.F N.C TP T TH T0
  have G2 : FnOk P w K mg base CX0 (k + 9) r2 s2 ["row", "heap"] spHeapNum := ok_heapnum N2.F N.h Nc N.Q TP T TH T0 ke
  have G3 : FnOk P w K mg base CX0 (k + 9) r3 s3 ["_law_door", "_law_row_here", "_law_thing"] (spKind K) := ok_kind N3.F N TP T TH T0 TM5 ke Z
  have G4 : FnOk P w K mg base CX0 (k + 9) r4 s4 ["row"] spHeaps := ok_heaps N4.F N.C.R N.C.N N.C.C T T0
  refine F.ok scGr (fun vs H Q E h => ?_) (fun cdv A outer s H vs Q E hr h => ?_)
  · obtain ⟨bs, dp, d0, ds, rfl, _⟩ := h
    rfl
  · obtain ⟨bs, dp, d0, ds, rfl, hR, hd, dl, dz, q⟩ := h
    have nd := scGr.nd
    refine ⟨_, pss_cons (ps_set (i := 2) nd rfl (.inl rfl) (pe_call G4 hr (by rfl) N4.g N4.F.kp N4.b .nil pass0 (pa_cons (pv 0) pa_nil)))
      (pss_cons (ps_set (i := 3) nd rfl (.inl rfl) (pe_call G0 hr (by rfl) N0.g N0.F.kp N0.b .nil pass0 (pa_cons (pv 0) (pa_cons (pv 1) pa_nil))))
      (pss_cons (ps_set (i := 4) nd rfl (.inl rfl) (pe_call G2 hr (by rfl) N2.g N2.F.kp N2.b .nil pass0 (pa_cons (pv 0) (pa_cons (pv 3) pa_nil))))
      (pss_cons (ps_if (PW.pt (pw_or (pt_not (pt_chain op_le op_lt pe_int (pv 4) (pv 2)))
          (pw_or1 (pt_cmpR (op_neD hr.units) (pe_call G1 hr (by rfl) N1.g N1.F.kp N1.b .nil pass0 (pa_cons (pv 0) (pa_cons (pv 4) pa_nil))) (pv 3) (nomark _))))) (pss_one (ps_ret pe_bl)) pss_nil)
      (pss_cons (ps_set (i := 5) nd rfl (.inl rfl) (pe_op op_mod (pe_op op_mul (pe_ix ix_list (pv 1) pe_int (fun _ _ => rfl)) (pe_op op_pow pe_int pe_int)) (pv 2)))
      (pss_cons (ps_if (pt_cmpR op_ne (pe_call G2 hr (by rfl) N2.g N2.F.kp N2.b .nil pass0 (pa_cons (pv 0) (pa_cons (pe_call G1 hr (by rfl) N1.g N1.F.kp N1.b .nil pass0 (pa_cons (pv 0) (pa_cons (pv 5) pa_nil))) pa_nil))) (pv 5) (nomark _)) (pss_one (ps_ret pe_bl)) pss_nil)
      (pss_one (ps_ret (pe_or (pe_cmpR op_le (pv 2) pe_int (nomark _)) (pe_one (pe_cmpR op_eq (pe_call G3 hr (by rfl) N3.g N3.F.kp N3.b .nil pass0 (pa_cons pe_int (pa_cons (pv 0) (pa_cons pe_int pa_nil)))) pe_int (nomark _))))))))))), ?_⟩
    have gp := HopW.gn_pos bs 0
    refine ⟨.str (tx bs), rfl, bs, rfl, hR, fun H1 s1' => ?_⟩
    refine ⟨.str (tx bs), rfl, .ref dp, rfl, bs, dp, d0 :: ds, rfl, hR, s1'.seq hd, (by simp), (by simp; omega), dz, fun H2 p ts s2' np tl hl => ?_⟩
    refine ⟨.str (tx bs), rfl, .ref p, rfl, bs, p, ts, rfl, hR, tl, hl, fun H3 s3' => ?_⟩
    obtain ⟨nl, pm⟩ := numL_back hl
    have nl' : ((numL bs ts : Nat) : Int) < ((HopW.gn bs 0 : Nat) : Int) := by omega
    have n0 : (0 : Int) ≤ ((numL bs ts : Nat) : Int) := by omega
    refine ⟨wv (numL bs ts), rfl, 0, ((numL bs ts : Nat) : Int), rfl, rfl, decide ((0 : Int) ≤ ((numL bs ts : Nat) : Int)), rfl, ?_⟩
    rw [decide_eq_true n0]
    refine iteT ⟨wv (HopW.gn bs 0), rfl, ((numL bs ts : Nat) : Int), ((HopW.gn bs 0 : Nat) : Int), rfl, rfl, decide (((numL bs ts : Nat) : Int) < ((HopW.gn bs 0 : Nat) : Int)), rfl, ?_⟩
    rw [decide_eq_true nl']
    refine iteF ?_
    have s13 := s2'.trans s3'
    refine ⟨.str (tx bs), rfl, wv (numL bs ts), rfl, bs, numL bs ts, rfl, hR, nl, fun H4 p4 us s4' n4 tl4 pm4 hl4 => ?_⟩
    have eu : us = ts := HeapL.one hl4 hl (pm4.trans pm.symm)
    subst eu
    refine ⟨.ref p, rfl, dH us, dH us, tl_d3 tl4, tl_d3 ((tl.same s3').same s4'), shaped3 _, shaped3 _, _, rfl, ?_⟩
    rw [eqv_H]
    refine iteF ?_
    have s14 := s1'.trans (s13.trans s4')
    have g0 : (0 : Int) < ((HopW.gn bs 0 : Nat) : Int) := by omega
    refine ⟨.ref dp, rfl, dp, _, 0, .int d0, rfl, rfl, s14.seq hd, atI_nat (j := 0) rfl, 10, 9, rfl, rfl, ⟨by decide, by decide, by decide⟩, d0, (10 : Int) ^ (9 : Int).toNat, rfl, rfl, .inr ⟨by decide, by decide⟩, wv (HopW.gn bs 0), rfl, d0 * (10 : Int) ^ (9 : Int).toNat, ((HopW.gn bs 0 : Nat) : Int), rfl, rfl, g0, ?_⟩
    have o1 := Int.emod_nonneg (d0 * (10 : Int) ^ (9 : Int).toNat) (show ((HopW.gn bs 0 : Nat) : Int) ≠ 0 by omega)
    have o2 := Int.emod_lt_of_pos (d0 * (10 : Int) ^ (9 : Int).toNat) g0
    obtain ⟨o, ho⟩ : ∃ o : Nat, d0 * (10 : Int) ^ (9 : Int).toNat % ((HopW.gn bs 0 : Nat) : Int) = (o : Int) := ⟨_, (Int.toNat_of_nonneg o1).symm⟩
    show gName 5 (V.int (d0 * (10 : Int) ^ (9 : Int).toNat % ((HopW.gn bs 0 : Nat) : Int))) _ _ _
    rw [ho] at o2 ⊢
    have ol : o < HopW.gn bs 0 := by omega
    refine ⟨.str (tx bs), rfl, .str (tx bs), rfl, wv o, rfl, bs, o, rfl, hR, ol, fun H5 p5 vs s5' n5 tl5 pm5 hl5 => ⟨bs, p5, vs, rfl, hR, tl5, hl5, fun H6 s6' => ?_⟩⟩
    rw [numL_at pm5 ol]
    refine ⟨wv o, rfl, rfl, _, rfl, ?_⟩
    rw [show decide (wv o = wv o) = true from decide_eq_true rfl]
    refine iteF ?_
    have s16 := s14.trans (s5'.trans s6')
    refine ⟨wv (HopW.gn bs 0), rfl, ((HopW.gn bs 0 : Nat) : Int), 500, rfl, rfl, _, rfl, ite2 (fun e => q _ s16) (fun e => ?_)⟩
    have many : 500 < HopW.gn bs 0 := by
      have := of_decide_eq_false (Bool.eq_false_iff.mpr e)
      omega
    exact ⟨.str (tx bs), rfl, 2, .str (tx bs), .int 0, .many, rfl, .inr (.inr (.inr ⟨rfl, ⟨bs, rfl, hR, many⟩, rfl⟩)), fun H7 s7' => ⟨rfl, q _ (s16.trans s7')⟩⟩
end
end Hop

set_option Elab.async false
set_option linter.all false
set_option maxRecDepth 100000
set_option exponentiation.threshold 200000
namespace Hop
open PySem L2 HopR HopT HopH
theorem sign_x : ("x" : Str) = ⟨#[120]⟩ := by decide +kernel
theorem isRow_more {z : Str} {c : Nat} (h : okc c = false) : isRowB (z ++ ⟨#[c]⟩) = false := by
  unfold isRowB
  have e : (z ++ (⟨#[c]⟩ : Str)).cps.toList = z.cps.toList ++ [c] := Array.toList_append
  rw [e, List.all_append, List.all_cons, h]
  simp
theorem isRow_far {z : Str} (h : 30 < z.length) : isRowB z = false := by
  unfold isRowB
  rw [decide_eq_false (show ¬ z.length ≤ 30 by omega)]
  simp
/-! ### the law's numbers -/
def zs42 : List Int := List.replicate 40 997 ++ [9, 8]
theorem zs42_ok : ∀ z ∈ zs42, SizeOk z := by
  intro z hz
  rcases List.mem_append.mp hz with h | h
  · obtain ⟨_, rfl⟩ := List.mem_replicate.mp h
    exact ⟨by decide, by decide⟩
  · simp only [List.mem_cons, List.not_mem_nil, or_false] at h
    rcases h with rfl | rfl <;> exact ⟨by decide, by decide⟩
theorem draws42 (c : Int) : ∃ (d0 : Int) (ds : List Int) (e0 e1 : Int), draws c 0 zs42 = (d0 :: ds) ++ [e0, e1] ∧ ds.length = 39 ∧ (∀ x ∈ d0 :: ds, 0 ≤ x) ∧ (0 ≤ e0 ∧ e0 < 9) ∧ (0 ≤ e1 ∧ e1 < 8) := by
  have hl : (draws c 0 zs42).length = 42 := by rw [draws_len]; rfl
  have k := draws_ok zs42 c 0 (fun z hz => (zs42_ok z hz).1)
  have hp : ∀ x ∈ draws c 0 zs42, 0 ≤ x := fun x hx => by
    obtain ⟨i, hi⟩ := List.mem_iff_getElem?.mp hx
    have il := (List.getElem?_eq_some_iff.mp hi).1
    rw [draws_len] at il
    exact (k i x _ hi (List.getElem?_eq_getElem il)).1
  have e := (List.take_append_drop 40 (draws c 0 zs42)).symm
  have l1 : ((draws c 0 zs42).take 40).length = 40 := by rw [List.length_take, hl]; rfl
  have l2 : ((draws c 0 zs42).drop 40).length = 2 := by rw [List.length_drop, hl]
  match h1 : (draws c 0 zs42).take 40, h2 : (draws c 0 zs42).drop 40, l1, l2 with
  | d0 :: ds, [e0, e1], l1, _ =>
    have l1 : ds.length = 39 := by simpa using l1
    rw [h1, h2] at e
    refine ⟨d0, ds, e0, e1, e, l1, fun x hx => hp x (by rw [e]; exact List.mem_append_left _ hx), ?_, ?_⟩
    · exact k 40 e0 9 (by rw [e, List.getElem?_append_right (by simp [l1])]; simp [l1]) (by rfl)
    · exact k 41 e1 8 (by rw [e, List.getElem?_append_right (by simp [l1])]; simp [l1]) (by rfl)
theorem cut42 {d0 e0 e1 : Int} {ds : List Int} (h : ds.length = 39) : cutV ((d0 :: ds ++ [e0, e1]).map V.int) none (some 40) = (d0 :: ds).map V.int := by
  have hl : ((d0 :: ds ++ [e0, e1]).map V.int).length = 42 := by rw [List.length_map]; simp [h]
  unfold cutV
  rw [hl, show HT.sIx 42 0 none = 0 by decide +kernel, show HT.sIx 42 42 (some 40) = 40 by decide +kernel, List.drop_zero, List.map_append]
  rw [List.take_append_of_le_length (by simp [h])]
  exact List.take_of_length_le (by simp [h])
theorem at40 {d0 e0 e1 : Int} {ds : List Int} (h : ds.length = 39) : ((d0 :: ds ++ [e0, e1]).map V.int)[40]? = some (.int e0) ∧ ((d0 :: ds ++ [e0, e1]).map V.int)[41]? = some (.int e1) := by
  have l40 : (d0 :: ds).length = 40 := by simp [h]
  constructor
  · rw [List.getElem?_map, List.getElem?_append_right (by omega), l40]
    rfl
  · rw [List.getElem?_map, List.getElem?_append_right (by omega), l40]
    rfl
def tail8 : List Bool := [true, false, true, false, false, true, false, false]
theorem tail_tx : ("o.o..o.." : Str) = tx tail8 := by decide +kernel
theorem o_tx : ("o." : Str) = tx [true, false] := by decide +kernel
def b12 : List Bool := List.replicate 4 true ++ List.replicate 8 false
def b12' : List Bool := List.replicate 5 true ++ List.replicate 7 false
theorem b12_tx : ("oooo........" : Str) = tx b12 := by decide +kernel
theorem b12_tx' : ("ooooo......." : Str) = tx b12' := by decide +kernel
theorem b12_gn : HopW.gn b12 0 = 495 := by decide +kernel
theorem b12_gn' : HopW.gn b12' 0 = 792 := by decide +kernel
theorem heap_none : isHeapB [true, false] [] = false := by decide +kernel
theorem heapB_same {K : PySem.W.Frag} {bs : List Bool} {H H' : Hp} {x : V} {b : Bool} (s : Same H H') (h : HeapB K bs H x b) : HeapB K bs H' x b := h.same s
section
variable {P : Program} {w : World} {K : PySem.W.Frag} {mg : Str → Option Value} {base : Heap} {C d : Addr} {es : Array DictEntry} {n : Nat}
variable {HE NR NH NN TM : Addr}
structure Df (K : PySem.W.Frag) (mg : Str → Option Value) : Prop where
  N : DoDefs K mg
  nc : ∃ r s, Fn K mg "counts_of" sCounts ["row"] r s
  dr : ∃ r s, Fn K mg "_law_drawn" sDrawn ["_law_cell", "_law_sizes"] r s
  ro : ∃ r s, Fn K mg "_law_row" sLRow ["_law_cell", "_law_most"] r s
  co : ∃ r s, Fn K mg "_law_course" sLCourse ["_law_row_here", "_law_draws"] r s
  al : ∃ r s, Fn K mg "_law_all" sLAll ["_law_row_here", "_law_letters"] r s
  ki : ∃ r s, Fn K mg "_law_kind" sLKind ["_law_door", "_law_row_here", "_law_thing"] r s
  sm : ∃ r s, Fn K mg "_law_small" sLSmall ["_law_row_here"] r s
  gr : ∃ r s, Fn K mg "_law_great" sLGreat ["_law_row_here", "_law_draws"] r s
abbrev nLaw : List Str := ["_law_script", "_law_cell", "_law_draws", "_law_row_here", "_law_many", "_law_odd", "_law_bad", "_law_door"]
theorem scLaw : FnScope nLaw ["_law_script"] (defScope sLaw) := ⟨rfl, rfl, rfl, by decide +kernel, rfl, by decide +kernel, by decide +kernel⟩
def spLaw (K : PySem.W.Frag) : Sp := fun vs H Q _ => ∃ (a : Addr) (ns : List Int), vs = [.ref a] ∧ SqL K H a (ns.map V.int) ∧ ns.length ≤ 63 ∧ ∀ H', Q (.bl true) H'
set_option maxHeartbeats 16000000 in
theorem ok_law {f : Addr} {fd : FuncData} (F : Fun K "law" "law" sLaw f fd) (N : Df K mg) (TP : TxtP K mg C) (T : TxtR K w mg d es n) (TH : TxtH mg) (T0 : TxtS mg) (TM5 : TxtM mg) (ke : keysAre es) (Z : EvK K mg HE NR NH NN TM) : FnOkG P w K mg base CX0 11 f fd ["_law_script"] (spLaw K) := by
  obtain ⟨q1, l1, Rd⟩ := N.dr
  obtain ⟨q2, l2, Rr⟩ := N.ro
  obtain ⟨q3, l3, Rk⟩ := N.ki
  obtain ⟨q4, l4, Rs⟩ := N.sm
  obtain ⟨q5, l5, Rg⟩ := N.gr
  obtain ⟨q6, l6, Rm⟩ := N.N.ma
  obtain ⟨q7, l7, Ro⟩ := N.N.of
  have Gd : FnOk P w K mg base CX0 10 q1 l1 ["_law_cell", "_law_sizes"] (spDrawn K) := ok_drawn Rd.F T.len T.range
  have Gr : FnOk P w K mg base CX0 10 q2 l2 ["_law_cell", "_law_most"] spLRow := ok_lrow Rr.F Rd T.len T.range T.sorted
  have Gk : FnOk P w K mg base CX0 10 q3 l3 ["_law_door", "_law_row_here", "_law_thing"] (spKind K) := ok_kind (k := 2) Rk.F N.N TP T TH T0 TM5 ke Z
  have Gs : FnOkG P w K mg base CX0 10 q4 l4 ["_law_row_here"] spSmall := ok_small (k := 0) Rs.F N.al N.nc N.N TP T TH T0 TM5 ke
  have Gg : FnOk P w K mg base CX0 10 q5 l5 ["_law_row_here", "_law_draws"] (spGreat K) := ok_great (k := 0) Rg.F N.co N.ki N.nc N.N TP T TH T0 TM5 ke Z
  have Gm : FnOk P w K mg base CX0 10 q6 l6 ["row"] spHeaps := ok_heaps Rm.F N.N.C.R N.N.C.N N.N.C.C T T0
  have Go : FnOk P w K mg base CX0 10 q7 l7 ["row"] spHeapsOf := ok_heapsof Ro.F N.N.C TP T TH T0 TM5
  refine okG F scLaw (fun vs H Q E h => ?_) (fun cdv A outer s H vs Q E hG hr h => ?_)
  · obtain ⟨a, ns, rfl, _⟩ := h
    rfl
  · obtain ⟨a, ns, rfl, hS, hlen, q⟩ := h
    have nd := scLaw.nd
    have hu := hu66 hr
    have hu64 : (A.deeper (PyProof.Rows.envOfC "law" (defScope sLaw) s.heap.objs.size f cdv)).units + 64 < cLine := by omega
    refine ⟨_, pss_cons (ps_for PassesOwn.never rfl (pi_list (pe_op op_cat (pe_slice sl_list (pv 0) po_none (po_some pe_int)) (pe_lst (pa_cons pe_int pa_nil)))) (pg_name (i := 1) nd rfl (.inl rfl))
        (pss_cons (ps_set (i := 2) nd rfl (.inl rfl) (pe_call Gd hr (by rfl) Rd.g Rd.F.kp Rd.b .nil pass0 (pa_cons (pv 1) (pa_cons (pe_op op_cat (pe_op op_rep (pe_lst (pa_cons pe_int pa_nil)) pe_int) (pe_lst (pa_cons pe_int (pa_cons pe_int pa_nil)))) pa_nil))))
        (pss_cons (ps_set (i := 3) nd rfl (.inl rfl) (pe_call Gr hr (by rfl) Rr.g Rr.F.kp Rr.b .nil pass0 (pa_cons (pe_op op_fdivW (pv 1) pe_int) (pa_cons pe_int pa_nil))))
        (pss_cons (ps_if (PW.pt (pw_or (pt_not (pt_val (pe_callG Gs hG hr (by rfl) Rs.g Rs.F.kp Rs.b .nil pass0 (pa_cons (pv 3) pa_nil))))
            (pw_or1 (pt_not (pt_val (pe_call Gg hr (by rfl) Rg.g Rg.F.kp Rg.b .nil pass0 (pa_cons (pe_op op_add_str (pe_call Gr hr (by rfl) Rr.g Rr.F.kp Rr.b .nil pass0 (pa_cons (pe_op op_fdivW (pv 1) pe_int) (pa_cons pe_int pa_nil))) (pe_slice sl_str pe_str po_none (po_some (pe_ix ix_list (pv 2) pe_int (fun _ _ => rfl)))))
              (pa_cons (pe_slice sl_list (pv 2) po_none (po_some pe_int)) pa_nil)))))))) (pss_one (ps_ret pe_bl)) pss_nil)
        (pss_cons (ps_set (i := 4) nd rfl (.inl rfl) (pe_call Gm hr (by rfl) Rm.g Rm.F.kp Rm.b .nil pass0 (pa_cons (pv 3) pa_nil)))
        (pss_cons (ps_for PassesOwn.never rfl (pi_list (pe_lst (pa_cons (pe_un un_neg pe_int) (pa_cons (pv 4) (pa_cons pe_non (pa_cons pe_bl (pa_cons pe_str (pa_cons (pe_lst (pa_cons pe_int pa_nil)) (pa_cons (pe_tup (pa_cons pe_int pa_nil)) (pa_cons (pe_op op_pow pe_int pe_int) pa_nil)))))))))) (pg_name (i := 5) nd rfl (.inr rfl))
          (pss_one (ps_if (pt_cmpR op_ne (pe_call Gk hr (by rfl) Rk.g Rk.F.kp Rk.b .nil pass0 (pa_cons pe_int (pa_cons (pv 3) (pa_cons (pv 5) pa_nil)))) pe_int (nomark _)) (pss_one (ps_ret pe_bl)) pss_nil)))
        (pss_cons (ps_set (i := 6) nd rfl (.inr rfl) (pe_ix ix_list (pe_lst (pa_cons pe_non (pa_cons (pe_tup pa_nil) (pa_cons pe_str (pa_cons pe_int (pa_cons (pe_lst (pa_cons (pe_tup (pa_cons pe_int (pa_cons pe_int pa_nil))) pa_nil)) (pa_cons (pe_lst (pa_cons (pe_tup (pa_cons pe_int (pa_cons pe_int (pa_cons pe_str pa_nil)))) pa_nil)) (pa_cons pe_dnewK (pa_cons (pe_lst (pa_cons pe_non pa_nil)) pa_nil))))))))) (pe_ix ix_list (pv 2) pe_int (fun _ _ => rfl)) (fun _ _ => rfl)))
        (pss_cons (ps_if (PW.pt (pw_or (pt_cmpR op_ne (pe_call Gk hr (by rfl) Rk.g Rk.F.kp Rk.b .nil pass0 (pa_cons pe_int (pa_cons (pv 3) (pa_cons (pv 6) pa_nil)))) pe_int (nomark _))
            (pw_or1 (pt_cmpR op_ne (pe_call Gk hr (by rfl) Rk.g Rk.F.kp Rk.b .nil pass0 (pa_cons pe_int (pa_cons pe_str (pa_cons (pe_lst pa_nil) pa_nil)))) pe_int (nomark _))))) (pss_one (ps_ret pe_bl)) pss_nil)
        (pss_cons (ps_set (i := 5) nd rfl (.inr rfl) (pe_ix ix_list (pe_lst (pa_cons pe_str (pa_cons pe_non (pa_cons pe_int (pa_cons (pe_lst (pa_cons (pv 3) pa_nil)) (pa_cons (pe_tup (pa_cons (pv 3) pa_nil)) (pa_cons (pe_op op_add_str (pv 3) pe_str) (pa_cons (pe_op op_repS (pv 3) pe_int) (pa_cons pe_dnewK pa_nil))))))))) (pe_ix ix_list (pv 2) pe_int (fun _ _ => rfl)) (fun _ _ => rfl)))
        (pss_one (ps_if (pt_cmpR (op_neD hu64) (pe_lc (own := [("_law_door", 7)]) (g := gName 7) (tt := tYes) rfl nd (pi_range1 (by rfl) T.range (pa_cons pe_int pa_nil)) (blkOk_by (own := [("_law_door", 7)]) (N := nLaw) (sc := defScope sLaw) (by decide +kernel)) (fun _ _ _ _ _ => pg_name (i := 7) nd rfl (.inl rfl)) (fun _ _ _ _ _ => pts_nil) (fun _ _ _ _ _ => pe_call Gk hr (by rfl) Rk.g Rk.F.kp Rk.b .nil pass0 (pa_cons (pv 7) (pa_cons (pv 5) (pa_cons (pv 6) pa_nil)))))
            (pe_lst (pa_cons pe_int (pa_cons pe_int (pa_cons pe_int (pa_cons pe_int pa_nil))))) (nomark _)) (pss_one (ps_ret pe_bl)) pss_nil)))))))))))
      (pss_one (ps_ret (pe_and (pe_cmpR op_eq (pe_callB call_len_seq (by rfl) T.len PySem.boot_len (pa_cons (pe_call Go hr (by rfl) Ro.g Ro.F.kp Ro.b .nil pass0 (pa_cons pe_str pa_nil)) pa_nil)) pe_int (nomark _))
        (pe_one (pe_cmpR op_eq (pe_call Gk hr (by rfl) Rk.g Rk.F.kp Rk.b .nil pass0 (pa_cons pe_int (pa_cons pe_str (pa_cons pe_int pa_nil)))) pe_int (nomark _)))))), ?_⟩
    obtain ⟨zs, ez, hzl⟩ := cut_ints ns 5 hlen
    refine ⟨.ref a, rfl, 5, rfl, a, _, rfl, hS, fun p np => ?_⟩
    rw [ez]
    refine ⟨(by show 1 ≤ sizeLine; decide), fun p2 n2 => ?_⟩
    have t1 := same_upd (o := .lst (zs.map V.int)) np
    have ep : upd H p (.lst (zs.map V.int)) p = some (.lst (zs.map V.int)) := upd_same
    generalize upd H p (.lst (zs.map V.int)) = H1 at t1 ep n2
    have t2 := same_upd (o := .lst [.int 0]) n2
    have ep2 : upd H1 p2 (.lst [.int 0]) p2 = some (.lst [.int 0]) := upd_same
    generalize upd H1 p2 (.lst [.int 0]) = H2 at t2 ep2
    refine ⟨p, p2, zs.map V.int, [.int 0], rfl, rfl, t2 _ _ ep, ep2, (by rw [List.length_map]; exact fit (by show zs.length + 1 ≤ _; omega)), fun p3 n3 => ?_⟩
    have ecat : zs.map V.int ++ [V.int 0] = (zs ++ [0]).map V.int := by rw [List.map_append]; rfl
    rw [ecat]
    have t3 := same_upd (o := .lst ((zs ++ [0]).map V.int)) n3
    have e3 : upd H2 p3 (.lst ((zs ++ [0]).map V.int)) p3 = some (.lst ((zs ++ [0]).map V.int)) := upd_same
    generalize upd H2 p3 (.lst ((zs ++ [0]).map V.int)) = H3 at e3 t3
    have s03 := (t1.trans t2).trans t3
    refine ⟨p3, rfl, ⟨_, SqL.of e3⟩, ?_⟩
    refine for_list (K := K) (a := p3) (xs := (zs ++ [0]).map V.int) (fun i σ H4 => ∃ y1 y2 y3 y4 y5 y6 y7, σ = [some (.ref a), y1, y2, y3, y4, y5, y6, y7] ∧ Same H3 H4) ⟨_, _, _, _, _, _, _, rfl, Same.refl _⟩ (fun i σ H4 _ ⟨_, _, _, _, _, _, _, _, h⟩ => SqL.of (h _ _ e3)) ?_ ?_
    · rintro i x σ H4 hx ⟨y1, y2, y3, y4, y5, y6, y7, rfl, s4⟩
      rw [List.getElem?_map] at hx
      obtain ⟨c, hc, rfl⟩ := Option.map_eq_some_iff.mp hx
      refine ⟨.int c, rfl, (by show 1 ≤ sizeLine; decide), fun l1 nl1 => ?_⟩
      have a1 := same_upd (o := .lst [.int 997]) nl1
      have b1 : upd H4 l1 (.lst [.int 997]) l1 = some (.lst [.int 997]) := upd_same
      generalize upd H4 l1 (.lst [.int 997]) = J1 at a1 b1
      refine ⟨l1, 40, [.int 997], rfl, rfl, b1, by decide, by decide, by decide, fun l2 nl2 => ⟨(by show 2 ≤ sizeLine; decide), fun l3 nl3 => ?_⟩⟩
      have a2 := same_upd (o := .lst (List.replicate (40 : Int).toNat [V.int 997]).flatten) nl2
      have b2 : upd J1 l2 (.lst (List.replicate (40 : Int).toNat [V.int 997]).flatten) l2 = some (.lst (List.replicate (40 : Int).toNat [V.int 997]).flatten) := upd_same
      generalize upd J1 l2 (.lst (List.replicate (40 : Int).toNat [V.int 997]).flatten) = J2 at a2 b2 nl3
      have a3 := same_upd (o := .lst [.int 9, .int 8]) nl3
      have b3 : upd J2 l3 (.lst [.int 9, .int 8]) l3 = some (.lst [.int 9, .int 8]) := upd_same
      generalize upd J2 l3 (.lst [.int 9, .int 8]) = J3 at a3 b3
      refine ⟨l2, l3, _, _, rfl, rfl, a3 _ _ b2, b3, by decide, fun l5 nl5 => ?_⟩
      have ezs : (List.replicate (40 : Int).toNat [V.int 997]).flatten ++ [V.int 9, .int 8] = zs42.map V.int := rfl
      rw [ezs]
      have a5 := same_upd (o := .lst (zs42.map V.int)) nl5
      have b5 : upd J3 l5 (.lst (zs42.map V.int)) l5 = some (.lst (zs42.map V.int)) := upd_same
      generalize upd J3 l5 (.lst (zs42.map V.int)) = J5 at a5 b5
      refine ⟨c, l5, zs42, rfl, SqL.of b5, zs42_ok, by decide, fun H6 pd s6 n6 e6 => ?_⟩
      obtain ⟨d0, ds, g0, g1, ed, dl, dz, hg0, hg1⟩ := draws42 c
      obtain ⟨at0, at1⟩ := at40 (d0 := d0) (e0 := g0) (e1 := g1) dl
      rw [ed] at e6
      have sH6 : Same H3 H6 := s4.trans ((((a1.trans a2).trans a3).trans a5).trans s6)
      clear a1 a2 a3 a5 b1 b2 b3 b5 s6 nl1 nl2 nl3 nl5
      refine ⟨.int c, rfl, c, 3, rfl, rfl, ⟨by decide, by decide⟩, c / 3, 8, rfl, by decide, by decide, fun H7 bs s7 hb1 hb8 => ?_⟩
      have hR : Row bs := ⟨hb1, by omega⟩
      have hb8 : bs.length ≤ 8 := by omega
      refine ⟨.str (tx bs), rfl, bs, rfl, hR, hb8, fun H8 s8 => ⟨true, rfl, iteF ?_⟩⟩
      refine ⟨.int c, rfl, c, 5, rfl, rfl, ⟨by decide, by decide⟩, c / 5, 22, rfl, by decide, by decide, fun H9 cs s9 hc1 hc22 => ?_⟩
      have sd9 := (s7.trans s8).trans s9
      have e9 := sd9 _ _ e6
      obtain ⟨m0, rfl⟩ := Int.eq_ofNat_of_zero_le hg0.1
      refine ⟨.ref pd, rfl, pd, _, 40, .int (m0 : Int), rfl, rfl, SqL.of e9, (show atI _ ((40 : Nat) : Int) = _ from atI_nat at0), (m0 : Int), rfl, "o.o..o..", rfl, (by decide +kernel), ?_⟩
      rw [tail_tx, cut_to]
      have hcs : cs.length ≤ 22 := by omega
      have ht8 : (tail8.take m0).length ≤ 8 := Nat.le_trans (List.length_take_le' ..) (by decide)
      refine ⟨tx cs, tx (tail8.take m0), rfl, rfl, (by rw [tx_len, tx_len]; exact fit (by omega)), ?_⟩
      rw [tx_app]
      have hR2 : Row (cs ++ tail8.take m0) := ⟨by rw [List.length_append]; omega, by rw [List.length_append]; omega⟩
      refine ⟨.ref pd, rfl, 40, rfl, pd, _, rfl, SqL.of e9, fun pc npc => ?_⟩
      rw [cut42 dl]
      have c1 := same_upd (o := .lst ((d0 :: ds).map V.int)) npc
      have f1 : upd H9 pc (.lst ((d0 :: ds).map V.int)) pc = some (.lst ((d0 :: ds).map V.int)) := upd_same
      generalize upd H9 pc (.lst ((d0 :: ds).map V.int)) = H10 at c1 f1
      refine ⟨_, pc, d0, ds, rfl, hR2, SqL.of f1, by omega, dz, fun H11 s11 => ⟨true, rfl, iteF ?_⟩⟩
      refine ⟨.str (tx bs), rfl, bs, rfl, hR, fun H12 s12 => ?_⟩
      have sd12 := sd9.trans ((c1.trans s11).trans s12)
      have S12 := sH6.trans sd12
      have e12 := sd12 _ _ e6
      have hgn : HopW.gn bs 0 ≤ 256 := by
        refine Nat.le_trans (gn_le bs 0) (Nat.le_trans (Nat.pow_le_pow_right (by decide) (show 0 + bs.length ≤ 8 by omega)) (by decide))
      clear s7 s8 s9 sd9 e9 c1 f1 s11 s12 e6 npc
      -- numbers that are none
      refine ⟨1, rfl, wv (HopW.gn bs 0), rfl, (by show 1 ≤ sizeLine; decide), fun o1 no1 => ⟨(by show 1 ≤ sizeLine; decide), fun o2 no2 => ⟨10, 40, rfl, rfl, ⟨by decide, by decide, by decide⟩, (by show 8 ≤ sizeLine; decide), fun o3 no3 => ?_⟩⟩⟩
      have u1 := same_upd (o := .lst [.int 0]) no1
      have v1 : upd H12 o1 (.lst [.int 0]) o1 = some (.lst [.int 0]) := upd_same
      generalize upd H12 o1 (.lst [.int 0]) = I1 at u1 v1 no2 no3
      have u2 := same_upd (o := .tup [.int 0]) no2
      have v2 : upd I1 o2 (.tup [.int 0]) o2 = some (.tup [.int 0]) := upd_same
      generalize upd I1 o2 (.tup [.int 0]) = I2 at u2 v2 no3
      generalize hol : [V.int (-1), wv (HopW.gn bs 0), .non, .bl true, .str "0", .ref o1, .ref o2, .int ((10 : Int) ^ (40 : Int).toNat)] = ol at no3
      have u3 := same_upd (o := .lst ol) no3
      have v3 : upd I2 o3 (.lst ol) o3 = some (.lst ol) := upd_same
      generalize upd I2 o3 (.lst ol) = I3' at u3 v3
      have u13 := (u1.trans u2).trans u3
      have bad : ∀ x ∈ ol, BadN K I3' bs x := by
        rw [← hol]
        intro x hx
        simp only [List.mem_cons, List.not_mem_nil, or_false] at hx
        rcases hx with rfl | rfl | rfl | rfl | rfl | rfl | rfl | rfl
        · exact .inr ⟨-1, rfl, .inl (by decide)⟩
        · exact .inr ⟨_, rfl, .inr (Int.le_refl _)⟩
        · exact .inl odd_non
        · exact .inl odd_bl
        · exact .inl odd_str
        · exact .inl (odd_lst ((u2.trans u3) _ _ v1))
        · exact .inl (odd_tup (u3 _ _ v2))
        · exact .inr ⟨_, rfl, .inr (Int.le_trans (show ((HopW.gn bs 0 : Nat) : Int) ≤ 256 by omega) (by decide +kernel))⟩
      have bad' : ∀ {H' : Hp} {x : V}, Same I3' H' → x ∈ ol → BadN K H' bs x := fun {H' x} s hx => (bad x hx).imp (odd_same s) id
      clear bad
      refine ⟨o3, rfl, ⟨_, SqL.of v3⟩, ?_⟩
      refine for_list (K := K) (a := o3) (xs := ol) (fun i σ H' => ∃ y5, σ = [some (.ref a), some (.int c), some (.ref pd), some (.str (tx bs)), some (wv (HopW.gn bs 0)), y5, y6, y7] ∧ Same I3' H') ⟨_, rfl, Same.refl _⟩ (fun i σ H' _ ⟨_, _, h⟩ => SqL.of (h _ _ v3)) ?_ ?_
      · rintro i x σ H' hx ⟨y5, rfl, s'⟩
        refine ⟨.str (tx bs), rfl, x, rfl, 0, .str (tx bs), x, .num, rfl, .inr (.inl ⟨rfl, ⟨bs, rfl, hR, bad' s' (List.mem_of_getElem? hx)⟩, rfl⟩), fun H'' s'' => ⟨rfl, _, rfl, iteF ?_⟩⟩
        exact ⟨_, rfl, s'.trans s''⟩
      rintro σ H13 ⟨y5', rfl, s13⟩
      have S13 := S12.trans (u13.trans s13)
      have e13 := (u13.trans s13) _ _ e12
      clear u1 u2 u3 u13 v1 v2 v3 bad' no1 no2 no3 hol S12 e12 s13
      -- heaps that are none
      refine ⟨(by show 0 ≤ sizeLine; decide), fun h1 nh1 => ⟨(by show 2 ≤ sizeLine; decide), fun h2 nh2 => ⟨(by show 1 ≤ sizeLine; decide), fun h3 nh3 => ⟨(by show 3 ≤ sizeLine; decide), fun h4 nh4 => ⟨(by show 1 ≤ sizeLine; decide), fun h5 nh5 => fun h6 nh6 => ⟨(by show 1 ≤ sizeLine; decide), fun h7 nh7 => ⟨(by show 8 ≤ sizeLine; decide), fun h8 nh8 => ?_⟩⟩⟩⟩⟩⟩⟩
      have u1 := same_upd (o := .tup []) nh1
      have v1 : upd H13 h1 (.tup []) h1 = some (.tup []) := upd_same
      generalize upd H13 h1 (.tup []) = I1 at u1 v1 nh2 nh3 nh4 nh5 nh6 nh7 nh8
      have u2 := same_upd (o := .tup [.int 0, .int 1]) nh2
      have v2 : upd I1 h2 (.tup [.int 0, .int 1]) h2 = some (.tup [.int 0, .int 1]) := upd_same
      generalize upd I1 h2 (.tup [.int 0, .int 1]) = I2 at u2 v2 nh3 nh4 nh5 nh6 nh7 nh8
      have u3 := same_upd (o := .lst [.ref h2]) nh3
      have v3 : upd I2 h3 (.lst [.ref h2]) h3 = some (.lst [.ref h2]) := upd_same
      generalize upd I2 h3 (.lst [.ref h2]) = I3 at u3 v3 nh4 nh5 nh6 nh7 nh8
      have u4 := same_upd (o := .tup [.int 0, .int 1, .str "x"]) nh4
      have v4 : upd I3 h4 (.tup [.int 0, .int 1, .str "x"]) h4 = some (.tup [.int 0, .int 1, .str "x"]) := upd_same
      generalize upd I3 h4 (.tup [.int 0, .int 1, .str "x"]) = I4 at u4 v4 nh5 nh6 nh7 nh8
      have u5 := same_upd (o := .lst [.ref h4]) nh5
      have v5 : upd I4 h5 (.lst [.ref h4]) h5 = some (.lst [.ref h4]) := upd_same
      generalize upd I4 h5 (.lst [.ref h4]) = I5 at u5 v5 nh6 nh7 nh8
      have u6 := same_upd (o := .dK []) nh6
      have v6 : upd I5 h6 (.dK []) h6 = some (.dK []) := upd_same
      generalize upd I5 h6 (.dK []) = I6 at u6 v6 nh7 nh8
      have u7 := same_upd (o := .lst [.non]) nh7
      have v7 : upd I6 h7 (.lst [.non]) h7 = some (.lst [.non]) := upd_same
      generalize upd I6 h7 (.lst [.non]) = I7 at u7 v7 nh8
      generalize hbl : [V.non, .ref h1, .str "", .int 0, .ref h3, .ref h5, .ref h6, .ref h7] = bl at nh8
      have u8 := same_upd (o := .lst bl) nh8
      have v8 : upd I7 h8 (.lst bl) h8 = some (.lst bl) := upd_same
      generalize upd I7 h8 (.lst bl) = I8 at u8 v8
      have u78 := u7.trans u8
      have u68 := u6.trans u78
      have u58 := u5.trans u68
      have u48 := u4.trans u58
      have u38 := u3.trans u48
      have u28 := u2.trans u38
      have u18 := u1.trans u28
      obtain ⟨xb, hxb, hwb⟩ : ∃ b, atI bl g1 = some b ∧ HeapB K bs I8 b false := by
        rw [← hbl]
        rcases (show g1 = 0 ∨ g1 = 1 ∨ g1 = 2 ∨ g1 = 3 ∨ g1 = 4 ∨ g1 = 5 ∨ g1 = 6 ∨ g1 = 7 by omega) with rfl | rfl | rfl | rfl | rfl | rfl | rfl | rfl
        · exact ⟨_, rfl, .inl ⟨⟨_, .base .non, kit_ty (by decide +kernel)⟩, rfl⟩⟩
        · exact ⟨_, rfl, .inl ⟨⟨_, .base (.tup (u28 _ _ v1)), kit_ty (by decide +kernel)⟩, rfl⟩⟩
        · exact ⟨_, rfl, .inl ⟨⟨_, .base (.str _), kit_ty (by decide +kernel)⟩, rfl⟩⟩
        · exact ⟨_, rfl, .inl ⟨⟨_, .base (.int _), kit_ty (by decide +kernel)⟩, rfl⟩⟩
        · refine ⟨_, rfl, .inr (.inr ⟨h3, _, [false], rfl, u48 _ _ v3, (by show 1 ≤ 1000; decide), ?_, rfl, rfl⟩)⟩
          exact .cons (.inr (.inr (.inr ⟨h2, _, rfl, u38 _ _ v2, (by show 2 ≠ 3; decide), rfl⟩))) .nil
        · refine ⟨_, rfl, .inr (.inr ⟨h5, _, [false], rfl, u68 _ _ v5, (by show 1 ≤ 1000; decide), ?_, rfl, rfl⟩)⟩
          exact .cons (.inr (.inr (.inl ⟨h4, 0, 1, 120, rfl, (by rw [u58 _ _ v4, sign_x]), (by decide), rfl⟩))) .nil
        · exact ⟨_, rfl, .inl ⟨⟨_, .base (.dK (u78 _ _ v6)), kit_ty (by decide +kernel)⟩, rfl⟩⟩
        · refine ⟨_, rfl, .inr (.inr ⟨h7, _, [false], rfl, u8 _ _ v7, (by show 1 ≤ 1000; decide), ?_, rfl, rfl⟩)⟩
          exact .cons (.inr (.inl ⟨⟨_, .base .non, kit_ty (by decide +kernel)⟩, rfl⟩)) .nil
      refine ⟨.ref pd, rfl, pd, _, 41, .int g1, rfl, rfl, SqL.of (u18 _ _ e13), (show atI _ ((41 : Nat) : Int) = _ from atI_nat at1), h8, _, g1, xb, rfl, rfl, SqL.of v8, hxb, ?_⟩
      have S14 := S13.trans u18
      have e14 := u18 _ _ e13
      clear u1 u2 u3 u4 u5 u6 u7 u8 u78 u68 u58 u48 u38 u28 u18 v1 v2 v3 v4 v5 v6 v7 v8 hbl nh1 nh2 nh3 nh4 nh5 nh6 nh7 nh8 S13 e13
      refine ⟨.str (tx bs), rfl, xb, rfl, 1, .str (tx bs), xb, .heap, rfl, .inr (.inr (.inl ⟨rfl, ⟨bs, rfl, hR, hwb⟩, rfl⟩)), fun H15 s15 => ⟨rfl, _, rfl, iteF ?_⟩⟩
      refine ⟨(by show 0 ≤ sizeLine; decide), fun k1 nk1 => ?_⟩
      have u1 := same_upd (o := .lst []) nk1
      have v1 : upd H15 k1 (.lst []) k1 = some (.lst []) := upd_same
      generalize upd H15 k1 (.lst []) = J1 at u1 v1
      refine ⟨1, .str "o.", .ref k1, .heap, rfl, .inr (.inr (.inl ⟨rfl, ⟨[true, false], by rw [o_tx], ⟨by decide, by decide⟩, .inr (.inl ⟨k1, [], rfl, ⟨[], v1, rfl⟩, by decide, heap_none.symm⟩)⟩, rfl⟩)), fun H16 s16 => ⟨rfl, _, rfl, iteF ?_⟩⟩
      have u16 := s15.trans (u1.trans s16)
      have S16 := S14.trans u16
      have e16 := u16 _ _ e14
      clear s15 u1 v1 nk1 s16 S14 e14
      -- rows that are none
      have lx : ("x" : Str).length = 1 := by decide +kernel
      refine ⟨.str (tx bs), rfl, (by show 1 ≤ sizeLine; decide), fun lA nA => ⟨.str (tx bs), rfl, (by show 1 ≤ sizeLine; decide), fun tB nB => ⟨.str (tx bs), rfl, tx bs, "x", rfl, rfl, (by rw [lx, tx_len]; exact fit (by omega)), .str (tx bs), rfl, tx bs, 31, rfl, rfl, (by rw [tx_len]; omega), by decide, fun dE nE => ⟨(by show 8 ≤ sizeLine; decide), fun lO nO => ?_⟩⟩⟩⟩
      have sA := same_upd (o := .lst [.str (tx bs)]) nA
      have eA : upd H16 lA (.lst [.str (tx bs)]) lA = some (.lst [.str (tx bs)]) := upd_same
      generalize upd H16 lA (.lst [.str (tx bs)]) = HA at sA eA nB nE nO
      have sB := same_upd (o := .tup [.str (tx bs)]) nB
      have eB : upd HA tB (.tup [.str (tx bs)]) tB = some (.tup [.str (tx bs)]) := upd_same
      generalize upd HA tB (.tup [.str (tx bs)]) = HB at sB eB nE nO
      have sE := same_upd (o := .dK []) nE
      have eE : upd HB dE (.dK []) dE = some (.dK []) := upd_same
      generalize upd HB dE (.dK []) = HE1 at sE eE nO
      generalize hbl : [V.str "", .non, .int 5, .ref lA, .ref tB, .str (tx bs ++ "x"), .str (repS (tx bs) 31), .ref dE] = bl2 at nO
      have sO := same_upd (o := .lst bl2) nO
      have eO : upd HE1 lO (.lst bl2) lO = some (.lst bl2) := upd_same
      generalize upd HE1 lO (.lst bl2) = HO1 at sO eO
      have s3O : Same H16 HO1 := ((sA.trans sB).trans sE).trans sO
      obtain ⟨xo, hxo, hwo⟩ : ∃ b, atI bl2 g1 = some b ∧ RowB K HO1 b false := by
        rw [← hbl]
        rcases (show g1 = 0 ∨ g1 = 1 ∨ g1 = 2 ∨ g1 = 3 ∨ g1 = 4 ∨ g1 = 5 ∨ g1 = 6 ∨ g1 = 7 by omega) with rfl | rfl | rfl | rfl | rfl | rfl | rfl | rfl
        · exact ⟨_, rfl, .inr ⟨_, rfl, by decide +kernel, by decide +kernel⟩⟩
        · exact ⟨_, rfl, .inl ⟨notxt_non, rfl⟩⟩
        · exact ⟨_, rfl, .inl ⟨notxt_int, rfl⟩⟩
        · exact ⟨_, rfl, .inl ⟨notxt_lst (((sB.trans sE).trans sO) _ _ eA), rfl⟩⟩
        · exact ⟨_, rfl, .inl ⟨notxt_tup ((sE.trans sO) _ _ eB), rfl⟩⟩
        · exact ⟨_, rfl, .inr ⟨_, rfl, by rw [strLen_append, lx, tx_len]; omega, by rw [sign_x, isRow_more (by decide)]⟩⟩
        · have hrl := repS_len (tx bs) 31
          rw [tx_len] at hrl
          exact ⟨_, rfl, .inr ⟨_, rfl, by rw [hrl]; omega, by rw [isRow_far (by rw [hrl]; omega)]⟩⟩
        · exact ⟨_, rfl, .inl ⟨notxt_dK (sO _ _ eE), rfl⟩⟩
      refine ⟨.ref pd, rfl, pd, _, 41, .int g1, rfl, rfl, SqL.of (s3O _ _ e16), (show atI _ ((41 : Nat) : Int) = _ from atI_nat at1), lO, _, g1, xo, rfl, rfl, SqL.of eO, hxo, ?_⟩
      have S17 := S16.trans s3O
      clear sA sB sE sO eA eB eE eO hbl nA nB nE nO s3O S16 e16
      refine ⟨4, rfl, (by decide), (by decide), fun D nD => ?_⟩
      refine lc_range (lo := 0) (n := 4) (fun i H' => Same HO1 H' ∧ H' D = some (.lst (List.replicate i (.int 3)))) ⟨same_upd nD, upd_same⟩ ?_ ?_
      · rintro i H' hi ⟨s', eD⟩
        refine ⟨rfl, .int (0 + (i : Int)), rfl, xo, rfl, xb, rfl, 0 + (i : Int), xo, xb, .row, rfl, .inl ⟨by omega, rowB_same s' hwo, rfl⟩, fun H'' s'' => ?_⟩
        refine ⟨_, s'' _ _ eD, fit' (by rw [List.length_replicate]; omega), same_new nD (s'.trans s''), ?_⟩
        rw [upd_same, List.replicate_succ']
        rfl
      rintro H18 ⟨s18, eD⟩
      refine ⟨(by show 4 ≤ sizeLine; decide), fun l9 nl9 => ?_⟩
      have s19 := same_upd (o := .lst [.int 3, .int 3, .int 3, .int 3]) nl9
      have e9 : upd H18 l9 (.lst [.int 3, .int 3, .int 3, .int 3]) l9 = some (.lst [.int 3, .int 3, .int 3, .int 3]) := upd_same
      generalize upd H18 l9 (.lst [.int 3, .int 3, .int 3, .int 3]) = H19 at s19 e9
      refine ⟨.list [.int 3, .int 3, .int 3, .int 3], .list [.int 3, .int 3, .int 3, .int 3], .lst (SqL.of (s19 _ _ eD)) (.cons (.int _) (.cons (.int _) (.cons (.int _) (.cons (.int _) .nil)))), .lst (SqL.of e9) (.cons (.int _) (.cons (.int _) (.cons (.int _) (.cons (.int _) .nil)))), by decide +kernel, by decide +kernel, _, rfl, ?_⟩
      refine iteF ?_
      exact ⟨_, _, _, _, _, _, _, rfl, S17.trans (s18.trans s19)⟩
    rintro σ H4 ⟨y1, y2, y3, y4, y5, y6, y7, rfl, s4⟩
    refine ⟨b12, (by rw [← b12_tx]; rfl), ⟨by decide, by decide⟩, by rw [b12_gn]; decide, fun H5 p5 hs s5 n5 HD PF => ?_⟩
    obtain ⟨asF, eF, lF, _, _⟩ := HD.at_
    have ln : ((asF.map V.ref).length : Int) = 495 := by rw [List.length_map, lF, PF.1, b12_gn]; rfl
    refine ⟨p5, _, rfl, .inl (SqL.of eF), rfl, true, ?_, ?_⟩
    · rw [ln]
      rfl
    refine ⟨2, .str "ooooo.......", .int 0, .many, rfl, .inr (.inr (.inr ⟨rfl, ⟨b12', by rw [← b12_tx'], ⟨by decide, by decide⟩, by rw [b12_gn']; decide⟩, rfl⟩)), fun H6 s6 => ⟨rfl, q _⟩⟩
end
end Hop

set_option Elab.async false
set_option linter.all false
set_option maxRecDepth 100000
set_option maxHeartbeats 2000000
namespace Hop
open PySem L2 HopR
open C8 (InsC call_isC)
/-! ### what the top has written -/
theorem all_mk {l : PySem.W.OpenLaw} {w : World} {K : PySem.W.Frag} {h : Heap} {mg : Str → Option Value} {fa : Addr} (X : K.In h) (G : h.Ns mainGlobals mg) (hfa : mg "law" = some (.ref fa))
    {f1 : Addr} {od1 an1 : Option Addr} {sl1 : Array (Option Value)} {oc1 kV1 dc1 pm1 cd1 ct1 : Value}
    {f0 : Addr} {od0 an0 : Option Addr} {sl0 : Array (Option Value)} {oc0 kV0 dc0 pm0 cd0 ct0 : Value}
    {fR1 : Addr} {odR1 anR1 : Option Addr} {slR1 : Array (Option Value)} {ocR1 kVR1 dcR1 pmR1 cdR1 ctR1 : Value}
    {fR2 : Addr} {odR2 anR2 : Option Addr} {slR2 : Array (Option Value)} {ocR2 kVR2 dcR2 pmR2 cdR2 ctR2 : Value}
    {fH1 : Addr} {odH1 anH1 : Option Addr} {slH1 : Array (Option Value)} {ocH1 kVH1 dcH1 pmH1 cdH1 ctH1 : Value}
    {fH2 : Addr} {odH2 anH2 : Option Addr} {slH2 : Array (Option Value)} {ocH2 kVH2 dcH2 pmH2 cdH2 ctH2 : Value}
    {fH3 : Addr} {odH3 anH3 : Option Addr} {slH3 : Array (Option Value)} {ocH3 kVH3 dcH3 pmH3 cdH3 ctH3 : Value}
    {fH4 : Addr} {odH4 anH4 : Option Addr} {slH4 : Array (Option Value)} {ocH4 kVH4 dcH4 pmH4 cdH4 ctH4 : Value}
    {fH5 : Addr} {odH5 anH5 : Option Addr} {slH5 : Array (Option Value)} {ocH5 kVH5 dcH5 pmH5 cdH5 ctH5 : Value}
    {fK1 : Addr} {odK1 anK1 : Option Addr} {slK1 : Array (Option Value)} {ocK1 kVK1 dcK1 pmK1 cdK1 ctK1 : Value}
    {fK2 : Addr} {odK2 anK2 : Option Addr} {slK2 : Array (Option Value)} {ocK2 kVK2 dcK2 pmK2 cdK2 ctK2 : Value}
    {fK3 : Addr} {odK3 anK3 : Option Addr} {slK3 : Array (Option Value)} {ocK3 kVK3 dcK3 pmK3 cdK3 ctK3 : Value}
    {fK4 : Addr} {odK4 anK4 : Option Addr} {slK4 : Array (Option Value)} {ocK4 kVK4 dcK4 pmK4 cdK4 ctK4 : Value}
    {fK5 : Addr} {odK5 anK5 : Option Addr} {slK5 : Array (Option Value)} {ocK5 kVK5 dcK5 pmK5 cdK5 ctK5 : Value}
    {fK6 : Addr} {odK6 anK6 : Option Addr} {slK6 : Array (Option Value)} {ocK6 kVK6 dcK6 pmK6 cdK6 ctK6 : Value}
    {fw : Addr} {odw anw : Option Addr} {slw : Array (Option Value)} {ocw kVw dcw pmw cdw ctw : Value}
    {fr : Addr} {odr anr : Option Addr} {slr : Array (Option Value)} {ocr kVr dcr pmr cdr ctr : Value}
    {fq3 : Addr} {odq3 anq3 : Option Addr} {slq3 : Array (Option Value)} {ocq3 kVq3 dcq3 pmq3 cdq3 ctq3 : Value}
    {fq4 : Addr} {odq4 anq4 : Option Addr} {slq4 : Array (Option Value)} {ocq4 kVq4 dcq4 pmq4 cdq4 ctq4 : Value}
    {fq5 : Addr} {odq5 anq5 : Option Addr} {slq5 : Array (Option Value)} {ocq5 kVq5 dcq5 pmq5 cdq5 ctq5 : Value}
    {fq6 : Addr} {odq6 anq6 : Option Addr} {slq6 : Array (Option Value)} {ocq6 kVq6 dcq6 pmq6 cdq6 ctq6 : Value}
    {fq7 : Addr} {odq7 anq7 : Option Addr} {slq7 : Array (Option Value)} {ocq7 kVq7 dcq7 pmq7 cdq7 ctq7 : Value}
    {fL : Addr} {odL anL : Option Addr} {slL : Array (Option Value)} {ocL kVL dcL pmL cdL ctL : Value}
    {tb0 : Tok}
    {tf0 : Tok}
    {tm0 : Tok}
    {tm5 : Tok}
    {d : Addr} {es : Array DictEntry} {n : Nat} {tvo tvp : Tok}
    {HE NN NR TM NH : Addr}
    (a1 : PySem.W.nsIn K mainGlobals "is_whole" = some (some (.ref f1))) (l1 : K.lookup f1 = some ⟨oc1, od1, .func (PySem.W.fnOf "is_whole" "is_whole" (defArgs sIsWhole) (defBody sIsWhole) (defScope sIsWhole) .none kV1 dc1 pm1 an1 cd1 ct1), sl1⟩) (c1 : PySem.W.codeIn K cd1 "is_whole" = true) (k1 : PySem.W.keepIn K (.ref f1) = true)
    (a0 : PySem.W.nsIn K mainGlobals "need_number" = some (some (.ref f0))) (l0 : K.lookup f0 = some ⟨oc0, od0, .func (PySem.W.fnOf "need_number" "need_number" (defArgs sNeedNum) (defBody sNeedNum) (defScope sNeedNum) .none kV0 dc0 pm0 an0 cd0 ct0), sl0⟩) (c0 : PySem.W.codeIn K cd0 "need_number" = true) (k0 : PySem.W.keepIn K (.ref f0) = true)
    (aR1 : PySem.W.nsIn K mainGlobals "is_row" = some (some (.ref fR1))) (lR1 : K.lookup fR1 = some ⟨ocR1, odR1, .func (PySem.W.fnOf "is_row" "is_row" (defArgs sIsRow) (defBody sIsRow) (defScope sIsRow) .none kVR1 dcR1 pmR1 anR1 cdR1 ctR1), slR1⟩) (cR1 : PySem.W.codeIn K cdR1 "is_row" = true) (kR1 : PySem.W.keepIn K (.ref fR1) = true)
    (aR2 : PySem.W.nsIn K mainGlobals "need_row" = some (some (.ref fR2))) (lR2 : K.lookup fR2 = some ⟨ocR2, odR2, .func (PySem.W.fnOf "need_row" "need_row" (defArgs sNeedRow) (defBody sNeedRow) (defScope sNeedRow) .none kVR2 dcR2 pmR2 anR2 cdR2 ctR2), slR2⟩) (cR2 : PySem.W.codeIn K cdR2 "need_row" = true) (kR2 : PySem.W.keepIn K (.ref fR2) = true)
    (aH1 : PySem.W.nsIn K mainGlobals "cells_of" = some (some (.ref fH1))) (lH1 : K.lookup fH1 = some ⟨ocH1, odH1, .func (PySem.W.fnOf "cells_of" "cells_of" (defArgs sCells) (defBody sCells) (defScope sCells) .none kVH1 dcH1 pmH1 anH1 cdH1 ctH1), slH1⟩) (cH1 : PySem.W.codeIn K cdH1 "cells_of" = true) (kH1 : PySem.W.keepIn K (.ref fH1) = true)
    (aH2 : PySem.W.nsIn K mainGlobals "is_filled" = some (some (.ref fH2))) (lH2 : K.lookup fH2 = some ⟨ocH2, odH2, .func (PySem.W.fnOf "is_filled" "is_filled" (defArgs sFilled) (defBody sFilled) (defScope sFilled) .none kVH2 dcH2 pmH2 anH2 cdH2 ctH2), slH2⟩) (cH2 : PySem.W.codeIn K cdH2 "is_filled" = true) (kH2 : PySem.W.keepIn K (.ref fH2) = true)
    (aH3 : PySem.W.nsIn K mainGlobals "due_cells" = some (some (.ref fH3))) (lH3 : K.lookup fH3 = some ⟨ocH3, odH3, .func (PySem.W.fnOf "due_cells" "due_cells" (defArgs sDue) (defBody sDue) (defScope sDue) .none kVH3 dcH3 pmH3 anH3 cdH3 ctH3), slH3⟩) (cH3 : PySem.W.codeIn K cdH3 "due_cells" = true) (kH3 : PySem.W.keepIn K (.ref fH3) = true)
    (aH4 : PySem.W.nsIn K mainGlobals "is_heap" = some (some (.ref fH4))) (lH4 : K.lookup fH4 = some ⟨ocH4, odH4, .func (PySem.W.fnOf "is_heap" "is_heap" (defArgs sIsHeap) (defBody sIsHeap) (defScope sIsHeap) .none kVH4 dcH4 pmH4 anH4 cdH4 ctH4), slH4⟩) (cH4 : PySem.W.codeIn K cdH4 "is_heap" = true) (kH4 : PySem.W.keepIn K (.ref fH4) = true)
    (aH5 : PySem.W.nsIn K mainGlobals "need_heap" = some (some (.ref fH5))) (lH5 : K.lookup fH5 = some ⟨ocH5, odH5, .func (PySem.W.fnOf "need_heap" "need_heap" (defArgs sNeedHeap) (defBody sNeedHeap) (defScope sNeedHeap) .none kVH5 dcH5 pmH5 anH5 cdH5 ctH5), slH5⟩) (cH5 : PySem.W.codeIn K cdH5 "need_heap" = true) (kH5 : PySem.W.keepIn K (.ref fH5) = true)
    (aK1 : PySem.W.nsIn K mainGlobals "counts_of" = some (some (.ref fK1))) (lK1 : K.lookup fK1 = some ⟨ocK1, odK1, .func (PySem.W.fnOf "counts_of" "counts_of" (defArgs sCounts) (defBody sCounts) (defScope sCounts) .none kVK1 dcK1 pmK1 anK1 cdK1 ctK1), slK1⟩) (cK1 : PySem.W.codeIn K cdK1 "counts_of" = true) (kK1 : PySem.W.keepIn K (.ref fK1) = true)
    (aK2 : PySem.W.nsIn K mainGlobals "heaps_many" = some (some (.ref fK2))) (lK2 : K.lookup fK2 = some ⟨ocK2, odK2, .func (PySem.W.fnOf "heaps_many" "heaps_many" (defArgs sHeaps) (defBody sHeaps) (defScope sHeaps) .none kVK2 dcK2 pmK2 anK2 cdK2 ctK2), slK2⟩) (cK2 : PySem.W.codeIn K cdK2 "heaps_many" = true) (kK2 : PySem.W.keepIn K (.ref fK2) = true)
    (aK3 : PySem.W.nsIn K mainGlobals "heap_by" = some (some (.ref fK3))) (lK3 : K.lookup fK3 = some ⟨ocK3, odK3, .func (PySem.W.fnOf "heap_by" "heap_by" (defArgs sHeapBy) (defBody sHeapBy) (defScope sHeapBy) .none kVK3 dcK3 pmK3 anK3 cdK3 ctK3), slK3⟩) (cK3 : PySem.W.codeIn K cdK3 "heap_by" = true) (kK3 : PySem.W.keepIn K (.ref fK3) = true)
    (aK4 : PySem.W.nsIn K mainGlobals "heap_at" = some (some (.ref fK4))) (lK4 : K.lookup fK4 = some ⟨ocK4, odK4, .func (PySem.W.fnOf "heap_at" "heap_at" (defArgs sHeapAt) (defBody sHeapAt) (defScope sHeapAt) .none kVK4 dcK4 pmK4 anK4 cdK4 ctK4), slK4⟩) (cK4 : PySem.W.codeIn K cdK4 "heap_at" = true) (kK4 : PySem.W.keepIn K (.ref fK4) = true)
    (aK5 : PySem.W.nsIn K mainGlobals "heap_number" = some (some (.ref fK5))) (lK5 : K.lookup fK5 = some ⟨ocK5, odK5, .func (PySem.W.fnOf "heap_number" "heap_number" (defArgs sHeapNum) (defBody sHeapNum) (defScope sHeapNum) .none kVK5 dcK5 pmK5 anK5 cdK5 ctK5), slK5⟩) (cK5 : PySem.W.codeIn K cdK5 "heap_number" = true) (kK5 : PySem.W.keepIn K (.ref fK5) = true)
    (aK6 : PySem.W.nsIn K mainGlobals "heaps_of" = some (some (.ref fK6))) (lK6 : K.lookup fK6 = some ⟨ocK6, odK6, .func (PySem.W.fnOf "heaps_of" "heaps_of" (defArgs sHeapsOf) (defBody sHeapsOf) (defScope sHeapsOf) .none kVK6 dcK6 pmK6 anK6 cdK6 ctK6), slK6⟩) (cK6 : PySem.W.codeIn K cdK6 "heaps_of" = true) (kK6 : PySem.W.keepIn K (.ref fK6) = true)
    (aw : PySem.W.nsIn K mainGlobals "_law_drawn" = some (some (.ref fw))) (lw : K.lookup fw = some ⟨ocw, odw, .func (PySem.W.fnOf "_law_drawn" "_law_drawn" (defArgs sDrawn) (defBody sDrawn) (defScope sDrawn) .none kVw dcw pmw anw cdw ctw), slw⟩) (cw : PySem.W.codeIn K cdw "_law_drawn" = true) (kw : PySem.W.keepIn K (.ref fw) = true)
    (ar : PySem.W.nsIn K mainGlobals "_law_row" = some (some (.ref fr))) (lr : K.lookup fr = some ⟨ocr, odr, .func (PySem.W.fnOf "_law_row" "_law_row" (defArgs sLRow) (defBody sLRow) (defScope sLRow) .none kVr dcr pmr anr cdr ctr), slr⟩) (cr : PySem.W.codeIn K cdr "_law_row" = true) (kr : PySem.W.keepIn K (.ref fr) = true)
    (aq3 : PySem.W.nsIn K mainGlobals "_law_course" = some (some (.ref fq3))) (lq3 : K.lookup fq3 = some ⟨ocq3, odq3, .func (PySem.W.fnOf "_law_course" "_law_course" (defArgs sLCourse) (defBody sLCourse) (defScope sLCourse) .none kVq3 dcq3 pmq3 anq3 cdq3 ctq3), slq3⟩) (cq3 : PySem.W.codeIn K cdq3 "_law_course" = true) (kq3 : PySem.W.keepIn K (.ref fq3) = true)
    (aq4 : PySem.W.nsIn K mainGlobals "_law_all" = some (some (.ref fq4))) (lq4 : K.lookup fq4 = some ⟨ocq4, odq4, .func (PySem.W.fnOf "_law_all" "_law_all" (defArgs sLAll) (defBody sLAll) (defScope sLAll) .none kVq4 dcq4 pmq4 anq4 cdq4 ctq4), slq4⟩) (cq4 : PySem.W.codeIn K cdq4 "_law_all" = true) (kq4 : PySem.W.keepIn K (.ref fq4) = true)
    (aq5 : PySem.W.nsIn K mainGlobals "_law_kind" = some (some (.ref fq5))) (lq5 : K.lookup fq5 = some ⟨ocq5, odq5, .func (PySem.W.fnOf "_law_kind" "_law_kind" (defArgs sLKind) (defBody sLKind) (defScope sLKind) .none kVq5 dcq5 pmq5 anq5 cdq5 ctq5), slq5⟩) (cq5 : PySem.W.codeIn K cdq5 "_law_kind" = true) (kq5 : PySem.W.keepIn K (.ref fq5) = true)
    (aq6 : PySem.W.nsIn K mainGlobals "_law_small" = some (some (.ref fq6))) (lq6 : K.lookup fq6 = some ⟨ocq6, odq6, .func (PySem.W.fnOf "_law_small" "_law_small" (defArgs sLSmall) (defBody sLSmall) (defScope sLSmall) .none kVq6 dcq6 pmq6 anq6 cdq6 ctq6), slq6⟩) (cq6 : PySem.W.codeIn K cdq6 "_law_small" = true) (kq6 : PySem.W.keepIn K (.ref fq6) = true)
    (aq7 : PySem.W.nsIn K mainGlobals "_law_great" = some (some (.ref fq7))) (lq7 : K.lookup fq7 = some ⟨ocq7, odq7, .func (PySem.W.fnOf "_law_great" "_law_great" (defArgs sLGreat) (defBody sLGreat) (defScope sLGreat) .none kVq7 dcq7 pmq7 anq7 cdq7 ctq7), slq7⟩) (cq7 : PySem.W.codeIn K cdq7 "_law_great" = true) (kq7 : PySem.W.keepIn K (.ref fq7) = true)
    (aL : PySem.W.nsIn K mainGlobals "law" = some (some (.ref fL))) (lL : K.lookup fL = some ⟨ocL, odL, .func (PySem.W.fnOf "law" "law" (defArgs sLaw) (defBody sLaw) (defScope sLaw) .none kVL dcL pmL anL cdL ctL), slL⟩) (cL : PySem.W.codeIn K cdL "law" = true) (kL : PySem.W.keepIn K (.ref fL) = true)
    (z0 : PySem.W.nsIn K mainGlobals "len" = some none)
    (z1 : PySem.W.nsIn K mainGlobals "range" = some none)
    (z2 : PySem.W.nsIn K mainGlobals "isinstance" = some none)
    (z3 : PySem.W.nsIn K mainGlobals "int" = some none)
    (z4 : PySem.W.nsIn K mainGlobals "bool" = some none)
    (z5 : PySem.W.nsIn K mainGlobals "all" = some none)
    (z6 : PySem.W.nsIn K mainGlobals "str" = some none)
    (z7 : PySem.W.nsIn K mainGlobals "reversed" = some none)
    (z8 : PySem.W.nsIn K mainGlobals "sorted" = some none)
    (z9 : PySem.W.nsIn K mainGlobals "list" = some none)
    (z10 : PySem.W.nsIn K mainGlobals "repr" = some none)
    (z11 : PySem.W.nsIn K mainGlobals "enumerate" = some none)
    (z12 : PySem.W.nsIn K mainGlobals "tuple" = some none)
    (z13 : PySem.W.nsIn K mainGlobals "sum" = some none)
    (gb0 : PySem.W.nsIn K mainGlobals "BEAD" = some (some (.str "o" tb0)))
    (gf0 : PySem.W.nsIn K mainGlobals "FREE" = some (some (.str "." tf0)))
    (gm0 : PySem.W.nsIn K mainGlobals "MOST_PLACES" = some (some (.int 30 tm0)))
    (gm5 : PySem.W.nsIn K mainGlobals "MOST_TOLD" = some (some (.int 500 tm5)))
    (gd : PySem.W.nsIn K mainGlobals "OTHER_SIGN" = some (some (.ref d)))
    (ld : K.lookup d = some ⟨.type "dict", none, .dict es n, #[]⟩)
    (kd : PySem.W.KeysLit w.params es.toList)
    (sd : (d == sysModules) = false)
    (keysOk : keysAre es)
    (vo : PySem.W.nsIn K d "o" = some (some (.str "." tvo)))
    (vp : PySem.W.nsIn K d "." = some (some (.str "o" tvp)))
    (g_HE : PySem.W.nsIn K mainGlobals "HopError" = some (some (.ref HE)))
    (g_NN : PySem.W.nsIn K mainGlobals "NoNumber" = some (some (.ref NN)))
    (g_NR : PySem.W.nsIn K mainGlobals "NoRow" = some (some (.ref NR)))
    (g_TM : PySem.W.nsIn K mainGlobals "TooMany" = some (some (.ref TM)))
    (g_NH : PySem.W.nsIn K mainGlobals "NoHeap" = some (some (.ref NH)))
    (d_HE : PySem.W.hasDictIn K HE = true)
    (t_HE : PySem.W.typeIn K (.ref HE) = some (.type "type"))
    (d_NN : PySem.W.hasDictIn K NN = true)
    (t_NN : PySem.W.typeIn K (.ref NN) = some (.type "type"))
    (d_NR : PySem.W.hasDictIn K NR = true)
    (t_NR : PySem.W.typeIn K (.ref NR) = some (.type "type"))
    (d_TM : PySem.W.hasDictIn K TM = true)
    (t_TM : PySem.W.typeIn K (.ref TM) = some (.type "type"))
    (d_NH : PySem.W.hasDictIn K NH = true)
    (t_NH : PySem.W.typeIn K (.ref NH) = some (.type "type"))
    (b_HE : PySem.W.subIn K (.ref HE) (.type "BaseException") = some true)
    (b_NH : PySem.W.subIn K (.ref NH) (.type "BaseException") = some true)
    (b_NN : PySem.W.subIn K (.ref NN) (.type "BaseException") = some true)
    (b_NR : PySem.W.subIn K (.ref NR) (.type "BaseException") = some true)
    (b_TM : PySem.W.subIn K (.ref TM) (.type "BaseException") = some true)
    (q_hn : PySem.W.specialIn K (.builtin "object.__class__") "__get__" = some (some (.builtin "getset_descriptor.__get__")))
    (q_htk : PySem.W.takesIn K (.builtin "object.__class__") = some true)
    (x_NR : PySem.W.excIn K NR [.type "ValueError", .type "Exception", .type "BaseException", .type "object"] "ValueError.__new__" = true)
    (k_NR : PySem.W.keepIn K (.ref NR) = true)
    (ga_NR : PySem.W.findIn K (.ref NR) "__getattribute__" = some (some (.builtin "BaseException.__getattribute__")))
    (gt_NR : PySem.W.findIn K (.ref NR) "__getattr__" = some none)
    (cl_NR : PySem.W.findIn K (.ref NR) "__class__" = some (some (.builtin "object.__class__")))
    (mo_NR : PySem.W.mroIn K NR (.type "object") = some true)
    (x_NH : PySem.W.excIn K NH [.type "ValueError", .type "Exception", .type "BaseException", .type "object"] "ValueError.__new__" = true)
    (k_NH : PySem.W.keepIn K (.ref NH) = true)
    (ga_NH : PySem.W.findIn K (.ref NH) "__getattribute__" = some (some (.builtin "BaseException.__getattribute__")))
    (gt_NH : PySem.W.findIn K (.ref NH) "__getattr__" = some none)
    (cl_NH : PySem.W.findIn K (.ref NH) "__class__" = some (some (.builtin "object.__class__")))
    (mo_NH : PySem.W.mroIn K NH (.type "object") = some true)
    (x_NN : PySem.W.excIn K NN [.type "ValueError", .type "Exception", .type "BaseException", .type "object"] "ValueError.__new__" = true)
    (k_NN : PySem.W.keepIn K (.ref NN) = true)
    (ga_NN : PySem.W.findIn K (.ref NN) "__getattribute__" = some (some (.builtin "BaseException.__getattribute__")))
    (gt_NN : PySem.W.findIn K (.ref NN) "__getattr__" = some none)
    (cl_NN : PySem.W.findIn K (.ref NN) "__class__" = some (some (.builtin "object.__class__")))
    (mo_NN : PySem.W.mroIn K NN (.type "object") = some true)
    (x_TM : PySem.W.excIn K TM [.type "ValueError", .type "Exception", .type "BaseException", .type "object"] "ValueError.__new__" = true)
    (k_TM : PySem.W.keepIn K (.ref TM) = true)
    (ga_TM : PySem.W.findIn K (.ref TM) "__getattribute__" = some (some (.builtin "BaseException.__getattribute__")))
    (gt_TM : PySem.W.findIn K (.ref TM) "__getattr__" = some none)
    (cl_TM : PySem.W.findIn K (.ref TM) "__class__" = some (some (.builtin "object.__class__")))
    (mo_TM : PySem.W.mroIn K TM (.type "object") = some true)
    (s_NN_HE : PySem.W.subIn K (.ref NN) (.ref HE) = some true)
    (s_NH_HE : PySem.W.subIn K (.ref NH) (.ref HE) = some true)
    (s_TM_HE : PySem.W.subIn K (.ref TM) (.ref HE) = some true)
    (s_NR_HE : PySem.W.subIn K (.ref NR) (.ref HE) = some true)
    (s_NN_NH : PySem.W.subIn K (.ref NN) (.ref NH) = some false)
    (e_NN_NH : NN ≠ NH)
    (s_NN_TM : PySem.W.subIn K (.ref NN) (.ref TM) = some false)
    (e_NN_TM : NN ≠ TM)
    (s_NN_NR : PySem.W.subIn K (.ref NN) (.ref NR) = some false)
    (e_NN_NR : NN ≠ NR)
    (s_NH_NN : PySem.W.subIn K (.ref NH) (.ref NN) = some false)
    (e_NH_NN : NH ≠ NN)
    (s_NH_TM : PySem.W.subIn K (.ref NH) (.ref TM) = some false)
    (e_NH_TM : NH ≠ TM)
    (s_NH_NR : PySem.W.subIn K (.ref NH) (.ref NR) = some false)
    (e_NH_NR : NH ≠ NR)
    (s_TM_NN : PySem.W.subIn K (.ref TM) (.ref NN) = some false)
    (e_TM_NN : TM ≠ NN)
    (s_TM_NH : PySem.W.subIn K (.ref TM) (.ref NH) = some false)
    (e_TM_NH : TM ≠ NH)
    (s_TM_NR : PySem.W.subIn K (.ref TM) (.ref NR) = some false)
    (e_TM_NR : TM ≠ NR)
    (s_NR_NN : PySem.W.subIn K (.ref NR) (.ref NN) = some false)
    (e_NR_NN : NR ≠ NN)
    (s_NR_NH : PySem.W.subIn K (.ref NR) (.ref NH) = some false)
    (e_NR_NH : NR ≠ NH)
    (s_NR_TM : PySem.W.subIn K (.ref NR) (.ref TM) = some false)
    (e_NR_TM : NR ≠ TM)
    : ∃ fd : FuncData, (∀ (s : Shared) (v : Value), BindsTo s fd ⟨[v], []⟩ [("_law_script", v)]) ∧ ∀ base : Heap, K.In base → base.Ns mainGlobals mg → FnOkG l.prog w K mg base CX0 11 fa fd ["_law_script"] (spLaw K) := by
  have e := hfa.symm.trans (PySem.W.mg_of X G aL)
  cases e
  have F1 := fun_mk (st := sIsWhole) l1 c1 k1
  have b1 := F1.binds (ps := ["thing"]) fun _ _ _ _ _ _ us hl => match us, hl with | [_], _ => rfl
  have N1 := Fn.mk (ps := ["thing"]) F1 b1 (PySem.W.mg_of X G a1)
  have F0 := fun_mk (st := sNeedNum) l0 c0 k0
  have b0 := F0.binds (ps := ["thing", "least", "most"]) fun _ _ _ _ _ _ us hl => match us, hl with | [_, _, _], _ => rfl
  have N0 := Fn.mk (ps := ["thing", "least", "most"]) F0 b0 (PySem.W.mg_of X G a0)
  have FR1 := fun_mk (st := sIsRow) lR1 cR1 kR1
  have bR1 := FR1.binds (ps := ["thing"]) fun _ _ _ _ _ _ us hl => match us, hl with | [_], _ => rfl
  have NR1 := Fn.mk (ps := ["thing"]) FR1 bR1 (PySem.W.mg_of X G aR1)
  have FR2 := fun_mk (st := sNeedRow) lR2 cR2 kR2
  have bR2 := FR2.binds (ps := ["thing"]) fun _ _ _ _ _ _ us hl => match us, hl with | [_], _ => rfl
  have NR2 := Fn.mk (ps := ["thing"]) FR2 bR2 (PySem.W.mg_of X G aR2)
  have FH1 := fun_mk (st := sCells) lH1 cH1 kH1
  have bH1 := FH1.binds (ps := ["row"]) fun _ _ _ _ _ _ us hl => match us, hl with | [_], _ => rfl
  have NH1 := Fn.mk (ps := ["row"]) FH1 bH1 (PySem.W.mg_of X G aH1)
  have FH2 := fun_mk (st := sFilled) lH2 cH2 kH2
  have bH2 := FH2.binds (ps := ["thing"]) fun _ _ _ _ _ _ us hl => match us, hl with | [_], _ => rfl
  have NH2 := Fn.mk (ps := ["thing"]) FH2 bH2 (PySem.W.mg_of X G aH2)
  have FH3 := fun_mk (st := sDue) lH3 cH3 kH3
  have bH3 := FH3.binds (ps := ["row", "filled"]) fun _ _ _ _ _ _ us hl => match us, hl with | [_, _], _ => rfl
  have NH3 := Fn.mk (ps := ["row", "filled"]) FH3 bH3 (PySem.W.mg_of X G aH3)
  have FH4 := fun_mk (st := sIsHeap) lH4 cH4 kH4
  have bH4 := FH4.binds (ps := ["row", "thing"]) fun _ _ _ _ _ _ us hl => match us, hl with | [_, _], _ => rfl
  have NH4 := Fn.mk (ps := ["row", "thing"]) FH4 bH4 (PySem.W.mg_of X G aH4)
  have FH5 := fun_mk (st := sNeedHeap) lH5 cH5 kH5
  have bH5 := FH5.binds (ps := ["row", "thing"]) fun _ _ _ _ _ _ us hl => match us, hl with | [_, _], _ => rfl
  have NH5 := Fn.mk (ps := ["row", "thing"]) FH5 bH5 (PySem.W.mg_of X G aH5)
  have FK1 := fun_mk (st := sCounts) lK1 cK1 kK1
  have bK1 := FK1.binds (ps := ["row"]) fun _ _ _ _ _ _ us hl => match us, hl with | [_], _ => rfl
  have NK1 := Fn.mk (ps := ["row"]) FK1 bK1 (PySem.W.mg_of X G aK1)
  have FK2 := fun_mk (st := sHeaps) lK2 cK2 kK2
  have bK2 := FK2.binds (ps := ["row"]) fun _ _ _ _ _ _ us hl => match us, hl with | [_], _ => rfl
  have NK2 := Fn.mk (ps := ["row"]) FK2 bK2 (PySem.W.mg_of X G aK2)
  have FK3 := fun_mk (st := sHeapBy) lK3 cK3 kK3
  have bK3 := FK3.binds (ps := ["row", "counts", "number"]) fun _ _ _ _ _ _ us hl => match us, hl with | [_, _, _], _ => rfl
  have NK3 := Fn.mk (ps := ["row", "counts", "number"]) FK3 bK3 (PySem.W.mg_of X G aK3)
  have FK4 := fun_mk (st := sHeapAt) lK4 cK4 kK4
  have bK4 := FK4.binds (ps := ["row", "number"]) fun _ _ _ _ _ _ us hl => match us, hl with | [_, _], _ => rfl
  have NK4 := Fn.mk (ps := ["row", "number"]) FK4 bK4 (PySem.W.mg_of X G aK4)
  have FK5 := fun_mk (st := sHeapNum) lK5 cK5 kK5
  have bK5 := FK5.binds (ps := ["row", "heap"]) fun _ _ _ _ _ _ us hl => match us, hl with | [_, _], _ => rfl
  have NK5 := Fn.mk (ps := ["row", "heap"]) FK5 bK5 (PySem.W.mg_of X G aK5)
  have FK6 := fun_mk (st := sHeapsOf) lK6 cK6 kK6
  have bK6 := FK6.binds (ps := ["row"]) fun _ _ _ _ _ _ us hl => match us, hl with | [_], _ => rfl
  have NK6 := Fn.mk (ps := ["row"]) FK6 bK6 (PySem.W.mg_of X G aK6)
  have Fw := fun_mk (st := sDrawn) lw cw kw
  have bw := Fw.binds (ps := ["_law_cell", "_law_sizes"]) fun _ _ _ _ _ _ us hl => match us, hl with | [_, _], _ => rfl
  have Nw := Fn.mk (ps := ["_law_cell", "_law_sizes"]) Fw bw (PySem.W.mg_of X G aw)
  have Fr := fun_mk (st := sLRow) lr cr kr
  have br := Fr.binds (ps := ["_law_cell", "_law_most"]) fun _ _ _ _ _ _ us hl => match us, hl with | [_, _], _ => rfl
  have Nr := Fn.mk (ps := ["_law_cell", "_law_most"]) Fr br (PySem.W.mg_of X G ar)
  have Fq3 := fun_mk (st := sLCourse) lq3 cq3 kq3
  have bq3 := Fq3.binds (ps := ["_law_row_here", "_law_draws"]) fun _ _ _ _ _ _ us hl => match us, hl with | [_, _], _ => rfl
  have Nq3 := Fn.mk (ps := ["_law_row_here", "_law_draws"]) Fq3 bq3 (PySem.W.mg_of X G aq3)
  have Fq4 := fun_mk (st := sLAll) lq4 cq4 kq4
  have bq4 := Fq4.binds (ps := ["_law_row_here", "_law_letters"]) fun _ _ _ _ _ _ us hl => match us, hl with | [_, _], _ => rfl
  have Nq4 := Fn.mk (ps := ["_law_row_here", "_law_letters"]) Fq4 bq4 (PySem.W.mg_of X G aq4)
  have Fq5 := fun_mk (st := sLKind) lq5 cq5 kq5
  have bq5 := Fq5.binds (ps := ["_law_door", "_law_row_here", "_law_thing"]) fun _ _ _ _ _ _ us hl => match us, hl with | [_, _, _], _ => rfl
  have Nq5 := Fn.mk (ps := ["_law_door", "_law_row_here", "_law_thing"]) Fq5 bq5 (PySem.W.mg_of X G aq5)
  have Fq6 := fun_mk (st := sLSmall) lq6 cq6 kq6
  have bq6 := Fq6.binds (ps := ["_law_row_here"]) fun _ _ _ _ _ _ us hl => match us, hl with | [_], _ => rfl
  have Nq6 := Fn.mk (ps := ["_law_row_here"]) Fq6 bq6 (PySem.W.mg_of X G aq6)
  have Fq7 := fun_mk (st := sLGreat) lq7 cq7 kq7
  have bq7 := Fq7.binds (ps := ["_law_row_here", "_law_draws"]) fun _ _ _ _ _ _ us hl => match us, hl with | [_, _], _ => rfl
  have Nq7 := Fn.mk (ps := ["_law_row_here", "_law_draws"]) Fq7 bq7 (PySem.W.mg_of X G aq7)
  have y0 := PySem.W.mg_none_of X G z0
  have y1 := PySem.W.mg_none_of X G z1
  have y2 := PySem.W.mg_none_of X G z2
  have y3 := PySem.W.mg_none_of X G z3
  have y4 := PySem.W.mg_none_of X G z4
  have y5 := PySem.W.mg_none_of X G z5
  have y6 := PySem.W.mg_none_of X G z6
  have y7 := PySem.W.mg_none_of X G z7
  have y8 := PySem.W.mg_none_of X G z8
  have y9 := PySem.W.mg_none_of X G z9
  have y10 := PySem.W.mg_none_of X G z10
  have y11 := PySem.W.mg_none_of X G z11
  have y12 := PySem.W.mg_none_of X G z12
  have y13 := PySem.W.mg_none_of X G z13
  have wb0 := PySem.W.mg_of X G gb0
  have wf0 := PySem.W.mg_of X G gf0
  have wm0 := PySem.W.mg_of X G gm0
  have wm5 := PySem.W.mg_of X G gm5
  have TR : TxtR K w mg d es n := ⟨y0, y1, y5, y2, y6, y3, y4, y7, y8, y9, y10, ⟨_, wb0⟩, ⟨_, wf0⟩, ⟨_, wm0⟩, PySem.W.mg_of X G gd, ⟨ld, kd, sd⟩, ⟨_, vo⟩, ⟨_, vp⟩⟩
  have TH : TxtH mg := ⟨y11, y12⟩
  have T0 : TxtS mg := ⟨y13⟩
  have TM5 : TxtM mg := ⟨⟨_, wm5⟩⟩
  have HP : HpDefs K mg := ⟨⟨⟨_, _, NR1⟩, ⟨_, _, NR2⟩⟩, ⟨_, _, N1⟩, ⟨_, _, NH1⟩, ⟨_, _, NH2⟩, ⟨_, _, NH3⟩⟩
  have HQ : HqDefs K mg := ⟨HP, ⟨_, _, NH4⟩, ⟨_, _, NH5⟩⟩
  have CO : CoDefs K mg := ⟨⟨_, _, N1⟩, ⟨_, _, NR1⟩, ⟨_, _, NR2⟩, ⟨_, _, N0⟩, ⟨_, _, NK1⟩, ⟨_, _, NK3⟩⟩
  have DO : DoDefs K mg := ⟨CO, HQ, ⟨_, _, NH5⟩, ⟨_, _, NK4⟩, ⟨_, _, NK5⟩, ⟨_, _, NK6⟩, ⟨_, _, NK2⟩⟩
  have DF : Df K mg := ⟨DO, ⟨_, _, NK1⟩, ⟨_, _, Nw⟩, ⟨_, _, Nr⟩, ⟨_, _, Nq3⟩, ⟨_, _, Nq4⟩, ⟨_, _, Nq5⟩, ⟨_, _, Nq6⟩, ⟨_, _, Nq7⟩⟩
  have ZV : Ev K mg NR NH NN TM := ⟨PySem.W.mg_of X G g_NR, PySem.W.mg_of X G g_NH, PySem.W.mg_of X G g_NN, PySem.W.mg_of X G g_TM, ⟨x_NR, k_NR, b_NR, t_NR, ⟨ga_NR, gt_NR, b_NR, d_NR, cl_NR, q_hn, q_htk, mo_NR⟩⟩, ⟨x_NH, k_NH, b_NH, t_NH, ⟨ga_NH, gt_NH, b_NH, d_NH, cl_NH, q_hn, q_htk, mo_NH⟩⟩, ⟨x_NN, k_NN, b_NN, t_NN, ⟨ga_NN, gt_NN, b_NN, d_NN, cl_NN, q_hn, q_htk, mo_NN⟩⟩, ⟨x_TM, k_TM, b_TM, t_TM, ⟨ga_TM, gt_TM, b_TM, d_TM, cl_TM, q_hn, q_htk, mo_TM⟩⟩⟩
  have Z : EvK K mg HE NR NH NN TM := ⟨ZV, PySem.W.mg_of X G g_HE, fun a => match a with
    | .num => (PySem.W.exm_ref b_HE d_HE t_HE s_NN_HE)
    | .heap => (PySem.W.exm_ref b_HE d_HE t_HE s_NH_HE)
    | .many => (PySem.W.exm_ref b_HE d_HE t_HE s_TM_HE)
    | .row => (PySem.W.exm_ref b_HE d_HE t_HE s_NR_HE)
    , fun a b => match a, b with
    | .num, .num => kit_me
    | .num, .heap => (kit_own e_NN_NH d_NH t_NH s_NN_NH)
    | .num, .many => (kit_own e_NN_TM d_TM t_TM s_NN_TM)
    | .num, .row => (kit_own e_NN_NR d_NR t_NR s_NN_NR)
    | .heap, .num => (kit_own e_NH_NN d_NN t_NN s_NH_NN)
    | .heap, .heap => kit_me
    | .heap, .many => (kit_own e_NH_TM d_TM t_TM s_NH_TM)
    | .heap, .row => (kit_own e_NH_NR d_NR t_NR s_NH_NR)
    | .many, .num => (kit_own e_TM_NN d_NN t_NN s_TM_NN)
    | .many, .heap => (kit_own e_TM_NH d_NH t_NH s_TM_NH)
    | .many, .many => kit_me
    | .many, .row => (kit_own e_TM_NR d_NR t_NR s_TM_NR)
    | .row, .num => (kit_own e_NR_NN d_NN t_NN s_NR_NN)
    | .row, .heap => (kit_own e_NR_NH d_NH t_NH s_NR_NH)
    | .row, .many => (kit_own e_NR_TM d_TM t_TM s_NR_TM)
    | .row, .row => kit_me
    ⟩
  have T : TxtP K mg d := ⟨y0, y1, y2, y3, y4⟩
  exact ⟨PySem.W.fnOf "law" "law" (defArgs sLaw) (defBody sLaw) (defScope sLaw) .none kVL dcL pmL anL cdL ctL, fun s v => .of_eq rfl, fun base _ _ => ok_law (fun_mk (st := sLaw) lL cL kL) DF T TR TH T0 TM5 keysOk Z⟩
end Hop
open PySem PySem.W PyProof.Rows in
set_option maxRecDepth 100000 in
set_option maxHeartbeats 0 in
theorem PySem.Challenge.cw_hopline_k34_heaps_by_numbers_holds : PySem.Challenge.rw_hopline_k34_heaps_by_numbers.Holds := by
  w_on; o_law; k_head; (case hw => w_witness2)
  k_fill
  refine HopR.walk_ofG (l := PySem.Challenge.rw_hopline_k34_heaps_by_numbers) (n := 63) (k := 11) (x := "_law_script") (sp := fun w => Hop.spLaw _) rfl (by decide) rfl ⟨rfl, by decide, by decide⟩ (fun w h Y => PySem.W.kIn_of Y) ?F (fun _ _ a ns hl _ _ hS => ⟨a, ns, rfl, hS, hl, fun _ => rfl⟩)
  case F =>
    intro w mg fa h KX G hmg
    refine' Hop.all_mk KX G hmg ?u_a1 ?u_l1 ?u_c1 ?u_k1 ?u_a0 ?u_l0 ?u_c0 ?u_k0 ?u_aR1 ?u_lR1 ?u_cR1 ?u_kR1 ?u_aR2 ?u_lR2 ?u_cR2 ?u_kR2 ?u_aH1 ?u_lH1 ?u_cH1 ?u_kH1 ?u_aH2 ?u_lH2 ?u_cH2 ?u_kH2 ?u_aH3 ?u_lH3 ?u_cH3 ?u_kH3 ?u_aH4 ?u_lH4 ?u_cH4 ?u_kH4 ?u_aH5 ?u_lH5 ?u_cH5 ?u_kH5 ?u_aK1 ?u_lK1 ?u_cK1 ?u_kK1 ?u_aK2 ?u_lK2 ?u_cK2 ?u_kK2 ?u_aK3 ?u_lK3 ?u_cK3 ?u_kK3 ?u_aK4 ?u_lK4 ?u_cK4 ?u_kK4 ?u_aK5 ?u_lK5 ?u_cK5 ?u_kK5 ?u_aK6 ?u_lK6 ?u_cK6 ?u_kK6 ?u_aw ?u_lw ?u_cw ?u_kw ?u_ar ?u_lr ?u_cr ?u_kr ?u_aq3 ?u_lq3 ?u_cq3 ?u_kq3 ?u_aq4 ?u_lq4 ?u_cq4 ?u_kq4 ?u_aq5 ?u_lq5 ?u_cq5 ?u_kq5 ?u_aq6 ?u_lq6 ?u_cq6 ?u_kq6 ?u_aq7 ?u_lq7 ?u_cq7 ?u_kq7 ?u_aL ?u_lL ?u_cL ?u_kL ?u_z0 ?u_z1 ?u_z2 ?u_z3 ?u_z4 ?u_z5 ?u_z6 ?u_z7 ?u_z8 ?u_z9 ?u_z10 ?u_z11 ?u_z12 ?u_z13 ?u_gb0 ?u_gf0 ?u_gm0 ?u_gm5 ?u_gd ?u_ld ?u_kd ?u_sd ?u_keysOk ?u_vo ?u_vp ?u_g_HE ?u_g_NN ?u_g_NR ?u_g_TM ?u_g_NH ?u_d_HE ?u_t_HE ?u_d_NN ?u_t_NN ?u_d_NR ?u_t_NR ?u_d_TM ?u_t_TM ?u_d_NH ?u_t_NH ?u_b_HE ?u_b_NH ?u_b_NN ?u_b_NR ?u_b_TM ?u_q_hn ?u_q_htk ?u_x_NR ?u_k_NR ?u_ga_NR ?u_gt_NR ?u_cl_NR ?u_mo_NR ?u_x_NH ?u_k_NH ?u_ga_NH ?u_gt_NH ?u_cl_NH ?u_mo_NH ?u_x_NN ?u_k_NN ?u_ga_NN ?u_gt_NN ?u_cl_NN ?u_mo_NN ?u_x_TM ?u_k_TM ?u_ga_TM ?u_gt_TM ?u_cl_TM ?u_mo_TM ?u_s_NN_HE ?u_s_NH_HE ?u_s_TM_HE ?u_s_NR_HE ?u_s_NN_NH ?u_e_NN_NH ?u_s_NN_TM ?u_e_NN_TM ?u_s_NN_NR ?u_e_NN_NR ?u_s_NH_NN ?u_e_NH_NN ?u_s_NH_TM ?u_e_NH_TM ?u_s_NH_NR ?u_e_NH_NR ?u_s_TM_NN ?u_e_TM_NN ?u_s_TM_NH ?u_e_TM_NH ?u_s_TM_NR ?u_e_TM_NR ?u_s_NR_NN ?u_e_NR_NN ?u_s_NR_NH ?u_e_NR_NH ?u_s_NR_TM ?u_e_NR_TM
    (case u_a1 => k_is)
    (case u_l1 => k_is)
    (case u_c1 => k_is)
    (case u_k1 => k_is)
    (case u_a0 => k_is)
    (case u_l0 => k_is)
    (case u_c0 => k_is)
    (case u_k0 => k_is)
    (case u_aR1 => k_is)
    (case u_lR1 => k_is)
    (case u_cR1 => k_is)
    (case u_kR1 => k_is)
    (case u_aR2 => k_is)
    (case u_lR2 => k_is)
    (case u_cR2 => k_is)
    (case u_kR2 => k_is)
    (case u_aH1 => k_is)
    (case u_lH1 => k_is)
    (case u_cH1 => k_is)
    (case u_kH1 => k_is)
    (case u_aH2 => k_is)
    (case u_lH2 => k_is)
    (case u_cH2 => k_is)
    (case u_kH2 => k_is)
    (case u_aH3 => k_is)
    (case u_lH3 => k_is)
    (case u_cH3 => k_is)
    (case u_kH3 => k_is)
    (case u_aH4 => k_is)
    (case u_lH4 => k_is)
    (case u_cH4 => k_is)
    (case u_kH4 => k_is)
    (case u_aH5 => k_is)
    (case u_lH5 => k_is)
    (case u_cH5 => k_is)
    (case u_kH5 => k_is)
    (case u_aK1 => k_is)
    (case u_lK1 => k_is)
    (case u_cK1 => k_is)
    (case u_kK1 => k_is)
    (case u_aK2 => k_is)
    (case u_lK2 => k_is)
    (case u_cK2 => k_is)
    (case u_kK2 => k_is)
    (case u_aK3 => k_is)
    (case u_lK3 => k_is)
    (case u_cK3 => k_is)
    (case u_kK3 => k_is)
    (case u_aK4 => k_is)
    (case u_lK4 => k_is)
    (case u_cK4 => k_is)
    (case u_kK4 => k_is)
    (case u_aK5 => k_is)
    (case u_lK5 => k_is)
    (case u_cK5 => k_is)
    (case u_kK5 => k_is)
    (case u_aK6 => k_is)
    (case u_lK6 => k_is)
    (case u_cK6 => k_is)
    (case u_kK6 => k_is)
    (case u_aw => k_is)
    (case u_lw => k_is)
    (case u_cw => k_is)
    (case u_kw => k_is)
    (case u_ar => k_is)
    (case u_lr => k_is)
    (case u_cr => k_is)
    (case u_kr => k_is)
    (case u_aq3 => k_is)
    (case u_lq3 => k_is)
    (case u_cq3 => k_is)
    (case u_kq3 => k_is)
    (case u_aq4 => k_is)
    (case u_lq4 => k_is)
    (case u_cq4 => k_is)
    (case u_kq4 => k_is)
    (case u_aq5 => k_is)
    (case u_lq5 => k_is)
    (case u_cq5 => k_is)
    (case u_kq5 => k_is)
    (case u_aq6 => k_is)
    (case u_lq6 => k_is)
    (case u_cq6 => k_is)
    (case u_kq6 => k_is)
    (case u_aq7 => k_is)
    (case u_lq7 => k_is)
    (case u_cq7 => k_is)
    (case u_kq7 => k_is)
    (case u_aL => k_is)
    (case u_lL => k_is)
    (case u_cL => k_is)
    (case u_kL => k_is)
    (case u_z0 => k_is)
    (case u_z1 => k_is)
    (case u_z2 => k_is)
    (case u_z3 => k_is)
    (case u_z4 => k_is)
    (case u_z5 => k_is)
    (case u_z6 => k_is)
    (case u_z7 => k_is)
    (case u_z8 => k_is)
    (case u_z9 => k_is)
    (case u_z10 => k_is)
    (case u_z11 => k_is)
    (case u_z12 => k_is)
    (case u_z13 => k_is)
    (case u_gb0 => k_is)
    (case u_gf0 => k_is)
    (case u_gm0 => k_is)
    (case u_gm5 => k_is)
    (case u_gd => k_is)
    (case u_ld => k_is)
    (case u_kd => k_keys)
    (case u_sd => decide)
    (case u_keysOk => rfl)
    (case u_vo => k_is)
    (case u_vp => k_is)
    (case u_g_HE => k_is)
    (case u_g_NN => k_is)
    (case u_g_NR => k_is)
    (case u_g_TM => k_is)
    (case u_g_NH => k_is)
    (case u_d_HE => k_is)
    (case u_t_HE => k_is)
    (case u_d_NN => k_is)
    (case u_t_NN => k_is)
    (case u_d_NR => k_is)
    (case u_t_NR => k_is)
    (case u_d_TM => k_is)
    (case u_t_TM => k_is)
    (case u_d_NH => k_is)
    (case u_t_NH => k_is)
    (case u_b_HE => k_is)
    (case u_b_NH => k_is)
    (case u_b_NN => k_is)
    (case u_b_NR => k_is)
    (case u_b_TM => k_is)
    (case u_q_hn => k_is)
    (case u_q_htk => k_is)
    (case u_x_NR => k_exc)
    (case u_k_NR => k_is)
    (case u_ga_NR => k_is)
    (case u_gt_NR => k_is)
    (case u_cl_NR => k_is)
    (case u_mo_NR => k_is)
    (case u_x_NH => k_exc)
    (case u_k_NH => k_is)
    (case u_ga_NH => k_is)
    (case u_gt_NH => k_is)
    (case u_cl_NH => k_is)
    (case u_mo_NH => k_is)
    (case u_x_NN => k_exc)
    (case u_k_NN => k_is)
    (case u_ga_NN => k_is)
    (case u_gt_NN => k_is)
    (case u_cl_NN => k_is)
    (case u_mo_NN => k_is)
    (case u_x_TM => k_exc)
    (case u_k_TM => k_is)
    (case u_ga_TM => k_is)
    (case u_gt_TM => k_is)
    (case u_cl_TM => k_is)
    (case u_mo_TM => k_is)
    (case u_s_NN_HE => k_is)
    (case u_s_NH_HE => k_is)
    (case u_s_TM_HE => k_is)
    (case u_s_NR_HE => k_is)
    (case u_s_NN_NH => k_is)
    (case u_e_NN_NH => decide)
    (case u_s_NN_TM => k_is)
    (case u_e_NN_TM => decide)
    (case u_s_NN_NR => k_is)
    (case u_e_NN_NR => decide)
    (case u_s_NH_NN => k_is)
    (case u_e_NH_NN => decide)
    (case u_s_NH_TM => k_is)
    (case u_e_NH_TM => decide)
    (case u_s_NH_NR => k_is)
    (case u_e_NH_NR => decide)
    (case u_s_TM_NN => k_is)
    (case u_e_TM_NN => decide)
    (case u_s_TM_NH => k_is)
    (case u_e_TM_NH => decide)
    (case u_s_TM_NR => k_is)
    (case u_e_TM_NR => decide)
    (case u_s_NR_NN => k_is)
    (case u_e_NR_NN => decide)
    (case u_s_NR_NH => k_is)
    (case u_e_NR_NH => decide)
    (case u_s_NR_TM => k_is)
    (case u_e_NR_TM => decide)
