import PyProof.Rows.All
import Wide.All
import OpenK.AllK
import Wide.FinOn
import HandS.ForMost
import HandS.Wide
import HandS.Style
import HandS.RevTup
import HandS.Rev
import HandS.IsInst
import HandS.More
import HandS.Conv
import HandS.Defaults
import HandS.ForExc
import HandS.OwnEq
import HandS.Flow
import PyProof.ListStr
import HandS.Walk
import HandS.EndBits
import PyProof.ReprRoads
import PyProof.ReprLen
import HandS.Exc
import HandS.ExcIs
import HandS.TryOnly
import HandS.ExcOwn
import HandS.WordsExc
import KE.GoesZip
import KE.GoesMore
import PyProof.Draws
import PyProof.WalksT
import PySem.Challenge.RW_hopline_k53_ways_or_none
import PyProof.TupleOfStr
import HandS.SortKw
import HandS.SortInts
import HandS.ReplaceLit
import HandS.ReplaceDef
import HandS.ReplaceList
import HandS.WideBits
import HandS.Lambda
import HandS.EndOwn

set_option Elab.async false
set_option linter.all false
set_option maxRecDepth 100000
namespace HopR
open PySem PySem.Spec PyProof.Rows L2
/-! rules of my own: texts -/
/-- the signs of a text, each a text -/
def sg (z : Str) : List Str := z.cps.toList.map fun c => ⟨#[c]⟩
theorem sg_len (z : Str) : (sg z).length = z.length := by
  unfold sg
  rw [List.length_map]
  rfl
theorem sg_get {z : Str} {i : Nat} {c : Nat} (h : z.cps[i]? = some c) : (sg z)[i]? = some ⟨#[c]⟩ := by
  unfold sg
  rw [List.getElem?_map, Array.getElem?_toList, h]
  rfl
theorem strsAre_of : ∀ (vs : List Value) (ys : List Str), vs.length = ys.length → (∀ (j : Nat) (v : Value), vs[j]? = some v → ∃ y t, ys[j]? = some y ∧ v = .str y t) → StrsAre vs ys
  | [], [], _, _ => .nil
  | v :: r, y :: q, hl, h => by
    obtain ⟨y', t, e1, e2⟩ := h 0 v rfl
    have e3 : y = y' := Option.some.inj e1
    subst e3 e2
    exact .cons y t (strsAre_of r q (by simpa using hl) fun j w hw => h (j + 1) w hw)
theorem signs_are {z : Str} {acc : Array Value} (h : ItemsOf (SignAt z) acc z.cps.size) : StrsAre acc.toList (sg z) := by
  refine strsAre_of _ _ (by rw [sg_len, Array.length_toList, h.1]; rfl) fun j v hv => ?_
  obtain ⟨c, u, hc, e⟩ := h.2 j v (by rw [← Array.getElem?_toList]; exact hv)
  exact ⟨⟨#[c]⟩, u, sg_get hc, e⟩
section
variable {X : Cx}
/-- sorted(text) -/
def rSortT : List V → Hp → VK → Prop := fun vs H Q => ∃ z : Str, vs = [.str z] ∧ z.length < 64 ∧ ∀ (ys : List Str) (p : Addr), ys.Perm (sg z) → sortedS ys = true → H p = none → Q (.ref p) (upd H p (.lst (ys.map V.str)))
theorem cr_sortT (hcm : X.calm = true) : CallR X (.builtin "sorted") rSortT := by
  intro pins s σ H xs us Q I r h
  obtain ⟨z, rfl, h64, q⟩ := h
  obtain ⟨u, rfl, t, rfl⟩ := vals1 r
  refine Calls.call_function_entry kind_sorted plain_sorted entry_sorted (args_sorted1 (.str z t)) ?_
  unfold Builtin.«sorted»
  refine wpAny_bind (m := checkCount "sorted" 1 1 [Value.str z t].length) (wpAny_pure ?_)
  have hz : z.cps.size < 64 := h64
  refine wpAny_bind (wpAny_collect_str (A := X.A.in1) (show X.A.in1.handled = none from I.ok.hd hcm) z t (fun s' acc hk hg hdr hos hit => ?_) (Nat.le_trans (Nat.le_of_lt hz) (by decide)))
  have hS := signs_are hit
  have es : s' = { s with heap := s'.heap, toks := s'.toks } := by
    cases s'
    cases s
    simp only at hg hdr hos
    subst hg hdr hos
    rfl
  have hal : acc.toList.length < 64 := by rw [Array.length_toList, hit.1]; exact hz
  refine wpAny_bind (wpAny_newList ?_ (Nat.le_trans (Nat.le_of_lt hal) (by decide)))
  have hoL : (s'.heap.push (seqObj "list" acc.toList.toArray 0)).get? s'.heap.objs.size = some (seqObj "list" acc.toList.toArray 0) := Heap.get?_push_size _ rfl
  refine wpAny_bind (wpAny_holding (wpAny_call_entry slot_list_sort ⟨_, hoL, rfl⟩ entry_list_sort (list_sort_treeK strKind_oneLt hoL hS.keysOf (fun v₁ v₂ rest e => keyKind_strs (by rw [← e]; exact hS)) hal fun st' hp hs => ⟨_, rfl, ?_⟩) (args_list_sort _)))
  obtain ⟨ys, g1, g2, g3⟩ := sorted_out_str hS hp hs
  obtain ⟨ep, he'⟩ := sortedHeap_at (vs := acc.toList) (out := (arrOf st').map (·.2)) hoL
  have I1 : Inv X pins σ H s' := by
    rw [es]
    exact I.kept hk
  have hlen : (ys.map V.str).length ≤ sizeLine := by
    rw [List.length_map, g2.length_eq, sg_len]
    exact Nat.le_trans (Nat.le_of_lt h64) (by decide)
  have hne : ∀ b o, s'.heap.get? b = some o → (sortedHeap (s'.heap.push (seqObj "list" acc.toList.toArray 0)) s'.heap.objs.size acc.toList ((arrOf st').map (·.2))).get? b = some o := fun b o e => by
    rw [sortedHeap_old (Nat.ne_of_lt (Heap.lt_size e)) (by rw [size_push']; exact Nat.lt_succ_of_lt (Heap.lt_size e))]
    exact Heap.get?_push_of_some _ e
  refine wpAny_pure ⟨_, rfl, .ref _, upd H s'.heap.objs.size (.lst (ys.map V.str)), I1.laid (t' := s'.toks) hne (Nat.le_refl _) ?_, rfl, q ys _ g2 g3 (I1.hok.fresh (Nat.le_refl _))⟩
  exact ⟨hlen, ((arrOf st').map (·.2)).toList, ep, vals_of_strs g1, by rw [Array.toArray_toList]; exact he'⟩
/-- list(text) -/
def rListT : List V → Hp → VK → Prop := fun vs H Q => ∃ z : Str, vs = [.str z] ∧ z.length ≤ sizeLine ∧ ∀ p : Addr, H p = none → Q (.ref p) (upd H p (.lst ((sg z).map V.str)))
theorem cr_listT (hcm : X.calm = true) : CallR X (.type "list") rListT := by
  intro pins s σ H xs us Q I r h
  obtain ⟨z, rfl, hz, q⟩ := h
  obtain ⟨u, rfl, t, rfl⟩ := vals1 r
  refine call_list_str (I.ok.hd hcm) z t (fun h' tk acc c' hk hS' hit => ?_) hz
  refine ⟨.ref _, upd H s.heap.objs.size (.lst ((sg z).map V.str)), I.laid hk (Nat.le_refl _) ?_, rfl, q _ (I.hok.fresh (Nat.le_refl _))⟩
  exact ⟨by rw [List.length_map, sg_len]; exact hz, acc.toList, c', vals_of_strs (signs_are hit), by rw [Array.toArray_toList]; exact hS'⟩
/-- text * n -/
def repS (z : Str) (n : Nat) : Str := ⟨((List.replicate n z.cps.toList).flatten).toArray⟩
theorem foldl_app : ∀ (n : Nat) (a b : Array Nat), ((List.replicate n a).foldl (· ++ ·) b).toList = b.toList ++ (List.replicate n a.toList).flatten
  | 0, a, b => by simp
  | n + 1, a, b => by
    rw [List.replicate_succ, List.foldl_cons, foldl_app n, List.replicate_succ, List.flatten_cons, Array.toList_append, List.append_assoc]
theorem repS_len (z : Str) (k : Nat) : (repS z k).length = z.length * k := by
  show ((List.replicate k z.cps.toList).flatten).toArray.size = z.cps.size * k
  rw [List.size_toArray, List.length_flatten, List.map_replicate, List.sum_replicate_nat, Array.length_toList, Nat.mul_comm]
def rRepS : R2 := fun x y H Q => ∃ (z : Str) (k : Nat), x = .str z ∧ y = .int (k : Int) ∧ z.length * k ≤ 1000000 ∧ k ≤ 1000000 ∧ Q (.str (repS z k)) H
theorem op_repS : OpR X (binaryOp .Mult) rRepS := by
  intro pins s σ H x y v u Q I rx ry h
  obtain ⟨z, k, rfl, rfl, hz, hk, q⟩ := h
  obtain ⟨t, rfl⟩ := rx
  obtain ⟨t', rfl⟩ := ry
  refine PySem.P.mul_str ?_ ?_ ?_ ?_
  · rw [decide_eq_false (by omega), decide_eq_false (by omega)]
    rfl
  · intro h1 _
    have h0 : (0 : Int) < (k : Int) := by omega
    have h2 : ((z.length * k : Nat) : Int) ≤ 2 ^ 63 - 1 := by omega
    rw [Int.natCast_mul] at h2
    have h3 := (Int.le_ediv_iff_mul_le h0).mpr h2
    omega
  · intro _ _
    unfold Builtin.Str.tooLong
    rw [Int.toNat_natCast, sizeLine_eq]
    exact decide_eq_false (by omega)
  · by_cases h1 : (k : Int) < 1
    · rw [if_pos h1]
      have e : repS z k = Str.empty := by
        have : k = 0 := by omega
        subst this
        rfl
      rw [e] at q
      exact ⟨by decide, .str _, H, I.tok _, ⟨_, rfl⟩, q⟩
    · rw [if_neg h1]
      by_cases h2 : ((k : Int) == 1 || z.length == 0) = true
      · rw [if_pos h2]
        have e : repS z k = z := by
          rw [Bool.or_eq_true] at h2
          rcases h2 with h2 | h2
          · have h3 : (k : Int) = 1 := by simpa using h2
            have h4 : k = 1 := by omega
            subst h4
            unfold repS
            simp
          · have h3 : z.length = 0 := by simpa using h2
            have h4 : z.cps = #[] := Array.eq_empty_of_size_eq_zero h3
            unfold repS
            cases z with | mk zc =>
            simp only at h4
            subst h4
            simp
        rw [e] at q
        exact ⟨.str z, H, I, ⟨t, rfl⟩, q⟩
      · rw [if_neg h2]
        have e : (⟨(List.replicate (k : Int).toNat z.cps).foldl (· ++ ·) #[]⟩ : Str) = repS z k := by
          unfold repS
          rw [Int.toNat_natCast, ← Array.toArray_toList (xs := (List.replicate k z.cps).foldl (· ++ ·) #[]), foldl_app]
          rfl
        rw [e]
        have hl : (repS z k).length ≤ sizeLine := by
          rw [repS_len, sizeLine_eq]
          omega
        exact ⟨hl, .str _, H, I.tok _, ⟨_, rfl⟩, q⟩
/-- text[::-1] -/
def revS (z : Str) : Str := ⟨z.cps.toList.reverse.toArray⟩
theorem revS_len (z : Str) : (revS z).length = z.length := by
  show z.cps.toList.reverse.toArray.size = z.cps.size
  rw [List.size_toArray, List.length_reverse, Array.length_toList]
theorem rev_pick (z : Str) : (⟨((PySem.Builtin.Str.strSliceIndices none none (-1) z.length).filterMap (z.cps[·]?)).toArray⟩ : Str) = revS z := by
  unfold revS
  have e : PySem.Builtin.Str.strSliceIndices none none (-1) z.length = (List.range z.length).reverse := by
    rw [← PySem.W.krv_range, ← PySem.W.krv_sliceRange]
    rfl
  have e2 := PySem.W.krv_all z.cps
  rw [e, List.filterMap_reverse]
  show (⟨((List.range z.cps.size).filterMap (z.cps[·]?)).reverse.toArray⟩ : Str) = _
  rw [e2]
def tRevS (te : TE) : TE := fun σ H Q => te σ H fun x H1 => ∃ z : Str, x = .str z ∧ z.length ≤ sizeLine ∧ Q (.str (revS z)) H1
theorem pe_revS {e : Expr} {te : TE} {k : Nat} {p1 p2 p3 pos : Pos} (he : PE X e te) : PE X (.Subscript e (.Slice none none (some (.UnaryOp .USub (.Constant (.int 1) k p1) p2)) p3) pos) (tRevS te) := by
  refine ⟨fun pins s σ H Q I h => Subscript_ (thn (he.run pins s σ H _ I h) fun v s1 ⟨x, H1, I1, r1, z, ex, hz, q⟩ => ?_)⟩
  subst ex
  obtain ⟨t, rfl⟩ := r1
  have hst : PO X (some (.UnaryOp .USub (.Constant (.int 1) k p1) p2)) (tPart (tUn (rU fun i => .int (-i)) (tC (.int 1)))) := po_some (pe_un un_neg pe_int)
  refine wpAny_Slice (thn (po_none.run pins s1 σ H1 (fun o K2 => o = none ∧ K2 = H1) I1 ⟨rfl, rfl⟩) fun vl s2 ⟨l, H2, I2, pl, el, e2⟩ => ?_)
  subst el e2
  refine thn (po_none.run pins s2 σ H2 (fun o K3 => o = none ∧ K3 = H2) I2 ⟨rfl, rfl⟩) fun vu s3 ⟨u, H3, I3, pu, eu, e3⟩ => ?_
  subst eu e3
  refine thn (hst.run pins s3 σ H3 (fun o K4 => o = some (-1) ∧ K4 = H3) I3 ⟨1, rfl, -1, rfl, rfl, rfl⟩) fun vs s4 ⟨o, H4, I4, ps, eo, e4⟩ => ?_
  subst eo e4
  obtain ⟨l, rfl, hl⟩ := IsPart.raw pl
  obtain ⟨u, rfl, hu⟩ := IsPart.raw pu
  obtain ⟨st, rfl, hst'⟩ := IsPart.raw ps
  have I5 : Inv X pins σ H4 { s4 with heap := s4.heap.push { cls := .type "slice", data := .fields #[partValue l, partValue u, partValue st] } } := I4.kept (t' := s4.toks) fun b ob qq => Heap.get?_push_of_some _ qq
  show wpAny (model X.prog X.w) X.A (subscriptTail e (.Slice none none (some (.UnaryOp .USub (.Constant (.int 1) k p1) p2)) p3) (.str z t) (.ref s4.heap.objs.size)) (EP X pins σ Q) X.xe { s4 with heap := s4.heap.push { cls := .type "slice", data := .fields #[partValue l, partValue u, partValue st] } }
  refine tail_any (ops := [.ref s4.heap.objs.size, .str z t]) (T := "str") (typeIs_str _ _ _) F.slot_str_getitem.lookup ?_ (by with_unfolding_all rfl)
  refine wpAny_getItem_str_slice (l := l) (u := u) (st := st) (Heap.IsSliceOf.new ..) (by rw [hst']; decide) ?_
  have em : sliceMade z t l u st = .str (revS z) := by
    unfold sliceMade slicePicked
    rw [hst', hl, hu]
    rw [if_neg (by simp)]
    rw [← rev_pick z]
    rfl
  rw [em]
  exact ⟨by rw [revS_len]; exact hz, .str _, H4, I5.tok _, ⟨_, rfl⟩, q⟩
end
end HopR

set_option Elab.async false
set_option linter.all false
set_option maxRecDepth 100000
namespace HopR
open PySem PySem.Spec PyProof.Rows L2
/-! rows as lists of truths -/
def cd (b : Bool) : Nat := if b then 111 else 46
def tx (bs : List Bool) : Str := ⟨(bs.map cd).toArray⟩
theorem cd_inj {a b : Bool} (h : cd a = cd b) : a = b := by
  cases a <;> cases b <;> first | rfl | (exact absurd h (by decide))
theorem map_cd_inj : ∀ {as bs : List Bool}, as.map cd = bs.map cd → as = bs
  | [], [], _ => rfl
  | [], _ :: _, h => by simp at h
  | _ :: _, [], h => by simp at h
  | a :: r, b :: q, h => by
    rw [List.map_cons, List.map_cons] at h
    injection h with h1 h2
    rw [cd_inj h1, map_cd_inj h2]
theorem tx_inj {as bs : List Bool} (h : tx as = tx bs) : as = bs := by
  unfold tx at h
  injection h with h
  exact map_cd_inj (by simpa using congrArg Array.toList h)
theorem tx_len (bs : List Bool) : (tx bs).length = bs.length := by
  show (bs.map cd).toArray.size = bs.length
  rw [List.size_toArray, List.length_map]
theorem tx_list (bs : List Bool) : (tx bs).cps.toList = bs.map cd := rfl
theorem tx_get {bs : List Bool} {i : Nat} {b : Bool} (h : bs[i]? = some b) : (tx bs).cps[i]? = some (cd b) := by
  show (bs.map cd).toArray[i]? = some (cd b)
  rw [List.getElem?_toArray, List.getElem?_map, h]
  rfl
theorem ext_str {a b : Str} (h : a.cps.toList = b.cps.toList) : a = b := by
  cases a with | mk x =>
  cases b with | mk y =>
  have e : x = y := Array.toList_inj.mp h
  rw [e]
theorem tx_app (as bs : List Bool) : tx as ++ tx bs = tx (as ++ bs) := by
  apply ext_str
  show ((as.map cd).toArray ++ (bs.map cd).toArray).toList = (as ++ bs).map cd
  rw [Array.toList_append, List.map_append]
theorem tx_rev (bs : List Bool) : revS (tx bs) = tx bs.reverse := by
  unfold revS tx
  simp
theorem tx_sg (bs : List Bool) : sg (tx bs) = bs.map fun b => tx [b] := by
  unfold sg
  rw [tx_list, List.map_map]
  rfl
theorem tx_o : ("o" : Str) = tx [true] := by decide +kernel
theorem tx_f : ("." : Str) = tx [false] := by decide +kernel
/-- a row walked sign by sign: a turn's sign is the text of that place's truth -/
theorem walk_tx {bs : List Bool} : Walk (Its (tx bs)) bs.length (fun _ => True) (fun i H v H' => H' = H ∧ ∃ b, bs[i]? = some b ∧ v = .str (tx [b])) := by
  have w := walk_str (z := tx bs)
  rw [show (tx bs).cps.size = bs.length from tx_len bs] at w
  refine w.mono (fun _ g => g) fun i H x H' hi _ y => ?_
  obtain ⟨e1, c, e2, e3⟩ := y
  have hb : bs[i]? = some bs[i] := List.getElem?_eq_getElem hi
  rw [tx_get hb] at e2
  cases e2
  exact ⟨e1, _, hb, e3⟩
def for_tx {bs : List Bool} {g : TG} {tb : TS} {D : Ends} {σ : L2.St} {H : Hp} (Pv : Nat → L2.St → Hp → Prop) (h0 : Pv 0 σ H)
    (hs : ∀ i b σ H, bs[i]? = some b → Pv i σ H → g (.str (tx [b])) σ H fun σ2 H2 => tb { D with nx := Pv (i + 1), ct := Pv (i + 1), bk := D.nx } σ2 H2) (hd : ∀ σ H, Pv bs.length σ H → D.nx σ H) :=
  for_it (walk_tx (bs := bs)) (g := g) (tb := tb) (D := D) (σ := σ) (H := H) Pv h0 (fun _ _ _ _ _ => trivial)
    (fun i x σ H H' _ p y => by
      obtain ⟨e1, b, hb, e2⟩ := y
      subst e1 e2
      exact hs i b σ _ hb p) hd
def lc_tx {bs : List Bool} {g : TG} {tt : TT} {te : TE} {vs : List Nat} {σ : L2.St} {H1 : Hp} {D : Addr} {Qd : Hp → Prop} (Pv : Nat → Hp → Prop) (h0 : Pv 0 (upd H1 D (.lst [])))
    (hs : ∀ i b H, bs[i]? = some b → Pv i H → g (.str (tx [b])) (wipe σ vs) H fun σ2 H2 => wipe σ2 vs = wipe σ vs ∧ tt σ2 H2 fun kept H3 =>
      if kept = true then (te σ2 H3 fun y H4 => ∃ acc, H4 D = some (.lst acc) ∧ acc.length < sizeLine ∧ Pv (i + 1) (upd H4 D (.lst (acc ++ [y])))) else Pv (i + 1) H3)
    (hd : ∀ H, Pv bs.length H → Qd H) :=
  lc_it (walk_tx (bs := bs)) (g := g) (tt := tt) (te := te) (vs := vs) (σ := σ) (H1 := H1) (D := D) (Qd := Qd) Pv h0 (fun _ _ _ _ => trivial)
    (fun i x H H' _ p y => by
      obtain ⟨e1, b, hb, e2⟩ := y
      subst e1 e2
      exact hs i b _ hb p) hd
end HopR

set_option Elab.async false
set_option linter.all false
set_option maxRecDepth 100000
namespace HopR
open PySem PySem.Spec PyProof.Rows L2 TL
theorem joinL_nil : ∀ ps : List (List Nat), joinL [] ps = ps.flatten
  | [] => rfl
  | [p] => by
    show p = p ++ []
    rw [List.append_nil]
  | p :: q :: r => by
    show p ++ ([] ++ joinL [] (q :: r)) = p ++ (q :: r).flatten
    rw [List.nil_append, joinL_nil (q :: r)]
theorem join0_list (ys : List Str) : (Txt.join "" ys).cps.toList = (ys.map fun y => y.cps.toList).flatten := by
  have e : Txt.join "" ys = Str.join "" ys := PySem.StrLaws.glued_eq_join "" ys
  rw [e]
  have h := tl_join "" ys
  have h2 : tl ("" : Str) = [] := by decide +kernel
  rw [h2, joinL_nil] at h
  exact h
theorem join_tx (bs : List Bool) : Txt.join "" (bs.map fun b => tx [b]) = tx bs := by
  apply ext_str
  rw [join0_list, List.map_map, tx_list]
  induction bs with
  | nil => rfl
  | cons b r ih =>
    rw [List.map_cons, List.flatten_cons, ih]
    rfl
theorem sum_ones : ∀ bs : List Bool, ((bs.map fun b => tx [b]).map (·.length)).sum = bs.length
  | [] => rfl
  | b :: r => by
    rw [List.map_cons, List.map_cons, List.sum_cons, sum_ones r, tx_len]
    show 1 + r.length = r.length + 1
    omega
theorem join_fits {bs : List Bool} (h : bs.length ≤ 1000) : ((bs.map fun b => tx [b]).map (·.length)).sum + (bs.map fun b => tx [b]).length * ("" : Str).length ≤ 16777216 := by
  have e : ("" : Str).length = 0 := by decide +kernel
  rw [sum_ones, e, Nat.mul_zero]
  omega
theorem cut_tx (bs : List Bool) (lo hi : Option Int) : cutS (tx bs) lo hi = tx ((bs.drop (HT.sIx bs.length 0 lo)).take (HT.sIx bs.length bs.length hi - HT.sIx bs.length 0 lo)) := by
  apply ext_str
  unfold cutS
  rw [tx_len, tx_list, tx_list, List.map_take, List.map_drop]
theorem cut_to (bs : List Bool) (k : Nat) : cutS (tx bs) none (some (k : Int)) = tx (bs.take k) := by
  rw [cut_tx, HT.sIx_none, HT.sIx_nat, List.drop_zero, Nat.sub_zero]
  by_cases h : k ≤ bs.length
  · rw [Nat.min_eq_left h]
  · rw [Nat.min_eq_right (by omega), List.take_length, List.take_of_length_le (by omega)]
theorem cut_from (bs : List Bool) (k : Nat) : cutS (tx bs) (some (k : Int)) none = tx (bs.drop k) := by
  rw [cut_tx, HT.sIx_none, HT.sIx_nat]
  by_cases h : k ≤ bs.length
  · rw [Nat.min_eq_left h, List.take_of_length_le (by rw [List.length_drop]; exact Nat.le_refl _)]
  · rw [Nat.min_eq_right (by omega), List.drop_length, List.drop_of_length_le (by omega), List.take_nil]
theorem cut_at (bs : List Bool) (k m : Nat) : cutS (tx bs) (some (k : Int)) (some ((k : Int) + (m : Int))) = tx ((bs.drop k).take m) := by
  have e : ((k : Int) + (m : Int)) = ((k + m : Nat) : Int) := by omega
  rw [e, cut_tx, HT.sIx_nat, HT.sIx_nat]
  by_cases h : k ≤ bs.length
  · rw [Nat.min_eq_left h]
    by_cases h2 : k + m ≤ bs.length
    · rw [Nat.min_eq_left h2, Nat.add_sub_cancel_left]
    · rw [Nat.min_eq_right (by omega), List.take_of_length_le (by rw [List.length_drop]; exact Nat.le_refl _), List.take_of_length_le (by rw [List.length_drop]; omega)]
  · rw [Nat.min_eq_right (by omega), Nat.min_eq_right (by omega), List.drop_length, List.drop_of_length_le (by omega), List.take_nil, List.take_nil]
theorem cut_mid (bs : List Bool) (h : 2 ≤ bs.length) : cutS (tx bs) (some 1) (some (-1)) = tx ((bs.drop 1).take (bs.length - 2)) := by
  rw [cut_tx]
  have e1 : HT.sIx bs.length 0 (some 1) = 1 := by
    rw [show (some (1 : Int)) = some ((1 : Nat) : Int) from rfl, HT.sIx_nat]
    omega
  have e2 : HT.sIx bs.length bs.length (some (-1)) = bs.length - 1 := by
    show (if (-1 : Int) < 0 then ((-1 : Int) + (bs.length : Int)).toNat else min (-1 : Int).toNat bs.length) = bs.length - 1
    rw [if_pos (by decide)]
    omega
  rw [e1, e2]
  congr 2
/-! ### rows: walls, changes, the mirror -/
def ends (bs : List Bool) : List Bool := true :: (bs ++ [false])
theorem ends_len (bs : List Bool) : (ends bs).length = bs.length + 2 := by
  unfold ends
  rw [List.length_cons, List.length_append]
  rfl
def opn (bs : List Bool) (k : Nat) : Bool := decide (((ends bs).drop k).take 2 = [true, false])
def walls (bs : List Bool) : List Nat := (List.range (bs.length + 1)).filter (opn bs)
def bhd (bs : List Bool) (k : Nat) : List Bool := (ends bs).take k ++ [false] ++ [true] ++ (ends bs).drop (k + 2)
def chg (bs : List Bool) (k : Nat) : List Bool := ((bhd bs k).drop 1).take ((bhd bs k).length - 2)
def mir (bs : List Bool) : List Bool := bs.reverse.map (!·)
def num (bs : List Bool) : Int := bs.foldl (fun n b => n * 2 + (if b then 1 else 0)) 0
theorem mem_walls {bs : List Bool} {k : Nat} : k ∈ walls bs ↔ k ≤ bs.length ∧ opn bs k = true := by
  unfold walls
  rw [List.mem_filter, List.mem_range, Nat.lt_succ_iff]
theorem mir_len (bs : List Bool) : (mir bs).length = bs.length := by
  unfold mir
  rw [List.length_map, List.length_reverse]
theorem walls_len (bs : List Bool) : (walls bs).length ≤ bs.length + 1 := by
  unfold walls
  exact Nat.le_trans (List.length_filter_le _ _) (by rw [List.length_range]; exact Nat.le_refl _)
theorem bhd_len {bs : List Bool} {k : Nat} (h : k ≤ bs.length) : (bhd bs k).length = bs.length + 2 := by
  unfold bhd
  rw [List.length_append, List.length_append, List.length_append, List.length_take, List.length_drop, ends_len]
  show min k (bs.length + 2) + 1 + 1 + (bs.length + 2 - (k + 2)) = bs.length + 2
  omega
theorem chg_len {bs : List Bool} {k : Nat} (h : k ≤ bs.length) : (chg bs k).length = bs.length := by
  unfold chg
  rw [List.length_take, List.length_drop, bhd_len h]
  omega
end HopR

set_option Elab.async false
set_option linter.all false
set_option maxRecDepth 100000
namespace HopR
open PySem PySem.Spec PyProof.Rows L2
/-! ### defs that are called where no repr is under way -/
/-- the promise sp of the def at f, kept wherever it is called while no repr is under way -/
structure FnOkG (P : Program) (w : World) (K : PySem.W.Frag) (mg : Str → Option Value) (base : Heap) (CX : CXT) (k : Nat) (f : Addr) (fd : FuncData) (ps : List Str) (sp : Sp) : Prop where
  arity : ∀ {vs H Q E}, sp vs H Q E → vs.length = ps.length
  calls : ∀ {A : Around} {outer : List Env} {s : Shared} {H : Hp} {args : Args} {us : List Value} {vs : List V} {Q : VK} {E : XK}, A.guards = some [] → Room k A → Env0 P w K mg base A outer s H →
    BindsTo s fd args (ps.zip us) → Vals vs us → sp vs H Q E → codeAny (model P w) A (.call (.ref f) args) (CR CX outer P w H s Q E) s
section
variable {P : Program} {w : World} {K : PySem.W.Frag} {mg : Str → Option Value} {base : Heap}
theorem FnOkG.of {CX : CXT} {k : Nat} {f : Addr} {fd : FuncData} {ps : List Str} {sp : Sp} (F : FnOk P w K mg base CX k f fd ps sp) : FnOkG P w K mg base CX k f fd ps sp where
  arity h := F.len _ _ _ _ h
  calls _ room e0 bind vals prom := F.run _ _ _ _ _ _ _ _ _ room e0 bind vals prom
/-- what the body's end says to the caller -/
theorem ends_say {CX : CXT} {N : List Str} {qual : Str} {scope : Scope} {f : Addr} {cdv : Value} {A : Around} {outer : List Env} {s : Shared} {H : Hp} {Q : VK} {E : XK} {fl : Flow} {s' : Shared}
    (h : SP (cxOf CX P w K mg base N qual scope f cdv A outer s H E) [] { nx := fun _ H' => Q .non H', rt := Q } fl s') :
    match fl with | .ret u => CE outer P w H s Q u s' | .next => CE outer P w H s Q Value.none s' | _ => False := by
  match fl, h with
  | .ret u, ⟨v, σ', H', J, rv, g⟩ => exact ⟨v, H', J.os, J.bare, J.base, J.hok, rv, g⟩
  | .next, ⟨σ', H', J, g⟩ => exact ⟨V.non, H', J.os, J.bare, J.base, J.hok, rfl, g⟩
  | .brk, ⟨_, _, _, g⟩ => exact g
  | .cont, ⟨_, _, _, g⟩ => exact g
theorem okG {x qual : Str} {st : Stmt} {f : Addr} {fd : FuncData} {N ps : List Str} {k : Nat} {sp : Sp} (F : Fun K x qual st f fd) (S : FnScope N ps (defScope st)) (len : ∀ vs H Q E, sp vs H Q E → vs.length = ps.length)
    (body : ∀ (cdv : Value) (A : Around) (outer : List Env) (s : Shared) (H : Hp) (vs : List V) (Q : VK) (E : XK), A.guards = some [] → Room k (A.deeper (envOfC qual (defScope st) s.heap.objs.size f cdv)) → sp vs H Q E →
      ∃ t, PSs (cxOf CX0 P w K mg base N qual (defScope st) f cdv A outer s H E).nox (defBody st) t ∧ t { nx := fun _ H' => Q .non H', rt := Q } (start N vs) H) : FnOkG P w K mg base CX0 (k + 1) f fd ps sp where
  arity h := len _ _ _ _ h
  calls {A outer s H args us vs Q E} free room e0 bind vals prom := by
    obtain ⟨_, _, _, _, _, _, cdv, _, _, rfl, lk, code⟩ := F.ex
    have old : ∀ b o, base.get? b = some o → s.heap.get? b = some o := fun b o e => (e0.bs b o e).1
    have here := e0.mod.kin.keeps old
    obtain ⟨t, pr, rd⟩ := body cdv A outer s H vs Q E free (room.deeper _) prom
    have kinds : ∀ y ∈ ps.zip us, (defScope st).names.lookup y.1 = some .local ∨ ((defScope st).names.lookup y.1 = some .cell ∧ ((cellsFrom (s.heap.objs.size + 1) (defScope st).names []).lookup y.1).isSome = true) := by
      intro y hy
      have hp : y.1 ∈ ps := by
        obtain ⟨y1, y2⟩ := y
        exact (List.of_mem_zip hy).1
      exact (S.par _ hp).imp id fun g => ⟨g, PySem.W.cellsFrom_some _ _ _ (.inl g)⟩
    refine codeAny_call_function room.depth (here _ _ lk) rfl S.co S.gen rfl (PySem.W.codeRec_of here code) (bind _ _ _ _ ?_)
    refine wpAny_newFunctionEnv_cells S.kind kinds fun _ e s1 x => ?_
    cases e
    refine ⟨(e0.mod.nolimit.keeps old).keeps x.toInCall.keep, codeAny_func ?_⟩
    have run := pr.nox.run [] s1 _ H _ (inv_start S room.hd e0 (len _ _ _ _ prom) vals x) rd
    refine wpAny_mono run (fun fl s' h => ?_) fun _ _ z => z
    have said := ends_say h
    cases fl with
    | ret _ => exact said
    | next => exact said
    | brk => exact said.elim
    | cont => exact said.elim
end
section
variable {X : Cx} {CX : CXT} {k : Nat} {f : Addr} {fd : FuncData} {ps : List Str} {sp : Sp} {ds : List Value} {dvs : List V} {E : XK}
theorem after_call {pins : List (Addr × Obj)} {σ : L2.St} {H : Hp} {s : Shared} {Q : VK} (hx : Passes CX X E) (I : Inv X pins σ H s) {r : Except Value Flow} {s' : Shared} (h : CR CX X.stack X.prog X.w H s Q E r s') :
    match r with | .ok (.ret u) => EP X pins σ Q u s' | .ok _ => False | .error e => X.xe e s' := by
  match r, h with
  | .error e, h => exact hx pins σ H s e s' I h
  | .ok (.ret u), h => exact I.after h
  | .ok .next, h => exact h
  | .ok .brk, h => exact h
  | .ok .cont, h => exact h
variable {x : Str} {p pos : Pos} {e : Expr} {es : List Expr} {t : TA}
/-- f(e, ..) at a place where no repr is under way -/
theorem pe_callG (F : FnOkG X.prog X.w X.K X.mg X.base CX k f fd ps sp) (hG : X.A.guards = some []) (hr : Room k X.A) (hg : Gl X x) (hm : X.mg x = some (.ref f)) (hk : PySem.W.keepIn X.K (.ref f) = true) (hb : Binds X.K fd ps ds) (hd : Vals dvs ds) (hx : Passes CX X E)
    (ha : PA X (e :: es) t) (hdb : (x == ("__debug__" : Str)) = false := by decide)
    (he : starEach (e :: es) X.env = (false, eval e X.env) :: starEach es X.env := by rfl) (hpl : (backTo pos (starEach es X.env)).any (·.1) = false := by rfl) :
    PE X (.Call (.Name x p) (e :: es) [] pos) (tCall sp dvs E t) := by
  constructor
  intro pins s σ H Q I h
  refine wpAny_Call_Name_kw (ld_glob I hg hm (PySem.W.callWith_K (h₀ := X.base) I.ok.mod.kin hk (thn (ha.run pos pins s σ H _ I h) ?_) he hpl) hdb)
  rintro us s1 ⟨vs, H1, I1, vals, prom⟩
  have all := vals.append hd
  have size : (us ++ ds).length = ps.length := all.length.symm.trans (F.arity prom)
  refine ⟨I1.kIn, wpAny_call (codeAny_mono (F.calls hG hr I1.env0 (hb s1 us I1.kIn size) all prom) fun r s' h => ?_)⟩
  have := after_call hx I1 h
  cases r with
  | error e => exact this
  | ok fl => cases fl <;> exact this
/-! ### repr of data -/
def rReprD (K : PySem.W.Frag) : List V → Hp → VK → Prop := fun vs H Q => ∃ (v : V) (d : PyData), vs = [v] ∧ Dp K H v d ∧ d.showable = true ∧ d.hasDict = false ∧ d.depth ≤ 64 ∧ d.shown.length ≤ sizeLine ∧ Q (.str d.shown) H
theorem cr_reprD (hG : X.A.guards = some []) (hu : X.A.units + 66 < cLine) : CallR X (.builtin "repr") (rReprD X.K) := by
  rintro pins s σ H _ us Q I r ⟨v, d, rfl, hd, hs, hn, hdep, hz, q⟩
  obtain ⟨u, rfl, rv⟩ := vals1 r
  obtain ⟨as, rd⟩ := Dp.reads I d v u hd rv
  cases hd with
  | non =>
    cases rv
    exact P.repr_of_none ⟨.str _, H, I.tok _, ⟨_, rfl⟩, q⟩
  | bl b =>
    cases rv
    exact P.repr_of_bool ⟨.str _, H, I.tok _, ⟨_, rfl⟩, q⟩
  | int i =>
    obtain ⟨t, rfl⟩ := rv
    have hb : i.natAbs.log2 < 1920 := of_decide_eq_true (by simpa only [PyData.showable] using hs)
    exact P.repr_of_int hb ⟨.str _, H, I.tok _, ⟨_, rfl⟩, by simpa only [PyData.shown] using q⟩
  | str x =>
    obtain ⟨t, rfl⟩ := rv
    exact P.repr_of_str ⟨.str _, H, I.tok _, ⟨_, rfl⟩, by simpa only [PyData.shown] using q⟩ (by simpa only [PyData.shown] using hz)
  | lst h1 h2 =>
    cases rv
    exact repr_of_reads' rd hs (fun e => absurd (hn.symm.trans e) (by decide)) hG (by omega) (fun _ _ e => e) (fun h' t tk hk => ⟨.str _, H, I.kept hk, ⟨_, rfl⟩, q⟩) hz
  | tup h1 h2 =>
    cases rv
    exact repr_of_reads' rd hs (fun e => absurd (hn.symm.trans e) (by decide)) hG (by omega) (fun _ _ e => e) (fun h' t tk hk => ⟨.str _, H, I.kept hk, ⟨_, rfl⟩, q⟩) hz
end
/-! ### the end -/
section
variable (K : PySem.W.Frag) (a : Addr) (vs : List Value) (ns : List Int)
/-- the script as the heap has it -/
abbrev scrO : Obj := { cls := .type "list", data := .seq vs.toArray }
/-- tracked is the script alone, locked, and not even that where the top wrote it -/
def scrH : Hp := fun b => if b = a ∧ K.lookup a = none then some (.frz (scrO vs) (.lst (ns.map V.int))) else none
theorem scrH_or (b : Addr) : scrH K a vs ns b = none ∨ (b = a ∧ K.lookup a = none ∧ scrH K a vs ns b = some (.frz (scrO vs) (.lst (ns.map V.int)))) := by
  unfold scrH
  by_cases h : b = a ∧ K.lookup a = none
  · exact .inr ⟨h.1, h.2, if_pos h⟩
  · exact .inl (if_neg h)
theorem scrH_only : Only (scrH K a vs ns) := fun b => (scrH_or K a vs ns b).imp id fun ⟨_, _, e⟩ => ⟨_, _, e⟩
end
section
variable {P : Program} {w : World} {K : PySem.W.Frag} {a : Addr} {vs : List Value} {ns : List Int} {h : Heap}
theorem scrH_sq (kin : K.In h) (at_ : h.get? a = some (scrO vs)) (hi : IntsAre vs ns) (few : ns.length ≤ sizeLine) : SqL K (scrH K a vs ns) a (ns.map V.int) := by
  cases hk : K.lookup a with
  | none => exact .inl (.inr ⟨scrO vs, if_pos ⟨rfl, hk⟩⟩)
  | some o =>
    obtain rfl : o = scrO vs := Option.some.inj ((kin a o hk).symm.trans at_)
    exact .inr ⟨_, vs.toArray, _, hk, rfl, rfl, rfl, by rw [List.size_toArray, hi.length]; exact few, by simpa using vals_ints hi⟩
theorem scrH_ok (at_ : h.get? a = some (scrO vs)) (hi : IntsAre vs ns) (few : ns.length ≤ sizeLine) : HOk P w (scrH K a vs ns) h := by
  intro b u e
  rcases scrH_or K a vs ns b with n | ⟨rfl, _, y⟩
  · exact absurd (n.symm.trans e) (by simp)
  · cases y.symm.trans e
    refine ⟨at_, ?_, vs, _, vals_ints hi, at_⟩
    rw [List.length_map]
    exact few
/-- what isn't the script, and what the top wrote, stands also where the tracked is hidden -/
theorem scrH_base (at_ : h.get? a = some (scrO vs)) {b : Addr} {o : Obj} (e : h.get? b = some o) (q : o ≠ scrO vs ∨ K.lookup b ≠ none) : (hidT h (scrH K a vs ns)).get? b = some o := by
  refine hidT_get e ((scrH_or K a vs ns b).resolve_right ?_)
  rintro ⟨rfl, n, _⟩
  exact q.elim (fun z => z (Option.some.inj (e.symm.trans at_))) fun z => z n
theorem scrH_ns (at_ : h.get? a = some (scrO vs)) {b : Addr} {m : Str → Option Value} : h.Ns b m → (hidT h (scrH K a vs ns)).Ns b m := by
  rintro ⟨o, es, ep, e, dd, r⟩
  refine ⟨o, es, ep, scrH_base at_ e (.inl ?_), dd, r⟩
  rintro rfl
  exact absurd dd (by simp)
end
/-- a law whose promise holds where no repr is under way: nothing is, where it is called -/
theorem walk_ofG {l : PySem.W.OpenLaw} {n k : Nat} {q : Program} {loose : List Str} {XP : (Str → Option Value) → Heap → Prop} {YP : World → Heap → Prop} {d : DefRec} {K : Params → PySem.W.Frag} {sp : World → Sp} {x : Str}
    (most : l.most = some n) (few : n ≤ sizeLine) (plain : d.params.defaults = []) (room : Room k callerA) (top : ∀ (w : World) (h : Heap), YP w h → (K w.params).In h)
    (F : ∀ (w : World) (mg : Str → Option Value) (fa : Addr) (h : Heap), (K w.params).In h → h.Ns mainGlobals mg → mg d.name = some (.ref fa) →
      ∃ fd : FuncData, (∀ (s : Shared) (u : Value), BindsTo s fd ⟨[u], []⟩ [(x, u)]) ∧ ∀ base : Heap, (K w.params).In base → base.Ns mainGlobals mg → FnOkG l.prog w (K w.params) mg base CX0 k fa fd [x] (sp w))
    (prom : ∀ (w : World) (H : Hp) (a : Addr) (ns : List Int), ns.length ≤ n → (∀ z ∈ ns, Builtin.Int.intBits z ≤ 1048576) → Only H → SqL (K w.params) H a (ns.map V.int) → sp w [.ref a] H (fun v _ => v = .bl true) fun _ _ _ => False) :
    PySem.W.WalkO q loose XP YP l.row.toRowW d [] (fun f vs => PySem.call f vs) := by
  apply Att.attach_callB most plain
  intro w s₀ s₁ mg mb fa o pm cd doc a vs ns G Y _ _ _ hmg at_ isI size bits gens
  have kin := top w _ Y
  obtain ⟨fd, bind, hF⟩ := F w mg fa _ kin G.T.g hmg
  have few' := Nat.le_trans size few
  have ok : HOk l.prog w (scrH (K w.params) a vs ns) s₁.heap := scrH_ok at_ isI few'
  have kin' : (K w.params).In (hidT s₁.heap (scrH (K w.params) a vs ns)) := fun b o e => scrH_base at_ (kin b o e) (.inr (by rw [e]; simp))
  have g' := scrH_ns (K := K w.params) (ns := ns) at_ G.T.g
  obtain ⟨mc, lim1, lim2⟩ := G.T.nolimit
  have e0 : Env0 l.prog w (K w.params) mg (hidT s₁.heap (scrH (K w.params) a vs ns)) callerA [] s₁ (scrH (K w.params) a vs ns) :=
    ⟨rfl, ⟨kin', g', ⟨mb, scrH_ns at_ G.T.b, G.T.builtins⟩, ⟨mc, scrH_ns at_ lim1, lim2⟩⟩, fun _ _ => of_hidT, Nat.le_of_eq (hidT_size _ _), trivial, (by intro _ z; cases z), ok, AllBare.of_eq gens⟩
  refine codeAny_mono ((hF _ kin' g').calls (us := [.ref a]) (vs := [.ref a]) rfl room e0 (bind s₁ (.ref a)) (.cons rfl .nil) (prom w _ a ns size bits (scrH_only (K w.params) a vs ns) (scrH_sq kin at_ isI few'))) fun r s' h => ?_
  match r, h with
  | .error e, h => exact h.elim
  | .ok .next, h => exact h.elim
  | .ok .brk, h => exact h.elim
  | .ok .cont, h => exact h.elim
  | .ok (.ret u), ⟨v, H', os, bare, un, ok', rel, is⟩ =>
    have is : v = .bl true := is
    subst is
    cases (show u = Value.bool true from rel)
    refine ⟨rfl, OldK.of_keep ?_, os, bare⟩
    intro b o e
    rcases scrH_or (K w.params) a vs ns b with z | ⟨rfl, _, z⟩
    · exact un.keep b o e z (fun m => nomatch m) (by simp)
    · cases at_.symm.trans e
      exact (ok' _ _ (un.frzs _ _ _ z)).1
end HopR

set_option Elab.async false
set_option linter.all false
set_option maxRecDepth 100000
namespace HopR
open PySem PySem.Spec PyProof.Rows L2
theorem hu66 {A : Around} {k : Nat} (hr : Room k A) : A.units + 66 < cLine := by
  have := hr.un
  omega
/-! ### f(k = v, ..), no value by its place -/
section
variable {X : Cx} {CX : CXT} {k : Nat} {f : Addr} {fd : FuncData} {ps ks : List Str} {sp : Sp} {E : XK} {x : Str} {p pos : Pos} {kws : List Keyword} {tk : TA}
def tCallKw (m : Nat) (sp : Sp) (gV : List V → List V) (E : XK) (tk : TA) : TE := fun σ H Q => tk σ H fun zs H2 => zs.length = m ∧ sp (gV zs) H2 Q E
theorem pe_callKw {g : List Value → List Value} {gV : List V → List V} (F : FnOk X.prog X.w X.K X.mg X.base CX k f fd ps sp) (hr : Room k X.A) (hg : Gl X x) (hm : X.mg x = some (.ref f)) (hk : PySem.W.keepIn X.K (.ref f) = true)
    (hb : ∀ (s : Shared) (ws : List Value), X.K.In s.heap → ws.length = ks.length → BindsTo s fd ⟨[], ks.zip ws⟩ (ps.zip (g ws))) (hrel : ∀ {zs : List V} {ws : List Value}, Vals zs ws → Vals (gV zs) (g ws)) (hx : Passes CX X E) (hkw : PK X kws tk)
    (hall : (backToKw pos (keywordEach kws X.env)).all (·.1.isSome) = true := by rfl) (hks : (backToKw pos (keywordEach kws X.env)).filterMap (·.1) = ks := by rfl) (hdb : (x == ("__debug__" : Str)) = false := by decide)
    (hpl : ((backTo pos (starEach [] X.env)).any (·.1) || (backToKw pos (keywordEach kws X.env)).any (·.1.isNone)) = false := by rfl) :
    PE X (.Call (.Name x p) [] kws pos) (tCallKw ks.length sp gV E tk) := by
  refine ⟨fun pins s σ H Q I h => wpAny_Call_Name_kw (ld_glob I hg hm ?_ hdb)⟩
  refine PySem.W.callWith_KW0 (h₀ := X.base) I.ok.mod.kin hk hall (thn (hkw.run pos pins s σ H _ I h) fun ws s2 ⟨zs, H2, I2, rz, l2, q2⟩ => ⟨I2.kIn, ?_⟩) hpl
  rw [hks]
  refine wpAny_call (codeAny_mono (F.run X.A X.stack s2 H2 ⟨[], ks.zip ws⟩ (g ws) (gV zs) Q E hr I2.env0 (hb s2 ws I2.kIn (rz.length.symm.trans l2)) (hrel rz) q2) fun r s' hq => ?_)
  match r, hq with
  | .error e, hq => exact hx pins σ H2 s2 e s' I2 hq
  | .ok (.ret u), hq => exact I2.after hq
  | .ok .next, hq => exact hq.elim
  | .ok .brk, hq => exact hq.elim
  | .ok .cont, hq => exact hq.elim
end
/-! ### lists of small numbers as data -/
def wv (k : Nat) : V := .int (k : Int)
def dw (k : Nat) : PyData := PyData.int (k : Int)
theorem dp_walls {K : PySem.W.Frag} {H : Hp} : ∀ ks : List Nat, DpAll K H (ks.map wv) (ks.map dw)
  | [] => .nil
  | k :: r => .cons (.int _) (dp_walls r)
theorem lay_dw : ∀ ks : List Nat, PyData.canLayAll0 (ks.map dw) = true
  | [] => rfl
  | k :: r => by
    rw [List.map_cons]
    simp only [PyData.canLayAll0, lay_dw r, Bool.and_true]
    rfl
theorem deep_dw : ∀ ks : List Nat, PyData.depthAll (ks.map dw) = 0
  | [] => rfl
  | k :: r => by
    rw [List.map_cons]
    simp only [PyData.depthAll, deep_dw r]
    rfl
theorem shaped_ints (ks : List Nat) : SeqAt.shaped (.list (ks.map dw)) = true := by
  unfold SeqAt.shaped
  rw [Bool.and_eq_true]
  refine ⟨?_, decide_eq_true ?_⟩
  · simp only [PyData.canLay0, lay_dw]
  · simp only [PyData.depth, deep_dw]
    decide
theorem show_dw : ∀ ks : List Nat, (∀ k ∈ ks, k ≤ 30) → PyData.showableAll (ks.map dw) = true
  | [], _ => rfl
  | k :: r, h => by
    have hk := h k (List.mem_cons_self ..)
    have e : PyData.showable (dw k) = true := by
      show decide ((k : Int).natAbs.log2 < 1920) = true
      refine decide_eq_true (Nat.lt_of_le_of_lt (Nat.log2_le_self _) ?_)
      show k < 1920
      omega
    rw [List.map_cons]
    simp only [PyData.showableAll, e, show_dw r fun q hq => h q (List.mem_cons_of_mem _ hq), Bool.and_true]
theorem nodict_dw : ∀ ks : List Nat, PyData.hasDictAll (ks.map dw) = false
  | [] => rfl
  | k :: r => by
    rw [List.map_cons]
    simp only [PyData.hasDictAll, nodict_dw r, Bool.or_false]
    rfl
theorem text30 : ∀ k < 31, (PyData.shown (dw k)).length ≤ 2 := by decide +kernel
theorem shown_len : ∀ ks : List Nat, (∀ k ∈ ks, k ≤ 30) → ((PyData.shownAll (ks.map dw)).map (·.length)).sum ≤ 2 * ks.length ∧ (PyData.shownAll (ks.map dw)).length = ks.length
  | [], _ => ⟨Nat.le_refl _, rfl⟩
  | k :: r, h => by
    obtain ⟨h1, h2⟩ := shown_len r fun q hq => h q (List.mem_cons_of_mem _ hq)
    have hk := text30 k (by have := h k (List.mem_cons_self ..); omega)
    rw [List.map_cons]
    simp only [PyData.shownAll, List.map_cons, List.sum_cons, List.length_cons]
    omega
theorem ints_show {ks : List Nat} (h : ∀ k ∈ ks, k ≤ 30) (hl : ks.length ≤ 1000) : (PyData.list (ks.map dw)).showable = true ∧ (PyData.list (ks.map dw)).hasDict = false ∧ (PyData.list (ks.map dw)).depth ≤ 64 ∧ (PyData.list (ks.map dw)).shown.length ≤ sizeLine := by
  obtain ⟨h1, h2⟩ := shown_len ks h
  refine ⟨?_, ?_, ?_, ?_⟩
  · simp only [PyData.showable, show_dw ks h]
  · simp only [PyData.hasDict, nodict_dw]
  · simp only [PyData.depth, deep_dw]
    decide
  · simp only [PyData.shown]
    have h3 := listText_len_le (PyData.shownAll (ks.map dw))
    rw [sizeLine_eq]
    omega
/-! ### the law's own words of walls and changes -/
theorem opn_eq {bs : List Bool} {k : Nat} (h : k ≤ bs.length) : opn bs k = ((decide (k = 0) || bs.getD (k - 1) false) && (decide (k = bs.length) || !bs.getD k true)) := by
  have hl := ends_len bs
  have e1 : (ends bs)[k]?.getD false = (decide (k = 0) || bs.getD (k - 1) false) := by
    unfold ends
    cases k with
    | zero => rfl
    | succ j =>
      rw [List.getElem?_cons_succ, List.getElem?_append_left (by omega), List.getD_eq_getElem?_getD]
      simp
  have e2 : (ends bs)[k + 1]?.getD true = (decide (k ≠ bs.length) && bs.getD k true) := by
    unfold ends
    rw [List.getElem?_cons_succ]
    by_cases hk : k = bs.length
    · subst hk
      rw [List.getElem?_append_right (Nat.le_refl _)]
      simp
    · rw [List.getElem?_append_left (by omega), List.getD_eq_getElem?_getD, decide_eq_true hk]
      rfl
  have e3 : opn bs k = (((ends bs)[k]?.getD false) && !((ends bs)[k + 1]?.getD true)) := by
    have g1 : (ends bs)[k]? = some (ends bs)[k] := List.getElem?_eq_getElem (by omega)
    have g2 : (ends bs)[k + 1]? = some (ends bs)[k + 1] := List.getElem?_eq_getElem (by omega)
    have g3 : ((ends bs).drop k).take 2 = [(ends bs)[k], (ends bs)[k + 1]] := by
      rw [List.drop_eq_getElem_cons (by omega), List.drop_eq_getElem_cons (by omega)]
      rfl
    unfold opn
    rw [g3, g1, g2]
    show decide ([(ends bs)[k], (ends bs)[k + 1]] = [true, false]) = ((ends bs)[k] && !(ends bs)[k + 1])
    cases (ends bs)[k] <;> cases (ends bs)[k + 1] <;> rfl
  rw [e3, e1, e2]
  by_cases hk : k = bs.length
  · simp [hk]
  · simp [hk]
def lbeh (bs : List Bool) (k : Nat) : List Bool := if k < bs.length then (if 0 < k then bs.set (k - 1) false else bs).set k true else (if 0 < k then bs.set (k - 1) false else bs)
theorem lbeh_len (bs : List Bool) (k : Nat) : (lbeh bs k).length = bs.length := by
  unfold lbeh
  split <;> split <;> simp
theorem chg_get {bs : List Bool} {k i : Nat} (h : k ≤ bs.length) (hi : i < bs.length) : (chg bs k)[i]? = some (if i + 1 = k then false else if i = k then true else bs[i]) := by
  have hl := ends_len bs
  have hb := bhd_len h
  have he : (ends bs)[i + 1]? = some bs[i] := by
    unfold ends
    rw [List.getElem?_cons_succ, List.getElem?_append_left hi, List.getElem?_eq_getElem hi]
  unfold chg
  rw [List.getElem?_take_of_lt (by rw [hb]; omega), List.getElem?_drop, Nat.add_comm 1 i]
  unfold bhd
  rw [List.append_assoc, List.append_assoc]
  by_cases h1 : i + 1 < k
  · rw [List.getElem?_append_left (by rw [List.length_take]; omega), List.getElem?_take_of_lt h1, he, if_neg (by omega), if_neg (by omega)]
  · rw [List.getElem?_append_right (by rw [List.length_take]; omega), List.length_take, Nat.min_eq_left (by omega)]
    by_cases h2 : i + 1 = k
    · rw [if_pos h2, h2, Nat.sub_self]
      rfl
    · rw [if_neg h2]
      by_cases h3 : i = k
      · rw [if_pos h3, show i + 1 - k = 1 by omega]
        rfl
      · rw [if_neg h3]
        obtain ⟨m, hm⟩ : ∃ m, i + 1 - k = m + 2 := ⟨i + 1 - k - 2, by omega⟩
        rw [hm]
        show ((ends bs).drop (k + 2))[m]? = some bs[i]
        rw [List.getElem?_drop, show k + 2 + m = i + 1 by omega, he]
theorem lbeh_eq {bs : List Bool} {k : Nat} (h : k ≤ bs.length) : lbeh bs k = chg bs k := by
  apply List.ext_getElem?
  intro i
  by_cases hi : i < bs.length
  · rw [chg_get h hi]
    unfold lbeh
    have g : bs[i]? = some bs[i] := List.getElem?_eq_getElem hi
    have inner : (if 0 < k then bs.set (k - 1) false else bs)[i]? = some (if i + 1 = k then false else bs[i]) := by
      by_cases hk : 0 < k
      · rw [if_pos hk, List.getElem?_set]
        by_cases e : k - 1 = i
        · rw [if_pos e, if_pos (by omega), if_pos (by omega)]
        · rw [if_neg e, if_neg (by omega), g]
      · rw [if_neg hk, if_neg (by omega), g]
    have il : (if 0 < k then bs.set (k - 1) false else bs).length = bs.length := by
      split <;> simp
    by_cases hk : k < bs.length
    · rw [if_pos hk, List.getElem?_set]
      by_cases e : k = i
      · rw [if_pos e, if_pos (by rw [il]; exact hk), if_neg (by omega), if_pos e.symm]
      · rw [if_neg e, inner]
        by_cases e2 : i + 1 = k
        · rw [if_pos e2, if_pos e2]
        · rw [if_neg e2, if_neg e2, if_neg (fun z => e z.symm)]
    · rw [if_neg hk, inner]
      by_cases e2 : i + 1 = k
      · rw [if_pos e2, if_pos e2]
      · rw [if_neg e2, if_neg e2, if_neg (by omega)]
  · rw [List.getElem?_eq_none (by rw [lbeh_len]; omega), List.getElem?_eq_none (by rw [chg_len h]; omega)]
end HopR

set_option Elab.async false
set_option linter.all false
set_option maxRecDepth 100000
namespace HopR
open PySem PySem.Spec PyProof.Rows L2
/-! ### an exception that is kept behind its suite -/
/-- the exception at a, of the class cls, its dict d, kept as a value -/
def ExH (cls : Value) (d : Option Addr) (a : Addr) : HO := .ext fun h => ∃ (oe : Obj) (vs : Array Value), h.get? a = some oe ∧ Zc cls d oe ∧ oe.data = .fields vs
theorem exH_ok {P : Program} {w : World} {H : Hp} {h : Heap} {a : Addr} {cls : Value} {d : Option Addr} {oe : Obj} {vs : Array Value} (e : h.get? a = some oe) (z : Zc cls d oe) (q : oe.data = .fields vs) : ObjOk P w H h a (ExH cls d a) :=
  ⟨⟨oe, vs, e, z, q⟩, ⟨oe, e⟩, fun _ _ ⟨o, v, q, r⟩ k => ⟨o, v, k o q, r⟩⟩
section
variable {X : Cx} {pins : List (Addr × Obj)} {σ σ0 : L2.St} {H H0 : Hp} {s sI : Shared} {a : Addr} {oe : Obj} {vs : Array Value} {o : HO}
/-- an object that came behind the entry is tracked from now on -/
theorem track (I : Inv X pins σ H s) (J : Inv X pins σ0 H0 sI) (hI : sI.heap.get? a = none) (hx : X.ex = []) (na : H a = none) (nL : a ≠ X.env.locals) (ha : s.heap.get? a = some oe) (hd : oe.data = .fields vs) (new : ObjOk X.prog X.w (upd H a o) s.heap a o) : Inv X pins σ (upd H a o) s := by
  have n0 : ∀ b u, X.s_0.heap.get? b = some u → b ≠ a := by
    intro b u e z
    subst z
    obtain ⟨u2, q⟩ := J.base.there b u e (by rw [hx]; exact fun z => nomatch z)
    rw [hI] at q
    cases q
  have nN : ∀ {b : Addr} {u : HO}, H b = some u → b ≠ a := fun e => ne_of_none e na
  have bs := I.base
  refine ⟨I.ok, I.os, I.bare, ⟨bs.keep, bs.slot, ?_, bs.there, ?_, ?_, ?_⟩, I.loc, I.cell, ?_, ?_, ?_, ?_, I.len⟩
  · intro b u e n q
    rw [upd_ne (n0 b u e)]
    exact bs.free b u e n q
  · intro b xs e
    have q := bs.tups b xs e
    rw [upd_ne (nN q)]
    exact q
  · intro b ob u e
    have q := bs.frzs b ob u e
    rw [upd_ne (nN q)]
    exact q
  · intro b ps e
    obtain ⟨m, q⟩ := bs.tbls b ps e
    exact ⟨m, by rw [upd_ne (nN q)]; exact q⟩
  · rw [upd_ne nL.symm]
    exact I.free
  · intro x c e
    have nc : c ≠ a := by
      intro z
      subst z
      obtain ⟨v, oc, e1, e2⟩ := I.cell x c e
      rw [ha] at e1
      cases e1
      rw [hd] at e2
      cases e2
    rw [upd_ne nc]
    exact I.freeC x c e
  · intro p hp
    have np : p.1 ≠ a := by
      intro z
      have q := (J.pin p hp).1
      rw [z, hI] at q
      cases q
    obtain ⟨e, n, r⟩ := I.pin p hp
    exact ⟨e, by rw [upd_ne np]; exact n, r⟩
  · intro b u e
    by_cases hb : b = a
    · subst hb
      rw [upd_same] at e
      cases e
      exact new
    · rw [upd_ne hb] at e
      refine (I.hok b u e).stay (fun c v _ q => q) (fun c q => ?_) (fun c xs q => ?_)
      · rw [upd_ne (nN q)]
        exact q
      · rw [upd_ne (nN q)]
        exact q
end
theorem fly_keeps {B h h' : Heap} {l : List Env} {a : Addr} {Z : Obj → Prop} (x : HandSPX.FlyingZ B l a Z h) (k : ∀ b o, h.get? b = some o → h'.get? b = some o) : HandSPX.FlyingZ B l a Z h' := by
  obtain ⟨x1, x2, x3, oe, vs, T, oT, ts, e1, e2, e3, e4, e5, e6, e7, e8, e9⟩ := x
  exact ⟨fun b o e => k b o (x1 b o e), x2, x3.of_keeps (fun b o e _ => ⟨o, k b o e, rfl⟩), oe, vs, T, oT, ts, k _ _ e1, e2, e3, e4, e5, e6, k _ _ e7, e8, e9⟩
/-- the clause's test takes the exceptions whose class has m -/
def Tests (X : Cx) (t : Expr) (m : Value → Prop) : Prop :=
  ∀ (a : Addr) (oe : Obj) (pn pins : List (Addr × Obj)) (σ : L2.St) (H : Hp) (s : Shared) (cls : Value) (Q : Value → Shared → Prop) (E : Value → Shared → Prop), Inv (X.suite a ((a, oe) :: pn)) pins σ H s → s.heap.get? a = some oe → oe.cls = cls → m cls →
    (∀ (c : Value) (h' : Heap), (∀ b o, s.heap.get? b = some o → h'.get? b = some o) → PySem.W.Looks (model X.prog X.w) h' (excMatches (.ref a) c) true → Q c { s with heap := h' }) → wpAny (model X.prog X.w) (X.A.mark (some (.ref a))) (eval t X.env) Q E s
theorem ld_nm {X : Cx} {x : Str} {c : Value} {pins : List (Addr × Obj)} {σ : L2.St} {H : Hp} {s : Shared} {Q : Value → Shared → Prop} {E : Value → Shared → Prop} {p : Pos} (I : Inv X pins σ H s) (hc : Names X x c) (q : Q c s) : wpAny (model X.prog X.w) X.A (eval (.Name x p) X.env) Q E s := by
  obtain ⟨g, nd, h | ⟨h1, h2, h3⟩⟩ := hc
  · exact ld_glob I g h q nd
  · exact ld_blt I g h1 h2 q h3 nd
theorem ty_looks {P : Program} {w : World} {h : Heap} {a : Addr} {oe : Obj} {cls : Value} (e : h.get? a = some oe) (c : oe.cls = cls) : PySem.W.Looks (model P w) h (typeOf (.ref a)) cls := by
  intro A Q E s k q
  exact wpAny_typeOf_ref (k _ _ e) (by rw [c]; exact q)
theorem tests_one {X : Cx} {x : Str} {c : Value} {p : Pos} (hc : Names X x c) : Tests X (.Name x p) fun cls => PySem.W.exmOne X.K cls c = some true := by
  intro a oe pn pins σ H s cls Q E I ha hcl hm k
  exact ld_nm (X := X.suite a ((a, oe) :: pn)) I hc (k c s.heap (fun _ _ z => z) (PySem.W.exm_one I.kIn (ty_looks ha hcl) hm))
theorem tests_two {X : Cx} {x1 x2 : Str} {c1 c2 : Value} {p1 p2 pos : Pos} {u} (h1 : Names X x1 c1) (h2 : Names X x2 c2) : Tests X (.Tuple [.Name x1 p1, .Name x2 p2] u pos) fun cls => PySem.W.exmAny X.K cls [c1, c2] = some true := by
  intro a oe pn pins σ H s cls Q E I ha hcl hm k
  refine wpAny_Tuple_spliced ?_
  refine Calls.spliced_cons (ld_nm (X := X.suite a ((a, oe) :: pn)) I h1 ?_)
  refine Calls.spliced_cons (ld_nm (X := X.suite a ((a, oe) :: pn)) I h2 (Calls.spliced_nil ⟨by show 2 ≤ sizeLine; decide, ?_⟩))
  have hk : ∀ b o, s.heap.get? b = some o → (s.heap.push { cls := .type "tuple", data := .seq [c1, c2].toArray }).get? b = some o := fun b o e => Heap.get?_push_of_some _ e
  refine k (.ref s.heap.objs.size) _ hk ?_
  exact PySem.W.exm_tup2 (fun b o e => hk b o (I.kIn b o e)) (ty_looks (hk _ _ ha) hcl) (Heap.get?_push_size _ rfl) hm
/-- what 'except .. as n: v = n' wishes of an exception of the body: it is taken, and kept in slot j; slot i, n's, is empty behind it -/
def wHeld (m : Value → Prop) (i j : Nat) (D : Ends) : WX := fun cls d σ H => m cls ∧ ∀ a, H a = none → D.nx (((σ.set i (some (.ref a))).set j (some (.ref a))).set i none) (upd H a (ExH cls d a))
section
variable {X : Cx} {n v : Str} {i j : Nat} {t : Expr} {m : Value → Prop} {body : List Stmt} {pos pos' p1 p2 p3 : Pos} {tb : WX → TS}
theorem ps_try_held (hs : X.stack = X.env :: X.outer) (hf : X.env.frame = some X.env.locals) (hN : X.N.Nodup) (hi : X.N[i]? = some n) (hj : X.N[j]? = some v) (hln : X.env.kindOf n = some .local) (hlv : X.env.kindOf v = some .local) (hx : X.ex = []) (ht : Tests X t m)
    (hb : ∀ (W : WX) (pn : List (Addr × Obj)) (xe : Value → Shared → Prop), Takes (X.tr pn xe) W → PassesOwn (model X.prog X.w) X.A X.env xe → PSs (X.tr pn xe) body (tb W))
    (hsu : ∀ (a : Addr) (oe : Obj) (pn : List (Addr × Obj)), PSs (X.suite a ((a, oe) :: pn)) [.Assign [.Name v p1] (.Name n p2) p3] (tAsg (tVar i) (gName j))) :
    PS X (.Try body [.ExceptHandler (some t) (some n) [.Assign [.Name v p1] (.Name n p2) p3] pos'] [] [] pos) (fun D σ H => tb (wHeld m i j D) D σ H) := by
  constructor
  intro pins s σ H D I h
  have ok := I.ok
  have frm : X.A.frames = some (X.env :: X.outer) := ok.frames.trans (congrArg some hs)
  have body_ := hb (wHeld m i j D) (X.pn ++ pins) (fun e s₁ => wpAny (model X.prog X.w) X.A (noteFrame e X.env) (fun _ s₂ => wpAny (model X.prog X.w) X.A (setFlight e none) (fun _ s₃ => wpAny (model X.prog X.w) X.A (handleBy e X.env [.ExceptHandler (some t) (some n) [.Assign [.Name v p1] (.Name n p2) p3] pos']) (SP X pins D) X.xe s₃) X.xe s₂) X.xe s₁) ?caught PassesOwn.looking
  · refine wpAny_Try_except (wpAny_mono (body_.run [] s σ H D (I.toTry _) h) ?_ fun _ _ z => z)
    intro f s1 hsp
    match f, hsp with
    | .next, ⟨σ', H', J', q⟩ => exact wpAny_execs_nil ⟨σ', H', J'.ofTry ok, q⟩
    | .brk, ⟨σ', H', J', q⟩ => exact ⟨σ', H', J'.ofTry ok, q⟩
    | .cont, ⟨σ', H', J', q⟩ => exact ⟨σ', H', J'.ofTry ok, q⟩
    | .ret u, ⟨v, σ', H', J', r, q⟩ => exact ⟨v, σ', H', J'.ofTry ok, r, q⟩
  case caught =>
    rintro u s' ⟨a, B, sI, pins', σ', H', cls, d, rfl, J', nb, up, sky, na, os, ag, hm, hk⟩
    have J : Inv X pins σ' H' sI := J'.ofTry ok
    have sk2 : Sky B (X.env :: X.outer) a (Zc cls d) X.env.locals s'.heap := hs ▸ sky
    show wpAny (model X.prog X.w) X.A (noteFrame (.ref a) X.env) _ _ _
    refine Sky.land Zc.steady frm hf sk2 fun h3 fl3 up3 => ?_
    have notF : ∀ {g : Heap}, HandSPX.FlyingZ B (X.env :: X.outer) a (Zc cls d) g → a ∉ frs (X.env :: X.outer) := by
      intro g fl hmem
      obtain ⟨o1, v1, e1, _, e3⟩ := fl.there
      obtain ⟨_, o2, e2, hn2⟩ := fl.2.2.1.mem hmem
      rw [e1] at e2
      cases e2
      exact hn2 _ e3
    have nfr := notF fl3
    have nL : a ≠ X.env.locals := by
      intro z
      exact nfr (List.mem_filterMap.mpr ⟨X.env, List.mem_cons_self, hf.trans (congrArg some z.symm)⟩)
    have nF : a ∉ X.fs := by
      intro z
      obtain ⟨e, he, q⟩ := List.mem_filterMap.mp z
      exact nfr (List.mem_filterMap.mpr ⟨e, List.mem_cons_of_mem _ he, q⟩)
    have nI : sI.heap.get? a = none := by
      cases e : sI.heap.get? a with
      | none => rfl
      | some o =>
        have q := nb a o e (by rw [hs]; exact nfr)
        rw [fl3.2.1] at q
        cases q
    obtain ⟨oe3, vs3, he3, hz3, hd3⟩ := fl3.there
    have J3 : Inv X pins σ' H' { s' with heap := h3 } := J.landed nb fl3.1 (up.trans up3) os ag
    refine wpAny_handleBy_cons (codeAny_handlers_test ?_) (fun q => nomatch q)
    refine ht a oe3 _ _ _ _ _ cls _ _ (J3.suite he3 hd3 na nL nF) he3 hz3.1 hm fun c h' kp lk => lk.here ?_
    refine codeAny_handlers_suite_as (HandSPX.lands_againZ (fly_keeps fl3 kp) fun h4 fl4 up4 => ?_)
    have upA : sI.heap.UpToSlots h4 := ((up.trans up3).trans (Heap.UpToSlots.of_keeps kp)).trans up4
    have J4 : Inv X pins σ' H' { s' with heap := h4 } := J.landed nb fl4.1 upA os ag
    obtain ⟨oe4, vs4, he4, hz4, hd4⟩ := fl4.there
    refine store_ok (X := X.suite a ((a, oe4) :: (X.pn ++ pins))) (v := .ref a) (J4.suite he4 hd4 na nL nF) hN hi (.inl hln) rfl (fun s5 S5 => ?_) (.inr hln)
    have hlen : i < σ'.length := by
      rw [J.len]
      exact (List.getElem?_eq_some_iff.mp hi).1
    refine wpAny_mono ((hsu a oe4 (X.pn ++ pins)).run [] s5 _ H' { nx := fun σ6 H6 => σ6 = (σ'.set i (some (.ref a))).set j (some (.ref a)) ∧ H6 = H', rt := fun _ _ => False } S5 ?_) (fun f s6 hsp => ?_) (fun _ _ z => False.elim z)
    · exact ⟨.ref a, by simp [hlen], rfl, rfl⟩
    match f, hsp with
    | .next, ⟨σ6, H6, S6, e6, e7⟩ =>
      subst e6 e7
      refine gone_ok (X := X.suite a ((a, oe4) :: (X.pn ++ pins))) S6 hN hi hln fun s7 S7 => ?_
      have ha7 := (S7.pin (a, oe4) (List.mem_append_left _ List.mem_cons_self)).1
      exact ⟨_, _, track (S7.unsuite ok) J nI hx na nL ha7 hd4 (exH_ok ha7 hz4 hd4), hk a na⟩
    | .brk, ⟨_, _, _, z⟩ => exact z.elim
    | .cont, ⟨_, _, _, z⟩ => exact z.elim
    | .ret u, ⟨_, _, _, _, _, z⟩ => exact z.elim
end
end HopR

set_option Elab.async false
set_option linter.all false
set_option maxRecDepth 100000
namespace HopR
open PySem PySem.Spec PyProof.Rows L2
/-! ### isinstance of a kept exception without a dict -/
section
variable {X : Cx}
theorem held_at {pins : List (Addr × Obj)} {σ : L2.St} {H : Hp} {s : Shared} {a D : Addr} (I : Inv X pins σ H s) (ha : H a = some (ExH (.ref D) none a)) : ∃ oe, PySem.W.InstAt s.heap a oe D none := by
  obtain ⟨⟨oe, vs, e, ⟨z1, z2⟩, q⟩, _, _⟩ := I.hok a _ ha
  obtain ⟨oc, od, oda, osl⟩ := oe
  dsimp only at z1 z2 q
  subst z1 z2 q
  exact ⟨_, e, rfl, rfl, trivial⟩
/-- isinstance(kept, c) -/
def rIsH (K : PySem.W.Frag) : List V → Hp → VK → Prop := fun xs H Q => ∃ (a D : Addr) (c : V) (cv : Value) (b : Bool), xs = [.ref a, c] ∧ H a = some (ExH (.ref D) none a) ∧ ExcC K D ∧ ClsV c cv ∧ PySem.W.kitOne K (.ref D) cv = some b ∧ Q (.bl b) H
theorem call_isH : CallR X (.builtin "isinstance") (rIsH X.K) := by
  rintro pins s σ H xs us Q I r ⟨a, D, c, cv, b, rfl, ha, C, kc, e, q⟩
  obtain ⟨u1, u2, rfl, r1, r2⟩ := vals2 r
  obtain rfl := kc.eq r2
  cases (show u1 = Value.ref a from r1)
  obtain ⟨oe, J⟩ := held_at I ha
  exact PySem.W.kia_one (PySem.W.handS_kitx_exc C.hg C.hk C.hs C.hd C.ha C.hn C.ht C.hm) I.kIn J e (fun z => nomatch z) fun tk => ⟨.bl b, H, I.tok tk, rfl, q⟩
/-- isinstance(kept, (c1, c2, ..)) -/
def rIsHT (K : PySem.W.Frag) : List V → Hp → VK → Prop := fun xs H Q => ∃ (a D tp : Addr) (cs : List V) (ws : List Value) (b : Bool), xs = [.ref a, .ref tp] ∧ H a = some (ExH (.ref D) none a) ∧ ExcC K D ∧ H tp = some (.tup cs) ∧ Paired ClsV cs ws ∧ PySem.W.kitAny K (.ref D) ws = some b ∧ Q (.bl b) H
theorem call_isHT : CallR X (.builtin "isinstance") (rIsHT X.K) := by
  rintro pins s σ H xs us Q I r ⟨a, D, tp, cs, ws, b, rfl, ha, C, ht, kc, e, q⟩
  obtain ⟨u1, u2, rfl, r1, r2⟩ := vals2 r
  cases (show u1 = Value.ref a from r1)
  cases (show u2 = Value.ref tp from r2)
  obtain ⟨oe, J⟩ := held_at I ha
  have hT : ObjOk X.prog X.w H s.heap tp (.tup cs) := I.hok tp _ ht
  obtain ⟨_, its, rv, ⟨oc, od, dt, osl⟩, g1, g2, n, g3⟩ := hT
  obtain rfl := ClsV.all kc rv
  simp only at g2 g3
  subst g2 g3
  exact PySem.W.kia_tup (PySem.W.handS_kitx_exc C.hg C.hk C.hs C.hd C.ha C.hn C.ht C.hm) I.kIn J g1 e (fun z => nomatch z) fun tk => ⟨.bl b, H, I.tok tk, rfl, q⟩
end
/-! ### things that are whole numbers or not -/
/-- x is of a built-in type that is no whole number's -/
def Odd (K : PySem.W.Frag) (H : Hp) (x : V) : Prop := ∃ t bI, TyX K H x t ∧ PySem.W.kitOne K t (.type "int") = some bI ∧ (bI = true → PySem.W.kitOne K t (.type "bool") = some true)
theorem odd_non {K : PySem.W.Frag} {H : Hp} : Odd K H .non := ⟨_, false, .base .non, kit_ty (by decide +kernel), fun z => nomatch z⟩
theorem odd_bl {K : PySem.W.Frag} {H : Hp} {b : Bool} : Odd K H (.bl b) := ⟨_, true, .base (.bl b), kit_ty (by decide +kernel), fun _ => kit_ty (by decide +kernel)⟩
theorem odd_str {K : PySem.W.Frag} {H : Hp} {z : Str} : Odd K H (.str z) := ⟨_, false, .base (.str z), kit_ty (by decide +kernel), fun z => nomatch z⟩
theorem odd_lst {K : PySem.W.Frag} {H : Hp} {a : Addr} {xs : List V} (e : H a = some (.lst xs)) : Odd K H (.ref a) := ⟨_, false, .base (.lst e), kit_ty (by decide +kernel), fun z => nomatch z⟩
theorem odd_tup {K : PySem.W.Frag} {H : Hp} {a : Addr} {xs : List V} (e : H a = some (.tup xs)) : Odd K H (.ref a) := ⟨_, false, .base (.tup e), kit_ty (by decide +kernel), fun z => nomatch z⟩
theorem odd_dK {K : PySem.W.Frag} {H : Hp} {a : Addr} {xs : List (Key × V)} (e : H a = some (.dK xs)) : Odd K H (.ref a) := ⟨_, false, .base (.dK e), kit_ty (by decide +kernel), fun z => nomatch z⟩
end HopR

set_option Elab.async false
set_option linter.all false
set_option maxRecDepth 100000
namespace HopR
open PySem L2
theorem same_upd {H : Hp} {p : Addr} {o : HO} (h : H p = none) : Same H (upd H p o) := fun b x e => by
  rw [upd_ne (ne_of_none e h)]
  exact e
theorem same_new {H H1 : Hp} {p : Addr} {o : HO} (h : H p = none) (s : Same H H1) : Same H (upd H1 p o) := fun b x e => by
  rw [upd_ne (ne_of_none e h)]
  exact s _ _ e
/-- a def of the text, its binding, where its name leads -/
structure Fn (K : PySem.W.Frag) (mg : Str → Option Value) (x : Str) (st : Stmt) (ps : List Str) (f : Addr) (fd : FuncData) : Prop where
  F : Fun K x x st f fd
  b : Binds K fd ps []
  g : mg x = some (.ref f)
end HopR

set_option Elab.async false
set_option linter.all false
set_option maxRecDepth 100000
namespace HopR
open PySem L2
/-! ### classes of refusals -/
theorem kit_own {K : PySem.W.Frag} {D C : Addr} {b : Bool} (ne : D ≠ C) (hd : PySem.W.hasDictIn K C = true) (ht : PySem.W.typeIn K (.ref C) = some (.type "type")) (h : PySem.W.subIn K (.ref D) (.ref C) = some b) : PySem.W.kitOne K (.ref D) (.ref C) = some b := by
  obtain ⟨cd, hc, _⟩ := PySem.W.any_some hd
  have e1 : ((Value.ref D == Value.ref C) = true) = False := by
    rw [eq_iff_iff]
    exact ⟨fun z => ne (Value.ref.inj (beq_iff_eq.mp z)), False.elim⟩
  have e2 : ((PySem.W.clsIn K C).isSome && PySem.W.typeIn K (.ref C) == some (.type "type")) = true := by rw [hc, ht] <;> rfl
  unfold PySem.W.kitOne
  rw [if_neg (by rw [e1]; exact id)]
  show (if ((PySem.W.clsIn K C).isSome && PySem.W.typeIn K (.ref C) == some (.type "type")) = true then PySem.W.subIn K (.ref D) (.ref C) else none) = some b
  rw [if_pos e2]
  exact h
theorem kit_me {K : PySem.W.Frag} {D : Addr} : PySem.W.kitOne K (.ref D) (.ref D) = some true := by
  unfold PySem.W.kitOne
  rw [if_pos (by simp)]
theorem kit_blt {K : PySem.W.Frag} {D : Addr} {T : String} {b : Bool} (m : PySem.W.kitMeta T = true) (h : PySem.W.subIn K (.ref D) (.type T) = some b) : PySem.W.kitOne K (.ref D) (.type T) = some b := by
  have e1 : ¬ ((Value.ref D == Value.type T) = true) := fun z => nomatch (beq_iff_eq.mp z)
  unfold PySem.W.kitOne
  rw [if_neg e1]
  show (if PySem.W.kitMeta T = true then PySem.W.subIn K (.ref D) (.type T) else none) = some b
  rw [if_pos m]
  exact h
theorem kitAny_cons {K : PySem.W.Frag} {t c : Value} {r : List Value} (h : PySem.W.kitOne K t c = some false) (q : PySem.W.kitAny K t r = some false) : PySem.W.kitAny K t (c :: r) = some false := by
  simp only [PySem.W.kitAny, h, q]
theorem kitAny_nil {K : PySem.W.Frag} {t : Value} : PySem.W.kitAny K t [] = some false := by simp only [PySem.W.kitAny]
theorem exmAny2 {K : PySem.W.Frag} {t c1 c2 : Value} {b1 b2 : Bool} (h1 : PySem.W.exmOne K t c1 = some b1) (h2 : PySem.W.exmOne K t c2 = some b2) : PySem.W.exmAny K t [c1, c2] = some (b1 || b2) := by
  simp only [PySem.W.exmAny, h1, h2, Bool.or_false]
/-- an own exception class, as its instances are made and asked -/
structure Xc (K : PySem.W.Frag) (D : Addr) (bm : List Value) (nw : String) : Prop where
  x : PySem.W.excIn K D bm nw = true
  k : PySem.W.keepIn K (.ref D) = true
  be : PySem.W.subIn K (.ref D) (.type "BaseException") = some true
  ty : PySem.W.typeIn K (.ref D) = some (.type "type")
  c : ExcC K D
abbrev bmV : List Value := [.type "ValueError", .type "Exception", .type "BaseException", .type "object"]
abbrev bmZ : List Value := [.type "ZeroDivisionError", .type "ArithmeticError", .type "Exception", .type "BaseException", .type "object"]
/-! ### things by their kind -/
theorem tyx_same {K : PySem.W.Frag} {H H' : Hp} {x : V} {t : Value} (s : Same H H') (ty : TyX K H x t) : TyX K H' x t := by
  cases ty with
  | base h =>
    cases h with
    | non => exact .base .non
    | bl x => exact .base (.bl x)
    | int i => exact .base (.int i)
    | str x => exact .base (.str x)
    | flt x => exact .base (.flt x)
    | lst e => exact .base (.lst (s _ _ e))
    | frz e => exact .base (.frz (s _ _ e))
    | tup e => exact .base (.tup (s _ _ e))
    | dK e => exact .base (.dK (s _ _ e))
    | dT e => exact .base (.dT (s _ _ e))
    | ins e a b c d f => exact .base (.ins (s _ _ e) a b c d f)
  | byt b => exact .byt b
  | set e => exact .set (s _ _ e)
  | kList e c => exact .kList e c
  | kTuple e c => exact .kTuple e c
  | kDict e c => exact .kDict e c
  | fTuple e => exact .fTuple (s _ _ e)
  | fDict e => exact .fDict (s _ _ e)
theorem odd_same {K : PySem.W.Frag} {H H' : Hp} {x : V} (s : Same H H') (h : Odd K H x) : Odd K H' x := by
  obtain ⟨t, b, ty, k⟩ := h
  exact ⟨t, b, tyx_same s ty, k⟩
/-- x is no text -/
def NoTxt (K : PySem.W.Frag) (H : Hp) (x : V) : Prop := ∃ t, TyX K H x t ∧ PySem.W.kitOne K t (.type "str") = some false
theorem notxt_non {K : PySem.W.Frag} {H : Hp} : NoTxt K H .non := ⟨_, .base .non, kit_ty (by decide +kernel)⟩
theorem notxt_bl {K : PySem.W.Frag} {H : Hp} {b : Bool} : NoTxt K H (.bl b) := ⟨_, .base (.bl b), kit_ty (by decide +kernel)⟩
theorem notxt_int {K : PySem.W.Frag} {H : Hp} {i : Int} : NoTxt K H (.int i) := ⟨_, .base (.int i), kit_ty (by decide +kernel)⟩
theorem notxt_lst {K : PySem.W.Frag} {H : Hp} {a : Addr} {xs : List V} (e : H a = some (.lst xs)) : NoTxt K H (.ref a) := ⟨_, .base (.lst e), kit_ty (by decide +kernel)⟩
theorem notxt_tup {K : PySem.W.Frag} {H : Hp} {a : Addr} {xs : List V} (e : H a = some (.tup xs)) : NoTxt K H (.ref a) := ⟨_, .base (.tup e), kit_ty (by decide +kernel)⟩
theorem notxt_dK {K : PySem.W.Frag} {H : Hp} {a : Addr} {xs : List (Key × V)} (e : H a = some (.dK xs)) : NoTxt K H (.ref a) := ⟨_, .base (.dK e), kit_ty (by decide +kernel)⟩
theorem notxt_same {K : PySem.W.Frag} {H H' : Hp} {x : V} (s : Same H H') (h : NoTxt K H x) : NoTxt K H' x := by
  obtain ⟨t, ty, k⟩ := h
  exact ⟨t, tyx_same s ty, k⟩
/-! ### signs in the written dict of both signs -/
/-- the sign is a bead or a free place -/
def okc (c : Nat) : Bool := decide (c = 111) || decide (c = 46)
theorem okc_cd (b : Bool) : okc (cd b) = true := by cases b <;> rfl
def keyText : Value → Option Str
  | .str s _ => some s
  | _ => none
theorem keyText_str {v : Value} {s : Str} (h : keyText v = some s) : ∃ t, v = .str s t := by
  cases v <;> simp [keyText] at h
  exact ⟨_, by rw [h]⟩
def keysAre (es : Array DictEntry) : Prop := es.toList.map (fun e => keyText e.key) = [some ("o" : Str), some ("." : Str)]
theorem sign_in {K : PySem.W.Frag} {d : Addr} {es : Array DictEntry} {n : Nat} (l : K.lookup d = some ⟨.type "dict", none, .dict es n, #[]⟩) (hk : keysAre es) (c : Nat) : ∃ r, PySem.W.nsIn K d ⟨#[c]⟩ = some r ∧ r.isSome = okc c := by
  unfold keysAre at hk
  obtain ⟨e1, e2, hes⟩ : ∃ e1 e2, es.toList = [e1, e2] := by
    have hl := congrArg List.length hk
    rw [List.length_map] at hl
    match h : es.toList, hl with
    | [e1, e2], _ => exact ⟨e1, e2, rfl⟩
  rw [hes] at hk
  obtain ⟨t1, k1⟩ := keyText_str (List.cons.inj hk).1
  obtain ⟨t2, k2⟩ := keyText_str (List.cons.inj (List.cons.inj hk).2).1
  have i1 : e1.key.isStr ⟨#[c]⟩ = decide (c = 111) := by
    rw [k1]
    by_cases h : c = 111
    · subst h
      show (("o" : Str) == ⟨#[111]⟩) = true
      decide +kernel
    · rw [decide_eq_false h]
      have : ¬ (("o" : Str) = ⟨#[c]⟩) := fun z => by
        have z2 := congrArg (fun q : Str => q.cps.toList) z
        have z3 : [111] = [c] := z2
        exact h (List.cons.inj z3).1.symm
      simp [Value.isStr, this]
  have i2 : e2.key.isStr ⟨#[c]⟩ = decide (c = 46) := by
    rw [k2]
    by_cases h : c = 46
    · subst h
      show (("." : Str) == ⟨#[46]⟩) = true
      decide +kernel
    · rw [decide_eq_false h]
      have : ¬ (("." : Str) = ⟨#[c]⟩) := fun z => by
        have z2 := congrArg (fun q : Str => q.cps.toList) z
        have z3 : [46] = [c] := z2
        exact h (List.cons.inj z3).1.symm
      simp [Value.isStr, this]
  have r1 : e1.refKey = false := by unfold DictEntry.refKey; rw [k1]
  have r2 : e2.refKey = false := by unfold DictEntry.refKey; rw [k2]
  unfold PySem.W.nsIn
  rw [l]
  simp only [hes, List.find?, i1, i2, List.any_cons, r1, r2, List.any_nil, Bool.or_false]
  unfold okc
  by_cases h1 : c = 111
  · simp [h1]
  · by_cases h2 : c = 46
    · simp [h2]
    · simp [h1, h2]
/-- x is no row: no text, or one that is too short, too long, or has another sign -/
def NotRow (K : PySem.W.Frag) (H : Hp) (x : V) : Prop := NoTxt K H x ∨ ∃ z : Str, x = .str z ∧ z.length ≤ 10000 ∧ (z.length = 0 ∨ 30 < z.length ∨ ∃ c ∈ z.cps.toList, okc c = false)
def NotWord (K : PySem.W.Frag) (H : Hp) (x : V) : Prop := NoTxt K H x ∨ ∃ z : Str, x = .str z ∧ z.length ≤ 10000 ∧ (30 < z.length ∨ ∃ c ∈ z.cps.toList, okc c = false)
theorem notrow_same {K : PySem.W.Frag} {H H' : Hp} {x : V} (s : Same H H') (h : NotRow K H x) : NotRow K H' x := h.imp (notxt_same s) id
theorem notword_same {K : PySem.W.Frag} {H H' : Hp} {x : V} (s : Same H H') (h : NotWord K H x) : NotWord K H' x := h.imp (notxt_same s) id
theorem notword_row {K : PySem.W.Frag} {H : Hp} {x : V} (h : NotWord K H x) : NotRow K H x := h.imp id fun ⟨z, e, l, q⟩ => ⟨z, e, l, .inr q⟩
end HopR

set_option Elab.async false
set_option linter.all false
set_option maxRecDepth 100000
namespace HopR
open PySem L2
/-! ### words: where they can be shortened, and to what -/
def shp (bs : List Bool) (i : Nat) : Bool := decide ((bs.drop i).take 2 = [true, false])
def plc (bs : List Bool) : List Nat := (List.range bs.length).filter (shp bs)
def shA (bs : List Bool) (k : Nat) : List Bool := bs.take (k + 1) ++ bs.drop (k + 2)
def shB (bs : List Bool) (k : Nat) : List Bool := bs.take k ++ bs.drop (k + 1)
theorem shp_split {bs : List Bool} {i : Nat} (h : shp bs i = true) : bs = bs.take i ++ true :: false :: bs.drop (i + 2) ∧ i + 2 ≤ bs.length := by
  have h := of_decide_eq_true h
  have e : bs.drop i = [true, false] ++ (bs.drop i).drop 2 := by
    conv => lhs; rw [← List.take_append_drop 2 (bs.drop i), h]
  rw [List.drop_drop] at e
  have hl := congrArg List.length e
  rw [List.length_drop, List.length_append, List.length_drop] at hl
  have hl2 : bs.length - i = 2 + (bs.length - (i + 2)) := hl
  refine ⟨?_, by omega⟩
  conv => lhs; rw [← List.take_append_drop i bs, e]
  rfl
theorem plc_shp {bs : List Bool} {k : Nat} (h : k ∈ plc bs) : shp bs k = true ∧ k < bs.length := ⟨(List.mem_filter.mp h).2, List.mem_range.mp (List.mem_filter.mp h).1⟩
theorem plc_few (bs : List Bool) : (plc bs).length ≤ bs.length := by
  refine Nat.le_trans (List.length_filter_le _ _) ?_
  rw [List.length_range]
  exact Nat.le_refl _
theorem shA_len {bs : List Bool} {k : Nat} (h : k + 2 ≤ bs.length) : (shA bs k).length + 1 = bs.length := by
  unfold shA
  rw [List.length_append, List.length_take, List.length_drop]
  omega
theorem shB_len {bs : List Bool} {k : Nat} (h : k + 2 ≤ bs.length) : (shB bs k).length + 1 = bs.length := by
  unfold shB
  rw [List.length_append, List.length_take, List.length_drop]
  omega
theorem shA_eq {bs : List Bool} {k : Nat} (h : k ∈ plc bs) : shA bs k = bs.take k ++ [true] ++ bs.drop (k + 2) := by
  obtain ⟨e, hl⟩ := shp_split (plc_shp h).1
  unfold shA
  have e2 : bs.take (k + 1) = bs.take k ++ [true] := by
    rw [List.take_add_one]
    congr 1
    rw [e, List.getElem?_append_right (by rw [List.length_take]; omega), List.length_take, show k - min k bs.length = 0 by omega]
    rfl
  rw [e2]
theorem shB_eq {bs : List Bool} {k : Nat} (h : k ∈ plc bs) : shB bs k = bs.take k ++ [false] ++ bs.drop (k + 2) := by
  obtain ⟨e, hl⟩ := shp_split (plc_shp h).1
  unfold shB
  rw [List.append_assoc]
  congr 1
  have e3 : bs.drop (k + 1) = false :: bs.drop (k + 2) := by
    have h1 : k + 1 < bs.length := by omega
    rw [List.drop_eq_getElem_cons h1]
    congr 1
    have h2 : bs[k + 1]? = some false := by
      rw [e, List.getElem?_append_right (by rw [List.length_take]; omega), List.length_take, show k + 1 - min k bs.length = 1 by omega]
      rfl
    rw [List.getElem?_eq_getElem h1] at h2
    exact Option.some.inj h2
  rw [e3]
  rfl
/-! ### words and other things -/
def isRowB (z : Str) : Bool := decide (1 ≤ z.length) && (decide (z.length ≤ 30) && z.cps.toList.all okc)
def isWordB (z : Str) : Bool := decide (z.length ≤ 30) && z.cps.toList.all okc
/-- whether x is a row -/
def RowB (K : PySem.W.Frag) (H : Hp) (x : V) (b : Bool) : Prop := (NoTxt K H x ∧ b = false) ∨ ∃ z : Str, x = .str z ∧ z.length ≤ 10000 ∧ b = isRowB z
/-- whether x is a word -/
def WordB (K : PySem.W.Frag) (H : Hp) (x : V) (b : Bool) : Prop := (NoTxt K H x ∧ b = false) ∨ ∃ z : Str, x = .str z ∧ z.length ≤ 10000 ∧ b = isWordB z
theorem wordB_same {K : PySem.W.Frag} {H H' : Hp} {x : V} {b : Bool} (s : Same H H') (h : WordB K H x b) : WordB K H' x b := h.imp (fun ⟨q, e⟩ => ⟨notxt_same s q, e⟩) id
theorem rowB_same {K : PySem.W.Frag} {H H' : Hp} {x : V} {b : Bool} (s : Same H H') (h : RowB K H x b) : RowB K H' x b := h.imp (fun ⟨q, e⟩ => ⟨notxt_same s q, e⟩) id
theorem okc_tx (bs : List Bool) : (tx bs).cps.toList.all okc = true := by
  rw [tx_list, List.all_map, List.all_eq_true]
  exact fun b _ => okc_cd b
theorem isWord_tx {bs : List Bool} (h : bs.length ≤ 30) : isWordB (tx bs) = true := by
  unfold isWordB
  rw [okc_tx, tx_len, decide_eq_true h]
  rfl
theorem isRow_tx {bs : List Bool} (h1 : 1 ≤ bs.length) (h : bs.length ≤ 30) : isRowB (tx bs) = true := by
  unfold isRowB
  rw [okc_tx, tx_len, decide_eq_true h, decide_eq_true h1]
  rfl
theorem len0 {z : Str} (h : z.length = 0) : z = "" := by
  apply ext_str
  have : z.cps = #[] := Array.eq_empty_of_size_eq_zero h
  rw [this]
  rfl
/-- as the program tells it: a row, or the text without signs -/
theorem isWord_or (z : Str) : isWordB z = (isRowB z || decide (z = "")) := by
  unfold isWordB isRowB
  by_cases h : z.length = 0
  · rw [len0 h]
    decide +kernel
  · have ne : ¬ z = "" := fun e => h (by rw [e]; decide +kernel)
    rw [decide_eq_false ne, decide_eq_true (show 1 ≤ z.length by omega)]
    simp
/-- a spot at which the word of bs can't be shortened -/
def BadSpot (K : PySem.W.Frag) (H : Hp) (y : V) (ks : List Nat) : Prop := Odd K H y ∨ ∃ i : Int, y = .int i ∧ ∀ k ∈ ks, i ≠ (k : Int)
theorem badspot_same {K : PySem.W.Frag} {H H' : Hp} {y : V} {ks : List Nat} (s : Same H H') (h : BadSpot K H y ks) : BadSpot K H' y ks := h.imp (odd_same s) id
theorem inV_in {ks : List Nat} {k : Nat} (h : k ∈ ks) : inV (wv k) (ks.map wv) = true := by
  unfold inV
  rw [List.any_eq_true]
  exact ⟨wv k, List.mem_map_of_mem h, by unfold wv eqV; simp⟩
theorem inV_no {ks : List Nat} {i : Int} (h : ∀ k ∈ ks, i ≠ (k : Int)) : inV (.int i) (ks.map wv) = false := by
  unfold inV
  rw [List.any_eq_false]
  intro x hx
  obtain ⟨k, hk, rfl⟩ := List.mem_map.mp hx
  unfold wv eqV
  simp
  have := h k hk
  omega
theorem flat_ks (ks : List Nat) : (ks.map wv).all flatV = true := by
  rw [List.all_eq_true]
  intro x hx
  obtain ⟨k, _, rfl⟩ := List.mem_map.mp hx
  rfl
theorem fit {m : Nat} (h : m ≤ 10000) : m ≤ sizeLine := Nat.le_trans h (by decide)
theorem fit' {m : Nat} (h : m ≤ 10000) : m < sizeLine := Nat.lt_of_le_of_lt h (by decide)
theorem tx_fit {bs : List Bool} (h : bs.length ≤ 10000) : (tx bs).length ≤ sizeLine := by
  rw [tx_len]
  exact fit h
theorem tx_nil : ("" : Str) = tx [] := by decide +kernel
theorem dec_str {a b : Str} {p : Prop} [Decidable p] (h : a = b ↔ p) : decide (V.str a = V.str b) = decide p := by
  by_cases q : p
  · rw [decide_eq_true q, decide_eq_true (by rw [h.mpr q])]
  · rw [decide_eq_false q, decide_eq_false fun z => q (h.mp (V.str.inj z))]
end HopR

set_option Elab.async false
set_option linter.all false
set_option maxRecDepth 100000
namespace HopR
open PySem L2
/-! ### the draws -/
def dval (left : Int) (k : Nat) (z : Int) : Int :=
  if (1000000000000000000 : Int) ≤ left then left % z
  else
    let small := left % 1000000000000000000
    let one := (small + 7 * (k : Int) + 1) * (48271 + 2 * (k : Int) * (k : Int)) % 2147483647
    let two := (small / 3 + 11 * (k : Int) + 5) * (39373 + 6 * (k : Int)) % 2147483629
    (one * two + one / 64) % z
def dleft (left : Int) (z : Int) : Int := if (1000000000000000000 : Int) ≤ left then left / z else left
def draws : Int → Nat → List Int → List Int
  | _, _, [] => []
  | left, k, z :: r => dval left k z :: draws (dleft left z) (k + 1) r
theorem draws_len : ∀ (zs : List Int) (c : Int) (k : Nat), (draws c k zs).length = zs.length
  | [], _, _ => rfl
  | z :: r, c, k => by
    show (draws (dleft c z) (k + 1) r).length + 1 = r.length + 1
    rw [draws_len r]
theorem dval_ok {c : Int} {k : Nat} {z : Int} (h : 0 < z) : 0 ≤ dval c k z ∧ dval c k z < z := by
  unfold dval
  split
  · exact ⟨Int.emod_nonneg _ (by omega), Int.emod_lt_of_pos _ h⟩
  · exact ⟨Int.emod_nonneg _ (by omega), Int.emod_lt_of_pos _ h⟩
theorem draws_ok : ∀ (zs : List Int) (c : Int) (k : Nat), (∀ z ∈ zs, 0 < z) → ∀ (i : Nat) (d z : Int), (draws c k zs)[i]? = some d → zs[i]? = some z → 0 ≤ d ∧ d < z
  | [], _, _, _, i, d, z, _, h => by simp at h
  | y :: r, c, k, hp, 0, d, z, h1, h2 => by
    have e1 : dval c k y = d := Option.some.inj h1
    have e2 : y = z := Option.some.inj h2
    subst e1 e2
    exact dval_ok (hp y (List.mem_cons_self ..))
  | y :: r, c, k, hp, i + 1, d, z, h1, h2 => draws_ok r _ _ (fun q hq => hp q (List.mem_cons_of_mem _ hq)) i d z h1 h2
/-- the size of a draw is one that is reckoned with -/
def SizeOk (z : Int) : Prop := 0 < z ∧ z < 18446744073709551616
def bits (cs : List Int) : List Bool := cs.map fun c => decide (c = 1)
theorem signs_rows : ∀ (ys : List Str), (∀ y ∈ ys, ∃ b, y = tx [b]) → ∃ bs : List Bool, ys = bs.map fun b => tx [b]
  | [], _ => ⟨[], rfl⟩
  | y :: r, h => by
    obtain ⟨b, e⟩ := h y (List.mem_cons_self ..)
    obtain ⟨bs, e2⟩ := signs_rows r fun z hz => h z (List.mem_cons_of_mem _ hz)
    exact ⟨b :: bs, by rw [e, e2]; rfl⟩
theorem dot_o (c : Int) (h0 : 0 ≤ c) (h2 : c < 2) : atI (".o" : Str).cps.toList c = some (cd (decide (c = 1))) := by
  have e : (".o" : Str).cps.toList = [46, 111] := by decide +kernel
  rw [e]
  rcases (show c = 0 ∨ c = 1 by omega) with rfl | rfl
  · decide
  · decide
/-- a row -/
def Row (bs : List Bool) : Prop := 1 ≤ bs.length ∧ bs.length ≤ 30
theorem row_size {bs : List Bool} (h : Row bs) : (tx bs).length ≤ sizeLine := tx_fit (Nat.le_trans h.2 (by decide))
theorem flat_rep {α : Type} (x : α) : ∀ m : Nat, (List.replicate m [x]).flatten = List.replicate m x
  | 0 => rfl
  | m + 1 => by
    rw [List.replicate_succ, List.flatten_cons, flat_rep x m]
    rfl
theorem rep_of (m : Nat) : repS "o." m = tx (List.replicate m [true, false]).flatten := by
  unfold repS tx
  have e : ("o." : Str).cps.toList = [true, false].map cd := by decide +kernel
  rw [e, List.map_flatten, List.map_replicate]
theorem rep_of_len (m : Nat) : (List.replicate m [true, false]).flatten.length = 2 * m := by
  rw [List.length_flatten, List.map_replicate, List.sum_replicate_nat]
  show m * 2 = 2 * m
  omega
def spDrawn (K : PySem.W.Frag) : Sp := fun vs H Q _ => ∃ (c : Int) (a : Addr) (zs : List Int), vs = [.int c, .ref a] ∧ SqL K H a (zs.map V.int) ∧ (∀ z ∈ zs, SizeOk z) ∧ zs.length ≤ 1000 ∧
  ∀ H' p, Same H H' → H p = none → H' p = some (.lst ((draws c 0 zs).map V.int)) → Q (.ref p) H'
def spCellH (K : PySem.W.Frag) : Sp := fun vs H Q _ => ∃ (a : Addr) (ns : List Int) (k : Nat), vs = [.ref a, .int (k : Int)] ∧ SqL K H a (ns.map V.int) ∧ ∀ c : Int, Q (.int c) H
def spLRow : Sp := fun vs H Q _ => ∃ (c : Int) (M : Nat), vs = [.int c, .int (M : Int)] ∧ 1 ≤ M ∧ M ≤ 30 ∧ ∀ H' bs, Same H H' → 1 ≤ bs.length → bs.length ≤ M → Q (.str (tx bs)) H'
end HopR

set_option Elab.async false
set_option linter.all false
set_option maxRecDepth 100000
namespace HopR
open PySem L2
/-- a list of draws by its places -/
theorem draws2 {c z0 z1 : Int} (h0 : 0 < z0) (h1 : 0 < z1) : ∃ d0 d1 : Int, draws c 0 [z0, z1] = [d0, d1] ∧ (0 ≤ d0 ∧ d0 < z0) ∧ (0 ≤ d1 ∧ d1 < z1) := by
  have hl := draws_len [z0, z1] c 0
  match hd : draws c 0 [z0, z1], hl with
  | [d0, d1], _ =>
    have hp : ∀ z ∈ [z0, z1], 0 < z := by
      intro z hz
      simp only [List.mem_cons, List.not_mem_nil, or_false] at hz
      rcases hz with rfl | rfl
      · exact h0
      · exact h1
    exact ⟨d0, d1, rfl, draws_ok _ c 0 hp 0 d0 z0 (by rw [hd]; rfl) rfl, draws_ok _ c 0 hp 1 d1 z1 (by rw [hd]; rfl) rfl⟩
end HopR

set_option Elab.async false
set_option linter.all false
set_option maxRecDepth 100000
namespace HopR
open PySem L2
/-! ### texts by their codes -/
def rt (cs : List Nat) : Str := ⟨cs.toArray⟩
def one (c : Nat) : Str := ⟨#[c]⟩
theorem rt_list (cs : List Nat) : (rt cs).cps.toList = cs := by simp [rt]
theorem rt_len (cs : List Nat) : (rt cs).length = cs.length := by
  show cs.toArray.size = cs.length
  simp
theorem rt_of (z : Str) : rt z.cps.toList = z := ext_str (rt_list _)
theorem rt_inj {a b : List Nat} (h : rt a = rt b) : a = b := by
  have := congrArg (fun q : Str => q.cps.toList) h
  simpa only [rt_list] using this
theorem rt_app (a b : List Nat) : rt a ++ rt b = rt (a ++ b) := by
  apply ext_str
  rw [rt_list]
  show ((rt a).cps ++ (rt b).cps).toList = a ++ b
  rw [Array.toList_append, rt_list, rt_list]
theorem rt_fit {cs : List Nat} (h : cs.length ≤ 10000) : (rt cs).length ≤ sizeLine := by
  rw [rt_len]
  exact fit h
theorem sg_rt (cs : List Nat) : sg (rt cs) = cs.map one := by
  unfold sg
  rw [rt_list]
  rfl
theorem join_rt (cs : List Nat) : Txt.join "" (cs.map one) = rt cs := by
  apply ext_str
  rw [join0_list, List.map_map, rt_list]
  induction cs with
  | nil => rfl
  | cons b r ih =>
    rw [List.map_cons, List.flatten_cons, ih]
    rfl
theorem ones_sum : ∀ cs : List Nat, ((cs.map one).map (·.length)).sum = cs.length
  | [] => rfl
  | c :: r => by
    rw [List.map_cons, List.map_cons, List.sum_cons, ones_sum r]
    show 1 + r.length = r.length + 1
    omega
theorem join_rt_fits {cs : List Nat} (h : cs.length ≤ 1000) : ((cs.map one).map (·.length)).sum + (cs.map one).length * ("" : Str).length ≤ 16777216 := by
  have e : ("" : Str).length = 0 := by decide +kernel
  rw [ones_sum, e, Nat.mul_zero]
  omega
theorem cut_rt (cs : List Nat) (lo hi : Option Int) : cutS (rt cs) lo hi = rt ((cs.drop (HT.sIx cs.length 0 lo)).take (HT.sIx cs.length cs.length hi - HT.sIx cs.length 0 lo)) := by
  apply ext_str
  unfold cutS
  rw [rt_len, rt_list, rt_list]
theorem cut_rt_to (cs : List Nat) (k : Nat) : cutS (rt cs) none (some (k : Int)) = rt (cs.take k) := by
  rw [cut_rt, HT.sIx_none, HT.sIx_nat, List.drop_zero, Nat.sub_zero]
  by_cases h : k ≤ cs.length
  · rw [Nat.min_eq_left h]
  · rw [Nat.min_eq_right (by omega), List.take_length, List.take_of_length_le (by omega)]
theorem cut_rt_from (cs : List Nat) (k : Nat) : cutS (rt cs) (some (k : Int)) none = rt (cs.drop k) := by
  rw [cut_rt, HT.sIx_none, HT.sIx_nat]
  by_cases h : k ≤ cs.length
  · rw [Nat.min_eq_left h, List.take_of_length_le (by rw [List.length_drop]; exact Nat.le_refl _)]
  · rw [Nat.min_eq_right (by omega), List.drop_length, List.drop_of_length_le (by omega), List.take_nil]
theorem one_inj {a b : Nat} (h : one a = one b) : a = b := by
  have := congrArg (fun q : Str => q.cps.toList) h
  exact (List.cons.inj this).1
theorem one_eq (a b : Nat) : (one a == one b) = decide (a = b) := by
  by_cases h : a = b
  · subst h
    simp
  · rw [decide_eq_false h]
    have : ¬ (one a = one b) := fun z => h (one_inj z)
    simp [this]
/-! ### signs in a written dict -/
theorem find_key (c : Nat) : ∀ (ts : List Nat) (L : List DictEntry), L.map (fun e => keyText e.key) = ts.map (fun q => some (one q)) → (L.find? (·.key.isStr (one c))).isSome = decide (c ∈ ts) ∧ L.any (·.refKey) = false
  | [], [], _ => ⟨by simp, rfl⟩
  | [], e :: r, h => by simp at h
  | q :: ts, [], h => by simp at h
  | q :: ts, e :: r, h => by
    rw [List.map_cons, List.map_cons] at h
    obtain ⟨h1, h2⟩ := List.cons.inj h
    obtain ⟨t, hk⟩ := keyText_str h1
    obtain ⟨i1, i2⟩ := find_key c ts r h2
    have e1 : e.key.isStr (one c) = decide (q = c) := by
      rw [hk]
      exact one_eq q c
    refine ⟨?_, ?_⟩
    · rw [List.find?_cons, e1]
      by_cases hq : q = c
      · rw [decide_eq_true hq]
        simp [hq]
      · rw [decide_eq_false hq]
        show (r.find? (·.key.isStr (one c))).isSome = _
        rw [i1]
        have : ¬ c = q := fun z => hq z.symm
        simp [this]
    · rw [List.any_cons, i2, Bool.or_false]
      unfold DictEntry.refKey
      rw [hk]
theorem key_in {K : PySem.W.Frag} {d : Addr} {es : Array DictEntry} {n : Nat} {ts : List Nat} (l : K.lookup d = some ⟨.type "dict", none, .dict es n, #[]⟩) (hk : es.toList.map (fun e => keyText e.key) = ts.map (fun q => some (one q))) (c : Nat) :
    ∃ r, PySem.W.nsIn K d (one c) = some r ∧ r.isSome = decide (c ∈ ts) := by
  obtain ⟨h1, h2⟩ := find_key c ts es.toList hk
  unfold PySem.W.nsIn
  rw [l]
  simp only
  cases hf : es.toList.find? (·.key.isStr (one c)) with
  | some e =>
    rw [hf] at h1
    exact ⟨_, rfl, h1⟩
  | none =>
    rw [hf] at h1
    simp only [h2]
    exact ⟨_, rfl, h1⟩
/-! ### rings -/
def okr (c : Nat) : Bool := decide (c ∈ [97, 98, 46])
def isRingB (z : Str) : Bool := decide (2 ≤ z.length) && (decide (z.length ≤ 12) && z.cps.toList.all okr)
/-- whether x is a ring -/
def RingB (K : PySem.W.Frag) (H : Hp) (x : V) (b : Bool) : Prop := (NoTxt K H x ∧ b = false) ∨ ∃ z : Str, x = .str z ∧ z.length ≤ 10000 ∧ b = isRingB z
theorem ringB_same {K : PySem.W.Frag} {H H' : Hp} {x : V} {b : Bool} (s : Same H H') (h : RingB K H x b) : RingB K H' x b := h.imp (fun ⟨q, e⟩ => ⟨notxt_same s q, e⟩) id
/-- a ring by its codes -/
structure Rg (cs : List Nat) : Prop where
  lo : 2 ≤ cs.length
  hi : cs.length ≤ 12
  ok : ∀ c ∈ cs, c ∈ [97, 98, 46]
theorem Rg.isB {cs : List Nat} (h : Rg cs) : isRingB (rt cs) = true := by
  unfold isRingB
  rw [rt_len, rt_list, decide_eq_true h.lo, decide_eq_true h.hi]
  show cs.all okr = true
  rw [List.all_eq_true]
  exact fun c hc => decide_eq_true (h.ok c hc)
/-- how far above the others a sign stands -/
def rk (c : Nat) : Nat := if c = 97 then 2 else if c = 98 then 1 else 0
def nxt (cs : List Nat) (i : Nat) : Nat := (i + 1) % cs.length
theorem nxt_lt {cs : List Nat} (h : Rg cs) (i : Nat) : nxt cs i < cs.length := Nat.mod_lt _ (Nat.lt_of_lt_of_le (by decide) h.lo)
/-- the signs at a place and at the next one exchanged -/
def swp (cs : List Nat) (i : Nat) : List Nat := (cs.set i (cs.getD (nxt cs i) 0)).set (nxt cs i) (cs.getD i 0)
theorem swp_len (cs : List Nat) (i : Nat) : (swp cs i).length = cs.length := by
  unfold swp
  rw [List.length_set, List.length_set]
def ups (cs : List Nat) (i : Nat) : Bool := decide (rk (cs.getD (nxt cs i) 0) < rk (cs.getD i 0))
def rchg (cs : List Nat) (m : Nat) : List Nat := (List.range m).filter (ups cs)
theorem rchg_succ (cs : List Nat) (i : Nat) : rchg cs (i + 1) = rchg cs i ++ (if ups cs i then [i] else []) := by
  unfold rchg
  rw [List.range_succ, List.filter_append]
  congr 1
  cases h : ups cs i with
  | true => simp [h]
  | false => simp [h]
theorem rchg_few (cs : List Nat) (m : Nat) : (rchg cs m).length ≤ m := by
  refine Nat.le_trans (List.length_filter_le _ _) ?_
  rw [List.length_range]
  exact Nat.le_refl _
/-- the data of the changes -/
def dchg (cs : List Nat) (ks : List Nat) : List PyData := ks.map fun (k : Nat) => PyData.tuple [.int (k : Int), .str (rt (swp cs k))]
/-- a list of tuples (place, ring) -/
def Tups (H : Hp) (cs : List Nat) : List Nat → List V → Prop
  | [], vs => vs = []
  | k :: r, vs => ∃ p vr, vs = .ref p :: vr ∧ H p = some (.tup [.int (k : Int), .str (rt (swp cs k))]) ∧ Tups H cs r vr
theorem tups_same {H H' : Hp} {cs : List Nat} (s : Same H H') : ∀ {ks : List Nat} {vs : List V}, Tups H cs ks vs → Tups H' cs ks vs
  | [], _, h => h
  | k :: r, _, ⟨p, vr, e, h1, h2⟩ => ⟨p, vr, e, s _ _ h1, tups_same s h2⟩
theorem tups_add {H : Hp} {cs : List Nat} {k : Nat} {p : Addr} (h1 : H p = some (.tup [.int (k : Int), .str (rt (swp cs k))])) : ∀ {ks : List Nat} {vs : List V}, Tups H cs ks vs → Tups H cs (ks ++ [k]) (vs ++ [.ref p])
  | [], _, h => by
    cases h
    exact ⟨p, [], rfl, h1, rfl⟩
  | q :: r, _, ⟨p', vr, e, h2, h3⟩ => ⟨p', vr ++ [.ref p], by rw [e]; rfl, h2, tups_add h1 h3⟩
theorem tups_upd {H : Hp} {cs : List Nat} {D : Addr} {xs : List V} {o : HO} (hD : H D = some (.lst xs)) : ∀ {ks : List Nat} {vs : List V}, Tups H cs ks vs → Tups (upd H D o) cs ks vs
  | [], _, h => h
  | k :: r, _, ⟨p, vr, e, h1, h2⟩ => ⟨p, vr, e, by
      rw [upd_ne (fun z => by rw [z, hD] at h1; cases h1)]
      exact h1, tups_upd hD h2⟩
theorem tups_len {H : Hp} {cs : List Nat} : ∀ {ks : List Nat} {vs : List V}, Tups H cs ks vs → vs.length = ks.length
  | [], _, h => by
    cases h
    rfl
  | k :: r, _, ⟨p, vr, e, _, h2⟩ => by
    rw [e, List.length_cons, List.length_cons, tups_len h2]
theorem tups_dp {K : PySem.W.Frag} {H : Hp} {cs : List Nat} : ∀ {ks : List Nat} {vs : List V}, Tups H cs ks vs → DpAll K H vs (dchg cs ks)
  | [], _, h => by
    cases h
    exact .nil
  | k :: r, _, ⟨p, vr, e, h1, h2⟩ => by
    rw [e]
    exact .cons (.tup (SqT.of h1) (.cons (.int _) (.cons (.str _) .nil))) (tups_dp h2)
theorem getD_small {cs : List Nat} (h : Rg cs) (i : Nat) : cs.getD i 0 < 1114112 := by
  rw [List.getD_eq_getElem?_getD]
  cases e : cs[i]? with
  | none => show 0 < 1114112; decide
  | some c =>
    have := h.ok c (List.mem_of_getElem? e)
    simp only [List.mem_cons, List.not_mem_nil, or_false] at this
    show c < 1114112
    omega
theorem strOk_swp {cs : List Nat} (h : Rg cs) (i : Nat) : PyData.strOk (rt (swp cs i)) = true := by
  unfold PyData.strOk
  rw [← Array.all_toList, rt_list, List.all_eq_true]
  intro c hc
  refine decide_eq_true ?_
  unfold swp at hc
  rcases List.mem_or_eq_of_mem_set hc with h1 | rfl
  · rcases List.mem_or_eq_of_mem_set h1 with h2 | rfl
    · have := h.ok c h2
      simp only [List.mem_cons, List.not_mem_nil, or_false] at this
      omega
    · exact getD_small h _
  · exact getD_small h _
theorem lay_dchg {cs : List Nat} (h : Rg cs) : ∀ ks : List Nat, PyData.canLayAll0 (dchg cs ks) = true
  | [] => rfl
  | k :: r => by
    show PyData.canLayAll0 (.tuple [.int (k : Int), .str (rt (swp cs k))] :: dchg cs r) = true
    simp only [PyData.canLayAll0, lay_dchg h r, Bool.and_true, PyData.canLay0, strOk_swp h]
theorem deep_dchg (cs : List Nat) : ∀ ks : List Nat, PyData.depthAll (dchg cs ks) ≤ 1
  | [] => by show 0 ≤ 1; decide
  | k :: r => by
    show PyData.depthAll (.tuple [.int (k : Int), .str (rt (swp cs k))] :: dchg cs r) ≤ 1
    have := deep_dchg cs r
    simp only [PyData.depthAll, PyData.depth]
    omega
theorem shaped_dchg {cs : List Nat} (h : Rg cs) (ks : List Nat) : SeqAt.shaped (.list (dchg cs ks)) = true := by
  unfold SeqAt.shaped
  rw [Bool.and_eq_true]
  refine ⟨?_, decide_eq_true ?_⟩
  · simp only [PyData.canLay0, lay_dchg h]
  · have := deep_dchg cs ks
    simp only [PyData.depth]
    omega
theorem eqv_dchg {cs : List Nat} (h : Rg cs) (ks : List Nat) : PyData.eqv (.list (dchg cs ks)) (.list (dchg cs ks)) = true := PySem.SeqAt.eqv_refl _ (by simp only [PyData.canLay0, lay_dchg h])
end HopR

set_option Elab.async false
set_option linter.all false
set_option maxRecDepth 100000
namespace Hop
open PySem L2 HopR
/-! ### ways: how many, and which texts are ways -/
def cat : Nat → Nat
  | 0 => 1
  | n + 1 => cat n * (4 * n + 2) / (n + 2)
theorem cat_sum : ∀ m < 41, ((List.range (m + 1)).map fun k => cat k * cat (m - k)).sum = cat (m + 1) := by decide +kernel
theorem cat_small : ∀ m < 42, cat m < 2 ^ 80 := by decide +kernel
theorem cat_int (t : Nat) : ((cat t : Nat) : Int) * (4 * (t : Int) + 2) / ((t : Int) + 2) = ((cat (t + 1) : Nat) : Int) := by
  show _ = ((cat t * (4 * t + 2) / (t + 2) : Nat) : Int)
  rw [Int.natCast_ediv, Int.natCast_mul]
  rfl
/-- whether the steps cs, begun at the height h, keep above nought and end there -/
def wayB : Int → List Nat → Bool
  | h, [] => decide (h = 0)
  | h, c :: cs => if c = 47 then wayB (h + 1) cs else if c = 45 then (if h - 1 < 0 then false else wayB (h - 1) cs) else false
end Hop

set_option Elab.async false
set_option linter.all false
set_option maxRecDepth 100000
namespace HopR
open PySem PySem.Spec PyProof.Rows L2
/-! ### walks that hand out new tuples -/
/-- n turns; at each a new tuple of items that Y tells -/
def ItTup (n : Nat) (Y : Nat → List V → Prop) : It :=
  ⟨fun i _ => i < n, fun i H v H' => ∃ T xs, v = .ref T ∧ H T = none ∧ H' = upd H T (.tup xs) ∧ Y i xs, fun i _ => n ≤ i⟩
theorem turn_tup {P : Program} {w : World} {K : PySem.W.Frag} {elts : List Expr} {kk : Nat} {tpos : Pos} {it : Addr} {fp wr : List Addr} {n : Nat} {Pt : Nat → Array Value → Prop} {St : Nat → Heap → Prop} {Mid : Nat → Addr → Heap → Prop} {Y : Nat → List V → Prop}
    (mem : it ∈ fp) (obj : ∀ i h, St i h → ∀ b ∈ fp, ∃ o, h.get? b = some o ∧ ∀ v, o.data ≠ .cell v) (W : ∀ A : Around, A.handled = none → WalksT P w A it fp wr n Pt St Mid)
    (tells : ∀ i vals, Pt i vals → ∃ xs, xs.length ≤ sizeLine ∧ Vals xs vals.toList ∧ Y i xs) (self : ∀ (A : Around) (i : Nat) (s : Shared) (Q : Value → Shared → Prop) (E : Value → Shared → Prop), St i s.heap → Q (.ref it) s → wpAny (model P w) A (pyIter (.ref it)) Q E s)
    (W0 : WalksT P w callerA it fp wr n Pt St Mid) :
    Turn P w K (.Tuple elts kk tpos) (ItTup n Y) fp it (fun i h => i ≤ n ∧ St i h) where
  mem := mem
  obj i h st := obj i h st.2
  keep i h h' st k := ⟨st.1, W0.frame i h h' st.2 k⟩
  item := by
    intro X hP hw hK calm i pins s σ H E I free st go
    subst hP hw hK
    have V := W X.A (I.ok.hd calm)
    refine V.item i s _ E go st.2 fun T vals h1 tk told new tup mid old => ⟨.ref T, rfl, ?_⟩
    refine V.go elts kk tpos i T _ _ E mid fun h2 st2 old2 => ?_
    obtain ⟨xs, few, are, y⟩ := tells i vals told
    have out := V.apart i T h1 mid
    obtain ⟨o, ho, hr⟩ := tup
    have tup2 : h2.IsTuple T vals := ⟨o, old2 T o out ho, hr⟩
    have ok : ObjOk X.prog X.w (upd H T (.tup xs)) h2 T (.tup xs) := ⟨few, vals.toList, are, by rw [Array.toArray_toList]; exact tup2⟩
    have J : Inv X pins σ (upd H T (.tup xs)) { s with heap := h2, toks := tk } := I.turnedNew (ch := fp) (fun b ob nb q => old2 b ob (fun z => nb (V.sub b z)) (old b ob (fun z => nb (V.sub b z)) q)) free new ok
    refine ⟨.ref T, _, J, rfl, ⟨T, xs, rfl, I.hok.fresh new, rfl, y⟩, ⟨go, st2⟩, fun b hb => ?_⟩
    obtain ⟨ob, q, _⟩ := obj i s.heap st.2 b hb
    rw [upd_ne (Nat.ne_of_lt (Nat.lt_of_lt_of_le (Heap.lt_size q) new))]
    exact (free b hb).1
  done := by
    intro X hP hw hK calm i pins s σ H E I free st stop
    subst hP hw hK
    have V := W X.A (I.ok.hd calm)
    obtain rfl : i = n := Nat.le_antisymm st.1 stop
    exact V.done s _ E st.2 fun h1 tk old => ⟨rfl, I.turnedL (ch := fp) (fun b o nb q => old b o (fun z => nb (V.sub b z)) q) free⟩
  self A i s Q E st q := self A i s Q E st.2 q
/-- a loop over such a walk -/
theorem walk_tup {n : Nat} {Y : Nat → List V → Prop} : Walk (ItTup n Y) n (fun _ => True) (fun i H v H' => ∃ T xs, v = .ref T ∧ H T = none ∧ H' = upd H T (.tup xs) ∧ Y i xs) :=
  ⟨fun _ _ lt _ => lt, fun _ _ => Nat.le_refl _, fun _ _ _ _ _ _ y => y⟩
/-! ### zip(text, text) -/
theorem draws_txt {prog : Program} {w : World} {A : Around} (hh : A.handled = none) (it : Addr) (x : Str) (t : Tok) :
    Draws prog w A it [it] x.cps.size (fun i v => ∃ c u, x.cps[i]? = some c ∧ v = .str ⟨#[c]⟩ u) (fun i h => h.IsStrIter it (strIterType x) x t i) := by
  unfold strIterType
  split
  · exact .strAscii hh it x t
  · exact .strWide hh it x t
/-- the signs of both texts, place by place -/
def ZipY (x y : Str) (i : Nat) (vs : List V) : Prop := ∃ c e, x.cps[i]? = some c ∧ y.cps[i]? = some e ∧ vs = [.str ⟨#[c]⟩, .str ⟨#[e]⟩]
def iZipS (ta : TA) : TI := fun σ H R => ta σ H fun vs H1 => ∃ x y : Str, vs = [.str x, .str y] ∧ R (ItTup (min x.cps.size y.cps.size) (ZipY x y)) H1
theorem pi_zipS {X : Cx} {e e2 : Expr} {ta : TA} {p pos tpos : Pos} {elts : List Expr} {kk : Nat} (hg : Gl X "zip") (hm : X.mg "zip" = none) (ha : PA X [e, e2] ta)
    (hs : starEach [e, e2] X.env = (false, eval e X.env) :: starEach [e2] X.env := by rfl) (hpl : (backTo pos (starEach [e2] X.env)).any (·.1) = false := by rfl) :
    PI X (.Tuple elts kk tpos) (.Call (.Name "zip" p) [e, e2] [] pos) (iZipS ta) := by
  constructor
  intro pins s σ H R I h
  refine Call_ (ld_blt I hg hm boot_zip (callWith_type1 (thn (ha.run pos pins s σ H _ I h) ?_) hs hpl))
  rintro us s1 ⟨_, H1, J, rel, x, y, rfl, q⟩
  obtain ⟨_, _, rfl, ⟨t, rfl⟩, u, rfl⟩ := vals2 rel
  refine zip_begins2 (begins_text x t) (begins_text y u) trivial trivial fun h' isz pin pout at1 at2 _ old => wpAny_pyIter_zip isz ?_
  have sep : ZipSep2 (s1.heap.objs.size + 4) (s1.heap.objs.size + 2) (s1.heap.objs.size + 3) s1.heap.objs.size (s1.heap.objs.size + 1) [s1.heap.objs.size] [s1.heap.objs.size + 1] := by
    constructor <;> simp
  have W : ∀ A : Around, A.handled = none → WalksT X.prog X.w A (s1.heap.objs.size + 4) _ _ _ _ _ _ := fun A hh => WalksT.zipD2 sep (draws_txt (A := A.in1) hh s1.heap.objs.size x t) (draws_txt (A := A.in1) hh (s1.heap.objs.size + 1) y u)
  refine ⟨s1.heap.objs.size + 4, _, _, _, H1, rfl, J.kept (t' := s1.toks) old, turn_tup (Y := ZipY x y) (by simp) ?_ W ?_ ?_ (W callerA rfl), ⟨Nat.zero_le _, isz, pin, ⟨_, _, pout⟩, ⟨_, at1, rfl, rfl⟩, ⟨_, at2, rfl, rfl⟩⟩, ?_, q⟩
  · rintro i h ⟨hz, h1, ⟨_, _, h2⟩, ⟨o1, g1, _, d1⟩, ⟨o2, g2, _, d2⟩⟩ b hb
    have hb : b = s1.heap.objs.size + 4 ∨ b = s1.heap.objs.size + 2 ∨ b = s1.heap.objs.size + 3 ∨ b = s1.heap.objs.size ∨ b = s1.heap.objs.size + 1 := by simpa using hb
    rcases hb with rfl | rfl | rfl | rfl | rfl
    · exact ⟨_, hz, fun v q => nomatch q⟩
    · exact ⟨_, h1, fun v q => nomatch q⟩
    · exact ⟨_, h2, fun v q => nomatch q⟩
    · exact ⟨o1, g1, fun v q => by rw [d1] at q; cases q⟩
    · exact ⟨o2, g2, fun v q => by rw [d2] at q; cases q⟩
  · rintro i vals ⟨_, _, ⟨c, t1, hc, rfl⟩, ⟨e, t2, he, rfl⟩, rfl⟩
    exact ⟨[.str ⟨#[c]⟩, .str ⟨#[e]⟩], by show 2 ≤ sizeLine; decide, .cons ⟨t1, rfl⟩ (.cons ⟨t2, rfl⟩ .nil), c, e, hc, he, rfl⟩
  · exact fun A i s Q E st q => wpAny_pyIter_zip st.1 q
  · intro b hb
    have hb : b = s1.heap.objs.size + 4 ∨ b = s1.heap.objs.size + 2 ∨ b = s1.heap.objs.size + 3 ∨ b = s1.heap.objs.size ∨ b = s1.heap.objs.size + 1 := by simpa using hb
    have le : s1.heap.objs.size ≤ b := by
      rcases hb with rfl | rfl | rfl | rfl | rfl
      · exact Nat.le_add_right _ _
      · exact Nat.le_add_right _ _
      · exact Nat.le_add_right _ _
      · exact Nat.le_refl _
      · exact Nat.le_add_right _ _
    exact J.fpOk le (J.hok.fresh le)
end HopR

set_option Elab.async false
set_option linter.all false
set_option maxRecDepth 100000
namespace Hop
open PySem L2 HopR
def top (i : Nat) : Stmt := PySem.Challenge.pw_hopline_k53_ways_or_none.main.body.getD i (.Pass ⟨0, 0, 0, 0⟩)
abbrev sIsWhole : Stmt := top 14
abbrev sNeedNum : Stmt := top 15
abbrev sIsWay : Stmt := top 20
abbrev sWays : Stmt := top 21
abbrev sMany : Stmt := top 23
abbrev sWhole : Stmt := top 24
abbrev sClass : Stmt := top 25
abbrev sDrawn : Stmt := top 26
abbrev sLRow : Stmt := top 27
abbrev sLWay : Stmt := top 28
abbrev sLRise : Stmt := top 29
abbrev sLBehind : Stmt := top 30
abbrev sLOne : Stmt := top 31
abbrev sBentW : Stmt := top 32
abbrev sLIsWay : Stmt := top 33
abbrev sLaw : Stmt := top 34
structure Txt (K : PySem.W.Frag) (w : World) (mg : Str → Option Value) (d : Addr) (es : Array DictEntry) (n : Nat) : Prop where
  len : mg "len" = none
  range : mg "range" = none
  isi : mg "isinstance" = none
  str : mg "str" = none
  bool : mg "bool" = none
  list : mg "list" = none
  int : mg "int" = none
  zip : mg "zip" = none
  sorted : mg "sorted" = none
  sum : mg "sum" = none
  up : ∃ t, mg "UP" = some (.str "/" t)
  most : ∃ t, mg "MOST_HALF_STEPS" = some (.int 41 t)
  os : mg "SIGN_OF" = some (.ref d)
  D : KDict K w d es n
  keys : es.toList.map (fun e => keyText e.key) = [47, 45].map (fun q => some (one q))
def rNInKd (K : PySem.W.Frag) (d : Addr) : R2 := fun x y H Q => ∃ (z : Str) (r : Option Value), x = .str z ∧ y = .ref d ∧ PySem.W.nsIn K d z = some r ∧ Q (.bl (!r.isSome)) H
theorem op_notInKd {X : Cx} {d : Addr} {es : Array DictEntry} {n : Nat} (D : KDict X.K X.w d es n) : OpR X (compareOp .NotIn) (rNInKd X.K d) := op_notIn_kd D
def WayV (K : PySem.W.Frag) (H : Hp) (x : V) (b : Bool) : Prop := (NoTxt K H x ∧ b = false) ∨ ∃ cs : List Nat, x = .str (rt cs) ∧ cs.length ≤ 10000 ∧ b = wayB 0 cs
theorem eq_up (c : Nat) : decide (V.str (one c) = V.str "/") = decide (c = 47) := by
  rw [show ("/" : Str) = one 47 by decide +kernel]
  by_cases h : c = 47
  · rw [h, decide_eq_true rfl, decide_eq_true rfl]
  · rw [decide_eq_false h, decide_eq_false fun q => h (one_inj (V.str.inj q))]
section
variable {P : Program} {w : World} {K : PySem.W.Frag} {mg : Str → Option Value} {base : Heap} {d : Addr} {es : Array DictEntry} {n : Nat}
/-! ### is_way -/
def spIsWay (K : PySem.W.Frag) : Sp := fun vs H Q _ => ∃ x b, vs = [x] ∧ WayV K H x b ∧ Q (.bl b) H
theorem scIsWay : FnScope ["thing", "height", "step"] ["thing"] (defScope sIsWay) := ⟨rfl, rfl, rfl, by decide +kernel, rfl, by decide +kernel, by decide +kernel⟩
theorem ok_isway {f : Addr} {fd : FuncData} {k : Nat} (F : Fun K "is_way" "is_way" sIsWay f fd) (T : Txt K w mg d es n) : FnOk P w K mg base CX0 (k + 1) f fd ["thing"] (spIsWay K) := by
  refine F.ok scIsWay (fun vs H Q E h => ?_) (fun cdv A outer s H vs Q E hr h => ?_)
  · obtain ⟨x, b, rfl, _⟩ := h
    rfl
  · obtain ⟨x, b, rfl, hb, q⟩ := h
    have nd := scIsWay.nd
    obtain ⟨tu, gu⟩ := T.up
    refine ⟨_, pss_cons (ps_if (pt_not (pt_val (pe_callB call_isi (by rfl) T.isi (by decide +kernel) (pa_cons (pv 0) (pa_cons (pe_bltn (v := .ty "str") (by rfl) T.str (by decide +kernel) rfl) pa_nil))))) (pss_one (ps_ret pe_bl)) pss_nil)
      (pss_cons (ps_set (i := 1) nd rfl (.inl rfl) pe_int)
      (pss_cons (ps_for PassesOwn.never rfl (pi_str (pv 0)) (pg_name (i := 2) nd rfl (.inl rfl))
        (pss_cons (ps_if (pt_cmpR (op_notInKd T.D) (pv 2) (pe_glob (v := .ref d) (by rfl) T.os rfl) (by rfl)) (pss_one (ps_ret pe_bl)) pss_nil)
        (pss_cons (ps_set (i := 1) nd rfl (.inl rfl) (pe_ifExp (pt_cmpR op_eq (pv 2) (pe_glob (v := .str "/") (by rfl) gu ⟨_, rfl⟩) (nomark _)) (pe_op op_add (pv 1) pe_int) (pe_op op_sub (pv 1) pe_int)))
        (pss_one (ps_if (pt_cmpR op_lt (pv 1) pe_int (nomark _)) (pss_one (ps_ret pe_bl)) pss_nil)))))
      (pss_one (ps_ret (pe_cmpR op_eq (pv 1) pe_int (nomark _)))))), ?_⟩
    rcases hb with ⟨⟨t, ty, kt⟩, rfl⟩ | ⟨cs, rfl, hz, rfl⟩
    · exact ⟨x, rfl, x, .ty "str", t, .type "str", false, rfl, .ty _, ty, kt, false, rfl, q⟩
    · refine ⟨.str (rt cs), rfl, .str (rt cs), .ty "str", .type "str", .type "str", true, rfl, .ty _, .base (.str _), kit_ty (by decide +kernel), true, rfl, iteF ?_⟩
      refine ⟨.str (rt cs), rfl, rt cs, rfl, ?_⟩
      refine for_it walk_str (fun i σ H1 => ∃ (h : Int) (y2 : Option V), σ = [some (.str (rt cs)), some (.int h), y2] ∧ H1 = H ∧ 0 ≤ h ∧ wayB h (cs.drop i) = wayB 0 cs) ⟨0, _, rfl, rfl, by decide, rfl⟩ (fun _ _ _ _ _ => trivial) ?_ ?_
      · rintro i x σ H1 H2 hi ⟨h, y2, rfl, rfl, h0, hw⟩ ⟨rfl, c, hc, rfl⟩
        rw [← Array.getElem?_toList, rt_list] at hc
        obtain ⟨hil, rfl⟩ := List.getElem?_eq_some_iff.mp hc
        rw [List.drop_eq_getElem_cons hil] at hw
        generalize cs[i] = c at hw
        obtain ⟨r, er1, er2⟩ := key_in T.D.at_ T.keys c
        have hv : (if c = 47 then wayB (h + 1) (cs.drop (i + 1)) else if c = 45 then (if h - 1 < 0 then false else wayB (h - 1) (cs.drop (i + 1))) else false) = wayB 0 cs := hw
        clear hw
        refine ⟨.str (one c), rfl, one c, r, rfl, rfl, er1, _, rfl, ?_⟩
        rw [er2]
        by_cases h47 : c = 47
        · rw [if_pos h47] at hv
          subst h47
          refine iteF ⟨.str (one 47), rfl, rfl, _, rfl, ?_⟩
          rw [eq_up, decide_eq_true rfl]
          refine iteT ⟨.int h, rfl, _, _, rfl, rfl, .int _, rfl, _, _, rfl, rfl, _, rfl, ?_⟩
          rw [decide_eq_false (show ¬ h + 1 < 0 by omega)]
          exact iteF ⟨h + 1, _, rfl, rfl, by omega, hv⟩
        · rw [if_neg h47] at hv
          by_cases h45 : c = 45
          · rw [if_pos h45] at hv
            subst h45
            refine iteF ⟨.str (one 45), rfl, rfl, _, rfl, ?_⟩
            rw [eq_up, decide_eq_false h47]
            refine iteF ⟨.int h, rfl, _, _, rfl, rfl, .int _, rfl, _, _, rfl, rfl, _, rfl, ?_⟩
            by_cases hn : h - 1 < 0
            · rw [if_pos hn] at hv
              rw [decide_eq_true hn]
              rw [← hv] at q
              exact iteT q
            · rw [if_neg hn] at hv
              rw [decide_eq_false hn]
              exact iteF ⟨h - 1, _, rfl, rfl, by omega, hv⟩
          · rw [if_neg h45] at hv
            rw [← hv] at q
            rw [show decide (c ∈ [47, 45]) = false from decide_eq_false (by simp [h47, h45])]
            exact iteT q
      · rintro σ H1 ⟨h, y2, rfl, rfl, h0, hw⟩
        have e : cs.drop (rt cs).cps.size = [] := List.drop_of_length_le (by show cs.length ≤ (rt cs).length; rw [rt_len]; exact Nat.le_refl _)
        rw [e] at hw
        have hw : decide (h = 0) = wayB 0 cs := hw
        refine ⟨.int h, rfl, rfl, ?_⟩
        rw [← hw] at q
        have e2 : decide (V.int h = V.int 0) = decide (h = 0) := by
          by_cases hh : h = 0
          · rw [decide_eq_true hh, decide_eq_true (by rw [hh])]
          · rw [decide_eq_false hh, decide_eq_false fun z => hh (V.int.inj z)]
        show Q (.bl (decide (V.int h = V.int 0))) H1
        rw [e2]
        exact q
end
end Hop

set_option Elab.async false
set_option linter.all false
set_option maxRecDepth 100000
namespace Hop
open PySem L2 HopR
theorem in_steps (c : Nat) : inV (V.str (one c)) [.str "/", .str "-"] = decide (c ∈ [47, 45]) := by
  rw [show ("/" : Str) = one 47 by decide +kernel, show ("-" : Str) = one 45 by decide +kernel]
  show ((one 47 == one c) || ((one 45 == one c) || false)) = _
  rw [one_eq, one_eq, Bool.or_false, show decide (47 = c) = decide (c = 47) by simp [eq_comm], show decide (45 = c) = decide (c = 45) by simp [eq_comm]]
  by_cases h1 : c = 47
  · rw [decide_eq_true h1, h1]
    rfl
  · rw [decide_eq_false h1]
    by_cases h2 : c = 45
    · rw [decide_eq_true h2, h2]
      rfl
    · rw [decide_eq_false h2]
      simp [h1, h2]
section
variable {P : Program} {w : World} {K : PySem.W.Frag} {mg : Str → Option Value} {base : Heap} {d : Addr} {es : Array DictEntry} {n : Nat}
/-! ### _law_is_way -/
def spLIsWay (K : PySem.W.Frag) : Sp := fun vs H Q _ => ∃ x b, vs = [x] ∧ WayV K H x b ∧ ∀ H', Same H H' → Q (.bl b) H'
theorem scLIsWay : FnScope ["_law_thing", "_law_height", "_law_step"] ["_law_thing"] (defScope sLIsWay) := ⟨rfl, rfl, rfl, by decide +kernel, rfl, by decide +kernel, by decide +kernel⟩
theorem ok_lisway {f : Addr} {fd : FuncData} {k : Nat} (F : Fun K "_law_is_way" "_law_is_way" sLIsWay f fd) (T : Txt K w mg d es n) : FnOk P w K mg base CX0 (k + 1) f fd ["_law_thing"] (spLIsWay K) := by
  refine F.ok scLIsWay (fun vs H Q E h => ?_) (fun cdv A outer s H vs Q E hr h => ?_)
  · obtain ⟨x, b, rfl, _⟩ := h
    rfl
  · obtain ⟨x, b, rfl, hb, q⟩ := h
    have nd := scLIsWay.nd
    refine ⟨_, pss_cons (ps_if (pt_not (pt_val (pe_callB call_isi (by rfl) T.isi (by decide +kernel) (pa_cons (pv 0) (pa_cons (pe_bltn (v := .ty "str") (by rfl) T.str (by decide +kernel) rfl) pa_nil))))) (pss_one (ps_ret pe_bl)) pss_nil)
      (pss_cons (ps_set (i := 1) nd rfl (.inl rfl) pe_int)
      (pss_cons (ps_for PassesOwn.never rfl (pi_str (pv 0)) (pg_name (i := 2) nd rfl (.inl rfl))
        (pss_cons (ps_if (pt_cmpR op_notIn_seq (pv 2) (pe_lst (pa_cons pe_str (pa_cons pe_str pa_nil))) (by rfl)) (pss_one (ps_ret pe_bl)) pss_nil)
        (pss_cons (ps_set (i := 1) nd rfl (.inl rfl) (pe_op op_sub (pe_op op_add (pv 1) (pe_op op_mul pe_int (pe_callTy call_int1 (by rfl) T.int (by decide +kernel) (pa_cons (pe_cmpR op_eq (pv 2) pe_str (nomark _)) pa_nil)))) pe_int))
        (pss_one (ps_if (pt_cmpR op_lt (pv 1) pe_int (nomark _)) (pss_one (ps_ret pe_bl)) pss_nil)))))
      (pss_one (ps_ret (pe_cmpR op_eq (pv 1) pe_int (nomark _)))))), ?_⟩
    rcases hb with ⟨⟨t, ty, kt⟩, rfl⟩ | ⟨cs, rfl, hz, rfl⟩
    · exact ⟨x, rfl, x, .ty "str", t, .type "str", false, rfl, .ty _, ty, kt, false, rfl, q H (Same.refl _)⟩
    · refine ⟨.str (rt cs), rfl, .str (rt cs), .ty "str", .type "str", .type "str", true, rfl, .ty _, .base (.str _), kit_ty (by decide +kernel), true, rfl, iteF ?_⟩
      refine ⟨.str (rt cs), rfl, rt cs, rfl, ?_⟩
      refine for_it walk_str (fun i σ H1 => ∃ (h : Int) (y2 : Option V), σ = [some (.str (rt cs)), some (.int h), y2] ∧ Same H H1 ∧ 0 ≤ h ∧ wayB h (cs.drop i) = wayB 0 cs) ⟨0, _, rfl, Same.refl _, by decide, rfl⟩ (fun _ _ _ _ _ => trivial) ?_ ?_
      · rintro i x σ H1 H2 hi ⟨h, y2, rfl, s1, h0, hw⟩ ⟨rfl, c, hc, rfl⟩
        rw [← Array.getElem?_toList, rt_list] at hc
        obtain ⟨hil, rfl⟩ := List.getElem?_eq_some_iff.mp hc
        rw [List.drop_eq_getElem_cons hil] at hw
        generalize cs[i] = c at hw
        have hv : (if c = 47 then wayB (h + 1) (cs.drop (i + 1)) else if c = 45 then (if h - 1 < 0 then false else wayB (h - 1) (cs.drop (i + 1))) else false) = wayB 0 cs := hw
        clear hw
        refine ⟨.str (one c), rfl, (by show 2 ≤ sizeLine; decide), fun p np => ⟨p, _, rfl, .inl (SqL.of upd_same), rfl, rfl, _, rfl, ?_⟩⟩
        have s2 : Same H (upd H2 p (.lst [.str "/", .str "-"])) := same_new (s1.free np) s1
        generalize upd H2 p (.lst [.str "/", .str "-"]) = H3 at s2
        rw [in_steps]
        by_cases h47 : c = 47
        · rw [if_pos h47] at hv
          subst h47
          refine iteF ⟨.int h, rfl, .str (one 47), rfl, rfl, .inr ⟨_, rfl, _, _, rfl, rfl, .inl ⟨by decide, by decide⟩, _, _, rfl, rfl, _, _, rfl, rfl, .int _, rfl, _, _, rfl, rfl, _, rfl, ?_⟩⟩
          rw [eq_up, decide_eq_true rfl]
          rw [decide_eq_false (show ¬ h + 2 * (if true = true then (1 : Int) else 0) - 1 < 0 by rw [if_pos rfl]; omega)]
          refine iteF ⟨h + 2 * (if true = true then (1 : Int) else 0) - 1, _, rfl, s2, by rw [if_pos rfl]; omega, ?_⟩
          rw [if_pos rfl, show h + 2 * 1 - 1 = h + 1 by omega]
          exact hv
        · rw [if_neg h47] at hv
          by_cases h45 : c = 45
          · rw [if_pos h45] at hv
            subst h45
            refine iteF ⟨.int h, rfl, .str (one 45), rfl, rfl, .inr ⟨_, rfl, _, _, rfl, rfl, .inl ⟨by decide, by decide⟩, _, _, rfl, rfl, _, _, rfl, rfl, .int _, rfl, _, _, rfl, rfl, _, rfl, ?_⟩⟩
            rw [eq_up, decide_eq_false h47]
            by_cases hn : h - 1 < 0
            · rw [if_pos hn] at hv
              rw [decide_eq_true (show h + 2 * (if false = true then (1 : Int) else 0) - 1 < 0 by rw [if_neg (by decide)]; omega)]
              rw [← hv] at q
              exact iteT (q _ s2)
            · rw [if_neg hn] at hv
              rw [decide_eq_false (show ¬ h + 2 * (if false = true then (1 : Int) else 0) - 1 < 0 by rw [if_neg (by decide)]; omega)]
              refine iteF ⟨h + 2 * (if false = true then (1 : Int) else 0) - 1, _, rfl, s2, by rw [if_neg (by decide)]; omega, ?_⟩
              rw [if_neg (by decide), show h + 2 * 0 - 1 = h - 1 by omega]
              exact hv
          · rw [if_neg h45] at hv
            rw [← hv] at q
            rw [show decide (c ∈ [47, 45]) = false from decide_eq_false (by simp [h47, h45])]
            exact iteT (q _ s2)
      · rintro σ H1 ⟨h, y2, rfl, s1, h0, hw⟩
        have e : cs.drop (rt cs).cps.size = [] := List.drop_of_length_le (by show cs.length ≤ (rt cs).length; rw [rt_len]; exact Nat.le_refl _)
        rw [e] at hw
        have hw : decide (h = 0) = wayB 0 cs := hw
        refine ⟨.int h, rfl, rfl, ?_⟩
        rw [← hw] at q
        have e2 : decide (V.int h = V.int 0) = decide (h = 0) := by
          by_cases hh : h = 0
          · rw [decide_eq_true hh, decide_eq_true (by rw [hh])]
          · rw [decide_eq_false hh, decide_eq_false fun z => hh (V.int.inj z)]
        show Q (.bl (decide (V.int h = V.int 0))) H1
        rw [e2]
        exact q _ s1
end
end Hop

set_option Elab.async false
set_option linter.all false
set_option maxRecDepth 100000
namespace HopR
open PySem PySem.Spec PyProof.Rows L2
section
variable {X : Cx}
/-- tuple(text) -/
def rTupT : List V → Hp → VK → Prop := fun vs H Q => ∃ z : Str, vs = [.str z] ∧ z.length ≤ sizeLine ∧ ∀ p : Addr, H p = none → Q (.ref p) (upd H p (.tup ((sg z).map V.str)))
theorem cr_tupT (hcm : X.calm = true) : CallR X (.type "tuple") rTupT := by
  rintro pins s σ H _ us Q I r ⟨z, rfl, hz, q⟩
  obtain ⟨_, rfl, t, rfl⟩ := vals1 r
  refine call_tuple_str (I.ok.hd hcm) z t (fun h' tk acc old items => ?_) hz
  have after : Inv X pins σ H { s with heap := h', toks := tk } := I.kept old
  refine ⟨.ref h'.objs.size, _, after.laid (t' := tk) (fun b o e => Heap.get?_push_of_some _ e) (Nat.le_refl _) ?_, rfl, q _ (after.hok.fresh (Nat.le_refl _))⟩
  refine ⟨by rw [List.length_map, sg_len]; exact hz, acc.toList, vals_of_strs (signs_are items), ?_⟩
  rw [Array.toArray_toList]
  exact IsTup.new _ _
end
/-! ### lists of whole numbers as data -/
def dis (zs : List Int) : List PyData := zs.map PyData.int
theorem dp_ints {K : PySem.W.Frag} {H : Hp} : ∀ zs : List Int, DpAll K H (zs.map V.int) (dis zs)
  | [] => .nil
  | z :: r => .cons (.int z) (dp_ints r)
theorem lay_ints : ∀ zs : List Int, PyData.canLayAll0 (dis zs) = true
  | [] => rfl
  | z :: r => by
    show PyData.canLayAll0 (.int z :: dis r) = true
    simp only [PyData.canLayAll0, lay_ints r, Bool.and_true]
    rfl
theorem deep_ints : ∀ zs : List Int, PyData.depthAll (dis zs) = 0
  | [] => rfl
  | z :: r => by
    show PyData.depthAll (.int z :: dis r) = 0
    simp only [PyData.depthAll, deep_ints r]
    rfl
theorem shaped_zs (zs : List Int) : SeqAt.shaped (.list (dis zs)) = true := by
  unfold SeqAt.shaped
  rw [Bool.and_eq_true]
  refine ⟨?_, decide_eq_true ?_⟩
  · simp only [PyData.canLay0, lay_ints]
  · simp only [PyData.depth, deep_ints]
    decide
theorem cut_ints (ns : List Int) (hi : Int) (hl : ns.length ≤ 63) : ∃ zs : List Int, cutV (ns.map V.int) none (some hi) = zs.map V.int ∧ zs.length ≤ 63 := by
  unfold cutV
  refine ⟨(ns.drop (HT.sIx (ns.map V.int).length 0 none)).take (HT.sIx (ns.map V.int).length (ns.map V.int).length (some hi) - HT.sIx (ns.map V.int).length 0 none), by rw [List.map_take, List.map_drop], ?_⟩
  rw [List.length_take, List.length_drop]
  omega
end HopR

set_option Elab.async false
set_option linter.all false
set_option maxRecDepth 100000
namespace HopR
open PySem PySem.Spec PyProof.Rows L2
/-! ### sorted(texts, reverse=True): the same texts, in some order -/
def ltS (v u : Value) : Bool := decide ((strOf v).cps.toList < (strOf u).cps.toList)
theorem swo_txt : SrtO.Swo ltS where
  asym x y h := decide_eq_false (List.lt_asymm (of_decide_eq_true h))
  tr x y z h1 h2 := by
    have a := List.not_lt.mp (of_decide_eq_false h1)
    have b := List.not_lt.mp (of_decide_eq_false h2)
    exact decide_eq_false (List.not_lt.mpr (List.le_trans a b))
section
variable {prog : Program} {w : World} {A : Around} {s : Shared}
theorem texts_sortable {l : Addr} {vs : List Value} {ss : List Str} (are : StrsAre vs ss) (two : 2 ≤ vs.length) : SrtO.SortableO prog w A s l vs ltS := by
  intro h' _
  refine ⟨oneType', fun Q E q => ?_, fun x y hx hy => ?_⟩
  · obtain ⟨a, b, r, rfl⟩ : ∃ a b r, vs = a :: b :: r := by
      match vs, two with
      | a :: b :: r, _ => exact ⟨a, b, r, rfl⟩
    rw [keyKind_strs are]
    exact wpAny_pure q
  · obtain ⟨a, t, ea⟩ := are.all _ hx
    obtain ⟨b, u, eb⟩ := are.all _ hy
    show wpAny (model prog w) A (keyLt' oneType' x.1 y.1) (fun r s' => s' = _ ∧ r = ltS x.1 y.1) (fun _ _ => False) _
    rw [ea, eb, keyLt'_oneType]
    exact oneLt_str ⟨rfl, rfl⟩
end
section
variable {X : Cx}
def rSortTR (K : PySem.W.Frag) : List V → List V → Hp → VK → Prop := fun vs zs H Q => ∃ (a : Addr) (xs : List Str), vs = [.ref a] ∧ zs = [.bl true] ∧ SqL K H a (xs.map V.str) ∧ ∀ (ys : List Str) (p : Addr), ys.Perm xs → H p = none → Q (.ref p) (upd H p (.lst (ys.map V.str)))
theorem strs_of_vals : ∀ {xs : List Str} {us : List Value}, Vals (xs.map V.str) us → StrsAre us xs
  | [], _, h => by
    cases h
    exact .nil
  | x :: r, _, h => by
    cases h with
    | cons a b =>
      obtain ⟨t, rfl⟩ := a
      exact .cons x t (strs_of_vals b)
theorem cr_sortTR : CallRK X (.builtin "sorted") [Str.ofString "reverse"] (rSortTR X.K) := by
  rintro pins s σ H _ _ us ws Q I r rz ⟨a, xs, rfl, rfl, hs, q⟩
  obtain rfl := Vals.ref1 r
  obtain ⟨w1, rfl, e1⟩ := vals1 rz
  obtain rfl : w1 = Value.bool true := e1
  obtain ⟨its, rv, hl, hz⟩ := I.list hs
  have are := strs_of_vals rv
  refine SrtR.sorted_ordK (b := true) (fun _ => rfl) (args_sorted_rev _ _) (fun _ => args_list_sort_rev _ _) swo_txt hl.isList (by rw [← rv.length]; exact hz) (fun two _ _ _ _ => texts_sortable are two) fun out _ stb => ?_
  have pm : out.reverse.Perm its := out.reverse_perm.trans (stb.perm.trans its.reverse_perm)
  have are' : StrsAre out.reverse (out.reverse.map strOf) := strsAre_map _ fun v hv => are.all v (pm.mem_iff.mp hv)
  have pm' : (out.reverse.map strOf).Perm xs := by
    have := pm.map strOf
    rw [are.strs] at this
    exact this
  obtain ⟨ep, at_⟩ := sortedAll_at s.heap its (if true = true then out.toArray.reverse else out.toArray)
  have hlen : ((out.reverse.map strOf).map V.str).length ≤ sizeLine := by
    rw [List.length_map, pm'.length_eq]
    rw [List.length_map] at hz
    exact hz
  refine ⟨.ref (s.heap.objs.size + 1), upd H (s.heap.objs.size + 1) (.lst ((out.reverse.map strOf).map V.str)), I.laid (t' := s.toks) (fun _ _ => sortedAll_old) (Nat.le_succ _) ⟨hlen, out.reverse, ep, vals_of_strs are', ?_⟩, rfl, q _ _ pm' (I.hok.fresh (Nat.le_succ _))⟩
  rw [at_]
  simp
end
end HopR

set_option Elab.async false
set_option linter.all false
set_option maxRecDepth 100000
namespace HopR
open PySem L2
/-! ### a row beneath a row -/
def ust (u l : Bool) : Int := (if u then 1 else 0) - (if l then 0 else 1)
def bn : Int → List Bool → List Bool → Bool
  | o, u :: us, l :: ls => if o + ust u l < 0 then false else bn (o + ust u l) us ls
  | o, _, _ => decide (o = 0)
theorem bn_nil (o : Int) (ls : List Bool) : bn o [] ls = decide (o = 0) := by
  cases ls <;> rfl
theorem bn_cons (o : Int) (u l : Bool) (us ls : List Bool) : bn o (u :: us) (l :: ls) = if o + ust u l < 0 then false else bn (o + ust u l) us ls := rfl
def rise (b : Bool) : Int := if b then 1 else -1
theorem rise_two (u l : Bool) : rise u + rise l = 2 * ust u l := by cases u <;> cases l <;> rfl
/-- as the law looks -/
def lb : Int → List Bool → List Nat → Bool
  | h, u :: us, c :: cs => if okc c = false then false else if h + rise u + rise (decide (c = 111)) < 0 then false else lb (h + rise u + rise (decide (c = 111))) us cs
  | h, _, _ => decide (h = 0)
def bls (cs : List Nat) : List Bool := cs.map fun c => decide (c = 111)
theorem lb_eq : ∀ (us : List Bool) (cs : List Nat) (o : Int), us.length = cs.length → lb (2 * o) us cs = (cs.all okc && bn o us (bls cs))
  | [], [], o, _ => by
    show decide (2 * o = 0) = (true && decide (o = 0))
    by_cases h : o = 0
    · rw [decide_eq_true h, decide_eq_true (by omega)]; rfl
    · rw [decide_eq_false h, decide_eq_false (by omega)]; rfl
  | [], c :: cs, o, h => by simp at h
  | u :: us, [], o, h => by simp at h
  | u :: us, c :: cs, o, h => by
    have hl : us.length = cs.length := by simpa using h
    show (if okc c = false then false else if 2 * o + rise u + rise (decide (c = 111)) < 0 then false else lb (2 * o + rise u + rise (decide (c = 111))) us cs) = ((okc c && cs.all okc) && (if o + ust u (decide (c = 111)) < 0 then false else bn (o + ust u (decide (c = 111))) us (bls cs)))
    cases hc : okc c with
    | false => rfl
    | true =>
      rw [if_neg (by decide)]
      have e := rise_two u (decide (c = 111))
      have e2 : 2 * o + rise u + rise (decide (c = 111)) = 2 * (o + ust u (decide (c = 111))) := by omega
      rw [e2, lb_eq us cs _ hl, Bool.true_and]
      by_cases hn : o + ust u (decide (c = 111)) < 0
      · rw [if_pos hn, if_pos (by omega), Bool.and_false]
      · rw [if_neg hn, if_neg (by omega)]
/-- whether x is beneath the row of bs -/
def bnB (bs : List Bool) (cs : List Nat) : Bool := decide (cs.length = bs.length) && (cs.all okc && bn 0 bs (bls cs))
def BnB (K : PySem.W.Frag) (H : Hp) (bs : List Bool) (x : V) (b : Bool) : Prop := (NoTxt K H x ∧ b = false) ∨ ∃ cs : List Nat, x = .str (rt cs) ∧ cs.length ≤ 10000 ∧ b = bnB bs cs
theorem bnB_same {K : PySem.W.Frag} {H H' : Hp} {bs : List Bool} {x : V} {b : Bool} (s : Same H H') (h : BnB K H bs x b) : BnB K H' bs x b := h.imp (fun ⟨q, e⟩ => ⟨notxt_same s q, e⟩) id
theorem tx_rt (bs : List Bool) : tx bs = rt (bs.map cd) := ext_str (by rw [tx_list, rt_list])
theorem bls_tx (bs : List Bool) : bls (bs.map cd) = bs := by
  unfold bls
  rw [List.map_map]
  conv => rhs; rw [← List.map_id bs]
  congr 1
  funext b
  cases b <;> rfl
theorem okc_map (bs : List Bool) : (bs.map cd).all okc = true := by
  rw [List.all_map, List.all_eq_true]
  exact fun b _ => okc_cd b
theorem okc_row {cs : List Nat} (h : cs.all okc = true) : rt cs = tx (bls cs) := by
  rw [tx_rt]
  congr 1
  unfold bls
  rw [List.map_map]
  conv => lhs; rw [← List.map_id cs]
  apply List.map_congr_left
  intro c hc
  have := List.all_eq_true.mp h c hc
  unfold okc at this
  simp only [Bool.or_eq_true, decide_eq_true_eq] at this
  rcases this with rfl | rfl <;> rfl
theorem bnB_tx (bs ls : List Bool) : bnB bs (ls.map cd) = (decide (ls.length = bs.length) && bn 0 bs ls) := by
  unfold bnB
  rw [List.length_map, okc_map, bls_tx, Bool.true_and]
end HopR

set_option Elab.async false
set_option linter.all false
set_option maxRecDepth 100000
namespace Hop
open PySem L2 HopR
section
variable {P : Program} {w : World} {K : PySem.W.Frag} {mg : Str → Option Value} {base : Heap} {d : Addr} {es : Array DictEntry} {n : Nat}
/-! ### the draws -/
theorem scDrawn : FnScope ["_law_cell", "_law_sizes", "_law_found", "_law_left", "_law_k", "_law_small", "_law_one", "_law_two"] ["_law_cell", "_law_sizes"] (defScope sDrawn) := ⟨rfl, rfl, rfl, by decide +kernel, rfl, by decide +kernel, by decide +kernel⟩
theorem ok_drawn {f : Addr} {fd : FuncData} {k : Nat} (F : Fun K "_law_drawn" "_law_drawn" sDrawn f fd) (mL : mg "len" = none) (mR : mg "range" = none) : FnOk P w K mg base CX0 (k + 1) f fd ["_law_cell", "_law_sizes"] (spDrawn K) := by
  refine F.ok scDrawn (fun vs H Q E h => ?_) (fun cdv A outer s H vs Q E hr h => ?_)
  · obtain ⟨c, a, zs, rfl, _⟩ := h
    rfl
  · obtain ⟨c, a, zs, rfl, hS, hz, hlen, q⟩ := h
    have nd := scDrawn.nd
    refine ⟨_, pss_cons (ps_set (i := 2) nd rfl (.inl rfl) (pe_lst pa_nil))
      (pss_cons (ps_set (i := 3) nd rfl (.inl rfl) (pv 0))
      (pss_cons (ps_for PassesOwn.never rfl (pi_range1 (by rfl) mR (pa_cons (pe_callB call_len_seq (by rfl) mL PySem.boot_len (pa_cons (pv 1) pa_nil)) pa_nil)) (pg_name (i := 4) nd rfl (.inl rfl))
        (pss_one (ps_if (pt_cmpR op_ge (pv 3) (pe_op op_pow pe_int pe_int) (nomark _))
          (pss_cons (ps_expr (pe_bm PySem.F.plainAttrs_list PySem.F.slot_list_append PySem.F.type_list_append mt_append (pv 2) (pa_cons (pe_op op_mod (pv 3) (pe_ix ix_list (pv 1) (pv 4) (fun _ _ => rfl))) pa_nil)))
            (pss_one (ps_set (i := 3) nd rfl (.inl rfl) (pe_op op_fdivW (pv 3) (pe_ix ix_list (pv 1) (pv 4) (fun _ _ => rfl))))))
          (pss_cons (ps_set (i := 5) nd rfl (.inl rfl) (pe_op op_mod (pv 3) (pe_op op_pow pe_int pe_int)))
          (pss_cons (ps_set (i := 6) nd rfl (.inl rfl) (pe_op op_mod (pe_op op_mul (pe_op op_add (pe_op op_add (pv 5) (pe_op op_mul pe_int (pv 4))) pe_int) (pe_op op_add pe_int (pe_op op_mul (pe_op op_mul pe_int (pv 4)) (pv 4)))) pe_int))
          (pss_cons (ps_set (i := 7) nd rfl (.inl rfl) (pe_op op_mod (pe_op op_mul (pe_op op_add (pe_op op_add (pe_op op_fdiv (pv 5) pe_int) (pe_op op_mul pe_int (pv 4))) pe_int) (pe_op op_add pe_int (pe_op op_mul pe_int (pv 4)))) pe_int))
          (pss_one (ps_expr (pe_bm PySem.F.plainAttrs_list PySem.F.slot_list_append PySem.F.type_list_append mt_append (pv 2) (pa_cons (pe_op op_mod (pe_op op_add (pe_op op_mul (pv 6) (pv 7)) (pe_op op_fdiv (pv 6) pe_int)) (pe_ix ix_list (pv 1) (pv 4) (fun _ _ => rfl))) pa_nil))))))))))
      (pss_one (ps_ret (pv 2))))), ?_⟩
    -- found = []; left = cell
    refine ⟨Nat.zero_le _, fun o no => ?_⟩
    have s1 : Same H (upd H o (.lst [])) := same_upd no
    refine ⟨.int c, rfl, .ref a, rfl, a, zs.map V.int, rfl, .inl (s1.seq hS), ((zs.map V.int).length : Int), rfl, by omega, (by rw [List.length_map]; omega), ?_⟩
    refine for_range (lo := 0) (n := zs.length) (fun i σ H3 => ∃ (l : Int) (y4 y5 y6 y7 : Option V) (ds : List Int), σ = [some (.int c), some (.ref a), some (.ref o), some (.int l), y4, y5, y6, y7] ∧
        Same H H3 ∧ H3 o = some (.lst (ds.map V.int)) ∧ ds.length = i ∧ ds ++ draws l i (zs.drop i) = draws c 0 zs)
      ⟨c, none, none, none, none, [], rfl, s1, upd_same, rfl, by simp⟩ ?_ ?_ |> (fun h => by rw [List.length_map]; exact h)
    · rintro i σ H3 hi ⟨l, y4, y5, y6, y7, ds, rfl, sm, eo, el, ed⟩
      have hA : SqL K H3 a (zs.map V.int) := sm.seq hS
      have hz1 := hz zs[i] (List.getElem_mem hi)
      have gz : zs[i]? = some zs[i] := List.getElem?_eq_getElem hi
      have g : atI (zs.map V.int) (i : Int) = some (.int zs[i]) := atI_nat (by rw [List.getElem?_map, gz]; rfl)
      have hd : zs.drop i = zs[i] :: zs.drop (i + 1) := List.drop_eq_getElem_cons hi
      rw [hd] at ed
      have ed' : (ds ++ [dval l i zs[i]]) ++ draws (dleft l zs[i]) (i + 1) (zs.drop (i + 1)) = draws c 0 zs := by
        rw [List.append_assoc]
        exact ed
      have small : (ds.map V.int).length < sizeLine := by
        rw [List.length_map]
        exact small1000 (by omega)
      rw [Int.zero_add]
      refine ⟨.int l, rfl, 10, 18, rfl, rfl, ⟨by decide, by decide, by decide⟩, l, 10 ^ 18, rfl, rfl, _, rfl, ite2 (fun e => ?_) (fun e => ?_)⟩
      · have e : (1000000000000000000 : Int) ≤ l := of_decide_eq_true e
        refine ⟨.ref o, rfl, .inl ⟨rfl, _, SqL.of eo⟩, .int l, rfl, .ref a, rfl, .int (i : Int), rfl, a, _, _, _, rfl, rfl, hA, g, l, zs[i], rfl, rfl, hz1.1, o, _, _, rfl, rfl, eo, small, ?_⟩
        have e1 : dval l i zs[i] = l % zs[i] := by
          unfold dval
          rw [if_pos e]
        have e2 : dleft l zs[i] = l / zs[i] := by
          unfold dleft
          rw [if_pos e]
        have sm2 : Same H (upd H3 o (.lst (ds.map V.int ++ [.int (l % zs[i])]))) := same_new no sm
        refine ⟨.int l, rfl, .ref a, rfl, .int (i : Int), rfl, a, _, _, _, rfl, rfl, sm2.seq hS, g, l, zs[i], rfl, rfl, wide_div hz1.1 (b := 64) (by have := hz1.2; have := hz1.1; omega) (by decide) (by decide), ?_⟩
        refine ⟨_, _, _, _, _, ds ++ [dval l i zs[i]], rfl, sm2, ?_, ?_, ?_⟩
        · rw [upd_same, e1, List.map_append]
          rfl
        · rw [List.length_append, el]
          rfl
        · rw [← e2]
          exact ed'
      · have e : ¬ (1000000000000000000 : Int) ≤ l := fun z => e (decide_eq_true z)
        have e2 : dleft l zs[i] = l := by
          unfold dleft
          rw [if_neg e]
        have hi1000 : (i : Int) < 1000 := by omega
        have s0 : 0 ≤ l % 1000000000000000000 := Int.emod_nonneg _ (by decide)
        have s9 : l % 1000000000000000000 < 1000000000000000000 := Int.emod_lt_of_pos _ (by decide)
        refine ⟨.int l, rfl, 10, 18, rfl, rfl, ⟨by decide, by decide, by decide⟩, l, 10 ^ 18, rfl, rfl, (show (0 : Int) < 10 ^ 18 by decide), ?_⟩
        refine ⟨_, rfl, .int (i : Int), rfl, 7, i, rfl, rfl, .inl ⟨by decide, by decide⟩, _, _, rfl, rfl, _, _, rfl, rfl, .int (i : Int), rfl, 2, i, rfl, rfl, .inl ⟨by decide, by decide⟩, .int (i : Int), rfl, _, _, rfl, rfl, .inl ⟨by omega, by omega⟩, _, _, rfl, rfl, _, _, rfl, rfl,
          .inl ⟨by show -(2 ^ 64) < l % 1000000000000000000 + 7 * (i : Int) + 1; omega, by show l % 1000000000000000000 + 7 * (i : Int) + 1 < 2 ^ 64; omega⟩, _, _, rfl, rfl, (show (0 : Int) < 2147483647 by decide), ?_⟩
        refine ⟨_, rfl, _, _, rfl, rfl, ⟨by decide, by decide⟩, .int (i : Int), rfl, 11, i, rfl, rfl, .inl ⟨by decide, by decide⟩, _, _, rfl, rfl, _, _, rfl, rfl, .int (i : Int), rfl, 6, i, rfl, rfl, .inl ⟨by decide, by decide⟩, _, _, rfl, rfl, _, _, rfl, rfl,
          .inl ⟨by show -(2 ^ 64) < l % 1000000000000000000 / 3 + 11 * (i : Int) + 5; omega, by show l % 1000000000000000000 / 3 + 11 * (i : Int) + 5 < 2 ^ 64; omega⟩, _, _, rfl, rfl, (show (0 : Int) < 2147483629 by decide), ?_⟩
        have o0 := Int.emod_nonneg ((l % 1000000000000000000 + 7 * (i : Int) + 1) * (48271 + 2 * (i : Int) * (i : Int))) (show (2147483647 : Int) ≠ 0 by decide)
        have o9 := Int.emod_lt_of_pos ((l % 1000000000000000000 + 7 * (i : Int) + 1) * (48271 + 2 * (i : Int) * (i : Int))) (show (0 : Int) < 2147483647 by decide)
        refine ⟨.ref o, rfl, .inl ⟨rfl, _, SqL.of eo⟩, _, rfl, _, rfl, _, _, rfl, rfl, .inl ⟨Int.lt_of_lt_of_le (by decide) o0, Int.lt_trans o9 (by decide)⟩, _, rfl, _, _, rfl, rfl, ⟨by decide, by decide⟩, _, _, rfl, rfl, .ref a, rfl, .int (i : Int), rfl, a, _, _, _, rfl, rfl, hA, g, _, zs[i], rfl, rfl, hz1.1, o, _, _, rfl, rfl, eo, small, ?_⟩
        have e1 : dval l i zs[i] = ((l % 1000000000000000000 + 7 * (i : Int) + 1) * (48271 + 2 * (i : Int) * (i : Int)) % 2147483647 * ((l % 1000000000000000000 / 3 + 11 * (i : Int) + 5) * (39373 + 6 * (i : Int)) % 2147483629) + (l % 1000000000000000000 + 7 * (i : Int) + 1) * (48271 + 2 * (i : Int) * (i : Int)) % 2147483647 / 64) % zs[i] := by
          unfold dval
          rw [if_neg e]
        refine ⟨_, _, _, _, _, ds ++ [dval l i zs[i]], rfl, same_new no sm, ?_, ?_, ?_⟩
        · rw [upd_same, e1, List.map_append]
          rfl
        · rw [List.length_append, el]
          rfl
        · rw [e2] at ed'
          exact ed'
    · rintro σ H3 ⟨l, y4, y5, y6, y7, ds, rfl, sm, eo, el, ed⟩
      rw [List.drop_length] at ed
      have ed : ds = draws c 0 zs := by
        rw [← ed]
        show ds = ds ++ []
        rw [List.append_nil]
      subst ed
      exact ⟨.ref o, rfl, q H3 o sm no eo⟩

/-! ### _law_row -/
def tl (bs : List Bool) : List V := (bs.map fun b => tx [b]).map V.str
theorem tl_len (bs : List Bool) : (tl bs).length = bs.length := by
  unfold tl
  rw [List.length_map, List.length_map]
theorem sizes32 : ∀ z ∈ ([30, 4] ++ List.replicate 30 2 : List Int), SizeOk z := by
  intro z hz
  rcases List.mem_append.mp hz with h | h
  · rcases List.mem_cons.mp h with rfl | h
    · exact ⟨by decide, by decide⟩
    · obtain rfl := List.mem_singleton.mp h
      exact ⟨by decide, by decide⟩
  · rw [(List.mem_replicate.mp h).2]
    exact ⟨by decide, by decide⟩
def spRow30 : Sp := fun vs H Q _ => ∃ c : Int, vs = [.int c, .int 30] ∧ ∀ H' bs, Same H H' → Row bs → Q (.str (tx bs)) H'
theorem scLRow : FnScope ["_law_cell", "_law_most", "_law_draws", "_law_signs", "_law_draw", "_law_k"] ["_law_cell", "_law_most"] (defScope sLRow) := ⟨rfl, rfl, rfl, by decide +kernel, rfl, by decide +kernel, by decide +kernel⟩
theorem ok_lrow {f f1 : Addr} {fd fd1 : FuncData} {k : Nat} (F : Fun K "_law_row" "_law_row" sLRow f fd) (N1 : Fn K mg "_law_drawn" sDrawn ["_law_cell", "_law_sizes"] f1 fd1) (T : Txt K w mg d es n) : FnOk P w K mg base CX0 (k + 2) f fd ["_law_cell", "_law_most"] spRow30 := by
  have G1 : FnOk P w K mg base CX0 (k + 1) f1 fd1 ["_law_cell", "_law_sizes"] (spDrawn K) := ok_drawn N1.F T.len T.range
  refine F.ok scLRow (fun vs H Q E h => ?_) (fun cdv A outer s H vs Q E hr h => ?_)
  · obtain ⟨c, rfl, _⟩ := h
    rfl
  · obtain ⟨c, rfl, q⟩ := h
    have nd := scLRow.nd
    -- the end
    obtain ⟨t3, p3, h3⟩ : ∃ t3, PSs (cxOf CX0 P w K mg base ["_law_cell", "_law_most", "_law_draws", "_law_signs", "_law_draw", "_law_k"] "_law_row" (defScope sLRow) f cdv A outer s H E).nox ((defBody sLRow).drop 4) t3 ∧
        ∀ (H1 : Hp) (p : Addr) (bs : List Bool) (y2 y4 y5 : Option V), Same H H1 → H1 p = some (.lst (tl bs)) → Row bs → t3 { nx := fun _ H' => Q .non H', rt := Q } [some (.int c), some (.int 30), y2, some (.ref p), y4, y5] H1 := by
      refine ⟨_, pss_one (ps_ret (pe_join pe_str (pv 3))), fun H1 p bs y2 y4 y5 sm e hR => ?_⟩
      refine ⟨⟨_, rfl⟩, .ref p, rfl, "", p, (bs.map fun b => tx [b]), rfl, rfl, .inl (SqL.of e), join_fits (by have := hR.2; omega), ?_⟩
      rw [join_tx]
      exact q H1 bs sm hR
    -- by turns
    obtain ⟨t2, p2, h2⟩ : ∃ t2, PSs (cxOf CX0 P w K mg base ["_law_cell", "_law_most", "_law_draws", "_law_signs", "_law_draw", "_law_k"] "_law_row" (defScope sLRow) f cdv A outer s H E).nox ((defBody sLRow).drop 3) t2 ∧
        ∀ (H1 : Hp) (p pd : Addr) (bs : List Bool) (ds : List Int) (m : Nat) (d1 d2 : Int) (y4 y5 : Option V), Same H H1 → H1 p = some (.lst (tl bs)) → Row bs → H1 pd = some (.lst (ds.map V.int)) → ds[0]? = some (m : Int) → m < 30 → ds[1]? = some d1 → ds[2]? = some d2 →
          t2 { nx := fun _ H' => Q .non H', rt := Q } [some (.int c), some (.int 30), some (.ref pd), some (.ref p), y4, y5] H1 := by
      refine ⟨_, pss_cons (ps_if (pt_cmpR op_eq (pe_ix ix_list (pv 2) pe_int (fun _ _ => rfl)) pe_int (nomark _))
        (pss_one (ps_setLc (i := 3) (own := [("_law_k", 5)]) (g := gName 5) (tt := tYes) (by rfl) nd rfl rfl (sw_true rfl rfl rfl (by decide +kernel)) (pi_range1 (by rfl) T.range (pa_cons (pe_op op_add pe_int (pe_ix ix_list (pv 2) pe_int (fun _ _ => rfl))) pa_nil))
          (blkOk_by (own := [("_law_k", 5)]) (N := ["_law_cell", "_law_most", "_law_draws", "_law_signs", "_law_draw", "_law_k"]) (sc := defScope sLRow) (by decide +kernel))
          (fun _ _ _ _ _ => pg_name (i := 5) nd rfl (Or.inl rfl)) (fun _ _ _ _ _ => pts_nil) (fun _ _ _ _ _ => pe_ix ix_str pe_str (pe_op op_mod (pe_op op_add (pv 5) (pe_ix (show IxR _ (rIxL K) from ix_list) (pv 2) pe_int (fun _ _ => rfl))) pe_int) (fun _ _ => rfl)))) pss_nil) p3,
        fun H1 p pd bs ds m d1 d2 y4 y5 sm e hR ed e0 hm e1 e2 => ?_⟩
      have g0 : atI (ds.map V.int) 0 = some (.int (m : Int)) := atI_nat (j := 0) (by rw [List.getElem?_map, e0]; rfl)
      have g1 : atI (ds.map V.int) 1 = some (.int d1) := atI_nat (j := 1) (by rw [List.getElem?_map, e1]; rfl)
      have g2 : atI (ds.map V.int) 2 = some (.int d2) := atI_nat (j := 2) (by rw [List.getElem?_map, e2]; rfl)
      refine ⟨.ref pd, rfl, pd, _, _, _, rfl, rfl, SqL.of ed, g1, rfl, _, rfl, ite2 (fun _ => ?_) (fun _ => h3 _ p bs _ _ _ sm e hR)⟩
      refine ⟨.ref pd, rfl, pd, _, _, _, rfl, rfl, SqL.of ed, g0, _, _, rfl, rfl, _, rfl, by omega, by omega, fun D hD => ?_⟩
      have en : ((1 : Int) + (m : Int)).toNat = m + 1 := by omega
      rw [en]
      have hD0 := sm.free hD
      refine lc_range (lo := 0) (n := m + 1) (fun i H3 => ∃ bs' : List Bool, Same H1 H3 ∧ Same H H3 ∧ H3 D = some (.lst (tl bs')) ∧ bs'.length = i) ⟨[], same_upd hD, same_new hD0 sm, upd_same, rfl⟩ ?_ ?_
      · rintro i H3 hi ⟨bs', s13, sm3, eD, hl⟩
        rw [Int.zero_add]
        have b0 : 0 ≤ ((i : Int) + d2) % 2 := Int.emod_nonneg _ (by decide)
        have b1 : ((i : Int) + d2) % 2 < 2 := Int.emod_lt_of_pos _ (by decide)
        refine ⟨rfl, .int (i : Int), rfl, .ref pd, rfl, pd, _, _, _, rfl, rfl, SqL.of (s13 _ _ ed), g2, _, _, rfl, rfl, _, _, rfl, rfl, (show (0 : Int) < 2 by decide), ".o", _, _, rfl, rfl, (by decide), dot_o _ b0 b1, _, eD, ?_, bs' ++ [decide (((i : Int) + d2) % 2 = 1)], ?_, same_new hD0 sm3, ?_, ?_⟩
        · rw [tl_len]
          exact fit' (by omega)
        · intro b o e'
          rw [upd_ne (ne_of_none e' hD)]
          exact s13 _ _ e'
        · rw [upd_same]
          unfold tl
          rw [List.map_append, List.map_append]
          rfl
        · rw [List.length_append, hl]
          rfl
      · rintro H3 ⟨bs', s13, sm3, eD, hl⟩
        exact h3 _ D bs' _ _ _ sm3 eD ⟨by omega, by omega⟩
    refine ⟨_, pss_cons (ps_set (i := 2) nd rfl (.inr rfl) (pe_call G1 hr (by rfl) N1.g N1.F.kp N1.b .nil pass0 (pa_cons (pv 0) (pa_cons (pe_op op_cat (pe_lst (pa_cons (pv 1) (pa_cons pe_int pa_nil))) (pe_op op_rep (pe_lst (pa_cons pe_int pa_nil)) (pv 1))) pa_nil))))
      (pss_cons (ps_setLc (i := 3) (own := [("_law_draw", 4)]) (g := gName 4) (tt := tYes) (by rfl) nd rfl rfl (sw_true rfl rfl rfl (by decide +kernel)) (pi_list (pe_slice sl_list (pv 2) (po_some pe_int) (po_some (pe_op op_add pe_int (pe_ix ix_list (pv 2) pe_int (fun _ _ => rfl))))))
        (blkOk_by (own := [("_law_draw", 4)]) (N := ["_law_cell", "_law_most", "_law_draws", "_law_signs", "_law_draw", "_law_k"]) (sc := defScope sLRow) (by decide +kernel))
        (fun _ _ _ _ _ => pg_name (i := 4) nd rfl (Or.inl rfl)) (fun _ _ _ _ _ => pts_nil) (fun _ _ _ _ _ => pe_ix ix_str pe_str (pv 4) (fun _ _ => rfl)))
      (pss_cons (ps_if (pt_cmpR op_eq (pe_ix ix_list (pv 2) pe_int (fun _ _ => rfl)) pe_int (nomark _)) (pss_one (ps_set (i := 3) nd rfl (.inl rfl) (pe_callBK cr_sortTR (by rfl) T.sorted (by decide +kernel) (pa_cons (pv 3) pa_nil) (pk_cons pe_bl pk_nil)))) pss_nil) p2)), ?_⟩
    -- the sizes
    refine ⟨.int c, rfl, .int 30, rfl, (by show 2 ≤ sizeLine; decide), fun l1 n1 => ⟨(by show 1 ≤ sizeLine; decide), fun l2 n2 => ?_⟩⟩
    refine ⟨.int 30, rfl, l2, 30, [.int 2], rfl, rfl, upd_same, by decide, by decide, (by show 1 * 30 ≤ sizeLine; decide), fun l3 n3 => ?_⟩
    have m2 := (same_upd n1).free n2
    have nl12 : l1 ≠ l2 := fun e => by
      rw [← e, upd_same] at n2
      cases n2
    have s2 := same_new (o := .lst [.int 2]) m2 (same_upd (o := .lst [.int 30, .int 4]) n1)
    have m3 := s2.free n3
    have nl13 : l1 ≠ l3 := fun e => by
      rw [← e, upd_ne nl12, upd_same] at n3
      cases n3
    refine ⟨l1, l3, [.int 30, .int 4], _, rfl, rfl, ?_, upd_same, (by show 2 + 30 ≤ sizeLine; decide), fun l4 n4 => ?_⟩
    · rw [upd_ne nl13, upd_ne nl12, upd_same]
    have s3 := same_new (o := .lst (List.replicate (30 : Int).toNat [V.int 2]).flatten) m3 s2
    have m4 := s3.free n4
    refine ⟨c, l4, [30, 4] ++ List.replicate 30 2, rfl, SqL.of upd_same, sizes32, by decide, fun H1 p s4 np ep => ?_⟩
    have sH1 : Same H H1 := (same_new m4 s3).trans s4
    generalize hds : draws c 0 ([30, 4] ++ List.replicate 30 2) = ds at ep
    have hlen : ds.length = 32 := by
      rw [← hds, draws_len]
      rfl
    have hok : ∀ (i : Nat) (x z : Int), ds[i]? = some x → ([30, 4] ++ List.replicate 30 2 : List Int)[i]? = some z → 0 ≤ x ∧ x < z := by
      rw [← hds]
      exact draws_ok _ c 0 (fun z hz => (sizes32 z hz).1)
    obtain ⟨d0, e0⟩ : ∃ x, ds[0]? = some x := ⟨ds[0], List.getElem?_eq_getElem (by omega)⟩
    obtain ⟨d1, e1⟩ : ∃ x, ds[1]? = some x := ⟨ds[1], List.getElem?_eq_getElem (by omega)⟩
    obtain ⟨d2, e2⟩ : ∃ x, ds[2]? = some x := ⟨ds[2], List.getElem?_eq_getElem (by omega)⟩
    have b0 := hok 0 d0 30 e0 rfl
    obtain ⟨m, rfl⟩ : ∃ m : Nat, d0 = (m : Int) := ⟨d0.toNat, by omega⟩
    have hcs : ∀ x ∈ (ds.drop 2).take (m + 1), 0 ≤ x ∧ x < 2 := fun x hx => by
      obtain ⟨j, hj⟩ := List.getElem?_of_mem (List.mem_of_mem_take hx)
      rw [List.getElem?_drop] at hj
      have hj2 : 2 + j < ds.length := (List.getElem?_eq_some_iff.mp hj).1
      refine hok (2 + j) x 2 hj ?_
      rw [List.getElem?_append_right (by show 2 ≤ 2 + j; omega), List.getElem?_replicate]
      show (if 2 + j - 2 < 30 then some (2 : Int) else none) = some 2
      rw [if_pos (by omega)]
    have hcl : ((ds.drop 2).take (m + 1)).length = m + 1 := by
      rw [List.length_take, List.length_drop, hlen]
      omega
    generalize hcd : (ds.drop 2).take (m + 1) = xs at hcs hcl
    have ecut : cutV (ds.map V.int) (some 2) (some (3 + (m : Int))) = xs.map V.int := by
      unfold cutV
      rw [show (some (2 : Int)) = some ((2 : Nat) : Int) from rfl, show (3 + (m : Int)) = ((3 + m : Nat) : Int) by omega, HT.sIx_nat, HT.sIx_nat, List.length_map, hlen, ← hcd, List.map_take, List.map_drop]
      have i1 : min 2 32 = 2 := by omega
      have i2 : min (3 + m) 32 - 2 = m + 1 := by omega
      rw [i1, i2]
    have g0 : atI (ds.map V.int) 0 = some (.int (m : Int)) := atI_nat (j := 0) (by rw [List.getElem?_map, e0]; rfl)
    have g1 : atI (ds.map V.int) 1 = some (.int d1) := atI_nat (j := 1) (by rw [List.getElem?_map, e1]; rfl)
    refine ⟨.ref p, rfl, 2, rfl, .ref p, rfl, p, _, _, _, rfl, rfl, SqL.of ep, g0, _, _, rfl, rfl, _, rfl, p, _, rfl, SqL.of ep, fun l5 n5 => ?_⟩
    rw [ecut]
    have s5 := same_upd (o := .lst (xs.map V.int)) n5
    have e5 : upd H1 l5 (.lst (xs.map V.int)) l5 = some (.lst (xs.map V.int)) := upd_same
    generalize upd H1 l5 (.lst (xs.map V.int)) = J6 at *
    have sH6 : Same H J6 := sH1.trans s5
    refine ⟨l5, rfl, ⟨_, SqL.of e5⟩, fun D hD => ?_⟩
    have hD0 := sH6.free hD
    refine lc_list (K := K) (a := l5) (xs := xs.map V.int) (fun i H3 => ∃ bs' : List Bool, Same J6 H3 ∧ Same H H3 ∧ H3 D = some (.lst (tl bs')) ∧ bs'.length = i) ⟨[], same_upd hD, same_new hD0 sH6, upd_same, rfl⟩ (fun i H3 _ ⟨_, h, _⟩ => SqL.of (h _ _ e5)) ?_ ?_
    · rintro i x H3 hx ⟨bs', sm6, sm, eD, hl⟩
      rw [List.getElem?_map] at hx
      obtain ⟨u, hu, rfl⟩ := Option.map_eq_some_iff.mp hx
      have hb := hcs u (List.mem_of_getElem? hu)
      have hi : i < xs.length := (List.getElem?_eq_some_iff.mp hu).1
      refine ⟨rfl, .int u, rfl, ".o", u, _, rfl, rfl, (by decide), dot_o u hb.1 hb.2, _, eD, ?_, bs' ++ [decide (u = 1)], ?_, same_new hD0 sm, ?_, ?_⟩
      · rw [tl_len]
        exact fit' (by omega)
      · intro b o e'
        rw [upd_ne (ne_of_none e' hD)]
        exact sm6 _ _ e'
      · rw [upd_same]
        unfold tl
        rw [List.map_append, List.map_append]
        rfl
      · rw [List.length_append, hl]
        rfl
    · rintro H3 ⟨bs', sm6, sm, eD, hl⟩
      rw [List.length_map] at hl
      have hR' : Row bs' := ⟨by omega, by omega⟩
      have ep3 := (s5.trans sm6) _ _ ep
      refine ⟨.ref p, rfl, p, _, _, _, rfl, rfl, SqL.of ep3, g1, rfl, _, rfl, ite2 (fun _ => ?_) (fun _ => h2 _ D p bs' ds m d1 d2 _ _ sm eD hR' ep3 e0 (by omega) e1 e2)⟩
      refine ⟨.ref D, rfl, D, bs'.map fun b => tx [b], rfl, rfl, SqL.of eD, fun ys p9 pm n9 => ?_⟩
      obtain ⟨bs9, rfl⟩ := signs_rows ys fun y hy => by
        obtain ⟨b, _, e⟩ := List.mem_map.mp (pm.mem_iff.mp hy)
        exact ⟨b, e.symm⟩
      have hl9 : bs9.length = bs'.length := by
        have := pm.length_eq
        rwa [List.length_map, List.length_map] at this
      exact h2 _ p9 p bs9 ds m d1 d2 _ _ (same_new (sm.free n9) sm) upd_same ⟨by omega, by omega⟩ (same_upd n9 _ _ ep3) e0 (by omega) e1 e2
/-! ### _law_rise -/
def spLRise : Sp := fun vs H Q _ => ∃ c : Nat, vs = [.str (one c)] ∧ Q (.int (rise (decide (c = 111)))) H
theorem scLRise : FnScope ["_law_sign"] ["_law_sign"] (defScope sLRise) := ⟨rfl, rfl, rfl, by decide +kernel, rfl, by decide +kernel, by decide +kernel⟩
theorem eq_o (c : Nat) : decide (V.str (one c) = V.str "o") = decide (c = 111) := by
  rw [show ("o" : Str) = one 111 by decide +kernel]
  by_cases h : c = 111
  · rw [h, decide_eq_true rfl, decide_eq_true rfl]
  · rw [decide_eq_false h, decide_eq_false fun z => h (one_inj (V.str.inj z))]
theorem ok_lrise {f : Addr} {fd : FuncData} {k : Nat} (F : Fun K "_law_rise" "_law_rise" sLRise f fd) (T : Txt K w mg d es n) : FnOk P w K mg base CX0 (k + 1) f fd ["_law_sign"] spLRise := by
  refine F.ok scLRise (fun vs H Q E h => ?_) (fun cdv A outer s H vs Q E hr h => ?_)
  · obtain ⟨c, rfl, _⟩ := h
    rfl
  · obtain ⟨c, rfl, q⟩ := h
    refine ⟨_, pss_one (ps_ret (pe_op op_sub (pe_op op_mul pe_int (pe_callTy call_int1 (by rfl) T.int (by decide +kernel) (pa_cons (pe_cmpR op_eq (pv 0) pe_str (nomark _)) pa_nil))) pe_int)), ?_⟩
    refine ⟨.str (one c), rfl, rfl, .inr ⟨_, rfl, ?_⟩⟩
    rw [eq_o]
    refine ⟨_, _, rfl, rfl, .inl ⟨by decide, by decide⟩, _, _, rfl, rfl, ?_⟩
    have e : 2 * (if decide (c = 111) = true then (1 : Int) else 0) - 1 = rise (decide (c = 111)) := by
      cases decide (c = 111) <;> rfl
    dsimp only
    rw [e]
    exact q
end
end Hop

set_option Elab.async false
set_option linter.all false
set_option maxRecDepth 100000
namespace HopR
open PySem L2
/-! ### how many ways lead on from each height -/
def geti (L : List Int) (i : Int) : Int := if 0 ≤ i ∧ i < (L.length : Int) then L.getD i.toNat 0 else 0
def own (b : Bool) (L : List Int) : List Int := (List.range L.length).map fun h : Nat => geti L ((h : Int) + (rise b - 1)) + geti L ((h : Int) + (rise b + 1))
def tab (L0 : List Int) : List Bool → List (List Int)
  | [] => [L0]
  | b :: bs => own b ((tab L0 bs).headD []) :: tab L0 bs
theorem own_len (b : Bool) (L : List Int) : (own b L).length = L.length := by
  unfold own
  rw [List.length_map, List.length_range]
theorem own_at {b : Bool} {L : List Int} {h : Nat} (hh : h < L.length) : geti (own b L) (h : Int) = geti L ((h : Int) + (rise b - 1)) + geti L ((h : Int) + (rise b + 1)) := by
  conv => lhs; unfold geti
  rw [if_pos ⟨by omega, by rw [own_len]; omega⟩]
  unfold own
  rw [Int.toNat_natCast, List.getD_eq_getElem?_getD, List.getElem?_map, List.getElem?_range hh]
  rfl
/-- the table from the row's beginning on -/
def hd (L0 : List Int) (bs : List Bool) : List Int := (tab L0 bs).headD []
theorem tab_hd (L0 : List Int) (bs : List Bool) : ∃ r, tab L0 bs = hd L0 bs :: r := by
  cases bs with
  | nil => exact ⟨[], rfl⟩
  | cons b r => exact ⟨tab L0 r, rfl⟩
theorem hd_cons (L0 : List Int) (b : Bool) (bs : List Bool) : hd L0 (b :: bs) = own b (hd L0 bs) := rfl
theorem hd_len (L0 : List Int) : ∀ bs : List Bool, (hd L0 bs).length = L0.length
  | [] => rfl
  | b :: r => by rw [hd_cons, own_len, hd_len L0 r]
theorem tab_len (L0 : List Int) : ∀ bs : List Bool, (tab L0 bs).length = bs.length + 1
  | [] => rfl
  | b :: r => by
    show (tab L0 r).length + 1 = r.length + 1 + 1
    rw [tab_len L0 r]
theorem tab_at (L0 : List Int) : ∀ (bs : List Bool) (k : Nat), k ≤ bs.length → (tab L0 bs)[k]? = some (hd L0 (bs.drop k))
  | bs, 0, _ => by
    obtain ⟨r, e⟩ := tab_hd L0 bs
    rw [e]
    rfl
  | [], k + 1, h => by simp at h
  | b :: r, k + 1, h => by
    show (tab L0 r)[k]? = some (hd L0 (r.drop k))
    exact tab_at L0 r k (by simpa using h)
theorem geti_nn {L : List Int} (h : ∀ x ∈ L, 0 ≤ x) (i : Int) : 0 ≤ geti L i := by
  unfold geti
  split
  · rw [List.getD_eq_getElem?_getD]
    cases e : L[i.toNat]? with
    | none => exact Int.le_refl _
    | some x => exact h x (List.mem_of_getElem? e)
  · exact Int.le_refl _
theorem own_nn {b : Bool} {L : List Int} (h : ∀ x ∈ L, 0 ≤ x) : ∀ x ∈ own b L, 0 ≤ x := by
  intro x hx
  obtain ⟨i, _, rfl⟩ := List.mem_map.mp hx
  have h1 := geti_nn h ((i : Int) + (rise b - 1))
  have h2 := geti_nn h ((i : Int) + (rise b + 1))
  omega
theorem hd_nn {L0 : List Int} (h : ∀ x ∈ L0, 0 ≤ x) : ∀ bs : List Bool, ∀ x ∈ hd L0 bs, 0 ≤ x
  | [] => h
  | b :: r => by
    rw [hd_cons]
    exact own_nn (hd_nn h r)
/-- something always leads on from height 0 -/
theorem hd_zero {L0 : List Int} (h : ∀ x ∈ L0, 0 ≤ x) (h0 : 0 < geti L0 0) (hl : 0 < L0.length) : ∀ bs : List Bool, 0 < geti (hd L0 bs) 0
  | [] => h0
  | b :: r => by
    have ih := hd_zero h h0 hl r
    have e := own_at (b := b) (L := hd L0 r) (h := 0) (by rw [hd_len]; exact hl)
    rw [hd_cons]
    have e' : geti (own b (hd L0 r)) 0 = geti (own b (hd L0 r)) ((0 : Nat) : Int) := rfl
    rw [e', e]
    have n1 := geti_nn (hd_nn h r) (((0 : Nat) : Int) + (rise b - 1))
    have n2 := geti_nn (hd_nn h r) (((0 : Nat) : Int) + (rise b + 1))
    cases b with
    | true =>
      have : (((0 : Nat) : Int) + (rise true - 1)) = 0 := rfl
      rw [this] at n1 ⊢
      omega
    | false =>
      have : (((0 : Nat) : Int) + (rise false + 1)) = 0 := rfl
      rw [this] at n2 ⊢
      omega
theorem geti_at {L : List Int} {j : Nat} (h : j < L.length) : atI (L.map V.int) (j : Int) = some (.int (geti L (j : Int))) := atI_nat (by
  unfold geti
  rw [if_pos ⟨by omega, by omega⟩, List.getElem?_map, List.getD_eq_getElem?_getD, Int.toNat_natCast, List.getElem?_eq_getElem h]
  rfl)
/-! ### lists of lists -/
def Lsts (H : Hp) (o : Addr) : List (List Int) → List V → Prop
  | [], vs => vs = []
  | L :: r, vs => ∃ p vr, vs = .ref p :: vr ∧ p ≠ o ∧ H p = some (.lst (L.map V.int)) ∧ Lsts H o r vr
theorem lsts_same {H H' : Hp} {o : Addr} (s : Same H H') : ∀ {Ls : List (List Int)} {vs : List V}, Lsts H o Ls vs → Lsts H' o Ls vs
  | [], _, h => h
  | L :: r, _, ⟨p, vr, e, n, h1, h2⟩ => ⟨p, vr, e, n, s _ _ h1, lsts_same s h2⟩
theorem lsts_upd {H : Hp} {o : Addr} {x : HO} : ∀ {Ls : List (List Int)} {vs : List V}, Lsts H o Ls vs → Lsts (upd H o x) o Ls vs
  | [], _, h => h
  | L :: r, _, ⟨p, vr, e, n, h1, h2⟩ => ⟨p, vr, e, n, by rw [upd_ne n]; exact h1, lsts_upd h2⟩
theorem lsts_len {H : Hp} {o : Addr} : ∀ {Ls : List (List Int)} {vs : List V}, Lsts H o Ls vs → vs.length = Ls.length
  | [], _, h => by
    cases h
    rfl
  | L :: r, _, ⟨p, vr, e, _, _, h2⟩ => by rw [e, List.length_cons, List.length_cons, lsts_len h2]
theorem lsts_at {H : Hp} {o : Addr} : ∀ {Ls : List (List Int)} {vs : List V} {k : Nat} {L : List Int}, Lsts H o Ls vs → Ls[k]? = some L → ∃ p, vs[k]? = some (.ref p) ∧ H p = some (.lst (L.map V.int))
  | [], _, k, L, h, e => by simp at e
  | M :: r, _, 0, L, ⟨p, vr, ev, _, h1, h2⟩, e => by
    have : M = L := Option.some.inj e
    subst this
    exact ⟨p, by rw [ev]; rfl, h1⟩
  | M :: r, _, k + 1, L, ⟨p, vr, ev, _, h1, h2⟩, e => by
    obtain ⟨p', e1, e2⟩ := lsts_at (k := k) h2 e
    exact ⟨p', by rw [ev]; exact e1, e2⟩
end HopR

set_option Elab.async false
set_option linter.all false
set_option maxRecDepth 100000
namespace Hop
open PySem L2 HopR
section
variable {P : Program} {w : World} {K : PySem.W.Frag} {mg : Str → Option Value} {base : Heap} {d : Addr} {es : Array DictEntry} {n : Nat}
def lz (m : Nat) : List Int := 1 :: List.replicate (2 * m + 3) 0
theorem lz_len (m : Nat) : (lz m).length = 2 * m + 4 := by
  unfold lz
  rw [List.length_cons, List.length_replicate]
/-! ### _law_behind -/
def spLBehind : Sp := fun vs H Q _ => ∃ bs, vs = [.str (tx bs)] ∧ Row bs ∧ ∀ H' o ws, Same H H' → H o = none → H' o = some (.lst ws) → Lsts H' o (tab (lz bs.length) bs) ws → Q (.ref o) H'
theorem scLBehind : FnScope ["_law_row_here", "_law_found", "_law_sign", "_law_last", "_law_own", "_law_height", "_law_many", "_law_step"] ["_law_row_here"] (defScope sLBehind) := ⟨rfl, rfl, rfl, by decide +kernel, rfl, by decide +kernel, by decide +kernel⟩
theorem cd_o (b : Bool) : decide (cd b = 111) = b := by cases b <;> rfl
theorem ok_lbehind {f f1 : Addr} {fd fd1 : FuncData} {k : Nat} (F : Fun K "_law_behind" "_law_behind" sLBehind f fd) (N1 : Fn K mg "_law_rise" sLRise ["_law_sign"] f1 fd1) (T : Txt K w mg d es n) : FnOk P w K mg base CX0 (k + 2) f fd ["_law_row_here"] spLBehind := by
  have G1 : FnOk P w K mg base CX0 (k + 1) f1 fd1 ["_law_sign"] spLRise := ok_lrise N1.F T
  refine F.ok scLBehind (fun vs H Q E h => ?_) (fun cdv A outer s H vs Q E hr h => ?_)
  · obtain ⟨bs, rfl, _⟩ := h
    rfl
  · obtain ⟨bs, rfl, hR, q⟩ := h
    have nd := scLBehind.nd
    have h30 := hR.2
    have hz := row_size hR
    refine ⟨_, pss_cons (ps_set (i := 1) nd rfl (.inl rfl) (pe_lst (pa_cons (pe_op op_cat (pe_lst (pa_cons pe_int pa_nil)) (pe_op op_rep (pe_lst (pa_cons pe_int pa_nil)) (pe_op op_add (pe_op op_mul pe_int (pe_callB call_len_str (by rfl) T.len PySem.boot_len (pa_cons (pv 0) pa_nil))) pe_int))) pa_nil)))
      (pss_cons (ps_for PassesOwn.never rfl (pi_str (pe_revS (pv 0))) (pg_name (i := 2) nd rfl (.inl rfl))
        (pss_cons (ps_set (i := 3) nd rfl (.inl rfl) (pe_ix ix_list (pv 1) pe_int (fun _ _ => rfl)))
        (pss_cons (ps_set (i := 4) nd rfl (.inl rfl) (pe_lst pa_nil))
        (pss_cons (ps_for PassesOwn.never rfl (pi_range1 (by rfl) T.range (pa_cons (pe_callB call_len_seq (by rfl) T.len PySem.boot_len (pa_cons (pv 3) pa_nil)) pa_nil)) (pg_name (i := 5) nd rfl (.inl rfl))
          (pss_cons (ps_set (i := 6) nd rfl (.inl rfl) pe_int)
          (pss_cons (ps_for PassesOwn.never rfl (pi_list (pe_lst (pa_cons (pe_op op_sub (pe_call G1 hr (by rfl) N1.g N1.F.kp N1.b .nil pass0 (pa_cons (pv 2) pa_nil)) pe_int) (pa_cons (pe_op op_add (pe_call G1 hr (by rfl) N1.g N1.F.kp N1.b .nil pass0 (pa_cons (pv 2) pa_nil)) pe_int) pa_nil)))) (pg_name (i := 7) nd rfl (.inl rfl))
            (pss_one (ps_if (pt_chain op_le op_lt pe_int (pe_op op_add (pv 5) (pv 7)) (pe_callB call_len_seq (by rfl) T.len PySem.boot_len (pa_cons (pv 3) pa_nil))) (pss_one (ps_set (i := 6) nd rfl (.inl rfl) (pe_op op_add (pv 6) (pe_ix ix_list (pv 3) (pe_op op_add (pv 5) (pv 7)) (fun _ _ => rfl))))) pss_nil)))
          (pss_one (ps_expr (pe_bm PySem.F.plainAttrs_list PySem.F.slot_list_append PySem.F.type_list_append mt_append (pv 4) (pa_cons (pv 6) pa_nil)))))))
        (pss_one (ps_expr (pe_bm PySem.F.plainAttrs_list PySem.F.slot_list_insert PySem.F.type_list_insert mt_insert (pv 1) (pa_cons pe_int (pa_cons (pv 4) pa_nil)))))))))
      (pss_one (ps_ret (pv 1)))), ?_⟩
    refine ⟨(by show 1 ≤ sizeLine; decide), fun l1 n1 => ⟨(by show 1 ≤ sizeLine; decide), fun l2 n2 => ?_⟩⟩
    refine ⟨.str (tx bs), rfl, tx bs, rfl, hz, _, _, rfl, rfl, .inl ⟨by decide, by decide⟩, _, _, rfl, rfl, l2, _, [.int 0], rfl, rfl, upd_same, ?_, ?_, ?_, fun l3 n3 => ?_⟩
    · show -(2 ^ 63) ≤ 2 * ((tx bs).length : Int) + 3
      omega
    · show 2 * ((tx bs).length : Int) + 3 < 2 ^ 63
      rw [tx_len]
      omega
    · show 1 * (2 * ((tx bs).length : Int) + 3).toNat ≤ sizeLine
      rw [tx_len]
      exact fit (by omega)
    rw [flat_rep]
    have en : (2 * ((tx bs).length : Int) + 3).toNat = 2 * bs.length + 3 := by
      rw [tx_len]
      omega
    rw [en]
    have m2 := (same_upd n1).free n2
    have nl12 : l1 ≠ l2 := fun e => by
      rw [← e, upd_same] at n2
      cases n2
    have s2 := same_new (o := .lst [.int 0]) m2 (same_upd (o := .lst [.int 1]) n1)
    have m3 := s2.free n3
    have nl13 : l1 ≠ l3 := fun e => by
      rw [← e, upd_ne nl12, upd_same] at n3
      cases n3
    refine ⟨l1, l3, [.int 1], _, rfl, rfl, ?_, upd_same, ?_, fun l4 n4 => ?_⟩
    · rw [upd_ne nl13, upd_ne nl12, upd_same]
    · rw [List.length_replicate]
      exact fit (by show 1 + (2 * bs.length + 3) ≤ 10000; omega)
    have s3 := same_new (o := .lst (List.replicate (2 * bs.length + 3) (V.int 0))) m3 s2
    have m4 := s3.free n4
    have el : [V.int 1] ++ List.replicate (2 * bs.length + 3) (V.int 0) = (lz bs.length).map V.int := by
      unfold lz
      rw [List.map_cons, List.map_replicate]
      rfl
    rw [el]
    have s4 := same_new (o := .lst ((lz bs.length).map V.int)) m4 s3
    refine ⟨(by show 1 ≤ sizeLine; decide), fun o no => ?_⟩
    have mo := s4.free no
    have no4 : l4 ≠ o := fun e => by
      rw [← e, upd_same] at no
      cases no
    have s5 := same_new (o := .lst [.ref l4]) mo s4
    have e5 : Lsts (upd (upd (upd (upd (upd H l1 (.lst [.int 1])) l2 (.lst [.int 0])) l3 (.lst (List.replicate (2 * bs.length + 3) (V.int 0)))) l4 (.lst ((lz bs.length).map V.int))) o (.lst [.ref l4])) o (tab (lz bs.length) []) [.ref l4] := ⟨l4, [], rfl, no4, by rw [upd_ne no4, upd_same], rfl⟩
    have eo : upd (upd (upd (upd (upd H l1 (.lst [.int 1])) l2 (.lst [.int 0])) l3 (.lst (List.replicate (2 * bs.length + 3) (V.int 0)))) l4 (.lst ((lz bs.length).map V.int))) o (.lst [.ref l4]) o = some (.lst [.ref l4]) := upd_same
    generalize upd (upd (upd (upd (upd H l1 (.lst [.int 1])) l2 (.lst [.int 0])) l3 (.lst (List.replicate (2 * bs.length + 3) (V.int 0)))) l4 (.lst ((lz bs.length).map V.int))) o (.lst [.ref l4]) = H5 at *
    refine ⟨.str (tx bs), rfl, tx bs, rfl, hz, _, rfl, ?_⟩
    rw [tx_rev]
    refine for_tx (bs := bs.reverse) (fun i σ H6 => ∃ y2 y3 y4 y5 y6 y7 ws, σ = [some (.str (tx bs)), some (.ref o), y2, y3, y4, y5, y6, y7] ∧ Same H H6 ∧ H6 o = some (.lst ws) ∧ Lsts H6 o (tab (lz bs.length) (bs.drop (bs.length - i))) ws) ⟨_, _, _, _, _, _, _, rfl, s5, eo, by rw [Nat.sub_zero, List.drop_length]; exact e5⟩ ?_ ?_
    · rintro i b σ H6 hb ⟨y2, y3, y4, y5, y6, y7, ws, rfl, s6, eo6, ls⟩
      have hi : i < bs.length := by
        have := (List.getElem?_eq_some_iff.mp hb).1
        rwa [List.length_reverse] at this
      rw [List.getElem?_reverse hi] at hb
      have hdr : bs.drop (bs.length - (i + 1)) = b :: bs.drop (bs.length - i) := by
        have hj : bs.length - 1 - i < bs.length := by omega
        rw [List.getElem?_eq_getElem hj] at hb
        have hb := Option.some.inj hb
        rw [show bs.length - (i + 1) = bs.length - 1 - i by omega, List.drop_eq_getElem_cons hj, hb, show bs.length - 1 - i + 1 = bs.length - i by omega]
      generalize hsf : bs.drop (bs.length - i) = sf at *
      have hsl : sf.length = i := by
        rw [← hsf, List.length_drop]
        omega
      have h0 := tab_at (lz bs.length) sf 0 (Nat.zero_le _)
      rw [List.drop_zero] at h0
      obtain ⟨pL, e1, eL⟩ := lsts_at ls h0
      have gL : atI ws 0 = some (.ref pL) := atI_nat (j := 0) e1
      generalize hLd : hd (lz bs.length) sf = L at *
      have hLl : L.length = 2 * bs.length + 4 := by
        rw [← hLd, hd_len, lz_len]
      refine ⟨.ref o, rfl, o, _, _, _, rfl, rfl, SqL.of eo6, gL, Nat.zero_le _, fun qo nq => ?_⟩
      have mq := s6.free nq
      have nqo : o ≠ qo := ne_of_none eo6 nq
      have s7 := same_upd (o := .lst []) nq
      refine ⟨.ref pL, rfl, pL, _, rfl, .inl (SqL.of (s7 _ _ eL)), ((L.map V.int).length : Int), rfl, by omega, by rw [List.length_map]; omega, ?_⟩
      have en2 : (((L.map V.int).length : Int)).toNat = L.length := by
        rw [List.length_map]
        omega
      rw [en2]
      refine for_range (lo := 0) (n := L.length) (fun j σ H7 => ∃ y5 y6 y7, σ = [some (.str (tx bs)), some (.ref o), some (.str (tx [b])), some (.ref pL), some (.ref qo), y5, y6, y7] ∧ Same H6 H7 ∧ H7 qo = some (.lst (((own b L).take j).map V.int))) ⟨_, _, _, rfl, s7, upd_same⟩ ?_ ?_
      · rintro j σ H7 hj ⟨y5, y6, y7, rfl, s67, eq7⟩
        rw [Int.zero_add]
        have eL7 := s67 _ _ eL
        -- the two steps
        refine ⟨.str (tx [b]), rfl, cd b, rfl, _, _, rfl, rfl, .str (tx [b]), rfl, cd b, rfl, _, _, rfl, rfl, (by show 2 ≤ sizeLine; decide), fun ps nps => ?_⟩
        rw [cd_o]
        have s78 := same_upd (o := .lst [.int (rise b - 1), .int (rise b + 1)]) nps
        have e8 : upd H7 ps (.lst [.int (rise b - 1), .int (rise b + 1)]) ps = some (.lst [.int (rise b - 1), .int (rise b + 1)]) := upd_same
        refine ⟨ps, rfl, ⟨_, SqL.of e8⟩, ?_⟩
        refine for_list (K := K) (a := ps) (xs := [.int (rise b - 1), .int (rise b + 1)]) (fun k σ H9 => ∃ (y7 : Option V) (t : Int), σ = [some (.str (tx bs)), some (.ref o), some (.str (tx [b])), some (.ref pL), some (.ref qo), some (.int (j : Int)), some (.int t), y7] ∧ t = (([rise b - 1, rise b + 1].take k).map fun st => geti L ((j : Int) + st)).sum ∧ H9 = upd H7 ps (.lst [.int (rise b - 1), .int (rise b + 1)])) ⟨_, 0, rfl, rfl, rfl⟩ (fun k σ H9 _ ⟨_, _, _, _, e⟩ => by rw [e]; exact SqL.of e8) ?_ ?_
        · rintro k x σ H9 hx ⟨y7, t, rfl, et, rfl⟩
          obtain ⟨st, hst, rfl⟩ : ∃ st, [rise b - 1, rise b + 1][k]? = some st ∧ x = .int st := by
            rw [show [V.int (rise b - 1), .int (rise b + 1)] = [rise b - 1, rise b + 1].map V.int from rfl, List.getElem?_map] at hx
            obtain ⟨st, h1, h2⟩ := Option.map_eq_some_iff.mp hx
            exact ⟨st, h1, h2.symm⟩
          have esum : (([rise b - 1, rise b + 1].take (k + 1)).map fun st => geti L ((j : Int) + st)).sum = (([rise b - 1, rise b + 1].take k).map fun st => geti L ((j : Int) + st)).sum + geti L ((j : Int) + st) := by
            rw [List.take_add_one, hst, List.map_append, List.sum_append]
            simp
          have eL8 := s78 _ _ eL7
          refine ⟨.int (j : Int), rfl, .int st, rfl, _, _, rfl, rfl, _, _, rfl, rfl, _, rfl, ?_⟩
          by_cases hp : 0 ≤ (j : Int) + st
          · rw [decide_eq_true hp]
            refine iteT ⟨.ref pL, rfl, pL, _, rfl, .inl (SqL.of eL8), _, _, rfl, rfl, _, rfl, ?_⟩
            by_cases hq : (j : Int) + st < (L.length : Int)
            · rw [decide_eq_true (by rw [List.length_map]; exact hq)]
              obtain ⟨i2, hi2⟩ : ∃ i2 : Nat, (j : Int) + st = (i2 : Int) := ⟨((j : Int) + st).toNat, by omega⟩
              refine iteT ⟨_, rfl, .ref pL, rfl, .int (j : Int), rfl, .int st, rfl, _, _, rfl, rfl, pL, _, _, .int (geti L ((j : Int) + st)), rfl, rfl, SqL.of eL8, ?_, _, _, rfl, rfl, ?_⟩
              · rw [hi2]
                exact geti_at (by omega)
              · exact ⟨_, _, rfl, by rw [esum, et], rfl⟩
            · rw [decide_eq_false (by rw [List.length_map]; exact hq)]
              refine iteF ⟨_, _, rfl, ?_, rfl⟩
              rw [esum, show geti L ((j : Int) + st) = 0 by unfold geti; rw [if_neg (fun z => hq z.2)], Int.add_zero]
              exact et
          · rw [decide_eq_false hp]
            refine iteF ⟨_, rfl, ?_⟩
            refine iteF ⟨_, _, rfl, ?_, rfl⟩
            rw [esum, show geti L ((j : Int) + st) = 0 by unfold geti; rw [if_neg (fun z => hp z.1)], Int.add_zero]
            exact et
        · rintro σ H9 ⟨y7, t, rfl, et, rfl⟩
          have et : t = geti L ((j : Int) + (rise b - 1)) + geti L ((j : Int) + (rise b + 1)) := by
            rw [et]
            show geti L ((j : Int) + (rise b - 1)) + (geti L ((j : Int) + (rise b + 1)) + 0) = _
            omega
          subst et
          have eq8 := s78 _ _ eq7
          refine ⟨.ref qo, rfl, .inl ⟨rfl, _, SqL.of eq8⟩, _, rfl, qo, _, _, rfl, rfl, eq8, ?_, _, _, _, rfl, ?_, ?_⟩
          · rw [List.length_map, List.length_take, own_len]
            exact fit' (by omega)
          · exact same_new nq (s67.trans s78)
          · rw [upd_same, List.take_add_one]
            have eo1 : (own b L)[j]? = some (geti L ((j : Int) + (rise b - 1)) + geti L ((j : Int) + (rise b + 1))) := by
              unfold own
              rw [List.getElem?_map, List.getElem?_range hj]
              rfl
            rw [eo1, List.map_append]
            rfl
      · rintro σ H7 ⟨y5, y6, y7, rfl, s67, eq7⟩
        rw [← own_len b L, List.take_length] at eq7
        have eo7 := s67 _ _ eo6
        refine ⟨.ref o, rfl, .inl ⟨rfl, _, SqL.of eo7⟩, .ref qo, rfl, o, ws, 0, .ref qo, rfl, rfl, eo7, ?_, by decide, by decide, ?_⟩
        · rw [lsts_len ls, tab_len]
          exact fit' (by omega)
        · refine ⟨_, _, _, _, _, _, .ref qo :: ws, rfl, same_new mo (s6.trans s67), upd_same, ?_⟩
          rw [hdr]
          show Lsts _ o (own b (hd (lz bs.length) sf) :: tab (lz bs.length) sf) (.ref qo :: ws)
          rw [hLd]
          exact ⟨qo, ws, rfl, Ne.symm nqo, by rw [upd_ne (Ne.symm nqo)]; exact eq7, lsts_upd (lsts_same s67 ls)⟩
    · rintro σ H6 ⟨y2, y3, y4, y5, y6, y7, ws, rfl, s6, eo6, ls⟩
      rw [List.length_reverse, Nat.sub_self, List.drop_zero] at ls
      exact ⟨.ref o, rfl, q H6 o ws s6 mo eo6 ls⟩
end
end Hop

set_option Elab.async false
set_option linter.all false
set_option maxRecDepth 100000
namespace HopR
open PySem L2
/-! ### lists of new tuples -/
def TupG {α : Type} (H : Hp) (f : α → List V) : List α → List V → Prop
  | [], vs => vs = []
  | a :: r, vs => ∃ p vr, vs = .ref p :: vr ∧ H p = some (.tup (f a)) ∧ TupG H f r vr
section
variable {α : Type} {H H' : Hp} {f : α → List V}
theorem tupG_same (s : Same H H') : ∀ {as : List α} {vs : List V}, TupG H f as vs → TupG H' f as vs
  | [], _, h => h
  | _ :: _, _, ⟨p, vr, e, h1, h2⟩ => ⟨p, vr, e, s _ _ h1, tupG_same s h2⟩
theorem tupG_upd {D : Addr} {xs : List V} {o : HO} (hD : H D = some (.lst xs)) : ∀ {as : List α} {vs : List V}, TupG H f as vs → TupG (upd H D o) f as vs
  | [], _, h => h
  | _ :: _, _, ⟨p, vr, e, h1, h2⟩ => ⟨p, vr, e, by
      rw [upd_ne (fun z => by rw [z, hD] at h1; cases h1)]
      exact h1, tupG_upd hD h2⟩
theorem tupG_add {a : α} {p : Addr} (h1 : H p = some (.tup (f a))) : ∀ {as : List α} {vs : List V}, TupG H f as vs → TupG H f (as ++ [a]) (vs ++ [.ref p])
  | [], _, h => by
    cases h
    exact ⟨p, [], rfl, h1, rfl⟩
  | _ :: _, _, ⟨p', vr, e, h2, h3⟩ => ⟨p', vr ++ [.ref p], by rw [e]; rfl, h2, tupG_add h1 h3⟩
theorem tupG_len : ∀ {as : List α} {vs : List V}, TupG H f as vs → vs.length = as.length
  | [], _, h => by
    cases h
    rfl
  | _ :: _, _, ⟨_, vr, e, _, h2⟩ => by rw [e, List.length_cons, List.length_cons, tupG_len h2]
theorem tupG_at : ∀ {as : List α} {vs : List V} {k : Nat} {a : α}, TupG H f as vs → as[k]? = some a → ∃ p, vs[k]? = some (.ref p) ∧ H p = some (.tup (f a))
  | [], _, k, a, h, e => by simp at e
  | b :: r, _, 0, a, ⟨p, vr, ev, h1, h2⟩, e => by
    have : b = a := Option.some.inj e
    subst this
    exact ⟨p, by rw [ev]; rfl, h1⟩
  | b :: r, _, k + 1, a, ⟨p, vr, ev, h1, h2⟩, e => by
    obtain ⟨p', e1, e2⟩ := tupG_at (k := k) h2 e
    exact ⟨p', by rw [ev]; exact e1, e2⟩
end
/-! ### from height to height -/
theorem geti_pos {L : List Int} {i : Int} (h : 0 < geti L i) : 0 ≤ i ∧ i < (L.length : Int) := by
  unfold geti at h
  split at h
  · assumption
  · omega
/-- the sign l leads on from height h -/
def leads (L : List Int) (h : Int) (u l : Bool) : Bool := decide (0 ≤ h + rise u + rise l) && decide (0 < geti L (h + rise u + rise l))
theorem some_leads {L : List Int} {h : Nat} {u : Bool} (hh : h < L.length) (hp : 0 < geti (own u L) (h : Int)) : ∃ l, leads L (h : Int) u l = true := by
  rw [own_at hh] at hp
  by_cases h1 : 0 < geti L ((h : Int) + (rise u - 1))
  · refine ⟨false, ?_⟩
    have e : (h : Int) + rise u + rise false = (h : Int) + (rise u - 1) := by
      show (h : Int) + rise u + (-1) = _
      omega
    unfold leads
    rw [e, decide_eq_true (geti_pos h1).1, decide_eq_true h1]
    rfl
  · have h2 : 0 < geti L ((h : Int) + (rise u + 1)) := by omega
    refine ⟨true, ?_⟩
    have e : (h : Int) + rise u + rise true = (h : Int) + (rise u + 1) := by
      show (h : Int) + rise u + 1 = _
      omega
    unfold leads
    rw [e, decide_eq_true (geti_pos h2).1, decide_eq_true h2]
    rfl
end HopR

set_option Elab.async false
set_option linter.all false
set_option maxRecDepth 100000
namespace Hop
open PySem L2 HopR
section
variable {P : Program} {w : World} {K : PySem.W.Frag} {mg : Str → Option Value} {base : Heap} {d : Addr} {es : Array DictEntry} {n : Nat}
theorem lz_nn (m : Nat) : ∀ x ∈ lz m, (0 : Int) ≤ x := by
  intro x hx
  unfold lz at hx
  rcases List.mem_cons.mp hx with rfl | h
  · decide
  · rw [(List.mem_replicate.mp h).2]
    decide
theorem lz_zero (m : Nat) : 0 < geti (lz m) 0 := by
  unfold geti
  rw [if_pos ⟨by decide, by rw [lz_len]; omega⟩]
  show (0 : Int) < 1
  decide
theorem lz_only {m : Nat} {h : Nat} (hp : 0 < geti (lz m) (h : Int)) : h = 0 := by
  match h, hp with
  | 0, _ => rfl
  | k + 1, hp =>
    exfalso
    have hb := (geti_pos hp).2
    rw [lz_len] at hb
    unfold geti at hp
    rw [if_pos ⟨by omega, by rw [lz_len]; omega⟩, Int.toNat_natCast] at hp
    unfold lz at hp
    rw [List.getD_cons_succ, List.getD_eq_getElem?_getD, List.getElem?_replicate, if_pos (by omega)] at hp
    exact absurd hp (by show ¬ (0 : Int) < 0; decide)
/-! ### _law_one_beneath -/
def spOne : Sp := fun vs H Q _ => ∃ (c : Int) (bs : List Bool), vs = [.int c, .str (tx bs)] ∧ Row bs ∧ ∀ H' ls, Same H H' → ls.length = bs.length → bn 0 bs ls = true → Q (.str (tx ls)) H'
theorem scOne : FnScope ["_law_cell", "_law_row_here", "_law_behind_here", "_law_draws", "_law_height", "_law_found", "_law_k", "_law_some", "_law_sign", "_law_after"] ["_law_cell", "_law_row_here"] (defScope sLOne) := ⟨rfl, rfl, rfl, by decide +kernel, rfl, by decide +kernel, by decide +kernel⟩
theorem ok_one {f f1 f2 f3 : Addr} {fd fd1 fd2 fd3 : FuncData} {k : Nat} (F : Fun K "_law_one_beneath" "_law_one_beneath" sLOne f fd) (N1 : Fn K mg "_law_drawn" sDrawn ["_law_cell", "_law_sizes"] f1 fd1) (N2 : Fn K mg "_law_rise" sLRise ["_law_sign"] f2 fd2) (N3 : Fn K mg "_law_behind" sLBehind ["_law_row_here"] f3 fd3) (T : Txt K w mg d es n) :
    FnOk P w K mg base CX0 (k + 3) f fd ["_law_cell", "_law_row_here"] spOne := by
  have G1 : FnOk P w K mg base CX0 (k + 2) f1 fd1 ["_law_cell", "_law_sizes"] (spDrawn K) := ok_drawn N1.F T.len T.range
  have G2 : FnOk P w K mg base CX0 (k + 2) f2 fd2 ["_law_sign"] spLRise := ok_lrise N2.F T
  have G3 : FnOk P w K mg base CX0 (k + 2) f3 fd3 ["_law_row_here"] spLBehind := ok_lbehind N3.F N2 T
  refine F.ok scOne (fun vs H Q E h => ?_) (fun cdv A outer s H vs Q E hr h => ?_)
  · obtain ⟨c, bs, rfl, _⟩ := h
    rfl
  · obtain ⟨c, bs, rfl, hR, q⟩ := h
    have nd := scOne.nd
    have h30 := hR.2
    have hz := row_size hR
    refine ⟨_, pss_cons (ps_set (i := 2) nd rfl (.inl rfl) (pe_call G3 hr (by rfl) N3.g N3.F.kp N3.b .nil pass0 (pa_cons (pv 1) pa_nil)))
      (pss_cons (ps_set (i := 3) nd rfl (.inl rfl) (pe_call G1 hr (by rfl) N1.g N1.F.kp N1.b .nil pass0 (pa_cons (pv 0) (pa_cons (pe_op op_rep (pe_lst (pa_cons pe_int pa_nil)) (pe_callB call_len_str (by rfl) T.len PySem.boot_len (pa_cons (pv 1) pa_nil))) pa_nil))))
      (pss_cons (ps_set (i := 4) nd rfl (.inl rfl) pe_int)
      (pss_cons (ps_set (i := 5) nd rfl (.inl rfl) pe_str)
      (pss_cons (ps_for PassesOwn.never rfl (pi_range1 (by rfl) T.range (pa_cons (pe_callB call_len_str (by rfl) T.len PySem.boot_len (pa_cons (pv 1) pa_nil)) pa_nil)) (pg_name (i := 6) nd rfl (.inl rfl))
        (pss_cons (ps_set (i := 7) nd rfl (.inl rfl) (pe_lst pa_nil))
        (pss_cons (ps_for PassesOwn.never rfl (pi_list (pe_lst (pa_cons pe_str (pa_cons pe_str pa_nil)))) (pg_name (i := 8) nd rfl (.inl rfl))
          (pss_cons (ps_set (i := 9) nd rfl (.inl rfl) (pe_op op_add (pe_op op_add (pv 4) (pe_call G2 hr (by rfl) N2.g N2.F.kp N2.b .nil pass0 (pa_cons (pe_ix ix_str (pv 1) (pv 6) (fun _ _ => rfl)) pa_nil))) (pe_call G2 hr (by rfl) N2.g N2.F.kp N2.b .nil pass0 (pa_cons (pv 8) pa_nil))))
          (pss_one (ps_if (PW.pt (pw_and (pt_cmpR op_ge (pv 9) pe_int (nomark _)) (pw_and1 (pt_cmpR op_gt (pe_ix ix_list (pe_ix ix_list (pv 2) (pe_op op_add (pv 6) pe_int) (fun _ _ => rfl)) (pv 9) (fun _ _ => rfl)) pe_int (nomark _)))))
            (pss_one (ps_expr (pe_bm PySem.F.plainAttrs_list PySem.F.slot_list_append PySem.F.type_list_append mt_append (pv 7) (pa_cons (pe_tup (pa_cons (pv 8) (pa_cons (pv 9) pa_nil))) pa_nil)))) pss_nil))))
        (pss_cons (ps_asg (pe_ix ix_list (pv 7) (pe_op op_mod (pe_ix ix_list (pv 3) (pv 6) (fun _ _ => rfl)) (pe_callB call_len_seq (by rfl) T.len PySem.boot_len (pa_cons (pv 7) pa_nil))) (fun _ _ => rfl)) (pg_tup rfl (pgs_cons (pg_name (i := 8) nd rfl (.inl rfl)) (pgs_cons (pg_name (i := 4) nd rfl (.inl rfl)) pgs_nil))))
        (pss_one (ps_set (i := 5) nd rfl (.inl rfl) (pe_op op_add_str (pv 5) (pv 8))))))))
      (pss_one (ps_ret (pv 5))))))), ?_⟩
    refine ⟨.str (tx bs), rfl, bs, rfl, hR, fun H1 pb wb s1 nb eb lsb => ?_⟩
    refine ⟨.int c, rfl, (by show 1 ≤ sizeLine; decide), fun l2 n2 => ?_⟩
    refine ⟨.str (tx bs), rfl, tx bs, rfl, hz, l2, _, [.int 2], rfl, rfl, upd_same, by omega, by rw [tx_len]; omega, ?_, fun l3 n3 => ?_⟩
    · rw [tx_len]
      exact fit (by show 1 * ((bs.length : Int)).toNat ≤ 10000; omega)
    rw [flat_rep]
    have en : (((tx bs).length : Int)).toNat = bs.length := by
      rw [tx_len]
      omega
    rw [en]
    have s2 := same_upd (o := .lst [.int 2]) n2
    have s3 := same_new (o := .lst (List.replicate bs.length (V.int 2))) (s2.free n3) s2
    refine ⟨c, l3, List.replicate bs.length 2, rfl, SqL.of (by rw [upd_same, List.map_replicate]), ?_, by rw [List.length_replicate]; omega, fun H4 pd s4 np ep => ?_⟩
    · intro z hz'
      rw [(List.mem_replicate.mp hz').2]
      exact ⟨by decide, by decide⟩
    have s14 : Same H1 H4 := s3.trans s4
    have s04 : Same H H4 := s1.trans s14
    generalize hds : draws c 0 (List.replicate bs.length 2) = ds at ep
    have hdl : ds.length = bs.length := by
      rw [← hds, draws_len, List.length_replicate]
    have eb4 := s14 _ _ eb
    have ls4 := lsts_same s14 lsb
    refine ⟨.str (tx bs), rfl, tx bs, rfl, hz, _, rfl, by omega, by rw [tx_len]; omega, ?_⟩
    rw [en]
    refine for_range (lo := 0) (n := bs.length) (fun i σ H5 => ∃ (o : Nat) (ls : List Bool) (y6 y7 y8 y9 : Option V), σ = [some (.int c), some (.str (tx bs)), some (.ref pb), some (.ref pd), some (.int (2 * (o : Int))), some (.str (tx ls)), y6, y7, y8, y9] ∧ Same H4 H5 ∧ ls.length = i ∧ o ≤ i ∧
        0 < geti (hd (lz bs.length) (bs.drop i)) (2 * (o : Int)) ∧ ∀ rest, bn 0 bs (ls ++ rest) = bn (o : Int) (bs.drop i) rest) ⟨0, [], _, _, _, _, by rw [tx_nil]; rfl, Same.refl _, rfl, Nat.le_refl _, ?_, fun rest => rfl⟩ ?_ ?_
    · exact hd_zero (lz_nn _) (lz_zero _) (by rw [lz_len]; omega) bs
    · rintro i σ H5 hi ⟨o, ls, y6, y7, y8, y9, rfl, s5, hl, ho, hpos, hbn⟩
      rw [Int.zero_add]
      have hdc : bs.drop i = bs[i] :: bs.drop (i + 1) := List.drop_eq_getElem_cons hi
      rw [hdc, hd_cons] at hpos
      generalize hu : bs[i] = u at *
      have ht := tab_at (lz bs.length) bs (i + 1) hi
      generalize hL : hd (lz bs.length) (bs.drop (i + 1)) = L at *
      have hLl : L.length = 2 * bs.length + 4 := by
        rw [← hL, hd_len, lz_len]
      obtain ⟨pL, eW, eL⟩ := lsts_at (lsts_same s5 ls4) ht
      obtain ⟨l0, hl0⟩ := some_leads (L := L) (h := 2 * o) (u := u) (by omega) (by rw [show ((2 * o : Nat) : Int) = 2 * (o : Int) by omega]; exact hpos)
      rw [show ((2 * o : Nat) : Int) = 2 * (o : Int) by omega] at hl0
      refine ⟨Nat.zero_le _, fun ps nps => ?_⟩
      have s6 := same_upd (o := .lst []) nps
      have mps := s5.free nps
      refine ⟨(by show 2 ≤ sizeLine; decide), fun pl npl => ?_⟩
      rw [tx_f, tx_o]
      have mpl := s6.free npl
      have nsl : ps ≠ pl := fun e => by
        rw [← e, upd_same] at npl
        cases npl
      have s7 := same_new (o := .lst [.str (tx [false]), .str (tx [true])]) mpl s6
      have e7 : upd (upd H5 ps (.lst [])) pl (.lst [.str (tx [false]), .str (tx [true])]) pl = some (.lst [.str (tx [false]), .str (tx [true])]) := upd_same
      have e7s : upd (upd H5 ps (.lst [])) pl (.lst [.str (tx [false]), .str (tx [true])]) ps = some (.lst []) := by rw [upd_ne nsl, upd_same]
      generalize upd (upd H5 ps (.lst [])) pl (.lst [.str (tx [false]), .str (tx [true])]) = H7 at *
      refine ⟨pl, rfl, ⟨_, SqL.of e7⟩, ?_⟩
      have hcd : (tx bs).cps.toList = bs.map cd := tx_list bs
      have hat : atI (tx bs).cps.toList (i : Int) = some (cd u) := atI_nat (by rw [hcd, List.getElem?_map, List.getElem?_eq_getElem hi, hu]; rfl)
      refine for_list (K := K) (a := pl) (xs := [.str (tx [false]), .str (tx [true])]) (fun j σ H8 => ∃ y8 y9 ws, σ = [some (.int c), some (.str (tx bs)), some (.ref pb), some (.ref pd), some (.int (2 * (o : Int))), some (.str (tx ls)), some (.int (i : Int)), some (.ref ps), y8, y9] ∧ Same H5 H8 ∧ H8 pl = some (.lst [.str (tx [false]), .str (tx [true])]) ∧ H8 ps = some (.lst ws) ∧
          TupG H8 (fun l : Bool => [.str (tx [l]), .int (2 * (o : Int) + rise u + rise l)]) (([false, true].take j).filter (leads L (2 * (o : Int)) u)) ws) ⟨_, _, _, rfl, s7, e7, e7s, rfl⟩ (fun j σ H8 _ ⟨_, _, _, _, _, e, _⟩ => SqL.of e) ?_ ?_
      · rintro j x σ H8 hx ⟨y8, y9, ws, rfl, s8, e8, e8s, tg⟩
        obtain ⟨l, hl', rfl⟩ : ∃ l, [false, true][j]? = some l ∧ x = .str (tx [l]) := by
          rw [show [V.str (tx [false]), .str (tx [true])] = [false, true].map (fun l => V.str (tx [l])) from rfl, List.getElem?_map] at hx
          obtain ⟨l, h1, h2⟩ := Option.map_eq_some_iff.mp hx
          exact ⟨l, h1, h2.symm⟩
        have eflt : ([false, true].take (j + 1)).filter (leads L (2 * (o : Int)) u) = ([false, true].take j).filter (leads L (2 * (o : Int)) u) ++ (if leads L (2 * (o : Int)) u l = true then [l] else []) := by
          rw [List.take_add_one, hl', List.filter_append]
          congr 1
          cases h : leads L (2 * (o : Int)) u l with
          | true => simp [h]
          | false => simp [h]
        refine ⟨_, rfl, .str (tx bs), rfl, .int (i : Int), rfl, tx bs, _, cd u, rfl, rfl, hz, hat, cd u, rfl, _, _, rfl, rfl, .str (tx [l]), rfl, cd l, rfl, _, _, rfl, rfl, ?_⟩
        rw [cd_o, cd_o]
        refine ⟨_, rfl, _, _, rfl, rfl, _, rfl, ?_⟩
        have no : leads L (2 * (o : Int)) u l = false → ∃ y8' y9' ws', [some (V.int c), some (.str (tx bs)), some (.ref pb), some (.ref pd), some (.int (2 * (o : Int))), some (.str (tx ls)), some (.int (i : Int)), some (.ref ps), some (.str (tx [l])), some (.int (2 * (o : Int) + rise u + rise l))] = [some (.int c), some (.str (tx bs)), some (.ref pb), some (.ref pd), some (.int (2 * (o : Int))), some (.str (tx ls)), some (.int (i : Int)), some (.ref ps), y8', y9'] ∧ Same H5 H8 ∧ H8 pl = some (.lst [.str (tx [false]), .str (tx [true])]) ∧ H8 ps = some (.lst ws') ∧
          TupG H8 (fun l : Bool => [.str (tx [l]), .int (2 * (o : Int) + rise u + rise l)]) (([false, true].take (j + 1)).filter (leads L (2 * (o : Int)) u)) ws' := fun e => by
          refine ⟨_, _, ws, rfl, s8, e8, e8s, ?_⟩
          rw [eflt, e, if_neg (by decide), List.append_nil]
          exact tg
        by_cases ha : (0 : Int) ≤ 2 * (o : Int) + rise u + rise l
        · rw [decide_eq_true (show 2 * (o : Int) + rise u + rise l ≥ 0 from ha)]
          obtain ⟨m, hm⟩ : ∃ m : Nat, 2 * (o : Int) + rise u + rise l = (m : Int) := ⟨(2 * (o : Int) + rise u + rise l).toNat, by omega⟩
          have hru : rise u ≤ 1 := by cases u <;> decide
          have hrl : rise l ≤ 1 := by cases l <;> decide
          have hml : m < L.length := by omega
          refine iteT ⟨.ref pb, rfl, .int (i : Int), rfl, _, _, rfl, rfl, pb, wb, _, .ref pL, rfl, rfl, SqL.of (s8 _ _ (s5 _ _ eb4)), ?_, _, rfl, pL, _, _, .int (geti L (2 * (o : Int) + rise u + rise l)), rfl, rfl, SqL.of (s8 _ _ eL), ?_, _, _, rfl, rfl, _, rfl, ?_⟩
          · rw [show (i : Int) + 1 = ((i + 1 : Nat) : Int) by omega]
            exact atI_nat eW
          · rw [hm]
            exact geti_at hml
          by_cases hg : 0 < geti L (2 * (o : Int) + rise u + rise l)
          · rw [decide_eq_true (show geti L (2 * (o : Int) + rise u + rise l) > 0 from hg)]
            have eld : leads L (2 * (o : Int)) u l = true := by
              unfold leads
              rw [decide_eq_true ha, decide_eq_true hg]
              rfl
            refine iteT ⟨.ref ps, rfl, .inl ⟨rfl, _, SqL.of e8s⟩, _, rfl, _, rfl, (by show 2 ≤ sizeLine; decide), fun pt npt => ?_⟩
            have npst : ps ≠ pt := ne_of_none e8s npt
            have nplt : pl ≠ pt := ne_of_none e8 npt
            refine ⟨ps, ws, _, rfl, rfl, (by rw [upd_ne npst]; exact e8s), ?_, _, _, ws ++ [.ref pt], rfl, ?_, ?_, upd_same, ?_⟩
            · rw [tupG_len tg]
              refine fit' (Nat.le_trans (List.length_filter_le _ _) (Nat.le_trans (List.length_take_le _ _) ?_))
              have := (List.getElem?_eq_some_iff.mp hl').1
              have h2 : j < 2 := this
              omega
            · exact same_new nps (same_new (s8.free npt) s8)
            · rw [upd_ne (Ne.symm nsl), upd_ne nplt]
              exact e8
            · rw [eflt, if_pos eld]
              exact tupG_upd (by rw [upd_ne npst]; exact e8s) (tupG_add upd_same (tupG_same (same_upd npt) tg))
          · rw [decide_eq_false (show ¬ geti L (2 * (o : Int) + rise u + rise l) > 0 from hg)]
            exact iteF (no (by unfold leads; rw [decide_eq_false hg, Bool.and_false]))
        · rw [decide_eq_false (show ¬ 2 * (o : Int) + rise u + rise l ≥ 0 from ha)]
          exact iteF (iteF (no (by unfold leads; rw [decide_eq_false ha, Bool.false_and])))
      · rintro σ H8 ⟨y8, y9, ws, rfl, s8, e8, e8s, tg⟩
        have htk : ([false, true] : List Bool).take [V.str (tx [false]), V.str (tx [true])].length = [false, true] := rfl
        rw [htk] at tg
        generalize hch : [false, true].filter (leads L (2 * (o : Int)) u) = ch at *
        have hl0m : l0 ∈ ch := by
          rw [← hch]
          exact List.mem_filter.mpr ⟨by cases l0 <;> simp, hl0⟩
        have hcl : 0 < ch.length := List.length_pos_of_mem hl0m
        have hwl := tupG_len tg
        obtain ⟨dk, hdk⟩ : ∃ x, ds[i]? = some x := ⟨ds[i], List.getElem?_eq_getElem (by omega)⟩
        have gd : atI (ds.map V.int) (i : Int) = some (.int dk) := atI_nat (by rw [List.getElem?_map, hdk]; rfl)
        have hpw : (0 : Int) < (ws.length : Int) := by omega
        obtain ⟨m, hm⟩ : ∃ m : Nat, dk % (ws.length : Int) = (m : Int) := ⟨(dk % (ws.length : Int)).toNat, by have := Int.emod_nonneg dk (show (ws.length : Int) ≠ 0 by omega); omega⟩
        have hml : m < ch.length := by
          have := Int.emod_lt_of_pos dk hpw
          omega
        have hgm : ch[m]? = some ch[m] := List.getElem?_eq_getElem hml
        obtain ⟨pt, e1, e2⟩ := tupG_at tg hgm
        have hin : ch[m] ∈ [false, true].filter (leads L (2 * (o : Int)) u) := by
          rw [hch]
          exact List.getElem_mem hml
        have hld := (List.mem_filter.mp hin).2
        generalize ch[m] = l at *
        unfold leads at hld
        rw [Bool.and_eq_true] at hld
        have hge := of_decide_eq_true hld.1
        have hgt := of_decide_eq_true hld.2
        have r2 := rise_two u l
        refine ⟨.ref ps, rfl, .ref pd, rfl, .int (i : Int), rfl, pd, _, _, _, rfl, rfl, SqL.of ((s5.trans s8) _ _ ep), gd, .ref ps, rfl, ps, _, rfl, .inl (SqL.of e8s), _, _, rfl, rfl, hpw, ps, ws, _, .ref pt, rfl, rfl, SqL.of e8s, ?_, ?_⟩
        · rw [hm]
          exact atI_nat e1
        refine ⟨pt, _, rfl, SqT.of e2, rfl, _, _, rfl, _, _, rfl, rfl, ?_⟩
        obtain ⟨o', ho'⟩ : ∃ o' : Nat, (o : Int) + ust u l = (o' : Int) := ⟨((o : Int) + ust u l).toNat, by omega⟩
        have h2o : 2 * (o : Int) + rise u + rise l = 2 * (o' : Int) := by omega
        have hu1 : ust u l ≤ 1 := by cases u <;> cases l <;> decide
        refine ⟨_, rfl, _, rfl, tx ls, tx [l], rfl, rfl, ?_, ?_⟩
        · rw [tx_len, tx_len]
          exact fit (by show ls.length + 1 ≤ 10000; omega)
        rw [tx_app, h2o]
        refine ⟨o', ls ++ [l], _, _, _, _, rfl, s5.trans s8, by rw [List.length_append, hl]; rfl, by omega, ?_, fun rest => ?_⟩
        · rw [← h2o]
          exact hgt
        · rw [List.append_assoc, hbn, hdc]
          show bn (o : Int) (u :: bs.drop (i + 1)) (l :: rest) = _
          rw [bn_cons, if_neg (by omega), ho']
    · rintro σ H5 ⟨o, ls, y6, y7, y8, y9, rfl, s5, hl, ho, hpos, hbn⟩
      rw [List.drop_length] at hpos
      have h0 : 2 * o = 0 := lz_only (m := bs.length) (by rw [show ((2 * o : Nat) : Int) = 2 * (o : Int) by omega]; exact hpos)
      obtain rfl : o = 0 := by omega
      have hb := hbn []
      rw [List.append_nil, List.drop_length, bn_nil] at hb
      exact ⟨_, rfl, q H5 ls (s04.trans s5) hl (by rw [hb]; rfl)⟩
end
end Hop

set_option Elab.async false
set_option linter.all false
set_option maxRecDepth 100000
namespace HopR
open PySem PySem.Spec PyProof.Rows L2
/-! ### tests and statements where a token is out -/
def PTT (X : Cx) (c : Expr) (t : TT) : Prop :=
  ∀ (pins : List (Addr × Obj)) (s : Shared) (σ : L2.St) (H : Hp) (Q : Bool → Hp → Prop), 1 ≤ s.toks → Inv X pins σ H s → t σ H Q → wpAny (model X.prog X.w) X.A (isTrue c X.env (eval c X.env)) (TP X pins σ Q) X.xe s
/-- an expression behind which a token is out -/
def PE1 (X : Cx) (e : Expr) (t : TE) : Prop :=
  ∀ (pins : List (Addr × Obj)) (s : Shared) (σ : L2.St) (H : Hp) (Q : VK), Inv X pins σ H s → t σ H Q → wpAny (model X.prog X.w) X.A (eval e X.env) (fun v s' => 1 ≤ s'.toks ∧ EP X pins σ Q v s') X.xe s
section
variable {X : Cx} {a b e : Expr} {ta tb te : TE} {tA tB' : TT} {rest : List Expr} {pos : Pos}
theorem PTT.of (h : PT X a tA) : PTT X a tA := fun pins s σ H Q _ I q => h.run pins s σ H Q I q
theorem ptt_cmp {op : CmpOp} {r : R2} (ho : OpR X (compareOp op) r) (ha : PET X a ta) (hb : PET X b tb) (hm : behindInMarks op b = false) : PTT X (.Compare a [op] [b] pos) (tTest (tOp r ta tb)) := by
  intro pins s σ H Q h0 I h
  refine wpAny_isTrue_Compare1 (wpAny_mono (PySem.wpAny_toks (ha pins s σ H _ h0 I h)) (fun v s1 q => ?_) fun _ _ z => z.2) hm
  obtain ⟨hk, x, H1, I1, r1, q1⟩ := q
  exact thn (hb pins s1 σ H1 _ (Nat.le_trans h0 hk) I1 q1) fun u s2 ⟨y, H2, I2, r2, q2⟩ => thn (ho pins s2 σ H2 x y v u _ I2 r1 r2 q2) fun c s3 ⟨z, H3, I3, r3, k, e, q3⟩ => by
    subst e
    cases r3
    exact wpAny_truthy_bool ⟨H3, I3, q3⟩
theorem ptt_or (ha : PTT X a tA) (hb : PW X (.BoolOp .Or (b :: rest) pos) tB') : PTT X (.BoolOp .Or (a :: b :: rest) pos) (tOr tA tB') := by
  intro pins s σ H Q h0 I h
  refine isTrue_or (thn (ha pins s σ H _ h0 I h) fun c s1 ⟨H1, I1, q1⟩ => ?_)
  cases c with
  | false => exact hb.run _ pins s1 σ H1 Q I1 q1
  | true => exact ⟨H1, I1, q1⟩
theorem pst_ifT {c : Expr} {a b : List Stmt} {tc : TT} {t u : TS} (hc : PTT X c tc) (ha : PSsT X a t) (hb : PSsT X b u) : PST X (.If c a b pos) (tIfS tc t u) := by
  intro pins s σ H D h0 I h
  refine wpAny_If (wpAny_mono (PySem.wpAny_toks (hc pins s σ H _ h0 I h)) (fun d s1 q => ?_) fun _ _ z => z.2)
  obtain ⟨hk, H1, I1, q1⟩ := q
  have h1 := Nat.le_trans h0 hk
  cases d with
  | false => exact hb pins s1 σ H1 D h1 I1 q1
  | true => exact ha pins s1 σ H1 D h1 I1 q1
theorem pst_set {i : Nat} {x : Str} {pos' : Pos} (hN : X.N.Nodup) (hi : X.N[i]? = some x) (hx : Loc X.env.scope x) (he : PET X e te) (hs : swapsWith e (some (.Name x pos')) pos.line X.env = pure false := by rfl) (hf : X.fn x = true ∨ X.env.scope.names.lookup x = some .local := by first | exact .inl rfl | exact .inr rfl | assumption) :
    PST X (.Assign [.Name x pos'] e pos) (tAsg te (gName i)) := by
  intro pins s σ H D h0 I h
  exact wpAny_Assign_Name (thn (he pins s σ H _ h0 I h) fun v s1 ⟨y, H1, I1, r1, q1⟩ => store_ok I1 hN hi hx r1 (fun s2 I2 => ⟨_, H1, I2, q1⟩) hf) hs
theorem pet_callTy {T : String} {r : List V → Hp → VK → Prop} {x : Str} {es : List Expr} {t : TA} {p : Pos} (hc : CallR X (.type T) r) (hg : Gl X x) (hm : X.mg x = none) (hv : bootBuiltins x = some (.type T)) (ha : PAT X (e :: es) t) (hn : x ≠ "__name__" := by decide) (hdb : (x == ("__debug__" : Str)) = false := by decide)
    (he : starEach (e :: es) X.env = (false, eval e X.env) :: starEach es X.env := by rfl) (hpl : (backTo pos (starEach es X.env)).any (·.1) = false := by rfl) : PET X (.Call (.Name x p) (e :: es) [] pos) (tCB r t) := by
  intro pins s σ H Q h0 I h
  refine wpAny_Call_Name_kw (ld_blt I hg hm hv (PyProof.Rows.callWith_type1 ?_ he hpl) hn hdb)
  exact thn (ha pos pins s σ H _ h0 I h) fun us s1 ⟨vs, H1, I1, r1, q1⟩ => hc pins s1 σ H1 vs us Q I1 r1 q1
theorem pe1_int {i : Int} {j : Nat} : PE1 X (.Constant (.int i) j pos) (tC (.int i)) := fun _ s _ H _ I h => wpAny_Constant_int ⟨by show 1 ≤ s.toks + 1; omega, .int i, H, I.tok _, ⟨_, rfl⟩, h⟩
theorem pe1_opr {op : Operator} {r : R2} (ho : OpR X (binaryOp op) r) (ha : PE X a ta) (hb : PE1 X b tb) : PE1 X (.BinOp a op b pos) (tOp r ta tb) := by
  intro pins s σ H Q I h
  refine wpAny_BinOp (thn (ha.run pins s σ H _ I h) fun v s1 ⟨x, H1, I1, r1, q1⟩ => thn (hb pins s1 σ H1 _ I1 q1) fun u s2 ⟨h2, y, H2, I2, r2, q2⟩ => ?_)
  exact wpAny_mono (PySem.wpAny_toks (ho pins s2 σ H2 x y v u Q I2 r1 r2 q2)) (fun _ _ z => ⟨Nat.le_trans h2 z.1, z.2⟩) fun _ _ z => z.2
theorem pe1_opl {op : Operator} {r : R2} (ho : OpR X (binaryOp op) r) (ha : PE1 X a ta) (hb : PE X b tb) : PE1 X (.BinOp a op b pos) (tOp r ta tb) := by
  intro pins s σ H Q I h
  refine wpAny_BinOp (thn (ha pins s σ H _ I h) fun v s1 ⟨h1, x, H1, I1, r1, q1⟩ => wpAny_mono (PySem.wpAny_toks (hb.run pins s1 σ H1 _ I1 q1)) (fun u s2 z => ?_) fun _ _ z => z.2)
  obtain ⟨h2, y, H2, I2, r2, q2⟩ := z
  exact wpAny_mono (PySem.wpAny_toks (ho pins s2 σ H2 x y v u Q I2 r1 r2 q2)) (fun _ _ z => ⟨Nat.le_trans (Nat.le_trans h1 h2) z.1, z.2⟩) fun _ _ z => z.2
/-- name = value, and behind it a token is out -/
theorem pss_setT {i : Nat} {x : Str} {pos' : Pos} {rest : List Stmt} {u : TS} (hN : X.N.Nodup) (hi : X.N[i]? = some x) (hx : Loc X.env.scope x) (he : PE1 X e te) (hr : PSsT X rest u) (hs : swapsWith e (some (.Name x pos')) pos.line X.env = pure false := by rfl) (hf : X.fn x = true ∨ X.env.scope.names.lookup x = some .local := by first | exact .inl rfl | exact .inr rfl | assumption) :
    PSs X (.Assign [.Name x pos'] e pos :: rest) (tSeq (tAsg te (gName i)) u) := by
  refine ⟨fun pins s σ H D I h => ?_⟩
  refine wpAny_execs_cons (wpAny_Assign_Name (thn (he pins s σ H _ I h) fun v s1 ⟨h1, y, H1, I1, r1, q1⟩ => ?_) hs)
  refine wpAny_mono (PySem.wpAny_toks (store_ok (Q := fun _ s2 => Inv X pins (σ.set i (some y)) H1 s2) I1 hN hi hx r1 (fun s2 I2 => I2) hf)) (fun _ s2 z => ?_) fun _ _ z => z.2
  exact hr pins s2 _ H1 D (Nat.le_trans h1 z.1) z.2 q1
end
end HopR

set_option Elab.async false
set_option linter.all false
set_option maxRecDepth 100000
namespace HopR
open PySem PySem.Spec PyProof.Rows L2
theorem noxT {X : Cx} {st : List Stmt} {t : TS} (h : PSsT X.nox st t) : PSsT X st t := fun pins s σ H D h0 I hw =>
  wpAny_mono (h pins s σ H D h0 (I.wish _) hw) (fun _ _ q => SP.unwish q) fun _ _ z => z.elim
/-- a def whose body begins where a token is out -/
theorem okT {P : Program} {w : World} {K : PySem.W.Frag} {mg : Str → Option Value} {base : Heap} {x qual : Str} {st : Stmt} {f : Addr} {fd : FuncData} {N ps : List Str} {k : Nat} {sp : Sp} (F : Fun K x qual st f fd) (S : FnScope N ps (defScope st)) (hnc : ∀ y ∈ (defScope st).names, y.2 ≠ .cell) (hps : 1 ≤ ps.length) (len : ∀ vs H Q E, sp vs H Q E → vs.length = ps.length)
    (body : ∀ (cdv : Value) (A : Around) (outer : List Env) (s : Shared) (H : Hp) (vs : List V) (Q : VK) (E : XK), Room k (A.deeper (envOfC qual (defScope st) s.heap.objs.size f cdv)) → sp vs H Q E →
      ∃ t, PSsT (cxOf CX0 P w K mg base N qual (defScope st) f cdv A outer s H E).nox (defBody st) t ∧ t { nx := fun _ H' => Q .non H', rt := Q } (start N vs) H) : FnOk P w K mg base CX0 (k + 1) f fd ps sp := by
  obtain ⟨_, _, _, _, _, _, cdv, _, _, rfl, lk, code⟩ := F.ex
  refine fn_ofT lk code S hnc hps len fun A outer s H vs Q E room h => ?_
  obtain ⟨t, b, q⟩ := body cdv A outer s H vs Q E room h
  exact ⟨t, noxT b, q⟩
end HopR

set_option Elab.async false
set_option linter.all false
set_option maxRecDepth 100000
namespace Hop
open PySem L2 HopR
/-! ### the upper line's beads take the nearest free bead of the lower line to the left, round the ring -/
/-- the places from p on to the left, round -/
def lef (n p : Nat) : List Nat := (List.range n).map fun t => if t ≤ p then p - t else p + n - t
def isb (cs : List Nat) (i : Nat) : Bool := decide (cs.getD i 0 = 98)
def put (n : Nat) (cs : List Nat) (p : Nat) : List Nat := match (lef n p).filter (isb cs) with
  | [] => cs
  | x :: _ => cs.set x 97
theorem put_nil {n p : Nat} {cs : List Nat} (h : (lef n p).filter (isb cs) = []) : put n cs p = cs := by
  unfold put
  rw [h]
theorem put_cons {n p x : Nat} {cs r : List Nat} (h : (lef n p).filter (isb cs) = x :: r) : put n cs p = cs.set x 97 := by
  unfold put
  rw [h]
theorem lef_len (n p : Nat) : (lef n p).length = n := by simp [lef]
theorem lef_get {n p t : Nat} (h : t < (lef n p).length) : (lef n p)[t] = if t ≤ p then p - t else p + n - t := by simp [lef]
theorem lef_rot {n p q : Nat} (hq : q ≤ p) (hp : p < n) : lef n q = (lef n p).drop (p - q) ++ (lef n p).take (p - q) := by
  refine List.ext_getElem ?_ fun t h1 h2 => ?_
  · rw [List.length_append, List.length_drop, List.length_take, lef_len, lef_len]
    omega
  · rw [lef_len] at h1
    have hd : ((lef n p).drop (p - q)).length = n - (p - q) := by rw [List.length_drop, lef_len]
    by_cases h3 : t < n - (p - q)
    · rw [lef_get, List.getElem_append_left (by rw [hd]; exact h3), List.getElem_drop, lef_get]
      split <;> split <;> omega
    · rw [lef_get, List.getElem_append_right (by rw [hd]; omega), List.getElem_take, lef_get]
      rw [hd]
      split <;> split <;> omega
theorem lef_nodup {n p : Nat} (hp : p < n) : (lef n p).Nodup := by
  unfold lef
  refine List.pairwise_map.mpr (List.Pairwise.imp_of_mem (fun {a b} ha hb hne => ?_) List.nodup_range)
  have := List.mem_range.mp ha
  have := List.mem_range.mp hb
  intro h
  apply hne
  split at h <;> split at h <;> omega
theorem mem_lef {n p i : Nat} (hp : p < n) (hi : i < n) : i ∈ lef n p := by
  unfold lef
  refine List.mem_map.mpr ⟨if i ≤ p then p - i else p + n - i, List.mem_range.mpr ?_, ?_⟩
  · split <;> omega
  · split <;> split <;> omega
theorem lef_lt {n p i : Nat} (hp : p < n) (h : i ∈ lef n p) : i < n := by
  unfold lef at h
  obtain ⟨t, ht, rfl⟩ := List.mem_map.mp h
  have := List.mem_range.mp ht
  split <;> omega
theorem isb_lt {cs : List Nat} {i : Nat} (h : isb cs i = true) : i < cs.length := by
  unfold isb at h
  have h := of_decide_eq_true h
  rw [List.getD_eq_getElem?_getD] at h
  refine Nat.lt_of_not_le fun hl => ?_
  rw [List.getElem?_eq_none hl] at h
  exact absurd h (by decide)
theorem isb_set {cs : List Nat} {x i : Nat} : isb (cs.set x 97) i = (isb cs i && decide (i ≠ x)) := by
  unfold isb
  rw [List.getD_eq_getElem?_getD, List.getD_eq_getElem?_getD, List.getElem?_set]
  by_cases h : x = i
  · subst h
    by_cases hl : x < cs.length <;> simp [hl]
  · rw [if_neg h]
    have : i ≠ x := fun z => h z.symm
    simp [this]
theorem filter_set {cs L : List Nat} {x : Nat} : L.filter (isb (cs.set x 97)) = (L.filter (isb cs)).filter (fun i => decide (i ≠ x)) := by
  rw [List.filter_filter]
  congr 1
  funext i
  rw [isb_set, Bool.and_comm]
theorem put_comm1 {n p q : Nat} (cs : List Nat) (hq : q ≤ p) (hp : p < n) : put n (put n cs p) q = put n (put n cs q) p := by
  have er := lef_rot hq hp
  have ep : lef n p = (lef n p).take (p - q) ++ (lef n p).drop (p - q) := (List.take_append_drop _ _).symm
  have nd := lef_nodup hp
  generalize (lef n p).take (p - q) = U at er ep
  generalize (lef n p).drop (p - q) = Z at er ep
  have same : (lef n p).filter (isb cs) = (lef n q).filter (isb cs) → put n (put n cs p) q = put n (put n cs q) p := fun h => by
    cases hf : (lef n p).filter (isb cs) with
    | nil => rw [put_nil hf, put_nil (h ▸ hf), put_nil hf]
    | cons x r =>
      have hf2 : (lef n q).filter (isb cs) = x :: r := h ▸ hf
      rw [put_cons hf, put_cons hf2]
      have e1 : (lef n p).filter (isb (cs.set x 97)) = (lef n q).filter (isb (cs.set x 97)) := by rw [filter_set, filter_set, h]
      cases hg : (lef n p).filter (isb (cs.set x 97)) with
      | nil => rw [put_nil hg, put_nil (e1 ▸ hg)]
      | cons y r' => rw [put_cons hg, put_cons (e1 ▸ hg)]
  have fp : (lef n p).filter (isb cs) = U.filter (isb cs) ++ Z.filter (isb cs) := by rw [ep, List.filter_append]
  have fq : (lef n q).filter (isb cs) = Z.filter (isb cs) ++ U.filter (isb cs) := by rw [er, List.filter_append]
  cases hA : U.filter (isb cs) with
  | nil =>
    rw [hA] at fp fq
    rw [List.append_nil] at fq
    exact same (fp.trans fq.symm)
  | cons x A =>
    cases hB : Z.filter (isb cs) with
    | nil =>
      rw [hB] at fp fq
      rw [List.append_nil] at fp
      exact same (fp.trans fq.symm)
    | cons y B =>
      rw [hA, hB] at fp fq
      have ne : x ≠ y := fun z => by
        have h1 : ((lef n p).filter (isb cs)).Nodup := nd.filter _
        rw [fp, z] at h1
        have := (List.nodup_cons.mp h1).1
        exact this (List.mem_append_right _ (List.mem_cons_self ..))
      have f2 : (lef n q).filter (isb (cs.set x 97)) = y :: (B ++ x :: A).filter (fun i => decide (i ≠ x)) := by
        rw [filter_set, fq]
        show ((y :: (B ++ x :: A)).filter _) = _
        rw [List.filter_cons_of_pos (by simpa using ne.symm)]
      have f3 : (lef n p).filter (isb (cs.set y 97)) = x :: (A ++ y :: B).filter (fun i => decide (i ≠ y)) := by
        rw [filter_set, fp]
        show ((x :: (A ++ y :: B)).filter _) = _
        rw [List.filter_cons_of_pos (by simpa using ne)]
      rw [put_cons (r := A ++ y :: B) fp, put_cons (r := B ++ x :: A) fq, put_cons f2, put_cons f3, List.set_comm _ _ ne]
theorem put_comm {n p q : Nat} (cs : List Nat) (hp : p < n) (hq : q < n) : put n (put n cs p) q = put n (put n cs q) p := by
  rcases Nat.le_total q p with h | h
  · exact put_comm1 cs h hp
  · exact (put_comm1 cs h hq).symm
theorem puts_perm {n : Nat} {ps qs : List Nat} (h : ps.Perm qs) (lt : ∀ p ∈ ps, p < n) (cs : List Nat) : ps.foldl (put n) cs = qs.foldl (put n) cs :=
  h.foldl_eq' (fun x hx y hy z => put_comm z (lt x hx) (lt y hy)) cs
theorem put_len (n : Nat) (cs : List Nat) (p : Nat) : (put n cs p).length = cs.length := by
  unfold put
  split
  · rfl
  · rw [List.length_set]
theorem puts_len (n : Nat) : ∀ (ps cs : List Nat), (ps.foldl (put n) cs).length = cs.length
  | [], cs => rfl
  | p :: ps, cs => by rw [List.foldl_cons, puts_len n ps, put_len]
/-- a bead is left: one is found -/
theorem put_at {n p : Nat} {cs : List Nat} (hp : p < n) (hl : cs.length = n) (h : 0 < cs.count 98) : ∃ x r, (lef n p).filter (isb cs) = x :: r ∧ x < n ∧ cs[x]? = some 98 := by
  obtain ⟨i, hi, e⟩ := List.getElem_of_mem (List.count_pos_iff.mp h)
  have hb : isb cs i = true := by
    unfold isb
    rw [List.getD_eq_getElem?_getD, List.getElem?_eq_getElem hi, e]
    rfl
  have hm : i ∈ (lef n p).filter (isb cs) := List.mem_filter.mpr ⟨mem_lef hp (hl ▸ hi), hb⟩
  cases hf : (lef n p).filter (isb cs) with
  | nil =>
    rw [hf] at hm
    cases hm
  | cons x r =>
    have hx : x ∈ (lef n p).filter (isb cs) := by
      rw [hf]
      exact List.mem_cons_self ..
    obtain ⟨h1, h2⟩ := List.mem_filter.mp hx
    have h3 := isb_lt h2
    refine ⟨x, r, rfl, hl ▸ h3, ?_⟩
    unfold isb at h2
    have h2 := of_decide_eq_true h2
    rw [List.getD_eq_getElem?_getD, List.getElem?_eq_getElem h3] at h2
    rw [List.getElem?_eq_getElem h3, show cs[x] = 98 from h2]
end Hop

set_option Elab.async false
set_option linter.all false
set_option maxRecDepth 100000
namespace Hop
open PySem L2 HopR
theorem count_put {x c : Nat} {cs : List Nat} (hx : cs[x]? = some 98) : (cs.set x 97).count c = cs.count c - (if c = 98 then 1 else 0) + (if c = 97 then 1 else 0) := by
  obtain ⟨hl, e⟩ := List.getElem?_eq_some_iff.mp hx
  rw [List.count_set hl, e]
  simp only [beq_iff_eq]
  congr 1
  · congr 1
    by_cases h : c = 98 <;> simp [h, eq_comm]
  · by_cases h : c = 97 <;> simp [h, eq_comm]
/-- all beads of the upper line find one -/
theorem puts_count {n : Nat} : ∀ (ps cs : List Nat), cs.length = n → (∀ p ∈ ps, p < n) → ps.length ≤ cs.count 98 → (ps.foldl (put n) cs).count 98 = cs.count 98 - ps.length ∧ (ps.foldl (put n) cs).count 97 = cs.count 97 + ps.length
  | [], cs, _, _, _ => ⟨rfl, rfl⟩
  | p :: ps, cs, hl, lt, hc => by
    rw [List.length_cons] at hc
    obtain ⟨x, r, hf, hx, hcx⟩ := put_at (lt p (List.mem_cons_self ..)) hl (by omega)
    have e := put_cons hf
    have c8 : (put n cs p).count 98 = cs.count 98 - 1 := by rw [e, count_put hcx]; rfl
    have c7 : (put n cs p).count 97 = cs.count 97 + 1 := by rw [e, count_put hcx]; rfl
    obtain ⟨i1, i2⟩ := puts_count ps (put n cs p) (by rw [put_len]; exact hl) (fun q hq => lt q (List.mem_cons_of_mem _ hq)) (by omega)
    rw [List.foldl_cons, i1, i2, c8, c7, List.length_cons]
    omega
/-- whether a bead stands there -/
def lowc (c : Nat) : Nat := if c = 97 ∨ c = 98 then 111 else c
theorem put_low {n p : Nat} {cs : List Nat} : (put n cs p).map lowc = cs.map lowc := by
  cases hf : (lef n p).filter (isb cs) with
  | nil => rw [put_nil hf]
  | cons x r =>
    rw [put_cons hf]
    have hx : isb cs x = true := (List.mem_filter.mp (show x ∈ (lef n p).filter (isb cs) by rw [hf]; exact List.mem_cons_self ..)).2
    have hl := isb_lt hx
    unfold isb at hx
    have hx := of_decide_eq_true hx
    rw [List.getD_eq_getElem?_getD, List.getElem?_eq_getElem hl] at hx
    rw [List.map_set]
    refine List.ext_getElem? fun i => ?_
    rw [List.getElem?_set]
    split
    · rename_i h
      subst h
      rw [List.length_map, if_pos hl, List.getElem?_map, List.getElem?_eq_getElem hl]
      show some (lowc 97) = some (lowc cs[x])
      rw [show cs[x] = 98 from hx]
      rfl
    · rfl
theorem puts_low {n : Nat} : ∀ (ps cs : List Nat), (ps.foldl (put n) cs).map lowc = cs.map lowc
  | [], _ => rfl
  | p :: ps, cs => by rw [List.foldl_cons, puts_low ps, put_low]
theorem put_ok {n p : Nat} {cs : List Nat} (h : ∀ c ∈ cs, c ∈ [97, 98, 46]) : ∀ c ∈ put n cs p, c ∈ [97, 98, 46] := by
  cases hf : (lef n p).filter (isb cs) with
  | nil => rw [put_nil hf]; exact h
  | cons x r =>
    rw [put_cons hf]
    intro c hc
    rcases List.mem_or_eq_of_mem_set hc with hc | rfl
    · exact h c hc
    · exact List.mem_cons_self ..
theorem puts_ok {n : Nat} : ∀ (ps cs : List Nat), (∀ c ∈ cs, c ∈ [97, 98, 46]) → ∀ c ∈ ps.foldl (put n) cs, c ∈ [97, 98, 46]
  | [], _, h => h
  | p :: ps, cs, h => puts_ok ps _ (put_ok h)
/-! ### turned round -/
def rot {α : Type} (k : Nat) (xs : List α) : List α := xs.drop k ++ xs.take k
def sh (n k p : Nat) : Nat := if k ≤ p then p - k else p + n - k
theorem rot_len {α : Type} {k : Nat} {xs : List α} (h : k ≤ xs.length) : (rot k xs).length = xs.length := by
  unfold rot
  rw [List.length_append, List.length_drop, List.length_take]
  omega
theorem rot_get {α : Type} {n k i : Nat} {xs : List α} (hl : xs.length = n) (hk : k ≤ n) (hi : i < n) : (rot k xs)[sh n k i]? = xs[i]? := by
  unfold rot sh
  split
  · rw [List.getElem?_append_left (by rw [List.length_drop]; omega), List.getElem?_drop]
    congr 1
    omega
  · rw [List.getElem?_append_right (by rw [List.length_drop]; omega), List.length_drop, List.getElem?_take]
    rw [if_pos (by omega)]
    congr 1
    omega
theorem sh_lt {n k i : Nat} (hk : k ≤ n) (hi : i < n) : sh n k i < n := by
  unfold sh
  split <;> omega
theorem lef_sh {n k p : Nat} (hk : k ≤ n) (hp : p < n) : lef n (sh n k p) = (lef n p).map (sh n k) := by
  unfold lef
  rw [List.map_map]
  refine List.map_congr_left fun t ht => ?_
  have := List.mem_range.mp ht
  show (if t ≤ sh n k p then sh n k p - t else sh n k p + n - t) = sh n k (if t ≤ p then p - t else p + n - t)
  unfold sh
  repeat' split
  all_goals omega
theorem rot_set {n k x v : Nat} {cs : List Nat} (hl : cs.length = n) (hk : k ≤ n) (hx : x < n) : (rot k cs).set (sh n k x) v = rot k (cs.set x v) := by
  unfold rot sh
  rw [List.drop_set, List.take_set]
  split
  · rename_i h
    rw [List.set_append_left _ _ (by rw [List.length_drop]; omega), if_neg (by omega), List.set_eq_of_length_le (l := cs.take k) (by rw [List.length_take]; omega)]
  · rename_i h
    rw [List.set_append_right _ _ (by rw [List.length_drop]; omega), if_pos (by omega), List.length_drop]
    congr 2
    omega
theorem put_rot {n k p : Nat} {cs : List Nat} (hl : cs.length = n) (hk : k ≤ n) (hp : p < n) : put n (rot k cs) (sh n k p) = rot k (put n cs p) := by
  have e : (lef n (sh n k p)).filter (isb (rot k cs)) = ((lef n p).filter (isb cs)).map (sh n k) := by
    rw [lef_sh hk hp, List.filter_map]
    congr 1
    refine List.filter_congr fun i hi => ?_
    have := lef_lt hp hi
    show isb (rot k cs) (sh n k i) = isb cs i
    unfold isb
    rw [List.getD_eq_getElem?_getD, List.getD_eq_getElem?_getD, rot_get hl hk this]
  cases hf : (lef n p).filter (isb cs) with
  | nil =>
    rw [hf] at e
    rw [put_nil hf, put_nil e]
  | cons x r =>
    rw [hf] at e
    have hx := lef_lt hp (List.mem_filter.mp (show x ∈ (lef n p).filter (isb cs) by rw [hf]; exact List.mem_cons_self ..)).1
    rw [put_cons hf, put_cons e, rot_set hl hk hx]
theorem puts_rot {n k : Nat} (hk : k ≤ n) : ∀ (ps cs : List Nat), cs.length = n → (∀ p ∈ ps, p < n) → (ps.map (sh n k)).foldl (put n) (rot k cs) = rot k (ps.foldl (put n) cs)
  | [], _, _, _ => rfl
  | p :: ps, cs, hl, lt => by
    rw [List.map_cons, List.foldl_cons, List.foldl_cons, put_rot hl hk (lt p (List.mem_cons_self ..)), puts_rot hk ps _ (by rw [put_len]; exact hl) fun q hq => lt q (List.mem_cons_of_mem _ hq)]
/-! ### lines -/
def bds (hi : List Bool) : List Nat := (List.range hi.length).filter fun i => hi.getD i false
def lob (lo : List Bool) : List Nat := lo.map fun b => if b then 98 else 46
def rg (hi lo : List Bool) : List Nat := (bds hi).foldl (put hi.length) (lob lo)
theorem bds_lt {hi : List Bool} : ∀ p ∈ bds hi, p < hi.length := fun p hp => List.mem_range.mp (List.mem_filter.mp hp).1
theorem lob_rot (k : Nat) (lo : List Bool) : lob (rot k lo) = rot k (lob lo) := by
  unfold lob rot
  rw [List.map_append, List.map_drop, List.map_take]
theorem bds_rot {n k : Nat} {hi : List Bool} (hl : hi.length = n) (hk : k ≤ n) : (bds (rot k hi)).Perm ((bds hi).map (sh n k)) := by
  have r1 : List.range n = List.range (n - k) ++ (List.range k).map (fun i => (n - k) + i) := by
    conv => lhs; rw [show n = (n - k) + k by omega]
    exact List.range_add
  have r2 : List.range n = List.range k ++ (List.range (n - k)).map (fun i => k + i) := by
    conv => lhs; rw [show n = k + (n - k) by omega]
    exact List.range_add
  have e1 : bds (rot k hi) = ((List.range (n - k)).filter fun i => hi.getD (k + i) false) ++ ((List.range k).filter fun i => hi.getD i false).map (fun i => (n - k) + i) := by
    unfold bds
    rw [rot_len (by omega), hl, r1, List.filter_append, List.filter_map]
    congr 1
    · refine List.filter_congr fun i hi' => ?_
      have := List.mem_range.mp hi'
      rw [List.getD_eq_getElem?_getD, List.getD_eq_getElem?_getD]
      have := rot_get (k := k) (i := k + i) hl hk (by omega)
      rw [show sh n k (k + i) = i by unfold sh; rw [if_pos (by omega)]; omega] at this
      rw [this]
    · congr 1
      refine List.filter_congr fun i hi' => ?_
      have := List.mem_range.mp hi'
      show (rot k hi).getD (n - k + i) false = hi.getD i false
      rw [List.getD_eq_getElem?_getD, List.getD_eq_getElem?_getD]
      have := rot_get (k := k) (i := i) hl hk (by omega)
      rw [show sh n k i = n - k + i by unfold sh; rw [if_neg (by omega)]; omega] at this
      rw [this]
  have e2 : (bds hi).map (sh n k) = ((List.range k).filter fun i => hi.getD i false).map (fun i => (n - k) + i) ++ ((List.range (n - k)).filter fun i => hi.getD (k + i) false) := by
    unfold bds
    rw [hl, r2, List.filter_append, List.filter_map, List.map_append, List.map_map]
    congr 1
    · refine List.map_congr_left fun i hi' => ?_
      have := List.mem_range.mp (List.mem_filter.mp hi').1
      unfold sh
      rw [if_neg (by omega)]
      omega
    · refine Eq.trans (List.map_congr_left (g := id) fun i hi' => ?_) (List.map_id _)
      show sh n k (k + i) = i
      unfold sh
      rw [if_pos (by omega)]
      omega
  rw [e1, e2]
  exact List.perm_append_comm
theorem rg_rot {n k : Nat} {hi lo : List Bool} (h1 : hi.length = n) (h2 : lo.length = n) (hk : k ≤ n) : rg (rot k hi) (rot k lo) = rot k (rg hi lo) := by
  have hl : (lob lo).length = n := by unfold lob; rw [List.length_map, h2]
  unfold rg
  rw [rot_len (by omega), h1, lob_rot, ← puts_rot hk (bds hi) (lob lo) hl (fun p hp => h1 ▸ bds_lt p hp)]
  exact puts_perm (bds_rot h1 hk) (fun p hp => by have := bds_lt p hp; rw [rot_len (by omega), h1] at this; exact this) _
end Hop

set_option Elab.async false
set_option linter.all false
set_option maxRecDepth 100000
namespace Hop
open PySem L2 HopR
theorem repl_one (y z : Nat) : ∀ cs : List Nat, PySem.StrLaws.replL [y] [z] cs = cs.map fun c => if c = y then z else c
  | [] => PySem.StrLaws.replL_nil
  | c :: r => by
    by_cases h : c = y
    · subst h
      rw [PySem.StrLaws.replL_hit (by simp) rfl, List.map_cons, if_pos rfl]
      show [z] ++ PySem.StrLaws.replL [c] [z] r = _
      rw [repl_one]
      rfl
    · rw [PySem.StrLaws.replL_miss (y := [y]) (c := c) (r := r) (fun q => h (by simpa using q)), repl_one, List.map_cons, if_neg h]
theorem replace_rt (cs : List Nat) (y z : Nat) : PySem.Txt.replace (rt cs) (one y) (one z) = rt (cs.map fun c => if c = y then z else c) := by
  refine ext_str ?_
  rw [PySem.StrLaws.replace_list (by show 1 ≤ 1; decide), rt_list, rt_list]
  exact repl_one y z cs
theorem count_rt (cs : List Nat) (c : Nat) : PySem.Txt.count (rt cs) (one c) = ((cs.count c : Nat) : Int) := by
  have e : PySem.Txt.count (rt cs) ⟨#[c]⟩ = PyProof.Rows.cnt c (rt cs).cps.toList := PyProof.Rows.count_is (rt cs) c
  show PySem.Txt.count (rt cs) ⟨#[c]⟩ = _
  rw [e, rt_list]
  clear e
  induction cs with
  | nil => rfl
  | cons b r ih =>
    rw [PyProof.Rows.cnt_cons, ih]
    by_cases h : b = c
    · subst h
      rw [List.count_cons_self, if_pos rfl]
      omega
    · rw [List.count_cons_of_ne h, if_neg h]
      omega
theorem tx_rt (bs : List Bool) : tx bs = rt (bs.map cd) := ext_str (by rw [tx_list, rt_list])
theorem sgn_o : ("o" : Str) = one 111 := by decide +kernel
theorem sgn_f : ("." : Str) = one 46 := by decide +kernel
theorem sgn_a : ("a" : Str) = one 97 := by decide +kernel
theorem sgn_b : ("b" : Str) = one 98 := by decide +kernel
def nb (bs : List Bool) : Nat := bs.count true
theorem count_tx (bs : List Bool) : PySem.Txt.count (tx bs) "o" = ((nb bs : Nat) : Int) := by
  rw [tx_rt, sgn_o, count_rt]
  congr 1
  unfold nb
  induction bs with
  | nil => rfl
  | cons b r ih =>
    rw [List.map_cons]
    cases b with
    | true => rw [List.count_cons_self, ← ih]; exact List.count_cons_self
    | false =>
      have e1 : (cd false :: r.map cd).count 111 = (r.map cd).count 111 := List.count_cons_of_ne (by decide)
      have e2 : (false :: r).count true = r.count true := List.count_cons_of_ne (by decide)
      rw [e1, e2, ih]
theorem lob_tx (lo : List Bool) : PySem.Txt.replace (tx lo) "o" "b" = rt (lob lo) := by
  rw [tx_rt, sgn_o, sgn_b, replace_rt, List.map_map]
  congr 1
  exact List.map_congr_left fun b _ => by cases b <;> rfl
theorem loa_tx (lo : List Bool) : PySem.Txt.replace (tx lo) "o" "a" = rt (lo.map fun b => if b then 97 else 46) := by
  rw [tx_rt, sgn_o, sgn_a, replace_rt, List.map_map]
  congr 1
  exact List.map_congr_left fun b _ => by cases b <;> rfl
theorem lob_count (lo : List Bool) : (lob lo).count 98 = nb lo ∧ (lob lo).count 97 = 0 := by
  unfold lob nb
  induction lo with
  | nil => exact ⟨rfl, rfl⟩
  | cons b r ih =>
    rw [List.map_cons]
    cases b with
    | true => exact ⟨by show (98 :: _).count 98 = _; rw [List.count_cons_self, ih.1, List.count_cons_self], by show (98 :: _).count 97 = _; rw [List.count_cons_of_ne (by decide)]; exact ih.2⟩
    | false => exact ⟨by show (46 :: _).count 98 = _; rw [List.count_cons_of_ne (by decide), ih.1, List.count_cons_of_ne (by decide)], by show (46 :: _).count 97 = _; rw [List.count_cons_of_ne (by decide)]; exact ih.2⟩
theorem bds_len (hi : List Bool) : (bds hi).length = nb hi := by
  unfold bds nb
  rw [← List.countP_eq_length_filter]
  have h : hi = (List.range hi.length).map (fun i => hi.getD i false) := by
    refine List.ext_getElem (by simp) fun i h1 h2 => ?_
    simp [h1]
  conv => rhs; rw [h]
  rw [List.count_eq_countP, List.countP_map]
  refine List.countP_congr fun i _ => ?_
  simp
theorem lob_len (lo : List Bool) : (lob lo).length = lo.length := by unfold lob; rw [List.length_map]
theorem lob_ok (lo : List Bool) : ∀ c ∈ lob lo, c ∈ [97, 98, 46] := fun c hc => by
  unfold lob at hc
  obtain ⟨b, _, rfl⟩ := List.mem_map.mp hc
  cases b <;> decide
section
variable {hi lo : List Bool}
theorem rg_len : (rg hi lo).length = lo.length := by
  unfold rg
  rw [puts_len, lob_len]
theorem rg_ring (h2 : 2 ≤ lo.length) (h12 : lo.length ≤ 12) : Rg (rg hi lo) := ⟨by rw [rg_len]; exact h2, by rw [rg_len]; exact h12, puts_ok _ _ (lob_ok lo)⟩
theorem rg_low : (rg hi lo).map lowc = lo.map cd := by
  unfold rg
  rw [puts_low]
  unfold lob
  rw [List.map_map]
  exact List.map_congr_left fun b _ => by cases b <;> rfl
theorem rg_back : PySem.Txt.replace (PySem.Txt.replace (rt (rg hi lo)) "a" "o") "b" "o" = tx lo := by
  rw [sgn_a, sgn_b, sgn_o, replace_rt, replace_rt, tx_rt, ← rg_low (hi := hi), List.map_map]
  congr 1
  refine List.map_congr_left fun c _ => ?_
  show (if (if c = 97 then 111 else c) = 98 then 111 else if c = 97 then 111 else c) = lowc c
  unfold lowc
  repeat' split
  all_goals omega
theorem rg_count (hl : hi.length = lo.length) (hb : nb hi ≤ nb lo) : (rg hi lo).count 98 = nb lo - nb hi ∧ (rg hi lo).count 97 = nb hi := by
  obtain ⟨c8, c7⟩ := lob_count lo
  obtain ⟨h1, h2⟩ := puts_count (n := hi.length) (bds hi) (lob lo) (by rw [lob_len, hl]) bds_lt (by rw [bds_len, c8]; exact hb)
  unfold rg
  rw [h1, h2, c8, c7, bds_len]
  exact ⟨rfl, Nat.zero_add _⟩
theorem rg_self : rg lo lo = lo.map fun b => if b then 97 else 46 := by
  have hc := (rg_count (hi := lo) (lo := lo) rfl (Nat.le_refl _)).1
  rw [Nat.sub_self] at hc
  have hn : 98 ∉ rg lo lo := List.count_eq_zero.mp hc
  have hm := rg_low (hi := lo) (lo := lo)
  have ok : ∀ c ∈ rg lo lo, c ∈ [97, 98, 46] := puts_ok _ _ (lob_ok lo)
  refine List.ext_getElem (by rw [rg_len, List.length_map]) fun i h1 h2 => ?_
  rw [List.length_map] at h2
  have hg : lowc (rg lo lo)[i] = cd lo[i] := by
    have := congrArg (fun l => l[i]?) hm
    rw [List.getElem?_map, List.getElem?_map, List.getElem?_eq_getElem h1, List.getElem?_eq_getElem h2] at this
    exact Option.some.inj this
  have h3 : (rg lo lo)[i] ≠ 98 := fun z => hn (z ▸ List.getElem_mem h1)
  have h4 := ok _ (List.getElem_mem h1)
  rw [List.getElem_map]
  generalize (rg lo lo)[i] = c at *
  simp only [List.mem_cons, List.not_mem_nil, or_false] at h4
  rcases h4 with rfl | rfl | rfl
  · cases hb : lo[i] with
    | true => rfl
    | false => rw [hb] at hg; exact absurd hg (by decide)
  · exact absurd rfl h3
  · cases hb : lo[i] with
    | true => rw [hb] at hg; exact absurd hg (by decide)
    | false => rfl
end
end Hop

set_option Elab.async false
set_option linter.all false
set_option maxRecDepth 100000
namespace Hop
open PySem L2 HopR
def stp (b : Bool) : Nat := if b then 47 else 45
def inter (ps : List (Bool × Bool)) : List Bool := (ps.map fun p => [p.1, p.2]).flatten
theorem inter_len (ps : List (Bool × Bool)) : (inter ps).length = 2 * ps.length := by
  unfold inter
  induction ps with
  | nil => rfl
  | cons p r ih =>
    rw [List.map_cons, List.flatten_cons, List.length_append, ih, List.length_cons]
    show 2 + 2 * r.length = 2 * (r.length + 1)
    omega
theorem join_inter (ps : List (Bool × Bool)) : PySem.Txt.join "" (ps.map fun p => tx [p.1, p.2]) = tx (inter ps) := by
  refine ext_str ?_
  rw [join0_list, tx_list, List.map_map]
  unfold inter
  rw [List.map_flatten, List.map_map]
  congr 1
theorem inter_fits {ps : List (Bool × Bool)} (h : ps.length ≤ 30) : ((ps.map fun p => tx [p.1, p.2]).map (·.length)).sum + (ps.map fun p => tx [p.1, p.2]).length * ("" : Str).length ≤ 16777216 := by
  have e : ("" : Str).length = 0 := by decide
  have : ((ps.map fun p => tx [p.1, p.2]).map (·.length)).sum = 2 * ps.length := by
    clear h
    induction ps with
    | nil => rfl
    | cons p r ih =>
      rw [List.map_cons, List.map_cons, List.sum_cons, ih, tx_len, List.length_cons]
      show 2 + 2 * r.length = 2 * (r.length + 1)
      omega
  rw [this, e]
  omega
theorem steps_tx (bs : List Bool) : PySem.Txt.replace (PySem.Txt.replace (tx bs) "o" "/") "." "-" = rt (bs.map stp) := by
  rw [tx_rt, sgn_o, sgn_f, show ("/" : Str) = one 47 by decide +kernel, show ("-" : Str) = one 45 by decide +kernel, replace_rt, replace_rt, List.map_map, List.map_map]
  congr 1
  exact List.map_congr_left fun b _ => by cases b <;> rfl
section
variable {P : Program} {w : World} {K : PySem.W.Frag} {mg : Str → Option Value} {base : Heap} {d : Addr} {es : Array DictEntry} {n : Nat}
/-! ### _law_way -/
def spLWay : Sp := fun vs H Q _ => ∃ bs us, vs = [.str (tx bs), .str (tx us)] ∧ bs.length = us.length ∧ bs.length ≤ 30 ∧ ∀ H', Same H H' → Q (.str (rt (47 :: (inter (bs.zip us)).map stp ++ [45]))) H'
abbrev nLW : List Str := ["_law_row_here", "_law_other", "_law_signs", "_law_one", "_law_two"]
theorem scLWay : FnScope nLW ["_law_row_here", "_law_other"] (defScope sLWay) := ⟨rfl, rfl, rfl, by decide +kernel, rfl, by decide +kernel, by decide +kernel⟩
theorem ok_lway {f : Addr} {fd : FuncData} {k : Nat} (F : Fun K "_law_way" "_law_way" sLWay f fd) (T : Txt K w mg d es n) : FnOk P w K mg base CX0 (k + 1) f fd ["_law_row_here", "_law_other"] spLWay := by
  refine okT F scLWay (by decide +kernel) (by decide) (fun vs H Q E h => ?_) (fun cdv A outer s H vs Q E hr h => ?_)
  · obtain ⟨bs, us, rfl, _⟩ := h
    rfl
  · obtain ⟨bs, us, rfl, hl, h30, q⟩ := h
    have nd := scLWay.nd
    refine ⟨_, psst_cons (PST.of (ps_set (i := 2) nd rfl (.inl rfl) (pe_join pe_str (pe_lc (own := [("_law_one", 3), ("_law_two", 4)]) (g := gTup K 2 (gCons (gName 3) (gCons (gName 4) gNil))) (tt := tYes) rfl nd (pi_zipS (by rfl) T.zip (pa_cons (pv 0) (pa_cons (pv 1) pa_nil))) (blkOk_by (own := [("_law_one", 3), ("_law_two", 4)]) (N := nLW) (sc := defScope sLWay) (by decide +kernel))
        (fun _ _ _ _ _ => pg_tup (by rfl) (pgs_cons (pg_name (i := 3) nd rfl (.inl rfl)) (pgs_cons (pg_name (i := 4) nd rfl (.inl rfl)) pgs_nil))) (fun _ _ _ _ _ => pts_nil) (fun _ _ _ _ _ => pe_op op_add_str (pv 3) (pv 4))))))
      (CwR.psst_one (CwR.pst_ret (CwR.pet_op op_add_str (CwR.pet_op op_add_str (CwR.PET.of pe_str) (CwR.pet_replT (CwR.pet_replC (pv 2)))) (CwR.PET.of pe_str)))), ?_⟩
    have zl : (bs.zip us).length = bs.length := by rw [List.length_zip, hl, Nat.min_self]
    refine ⟨⟨_, rfl⟩, .str (tx bs), rfl, .str (tx us), rfl, tx bs, tx us, rfl, fun D hD => ?_⟩
    refine lc_it HopR.walk_tup (fun i H1 => Same H H1 ∧ H1 D = some (.lst ((((bs.zip us).take i).map fun p => tx [p.1, p.2]).map V.str))) ⟨same_upd hD, upd_same⟩ (fun _ _ _ _ => trivial) ?_ ?_
    · rintro i x H1 H2 hi ⟨sm, eD⟩ ⟨t, xs, rfl, nt, rfl, c, e, hc, he, rfl⟩
      rw [← Array.getElem?_toList, tx_list, List.getElem?_map] at hc he
      obtain ⟨b, hb, rfl⟩ := Option.map_eq_some_iff.mp hc
      obtain ⟨u, hu, rfl⟩ := Option.map_eq_some_iff.mp he
      have hz : (bs.zip us)[i]? = some (b, u) := by rw [List.getElem?_zip_eq_some]; exact ⟨hb, hu⟩
      have hil : i < bs.length := (List.getElem?_eq_some_iff.mp hb).1
      have nDt : D ≠ t := ne_of_none eD nt
      refine ⟨t, _, rfl, SqT.of upd_same, rfl, _, _, rfl, _, _, rfl, rfl, rfl, .str ⟨#[cd b]⟩, rfl, .str ⟨#[cd u]⟩, rfl, _, _, rfl, rfl, (by show 1 + 1 ≤ sizeLine; decide), _, (by rw [upd_ne nDt]; exact eD), ?_, same_new hD (same_new (sm.free nt) sm), ?_⟩
      · rw [List.length_map, List.length_map, List.length_take]
        exact fit' (by omega)
      · rw [upd_same, List.take_add_one, hz, List.map_append, List.map_append]
        rfl
    rintro H1 ⟨sm, eD⟩
    have eD : H1 D = some (.lst (((bs.zip us).map fun p => tx [p.1, p.2]).map V.str)) := by
      rw [eD, List.take_of_length_le]
      show (bs.zip us).length ≤ min (tx bs).length (tx us).length
      rw [tx_len, tx_len, zl]
      omega
    refine ⟨"", D, _, rfl, rfl, .inl (SqL.of eD), inter_fits (by omega), ?_⟩
    rw [join_inter]
    have il : (tx (inter (bs.zip us))).length ≤ 60 := by
      rw [tx_len, inter_len, zl]
      omega
    have l1 : ("/" : Str).length = 1 := by decide +kernel
    have l2 : ("-" : Str).length = 1 := by decide +kernel
    have rl : (PySem.Txt.replace (tx (inter (bs.zip us))) "o" "/").length = (tx (inter (bs.zip us))).length := by
      rw [tx_rt, sgn_o, show ("/" : Str) = one 47 by decide +kernel, replace_rt, rt_len, rt_len, List.length_map]
    refine ⟨.str (tx (inter (bs.zip us))), rfl, tx (inter (bs.zip us)), rfl, by rw [l1]; omega, _, rfl, by rw [l2, rl]; omega, ?_⟩
    rw [steps_tx]
    have ml : (rt ((inter (bs.zip us)).map stp)).length ≤ 60 := by
      rw [rt_len, List.length_map, ← tx_len]
      exact il
    refine ⟨_, _, rfl, rfl, by rw [l1]; exact fit (by omega), _, _, rfl, rfl, by rw [strLen_append, l1, l2]; exact fit (by omega), ?_⟩
    have e : ("/" : Str) ++ rt ((inter (bs.zip us)).map stp) ++ "-" = rt (47 :: (inter (bs.zip us)).map stp ++ [45]) := by
      rw [show ("/" : Str) = rt [47] by decide +kernel, show ("-" : Str) = rt [45] by decide +kernel, rt_app, rt_app]
      rfl
    rw [e]
    exact q H1 sm
end
end Hop

set_option Elab.async false
set_option linter.all false
set_option maxRecDepth 100000
namespace Hop
open PySem L2 HopR
theorem cat_low : ∀ m < 42, ∀ k ≤ m, cat k < 18446744073709551616 ∨ cat (m - k) < 18446744073709551616 := by decide +kernel
def cats (m : Nat) : List Nat := (List.range m).map cat
theorem cats_len (m : Nat) : (cats m).length = m := by unfold cats; rw [List.length_map, List.length_range]
theorem cats_get {m k : Nat} (h : k < m) : (cats m)[k]? = some (cat k) := by
  unfold cats
  rw [List.getElem?_map, List.getElem?_range h]
  rfl
theorem cats_succ (m : Nat) : cats (m + 1) = cats m ++ [cat m] := by
  unfold cats
  rw [List.range_succ, List.map_append]
  rfl
section
variable {P : Program} {w : World} {K : PySem.W.Frag} {mg : Str → Option Value} {base : Heap} {d : Addr} {es : Array DictEntry} {n : Nat}
/-! ### _law_many_ways -/
def spMany : Sp := fun vs H Q _ => vs = [.int 41] ∧ ∀ H' p, Same H H' → H p = none → H' p = some (.lst ((cats 42).map wv)) → Q (.ref p) H'
abbrev nMW : List Str := ["_law_most", "_law_found", "_law_many", "_law_k"]
theorem scMany : FnScope nMW ["_law_most"] (defScope sMany) := ⟨rfl, rfl, rfl, by decide +kernel, rfl, by decide +kernel, by decide +kernel⟩
theorem ok_many {f : Addr} {fd : FuncData} {k : Nat} (F : Fun K "_law_many_ways" "_law_many_ways" sMany f fd) (T : Txt K w mg d es n) : FnOk P w K mg base CX0 (k + 1) f fd ["_law_most"] spMany := by
  refine F.ok scMany (fun vs H Q E h => ?_) (fun cdv A outer s H vs Q E hr h => ?_)
  · obtain ⟨rfl, _⟩ := h
    rfl
  · obtain ⟨rfl, q⟩ := h
    have nd := scMany.nd
    refine ⟨_, pss_cons (ps_set (i := 1) nd rfl (.inr rfl) (pe_lst (pa_cons pe_int pa_nil)))
      (pss_cons (ps_for PassesOwn.never rfl (pi_range2 (by rfl) T.range (pa_cons pe_int (pa_cons (pe_op op_add (pv 0) pe_int) pa_nil))) (pg_name (i := 2) nd rfl (.inr rfl))
        (pss_one (ps_expr (pe_bm PySem.F.plainAttrs_list PySem.F.slot_list_append PySem.F.type_list_append mt_append (pv 1) (pa_cons (pe_callB (cr_sum rfl) (by rfl) T.sum (by decide +kernel) (pa_cons
          (pe_lc (own := [("_law_k", 3)]) (g := gName 3) (tt := tYes) rfl nd (pi_range1 (by rfl) T.range (pa_cons (pv 2) pa_nil)) (blkOk_by (own := [("_law_k", 3)]) (N := nMW) (sc := defScope sMany) (by decide +kernel)) (fun _ _ _ _ _ => pg_name (i := 3) nd rfl (Or.inl rfl)) (fun _ _ _ _ _ => pts_nil)
            (fun _ _ _ _ _ => pe_op op_mul (pe_ix (show IxR _ (rIxL K) from ix_list) (pv 1) (pv 3) (fun _ _ => rfl)) (pe_ix (show IxR _ (rIxL K) from ix_list) (pv 1) (pe_op op_sub (pe_op op_sub (pv 2) pe_int) (pv 3)) (fun _ _ => rfl)))) pa_nil)) pa_nil)))))
      (pss_one (ps_ret (pv 1)))), ?_⟩
    refine ⟨(by show 1 ≤ sizeLine; decide), fun o no => ?_⟩
    have t1 := same_upd (o := .lst [.int 1]) no
    have e1 : upd H o (.lst [.int 1]) o = some (.lst ((cats 1).map wv)) := upd_same
    generalize upd H o (.lst [.int 1]) = H1 at t1 e1
    refine ⟨.int 41, rfl, _, _, rfl, rfl, 1, 42, rfl, ⟨by decide, by decide, by decide, by decide⟩, ?_⟩
    refine for_range (lo := 1) (n := 41) (fun i σ H2 => ∃ y2 y3, σ = [some (.int 41), some (.ref o), y2, y3] ∧ Same H H2 ∧ H2 o = some (.lst ((cats (i + 1)).map wv))) ⟨_, _, rfl, t1, e1⟩ ?_ ?_
    · rintro i σ H2 hi ⟨y2, y3, rfl, s2, e2⟩
      refine ⟨.ref o, rfl, .inl ⟨rfl, _, SqL.of e2⟩, .int _, rfl, _, rfl, by omega, by omega, fun D hD => ?_⟩
      rw [show ((1 : Int) + (i : Int)).toNat = i + 1 by omega]
      have nDo : o ≠ D := ne_of_none e2 hD
      refine lc_range (lo := 0) (n := i + 1) (fun j H3 => Same H2 H3 ∧ H3 D = some (.lst (((List.range j).map fun k => cat k * cat (i - k)).map wv))) ⟨same_upd hD, upd_same⟩ ?_ ?_
      · rintro j H3 hj ⟨s3, e3⟩
        rw [Int.zero_add]
        have eo := s3 _ _ e2
        have g1 : atI ((cats (i + 1)).map wv) (j : Int) = some (.int ((cat j : Nat) : Int)) := atI_nat (by rw [List.getElem?_map, cats_get hj]; rfl)
        have g2 : atI ((cats (i + 1)).map wv) ((1 : Int) + (i : Int) - 1 - (j : Int)) = some (.int ((cat (i - j) : Nat) : Int)) := by
          rw [show (1 : Int) + (i : Int) - 1 - (j : Int) = ((i - j : Nat) : Int) by omega]
          exact atI_nat (by rw [List.getElem?_map, cats_get (by omega)]; rfl)
        have hm : ((-(2 ^ 64) : Int) < ((cat j : Nat) : Int) ∧ ((cat j : Nat) : Int) < 2 ^ 64) ∨ ((-(2 ^ 64) : Int) < ((cat (i - j) : Nat) : Int) ∧ ((cat (i - j) : Nat) : Int) < 2 ^ 64) := by
          rcases cat_low i (by omega) j (by omega) with z | z
          · exact .inl ⟨by omega, by omega⟩
          · exact .inr ⟨by omega, by omega⟩
        refine ⟨rfl, .ref o, rfl, .int (j : Int), rfl, o, _, _, _, rfl, rfl, SqL.of eo, g1, .ref o, rfl, .int _, rfl, _, _, rfl, rfl, .int (j : Int), rfl, _, _, rfl, rfl, o, _, _, _, rfl, rfl, SqL.of eo, g2, _, _, rfl, rfl, hm, _, e3, ?_, same_new hD s3, ?_⟩
        · rw [List.length_map, List.length_map, List.length_range]
          exact fit' (by omega)
        · rw [upd_same, List.range_succ, List.map_append, List.map_append]
          show some (HO.lst (_ ++ [V.int (((cat j : Nat) : Int) * ((cat (i - j) : Nat) : Int))])) = _
          rw [← Int.natCast_mul]
          rfl
      rintro H3 ⟨s3, e3⟩
      have hsum : (((List.range (i + 1)).map fun k => ((cat k * cat (i - k) : Nat) : Int)).sum) = ((cat (i + 1) : Nat) : Int) := by
        rw [← cat_sum i hi]
        generalize List.range (i + 1) = L
        induction L with
        | nil => rfl
        | cons a r ih => rw [List.map_cons, List.sum_cons, ih, List.map_cons, List.sum_cons, Int.natCast_add]
      have e3' : H3 D = some (.lst ((((List.range (i + 1)).map fun k => ((cat k * cat (i - k) : Nat) : Int))).map V.int)) := by
        rw [e3, List.map_map, List.map_map]
        rfl
      refine ⟨D, _, rfl, SqL.of e3', ?_⟩
      rw [hsum]
      refine ⟨o, _, _, rfl, rfl, s3 _ _ e2, by rw [List.length_map, cats_len]; exact fit' (by omega), ?_⟩
      refine ⟨_, _, rfl, same_new no (s2.trans s3), ?_⟩
      rw [upd_same, cats_succ (i + 1), List.map_append]
      rfl
    · rintro σ H2 ⟨y2, y3, rfl, s2, e2⟩
      exact ⟨.ref o, rfl, q H2 o s2 no e2⟩
end
end Hop

set_option Elab.async false
set_option linter.all false
set_option maxRecDepth 100000
namespace Hop
open PySem L2 HopR
structure Er (K : PySem.W.Frag) (mg : Str → Option Value) (NN : Addr) : Prop where
  gNN : mg "NoNumber" = some (.ref NN)
  N : Xc K NN bmV "ValueError.__new__"
section
variable {P : Program} {w : World} {K : PySem.W.Frag} {mg : Str → Option Value} {base : Heap} {d : Addr} {es : Array DictEntry} {n : Nat} {NN : Addr}
def spWhole : Sp := fun vs H Q _ => ∃ i : Int, vs = [.int i] ∧ Q (.bl true) H
theorem scWhole : FnScope ["thing"] ["thing"] (defScope sIsWhole) := ⟨rfl, rfl, rfl, by decide +kernel, rfl, by decide +kernel, by decide +kernel⟩
theorem ok_whole {f : Addr} {fd : FuncData} {k : Nat} (F : Fun K "is_whole" "is_whole" sIsWhole f fd) (T : Txt K w mg d es n) : FnOk P w K mg base CX0 (k + 1) f fd ["thing"] spWhole := by
  refine F.ok scWhole (fun vs H Q E h => ?_) (fun cdv A outer s H vs Q E hr h => ?_)
  · obtain ⟨i, rfl, _⟩ := h
    rfl
  · obtain ⟨i, rfl, q⟩ := h
    refine ⟨_, pss_one (ps_ret (pe_and (pe_callB call_isi (by rfl) T.isi (by decide +kernel) (pa_cons (pv 0) (pa_cons (pe_bltn (v := .ty "int") (by rfl) T.int (by decide +kernel) rfl) pa_nil)))
      (pe_one (pe_not (pe_callB call_isi (by rfl) T.isi (by decide +kernel) (pa_cons (pv 0) (pa_cons (pe_bltn (v := .ty "bool") (by rfl) T.bool (by decide +kernel) rfl) pa_nil))))))), ?_⟩
    refine ⟨.int i, rfl, .int i, .ty "int", .type "int", .type "int", true, rfl, .ty _, .base (.int _), kit_ty (by decide +kernel), true, rfl, ?_⟩
    exact ⟨.int i, rfl, .int i, .ty "bool", .type "int", .type "bool", false, rfl, .ty _, .base (.int _), kit_ty (by decide +kernel), false, rfl, q⟩
def spOdd (K : PySem.W.Frag) : Sp := fun vs H Q _ => ∃ x, vs = [x] ∧ Odd K H x ∧ Q (.bl false) H
theorem ok_odd {f : Addr} {fd : FuncData} {k : Nat} (F : Fun K "is_whole" "is_whole" sIsWhole f fd) (T : Txt K w mg d es n) : FnOk P w K mg base CX0 (k + 1) f fd ["thing"] (spOdd K) := by
  refine F.ok scWhole (fun vs H Q E h => ?_) (fun cdv A outer s H vs Q E hr h => ?_)
  · obtain ⟨i, rfl, _⟩ := h
    rfl
  · obtain ⟨x, rfl, ⟨t, bI, ty, k1, k2⟩, q⟩ := h
    refine ⟨_, pss_one (ps_ret (pe_and (pe_callB call_isi (by rfl) T.isi (by decide +kernel) (pa_cons (pv 0) (pa_cons (pe_bltn (v := .ty "int") (by rfl) T.int (by decide +kernel) rfl) pa_nil)))
      (pe_one (pe_not (pe_callB call_isi (by rfl) T.isi (by decide +kernel) (pa_cons (pv 0) (pa_cons (pe_bltn (v := .ty "bool") (by rfl) T.bool (by decide +kernel) rfl) pa_nil))))))), ?_⟩
    refine ⟨x, rfl, x, .ty "int", t, .type "int", bI, rfl, .ty _, ty, k1, bI, rfl, ?_⟩
    cases bI with
    | false => exact q
    | true => exact ⟨x, rfl, x, .ty "bool", t, .type "bool", true, rfl, .ty _, ty, k2 rfl, true, rfl, q⟩
theorem scNeedNum : FnScope ["thing", "least", "most"] ["thing", "least", "most"] (defScope sNeedNum) := ⟨rfl, rfl, rfl, by decide +kernel, rfl, by decide +kernel, by decide +kernel⟩
def spNN (K : PySem.W.Frag) (NN : Addr) : Sp := fun vs H Q E => ∃ (x : V) (lo hi : Int), vs = [x, .int lo, .int hi] ∧ ((∃ i : Int, x = .int i ∧ lo ≤ i ∧ i ≤ hi ∧ Q .non H) ∨ (Odd K H x ∧ E (.ref NN) none H) ∨ (∃ i : Int, x = .int i ∧ (i < lo ∨ hi < i) ∧ E (.ref NN) none H))
theorem ok_neednum {f f1 : Addr} {fd g1 : FuncData} {k : Nat} (F : Fun K "need_number" "need_number" sNeedNum f fd) (N1 : Fn K mg "is_whole" sIsWhole ["thing"] f1 g1) (T : Txt K w mg d es n) (Z : Er K mg NN) :
    FnOk P w K mg base (L2.CX P w) (k + 2) f fd ["thing", "least", "most"] (spNN K NN) := by
  have G1 : FnOk P w K mg base CX0 (k + 1) f1 g1 ["thing"] spWhole := ok_whole N1.F T
  have G0 : FnOk P w K mg base CX0 (k + 1) f1 g1 ["thing"] (spOdd K) := ok_odd N1.F T
  refine F.okX scNeedNum (fun vs H Q E h => ?_) (fun cdv A outer s H vs Q E hr h => ?_)
  · obtain ⟨x, lo, hi, rfl, _⟩ := h
    rfl
  · obtain ⟨x, lo, hi, rfl, h⟩ := h
    rcases h with ⟨i, rfl, h1, h2, q⟩ | ⟨ox, e⟩ | ⟨i, rfl, hi', e⟩
    · refine ⟨_, pss_one (ps_if (PW.pt (pw_or (pt_not (pt_val (pe_call G1 hr (by rfl) N1.g N1.F.kp N1.b .nil pass0 (pa_cons (pv 0) pa_nil)))) (pw_or (pt_cmpR op_lt (pv 0) (pv 1) (nomark _)) (pw_or1 (pt_cmpR op_gt (pv 0) (pv 2) (nomark _)))))) (pss_one ps_never) pss_nil), ?_⟩
      refine ⟨.int i, rfl, i, rfl, true, rfl, iteF ⟨.int i, rfl, .int lo, rfl, _, _, rfl, rfl, _, rfl, ?_⟩⟩
      rw [decide_eq_false (show ¬ i < lo by omega)]
      refine iteF ⟨.int i, rfl, .int hi, rfl, _, _, rfl, rfl, _, rfl, ?_⟩
      rw [decide_eq_false (show ¬ i > hi by omega)]
      exact iteF q
    · refine ⟨_, pss_one (ps_if (PW.pt (pw_or (pt_not (pt_val (pe_call G0 hr (by rfl) N1.g N1.F.kp N1.b .nil pass0 (pa_cons (pv 0) pa_nil)))) (pw_or (pt_cmpR op_lt (pv 0) (pv 1) (nomark _)) (pw_or1 (pt_cmpR op_gt (pv 0) (pv 2) (nomark _))))))
        (pss_one (ps_raise rfl (takes_of rfl rfl rfl rfl) (pmk_own PySem.F.excBase_ValueError Z.N.x Z.gNN Z.N.k (raises_own Z.N.be Z.N.ty) rfl))) pss_nil), ?_⟩
      exact ⟨x, rfl, x, rfl, ox, false, rfl, iteT e⟩
    · refine ⟨_, pss_one (ps_if (PW.pt (pw_or (pt_not (pt_val (pe_call G1 hr (by rfl) N1.g N1.F.kp N1.b .nil pass0 (pa_cons (pv 0) pa_nil)))) (pw_or (pt_cmpR op_lt (pv 0) (pv 1) (nomark _)) (pw_or1 (pt_cmpR op_gt (pv 0) (pv 2) (nomark _))))))
        (pss_one (ps_raise rfl (takes_of rfl rfl rfl rfl) (pmk_own PySem.F.excBase_ValueError Z.N.x Z.gNN Z.N.k (raises_own Z.N.be Z.N.ty) rfl))) pss_nil), ?_⟩
      refine ⟨.int i, rfl, i, rfl, true, rfl, iteF ⟨.int i, rfl, .int lo, rfl, _, _, rfl, rfl, _, rfl, ?_⟩⟩
      by_cases h0 : i < lo
      · rw [decide_eq_true h0]
        exact iteT e
      · rw [decide_eq_false h0]
        refine iteF ⟨.int i, rfl, .int hi, rfl, _, _, rfl, rfl, _, rfl, ?_⟩
        rw [decide_eq_true (show i > hi by omega)]
        exact iteT e
/-! ### ways_many -/
def spWays (K : PySem.W.Frag) (NN : Addr) : Sp := fun vs H Q E => ∃ x : V, vs = [x] ∧ ((∃ m : Nat, x = .int (m : Int) ∧ m ≤ 41 ∧ Q (.int ((cat m : Nat) : Int)) H) ∨ (Odd K H x ∧ E (.ref NN) none H) ∨ (∃ i : Int, x = .int i ∧ (i < 0 ∨ 41 < i) ∧ E (.ref NN) none H))
theorem scWays : FnScope ["many", "result", "half"] ["many"] (defScope sWays) := ⟨rfl, rfl, rfl, by decide +kernel, rfl, by decide +kernel, by decide +kernel⟩
theorem ok_ways {f f1 f2 : Addr} {fd g1 g2 : FuncData} {k : Nat} (F : Fun K "ways_many" "ways_many" sWays f fd) (N1 : Fn K mg "is_whole" sIsWhole ["thing"] f1 g1) (N2 : Fn K mg "need_number" sNeedNum ["thing", "least", "most"] f2 g2) (T : Txt K w mg d es n) (Z : Er K mg NN) :
    FnOk P w K mg base (L2.CX P w) (k + 3) f fd ["many"] (spWays K NN) := by
  have GN : FnOk P w K mg base (L2.CX P w) (k + 2) f2 g2 ["thing", "least", "most"] (spNN K NN) := ok_neednum N2.F N1 T Z
  refine F.okX scWays (fun vs H Q E h => ?_) (fun cdv A outer s H vs Q E hr h => ?_)
  · obtain ⟨x, rfl, _⟩ := h
    rfl
  · obtain ⟨x, rfl, h⟩ := h
    have nd := scWays.nd
    obtain ⟨tm, gm⟩ := T.most
    rcases h with ⟨m, rfl, hm, q⟩ | h
    · refine ⟨_, PSs.nox (pss_cons (ps_expr (pe_call GN hr (by rfl) N2.g N2.F.kp N2.b .nil passL (pa_cons (pv 0) (pa_cons pe_int (pa_cons (pe_glob (v := .int 41) (by rfl) gm ⟨_, rfl⟩) pa_nil)))))
        (pss_cons (ps_set (i := 1) nd rfl (.inl rfl) pe_int)
        (pss_cons (ps_for PassesOwn.never rfl (pi_range1 (by rfl) T.range (pa_cons (pv 0) pa_nil)) (pg_name (i := 2) nd rfl (.inl rfl)) (pss_one (ps_set (i := 1) nd rfl (.inl rfl) (pe_op op_fdiv (pe_op op_mul (pv 1) (pe_op op_add (pe_op op_mul pe_int (pv 2)) pe_int)) (pe_op op_add (pv 2) pe_int)))))
        (pss_one (ps_ret (pv 1)))))), ?_⟩
      refine ⟨.int (m : Int), rfl, .int (m : Int), 0, 41, rfl, .inl ⟨(m : Int), rfl, by omega, by omega, ?_⟩⟩
      refine ⟨.int (m : Int), rfl, _, rfl, by omega, by omega, ?_⟩
      rw [Int.toNat_natCast]
      refine for_range (lo := 0) (n := m) (fun i σ H1 => ∃ y2, σ = [some (.int (m : Int)), some (.int ((cat i : Nat) : Int)), y2] ∧ H1 = H) ⟨_, rfl, rfl⟩ ?_ ?_
      · rintro i σ H1 hi ⟨y2, rfl, rfl⟩
        rw [Int.zero_add]
        refine ⟨.int _, rfl, .int (i : Int), rfl, _, _, rfl, rfl, .inl ⟨by decide, by decide⟩, _, _, rfl, rfl, _, _, rfl, rfl, .inr ⟨by omega, by omega⟩, .int (i : Int), rfl, _, _, rfl, rfl, _, _, rfl, rfl, ⟨by omega, by omega⟩, some (.int (i : Int)), ?_, rfl⟩
        rw [← cat_int i]
        rfl
      · rintro σ H1 ⟨y2, rfl, rfl⟩
        exact ⟨.int _, rfl, q⟩
    · refine ⟨_, pss_cons (ps_expr (pe_call (E := E) GN hr (by rfl) N2.g N2.F.kp N2.b .nil (passes_call (E := E) (takes_of rfl rfl rfl rfl) (fun _ _ _ _ h => h)) (pa_cons (pv 0) (pa_cons pe_int (pa_cons (pe_glob (v := .int 41) (by rfl) gm ⟨_, rfl⟩) pa_nil)))))
        (pss_cons ps_never (pss_cons ps_never (pss_one ps_never))), ?_⟩
      exact ⟨x, rfl, x, 0, 41, rfl, .inr h⟩
end
end Hop

set_option Elab.async false
set_option linter.all false
set_option maxRecDepth 100000
namespace Hop
open PySem L2 HopR
def tc (cs : List Nat) : List V := cs.map fun c => V.str (one c)
theorem tc_len (cs : List Nat) : (tc cs).length = cs.length := List.length_map ..
theorem tc_set (cs : List Nat) (k c : Nat) : (tc cs).set k (.str (one c)) = tc (cs.set k c) := by
  unfold tc
  rw [List.map_set]
theorem tc_at {cs : List Nat} {i : Nat} (h : i < cs.length) : atI (tc cs) (i : Int) = some (.str (one cs[i])) := atI_nat (by
  unfold tc
  rw [List.getElem?_map, List.getElem?_eq_getElem h]
  rfl)
theorem tc_one (cs : List Nat) : tc cs = (cs.map one).map V.str := by
  unfold tc
  rw [List.map_map]
  rfl
theorem ixN_lo {n j : Nat} (hj : j < n) : ixN n (j : Int) = some j := by
  unfold ixN
  rw [if_pos (by omega), if_pos (by omega)]
  simp
theorem sizesW : ∀ z ∈ ([10, 62, 62, 1000000000] : List Int), SizeOk z := by
  intro z hz
  simp only [List.mem_cons, List.not_mem_nil, or_false] at hz
  rcases hz with rfl | rfl | rfl | rfl <;> exact ⟨by decide, by decide⟩
theorem drawsW (c : Int) : ∃ d0 d1 d2 d3 : Int, draws c 0 [10, 62, 62, 1000000000] = [d0, d1, d2, d3] ∧ 0 ≤ d0 ∧ d0 < 10 ∧ 0 ≤ d3 := by
  have hl := draws_len [10, 62, 62, 1000000000] c 0
  match hd : draws c 0 [10, 62, 62, 1000000000], hl with
  | [d0, d1, d2, d3], _ =>
    have h0 := draws_ok [10, 62, 62, 1000000000] c 0 (fun z hz => (sizesW z hz).1) 0 d0 10 (by rw [hd]; rfl) rfl
    have h3 := draws_ok [10, 62, 62, 1000000000] c 0 (fun z hz => (sizesW z hz).1) 3 d3 1000000000 (by rw [hd]; rfl) rfl
    exact ⟨d0, d1, d2, d3, rfl, h0.1, h0.2, h3.1⟩
/-- the other step -/
def oth (c : Nat) : Nat := if c = 47 then 45 else 47
def kvW : List (Key × V) := mergeK [] [(Sum.inr "/", .str "-"), (Sum.inr "-", .str "/")]
theorem kvW_val {c : Nat} (h : c = 47 ∨ c = 45) : valV kvW (Sum.inr (one c)) = some (.str (one (oth c))) := by
  have h1 : valV kvW (Sum.inr "/") = some (.str "-") := rfl
  have h2 : valV kvW (Sum.inr "-") = some (.str "/") := rfl
  rcases h with rfl | rfl
  · rw [show oth 47 = 45 from rfl, show one 47 = ("/" : Str) by decide +kernel, show one 45 = ("-" : Str) by decide +kernel]
    exact h1
  · rw [show oth 45 = 47 from rfl, show one 47 = ("/" : Str) by decide +kernel, show one 45 = ("-" : Str) by decide +kernel]
    exact h2
def Steps (cs : List Nat) : Prop := ∀ x ∈ cs, x = 47 ∨ x = 45
section
variable {P : Program} {w : World} {K : PySem.W.Frag} {mg : Str → Option Value} {base : Heap} {d : Addr} {es : Array DictEntry} {n : Nat}
/-! ### _law_whole -/
def spWholeI : Sp := fun vs H Q _ => ∃ i : Int, vs = [.int i] ∧ Q (.bl true) H
theorem scWholeI : FnScope ["_law_found"] ["_law_found"] (defScope sWhole) := ⟨rfl, rfl, rfl, by decide +kernel, rfl, by decide +kernel, by decide +kernel⟩
theorem ok_wholeI {f : Addr} {fd : FuncData} {k : Nat} (F : Fun K "_law_whole" "_law_whole" sWhole f fd) (T : Txt K w mg d es n) : FnOk P w K mg base CX0 (k + 1) f fd ["_law_found"] spWholeI := by
  refine F.ok scWholeI (fun vs H Q E h => ?_) (fun cdv A outer s H vs Q E hr h => ?_)
  · obtain ⟨i, rfl, _⟩ := h
    rfl
  · obtain ⟨i, rfl, q⟩ := h
    refine ⟨_, pss_one (ps_ret (pe_and (pe_callB call_isi (by rfl) T.isi (by decide +kernel) (pa_cons (pv 0) (pa_cons (pe_bltn (v := .ty "int") (by rfl) T.int (by decide +kernel) rfl) pa_nil)))
      (pe_one (pe_not (pe_callB call_isi (by rfl) T.isi (by decide +kernel) (pa_cons (pv 0) (pa_cons (pe_bltn (v := .ty "bool") (by rfl) T.bool (by decide +kernel) rfl) pa_nil))))))), ?_⟩
    refine ⟨.int i, rfl, .int i, .ty "int", .type "int", .type "int", true, rfl, .ty _, .base (.int _), kit_ty (by decide +kernel), true, rfl, ?_⟩
    exact ⟨.int i, rfl, .int i, .ty "bool", .type "int", .type "bool", false, rfl, .ty _, .base (.int _), kit_ty (by decide +kernel), false, rfl, q⟩
/-! ### _law_bent_way -/
def spBentW : Sp := fun vs H Q _ => ∃ (c : Int) (cs : List Nat), vs = [.int c, .str (rt cs)] ∧ Steps cs ∧ 1 ≤ cs.length ∧ cs.length ≤ 62 ∧ ∀ H' (z : Str), Same H H' → z.length ≤ 200 → Q (.str z) H'
abbrev nBW : List Str := ["_law_cell", "_law_way_here", "_law_draw", "_law_at", "_law_two", "_law_far", "_law_steps", "_law_other", "_law_some", "_law_step", "_law_k"]
theorem scBentW : FnScope nBW ["_law_cell", "_law_way_here"] (defScope sBentW) := ⟨rfl, rfl, rfl, by decide +kernel, rfl, by decide +kernel, by decide +kernel⟩
set_option maxHeartbeats 4000000 in
theorem ok_bentw {f f1 : Addr} {fd fd1 : FuncData} {k : Nat} (F : Fun K "_law_bent_way" "_law_bent_way" sBentW f fd) (N1 : Fn K mg "_law_drawn" sDrawn ["_law_cell", "_law_sizes"] f1 fd1) (T : Txt K w mg d es n) :
    FnOk P w K mg base CX0 (k + 2) f fd ["_law_cell", "_law_way_here"] spBentW := by
  have G1 : FnOk P w K mg base CX0 (k + 1) f1 fd1 ["_law_cell", "_law_sizes"] (spDrawn K) := ok_drawn N1.F T.len T.range
  refine F.ok scBentW (fun vs H Q E h => ?_) (fun cdv A outer s H vs Q E hr h => ?_)
  · obtain ⟨c, cs, rfl, _⟩ := h
    rfl
  · obtain ⟨c, cs, rfl, hS, h1, h62, q⟩ := h
    have nd := scBentW.nd
    have hu := hu_of hr
    have hz : (rt cs).length ≤ sizeLine := rt_fit (by omega)
    refine ⟨_, pss_cons (ps_asg (pe_call G1 hr (by rfl) N1.g N1.F.kp N1.b .nil pass0 (pa_cons (pv 0) (pa_cons (pe_lst (pa_cons pe_int (pa_cons pe_int (pa_cons pe_int (pa_cons (pe_op op_pow pe_int pe_int) pa_nil))))) pa_nil)))
        (pg_lst rfl (pgs_cons (pg_name (i := 2) nd rfl (.inl rfl)) (pgs_cons (pg_name (i := 3) nd rfl (.inl rfl)) (pgs_cons (pg_name (i := 4) nd rfl (.inl rfl)) (pgs_cons (pg_name (i := 5) nd rfl (.inr rfl)) pgs_nil))))))
      (pss_cons (ps_set (i := 3) nd rfl (.inl rfl) (pe_op op_mod (pv 3) (pe_callB call_len_str (by rfl) T.len PySem.boot_len (pa_cons (pv 1) pa_nil))))
      (pss_cons (ps_set (i := 4) nd rfl (.inl rfl) (pe_op op_mod (pv 4) (pe_callB call_len_str (by rfl) T.len PySem.boot_len (pa_cons (pv 1) pa_nil))))
      (pss_cons (ps_set (i := 6) nd rfl (.inl rfl) (pe_callTy (cr_listT rfl) (by rfl) T.list (by decide +kernel) (pa_cons (pv 1) pa_nil)))
      (pss_cons (ps_asg (pe_tup (pa_cons (pe_ix ix_list (pv 6) (pv 4) (fun _ _ => rfl)) (pa_cons (pe_ix ix_list (pv 6) (pv 3) (fun _ _ => rfl)) pa_nil))) (pg_tup rfl (pgs_cons (pg_sub (pv 6) (pv 3) set_list) (pgs_cons (pg_sub (pv 6) (pv 4) set_list) pgs_nil))))
      (pss_cons (ps_set (i := 7) nd rfl (.inr rfl) (pe_disp (pps_cons pe_str pe_str (pps_cons pe_str pe_str pps_nil)) (by rfl) (by rfl) (fun z => by cases z) (by decide)))
      (pss_cons (ps_set (i := 8) nd rfl (.inl rfl) (pe_lst (pa_cons (pe_op op_add_str (pe_op op_add_str (pe_slice sl_str (pv 1) po_none (po_some (pv 3))) (pe_dget hu (pv 7) (pe_ix ix_str (pv 1) (pv 3) (fun _ _ => rfl)) (fun _ _ => rfl))) (pe_slice sl_str (pv 1) (po_some (pe_op op_add (pv 3) pe_int)) po_none))
        (pa_cons (pe_join pe_str (pv 6)) (pa_cons (pe_op op_add_str (pv 1) pe_str) (pa_cons (pe_slice sl_str (pv 1) po_none (po_some (pe_un un_neg pe_int))) (pa_cons (pe_revS (pv 1)) (pa_cons (pe_op op_repS (pv 1) pe_int) pa_nil))))))))
      (pss_cons (ps_set (i := 8) nd rfl (.inl rfl) (pe_op op_cat (pv 8) (pe_lst (pa_cons (pe_join pe_str (pe_lc (own := [("_law_step", 9)]) (g := gName 9) (tt := tYes) rfl nd (pi_str (pv 1))
          (blkOk_by (own := [("_law_step", 9)]) (N := nBW) (sc := defScope sBentW) (by decide +kernel)) (fun _ _ _ _ _ => pg_name (i := 9) nd rfl (Or.inl rfl)) (fun _ _ _ _ _ => pts_nil) (fun _ _ _ _ _ => pe_dget hu (pv 7) (pv 9) (fun _ _ => rfl))))
        (pa_cons (pe_op op_add_str (pe_op op_add_str (pe_slice sl_str (pv 1) po_none (po_some (pv 3))) pe_str) (pe_slice sl_str (pv 1) (po_some (pv 3)) po_none))
        (pa_cons (pe_op op_add_str (pe_op op_add_str (pe_slice sl_str (pv 1) po_none (po_some (pv 3))) pe_str) (pe_slice sl_str (pv 1) (po_some (pv 3)) po_none)) pa_nil))))))
      (pss_one (ps_ret (pe_ix ix_list (pe_op op_cat (pv 8) (pe_lst (pa_cons (pe_join pe_str (pe_lc (own := [("_law_k", 10)]) (g := gName 10) (tt := tYes) rfl nd (pi_range1 (by rfl) T.range (pa_cons (pv 4) pa_nil))
          (blkOk_by (own := [("_law_k", 10)]) (N := nBW) (sc := defScope sBentW) (by decide +kernel)) (fun _ _ _ _ _ => pg_name (i := 10) nd rfl (Or.inl rfl)) (fun _ _ _ _ _ => pts_nil)
          (fun _ _ _ _ _ => pe_ix ix_str pe_str (pe_op op_odd (pe_op op_shr (pv 5) (pv 10)) pe_int) (fun _ _ => rfl)))) pa_nil))) (pv 2) (fun _ _ => rfl))))))))))), ?_⟩
    refine ⟨.int c, rfl, 10, 9, rfl, rfl, ⟨by decide, by decide, by decide⟩, (by show 4 ≤ sizeLine; decide), fun l1 n1 => ?_⟩
    refine ⟨c, l1, [10, 62, 62, 1000000000], rfl, SqL.of upd_same, sizesW, by decide, fun H1 p1 s1 np1 ep1 => ?_⟩
    obtain ⟨d0, d1, d2, d3, hd, hd0, hd8, hd3⟩ := drawsW c
    rw [hd] at ep1
    have s01 : Same H H1 := (same_upd n1).trans s1
    refine ⟨p1, _, rfl, SqL.of ep1, rfl, _, _, rfl, _, _, rfl, _, _, rfl, _, _, rfl, rfl, ?_⟩
    have hpos : (0 : Int) < ((rt cs).length : Int) := by
      rw [rt_len]
      omega
    obtain ⟨i, hi⟩ : ∃ i : Nat, d1 % ((rt cs).length : Int) = (i : Int) := ⟨(d1 % ((rt cs).length : Int)).toNat, by have := Int.emod_nonneg d1 (show ((rt cs).length : Int) ≠ 0 by omega); omega⟩
    have hil : i < cs.length := by
      have := Int.emod_lt_of_pos d1 hpos
      rw [rt_len] at this hi
      omega
    obtain ⟨j, hj⟩ : ∃ j : Nat, d2 % ((rt cs).length : Int) = (j : Int) := ⟨(d2 % ((rt cs).length : Int)).toNat, by have := Int.emod_nonneg d2 (show ((rt cs).length : Int) ≠ 0 by omega); omega⟩
    have hjl : j < cs.length := by
      have := Int.emod_lt_of_pos d2 hpos
      rw [rt_len] at this hj
      omega
    refine ⟨.int d1, rfl, .str (rt cs), rfl, rt cs, rfl, hz, _, _, rfl, rfl, hpos, .int d2, rfl, .str (rt cs), rfl, rt cs, rfl, hz, _, _, rfl, rfl, hpos, ?_⟩
    dsimp only
    rw [hi, hj]
    -- the list of steps
    refine ⟨.str (rt cs), rfl, rt cs, rfl, hz, fun o no => ?_⟩
    have e0 : (sg (rt cs)).map V.str = tc cs := by
      rw [sg_rt, tc_one]
    rw [e0]
    refine ⟨.ref o, rfl, .int (j : Int), rfl, o, _, _, _, rfl, rfl, SqL.of upd_same, tc_at hjl, .ref o, rfl, .int (i : Int), rfl, o, _, _, _, rfl, rfl, SqL.of upd_same, tc_at hil, (by show 2 ≤ sizeLine; decide), fun p np => ?_⟩
    have npo : o ≠ p := fun e => by
      rw [← e, upd_same] at np
      cases np
    have no0 : H o = none := s01.free no
    have np0 : H p = none := (same_new no0 s01).free np
    refine ⟨p, _, rfl, SqT.of upd_same, rfl, _, _, rfl, ?_⟩
    refine ⟨.ref o, rfl, .int (i : Int), rfl, o, _, _, i, rfl, rfl, (by rw [upd_ne npo, upd_same]), ixN_lo (by rw [tc_len]; exact hil), ?_⟩
    rw [tc_set]
    refine ⟨_, _, rfl, .ref o, rfl, .int (j : Int), rfl, o, _, _, j, rfl, rfl, upd_same, ixN_lo (by rw [tc_len, List.length_set]; exact hjl), ?_⟩
    rw [tc_set]
    have s9 := same_new (o := .lst (tc ((cs.set i cs[j]).set j cs[i]))) no0 (same_new (o := .lst (tc (cs.set i cs[j]))) no0 (same_new (o := .tup [.str (one cs[j]), .str (one cs[i])]) np0 (same_new (o := .lst (tc cs)) no0 s01)))
    have e9 : (upd (upd (upd (upd H1 o (.lst (tc cs))) p (.tup [.str (one cs[j]), .str (one cs[i])])) o (.lst (tc (cs.set i cs[j])))) o (.lst (tc ((cs.set i cs[j]).set j cs[i])))) o = some (.lst (tc ((cs.set i cs[j]).set j cs[i]))) := upd_same
    generalize upd (upd (upd (upd H1 o (.lst (tc cs))) p (.tup [.str (one cs[j]), .str (one cs[i])])) o (.lst (tc (cs.set i cs[j])))) o (.lst (tc ((cs.set i cs[j]).set j cs[i]))) = H9 at *
    generalize hsw : (cs.set i cs[j]).set j cs[i] = sw at *
    have hsl : sw.length = cs.length := by
      rw [← hsw, List.length_set, List.length_set]
    -- the dict
    refine ⟨rfl, fun dd nd2 => ⟨upd_same, [(Sum.inr "/", .str "-"), (Sum.inr "-", .str "/")], rfl, by decide, ?_⟩⟩
    have eK : mergeK [] [(Sum.inr "/", V.str "-"), (Sum.inr "-", V.str "/")] = kvW := rfl
    rw [eK, upd_upd]
    have s10 : Same H9 (upd H9 dd (.dK kvW)) := same_upd nd2
    have ed : upd H9 dd (.dK kvW) dd = some (.dK kvW) := upd_same
    have e10 := s10 _ _ e9
    generalize upd H9 dd (.dK kvW) = H10 at *
    have hat : atI (rt cs).cps.toList (i : Int) = some cs[i] := atI_nat (by rw [rt_list, List.getElem?_eq_getElem hil])
    have dg : DGet H10 dd (.str (one cs[i])) (some (.str (one (oth cs[i])))) := by
      have := DGet.k (k := Sum.inr (one cs[i])) ed
      rw [kvW_val (hS _ (List.getElem_mem hil))] at this
      exact this
    refine ⟨.str (rt cs), rfl, .int (i : Int), rfl, _, rfl, rt cs, rfl, hz, ?_⟩
    rw [cut_rt_to]
    refine ⟨.ref dd, rfl, .str (rt cs), rfl, .int (i : Int), rfl, rt cs, _, cs[i], rfl, rfl, hz, hat, dd, _, rfl, dg, _, _, rfl, rfl, ?_, ?_⟩
    · rw [rt_len, List.length_take]
      exact fit (by show min i cs.length + 1 ≤ 10000; omega)
    refine ⟨.str (rt cs), rfl, .int (i : Int), rfl, _, _, rfl, rfl, _, rfl, rt cs, rfl, hz, ?_⟩
    rw [show (i : Int) + 1 = ((i + 1 : Nat) : Int) by omega, cut_rt_from]
    have l0 : (rt (cs.take i) ++ one (oth cs[i])).length + (rt (cs.drop (i + 1))).length ≤ 200 := by
      rw [strLen_append, rt_len, rt_len, List.length_take, List.length_drop]
      show min i cs.length + 1 + (cs.length - (i + 1)) ≤ 200
      omega
    refine ⟨_, _, rfl, rfl, fit (by omega), ?_⟩
    rw [← strLen_append] at l0
    generalize rt (cs.take i) ++ one (oth cs[i]) ++ rt (cs.drop (i + 1)) = z0 at *
    rw [tc_one] at e10
    refine ⟨⟨_, rfl⟩, .ref o, rfl, "", o, sw.map one, rfl, rfl, .inl (SqL.of e10), join_rt_fits (by omega), ?_⟩
    rw [join_rt]
    have lu : ("/" : Str).length = 1 := by decide +kernel
    refine ⟨.str (rt cs), rfl, rt cs, "/", rfl, rfl, fit (by rw [rt_len, lu]; omega), ?_⟩
    have l2 : (rt cs ++ "/").length ≤ 200 := by
      rw [strLen_append, rt_len, lu]
      omega
    generalize rt cs ++ "/" = z2 at *
    refine ⟨.str (rt cs), rfl, 1, rfl, -1, rfl, rt cs, rfl, hz, ?_⟩
    rw [cut_rt]
    generalize hz3 : (cs.drop (HT.sIx cs.length 0 none)).take (HT.sIx cs.length cs.length (some (-1)) - HT.sIx cs.length 0 none) = c3
    have l3 : c3.length ≤ 62 := by
      rw [← hz3, List.length_take, List.length_drop]
      omega
    refine ⟨.str (rt cs), rfl, rt cs, rfl, hz, .str (rt cs), rfl, rt cs, 2, rfl, rfl, by rw [rt_len]; omega, by decide, (by show 6 ≤ sizeLine; decide), fun ps nps => ?_⟩
    have l4 : (revS (rt cs)).length ≤ 200 := by
      rw [revS_len, rt_len]
      omega
    have l5 : (repS (rt cs) 2).length ≤ 200 := by
      rw [repS_len, rt_len]
      omega
    generalize revS (rt cs) = z4 at *
    generalize repS (rt cs) 2 = z5 at *
    generalize hL6 : [V.str z0, .str (rt sw), .str z2, .str (rt c3), .str z4, .str z5] = L6
    have s11 := same_upd (o := .lst L6) nps
    have e11 : upd H10 ps (.lst L6) ps = some (.lst L6) := upd_same
    have ed11 := s11 _ _ ed
    have s011 : Same H (upd H10 ps (.lst L6)) := (s9.trans s10).trans s11
    generalize upd H10 ps (.lst L6) = H11 at *
    -- the three more
    refine ⟨.ref ps, rfl, ⟨_, rfl⟩, .str (rt cs), rfl, rt cs, rfl, fun D hD => ?_⟩
    have hD0 := s011.free hD
    refine lc_it walk_str (fun i H3 => Same H11 H3 ∧ H3 D = some (.lst (tc ((cs.take i).map oth)))) ⟨same_upd hD, upd_same⟩ (fun _ _ _ _ => trivial) ?_ ?_
    · rintro i' x H3 H4 hi' ⟨sm, eD⟩ ⟨rfl, c', hc', rfl⟩
      rw [← Array.getElem?_toList, rt_list] at hc'
      obtain ⟨hil', rfl⟩ := List.getElem?_eq_some_iff.mp hc'
      have dg' : DGet H4 dd (.str (one cs[i'])) (some (.str (one (oth cs[i'])))) := by
        have := DGet.k (k := Sum.inr (one cs[i'])) (sm _ _ ed11)
        rw [kvW_val (hS _ (List.getElem_mem hil'))] at this
        exact this
      refine ⟨rfl, .ref dd, rfl, .str (one cs[i']), rfl, dd, _, rfl, dg', _, eD, ?_, same_new hD sm, ?_⟩
      · rw [tc_len, List.length_map]
        refine fit' (Nat.le_trans (List.length_take_le _ _) ?_)
        omega
      · rw [upd_same, List.take_add_one, List.getElem?_eq_getElem hil', List.map_append]
        unfold tc
        rw [List.map_append]
        rfl
    rintro H3 ⟨sm, eD⟩
    have eD : H3 D = some (.lst ((cs.map oth).map one |>.map V.str)) := by
      rw [eD, tc_one, List.take_of_length_le]
      show cs.length ≤ (rt cs).length
      rw [rt_len]
      exact Nat.le_refl _
    refine ⟨"", D, (cs.map oth).map one, rfl, rfl, .inl (SqL.of eD), join_rt_fits (by rw [List.length_map]; omega), ?_⟩
    rw [join_rt]
    have lw : ("/-" : Str).length = 2 := by decide +kernel
    have lv : ("-/" : Str).length = 2 := by decide +kernel
    have la : ∀ y : Str, y.length = 2 → (rt (cs.take i)).length + y.length ≤ 200 ∧ (rt (cs.take i) ++ y).length + (rt (cs.drop i)).length ≤ 200 := fun y hy => by
      rw [strLen_append, rt_len, rt_len, List.length_take, List.length_drop, hy]
      omega
    refine ⟨.str (rt cs), rfl, .int (i : Int), rfl, _, rfl, rt cs, rfl, hz, ?_⟩
    rw [cut_rt_to]
    refine ⟨_, _, rfl, rfl, fit (Nat.le_trans (la _ lw).1 (by decide)), .str (rt cs), rfl, .int (i : Int), rfl, _, rfl, rt cs, rfl, hz, ?_⟩
    rw [cut_rt_from]
    refine ⟨_, _, rfl, rfl, fit (Nat.le_trans (la _ lw).2 (by decide)), .str (rt cs), rfl, .int (i : Int), rfl, _, rfl, rt cs, rfl, hz, ?_⟩
    rw [cut_rt_to]
    refine ⟨_, _, rfl, rfl, fit (Nat.le_trans (la _ lv).1 (by decide)), .str (rt cs), rfl, .int (i : Int), rfl, _, rfl, rt cs, rfl, hz, ?_⟩
    rw [cut_rt_from]
    refine ⟨_, _, rfl, rfl, fit (Nat.le_trans (la _ lv).2 (by decide)), (by show 3 ≤ sizeLine; decide), fun pq npq => ?_⟩
    have l7 := (la _ lw).2
    have l8 := (la _ lv).2
    rw [← strLen_append] at l7 l8
    generalize rt (cs.take i) ++ "/-" ++ rt (cs.drop i) = z7 at *
    generalize rt (cs.take i) ++ "-/" ++ rt (cs.drop i) = z8 at *
    have e12 := sm _ _ e11
    have npsq : ps ≠ pq := ne_of_none e12 npq
    have s13 := same_upd (o := .lst [.str (rt (cs.map oth)), .str z7, .str z8]) npq
    refine ⟨ps, pq, L6, _, rfl, rfl, (by rw [upd_ne npsq]; exact e12), upd_same, (by rw [← hL6]; show 6 + 3 ≤ sizeLine; decide), fun pr npr => ?_⟩
    have s14 : Same H (upd (upd H3 pq (.lst [.str (rt (cs.map oth)), .str z7, .str z8])) pr (.lst (L6 ++ [.str (rt (cs.map oth)), .str z7, .str z8]))) := (s011.trans sm).trans (s13.trans (same_upd npr))
    have e14 : upd (upd H3 pq (.lst [.str (rt (cs.map oth)), .str z7, .str z8])) pr (.lst (L6 ++ [.str (rt (cs.map oth)), .str z7, .str z8])) pr = some (.lst (L6 ++ [.str (rt (cs.map oth)), .str z7, .str z8])) := upd_same
    generalize upd (upd H3 pq (.lst [.str (rt (cs.map oth)), .str z7, .str z8])) pr (.lst (L6 ++ [.str (rt (cs.map oth)), .str z7, .str z8])) = H14 at *
    -- the last
    refine ⟨.ref pr, rfl, ⟨_, rfl⟩, .int (j : Int), rfl, _, rfl, by omega, by omega, fun D2 hD2 => ?_⟩
    have hD20 := s14.free hD2
    rw [Int.toNat_natCast]
    refine lc_range (lo := 0) (n := j) (fun i H3 => Same H14 H3 ∧ ∃ us : List Nat, us.length = i ∧ H3 D2 = some (.lst (tc us))) ⟨same_upd hD2, [], rfl, upd_same⟩ ?_ ?_
    · rintro i' H5 hi' ⟨sm5, us, hul, eD5⟩
      rw [Int.zero_add]
      have hn : 0 ≤ d3 / 2 ^ ((i' : Int)).toNat := Int.ediv_nonneg hd3 (Int.le_of_lt (Int.pow_pos (by decide)))
      have hbit : ∃ u, atI ("/-" : Str).cps.toList (((d3 / 2 ^ ((i' : Int)).toNat).toNat % 2 : Nat) : Int) = some u := by
        rcases Nat.mod_two_eq_zero_or_one (d3 / 2 ^ ((i' : Int)).toNat).toNat with e | e <;> rw [e]
        · exact ⟨47, by decide +kernel⟩
        · exact ⟨45, by decide +kernel⟩
      obtain ⟨u, hu5⟩ := hbit
      refine ⟨rfl, .int d3, rfl, .int (i' : Int), rfl, _, _, rfl, rfl, by omega, (d3 / 2 ^ ((i' : Int)).toNat).toNat, by rw [Int.toNat_of_nonneg hn], rfl, "/-", _, u, rfl, rfl, by decide, hu5, _, eD5, ?_, same_new hD2 sm5, us ++ [u], ?_, ?_⟩
      · rw [tc_len]
        exact fit' (by omega)
      · rw [List.length_append, hul]
        rfl
      · rw [upd_same]
        unfold tc
        rw [List.map_append]
        rfl
    rintro H5 ⟨sm5, us, hul, eD5⟩
    rw [tc_one] at eD5
    refine ⟨"", D2, us.map one, rfl, rfl, .inl (SqL.of eD5), join_rt_fits (by omega), ?_⟩
    rw [join_rt]
    refine ⟨(by show 1 ≤ sizeLine; decide), fun pt npt => ?_⟩
    have e15 := sm5 _ _ e14
    have npt2 : pr ≠ pt := ne_of_none e15 npt
    refine ⟨pr, pt, _, _, rfl, rfl, (by rw [upd_ne npt2]; exact e15), upd_same, (by rw [← hL6]; show 6 + 3 + 1 ≤ sizeLine; decide), fun pu npu => ?_⟩
    have hfin : Same H (upd (upd H5 pt (.lst [.str (rt us)])) pu (.lst (L6 ++ [.str (rt (cs.map oth)), .str z7, .str z8] ++ [.str (rt us)]))) := (s14.trans sm5).trans ((same_upd npt).trans (same_upd npu))
    obtain ⟨zz, hzz, hzl⟩ : ∃ zz : Str, atI (L6 ++ [.str (rt (cs.map oth)), .str z7, .str z8] ++ [.str (rt us)]) d0 = some (.str zz) ∧ zz.length ≤ 200 := by
      rw [← hL6]
      rcases (show d0 = 0 ∨ d0 = 1 ∨ d0 = 2 ∨ d0 = 3 ∨ d0 = 4 ∨ d0 = 5 ∨ d0 = 6 ∨ d0 = 7 ∨ d0 = 8 ∨ d0 = 9 by omega) with rfl | rfl | rfl | rfl | rfl | rfl | rfl | rfl | rfl | rfl
      · exact ⟨_, rfl, l0⟩
      · exact ⟨_, rfl, by rw [rt_len]; omega⟩
      · exact ⟨_, rfl, l2⟩
      · exact ⟨_, rfl, by rw [rt_len]; omega⟩
      · exact ⟨_, rfl, l4⟩
      · exact ⟨_, rfl, l5⟩
      · exact ⟨_, rfl, by rw [rt_len, List.length_map]; omega⟩
      · exact ⟨_, rfl, l7⟩
      · exact ⟨_, rfl, l8⟩
      · exact ⟨_, rfl, by rw [rt_len]; omega⟩
    exact ⟨.int d0, rfl, pu, _, _, _, rfl, rfl, SqL.of upd_same, hzz, q _ zz hfin hzl⟩
end
end Hop

set_option Elab.async false
set_option linter.all false
set_option maxRecDepth 100000
namespace HopR
open PySem PySem.Spec PyProof.Rows L2
section
variable {X : Cx}
/-! ### xs[lo:hi:st] -/
def sliceIx (n : Nat) (lo hi : Option Int) (st : Int) : List Nat := sliceRange (sliceBounds lo hi (some st) n).1 (sliceBounds lo hi (some st) n).2.1 (sliceBounds lo hi (some st) n).2.2
def pick {α : Type} (xs : List α) (ix : List Nat) : List α := ix.filterMap (xs[·]?)
theorem vals_pick {xs : List V} {its : List Value} (r : Vals xs its) : ∀ ix : List Nat, Vals (pick xs ix) (pick its ix)
  | [] => .nil
  | i :: q => by
    unfold pick
    rw [List.filterMap_cons, List.filterMap_cons]
    cases e : xs[i]? with
    | none =>
      rw [Vals.none_of r e]
      exact vals_pick r q
    | some x =>
      obtain ⟨u, e2, ru⟩ := Vals.get r e
      rw [e2]
      exact .cons ru (vals_pick r q)
def tSl3 (K : PySem.W.Frag) (te : TE) (tl th ts : TO) : TE := fun σ H Q => te σ H fun x H1 => tl σ H1 fun lo H2 => th σ H2 fun hi H3 => ts σ H3 fun st H4 => ∃ a xs c, x = .ref a ∧ st = some c ∧ c ≠ 0 ∧ SqL K H4 a xs ∧ (pick xs (sliceIx xs.length lo hi c)).length ≤ sizeLine ∧
  ∀ p, H4 p = none → Q (.ref p) (upd H4 p (.lst (pick xs (sliceIx xs.length lo hi c))))
theorem pe_slice3 {e : Expr} {te : TE} {lo hi : Option Expr} {se : Expr} {tl th ts : TO} {p3 pos : Pos} (he : PE X e te) (hl : PO X lo tl) (hu : PO X hi th) (hs : PO X (some se) ts) : PE X (.Subscript e (.Slice lo hi (some se) p3) pos) (tSl3 X.K te tl th ts) := by
  refine ⟨fun pins s σ H Q I h => Subscript_ (thn (he.run pins s σ H _ I h) fun v s1 ⟨x, H1, I1, r1, q1⟩ => ?_)⟩
  refine wpAny_Slice (thn (hl.run pins s1 σ H1 _ I1 q1) fun vl s2 ⟨l, H2, I2, pl, q2⟩ => thn (hu.run pins s2 σ H2 _ I2 q2) fun vu s3 ⟨u, H3, I3, pu, q3⟩ => thn (hs.run pins s3 σ H3 _ I3 q3) fun vs s4 ⟨st, H4, I4, ps, a, xs, c, ex, es, hc, hx, hz, q⟩ => ?_)
  subst ex
  subst es
  cases r1
  have I5 : Inv X pins σ H4 { s4 with heap := s4.heap.push { cls := .type "slice", data := .fields #[vl, vu, vs] } } := I4.kept (t' := s4.toks) fun b ob qq => Heap.get?_push_of_some _ qq
  obtain ⟨its, r, ht, hz2⟩ := I5.list hx
  have hlen := r.length
  show wpAny (model X.prog X.w) X.A (subscriptTail e (.Slice lo hi (some se) p3) (.ref a) (.ref s4.heap.objs.size)) (EP X pins σ Q) X.xe { s4 with heap := s4.heap.push { cls := .type "slice", data := .fields #[vl, vu, vs] } }
  refine tail_any (ops := [.ref a, .ref s4.heap.objs.size]) ht.isList.typeIs (PySem.slot_list_getitem.lookup) ?_ (by with_unfolding_all rfl)
  refine wpAny_getItem_list_slice ht.isList (Heap.IsSliceOf.new _ vl vu vs) pl pu ps (fun z => hc (Option.some.inj z)) ?_ (by rw [List.size_toArray]; omega)
  have e1 : slicePick its.toArray l u (some c) = (pick its (sliceIx xs.length l u c)).toArray := by
    unfold slicePick pick sliceIx
    rw [List.size_toArray, ← hlen]
    simp only [List.getElem?_toArray]
  rw [e1]
  refine ⟨.ref _, _, I5.laid (t' := s4.toks) (o := .lst (pick xs (sliceIx xs.length l u c))) (fun b ob qq => Heap.get?_push_of_some _ qq) (Nat.le_refl _) ?_, rfl, q _ (I5.hok.fresh (Nat.le_refl _))⟩
  exact ⟨hz, _, 0, vals_pick r _, Heap.get?_push_size _ rfl⟩
/-! ### xs.count(y), flat items -/
def rCntV (K : PySem.W.Frag) : V → List V → Hp → VK → Prop := fun x xs H Q => ∃ (p : Addr) (ys : List V) (y : V), x = .ref p ∧ xs = [y] ∧ SqL K H p ys ∧ flatV y = true ∧ ys.all flatV = true ∧ Q (.int ((ys.countP fun z => eqV z y : Nat) : Int)) H
theorem countU {y : V} : ∀ {ys : List V} {its : List Value}, Vals ys its → ys.all flatV = true → its.countP (eqU y) = ys.countP fun z => eqV z y
  | _, _, .nil, _ => rfl
  | _, _, .cons (a := z) r t, f => by
    rw [List.all_cons, Bool.and_eq_true] at f
    rw [List.countP_cons, List.countP_cons, countU t f.2, eqU_of r f.1]
theorem mt_countV : MtR X "list.count" (rCntV X.K) := by
  intro pins s σ H x xs v us Q I rx rxs h
  obtain ⟨p, ys, y, rfl, rfl, hs, fy, fys, q⟩ := h
  cases rx
  obtain ⟨uy, rfl, ry⟩ := rxs.one
  obtain ⟨its, rv, ⟨⟨cls, dd, data, sl⟩, n, ho, hc, hdn, hd⟩, hlen⟩ := I.list hs
  simp only at hc hd
  subst hc hd
  refine call_meets PySem.F.slot_list_count ⟨_, ho, rfl⟩ PySem.F.entry_list_count (PySem.F.args_list_count_2 _ _)
    (SeqAt.list_countAt p its.toArray n dd sl uy (eqU y)) ⟨ho, fun u' hu' => mem_eqAt ry fy rv fys u' (by simpa using hu'), ?_⟩
  refine ⟨.int ((ys.countP fun z => eqV z y : Nat) : Int), H, I.tok _, ⟨s.toks, ?_⟩, q⟩
  show Value.int ((its.toArray.toList.countP (eqU y) : Nat) : Int) s.toks = _
  rw [List.toList_toArray, countU rv fys]
end
/-! ### every second one -/
def ev {α : Type} : List α → List α
  | [] => []
  | [x] => [x]
  | x :: _ :: r => x :: ev r
theorem pick_ev {α : Type} : ∀ (xs : List α) (m : Nat), m = (xs.length + 1) / 2 → pick xs ((List.range m).map fun k => 2 * k) = ev xs
  | [], m, e => by
    have : m = 0 := by simpa using e
    subst this
    rfl
  | [x], m, e => by
    have : m = 1 := by simpa using e
    subst this
    rfl
  | x :: y :: r, m, e => by
    obtain ⟨m', rfl⟩ : ∃ m', m = m' + 1 := ⟨(r.length + 1) / 2, by rw [e, List.length_cons, List.length_cons]; omega⟩
    have e' : m' = (r.length + 1) / 2 := by
      rw [List.length_cons, List.length_cons] at e
      omega
    rw [List.range_succ_eq_map, List.map_cons, List.map_map]
    unfold pick
    rw [List.filterMap_cons]
    show x :: _ = x :: ev r
    rw [← pick_ev r m' e']
    unfold pick
    rw [List.filterMap_map, List.filterMap_map]
    congr 1
theorem ix_ev (n : Nat) : sliceIx n none none 2 = (List.range ((n + 1) / 2)).map fun k => 2 * k := by
  unfold sliceIx sliceBounds sliceRange
  simp only [Option.getD_some, show ((2 : Int) > 0) = True from by simp, if_true]
  by_cases h : (0 : Int) < n
  · rw [if_pos h]
    have e : (((n : Int) - 0 + 2 - 1) / 2).toNat = (n + 1) / 2 := by omega
    rw [e]
    apply List.map_congr_left
    intro k _
    omega
  · rw [if_neg h]
    have : n = 0 := by omega
    subst this
    rfl
theorem ix_od (n : Nat) (h : 1 ≤ n) : sliceIx n (some 1) none 2 = (List.range (n / 2)).map fun k => 1 + 2 * k := by
  unfold sliceIx sliceBounds sliceRange
  simp only [Option.getD_some, show ((2 : Int) > 0) = True from by simp, if_true, show ¬ ((1 : Int) < 0) from by decide, if_false]
  have e0 : max (0 : Int) (min 1 (n : Int)) = 1 := by omega
  rw [e0]
  by_cases h : (1 : Int) < n
  · rw [if_pos h]
    have e : (((n : Int) - 1 + 2 - 1) / 2).toNat = n / 2 := by omega
    rw [e]
    apply List.map_congr_left
    intro k _
    omega
  · rw [if_neg h]
    have : n = 1 := by omega
    subst this
    rfl
theorem pick_od {α : Type} (x : α) (r : List α) : pick (x :: r) ((List.range ((x :: r).length / 2)).map fun k => 1 + 2 * k) = ev r := by
  rw [← pick_ev r ((r.length + 1) / 2) rfl]
  unfold pick
  rw [List.filterMap_map, List.filterMap_map, List.length_cons]
  congr 1
  funext k
  show (x :: r)[1 + 2 * k]? = r[2 * k]?
  rw [Nat.add_comm]
  rfl
end HopR

set_option Elab.async false
set_option linter.all false
set_option maxRecDepth 100000
namespace HopR
open PySem PySem.Spec PyProof.Rows L2 LamX
/-! ### what a try takes it may be asked of slots of the def's own number alone -/
theorem takes_len {X : Cx} {W : WX} (tk : Takes X W) : Takes X (fun cls d σ H => σ.length = X.N.length → W cls d σ H) := by
  rintro u s' ⟨a, B, sI, pins, σ, H, cls, d, e, I, nb, up, sky, na, os, ag, w⟩
  exact tk u s' ⟨a, B, sI, pins, σ, H, cls, d, e, I, nb, up, sky, na, os, ag, w I.len⟩
theorem list4 {α : Type _} {l : List α} (h : l.length = 4) : ∃ a b c d, l = [a, b, c, d] := by
  match l, h with
  | [a, b, c, d], _ => exact ⟨a, b, c, d, rfl⟩
/-! ### the eleven refusals, and what an exception of one of them answers -/
structure Kinds (K : PySem.W.Frag) (mg : Str → Option Value) (HE c0 c1 c2 c3 c4 c5 c6 c7 c8 c9 c10 : Addr) : Prop where
  ve : mg "ValueError" = none
  gH : mg "HopError" = some (.ref HE)
  g0 : mg "NoNumber" = some (.ref c0)
  g1 : mg "NoRow" = some (.ref c1)
  g2 : mg "NoPace" = some (.ref c2)
  g3 : mg "NoStep" = some (.ref c3)
  g4 : mg "NoWord" = some (.ref c4)
  g5 : mg "NoPlace" = some (.ref c5)
  g6 : mg "NoHeap" = some (.ref c6)
  g7 : mg "TooMany" = some (.ref c7)
  g8 : mg "NoWay" = some (.ref c8)
  g9 : mg "NoLines" = some (.ref c9)
  g10 : mg "NoRing" = some (.ref c10)
structure Raised (K : PySem.W.Frag) (D HE c0 c1 c2 c3 c4 c5 c6 c7 c8 c9 c10 : Addr) (m : Nat) : Prop where
  lt : m < 11
  ex : PySem.W.exmOne K (.ref D) (.ref HE) = some true
  C : ExcC K D
  kH : PySem.W.kitOne K (.ref D) (.ref HE) = some true
  kV : PySem.W.kitOne K (.ref D) (.type "ValueError") = some true
  k0 : PySem.W.kitOne K (.ref D) (.ref c0) = some (decide (0 = m))
  k1 : PySem.W.kitOne K (.ref D) (.ref c1) = some (decide (1 = m))
  k2 : PySem.W.kitOne K (.ref D) (.ref c2) = some (decide (2 = m))
  k3 : PySem.W.kitOne K (.ref D) (.ref c3) = some (decide (3 = m))
  k4 : PySem.W.kitOne K (.ref D) (.ref c4) = some (decide (4 = m))
  k5 : PySem.W.kitOne K (.ref D) (.ref c5) = some (decide (5 = m))
  k6 : PySem.W.kitOne K (.ref D) (.ref c6) = some (decide (6 = m))
  k7 : PySem.W.kitOne K (.ref D) (.ref c7) = some (decide (7 = m))
  k8 : PySem.W.kitOne K (.ref D) (.ref c8) = some (decide (8 = m))
  k9 : PySem.W.kitOne K (.ref D) (.ref c9) = some (decide (9 = m))
  k10 : PySem.W.kitOne K (.ref D) (.ref c10) = some (decide (10 = m))
def flags (m : Nat) : List V := [.bl (decide (0 = m)), .bl (decide (1 = m)), .bl (decide (2 = m)), .bl (decide (3 = m)), .bl (decide (4 = m)), .bl (decide (5 = m)), .bl (decide (6 = m)), .bl (decide (7 = m)), .bl (decide (8 = m)), .bl (decide (9 = m)), .bl (decide (10 = m))]
theorem flags_flat (m : Nat) : (flags m).all flatV = true := rfl
theorem flags_one : ∀ m < 11, ((flags m).countP fun z => eqV z (.bl true)) = 1 := by decide +kernel
theorem flags_at : ∀ m < 11, ∃ z, (flags m)[m]? = some z ∧ eqV z (.bl true) = true ∧ ∀ k < m, ∀ z', (flags m)[k]? = some z' → eqV z' (.bl true) = false := by
  intro m hm
  rcases (show m = 0 ∨ m = 1 ∨ m = 2 ∨ m = 3 ∨ m = 4 ∨ m = 5 ∨ m = 6 ∨ m = 7 ∨ m = 8 ∨ m = 9 ∨ m = 10 by omega) with rfl | rfl | rfl | rfl | rfl | rfl | rfl | rfl | rfl | rfl | rfl <;>
    refine ⟨_, rfl, rfl, fun k hk z' hz => ?_⟩ <;> revert z' <;> revert k <;> decide +kernel
/-- the lambda raises an exception of the class D; its number is told behind it -/
def TCls (D : Addr) (m : Nat) : (XK → Hp → VK → Prop) → Hp → VK → Prop := fun tl H Q => ∀ R : VK, tl (fun cls d H' => cls = .ref D ∧ d = none ∧ ∀ H'', Same H' H'' → Q (.int (m : Int)) H'') H R
end HopR

set_option Elab.async false
set_option linter.all false
set_option maxRecDepth 100000
namespace Hop
open PySem PySem.Spec PyProof.Rows L2 HopR LamX
abbrev nCl : List Str := ["_law_call", "_law_error", "e", "_law_found"]
theorem scClass : FnScope nCl ["_law_call"] (defScope sClass) := ⟨rfl, rfl, rfl, by decide +kernel, rfl, by decide +kernel, by decide +kernel⟩
section
variable {X : Cx} {HE c0 c1 c2 c3 c4 c5 c6 c7 c8 c9 c10 D : Addr} {m : Nat}
/-! ### _law_class_of -/
set_option maxHeartbeats 4000000 in
theorem class_gives {g : Addr} {cdg : Value} {q : Str} (Z : Kinds X.K X.mg HE c0 c1 c2 c3 c4 c5 c6 c7 c8 c9 c10) (R : Raised X.K D HE c0 c1 c2 c3 c4 c5 c6 c7 c8 c9 c10 m) (isi : X.mg "isinstance" = none) :
    GivesTo X nCl "_law_class_of" (defScope sClass) g cdg (defBody sClass) "_law_call" q (TCls D m) := by
  intro f c' s H Q tl act hc h
  have nd := scClass.nd
  refine ⟨_, pss_cons (ps_set (X := (cxOf C8.CX0 X.prog X.w X.K X.mg X.base nCl "_law_class_of" (defScope sClass) g cdg X.A X.stack s H C8.E0).nox) (i := 1) nd rfl (.inl rfl) pe_non)
    (pss_cons (ps_try_held (i := 2) (j := 1) (tb := fun W D σ H => ∃ Ech : XK, (∀ cls d σ' H', Ech cls d H' → σ'.length = 4 → W cls d σ' H') ∧ σ[0]? = some (some (.ref f)) ∧ H c' = some (CodeO c' q) ∧ tl Ech H (fun _ H' => D.nx σ H')) rfl rfl nd rfl rfl rfl rfl rfl (tests_one ⟨by rfl, by decide, .inl Z.gH⟩)
        (fun W pn xe tk _ => ?_) (fun a oe pn => pss_one (ps_set (i := 1) nd rfl (.inl rfl) (pv 2))))
    (pss_cons (ps_if (pt_cmpR op_isN (pv 1) pe_non (nomark _)) (pss_one (ps_ret pe_str)) pss_nil)
    (pss_cons (ps_set (i := 3) nd rfl (.inl rfl) (pe_lst (pa_cons (pe_callB call_isH (by rfl) isi (by decide +kernel) (pa_cons (pv 1) (pa_cons (pe_glob (v := .ref c0) (by rfl) Z.g0 rfl) pa_nil)))
      (pa_cons (pe_callB call_isH (by rfl) isi (by decide +kernel) (pa_cons (pv 1) (pa_cons (pe_glob (v := .ref c1) (by rfl) Z.g1 rfl) pa_nil)))
      (pa_cons (pe_callB call_isH (by rfl) isi (by decide +kernel) (pa_cons (pv 1) (pa_cons (pe_glob (v := .ref c2) (by rfl) Z.g2 rfl) pa_nil))) pa_nil)))))
    (pss_cons (ps_set (i := 3) nd rfl (.inl rfl) (pe_op op_cat (pv 3) (pe_lst (pa_cons (pe_callB call_isH (by rfl) isi (by decide +kernel) (pa_cons (pv 1) (pa_cons (pe_glob (v := .ref c3) (by rfl) Z.g3 rfl) pa_nil)))
      (pa_cons (pe_callB call_isH (by rfl) isi (by decide +kernel) (pa_cons (pv 1) (pa_cons (pe_glob (v := .ref c4) (by rfl) Z.g4 rfl) pa_nil)))
      (pa_cons (pe_callB call_isH (by rfl) isi (by decide +kernel) (pa_cons (pv 1) (pa_cons (pe_glob (v := .ref c5) (by rfl) Z.g5 rfl) pa_nil))) pa_nil))))))
    (pss_cons (ps_set (i := 3) nd rfl (.inl rfl) (pe_op op_cat (pv 3) (pe_lst (pa_cons (pe_callB call_isH (by rfl) isi (by decide +kernel) (pa_cons (pv 1) (pa_cons (pe_glob (v := .ref c6) (by rfl) Z.g6 rfl) pa_nil)))
      (pa_cons (pe_callB call_isH (by rfl) isi (by decide +kernel) (pa_cons (pv 1) (pa_cons (pe_glob (v := .ref c7) (by rfl) Z.g7 rfl) pa_nil)))
      (pa_cons (pe_callB call_isH (by rfl) isi (by decide +kernel) (pa_cons (pv 1) (pa_cons (pe_glob (v := .ref c8) (by rfl) Z.g8 rfl) pa_nil))) pa_nil))))))
    (pss_cons (ps_set (i := 3) nd rfl (.inl rfl) (pe_op op_cat (pv 3) (pe_lst (pa_cons (pe_callB call_isH (by rfl) isi (by decide +kernel) (pa_cons (pv 1) (pa_cons (pe_glob (v := .ref c9) (by rfl) Z.g9 rfl) pa_nil)))
      (pa_cons (pe_callB call_isH (by rfl) isi (by decide +kernel) (pa_cons (pv 1) (pa_cons (pe_glob (v := .ref c10) (by rfl) Z.g10 rfl) pa_nil))) pa_nil)))))
    (pss_cons (ps_if (PW.pt (pw_or (pt_cmpR op_ne (pe_bm PySem.F.plainAttrs_list PySem.F.slot_list_count PySem.F.type_list_count mt_countV (pv 3) (pa_cons pe_bl pa_nil)) pe_int (nomark _))
      (pw_or (pt_not (pt_val (pe_callB call_isH (by rfl) isi (by decide +kernel) (pa_cons (pv 1) (pa_cons (pe_glob (v := .ref HE) (by rfl) Z.gH rfl) pa_nil)))))
      (pw_or1 (pt_not (pt_val (pe_callB call_isH (by rfl) isi (by decide +kernel) (pa_cons (pv 1) (pa_cons (pe_bltn (v := .ty "ValueError") (by rfl) Z.ve (by decide +kernel) rfl) pa_nil))))))))) (pss_one (ps_ret pe_str)) pss_nil)
    (pss_one (ps_ret (pe_bm PySem.F.plainAttrs_list PySem.F.slot_list_index PySem.F.type_list_index mt_index (pv 3) (pa_cons pe_bl pa_nil))))))))))), ?_⟩
  · refine ⟨fun pins s' σ H' D I h' => ?_⟩
    obtain ⟨Ech, hW, h1, h2, h3⟩ := h'
    exact (pss_one (ps_expr (act _ pn xe Ech _ _ (takes_len tk) hW))).run pins s' σ H' D I ⟨h1, h2, h3⟩
  · refine ⟨fun cls d H' => cls = .ref D ∧ d = none ∧ ∀ H'', Same H' H'' → Q (.int (m : Int)) H'', ?_, rfl, hc, ?_⟩
    · rintro cls d σ' H' ⟨rfl, rfl, hq⟩ hl
      obtain ⟨a0, a1, a2, a3, rfl⟩ := list4 hl
      refine ⟨R.ex, fun a na => ?_⟩
      have s1 : Same H' (upd H' a (ExH (.ref D) none a)) := same_upd na
      have ha : upd H' a (ExH (.ref D) none a) a = some (ExH (.ref D) none a) := upd_same
      generalize upd H' a (ExH (.ref D) none a) = H1 at s1 ha
      refine ⟨.ref a, rfl, rfl, _, rfl, ?_⟩
      rw [decide_eq_false (fun z => nomatch z)]
      refine iteF ⟨.ref a, rfl, a, D, .ref c0, .ref c0, _, rfl, ha, R.C, .own _, R.k0, .ref a, rfl, a, D, .ref c1, .ref c1, _, rfl, ha, R.C, .own _, R.k1, .ref a, rfl, a, D, .ref c2, .ref c2, _, rfl, ha, R.C, .own _, R.k2, (by show 3 ≤ sizeLine; decide), fun l1 n1 => ?_⟩
      have s2 := s1.trans (same_upd (o := .lst [.bl (decide (0 = m)), .bl (decide (1 = m)), .bl (decide (2 = m))]) n1)
      have ha2 := same_upd (o := .lst [.bl (decide (0 = m)), .bl (decide (1 = m)), .bl (decide (2 = m))]) n1 _ _ ha
      have e2 : upd H1 l1 (.lst [.bl (decide (0 = m)), .bl (decide (1 = m)), .bl (decide (2 = m))]) l1 = some (.lst [.bl (decide (0 = m)), .bl (decide (1 = m)), .bl (decide (2 = m))]) := upd_same
      generalize upd H1 l1 (.lst [.bl (decide (0 = m)), .bl (decide (1 = m)), .bl (decide (2 = m))]) = H2 at s2 ha2 e2
      refine ⟨.ref l1, rfl, .ref a, rfl, a, D, .ref c3, .ref c3, _, rfl, ha2, R.C, .own _, R.k3, .ref a, rfl, a, D, .ref c4, .ref c4, _, rfl, ha2, R.C, .own _, R.k4, .ref a, rfl, a, D, .ref c5, .ref c5, _, rfl, ha2, R.C, .own _, R.k5, (by show 3 ≤ sizeLine; decide), fun l2 n2 => ?_⟩
      refine ⟨l1, l2, _, _, rfl, rfl, same_upd n2 _ _ e2, upd_same, (by show 3 + 3 ≤ sizeLine; decide), fun l3 n3 => ?_⟩
      have s3 := s2.trans ((same_upd (o := .lst [.bl (decide (3 = m)), .bl (decide (4 = m)), .bl (decide (5 = m))]) n2).trans (same_upd (o := .lst ([.bl (decide (0 = m)), .bl (decide (1 = m)), .bl (decide (2 = m))] ++ [.bl (decide (3 = m)), .bl (decide (4 = m)), .bl (decide (5 = m))])) n3))
      have ha3 := same_upd (o := .lst ([.bl (decide (0 = m)), .bl (decide (1 = m)), .bl (decide (2 = m))] ++ [.bl (decide (3 = m)), .bl (decide (4 = m)), .bl (decide (5 = m))])) n3 _ _ (same_upd (o := .lst [.bl (decide (3 = m)), .bl (decide (4 = m)), .bl (decide (5 = m))]) n2 _ _ ha2)
      have e3 : upd (upd H2 l2 (.lst [.bl (decide (3 = m)), .bl (decide (4 = m)), .bl (decide (5 = m))])) l3 (.lst ([.bl (decide (0 = m)), .bl (decide (1 = m)), .bl (decide (2 = m))] ++ [.bl (decide (3 = m)), .bl (decide (4 = m)), .bl (decide (5 = m))])) l3 = some (.lst ([.bl (decide (0 = m)), .bl (decide (1 = m)), .bl (decide (2 = m))] ++ [.bl (decide (3 = m)), .bl (decide (4 = m)), .bl (decide (5 = m))])) := upd_same
      generalize upd (upd H2 l2 (.lst [.bl (decide (3 = m)), .bl (decide (4 = m)), .bl (decide (5 = m))])) l3 (.lst ([.bl (decide (0 = m)), .bl (decide (1 = m)), .bl (decide (2 = m))] ++ [.bl (decide (3 = m)), .bl (decide (4 = m)), .bl (decide (5 = m))])) = H3 at s3 ha3 e3
      refine ⟨.ref l3, rfl, .ref a, rfl, a, D, .ref c6, .ref c6, _, rfl, ha3, R.C, .own _, R.k6, .ref a, rfl, a, D, .ref c7, .ref c7, _, rfl, ha3, R.C, .own _, R.k7, .ref a, rfl, a, D, .ref c8, .ref c8, _, rfl, ha3, R.C, .own _, R.k8, (by show 3 ≤ sizeLine; decide), fun l4 n4 => ?_⟩
      refine ⟨l3, l4, _, _, rfl, rfl, same_upd n4 _ _ e3, upd_same, (by show 6 + 3 ≤ sizeLine; decide), fun l5 n5 => ?_⟩
      generalize hx5 : ([.bl (decide (0 = m)), .bl (decide (1 = m)), .bl (decide (2 = m))] ++ [.bl (decide (3 = m)), .bl (decide (4 = m)), .bl (decide (5 = m))] ++ [.bl (decide (6 = m)), .bl (decide (7 = m)), .bl (decide (8 = m))] : List V) = x5
      have s4 := s3.trans ((same_upd (o := .lst [.bl (decide (6 = m)), .bl (decide (7 = m)), .bl (decide (8 = m))]) n4).trans (same_upd (o := .lst x5) n5))
      have ha4 := same_upd (o := .lst x5) n5 _ _ (same_upd (o := .lst [.bl (decide (6 = m)), .bl (decide (7 = m)), .bl (decide (8 = m))]) n4 _ _ ha3)
      have e4 : upd (upd H3 l4 (.lst [.bl (decide (6 = m)), .bl (decide (7 = m)), .bl (decide (8 = m))])) l5 (.lst x5) l5 = some (.lst x5) := upd_same
      generalize upd (upd H3 l4 (.lst [.bl (decide (6 = m)), .bl (decide (7 = m)), .bl (decide (8 = m))])) l5 (.lst x5) = H4 at s4 ha4 e4
      refine ⟨.ref l5, rfl, .ref a, rfl, a, D, .ref c9, .ref c9, _, rfl, ha4, R.C, .own _, R.k9, .ref a, rfl, a, D, .ref c10, .ref c10, _, rfl, ha4, R.C, .own _, R.k10, (by show 2 ≤ sizeLine; decide), fun l6 n6 => ?_⟩
      refine ⟨l5, l6, _, _, rfl, rfl, same_upd n6 _ _ e4, upd_same, (by rw [← hx5]; show 9 + 2 ≤ sizeLine; decide), fun l7 n7 => ?_⟩
      have ex6 : x5 ++ [.bl (decide (9 = m)), .bl (decide (10 = m))] = flags m := by rw [← hx5]; rfl
      rw [ex6]
      have s5 := s4.trans ((same_upd (o := .lst [.bl (decide (9 = m)), .bl (decide (10 = m))]) n6).trans (same_upd (o := .lst (flags m)) n7))
      have ha5 := same_upd (o := .lst (flags m)) n7 _ _ (same_upd (o := .lst [.bl (decide (9 = m)), .bl (decide (10 = m))]) n6 _ _ ha4)
      have e5 : upd (upd H4 l6 (.lst [.bl (decide (9 = m)), .bl (decide (10 = m))])) l7 (.lst (flags m)) l7 = some (.lst (flags m)) := upd_same
      generalize upd (upd H4 l6 (.lst [.bl (decide (9 = m)), .bl (decide (10 = m))])) l7 (.lst (flags m)) = H5 at s5 ha5 e5
      refine ⟨.ref l7, rfl, .inl ⟨rfl, _, SqL.of e5⟩, l7, _, _, rfl, rfl, SqL.of e5, rfl, flags_flat m, rfl, _, rfl, ?_⟩
      rw [flags_one m R.lt, decide_eq_true (show V.int ((1 : Nat) : Int) = V.int 1 from rfl)]
      refine iteF ⟨.ref a, rfl, a, D, .ref HE, .ref HE, true, rfl, ha5, R.C, .own _, R.kH, true, rfl, iteF ?_⟩
      refine ⟨.ref a, rfl, a, D, .ty "ValueError", .type "ValueError", true, rfl, ha5, R.C, .ty _, R.kV, true, rfl, iteF ?_⟩
      obtain ⟨z, hz1, hz2, hz3⟩ := flags_at m R.lt
      exact ⟨.ref l7, rfl, .inl ⟨rfl, _, SqL.of e5⟩, l7, _, _, m, z, rfl, rfl, SqL.of e5, rfl, flags_flat m, hz1, hz2, fun k z' hk h => hz3 k hk z' h, hq H5 s5⟩
    · exact h _
end
end Hop

set_option Elab.async false
set_option linter.all false
set_option maxRecDepth 100000
namespace HopR
open PySem PySem.Spec PyProof.Rows L2 LamX
/-! ### where all but tables of code objects stays -/
theorem ext_of {H H' : Hp} (s : Same H H') : ExtN H H' := ExtN.of s
theorem ext_lst {H H' : Hp} {p : Addr} {xs : List V} (s : ExtN H H') (e : H p = some (.lst xs)) : H' p = some (.lst xs) := s _ _ e fun _ z => nomatch z
theorem tyx_ext {K : PySem.W.Frag} {H H' : Hp} {x : V} {t : Value} (s : ExtN H H') (ty : TyX K H x t) : TyX K H' x t := by
  cases ty with
  | base h =>
    cases h with
    | non => exact .base .non
    | bl x => exact .base (.bl x)
    | int i => exact .base (.int i)
    | str x => exact .base (.str x)
    | flt x => exact .base (.flt x)
    | lst e => exact .base (.lst (s _ _ e fun _ z => nomatch z))
    | frz e => exact .base (.frz (s _ _ e fun _ z => nomatch z))
    | tup e => exact .base (.tup (s _ _ e fun _ z => nomatch z))
    | dK e => exact .base (.dK (s _ _ e fun _ z => nomatch z))
    | dT e => exact .base (.dT (s _ _ e fun _ z => nomatch z))
    | ins e a b c d f => exact .base (.ins (s _ _ e fun _ z => nomatch z) a b c d f)
  | byt b => exact .byt b
  | set e => exact .set (s _ _ e fun _ z => nomatch z)
  | kList e c => exact .kList e c
  | kTuple e c => exact .kTuple e c
  | kDict e c => exact .kDict e c
  | fTuple e => exact .fTuple (s _ _ e fun _ z => nomatch z)
  | fDict e => exact .fDict (s _ _ e fun _ z => nomatch z)
theorem odd_ext {K : PySem.W.Frag} {H H' : Hp} {x : V} (s : ExtN H H') (h : Odd K H x) : Odd K H' x := by
  obtain ⟨t, b, ty, k⟩ := h
  exact ⟨t, b, tyx_ext s ty, k⟩
theorem notxt_ext {K : PySem.W.Frag} {H H' : Hp} {x : V} (s : ExtN H H') (h : NoTxt K H x) : NoTxt K H' x := by
  obtain ⟨t, ty, k⟩ := h
  exact ⟨t, tyx_ext s ty, k⟩
theorem tabs_one {H : Hp} {P : Addr} {q : Str} (h : H P = some (.tbl #[])) : Tabs [(P, q)] H := fun p hp => by
  rw [List.mem_singleton.mp hp]
  exact TabS.nil h
end HopR

set_option Elab.async false
set_option linter.all false
set_option maxRecDepth 100000
namespace Hop
open PySem L2 HopR LamX
theorem way_lit {K : PySem.W.Frag} {H : Hp} {z : Str} (h : z.length ≤ 10000) : ∃ b, WayV K H (.str z) b := by
  refine ⟨wayB 0 z.cps.toList, .inr ⟨z.cps.toList, by rw [rt_of], ?_, rfl⟩⟩
  rw [← rt_len, rt_of]
  exact h
theorem way_no {K : PySem.W.Frag} {H : Hp} {x : V} (h : NoTxt K H x) : ∃ b, WayV K H x b := ⟨false, .inl ⟨h, rfl⟩⟩
theorem way_same {K : PySem.W.Frag} {H H' : Hp} {x : V} {b : Bool} (s : Same H H') (h : WayV K H x b) : WayV K H' x b := h.imp (fun ⟨q, e⟩ => ⟨notxt_same s q, e⟩) id
def NoNum (K : PySem.W.Frag) (H : Hp) (x : V) : Prop := Odd K H x ∨ ∃ i : Int, x = .int i ∧ (i < 0 ∨ 41 < i)
theorem nonum_ext {K : PySem.W.Frag} {H H' : Hp} {x : V} (s : ExtN H H') (h : NoNum K H x) : NoNum K H' x := h.imp (odd_ext s) id
theorem steps_way (ps : List (Bool × Bool)) : Steps (47 :: (inter ps).map stp ++ [45]) := by
  intro x hx
  rw [List.cons_append, List.mem_cons, List.mem_append, List.mem_singleton, List.mem_map] at hx
  rcases hx with h | ⟨b, _, rfl⟩ | h
  · exact .inl h
  · cases b
    · exact .inr rfl
    · exact .inl rfl
  · exact .inr h
section
variable {P : Program} {w : World} {K : PySem.W.Frag} {mg : Str → Option Value} {base : Heap} {d : Addr} {es : Array DictEntry} {n : Nat} {HE c1 c2 c3 c4 c5 c6 c7 c8 c9 c10 NN : Addr}
structure Defs (K : PySem.W.Frag) (mg : Str → Option Value) (f1 f2 f3 f4 fm fv fw fr fy fi fb fo fg fq : Addr) (g1 g2 g3 g4 gm gv gw gr gy gi gb go gg gq : FuncData) : Prop where
  N1 : Fn K mg "is_whole" sIsWhole ["thing"] f1 g1
  N2 : Fn K mg "need_number" sNeedNum ["thing", "least", "most"] f2 g2
  N3 : Fn K mg "is_way" sIsWay ["thing"] f3 g3
  N4 : Fn K mg "ways_many" sWays ["many"] f4 g4
  Nm : Fn K mg "_law_many_ways" sMany ["_law_most"] fm gm
  Nv : Fn K mg "_law_whole" sWhole ["_law_found"] fv gv
  Nw : Fn K mg "_law_drawn" sDrawn ["_law_cell", "_law_sizes"] fw gw
  Nr : Fn K mg "_law_row" sLRow ["_law_cell", "_law_most"] fr gr
  Ny : Fn K mg "_law_way" sLWay ["_law_row_here", "_law_other"] fy gy
  Ni : Fn K mg "_law_rise" sLRise ["_law_sign"] fi gi
  Nb : Fn K mg "_law_behind" sLBehind ["_law_row_here"] fb gb
  No : Fn K mg "_law_one_beneath" sLOne ["_law_cell", "_law_row_here"] fo go
  Ng : Fn K mg "_law_bent_way" sBentW ["_law_cell", "_law_way_here"] fg gg
  Nq : Fn K mg "_law_is_way" sLIsWay ["_law_thing"] fq gq
/-- the def that calls what it got -/
structure Taker (K : PySem.W.Frag) (mg : Str → Option Value) (fc : Addr) (oc : Value) (od : Option Addr) (kV dc pm : Value) (an : Option Addr) (cdv ct : Value) (sl : Array (Option Value)) : Prop where
  g : mg "_law_class_of" = some (.ref fc)
  kp : PySem.W.keepIn K (.ref fc) = true
  lk : K.lookup fc = some ⟨oc, od, .func (PySem.W.fnOf "_law_class_of" "_law_class_of" (defArgs sClass) (defBody sClass) (defScope sClass) .none kV dc pm an cdv ct), sl⟩
  cd : PySem.W.codeIn K cdv "_law_class_of" = true
  b : Binds K (PySem.W.fnOf "_law_class_of" "_law_class_of" (defArgs sClass) (defBody sClass) (defScope sClass) .none kV dc pm an cdv ct) ["_law_call"] []
abbrev nLaw : List Str := ["_law_script", "_law_cells", "_law_due", "_law_k", "_law_found", "_law_far", "_law_cell", "_law_row_here", "_law_way_here", "_law_things", "_law_thing", "_law_none"]
theorem scLaw : FnScope nLaw ["_law_script"] (defScope sLaw) := ⟨rfl, rfl, rfl, by decide +kernel, rfl, by decide +kernel, by decide +kernel⟩
abbrev qLam : Str := ("law" : Str) ++ ".<locals>." ++ "<lambda>"
def spLaw (K : PySem.W.Frag) (tb : Addr) : Sp := fun vs H Q _ => ∃ (a : Addr) (ns : List Int), vs = [.ref a] ∧ SqL K H a (ns.map V.int) ∧ ns.length ≤ 63 ∧ Tabs [(tb, qLam)] H ∧ ∀ H', Q (.bl true) H'
set_option maxHeartbeats 4000000 in
theorem ok_law {fL f1 f2 f3 f4 fm fv fw fr fy fi fb fo fg fq fc cL tb : Addr} {g1 g2 g3 g4 gm gv gw gr gy gi gb go gg gq : FuncData} {oc kV dc pm cdv ct : Value} {od an : Option Addr} {sl : Array (Option Value)} {ocL kVL dcL pmL ctL : Value} {odL anL : Option Addr} {slL : Array (Option Value)}
    (lkL : K.lookup fL = some ⟨ocL, odL, .func (PySem.W.fnOf "law" "law" (defArgs sLaw) (defBody sLaw) (defScope sLaw) .none kVL dcL pmL anL (.ref cL) ctL), slL⟩) (cdL : PySem.W.codeIn K (.ref cL) "law" = true)
    (N : Defs K mg f1 f2 f3 f4 fm fv fw fr fy fi fb fo fg fq g1 g2 g3 g4 gm gv gw gr gy gi gb go gg gq) (U : Taker K mg fc oc od kV dc pm an cdv ct sl) (T : Txt K w mg d es n) (Z : Er K mg NN) (Y : HopR.Kinds K mg HE NN c1 c2 c3 c4 c5 c6 c7 c8 c9 c10) (R : Raised K NN HE NN c1 c2 c3 c4 c5 c6 c7 c8 c9 c10 0) (TB : TabB base mg cL tb) :
    FnOk P w K mg base CX0 7 fL (PySem.W.fnOf "law" "law" (defArgs sLaw) (defBody sLaw) (defScope sLaw) .none kVL dcL pmL anL (.ref cL) ctL) ["_law_script"] (spLaw K tb) := by
  have Gw : FnOk P w K mg base (L2.CX P w) 6 f4 g4 ["many"] (spWays K NN) := ok_ways N.N4.F N.N1 N.N2 T Z
  have Gw4 : FnOk P w K mg base (L2.CX P w) 4 f4 g4 ["many"] (spWays K NN) := ok_ways N.N4.F N.N1 N.N2 T Z
  have Gi : FnOk P w K mg base CX0 6 f3 g3 ["thing"] (spIsWay K) := ok_isway N.N3.F T
  have Gm : FnOk P w K mg base CX0 6 fm gm ["_law_most"] spMany := ok_many N.Nm.F T
  have Gv : FnOk P w K mg base CX0 6 fv gv ["_law_found"] spWholeI := ok_wholeI N.Nv.F T
  have Gr : FnOk P w K mg base CX0 6 fr gr ["_law_cell", "_law_most"] spRow30 := ok_lrow N.Nr.F N.Nw T
  have Gy : FnOk P w K mg base CX0 6 fy gy ["_law_row_here", "_law_other"] spLWay := ok_lway N.Ny.F T
  have Go : FnOk P w K mg base CX0 6 fo go ["_law_cell", "_law_row_here"] spOne := ok_one N.No.F N.Nw N.Ni N.Nb T
  have Gg : FnOk P w K mg base CX0 6 fg gg ["_law_cell", "_law_way_here"] spBentW := ok_bentw N.Ng.F N.Nw T
  have Gq : FnOk P w K mg base CX0 6 fq gq ["_law_thing"] (spLIsWay K) := ok_lisway N.Nq.F T
  refine fn_of lkL cdL scLaw (fun vs H Q E h => ?_) (fun A outer s H vs Q E hr h => ?_)
  · obtain ⟨a, ns, rfl, _⟩ := h
    rfl
  · obtain ⟨a, ns, rfl, hS, hlen, hTab, q⟩ := h
    have nd := scLaw.nd
    have hu := hu66 hr
    have hu64 : (A.deeper (PyProof.Rows.envOfC "law" (defScope sLaw) s.heap.objs.size fL (.ref cL))).units + 64 < cLine := by omega
    obtain ⟨tL, pL, hL⟩ : ∃ tL, PSs (cxOf CX0 P w K mg base nLaw "law" (defScope sLaw) fL (.ref cL) A outer s H E).nox ((defBody sLaw).drop 2) tL ∧
        ∀ (H1 : Hp) (p1 : Addr) (z0 : Int) (zs : List Int), H1 p1 = some (.lst ((z0 :: zs).map V.int)) → Tabs [(tb, qLam)] H1 → tL { nx := fun _ H' => Q .non H', rt := Q } [some (.ref a), some (.ref p1), none, none, none, none, none, none, none, none, none, none] H1 := by
      refine ⟨_, pss_cons (ps_set (i := 2) nd rfl (.inl rfl) (pe_call Gm hr (by rfl) N.Nm.g N.Nm.F.kp N.Nm.b .nil pass0 (pa_cons pe_int pa_nil)))
        (pss_cons (ps_for PassesOwn.never rfl (pi_range1 (by rfl) T.range (pa_cons pe_int pa_nil)) (pg_name (i := 3) nd rfl (.inl rfl))
          (pss_cons (ps_set (i := 4) nd rfl (.inl rfl) (pe_call Gw hr (by rfl) N.N4.g N.N4.F.kp N.N4.b .nil passL (pa_cons (pv 3) pa_nil)))
          (pss_one (ps_if (PW.pt (pw_or (pt_not (pt_val (pe_call Gv hr (by rfl) N.Nv.g N.Nv.F.kp N.Nv.b .nil pass0 (pa_cons (pv 4) pa_nil)))) (pw_or1 (pt_cmpR op_ne (pv 4) (pe_ix ix_list (pv 2) (pv 3) (fun _ _ => rfl)) (nomark _))))) (pss_one (ps_ret pe_bl)) pss_nil))))
        (pss_cons (ps_set (i := 5) nd rfl (.inl rfl) (pe_op op_mod (pe_ix ix_list (pv 1) pe_int (fun _ _ => rfl)) (pe_op op_pow pe_int pe_int)))
        (pss_cons (ps_for PassesOwn.never rfl (pi_list (pe_lst (pa_cons pe_int (pa_cons (pe_un un_neg pe_int) (pa_cons pe_non (pa_cons pe_bl (pa_cons pe_str (pa_cons (pe_tup (pa_cons pe_int pa_nil)) (pa_cons (pe_lst pa_nil) (pa_cons pe_dnewK (pa_cons (pe_op op_add pe_int (pv 5)) (pa_cons (pe_op op_sub (pe_un un_neg pe_int) (pv 5)) pa_nil)))))))))))) (pg_name (i := 11) nd rfl (.inr rfl))
          (pss_one (ps_if (pt_cmpR op_ne (pe_lamcall (k := 4) (T := [(tb, qLam)]) (by rfl) U.g U.kp U.lk U.cd U.b scClass rfl (.inl rfl) (class_gives Y R T.isi) TB rfl (List.mem_singleton.mpr rfl) (fun p hp _ => by rw [List.mem_singleton.mp hp]; rfl) hr (lamS_by (sc := defScope sLaw) (by decide +kernel)) rfl (fun _ _ _ _ _ => rfl)
              (fun A outer s H E f c' hr2 => pe_call (E := E) Gw4 hr2 (by rfl) N.N4.g N.N4.F.kp N.N4.b .nil (passes_call (E := E) (takes_of rfl rfl rfl rfl) (fun _ _ _ _ h => h)) (pa_cons (pv 11) pa_nil))) pe_int (nomark _)) (pss_one (ps_ret pe_bl)) pss_nil)))
        (pss_cons (ps_for PassesOwn.never rfl (pi_list (pv 1)) (pg_name (i := 6) nd rfl (.inl rfl))
          (pss_cons (ps_set (i := 7) nd rfl (.inl rfl) (pe_call Gr hr (by rfl) N.Nr.g N.Nr.F.kp N.Nr.b .nil pass0 (pa_cons (pv 6) (pa_cons pe_int pa_nil))))
          (pss_cons (ps_set (i := 8) nd rfl (.inl rfl) (pe_call Gy hr (by rfl) N.Ny.g N.Ny.F.kp N.Ny.b .nil pass0 (pa_cons (pv 7) (pa_cons (pe_call Go hr (by rfl) N.No.g N.No.F.kp N.No.b .nil pass0 (pa_cons (pe_op op_fdiv (pv 6) pe_int) (pa_cons (pv 7) pa_nil))) pa_nil))))
          (pss_cons (ps_set (i := 9) nd rfl (.inl rfl) (pe_lst (pa_cons (pv 8) (pa_cons (pe_call Gg hr (by rfl) N.Ng.g N.Ng.F.kp N.Ng.b .nil pass0 (pa_cons (pe_op op_fdiv (pv 6) pe_int) (pa_cons (pv 8) pa_nil)))
              (pa_cons (pe_call Gg hr (by rfl) N.Ng.g N.Ng.F.kp N.Ng.b .nil pass0 (pa_cons (pe_op op_fdiv (pv 6) pe_int) (pa_cons (pv 8) pa_nil))) (pa_cons pe_str (pa_cons pe_str (pa_cons pe_str (pa_cons pe_str (pa_cons pe_str pa_nil))))))))))
          (pss_one (ps_for PassesOwn.never rfl (pi_list (pe_op op_cat (pv 9) (pe_lst (pa_cons pe_non (pa_cons pe_int (pa_cons pe_bl (pa_cons (pe_lst (pa_cons pe_str (pa_cons pe_str pa_nil))) (pa_cons (pe_tup (pa_cons pe_str (pa_cons pe_str pa_nil))) (pa_cons pe_dnewK (pa_cons pe_str (pa_cons pe_str pa_nil))))))))))) (pg_name (i := 10) nd rfl (.inl rfl))
            (pss_cons (ps_set (i := 4) nd rfl (.inl rfl) (pe_call Gi hr (by rfl) N.N3.g N.N3.F.kp N.N3.b .nil pass0 (pa_cons (pv 10) pa_nil)))
            (pss_one (ps_if (PW.pt (pw_or (pt_not (pt_val (pe_callB call_isi (by rfl) T.isi (by decide +kernel) (pa_cons (pv 4) (pa_cons (pe_bltn (v := .ty "bool") (by rfl) T.bool (by decide +kernel) rfl) pa_nil)))))
                (pw_or1 (pt_cmpR op_ne (pv 4) (pe_call Gq hr (by rfl) N.Nq.g N.Nq.F.kp N.Nq.b .nil pass0 (pa_cons (pv 10) pa_nil)) (nomark _))))) (pss_one (ps_ret pe_bl)) pss_nil)))))))))
        (pss_one (ps_ret pe_bl)))))), fun H1 p1 z0 zs e1 hT1 => ?_⟩
      refine ⟨rfl, fun H2 pd s2 nd2 e2 => ?_⟩
      refine ⟨42, rfl, by decide, by decide, ?_⟩
      refine for_range (lo := 0) (n := 42) (fun i σ H3 => ∃ y3 y4, σ = [some (.ref a), some (.ref p1), some (.ref pd), y3, y4, none, none, none, none, none, none, none] ∧ Same H2 H3) ⟨_, _, rfl, Same.refl _⟩ ?_ ?_
      · rintro i σ H3 hi ⟨y3, y4, rfl, s3⟩
        rw [Int.zero_add]
        refine ⟨.int (i : Int), rfl, .int (i : Int), rfl, .inl ⟨i, rfl, by omega, ?_⟩⟩
        refine ⟨.int _, rfl, _, rfl, true, rfl, iteF ?_⟩
        refine ⟨.int _, rfl, .ref pd, rfl, .int (i : Int), rfl, pd, _, _, _, rfl, rfl, SqL.of (s3 _ _ e2), atI_nat (by rw [List.getElem?_map, cats_get hi]; rfl), rfl, _, rfl, ?_⟩
        rw [show decide (V.int ((cat i : Nat) : Int) = wv (cat i)) = true from decide_eq_true rfl]
        exact iteF ⟨_, _, rfl, s3⟩
      rintro σ H3 ⟨y3, y4, rfl, s3⟩
      have s13 : Same H1 H3 := s2.trans s3
      have e3 := s13 _ _ e1
      have hT3 : Tabs [(tb, qLam)] H3 := hT1.ext s13
      refine ⟨.ref p1, rfl, p1, _, _, .int z0, rfl, rfl, SqL.of e3, (show atI _ ((0 : Nat) : Int) = _ from atI_nat rfl), 10, 20, rfl, rfl, ⟨by decide, by decide, by decide⟩, _, _, rfl, rfl, (by show (0 : Int) < 10 ^ Int.toNat 20; decide), ?_⟩
      have hfar : 0 ≤ z0 % (10 ^ (20 : Int).toNat) := Int.emod_nonneg _ (by decide)
      dsimp only
      generalize z0 % (10 ^ (20 : Int).toNat) = far at hfar ⊢
      refine ⟨1, rfl, (by show 1 ≤ sizeLine; decide), fun l1 n1 => ⟨Nat.zero_le _, fun l2 n2 l3 n3 => ⟨.int far, rfl, _, _, rfl, rfl, 1, rfl, .int far, rfl, _, _, rfl, rfl, (by show 10 ≤ sizeLine; decide), fun l4 n4 => ?_⟩⟩⟩
      have t1 := same_upd (o := .tup [.int 2]) n1
      have u1 : upd H3 l1 (.tup [.int 2]) l1 = some (.tup [.int 2]) := upd_same
      generalize upd H3 l1 (.tup [.int 2]) = J1 at *
      have t2 := same_upd (o := .lst []) n2
      have u2 : upd J1 l2 (.lst []) l2 = some (.lst []) := upd_same
      generalize upd J1 l2 (.lst []) = J2 at *
      have t3 := same_upd (o := .dK []) n3
      have u3 : upd J2 l3 (.dK []) l3 = some (.dK []) := upd_same
      generalize upd J2 l3 (.dK []) = J3 at *
      generalize hL10 : [V.int 42, .int (-1), .non, .bl true, .str "2", .ref l1, .ref l2, .ref l3, .int (43 + far), .int (-1 - far)] = L10
      have t4 := same_upd (o := .lst L10) n4
      have u4 : upd J3 l4 (.lst L10) l4 = some (.lst L10) := upd_same
      generalize upd J3 l4 (.lst L10) = J4 at *
      have bad : ∀ x ∈ L10, NoNum K J4 x := by
        rw [← hL10]
        intro x hx
        simp only [List.mem_cons, List.not_mem_nil, or_false] at hx
        rcases hx with rfl | rfl | rfl | rfl | rfl | rfl | rfl | rfl | rfl | rfl
        · exact .inr ⟨42, rfl, .inr (by decide)⟩
        · exact .inr ⟨-1, rfl, .inl (by decide)⟩
        · exact .inl odd_non
        · exact .inl odd_bl
        · exact .inl odd_str
        · exact .inl (odd_tup ((t2.trans (t3.trans t4)) _ _ u1))
        · exact .inl (odd_lst ((t3.trans t4) _ _ u2))
        · exact .inl (odd_dK (t4 _ _ u3))
        · exact .inr ⟨_, rfl, .inr (by omega)⟩
        · exact .inr ⟨_, rfl, .inl (by omega)⟩
      have s34 : Same H3 J4 := (t1.trans t2).trans (t3.trans t4)
      refine ⟨l4, rfl, ⟨_, SqL.of u4⟩, ?_⟩
      refine for_list (K := K) (a := l4) (xs := L10) (fun i σ H5 => ∃ y3 y4 y11, σ = [some (.ref a), some (.ref p1), some (.ref pd), y3, y4, some (.int far), none, none, none, none, none, y11] ∧ ExtN J4 H5 ∧ Tabs [(tb, qLam)] H5) ⟨_, _, _, rfl, ExtN.refl _, hT3.ext s34⟩ (fun i σ H5 _ ⟨_, _, _, _, h, _⟩ => SqL.of (ext_lst h u4)) ?_ ?_
      · rintro i x σ H5 hx ⟨y3, y4, y11, rfl, x5, hT5⟩
        have hb := nonum_ext x5 (bad x (List.mem_of_getElem? hx))
        refine ⟨hT5, fun H6 x6 hT6 RR => ⟨x, rfl, x, rfl, .inr ?_⟩⟩
        have fin : ∀ H7, Same H6 H7 → ∃ y3' y4' y11', ([some (.ref a), some (.ref p1), some (.ref pd), y3, y4, some (.int far), none, none, none, none, none, some x] : St) = [some (.ref a), some (.ref p1), some (.ref pd), y3', y4', some (.int far), none, none, none, none, none, y11'] ∧ ExtN J4 H7 ∧ Tabs [(tb, qLam)] H7 := fun H7 s7 => ⟨_, _, _, rfl, (x5.trans x6).trans (ext_of s7), hT6.ext s7⟩
        have hne : V.bl (!decide (V.int ((0 : Nat) : Int) = V.int 0)) = V.bl false := by
          rw [show V.int ((0 : Nat) : Int) = V.int 0 from rfl, decide_eq_true rfl]
          rfl
        rcases nonum_ext x6 hb with ho | ⟨j, rfl, hj⟩
        · exact .inl ⟨ho, rfl, rfl, fun H7 s7 => ⟨rfl, false, hne, iteF (fin H7 s7)⟩⟩
        · exact .inr ⟨j, rfl, hj, rfl, rfl, fun H7 s7 => ⟨rfl, false, hne, iteF (fin H7 s7)⟩⟩
      rintro σ H5 ⟨y3, y4, y11, rfl, x5, hT5⟩
      have e5 := ext_lst x5 (s34 _ _ e3)
      generalize (z0 :: zs) = ws at *
      refine ⟨.ref p1, rfl, p1, rfl, ⟨_, SqL.of e5⟩, ?_⟩
      refine for_list (K := K) (a := p1) (xs := ws.map V.int) (fun i σ H6 => ∃ y3 y4 y6 y7 y8 y9 y10 y11, σ = [some (.ref a), some (.ref p1), some (.ref pd), y3, y4, some (.int far), y6, y7, y8, y9, y10, y11] ∧ Same H5 H6) ⟨_, _, _, _, _, _, _, _, rfl, Same.refl _⟩ (fun i σ H6 _ ⟨_, _, _, _, _, _, _, _, _, h⟩ => SqL.of (h _ _ e5)) ?_ ?_
      · rintro i x σ H6 hx ⟨y3, y4, y6, y7, y8, y9, y10, y11, rfl, s6⟩
        rw [List.getElem?_map] at hx
        obtain ⟨c, _, rfl⟩ := Option.map_eq_some_iff.mp hx
        refine ⟨.int c, rfl, c, rfl, fun H7 bs s7 hR => ?_⟩
        refine ⟨.str (tx bs), rfl, .int c, rfl, _, _, rfl, rfl, ⟨by decide, by decide⟩, .str (tx bs), rfl, c / 5, bs, rfl, hR, fun H8 ls s8 hll hbn => ?_⟩
        refine ⟨bs, ls, rfl, hll.symm, hR.2, fun H9 s9 => ?_⟩
        have hst := steps_way (bs.zip ls)
        have hzl : (bs.zip ls).length = bs.length := by rw [List.length_zip, hll, Nat.min_self]
        have hcl : (47 :: (inter (bs.zip ls)).map stp ++ [45]).length = 2 * bs.length + 2 := by
          rw [List.length_append, List.length_cons, List.length_map, inter_len, hzl]
          rfl
        have h30 := hR.2
        generalize 47 :: (inter (bs.zip ls)).map stp ++ [45] = cs at hst hcl
        refine ⟨.str (rt cs), rfl, .int c, rfl, _, _, rfl, rfl, ⟨by decide, by decide⟩, .str (rt cs), rfl, c / 3, cs, rfl, hst, by omega, by omega, fun H10 za s10 hza => ?_⟩
        refine ⟨.int c, rfl, _, _, rfl, rfl, ⟨by decide, by decide⟩, .str (rt cs), rfl, c / 11, cs, rfl, hst, by omega, by omega, fun H11 zb s11 hzb => ⟨(by show 8 ≤ sizeLine; decide), fun pa na => ?_⟩⟩
        have sA := same_upd (o := .lst [.str (rt cs), .str za, .str zb, .str "", .str "/", .str "-/", .str "/- ", .str "//--\n"]) na
        have eA : upd H11 pa (.lst [.str (rt cs), .str za, .str zb, .str "", .str "/", .str "-/", .str "/- ", .str "//--\n"]) pa = some (.lst [.str (rt cs), .str za, .str zb, .str "", .str "/", .str "-/", .str "/- ", .str "//--\n"]) := upd_same
        generalize upd H11 pa (.lst [.str (rt cs), .str za, .str zb, .str "", .str "/", .str "-/", .str "/- ", .str "//--\n"]) = HA at *
        refine ⟨.ref pa, rfl, (by show 2 ≤ sizeLine; decide), fun m1 k1 => ⟨(by show 2 ≤ sizeLine; decide), fun m2 k2 m3 k3 => ⟨(by show 8 ≤ sizeLine; decide), fun m4 k4 => ?_⟩⟩⟩
        have v1 := same_upd (o := .lst [.str "/", .str "-"]) k1
        have w1 : upd HA m1 (.lst [.str "/", .str "-"]) m1 = some (.lst [.str "/", .str "-"]) := upd_same
        generalize upd HA m1 (.lst [.str "/", .str "-"]) = B1 at *
        have v2 := same_upd (o := .tup [.str "/", .str "-"]) k2
        have w2 : upd B1 m2 (.tup [.str "/", .str "-"]) m2 = some (.tup [.str "/", .str "-"]) := upd_same
        generalize upd B1 m2 (.tup [.str "/", .str "-"]) = B2 at *
        have v3 := same_upd (o := .dK []) k3
        have w3 : upd B2 m3 (.dK []) m3 = some (.dK []) := upd_same
        generalize upd B2 m3 (.dK []) = B3 at *
        have v4 := same_upd (o := .lst [.non, .int 0, .bl true, .ref m1, .ref m2, .ref m3, .str "o.", .str "/_"]) k4
        have w4 : upd B3 m4 (.lst [.non, .int 0, .bl true, .ref m1, .ref m2, .ref m3, .str "o.", .str "/_"]) m4 = some (.lst [.non, .int 0, .bl true, .ref m1, .ref m2, .ref m3, .str "o.", .str "/_"]) := upd_same
        generalize upd B3 m4 (.lst [.non, .int 0, .bl true, .ref m1, .ref m2, .ref m3, .str "o.", .str "/_"]) = B4 at *
        have sAB : Same HA B4 := (v1.trans v2).trans (v3.trans v4)
        refine ⟨pa, m4, _, _, rfl, rfl, sAB _ _ eA, w4, (by show 8 + 8 ≤ sizeLine; decide), fun pc nc => ?_⟩
        generalize hX : ([.str (rt cs), .str za, .str zb, .str "", .str "/", .str "-/", .str "/- ", .str "//--\n"] ++ [.non, .int 0, .bl true, .ref m1, .ref m2, .ref m3, .str "o.", .str "/_"] : List V) = X
        have v5 := same_upd (o := .lst X) nc
        have w5 : upd B4 pc (.lst X) pc = some (.lst X) := upd_same
        generalize upd B4 pc (.lst X) = B5 at *
        have allX : ∀ x ∈ X, ∃ b, WayV K B5 x b := by
          rw [← hX]
          intro x hx
          simp only [List.cons_append, List.nil_append, List.mem_cons, List.not_mem_nil, or_false] at hx
          rcases hx with rfl | rfl | rfl | rfl | rfl | rfl | rfl | rfl | rfl | rfl | rfl | rfl | rfl | rfl | rfl | rfl
          · exact way_lit (by rw [rt_len]; omega)
          · exact way_lit (by omega)
          · exact way_lit (by omega)
          · exact way_lit (by decide +kernel)
          · exact way_lit (by decide +kernel)
          · exact way_lit (by decide +kernel)
          · exact way_lit (by decide +kernel)
          · exact way_lit (by decide +kernel)
          · exact way_no notxt_non
          · exact way_no notxt_int
          · exact way_no notxt_bl
          · exact way_no (notxt_lst ((v2.trans (v3.trans (v4.trans v5))) _ _ w1))
          · exact way_no (notxt_tup ((v3.trans (v4.trans v5)) _ _ w2))
          · exact way_no (notxt_dK ((v4.trans v5) _ _ w3))
          · exact way_lit (by decide +kernel)
          · exact way_lit (by decide +kernel)
        have s6B : Same H6 B5 := ((s7.trans s8).trans (s9.trans s10)).trans ((s11.trans sA).trans (sAB.trans v5))
        refine ⟨pc, rfl, ⟨_, SqL.of w5⟩, ?_⟩
        refine for_list (K := K) (a := pc) (xs := X) (fun i σ H12 => ∃ y4 y10, σ = [some (.ref a), some (.ref p1), some (.ref pd), y3, y4, some (.int far), some (.int c), some (.str (tx bs)), some (.str (rt cs)), some (.ref pa), y10, y11] ∧ Same B5 H12) ⟨_, _, rfl, Same.refl _⟩ (fun i σ H12 _ ⟨_, _, _, h⟩ => SqL.of (h _ _ w5)) ?_ ?_
        · rintro i x σ H12 hx ⟨y4, y10, rfl, s12⟩
          obtain ⟨b, hb⟩ := allX x (List.mem_of_getElem? hx)
          refine ⟨x, rfl, x, b, rfl, way_same s12 hb, ?_⟩
          refine ⟨.bl b, rfl, .bl b, .ty "bool", .type "bool", .type "bool", true, rfl, .ty _, .base (.bl _), kit_ty (by decide +kernel), true, rfl, iteF ?_⟩
          refine ⟨.bl b, rfl, x, rfl, x, b, rfl, way_same s12 hb, fun H13 s13' => ⟨rfl, _, rfl, ?_⟩⟩
          rw [decide_eq_true rfl]
          exact iteF ⟨_, _, rfl, s12.trans s13'⟩
        · rintro σ H12 ⟨y4, y10, rfl, s12⟩
          exact ⟨_, _, _, _, _, _, _, _, rfl, s6.trans (s6B.trans s12)⟩
      · rintro σ H6 ⟨y3, y4, y6, y7, y8, y9, y10, y11, rfl, s6⟩
        exact q _
    refine ⟨_, PSs.nox (pss_cons (ps_set (i := 1) nd rfl (.inl rfl) (pe_slice sl_list (pv 0) po_none (po_some pe_int)))
      (pss_cons (ps_if (pt_cmpR (op_eqD hu64) (pv 1) (pe_lst pa_nil) (nomark _)) (pss_one (ps_set (i := 1) nd rfl (.inl rfl) (pe_lst (pa_cons pe_int pa_nil)))) pss_nil) pL)), ?_⟩
    obtain ⟨zs, ez, hzl⟩ := cut_ints ns 20 hlen
    refine ⟨.ref a, rfl, 20, rfl, a, _, rfl, hS, fun p np => ?_⟩
    rw [ez]
    refine ⟨.ref p, rfl, Nat.zero_le _, fun p2 n2 => ?_⟩
    have npp : p ≠ p2 := fun e => by
      rw [← e, upd_same] at n2
      cases n2
    have sP := (same_upd (o := .lst (zs.map V.int)) np).trans (same_upd (o := .lst []) n2)
    refine ⟨.list (dis zs), .list [], .lst (SqL.of (by rw [upd_ne npp, upd_same])) (dp_ints zs), .lst (SqL.of upd_same) .nil, shaped_zs zs, shaped_zs [], _, rfl, ?_⟩
    refine ite2 (fun e => ⟨(by show 1 ≤ sizeLine; decide), fun p3 n3 => ?_⟩) (fun e => ?_)
    · exact hL _ p3 0 [] upd_same (hTab.ext (sP.trans (same_upd n3)))
    · cases zs with
      | nil => exact absurd rfl e
      | cons z0 zs => exact hL _ p z0 zs (by rw [upd_ne npp, upd_same]) (hTab.ext sP)
end
end Hop

set_option Elab.async false
set_option linter.all false
set_option maxRecDepth 100000
namespace Hop
open PySem L2 HopR
/-! ### what the top has written -/
theorem all_mk {l : PySem.W.OpenLaw} {w : World} {K : PySem.W.Frag} {h : Heap} {mg : Str → Option Value} {fa : Addr} (X : K.In h) (G : h.Ns mainGlobals mg) (hfa : mg "law" = some (.ref fa)) (own : LamX.OwnTab K fa h)
    {f1 : Addr} {od1 an1 : Option Addr} {sl1 : Array (Option Value)} {oc1 kV1 dc1 pm1 cd1 ct1 : Value}
    {f2 : Addr} {od2 an2 : Option Addr} {sl2 : Array (Option Value)} {oc2 kV2 dc2 pm2 cd2 ct2 : Value}
    {f3 : Addr} {od3 an3 : Option Addr} {sl3 : Array (Option Value)} {oc3 kV3 dc3 pm3 cd3 ct3 : Value}
    {f4 : Addr} {od4 an4 : Option Addr} {sl4 : Array (Option Value)} {oc4 kV4 dc4 pm4 cd4 ct4 : Value}
    {fm1 : Addr} {odm1 anm1 : Option Addr} {slm1 : Array (Option Value)} {ocm1 kVm1 dcm1 pmm1 cdm1 ctm1 : Value}
    {fv1 : Addr} {odv1 anv1 : Option Addr} {slv1 : Array (Option Value)} {ocv1 kVv1 dcv1 pmv1 cdv1 ctv1 : Value}
    {fk1 : Addr} {odk1 ank1 : Option Addr} {slk1 : Array (Option Value)} {ock1 kVk1 dck1 pmk1 cdk1 ctk1 : Value}
    {fw : Addr} {odw anw : Option Addr} {slw : Array (Option Value)} {ocw kVw dcw pmw cdw ctw : Value}
    {fr : Addr} {odr anr : Option Addr} {slr : Array (Option Value)} {ocr kVr dcr pmr cdr ctr : Value}
    {fy1 : Addr} {ody1 any1 : Option Addr} {sly1 : Array (Option Value)} {ocy1 kVy1 dcy1 pmy1 cdy1 cty1 : Value}
    {fi : Addr} {odi ani : Option Addr} {sli : Array (Option Value)} {oci kVi dci pmi cdi cti : Value}
    {fb : Addr} {odb anb : Option Addr} {slb : Array (Option Value)} {ocb kVb dcb pmb cdb ctb : Value}
    {fo : Addr} {odo ano : Option Addr} {slo : Array (Option Value)} {oco kVo dco pmo cdo cto : Value}
    {fg1 : Addr} {odg1 ang1 : Option Addr} {slg1 : Array (Option Value)} {ocg1 kVg1 dcg1 pmg1 cdg1 ctg1 : Value}
    {fq : Addr} {odq anq : Option Addr} {slq : Array (Option Value)} {ocq kVq dcq pmq cdq ctq : Value}
    {fL : Addr} {odL anL : Option Addr} {slL : Array (Option Value)} {ocL kVL dcL pmL cdL ctL : Value}
    {tu0 : Tok}
    {tm0 : Tok}
    {d : Addr} {es : Array DictEntry} {n : Nat}
    {HE NN NR NP NS NW NC NH NT NY NI NG : Addr}
    {cc tb : Addr} {ddc : Option Addr} {vsc : Array Value} {slc : Array (Option Value)} {fic : Str} {tfc tgc ttc : Tok} {flc txc : Int} {inc : Bool}
    (a1 : PySem.W.nsIn K mainGlobals "is_whole" = some (some (.ref f1))) (l1 : K.lookup f1 = some ⟨oc1, od1, .func (PySem.W.fnOf "is_whole" "is_whole" (defArgs sIsWhole) (defBody sIsWhole) (defScope sIsWhole) .none kV1 dc1 pm1 an1 cd1 ct1), sl1⟩) (c1 : PySem.W.codeIn K cd1 "is_whole" = true) (k1 : PySem.W.keepIn K (.ref f1) = true)
    (a2 : PySem.W.nsIn K mainGlobals "need_number" = some (some (.ref f2))) (l2 : K.lookup f2 = some ⟨oc2, od2, .func (PySem.W.fnOf "need_number" "need_number" (defArgs sNeedNum) (defBody sNeedNum) (defScope sNeedNum) .none kV2 dc2 pm2 an2 cd2 ct2), sl2⟩) (c2 : PySem.W.codeIn K cd2 "need_number" = true) (k2 : PySem.W.keepIn K (.ref f2) = true)
    (a3 : PySem.W.nsIn K mainGlobals "is_way" = some (some (.ref f3))) (l3 : K.lookup f3 = some ⟨oc3, od3, .func (PySem.W.fnOf "is_way" "is_way" (defArgs sIsWay) (defBody sIsWay) (defScope sIsWay) .none kV3 dc3 pm3 an3 cd3 ct3), sl3⟩) (c3 : PySem.W.codeIn K cd3 "is_way" = true) (k3 : PySem.W.keepIn K (.ref f3) = true)
    (a4 : PySem.W.nsIn K mainGlobals "ways_many" = some (some (.ref f4))) (l4 : K.lookup f4 = some ⟨oc4, od4, .func (PySem.W.fnOf "ways_many" "ways_many" (defArgs sWays) (defBody sWays) (defScope sWays) .none kV4 dc4 pm4 an4 cd4 ct4), sl4⟩) (c4 : PySem.W.codeIn K cd4 "ways_many" = true) (k4 : PySem.W.keepIn K (.ref f4) = true)
    (am1 : PySem.W.nsIn K mainGlobals "_law_many_ways" = some (some (.ref fm1))) (lm1 : K.lookup fm1 = some ⟨ocm1, odm1, .func (PySem.W.fnOf "_law_many_ways" "_law_many_ways" (defArgs sMany) (defBody sMany) (defScope sMany) .none kVm1 dcm1 pmm1 anm1 cdm1 ctm1), slm1⟩) (cm1 : PySem.W.codeIn K cdm1 "_law_many_ways" = true) (km1 : PySem.W.keepIn K (.ref fm1) = true)
    (av1 : PySem.W.nsIn K mainGlobals "_law_whole" = some (some (.ref fv1))) (lv1 : K.lookup fv1 = some ⟨ocv1, odv1, .func (PySem.W.fnOf "_law_whole" "_law_whole" (defArgs sWhole) (defBody sWhole) (defScope sWhole) .none kVv1 dcv1 pmv1 anv1 cdv1 ctv1), slv1⟩) (cv1 : PySem.W.codeIn K cdv1 "_law_whole" = true) (kv1 : PySem.W.keepIn K (.ref fv1) = true)
    (ak1 : PySem.W.nsIn K mainGlobals "_law_class_of" = some (some (.ref fk1))) (lk1 : K.lookup fk1 = some ⟨ock1, odk1, .func (PySem.W.fnOf "_law_class_of" "_law_class_of" (defArgs sClass) (defBody sClass) (defScope sClass) .none kVk1 dck1 pmk1 ank1 cdk1 ctk1), slk1⟩) (ck1 : PySem.W.codeIn K cdk1 "_law_class_of" = true) (kk1 : PySem.W.keepIn K (.ref fk1) = true)
    (aw : PySem.W.nsIn K mainGlobals "_law_drawn" = some (some (.ref fw))) (lw : K.lookup fw = some ⟨ocw, odw, .func (PySem.W.fnOf "_law_drawn" "_law_drawn" (defArgs sDrawn) (defBody sDrawn) (defScope sDrawn) .none kVw dcw pmw anw cdw ctw), slw⟩) (cw : PySem.W.codeIn K cdw "_law_drawn" = true) (kw : PySem.W.keepIn K (.ref fw) = true)
    (ar : PySem.W.nsIn K mainGlobals "_law_row" = some (some (.ref fr))) (lr : K.lookup fr = some ⟨ocr, odr, .func (PySem.W.fnOf "_law_row" "_law_row" (defArgs sLRow) (defBody sLRow) (defScope sLRow) .none kVr dcr pmr anr cdr ctr), slr⟩) (cr : PySem.W.codeIn K cdr "_law_row" = true) (kr : PySem.W.keepIn K (.ref fr) = true)
    (ay1 : PySem.W.nsIn K mainGlobals "_law_way" = some (some (.ref fy1))) (ly1 : K.lookup fy1 = some ⟨ocy1, ody1, .func (PySem.W.fnOf "_law_way" "_law_way" (defArgs sLWay) (defBody sLWay) (defScope sLWay) .none kVy1 dcy1 pmy1 any1 cdy1 cty1), sly1⟩) (cy1 : PySem.W.codeIn K cdy1 "_law_way" = true) (ky1 : PySem.W.keepIn K (.ref fy1) = true)
    (ai : PySem.W.nsIn K mainGlobals "_law_rise" = some (some (.ref fi))) (li : K.lookup fi = some ⟨oci, odi, .func (PySem.W.fnOf "_law_rise" "_law_rise" (defArgs sLRise) (defBody sLRise) (defScope sLRise) .none kVi dci pmi ani cdi cti), sli⟩) (ci : PySem.W.codeIn K cdi "_law_rise" = true) (ki : PySem.W.keepIn K (.ref fi) = true)
    (ab : PySem.W.nsIn K mainGlobals "_law_behind" = some (some (.ref fb))) (lb : K.lookup fb = some ⟨ocb, odb, .func (PySem.W.fnOf "_law_behind" "_law_behind" (defArgs sLBehind) (defBody sLBehind) (defScope sLBehind) .none kVb dcb pmb anb cdb ctb), slb⟩) (cb : PySem.W.codeIn K cdb "_law_behind" = true) (kb : PySem.W.keepIn K (.ref fb) = true)
    (ao : PySem.W.nsIn K mainGlobals "_law_one_beneath" = some (some (.ref fo))) (lo : K.lookup fo = some ⟨oco, odo, .func (PySem.W.fnOf "_law_one_beneath" "_law_one_beneath" (defArgs sLOne) (defBody sLOne) (defScope sLOne) .none kVo dco pmo ano cdo cto), slo⟩) (co : PySem.W.codeIn K cdo "_law_one_beneath" = true) (ko : PySem.W.keepIn K (.ref fo) = true)
    (ag1 : PySem.W.nsIn K mainGlobals "_law_bent_way" = some (some (.ref fg1))) (lg1 : K.lookup fg1 = some ⟨ocg1, odg1, .func (PySem.W.fnOf "_law_bent_way" "_law_bent_way" (defArgs sBentW) (defBody sBentW) (defScope sBentW) .none kVg1 dcg1 pmg1 ang1 cdg1 ctg1), slg1⟩) (cg1 : PySem.W.codeIn K cdg1 "_law_bent_way" = true) (kg1 : PySem.W.keepIn K (.ref fg1) = true)
    (aq : PySem.W.nsIn K mainGlobals "_law_is_way" = some (some (.ref fq))) (lq : K.lookup fq = some ⟨ocq, odq, .func (PySem.W.fnOf "_law_is_way" "_law_is_way" (defArgs sLIsWay) (defBody sLIsWay) (defScope sLIsWay) .none kVq dcq pmq anq cdq ctq), slq⟩) (cq : PySem.W.codeIn K cdq "_law_is_way" = true) (kq : PySem.W.keepIn K (.ref fq) = true)
    (aL : PySem.W.nsIn K mainGlobals "law" = some (some (.ref fL))) (lL : K.lookup fL = some ⟨ocL, odL, .func (PySem.W.fnOf "law" "law" (defArgs sLaw) (defBody sLaw) (defScope sLaw) .none kVL dcL pmL anL cdL ctL), slL⟩) (cL : PySem.W.codeIn K cdL "law" = true) (kL : PySem.W.keepIn K (.ref fL) = true)
    (z0 : PySem.W.nsIn K mainGlobals "len" = some none)
    (z1 : PySem.W.nsIn K mainGlobals "range" = some none)
    (z2 : PySem.W.nsIn K mainGlobals "isinstance" = some none)
    (z3 : PySem.W.nsIn K mainGlobals "str" = some none)
    (z4 : PySem.W.nsIn K mainGlobals "bool" = some none)
    (z5 : PySem.W.nsIn K mainGlobals "list" = some none)
    (z6 : PySem.W.nsIn K mainGlobals "int" = some none)
    (z7 : PySem.W.nsIn K mainGlobals "zip" = some none)
    (z8 : PySem.W.nsIn K mainGlobals "sorted" = some none)
    (z9 : PySem.W.nsIn K mainGlobals "sum" = some none)
    (z10 : PySem.W.nsIn K mainGlobals "ValueError" = some none)
    (gu0 : PySem.W.nsIn K mainGlobals "UP" = some (some (.str "/" tu0)))
    (gm0 : PySem.W.nsIn K mainGlobals "MOST_HALF_STEPS" = some (some (.int 41 tm0)))
    (gd : PySem.W.nsIn K mainGlobals "SIGN_OF" = some (some (.ref d)))
    (ld : K.lookup d = some ⟨.type "dict", none, .dict es n, #[]⟩)
    (kd : PySem.W.KeysLit w.params es.toList)
    (sd : (d == sysModules) = false)
    (ke : es.toList.map (fun e => keyText e.key) = [some ("/" : Str), some ("-" : Str)])
    (g_HE : PySem.W.nsIn K mainGlobals "HopError" = some (some (.ref HE)))
    (g_NN : PySem.W.nsIn K mainGlobals "NoNumber" = some (some (.ref NN)))
    (g_NR : PySem.W.nsIn K mainGlobals "NoRow" = some (some (.ref NR)))
    (g_NP : PySem.W.nsIn K mainGlobals "NoPace" = some (some (.ref NP)))
    (g_NS : PySem.W.nsIn K mainGlobals "NoStep" = some (some (.ref NS)))
    (g_NW : PySem.W.nsIn K mainGlobals "NoWord" = some (some (.ref NW)))
    (g_NC : PySem.W.nsIn K mainGlobals "NoPlace" = some (some (.ref NC)))
    (g_NH : PySem.W.nsIn K mainGlobals "NoHeap" = some (some (.ref NH)))
    (g_NT : PySem.W.nsIn K mainGlobals "TooMany" = some (some (.ref NT)))
    (g_NY : PySem.W.nsIn K mainGlobals "NoWay" = some (some (.ref NY)))
    (g_NI : PySem.W.nsIn K mainGlobals "NoLines" = some (some (.ref NI)))
    (g_NG : PySem.W.nsIn K mainGlobals "NoRing" = some (some (.ref NG)))
    (d_HE : PySem.W.hasDictIn K HE = true)
    (t_HE : PySem.W.typeIn K (.ref HE) = some (.type "type"))
    (d_NN : PySem.W.hasDictIn K NN = true)
    (t_NN : PySem.W.typeIn K (.ref NN) = some (.type "type"))
    (d_NR : PySem.W.hasDictIn K NR = true)
    (t_NR : PySem.W.typeIn K (.ref NR) = some (.type "type"))
    (d_NP : PySem.W.hasDictIn K NP = true)
    (t_NP : PySem.W.typeIn K (.ref NP) = some (.type "type"))
    (d_NS : PySem.W.hasDictIn K NS = true)
    (t_NS : PySem.W.typeIn K (.ref NS) = some (.type "type"))
    (d_NW : PySem.W.hasDictIn K NW = true)
    (t_NW : PySem.W.typeIn K (.ref NW) = some (.type "type"))
    (d_NC : PySem.W.hasDictIn K NC = true)
    (t_NC : PySem.W.typeIn K (.ref NC) = some (.type "type"))
    (d_NH : PySem.W.hasDictIn K NH = true)
    (t_NH : PySem.W.typeIn K (.ref NH) = some (.type "type"))
    (d_NT : PySem.W.hasDictIn K NT = true)
    (t_NT : PySem.W.typeIn K (.ref NT) = some (.type "type"))
    (d_NY : PySem.W.hasDictIn K NY = true)
    (t_NY : PySem.W.typeIn K (.ref NY) = some (.type "type"))
    (d_NI : PySem.W.hasDictIn K NI = true)
    (t_NI : PySem.W.typeIn K (.ref NI) = some (.type "type"))
    (d_NG : PySem.W.hasDictIn K NG = true)
    (t_NG : PySem.W.typeIn K (.ref NG) = some (.type "type"))
    (b_HE : PySem.W.subIn K (.ref HE) (.type "BaseException") = some true)
    (b_NN : PySem.W.subIn K (.ref NN) (.type "BaseException") = some true)
    (q_hn : PySem.W.specialIn K (.builtin "object.__class__") "__get__" = some (some (.builtin "getset_descriptor.__get__")))
    (q_htk : PySem.W.takesIn K (.builtin "object.__class__") = some true)
    (x_NN : PySem.W.excIn K NN [.type "ValueError", .type "Exception", .type "BaseException", .type "object"] "ValueError.__new__" = true)
    (k_NN : PySem.W.keepIn K (.ref NN) = true)
    (ga_NN : PySem.W.findIn K (.ref NN) "__getattribute__" = some (some (.builtin "BaseException.__getattribute__")))
    (gt_NN : PySem.W.findIn K (.ref NN) "__getattr__" = some none)
    (cl_NN : PySem.W.findIn K (.ref NN) "__class__" = some (some (.builtin "object.__class__")))
    (mo_NN : PySem.W.mroIn K NN (.type "object") = some true)
    (v_NN : PySem.W.subIn K (.ref NN) (.type "ValueError") = some true)
    (s_NN_NR : PySem.W.subIn K (.ref NN) (.ref NR) = some false)
    (e_NN_NR : NN ≠ NR)
    (s_NN_NP : PySem.W.subIn K (.ref NN) (.ref NP) = some false)
    (e_NN_NP : NN ≠ NP)
    (s_NN_NS : PySem.W.subIn K (.ref NN) (.ref NS) = some false)
    (e_NN_NS : NN ≠ NS)
    (s_NN_NW : PySem.W.subIn K (.ref NN) (.ref NW) = some false)
    (e_NN_NW : NN ≠ NW)
    (s_NN_NC : PySem.W.subIn K (.ref NN) (.ref NC) = some false)
    (e_NN_NC : NN ≠ NC)
    (s_NN_NH : PySem.W.subIn K (.ref NN) (.ref NH) = some false)
    (e_NN_NH : NN ≠ NH)
    (s_NN_NT : PySem.W.subIn K (.ref NN) (.ref NT) = some false)
    (e_NN_NT : NN ≠ NT)
    (s_NN_NY : PySem.W.subIn K (.ref NN) (.ref NY) = some false)
    (e_NN_NY : NN ≠ NY)
    (s_NN_NI : PySem.W.subIn K (.ref NN) (.ref NI) = some false)
    (e_NN_NI : NN ≠ NI)
    (s_NN_NG : PySem.W.subIn K (.ref NN) (.ref NG) = some false)
    (e_NN_NG : NN ≠ NG)
    (s_NN_HE : PySem.W.subIn K (.ref NN) (.ref HE) = some true)
    (e_NN_HE : NN ≠ HE)
    (hcc : cdL = .ref cc)
    (lcc : K.lookup cc = some ⟨.type "code", ddc, .fields vsc, slc⟩)
    (v11 : vsc[11]? = some (.ref tb))
    (v11d : vsc.getD 11 .none = .ref tb)
    (v18 : vsc.getD 18 .none = .str fic tfc)
    (v7 : vsc.getD 7 .none = .int flc tgc)
    (v9 : vsc.getD 9 .none = .bool inc)
    (v10 : vsc.getD 10 .none = .int txc ttc)
    (nct : cc ≠ tb)
    (ntb : K.lookup tb = none)
    : LamX.LawAtS l w K CX0 7 63 "_law_script" mg fa h := by
  have e := hfa.symm.trans (PySem.W.mg_of X G aL)
  cases e
  subst hcc
  have F1 := fun_mk (st := sIsWhole) l1 c1 k1
  have b1 := F1.binds (ps := ["thing"]) fun _ _ _ _ _ _ us hl => match us, hl with | [_], _ => rfl
  have N1 := Fn.mk (ps := ["thing"]) F1 b1 (PySem.W.mg_of X G a1)
  have F2 := fun_mk (st := sNeedNum) l2 c2 k2
  have b2 := F2.binds (ps := ["thing", "least", "most"]) fun _ _ _ _ _ _ us hl => match us, hl with | [_, _, _], _ => rfl
  have N2 := Fn.mk (ps := ["thing", "least", "most"]) F2 b2 (PySem.W.mg_of X G a2)
  have F3 := fun_mk (st := sIsWay) l3 c3 k3
  have b3 := F3.binds (ps := ["thing"]) fun _ _ _ _ _ _ us hl => match us, hl with | [_], _ => rfl
  have N3 := Fn.mk (ps := ["thing"]) F3 b3 (PySem.W.mg_of X G a3)
  have F4 := fun_mk (st := sWays) l4 c4 k4
  have b4 := F4.binds (ps := ["many"]) fun _ _ _ _ _ _ us hl => match us, hl with | [_], _ => rfl
  have N4 := Fn.mk (ps := ["many"]) F4 b4 (PySem.W.mg_of X G a4)
  have Fm1 := fun_mk (st := sMany) lm1 cm1 km1
  have bm1 := Fm1.binds (ps := ["_law_most"]) fun _ _ _ _ _ _ us hl => match us, hl with | [_], _ => rfl
  have Nm1 := Fn.mk (ps := ["_law_most"]) Fm1 bm1 (PySem.W.mg_of X G am1)
  have Fv1 := fun_mk (st := sWhole) lv1 cv1 kv1
  have bv1 := Fv1.binds (ps := ["_law_found"]) fun _ _ _ _ _ _ us hl => match us, hl with | [_], _ => rfl
  have Nv1 := Fn.mk (ps := ["_law_found"]) Fv1 bv1 (PySem.W.mg_of X G av1)
  have Fk1 := fun_mk (st := sClass) lk1 ck1 kk1
  have bk1 := Fk1.binds (ps := ["_law_call"]) fun _ _ _ _ _ _ us hl => match us, hl with | [_], _ => rfl
  have Nk1 := Fn.mk (ps := ["_law_call"]) Fk1 bk1 (PySem.W.mg_of X G ak1)
  have Fw := fun_mk (st := sDrawn) lw cw kw
  have bw := Fw.binds (ps := ["_law_cell", "_law_sizes"]) fun _ _ _ _ _ _ us hl => match us, hl with | [_, _], _ => rfl
  have Nw := Fn.mk (ps := ["_law_cell", "_law_sizes"]) Fw bw (PySem.W.mg_of X G aw)
  have Fr := fun_mk (st := sLRow) lr cr kr
  have br := Fr.binds (ps := ["_law_cell", "_law_most"]) fun _ _ _ _ _ _ us hl => match us, hl with | [_, _], _ => rfl
  have Nr := Fn.mk (ps := ["_law_cell", "_law_most"]) Fr br (PySem.W.mg_of X G ar)
  have Fy1 := fun_mk (st := sLWay) ly1 cy1 ky1
  have by1 := Fy1.binds (ps := ["_law_row_here", "_law_other"]) fun _ _ _ _ _ _ us hl => match us, hl with | [_, _], _ => rfl
  have Ny1 := Fn.mk (ps := ["_law_row_here", "_law_other"]) Fy1 by1 (PySem.W.mg_of X G ay1)
  have Fi := fun_mk (st := sLRise) li ci ki
  have bi := Fi.binds (ps := ["_law_sign"]) fun _ _ _ _ _ _ us hl => match us, hl with | [_], _ => rfl
  have Ni := Fn.mk (ps := ["_law_sign"]) Fi bi (PySem.W.mg_of X G ai)
  have Fb := fun_mk (st := sLBehind) lb cb kb
  have bb := Fb.binds (ps := ["_law_row_here"]) fun _ _ _ _ _ _ us hl => match us, hl with | [_], _ => rfl
  have Nb := Fn.mk (ps := ["_law_row_here"]) Fb bb (PySem.W.mg_of X G ab)
  have Fo := fun_mk (st := sLOne) lo co ko
  have bo := Fo.binds (ps := ["_law_cell", "_law_row_here"]) fun _ _ _ _ _ _ us hl => match us, hl with | [_, _], _ => rfl
  have No := Fn.mk (ps := ["_law_cell", "_law_row_here"]) Fo bo (PySem.W.mg_of X G ao)
  have Fg1 := fun_mk (st := sBentW) lg1 cg1 kg1
  have bg1 := Fg1.binds (ps := ["_law_cell", "_law_way_here"]) fun _ _ _ _ _ _ us hl => match us, hl with | [_, _], _ => rfl
  have Ng1 := Fn.mk (ps := ["_law_cell", "_law_way_here"]) Fg1 bg1 (PySem.W.mg_of X G ag1)
  have Fq := fun_mk (st := sLIsWay) lq cq kq
  have bq := Fq.binds (ps := ["_law_thing"]) fun _ _ _ _ _ _ us hl => match us, hl with | [_], _ => rfl
  have Nq := Fn.mk (ps := ["_law_thing"]) Fq bq (PySem.W.mg_of X G aq)
  have y0 := PySem.W.mg_none_of X G z0
  have y1 := PySem.W.mg_none_of X G z1
  have y2 := PySem.W.mg_none_of X G z2
  have y3 := PySem.W.mg_none_of X G z3
  have y4 := PySem.W.mg_none_of X G z4
  have y5 := PySem.W.mg_none_of X G z5
  have y6 := PySem.W.mg_none_of X G z6
  have y7 := PySem.W.mg_none_of X G z7
  have y8 := PySem.W.mg_none_of X G z8
  have y9 := PySem.W.mg_none_of X G z9
  have y10 := PySem.W.mg_none_of X G z10
  have wu0 := PySem.W.mg_of X G gu0
  have wm0 := PySem.W.mg_of X G gm0
  have T : Txt K w mg d es n := ⟨y0, y1, y2, y3, y4, y5, y6, y7, y8, y9, ⟨_, wu0⟩, ⟨_, wm0⟩, PySem.W.mg_of X G gd, ⟨ld, kd, sd⟩, (by rw [ke, show ("/" : Str) = one 47 by decide +kernel, show ("-" : Str) = one 45 by decide +kernel]; rfl)⟩
  have Z : Er K mg NN := ⟨PySem.W.mg_of X G g_NN, ⟨x_NN, k_NN, b_NN, t_NN, ⟨ga_NN, gt_NN, b_NN, d_NN, cl_NN, q_hn, q_htk, mo_NN⟩⟩⟩
  have Y : HopR.Kinds K mg HE NN NR NP NS NW NC NH NT NY NI NG := ⟨y10, PySem.W.mg_of X G g_HE, PySem.W.mg_of X G g_NN, PySem.W.mg_of X G g_NR, PySem.W.mg_of X G g_NP, PySem.W.mg_of X G g_NS, PySem.W.mg_of X G g_NW, PySem.W.mg_of X G g_NC, PySem.W.mg_of X G g_NH, PySem.W.mg_of X G g_NT, PySem.W.mg_of X G g_NY, PySem.W.mg_of X G g_NI, PySem.W.mg_of X G g_NG⟩
  have R : Raised K NN HE NN NR NP NS NW NC NH NT NY NI NG 0 := ⟨by decide, (PySem.W.exm_ref b_HE d_HE t_HE s_NN_HE), ⟨ga_NN, gt_NN, b_NN, d_NN, cl_NN, q_hn, q_htk, mo_NN⟩, (kit_own e_NN_HE d_HE t_HE s_NN_HE), HopR.kit_blt (by decide +kernel) v_NN, kit_me, (kit_own e_NN_NR d_NR t_NR s_NN_NR), (kit_own e_NN_NP d_NP t_NP s_NN_NP), (kit_own e_NN_NS d_NS t_NS s_NN_NS), (kit_own e_NN_NW d_NW t_NW s_NN_NW), (kit_own e_NN_NC d_NC t_NC s_NN_NC), (kit_own e_NN_NH d_NH t_NH s_NN_NH), (kit_own e_NN_NT d_NT t_NT s_NN_NT), (kit_own e_NN_NY d_NY t_NY s_NN_NY), (kit_own e_NN_NI d_NI t_NI s_NN_NI), (kit_own e_NN_NG d_NG t_NG s_NN_NG)⟩
  refine ⟨PySem.W.fnOf "law" "law" (defArgs sLaw) (defBody sLaw) (defScope sLaw) .none kVL dcL pmL anL (.ref cc) ctL, [(cc, tb)], spLaw K tb, fun p hp => ?_, fun p hp => ?_, fun p hp => ?_, fun s v => .of_eq rfl, fun H a ns hl _ ht hS => ⟨a, ns, rfl, hS, hl, tabs_one (ht _ List.mem_cons_self), fun _ => rfl⟩, fun base _ _ ht => ?_⟩
  · rw [List.mem_singleton.mp hp]
    exact own cc tb _ _ _ _ _ _ lL rfl rfl lcc v11
  · rw [List.mem_singleton.mp hp]
    exact ntb
  · rw [List.mem_singleton.mp hp]
    exact ⟨_, _, _, _, _, _, _, _, _, X _ _ lcc, rfl, rfl, v11, v11d, v18, v7, v9, v10, nct⟩
  · have TB : LamX.TabB base mg cc tb := ht _ List.mem_cons_self
    exact ok_law lL cL ⟨N1, N2, N3, N4, Nm1, Nv1, Nw, Nr, Ny1, Ni, Nb, No, Ng1, Nq⟩ ⟨PySem.W.mg_of X G ak1, kk1, lk1, ck1, bk1⟩ T Z Y R TB
end Hop
open PySem PySem.W PyProof.Rows in
set_option maxRecDepth 100000 in
set_option maxHeartbeats 0 in
theorem PySem.Challenge.cw_hopline_k53_ways_or_none_holds : PySem.Challenge.rw_hopline_k53_ways_or_none.Holds := by
  w_on; o_law; k_head; (case hw => w_witness2)
  k_fill
  refine LamX.walk_ofOwn (l := PySem.Challenge.rw_hopline_k53_ways_or_none) (n := 63) (k := 7) (x := "_law_script") (CX := fun _ => L2.CX0) rfl (by decide) rfl ⟨rfl, by decide, by decide⟩ (by first | rfl | decide +kernel) (fun w h Y => PySem.W.km_in_of Y) ?F (fun _ _ _ _ _ h => h)
  case F =>
    intro w mg fa h Y KX G hmg own
    refine' Hop.all_mk KX G hmg own ?u_a1 ?u_l1 ?u_c1 ?u_k1 ?u_a2 ?u_l2 ?u_c2 ?u_k2 ?u_a3 ?u_l3 ?u_c3 ?u_k3 ?u_a4 ?u_l4 ?u_c4 ?u_k4 ?u_am1 ?u_lm1 ?u_cm1 ?u_km1 ?u_av1 ?u_lv1 ?u_cv1 ?u_kv1 ?u_ak1 ?u_lk1 ?u_ck1 ?u_kk1 ?u_aw ?u_lw ?u_cw ?u_kw ?u_ar ?u_lr ?u_cr ?u_kr ?u_ay1 ?u_ly1 ?u_cy1 ?u_ky1 ?u_ai ?u_li ?u_ci ?u_ki ?u_ab ?u_lb ?u_cb ?u_kb ?u_ao ?u_lo ?u_co ?u_ko ?u_ag1 ?u_lg1 ?u_cg1 ?u_kg1 ?u_aq ?u_lq ?u_cq ?u_kq ?u_aL ?u_lL ?u_cL ?u_kL ?u_z0 ?u_z1 ?u_z2 ?u_z3 ?u_z4 ?u_z5 ?u_z6 ?u_z7 ?u_z8 ?u_z9 ?u_z10 ?u_gu0 ?u_gm0 ?u_gd ?u_ld ?u_kd ?u_sd ?u_ke ?u_g_HE ?u_g_NN ?u_g_NR ?u_g_NP ?u_g_NS ?u_g_NW ?u_g_NC ?u_g_NH ?u_g_NT ?u_g_NY ?u_g_NI ?u_g_NG ?u_d_HE ?u_t_HE ?u_d_NN ?u_t_NN ?u_d_NR ?u_t_NR ?u_d_NP ?u_t_NP ?u_d_NS ?u_t_NS ?u_d_NW ?u_t_NW ?u_d_NC ?u_t_NC ?u_d_NH ?u_t_NH ?u_d_NT ?u_t_NT ?u_d_NY ?u_t_NY ?u_d_NI ?u_t_NI ?u_d_NG ?u_t_NG ?u_b_HE ?u_b_NN ?u_q_hn ?u_q_htk ?u_x_NN ?u_k_NN ?u_ga_NN ?u_gt_NN ?u_cl_NN ?u_mo_NN ?u_v_NN ?u_s_NN_NR ?u_e_NN_NR ?u_s_NN_NP ?u_e_NN_NP ?u_s_NN_NS ?u_e_NN_NS ?u_s_NN_NW ?u_e_NN_NW ?u_s_NN_NC ?u_e_NN_NC ?u_s_NN_NH ?u_e_NN_NH ?u_s_NN_NT ?u_e_NN_NT ?u_s_NN_NY ?u_e_NN_NY ?u_s_NN_NI ?u_e_NN_NI ?u_s_NN_NG ?u_e_NN_NG ?u_s_NN_HE ?u_e_NN_HE ?u_hcc ?u_lcc ?u_v11 ?u_v11d ?u_v18 ?u_v7 ?u_v9 ?u_v10 ?u_nct ?u_ntb
    (case u_a1 => k_is)
    (case u_l1 => k_is)
    (case u_c1 => k_is)
    (case u_k1 => k_is)
    (case u_a2 => k_is)
    (case u_l2 => k_is)
    (case u_c2 => k_is)
    (case u_k2 => k_is)
    (case u_a3 => k_is)
    (case u_l3 => k_is)
    (case u_c3 => k_is)
    (case u_k3 => k_is)
    (case u_a4 => k_is)
    (case u_l4 => k_is)
    (case u_c4 => k_is)
    (case u_k4 => k_is)
    (case u_am1 => k_is)
    (case u_lm1 => k_is)
    (case u_cm1 => k_is)
    (case u_km1 => k_is)
    (case u_av1 => k_is)
    (case u_lv1 => k_is)
    (case u_cv1 => k_is)
    (case u_kv1 => k_is)
    (case u_ak1 => k_is)
    (case u_lk1 => k_is)
    (case u_ck1 => k_is)
    (case u_kk1 => k_is)
    (case u_aw => k_is)
    (case u_lw => k_is)
    (case u_cw => k_is)
    (case u_kw => k_is)
    (case u_ar => k_is)
    (case u_lr => k_is)
    (case u_cr => k_is)
    (case u_kr => k_is)
    (case u_ay1 => k_is)
    (case u_ly1 => k_is)
    (case u_cy1 => k_is)
    (case u_ky1 => k_is)
    (case u_ai => k_is)
    (case u_li => k_is)
    (case u_ci => k_is)
    (case u_ki => k_is)
    (case u_ab => k_is)
    (case u_lb => k_is)
    (case u_cb => k_is)
    (case u_kb => k_is)
    (case u_ao => k_is)
    (case u_lo => k_is)
    (case u_co => k_is)
    (case u_ko => k_is)
    (case u_ag1 => k_is)
    (case u_lg1 => k_is)
    (case u_cg1 => k_is)
    (case u_kg1 => k_is)
    (case u_aq => k_is)
    (case u_lq => k_is)
    (case u_cq => k_is)
    (case u_kq => k_is)
    (case u_aL => k_is)
    (case u_lL => k_is)
    (case u_cL => k_is)
    (case u_kL => k_is)
    (case u_z0 => k_is)
    (case u_z1 => k_is)
    (case u_z2 => k_is)
    (case u_z3 => k_is)
    (case u_z4 => k_is)
    (case u_z5 => k_is)
    (case u_z6 => k_is)
    (case u_z7 => k_is)
    (case u_z8 => k_is)
    (case u_z9 => k_is)
    (case u_z10 => k_is)
    (case u_gu0 => k_is)
    (case u_gm0 => k_is)
    (case u_gd => k_is)
    (case u_ld => k_is)
    (case u_kd => k_keys)
    (case u_sd => decide)
    (case u_ke => rfl)
    (case u_g_HE => k_is)
    (case u_g_NN => k_is)
    (case u_g_NR => k_is)
    (case u_g_NP => k_is)
    (case u_g_NS => k_is)
    (case u_g_NW => k_is)
    (case u_g_NC => k_is)
    (case u_g_NH => k_is)
    (case u_g_NT => k_is)
    (case u_g_NY => k_is)
    (case u_g_NI => k_is)
    (case u_g_NG => k_is)
    (case u_d_HE => k_is)
    (case u_t_HE => k_is)
    (case u_d_NN => k_is)
    (case u_t_NN => k_is)
    (case u_d_NR => k_is)
    (case u_t_NR => k_is)
    (case u_d_NP => k_is)
    (case u_t_NP => k_is)
    (case u_d_NS => k_is)
    (case u_t_NS => k_is)
    (case u_d_NW => k_is)
    (case u_t_NW => k_is)
    (case u_d_NC => k_is)
    (case u_t_NC => k_is)
    (case u_d_NH => k_is)
    (case u_t_NH => k_is)
    (case u_d_NT => k_is)
    (case u_t_NT => k_is)
    (case u_d_NY => k_is)
    (case u_t_NY => k_is)
    (case u_d_NI => k_is)
    (case u_t_NI => k_is)
    (case u_d_NG => k_is)
    (case u_t_NG => k_is)
    (case u_b_HE => k_is)
    (case u_b_NN => k_is)
    (case u_q_hn => k_is)
    (case u_q_htk => k_is)
    (case u_x_NN => k_exc)
    (case u_k_NN => k_is)
    (case u_ga_NN => k_is)
    (case u_gt_NN => k_is)
    (case u_cl_NN => k_is)
    (case u_mo_NN => k_is)
    (case u_v_NN => k_is)
    (case u_s_NN_NR => k_is)
    (case u_e_NN_NR => decide)
    (case u_s_NN_NP => k_is)
    (case u_e_NN_NP => decide)
    (case u_s_NN_NS => k_is)
    (case u_e_NN_NS => decide)
    (case u_s_NN_NW => k_is)
    (case u_e_NN_NW => decide)
    (case u_s_NN_NC => k_is)
    (case u_e_NN_NC => decide)
    (case u_s_NN_NH => k_is)
    (case u_e_NN_NH => decide)
    (case u_s_NN_NT => k_is)
    (case u_e_NN_NT => decide)
    (case u_s_NN_NY => k_is)
    (case u_e_NN_NY => decide)
    (case u_s_NN_NI => k_is)
    (case u_e_NN_NI => decide)
    (case u_s_NN_NG => k_is)
    (case u_e_NN_NG => decide)
    (case u_s_NN_HE => k_is)
    (case u_e_NN_HE => decide)
    (case u_hcc => rfl)
    (case u_lcc => k_is)
    (case u_v11 => rfl)
    (case u_v11d => rfl)
    (case u_v18 => rfl)
    (case u_v7 => rfl)
    (case u_v9 => rfl)
    (case u_v10 => rfl)
    (case u_nct => decide)
    (case u_ntb => first | k_is | kernel_rfl | decide +kernel | rfl)
