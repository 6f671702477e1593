import PyProof.Rows.All
import Wide.All
import OpenK.AllK
import Wide.FinOn
import HandS.ForMost
import HandS.Wide
import HandS.Style
import HandS.RevTup
import HandS.Rev
import HandS.IsInst
import HandS.More
import HandS.Conv
import HandS.Defaults
import HandS.ForExc
import HandS.OwnEq
import HandS.Flow
import PyProof.ListStr
import HandS.Walk
import HandS.EndBits
import PyProof.ReprRoads
import PyProof.ReprLen
import HandS.Exc
import HandS.ExcIs
import HandS.TryOnly
import HandS.ExcOwn
import HandS.WordsExc
import HandS.FStr
import PyProof.FString3
import KE.KCallOwn
import PyProof.ReprReads
import PyProof.ReprNest
import PyProof.InstNe
import HandS.SortKw
import HandS.Codes
import PyProof.TupleOfStr
import HandS.SortInts
import KE.GoesZip
import KE.GoesMore
import PyProof.Draws
import PyProof.WalksT
import PySem.Challenge.RW_hopline_k60_totals_refused
import HandS.Lambda
import HandS.Nested
import HandS.EndTab
import KE.GoesRaise
import HandS.MakeKw
import HandS.EndOwn
import KE.KExcLine

set_option Elab.async false
set_option linter.all false
set_option maxRecDepth 100000
namespace HopR
open PySem PySem.Spec PyProof.Rows L2
/-! rules of my own: texts -/
/-- the signs of a text, each a text -/
def sg (z : Str) : List Str := z.cps.toList.map fun c => ⟨#[c]⟩
theorem sg_len (z : Str) : (sg z).length = z.length := by
  unfold sg
  rw [List.length_map]
  rfl
theorem sg_get {z : Str} {i : Nat} {c : Nat} (h : z.cps[i]? = some c) : (sg z)[i]? = some ⟨#[c]⟩ := by
  unfold sg
  rw [List.getElem?_map, Array.getElem?_toList, h]
  rfl
theorem strsAre_of : ∀ (vs : List Value) (ys : List Str), vs.length = ys.length → (∀ (j : Nat) (v : Value), vs[j]? = some v → ∃ y t, ys[j]? = some y ∧ v = .str y t) → StrsAre vs ys
  | [], [], _, _ => .nil
  | v :: r, y :: q, hl, h => by
    obtain ⟨y', t, e1, e2⟩ := h 0 v rfl
    have e3 : y = y' := Option.some.inj e1
    subst e3 e2
    exact .cons y t (strsAre_of r q (by simpa using hl) fun j w hw => h (j + 1) w hw)
theorem signs_are {z : Str} {acc : Array Value} (h : ItemsOf (SignAt z) acc z.cps.size) : StrsAre acc.toList (sg z) := by
  refine strsAre_of _ _ (by rw [sg_len, Array.length_toList, h.1]; rfl) fun j v hv => ?_
  obtain ⟨c, u, hc, e⟩ := h.2 j v (by rw [← Array.getElem?_toList]; exact hv)
  exact ⟨⟨#[c]⟩, u, sg_get hc, e⟩
section
variable {X : Cx}
/-- sorted(text) -/
def rSortT : List V → Hp → VK → Prop := fun vs H Q => ∃ z : Str, vs = [.str z] ∧ z.length < 64 ∧ ∀ (ys : List Str) (p : Addr), ys.Perm (sg z) → sortedS ys = true → H p = none → Q (.ref p) (upd H p (.lst (ys.map V.str)))
theorem cr_sortT (hcm : X.calm = true) : CallR X (.builtin "sorted") rSortT := by
  intro pins s σ H xs us Q I r h
  obtain ⟨z, rfl, h64, q⟩ := h
  obtain ⟨u, rfl, t, rfl⟩ := vals1 r
  refine Calls.call_function_entry kind_sorted plain_sorted entry_sorted (args_sorted1 (.str z t)) ?_
  unfold Builtin.«sorted»
  refine wpAny_bind (m := checkCount "sorted" 1 1 [Value.str z t].length) (wpAny_pure ?_)
  have hz : z.cps.size < 64 := h64
  refine wpAny_bind (wpAny_collect_str (A := X.A.in1) (show X.A.in1.handled = none from I.ok.hd hcm) z t (fun s' acc hk hg hdr hos hit => ?_) (Nat.le_trans (Nat.le_of_lt hz) (by decide)))
  have hS := signs_are hit
  have es : s' = { s with heap := s'.heap, toks := s'.toks } := by
    cases s'
    cases s
    simp only at hg hdr hos
    subst hg hdr hos
    rfl
  have hal : acc.toList.length < 64 := by rw [Array.length_toList, hit.1]; exact hz
  refine wpAny_bind (wpAny_newList ?_ (Nat.le_trans (Nat.le_of_lt hal) (by decide)))
  have hoL : (s'.heap.push (seqObj "list" acc.toList.toArray 0)).get? s'.heap.objs.size = some (seqObj "list" acc.toList.toArray 0) := Heap.get?_push_size _ rfl
  refine wpAny_bind (wpAny_holding (wpAny_call_entry slot_list_sort ⟨_, hoL, rfl⟩ entry_list_sort (list_sort_treeK strKind_oneLt hoL hS.keysOf (fun v₁ v₂ rest e => keyKind_strs (by rw [← e]; exact hS)) hal fun st' hp hs => ⟨_, rfl, ?_⟩) (args_list_sort _)))
  obtain ⟨ys, g1, g2, g3⟩ := sorted_out_str hS hp hs
  obtain ⟨ep, he'⟩ := sortedHeap_at (vs := acc.toList) (out := (arrOf st').map (·.2)) hoL
  have I1 : Inv X pins σ H s' := by
    rw [es]
    exact I.kept hk
  have hlen : (ys.map V.str).length ≤ sizeLine := by
    rw [List.length_map, g2.length_eq, sg_len]
    exact Nat.le_trans (Nat.le_of_lt h64) (by decide)
  have hne : ∀ b o, s'.heap.get? b = some o → (sortedHeap (s'.heap.push (seqObj "list" acc.toList.toArray 0)) s'.heap.objs.size acc.toList ((arrOf st').map (·.2))).get? b = some o := fun b o e => by
    rw [sortedHeap_old (Nat.ne_of_lt (Heap.lt_size e)) (by rw [size_push']; exact Nat.lt_succ_of_lt (Heap.lt_size e))]
    exact Heap.get?_push_of_some _ e
  refine wpAny_pure ⟨_, rfl, .ref _, upd H s'.heap.objs.size (.lst (ys.map V.str)), I1.laid (t' := s'.toks) hne (Nat.le_refl _) ?_, rfl, q ys _ g2 g3 (I1.hok.fresh (Nat.le_refl _))⟩
  exact ⟨hlen, ((arrOf st').map (·.2)).toList, ep, vals_of_strs g1, by rw [Array.toArray_toList]; exact he'⟩
/-- list(text) -/
def rListT : List V → Hp → VK → Prop := fun vs H Q => ∃ z : Str, vs = [.str z] ∧ z.length ≤ sizeLine ∧ ∀ p : Addr, H p = none → Q (.ref p) (upd H p (.lst ((sg z).map V.str)))
theorem cr_listT (hcm : X.calm = true) : CallR X (.type "list") rListT := by
  intro pins s σ H xs us Q I r h
  obtain ⟨z, rfl, hz, q⟩ := h
  obtain ⟨u, rfl, t, rfl⟩ := vals1 r
  refine call_list_str (I.ok.hd hcm) z t (fun h' tk acc c' hk hS' hit => ?_) hz
  refine ⟨.ref _, upd H s.heap.objs.size (.lst ((sg z).map V.str)), I.laid hk (Nat.le_refl _) ?_, rfl, q _ (I.hok.fresh (Nat.le_refl _))⟩
  exact ⟨by rw [List.length_map, sg_len]; exact hz, acc.toList, c', vals_of_strs (signs_are hit), by rw [Array.toArray_toList]; exact hS'⟩
/-- text * n -/
def repS (z : Str) (n : Nat) : Str := ⟨((List.replicate n z.cps.toList).flatten).toArray⟩
theorem foldl_app : ∀ (n : Nat) (a b : Array Nat), ((List.replicate n a).foldl (· ++ ·) b).toList = b.toList ++ (List.replicate n a.toList).flatten
  | 0, a, b => by simp
  | n + 1, a, b => by
    rw [List.replicate_succ, List.foldl_cons, foldl_app n, List.replicate_succ, List.flatten_cons, Array.toList_append, List.append_assoc]
theorem repS_len (z : Str) (k : Nat) : (repS z k).length = z.length * k := by
  show ((List.replicate k z.cps.toList).flatten).toArray.size = z.cps.size * k
  rw [List.size_toArray, List.length_flatten, List.map_replicate, List.sum_replicate_nat, Array.length_toList, Nat.mul_comm]
def rRepS : R2 := fun x y H Q => ∃ (z : Str) (k : Nat), x = .str z ∧ y = .int (k : Int) ∧ z.length * k ≤ 1000000 ∧ k ≤ 1000000 ∧ Q (.str (repS z k)) H
theorem op_repS : OpR X (binaryOp .Mult) rRepS := by
  intro pins s σ H x y v u Q I rx ry h
  obtain ⟨z, k, rfl, rfl, hz, hk, q⟩ := h
  obtain ⟨t, rfl⟩ := rx
  obtain ⟨t', rfl⟩ := ry
  refine PySem.P.mul_str ?_ ?_ ?_ ?_
  · rw [decide_eq_false (by omega), decide_eq_false (by omega)]
    rfl
  · intro h1 _
    have h0 : (0 : Int) < (k : Int) := by omega
    have h2 : ((z.length * k : Nat) : Int) ≤ 2 ^ 63 - 1 := by omega
    rw [Int.natCast_mul] at h2
    have h3 := (Int.le_ediv_iff_mul_le h0).mpr h2
    omega
  · intro _ _
    unfold Builtin.Str.tooLong
    rw [Int.toNat_natCast, sizeLine_eq]
    exact decide_eq_false (by omega)
  · by_cases h1 : (k : Int) < 1
    · rw [if_pos h1]
      have e : repS z k = Str.empty := by
        have : k = 0 := by omega
        subst this
        rfl
      rw [e] at q
      exact ⟨by decide, .str _, H, I.tok _, ⟨_, rfl⟩, q⟩
    · rw [if_neg h1]
      by_cases h2 : ((k : Int) == 1 || z.length == 0) = true
      · rw [if_pos h2]
        have e : repS z k = z := by
          rw [Bool.or_eq_true] at h2
          rcases h2 with h2 | h2
          · have h3 : (k : Int) = 1 := by simpa using h2
            have h4 : k = 1 := by omega
            subst h4
            unfold repS
            simp
          · have h3 : z.length = 0 := by simpa using h2
            have h4 : z.cps = #[] := Array.eq_empty_of_size_eq_zero h3
            unfold repS
            cases z with | mk zc =>
            simp only at h4
            subst h4
            simp
        rw [e] at q
        exact ⟨.str z, H, I, ⟨t, rfl⟩, q⟩
      · rw [if_neg h2]
        have e : (⟨(List.replicate (k : Int).toNat z.cps).foldl (· ++ ·) #[]⟩ : Str) = repS z k := by
          unfold repS
          rw [Int.toNat_natCast, ← Array.toArray_toList (xs := (List.replicate k z.cps).foldl (· ++ ·) #[]), foldl_app]
          rfl
        rw [e]
        have hl : (repS z k).length ≤ sizeLine := by
          rw [repS_len, sizeLine_eq]
          omega
        exact ⟨hl, .str _, H, I.tok _, ⟨_, rfl⟩, q⟩
/-- text[::-1] -/
def revS (z : Str) : Str := ⟨z.cps.toList.reverse.toArray⟩
theorem revS_len (z : Str) : (revS z).length = z.length := by
  show z.cps.toList.reverse.toArray.size = z.cps.size
  rw [List.size_toArray, List.length_reverse, Array.length_toList]
theorem rev_pick (z : Str) : (⟨((PySem.Builtin.Str.strSliceIndices none none (-1) z.length).filterMap (z.cps[·]?)).toArray⟩ : Str) = revS z := by
  unfold revS
  have e : PySem.Builtin.Str.strSliceIndices none none (-1) z.length = (List.range z.length).reverse := by
    rw [← PySem.W.krv_range, ← PySem.W.krv_sliceRange]
    rfl
  have e2 := PySem.W.krv_all z.cps
  rw [e, List.filterMap_reverse]
  show (⟨((List.range z.cps.size).filterMap (z.cps[·]?)).reverse.toArray⟩ : Str) = _
  rw [e2]
def tRevS (te : TE) : TE := fun σ H Q => te σ H fun x H1 => ∃ z : Str, x = .str z ∧ z.length ≤ sizeLine ∧ Q (.str (revS z)) H1
theorem pe_revS {e : Expr} {te : TE} {k : Nat} {p1 p2 p3 pos : Pos} (he : PE X e te) : PE X (.Subscript e (.Slice none none (some (.UnaryOp .USub (.Constant (.int 1) k p1) p2)) p3) pos) (tRevS te) := by
  refine ⟨fun pins s σ H Q I h => Subscript_ (thn (he.run pins s σ H _ I h) fun v s1 ⟨x, H1, I1, r1, z, ex, hz, q⟩ => ?_)⟩
  subst ex
  obtain ⟨t, rfl⟩ := r1
  have hst : PO X (some (.UnaryOp .USub (.Constant (.int 1) k p1) p2)) (tPart (tUn (rU fun i => .int (-i)) (tC (.int 1)))) := po_some (pe_un un_neg pe_int)
  refine wpAny_Slice (thn (po_none.run pins s1 σ H1 (fun o K2 => o = none ∧ K2 = H1) I1 ⟨rfl, rfl⟩) fun vl s2 ⟨l, H2, I2, pl, el, e2⟩ => ?_)
  subst el e2
  refine thn (po_none.run pins s2 σ H2 (fun o K3 => o = none ∧ K3 = H2) I2 ⟨rfl, rfl⟩) fun vu s3 ⟨u, H3, I3, pu, eu, e3⟩ => ?_
  subst eu e3
  refine thn (hst.run pins s3 σ H3 (fun o K4 => o = some (-1) ∧ K4 = H3) I3 ⟨1, rfl, -1, rfl, rfl, rfl⟩) fun vs s4 ⟨o, H4, I4, ps, eo, e4⟩ => ?_
  subst eo e4
  obtain ⟨l, rfl, hl⟩ := IsPart.raw pl
  obtain ⟨u, rfl, hu⟩ := IsPart.raw pu
  obtain ⟨st, rfl, hst'⟩ := IsPart.raw ps
  have I5 : Inv X pins σ H4 { s4 with heap := s4.heap.push { cls := .type "slice", data := .fields #[partValue l, partValue u, partValue st] } } := I4.kept (t' := s4.toks) fun b ob qq => Heap.get?_push_of_some _ qq
  show wpAny (model X.prog X.w) X.A (subscriptTail e (.Slice none none (some (.UnaryOp .USub (.Constant (.int 1) k p1) p2)) p3) (.str z t) (.ref s4.heap.objs.size)) (EP X pins σ Q) X.xe { s4 with heap := s4.heap.push { cls := .type "slice", data := .fields #[partValue l, partValue u, partValue st] } }
  refine tail_any (ops := [.ref s4.heap.objs.size, .str z t]) (T := "str") (typeIs_str _ _ _) F.slot_str_getitem.lookup ?_ (by with_unfolding_all rfl)
  refine wpAny_getItem_str_slice (l := l) (u := u) (st := st) (Heap.IsSliceOf.new ..) (by rw [hst']; decide) ?_
  have em : sliceMade z t l u st = .str (revS z) := by
    unfold sliceMade slicePicked
    rw [hst', hl, hu]
    rw [if_neg (by simp)]
    rw [← rev_pick z]
    rfl
  rw [em]
  exact ⟨by rw [revS_len]; exact hz, .str _, H4, I5.tok _, ⟨_, rfl⟩, q⟩
end
end HopR

set_option Elab.async false
set_option linter.all false
set_option maxRecDepth 100000
namespace HopR
open PySem PySem.Spec PyProof.Rows L2
/-! rows as lists of truths -/
def cd (b : Bool) : Nat := if b then 111 else 46
def tx (bs : List Bool) : Str := ⟨(bs.map cd).toArray⟩
theorem cd_inj {a b : Bool} (h : cd a = cd b) : a = b := by
  cases a <;> cases b <;> first | rfl | (exact absurd h (by decide))
theorem map_cd_inj : ∀ {as bs : List Bool}, as.map cd = bs.map cd → as = bs
  | [], [], _ => rfl
  | [], _ :: _, h => by simp at h
  | _ :: _, [], h => by simp at h
  | a :: r, b :: q, h => by
    rw [List.map_cons, List.map_cons] at h
    injection h with h1 h2
    rw [cd_inj h1, map_cd_inj h2]
theorem tx_inj {as bs : List Bool} (h : tx as = tx bs) : as = bs := by
  unfold tx at h
  injection h with h
  exact map_cd_inj (by simpa using congrArg Array.toList h)
theorem tx_len (bs : List Bool) : (tx bs).length = bs.length := by
  show (bs.map cd).toArray.size = bs.length
  rw [List.size_toArray, List.length_map]
theorem tx_list (bs : List Bool) : (tx bs).cps.toList = bs.map cd := rfl
theorem tx_get {bs : List Bool} {i : Nat} {b : Bool} (h : bs[i]? = some b) : (tx bs).cps[i]? = some (cd b) := by
  show (bs.map cd).toArray[i]? = some (cd b)
  rw [List.getElem?_toArray, List.getElem?_map, h]
  rfl
theorem ext_str {a b : Str} (h : a.cps.toList = b.cps.toList) : a = b := by
  cases a with | mk x =>
  cases b with | mk y =>
  have e : x = y := Array.toList_inj.mp h
  rw [e]
theorem tx_app (as bs : List Bool) : tx as ++ tx bs = tx (as ++ bs) := by
  apply ext_str
  show ((as.map cd).toArray ++ (bs.map cd).toArray).toList = (as ++ bs).map cd
  rw [Array.toList_append, List.map_append]
theorem tx_rev (bs : List Bool) : revS (tx bs) = tx bs.reverse := by
  unfold revS tx
  simp
theorem tx_sg (bs : List Bool) : sg (tx bs) = bs.map fun b => tx [b] := by
  unfold sg
  rw [tx_list, List.map_map]
  rfl
theorem tx_o : ("o" : Str) = tx [true] := by decide +kernel
theorem tx_f : ("." : Str) = tx [false] := by decide +kernel
/-- a row walked sign by sign: a turn's sign is the text of that place's truth -/
theorem walk_tx {bs : List Bool} : Walk (Its (tx bs)) bs.length (fun _ => True) (fun i H v H' => H' = H ∧ ∃ b, bs[i]? = some b ∧ v = .str (tx [b])) := by
  have w := walk_str (z := tx bs)
  rw [show (tx bs).cps.size = bs.length from tx_len bs] at w
  refine w.mono (fun _ g => g) fun i H x H' hi _ y => ?_
  obtain ⟨e1, c, e2, e3⟩ := y
  have hb : bs[i]? = some bs[i] := List.getElem?_eq_getElem hi
  rw [tx_get hb] at e2
  cases e2
  exact ⟨e1, _, hb, e3⟩
def for_tx {bs : List Bool} {g : TG} {tb : TS} {D : Ends} {σ : L2.St} {H : Hp} (Pv : Nat → L2.St → Hp → Prop) (h0 : Pv 0 σ H)
    (hs : ∀ i b σ H, bs[i]? = some b → Pv i σ H → g (.str (tx [b])) σ H fun σ2 H2 => tb { D with nx := Pv (i + 1), ct := Pv (i + 1), bk := D.nx } σ2 H2) (hd : ∀ σ H, Pv bs.length σ H → D.nx σ H) :=
  for_it (walk_tx (bs := bs)) (g := g) (tb := tb) (D := D) (σ := σ) (H := H) Pv h0 (fun _ _ _ _ _ => trivial)
    (fun i x σ H H' _ p y => by
      obtain ⟨e1, b, hb, e2⟩ := y
      subst e1 e2
      exact hs i b σ _ hb p) hd
def lc_tx {bs : List Bool} {g : TG} {tt : TT} {te : TE} {vs : List Nat} {σ : L2.St} {H1 : Hp} {D : Addr} {Qd : Hp → Prop} (Pv : Nat → Hp → Prop) (h0 : Pv 0 (upd H1 D (.lst [])))
    (hs : ∀ i b H, bs[i]? = some b → Pv i H → g (.str (tx [b])) (wipe σ vs) H fun σ2 H2 => wipe σ2 vs = wipe σ vs ∧ tt σ2 H2 fun kept H3 =>
      if kept = true then (te σ2 H3 fun y H4 => ∃ acc, H4 D = some (.lst acc) ∧ acc.length < sizeLine ∧ Pv (i + 1) (upd H4 D (.lst (acc ++ [y])))) else Pv (i + 1) H3)
    (hd : ∀ H, Pv bs.length H → Qd H) :=
  lc_it (walk_tx (bs := bs)) (g := g) (tt := tt) (te := te) (vs := vs) (σ := σ) (H1 := H1) (D := D) (Qd := Qd) Pv h0 (fun _ _ _ _ => trivial)
    (fun i x H H' _ p y => by
      obtain ⟨e1, b, hb, e2⟩ := y
      subst e1 e2
      exact hs i b _ hb p) hd
end HopR

set_option Elab.async false
set_option linter.all false
set_option maxRecDepth 100000
namespace HopR
open PySem PySem.Spec PyProof.Rows L2 TL
theorem joinL_nil : ∀ ps : List (List Nat), joinL [] ps = ps.flatten
  | [] => rfl
  | [p] => by
    show p = p ++ []
    rw [List.append_nil]
  | p :: q :: r => by
    show p ++ ([] ++ joinL [] (q :: r)) = p ++ (q :: r).flatten
    rw [List.nil_append, joinL_nil (q :: r)]
theorem join0_list (ys : List Str) : (Txt.join "" ys).cps.toList = (ys.map fun y => y.cps.toList).flatten := by
  have e : Txt.join "" ys = Str.join "" ys := PySem.StrLaws.glued_eq_join "" ys
  rw [e]
  have h := tl_join "" ys
  have h2 : tl ("" : Str) = [] := by decide +kernel
  rw [h2, joinL_nil] at h
  exact h
theorem join_tx (bs : List Bool) : Txt.join "" (bs.map fun b => tx [b]) = tx bs := by
  apply ext_str
  rw [join0_list, List.map_map, tx_list]
  induction bs with
  | nil => rfl
  | cons b r ih =>
    rw [List.map_cons, List.flatten_cons, ih]
    rfl
theorem sum_ones : ∀ bs : List Bool, ((bs.map fun b => tx [b]).map (·.length)).sum = bs.length
  | [] => rfl
  | b :: r => by
    rw [List.map_cons, List.map_cons, List.sum_cons, sum_ones r, tx_len]
    show 1 + r.length = r.length + 1
    omega
theorem join_fits {bs : List Bool} (h : bs.length ≤ 1000) : ((bs.map fun b => tx [b]).map (·.length)).sum + (bs.map fun b => tx [b]).length * ("" : Str).length ≤ 16777216 := by
  have e : ("" : Str).length = 0 := by decide +kernel
  rw [sum_ones, e, Nat.mul_zero]
  omega
theorem cut_tx (bs : List Bool) (lo hi : Option Int) : cutS (tx bs) lo hi = tx ((bs.drop (HT.sIx bs.length 0 lo)).take (HT.sIx bs.length bs.length hi - HT.sIx bs.length 0 lo)) := by
  apply ext_str
  unfold cutS
  rw [tx_len, tx_list, tx_list, List.map_take, List.map_drop]
theorem cut_to (bs : List Bool) (k : Nat) : cutS (tx bs) none (some (k : Int)) = tx (bs.take k) := by
  rw [cut_tx, HT.sIx_none, HT.sIx_nat, List.drop_zero, Nat.sub_zero]
  by_cases h : k ≤ bs.length
  · rw [Nat.min_eq_left h]
  · rw [Nat.min_eq_right (by omega), List.take_length, List.take_of_length_le (by omega)]
theorem cut_from (bs : List Bool) (k : Nat) : cutS (tx bs) (some (k : Int)) none = tx (bs.drop k) := by
  rw [cut_tx, HT.sIx_none, HT.sIx_nat]
  by_cases h : k ≤ bs.length
  · rw [Nat.min_eq_left h, List.take_of_length_le (by rw [List.length_drop]; exact Nat.le_refl _)]
  · rw [Nat.min_eq_right (by omega), List.drop_length, List.drop_of_length_le (by omega), List.take_nil]
theorem cut_at (bs : List Bool) (k m : Nat) : cutS (tx bs) (some (k : Int)) (some ((k : Int) + (m : Int))) = tx ((bs.drop k).take m) := by
  have e : ((k : Int) + (m : Int)) = ((k + m : Nat) : Int) := by omega
  rw [e, cut_tx, HT.sIx_nat, HT.sIx_nat]
  by_cases h : k ≤ bs.length
  · rw [Nat.min_eq_left h]
    by_cases h2 : k + m ≤ bs.length
    · rw [Nat.min_eq_left h2, Nat.add_sub_cancel_left]
    · rw [Nat.min_eq_right (by omega), List.take_of_length_le (by rw [List.length_drop]; exact Nat.le_refl _), List.take_of_length_le (by rw [List.length_drop]; omega)]
  · rw [Nat.min_eq_right (by omega), Nat.min_eq_right (by omega), List.drop_length, List.drop_of_length_le (by omega), List.take_nil, List.take_nil]
theorem cut_mid (bs : List Bool) (h : 2 ≤ bs.length) : cutS (tx bs) (some 1) (some (-1)) = tx ((bs.drop 1).take (bs.length - 2)) := by
  rw [cut_tx]
  have e1 : HT.sIx bs.length 0 (some 1) = 1 := by
    rw [show (some (1 : Int)) = some ((1 : Nat) : Int) from rfl, HT.sIx_nat]
    omega
  have e2 : HT.sIx bs.length bs.length (some (-1)) = bs.length - 1 := by
    show (if (-1 : Int) < 0 then ((-1 : Int) + (bs.length : Int)).toNat else min (-1 : Int).toNat bs.length) = bs.length - 1
    rw [if_pos (by decide)]
    omega
  rw [e1, e2]
  congr 2
/-! ### rows: walls, changes, the mirror -/
def ends (bs : List Bool) : List Bool := true :: (bs ++ [false])
theorem ends_len (bs : List Bool) : (ends bs).length = bs.length + 2 := by
  unfold ends
  rw [List.length_cons, List.length_append]
  rfl
def opn (bs : List Bool) (k : Nat) : Bool := decide (((ends bs).drop k).take 2 = [true, false])
def walls (bs : List Bool) : List Nat := (List.range (bs.length + 1)).filter (opn bs)
def bhd (bs : List Bool) (k : Nat) : List Bool := (ends bs).take k ++ [false] ++ [true] ++ (ends bs).drop (k + 2)
def chg (bs : List Bool) (k : Nat) : List Bool := ((bhd bs k).drop 1).take ((bhd bs k).length - 2)
def mir (bs : List Bool) : List Bool := bs.reverse.map (!·)
def num (bs : List Bool) : Int := bs.foldl (fun n b => n * 2 + (if b then 1 else 0)) 0
theorem mem_walls {bs : List Bool} {k : Nat} : k ∈ walls bs ↔ k ≤ bs.length ∧ opn bs k = true := by
  unfold walls
  rw [List.mem_filter, List.mem_range, Nat.lt_succ_iff]
theorem mir_len (bs : List Bool) : (mir bs).length = bs.length := by
  unfold mir
  rw [List.length_map, List.length_reverse]
theorem walls_len (bs : List Bool) : (walls bs).length ≤ bs.length + 1 := by
  unfold walls
  exact Nat.le_trans (List.length_filter_le _ _) (by rw [List.length_range]; exact Nat.le_refl _)
theorem bhd_len {bs : List Bool} {k : Nat} (h : k ≤ bs.length) : (bhd bs k).length = bs.length + 2 := by
  unfold bhd
  rw [List.length_append, List.length_append, List.length_append, List.length_take, List.length_drop, ends_len]
  show min k (bs.length + 2) + 1 + 1 + (bs.length + 2 - (k + 2)) = bs.length + 2
  omega
theorem chg_len {bs : List Bool} {k : Nat} (h : k ≤ bs.length) : (chg bs k).length = bs.length := by
  unfold chg
  rw [List.length_take, List.length_drop, bhd_len h]
  omega
end HopR

set_option Elab.async false
set_option linter.all false
set_option maxRecDepth 100000
namespace HopR
open PySem PySem.Spec PyProof.Rows L2
/-! ### defs that are called where no repr is under way -/
/-- the promise sp of the def at f, kept wherever it is called while no repr is under way -/
structure FnOkG (P : Program) (w : World) (K : PySem.W.Frag) (mg : Str → Option Value) (base : Heap) (CX : CXT) (k : Nat) (f : Addr) (fd : FuncData) (ps : List Str) (sp : Sp) : Prop where
  arity : ∀ {vs H Q E}, sp vs H Q E → vs.length = ps.length
  calls : ∀ {A : Around} {outer : List Env} {s : Shared} {H : Hp} {args : Args} {us : List Value} {vs : List V} {Q : VK} {E : XK}, A.guards = some [] → Room k A → Env0 P w K mg base A outer s H →
    BindsTo s fd args (ps.zip us) → Vals vs us → sp vs H Q E → codeAny (model P w) A (.call (.ref f) args) (CR CX outer P w H s Q E) s
section
variable {P : Program} {w : World} {K : PySem.W.Frag} {mg : Str → Option Value} {base : Heap}
theorem FnOkG.of {CX : CXT} {k : Nat} {f : Addr} {fd : FuncData} {ps : List Str} {sp : Sp} (F : FnOk P w K mg base CX k f fd ps sp) : FnOkG P w K mg base CX k f fd ps sp where
  arity h := F.len _ _ _ _ h
  calls _ room e0 bind vals prom := F.run _ _ _ _ _ _ _ _ _ room e0 bind vals prom
/-- what the body's end says to the caller -/
theorem ends_say {CX : CXT} {N : List Str} {qual : Str} {scope : Scope} {f : Addr} {cdv : Value} {A : Around} {outer : List Env} {s : Shared} {H : Hp} {Q : VK} {E : XK} {fl : Flow} {s' : Shared}
    (h : SP (cxOf CX P w K mg base N qual scope f cdv A outer s H E) [] { nx := fun _ H' => Q .non H', rt := Q } fl s') :
    match fl with | .ret u => CE outer P w H s Q u s' | .next => CE outer P w H s Q Value.none s' | _ => False := by
  match fl, h with
  | .ret u, ⟨v, σ', H', J, rv, g⟩ => exact ⟨v, H', J.os, J.bare, J.base, J.hok, rv, g⟩
  | .next, ⟨σ', H', J, g⟩ => exact ⟨V.non, H', J.os, J.bare, J.base, J.hok, rfl, g⟩
  | .brk, ⟨_, _, _, g⟩ => exact g
  | .cont, ⟨_, _, _, g⟩ => exact g
theorem okG {x qual : Str} {st : Stmt} {f : Addr} {fd : FuncData} {N ps : List Str} {k : Nat} {sp : Sp} (F : Fun K x qual st f fd) (S : FnScope N ps (defScope st)) (len : ∀ vs H Q E, sp vs H Q E → vs.length = ps.length)
    (body : ∀ (cdv : Value) (A : Around) (outer : List Env) (s : Shared) (H : Hp) (vs : List V) (Q : VK) (E : XK), A.guards = some [] → Room k (A.deeper (envOfC qual (defScope st) s.heap.objs.size f cdv)) → sp vs H Q E →
      ∃ t, PSs (cxOf CX0 P w K mg base N qual (defScope st) f cdv A outer s H E).nox (defBody st) t ∧ t { nx := fun _ H' => Q .non H', rt := Q } (start N vs) H) : FnOkG P w K mg base CX0 (k + 1) f fd ps sp where
  arity h := len _ _ _ _ h
  calls {A outer s H args us vs Q E} free room e0 bind vals prom := by
    obtain ⟨_, _, _, _, _, _, cdv, _, _, rfl, lk, code⟩ := F.ex
    have old : ∀ b o, base.get? b = some o → s.heap.get? b = some o := fun b o e => (e0.bs b o e).1
    have here := e0.mod.kin.keeps old
    obtain ⟨t, pr, rd⟩ := body cdv A outer s H vs Q E free (room.deeper _) prom
    have kinds : ∀ y ∈ ps.zip us, (defScope st).names.lookup y.1 = some .local ∨ ((defScope st).names.lookup y.1 = some .cell ∧ ((cellsFrom (s.heap.objs.size + 1) (defScope st).names []).lookup y.1).isSome = true) := by
      intro y hy
      have hp : y.1 ∈ ps := by
        obtain ⟨y1, y2⟩ := y
        exact (List.of_mem_zip hy).1
      exact (S.par _ hp).imp id fun g => ⟨g, PySem.W.cellsFrom_some _ _ _ (.inl g)⟩
    refine codeAny_call_function room.depth (here _ _ lk) rfl S.co S.gen rfl (PySem.W.codeRec_of here code) (bind _ _ _ _ ?_)
    refine wpAny_newFunctionEnv_cells S.kind kinds fun _ e s1 x => ?_
    cases e
    refine ⟨(e0.mod.nolimit.keeps old).keeps x.toInCall.keep, codeAny_func ?_⟩
    have run := pr.nox.run [] s1 _ H _ (inv_start S room.hd e0 (len _ _ _ _ prom) vals x) rd
    refine wpAny_mono run (fun fl s' h => ?_) fun _ _ z => z
    have said := ends_say h
    cases fl with
    | ret _ => exact said
    | next => exact said
    | brk => exact said.elim
    | cont => exact said.elim
end
section
variable {X : Cx} {CX : CXT} {k : Nat} {f : Addr} {fd : FuncData} {ps : List Str} {sp : Sp} {ds : List Value} {dvs : List V} {E : XK}
theorem after_call {pins : List (Addr × Obj)} {σ : L2.St} {H : Hp} {s : Shared} {Q : VK} (hx : Passes CX X E) (I : Inv X pins σ H s) {r : Except Value Flow} {s' : Shared} (h : CR CX X.stack X.prog X.w H s Q E r s') :
    match r with | .ok (.ret u) => EP X pins σ Q u s' | .ok _ => False | .error e => X.xe e s' := by
  match r, h with
  | .error e, h => exact hx pins σ H s e s' I h
  | .ok (.ret u), h => exact I.after h
  | .ok .next, h => exact h
  | .ok .brk, h => exact h
  | .ok .cont, h => exact h
variable {x : Str} {p pos : Pos} {e : Expr} {es : List Expr} {t : TA}
/-- f(e, ..) at a place where no repr is under way -/
theorem pe_callG (F : FnOkG X.prog X.w X.K X.mg X.base CX k f fd ps sp) (hG : X.A.guards = some []) (hr : Room k X.A) (hg : Gl X x) (hm : X.mg x = some (.ref f)) (hk : PySem.W.keepIn X.K (.ref f) = true) (hb : Binds X.K fd ps ds) (hd : Vals dvs ds) (hx : Passes CX X E)
    (ha : PA X (e :: es) t) (hdb : (x == ("__debug__" : Str)) = false := by decide)
    (he : starEach (e :: es) X.env = (false, eval e X.env) :: starEach es X.env := by rfl) (hpl : (backTo pos (starEach es X.env)).any (·.1) = false := by rfl) :
    PE X (.Call (.Name x p) (e :: es) [] pos) (tCall sp dvs E t) := by
  constructor
  intro pins s σ H Q I h
  refine wpAny_Call_Name_kw (ld_glob I hg hm (PySem.W.callWith_K (h₀ := X.base) I.ok.mod.kin hk (thn (ha.run pos pins s σ H _ I h) ?_) he hpl) hdb)
  rintro us s1 ⟨vs, H1, I1, vals, prom⟩
  have all := vals.append hd
  have size : (us ++ ds).length = ps.length := all.length.symm.trans (F.arity prom)
  refine ⟨I1.kIn, wpAny_call (codeAny_mono (F.calls hG hr I1.env0 (hb s1 us I1.kIn size) all prom) fun r s' h => ?_)⟩
  have := after_call hx I1 h
  cases r with
  | error e => exact this
  | ok fl => cases fl <;> exact this
/-! ### repr of data -/
def rReprD (K : PySem.W.Frag) : List V → Hp → VK → Prop := fun vs H Q => ∃ (v : V) (d : PyData), vs = [v] ∧ Dp K H v d ∧ d.showable = true ∧ d.hasDict = false ∧ d.depth ≤ 64 ∧ d.shown.length ≤ sizeLine ∧ Q (.str d.shown) H
theorem cr_reprD (hG : X.A.guards = some []) (hu : X.A.units + 66 < cLine) : CallR X (.builtin "repr") (rReprD X.K) := by
  rintro pins s σ H _ us Q I r ⟨v, d, rfl, hd, hs, hn, hdep, hz, q⟩
  obtain ⟨u, rfl, rv⟩ := vals1 r
  obtain ⟨as, rd⟩ := Dp.reads I d v u hd rv
  cases hd with
  | non =>
    cases rv
    exact P.repr_of_none ⟨.str _, H, I.tok _, ⟨_, rfl⟩, q⟩
  | bl b =>
    cases rv
    exact P.repr_of_bool ⟨.str _, H, I.tok _, ⟨_, rfl⟩, q⟩
  | int i =>
    obtain ⟨t, rfl⟩ := rv
    have hb : i.natAbs.log2 < 1920 := of_decide_eq_true (by simpa only [PyData.showable] using hs)
    exact P.repr_of_int hb ⟨.str _, H, I.tok _, ⟨_, rfl⟩, by simpa only [PyData.shown] using q⟩
  | str x =>
    obtain ⟨t, rfl⟩ := rv
    exact P.repr_of_str ⟨.str _, H, I.tok _, ⟨_, rfl⟩, by simpa only [PyData.shown] using q⟩ (by simpa only [PyData.shown] using hz)
  | lst h1 h2 =>
    cases rv
    exact repr_of_reads' rd hs (fun e => absurd (hn.symm.trans e) (by decide)) hG (by omega) (fun _ _ e => e) (fun h' t tk hk => ⟨.str _, H, I.kept hk, ⟨_, rfl⟩, q⟩) hz
  | tup h1 h2 =>
    cases rv
    exact repr_of_reads' rd hs (fun e => absurd (hn.symm.trans e) (by decide)) hG (by omega) (fun _ _ e => e) (fun h' t tk hk => ⟨.str _, H, I.kept hk, ⟨_, rfl⟩, q⟩) hz
end
/-! ### the end -/
section
variable (K : PySem.W.Frag) (a : Addr) (vs : List Value) (ns : List Int)
/-- the script as the heap has it -/
abbrev scrO : Obj := { cls := .type "list", data := .seq vs.toArray }
/-- tracked is the script alone, locked, and not even that where the top wrote it -/
def scrH : Hp := fun b => if b = a ∧ K.lookup a = none then some (.frz (scrO vs) (.lst (ns.map V.int))) else none
theorem scrH_or (b : Addr) : scrH K a vs ns b = none ∨ (b = a ∧ K.lookup a = none ∧ scrH K a vs ns b = some (.frz (scrO vs) (.lst (ns.map V.int)))) := by
  unfold scrH
  by_cases h : b = a ∧ K.lookup a = none
  · exact .inr ⟨h.1, h.2, if_pos h⟩
  · exact .inl (if_neg h)
theorem scrH_only : Only (scrH K a vs ns) := fun b => (scrH_or K a vs ns b).imp id fun ⟨_, _, e⟩ => ⟨_, _, e⟩
end
section
variable {P : Program} {w : World} {K : PySem.W.Frag} {a : Addr} {vs : List Value} {ns : List Int} {h : Heap}
theorem scrH_sq (kin : K.In h) (at_ : h.get? a = some (scrO vs)) (hi : IntsAre vs ns) (few : ns.length ≤ sizeLine) : SqL K (scrH K a vs ns) a (ns.map V.int) := by
  cases hk : K.lookup a with
  | none => exact .inl (.inr ⟨scrO vs, if_pos ⟨rfl, hk⟩⟩)
  | some o =>
    obtain rfl : o = scrO vs := Option.some.inj ((kin a o hk).symm.trans at_)
    exact .inr ⟨_, vs.toArray, _, hk, rfl, rfl, rfl, by rw [List.size_toArray, hi.length]; exact few, by simpa using vals_ints hi⟩
theorem scrH_ok (at_ : h.get? a = some (scrO vs)) (hi : IntsAre vs ns) (few : ns.length ≤ sizeLine) : HOk P w (scrH K a vs ns) h := by
  intro b u e
  rcases scrH_or K a vs ns b with n | ⟨rfl, _, y⟩
  · exact absurd (n.symm.trans e) (by simp)
  · cases y.symm.trans e
    refine ⟨at_, ?_, vs, _, vals_ints hi, at_⟩
    rw [List.length_map]
    exact few
/-- what isn't the script, and what the top wrote, stands also where the tracked is hidden -/
theorem scrH_base (at_ : h.get? a = some (scrO vs)) {b : Addr} {o : Obj} (e : h.get? b = some o) (q : o ≠ scrO vs ∨ K.lookup b ≠ none) : (hidT h (scrH K a vs ns)).get? b = some o := by
  refine hidT_get e ((scrH_or K a vs ns b).resolve_right ?_)
  rintro ⟨rfl, n, _⟩
  exact q.elim (fun z => z (Option.some.inj (e.symm.trans at_))) fun z => z n
theorem scrH_ns (at_ : h.get? a = some (scrO vs)) {b : Addr} {m : Str → Option Value} : h.Ns b m → (hidT h (scrH K a vs ns)).Ns b m := by
  rintro ⟨o, es, ep, e, dd, r⟩
  refine ⟨o, es, ep, scrH_base at_ e (.inl ?_), dd, r⟩
  rintro rfl
  exact absurd dd (by simp)
end
/-- a law whose promise holds where no repr is under way: nothing is, where it is called -/
theorem walk_ofG {l : PySem.W.OpenLaw} {n k : Nat} {q : Program} {loose : List Str} {XP : (Str → Option Value) → Heap → Prop} {YP : World → Heap → Prop} {d : DefRec} {K : Params → PySem.W.Frag} {sp : World → Sp} {x : Str}
    (most : l.most = some n) (few : n ≤ sizeLine) (plain : d.params.defaults = []) (room : Room k callerA) (top : ∀ (w : World) (h : Heap), YP w h → (K w.params).In h)
    (F : ∀ (w : World) (mg : Str → Option Value) (fa : Addr) (h : Heap), (K w.params).In h → h.Ns mainGlobals mg → mg d.name = some (.ref fa) →
      ∃ fd : FuncData, (∀ (s : Shared) (u : Value), BindsTo s fd ⟨[u], []⟩ [(x, u)]) ∧ ∀ base : Heap, (K w.params).In base → base.Ns mainGlobals mg → FnOkG l.prog w (K w.params) mg base CX0 k fa fd [x] (sp w))
    (prom : ∀ (w : World) (H : Hp) (a : Addr) (ns : List Int), ns.length ≤ n → (∀ z ∈ ns, Builtin.Int.intBits z ≤ 1048576) → Only H → SqL (K w.params) H a (ns.map V.int) → sp w [.ref a] H (fun v _ => v = .bl true) fun _ _ _ => False) :
    PySem.W.WalkO q loose XP YP l.row.toRowW d [] (fun f vs => PySem.call f vs) := by
  apply Att.attach_callB most plain
  intro w s₀ s₁ mg mb fa o pm cd doc a vs ns G Y _ _ _ hmg at_ isI size bits gens
  have kin := top w _ Y
  obtain ⟨fd, bind, hF⟩ := F w mg fa _ kin G.T.g hmg
  have few' := Nat.le_trans size few
  have ok : HOk l.prog w (scrH (K w.params) a vs ns) s₁.heap := scrH_ok at_ isI few'
  have kin' : (K w.params).In (hidT s₁.heap (scrH (K w.params) a vs ns)) := fun b o e => scrH_base at_ (kin b o e) (.inr (by rw [e]; simp))
  have g' := scrH_ns (K := K w.params) (ns := ns) at_ G.T.g
  obtain ⟨mc, lim1, lim2⟩ := G.T.nolimit
  have e0 : Env0 l.prog w (K w.params) mg (hidT s₁.heap (scrH (K w.params) a vs ns)) callerA [] s₁ (scrH (K w.params) a vs ns) :=
    ⟨rfl, ⟨kin', g', ⟨mb, scrH_ns at_ G.T.b, G.T.builtins⟩, ⟨mc, scrH_ns at_ lim1, lim2⟩⟩, fun _ _ => of_hidT, Nat.le_of_eq (hidT_size _ _), trivial, (by intro _ z; cases z), ok, AllBare.of_eq gens⟩
  refine codeAny_mono ((hF _ kin' g').calls (us := [.ref a]) (vs := [.ref a]) rfl room e0 (bind s₁ (.ref a)) (.cons rfl .nil) (prom w _ a ns size bits (scrH_only (K w.params) a vs ns) (scrH_sq kin at_ isI few'))) fun r s' h => ?_
  match r, h with
  | .error e, h => exact h.elim
  | .ok .next, h => exact h.elim
  | .ok .brk, h => exact h.elim
  | .ok .cont, h => exact h.elim
  | .ok (.ret u), ⟨v, H', os, bare, un, ok', rel, is⟩ =>
    have is : v = .bl true := is
    subst is
    cases (show u = Value.bool true from rel)
    refine ⟨rfl, OldK.of_keep ?_, os, bare⟩
    intro b o e
    rcases scrH_or (K w.params) a vs ns b with z | ⟨rfl, _, z⟩
    · exact un.keep b o e z (fun m => nomatch m) (by simp)
    · cases at_.symm.trans e
      exact (ok' _ _ (un.frzs _ _ _ z)).1
end HopR

set_option Elab.async false
set_option linter.all false
set_option maxRecDepth 100000
namespace HopR
open PySem PySem.Spec PyProof.Rows L2
theorem hu66 {A : Around} {k : Nat} (hr : Room k A) : A.units + 66 < cLine := by
  have := hr.un
  omega
/-! ### f(k = v, ..), no value by its place -/
section
variable {X : Cx} {CX : CXT} {k : Nat} {f : Addr} {fd : FuncData} {ps ks : List Str} {sp : Sp} {E : XK} {x : Str} {p pos : Pos} {kws : List Keyword} {tk : TA}
def tCallKw (m : Nat) (sp : Sp) (gV : List V → List V) (E : XK) (tk : TA) : TE := fun σ H Q => tk σ H fun zs H2 => zs.length = m ∧ sp (gV zs) H2 Q E
theorem pe_callKw {g : List Value → List Value} {gV : List V → List V} (F : FnOk X.prog X.w X.K X.mg X.base CX k f fd ps sp) (hr : Room k X.A) (hg : Gl X x) (hm : X.mg x = some (.ref f)) (hk : PySem.W.keepIn X.K (.ref f) = true)
    (hb : ∀ (s : Shared) (ws : List Value), X.K.In s.heap → ws.length = ks.length → BindsTo s fd ⟨[], ks.zip ws⟩ (ps.zip (g ws))) (hrel : ∀ {zs : List V} {ws : List Value}, Vals zs ws → Vals (gV zs) (g ws)) (hx : Passes CX X E) (hkw : PK X kws tk)
    (hall : (backToKw pos (keywordEach kws X.env)).all (·.1.isSome) = true := by rfl) (hks : (backToKw pos (keywordEach kws X.env)).filterMap (·.1) = ks := by rfl) (hdb : (x == ("__debug__" : Str)) = false := by decide)
    (hpl : ((backTo pos (starEach [] X.env)).any (·.1) || (backToKw pos (keywordEach kws X.env)).any (·.1.isNone)) = false := by rfl) :
    PE X (.Call (.Name x p) [] kws pos) (tCallKw ks.length sp gV E tk) := by
  refine ⟨fun pins s σ H Q I h => wpAny_Call_Name_kw (ld_glob I hg hm ?_ hdb)⟩
  refine PySem.W.callWith_KW0 (h₀ := X.base) I.ok.mod.kin hk hall (thn (hkw.run pos pins s σ H _ I h) fun ws s2 ⟨zs, H2, I2, rz, l2, q2⟩ => ⟨I2.kIn, ?_⟩) hpl
  rw [hks]
  refine wpAny_call (codeAny_mono (F.run X.A X.stack s2 H2 ⟨[], ks.zip ws⟩ (g ws) (gV zs) Q E hr I2.env0 (hb s2 ws I2.kIn (rz.length.symm.trans l2)) (hrel rz) q2) fun r s' hq => ?_)
  match r, hq with
  | .error e, hq => exact hx pins σ H2 s2 e s' I2 hq
  | .ok (.ret u), hq => exact I2.after hq
  | .ok .next, hq => exact hq.elim
  | .ok .brk, hq => exact hq.elim
  | .ok .cont, hq => exact hq.elim
end
/-! ### lists of small numbers as data -/
def wv (k : Nat) : V := .int (k : Int)
def dw (k : Nat) : PyData := PyData.int (k : Int)
theorem dp_walls {K : PySem.W.Frag} {H : Hp} : ∀ ks : List Nat, DpAll K H (ks.map wv) (ks.map dw)
  | [] => .nil
  | k :: r => .cons (.int _) (dp_walls r)
theorem lay_dw : ∀ ks : List Nat, PyData.canLayAll0 (ks.map dw) = true
  | [] => rfl
  | k :: r => by
    rw [List.map_cons]
    simp only [PyData.canLayAll0, lay_dw r, Bool.and_true]
    rfl
theorem deep_dw : ∀ ks : List Nat, PyData.depthAll (ks.map dw) = 0
  | [] => rfl
  | k :: r => by
    rw [List.map_cons]
    simp only [PyData.depthAll, deep_dw r]
    rfl
theorem shaped_ints (ks : List Nat) : SeqAt.shaped (.list (ks.map dw)) = true := by
  unfold SeqAt.shaped
  rw [Bool.and_eq_true]
  refine ⟨?_, decide_eq_true ?_⟩
  · simp only [PyData.canLay0, lay_dw]
  · simp only [PyData.depth, deep_dw]
    decide
theorem show_dw : ∀ ks : List Nat, (∀ k ∈ ks, k ≤ 30) → PyData.showableAll (ks.map dw) = true
  | [], _ => rfl
  | k :: r, h => by
    have hk := h k (List.mem_cons_self ..)
    have e : PyData.showable (dw k) = true := by
      show decide ((k : Int).natAbs.log2 < 1920) = true
      refine decide_eq_true (Nat.lt_of_le_of_lt (Nat.log2_le_self _) ?_)
      show k < 1920
      omega
    rw [List.map_cons]
    simp only [PyData.showableAll, e, show_dw r fun q hq => h q (List.mem_cons_of_mem _ hq), Bool.and_true]
theorem nodict_dw : ∀ ks : List Nat, PyData.hasDictAll (ks.map dw) = false
  | [] => rfl
  | k :: r => by
    rw [List.map_cons]
    simp only [PyData.hasDictAll, nodict_dw r, Bool.or_false]
    rfl
theorem text30 : ∀ k < 31, (PyData.shown (dw k)).length ≤ 2 := by decide +kernel
theorem shown_len : ∀ ks : List Nat, (∀ k ∈ ks, k ≤ 30) → ((PyData.shownAll (ks.map dw)).map (·.length)).sum ≤ 2 * ks.length ∧ (PyData.shownAll (ks.map dw)).length = ks.length
  | [], _ => ⟨Nat.le_refl _, rfl⟩
  | k :: r, h => by
    obtain ⟨h1, h2⟩ := shown_len r fun q hq => h q (List.mem_cons_of_mem _ hq)
    have hk := text30 k (by have := h k (List.mem_cons_self ..); omega)
    rw [List.map_cons]
    simp only [PyData.shownAll, List.map_cons, List.sum_cons, List.length_cons]
    omega
theorem ints_show {ks : List Nat} (h : ∀ k ∈ ks, k ≤ 30) (hl : ks.length ≤ 1000) : (PyData.list (ks.map dw)).showable = true ∧ (PyData.list (ks.map dw)).hasDict = false ∧ (PyData.list (ks.map dw)).depth ≤ 64 ∧ (PyData.list (ks.map dw)).shown.length ≤ sizeLine := by
  obtain ⟨h1, h2⟩ := shown_len ks h
  refine ⟨?_, ?_, ?_, ?_⟩
  · simp only [PyData.showable, show_dw ks h]
  · simp only [PyData.hasDict, nodict_dw]
  · simp only [PyData.depth, deep_dw]
    decide
  · simp only [PyData.shown]
    have h3 := listText_len_le (PyData.shownAll (ks.map dw))
    rw [sizeLine_eq]
    omega
/-! ### the law's own words of walls and changes -/
theorem opn_eq {bs : List Bool} {k : Nat} (h : k ≤ bs.length) : opn bs k = ((decide (k = 0) || bs.getD (k - 1) false) && (decide (k = bs.length) || !bs.getD k true)) := by
  have hl := ends_len bs
  have e1 : (ends bs)[k]?.getD false = (decide (k = 0) || bs.getD (k - 1) false) := by
    unfold ends
    cases k with
    | zero => rfl
    | succ j =>
      rw [List.getElem?_cons_succ, List.getElem?_append_left (by omega), List.getD_eq_getElem?_getD]
      simp
  have e2 : (ends bs)[k + 1]?.getD true = (decide (k ≠ bs.length) && bs.getD k true) := by
    unfold ends
    rw [List.getElem?_cons_succ]
    by_cases hk : k = bs.length
    · subst hk
      rw [List.getElem?_append_right (Nat.le_refl _)]
      simp
    · rw [List.getElem?_append_left (by omega), List.getD_eq_getElem?_getD, decide_eq_true hk]
      rfl
  have e3 : opn bs k = (((ends bs)[k]?.getD false) && !((ends bs)[k + 1]?.getD true)) := by
    have g1 : (ends bs)[k]? = some (ends bs)[k] := List.getElem?_eq_getElem (by omega)
    have g2 : (ends bs)[k + 1]? = some (ends bs)[k + 1] := List.getElem?_eq_getElem (by omega)
    have g3 : ((ends bs).drop k).take 2 = [(ends bs)[k], (ends bs)[k + 1]] := by
      rw [List.drop_eq_getElem_cons (by omega), List.drop_eq_getElem_cons (by omega)]
      rfl
    unfold opn
    rw [g3, g1, g2]
    show decide ([(ends bs)[k], (ends bs)[k + 1]] = [true, false]) = ((ends bs)[k] && !(ends bs)[k + 1])
    cases (ends bs)[k] <;> cases (ends bs)[k + 1] <;> rfl
  rw [e3, e1, e2]
  by_cases hk : k = bs.length
  · simp [hk]
  · simp [hk]
def lbeh (bs : List Bool) (k : Nat) : List Bool := if k < bs.length then (if 0 < k then bs.set (k - 1) false else bs).set k true else (if 0 < k then bs.set (k - 1) false else bs)
theorem lbeh_len (bs : List Bool) (k : Nat) : (lbeh bs k).length = bs.length := by
  unfold lbeh
  split <;> split <;> simp
theorem chg_get {bs : List Bool} {k i : Nat} (h : k ≤ bs.length) (hi : i < bs.length) : (chg bs k)[i]? = some (if i + 1 = k then false else if i = k then true else bs[i]) := by
  have hl := ends_len bs
  have hb := bhd_len h
  have he : (ends bs)[i + 1]? = some bs[i] := by
    unfold ends
    rw [List.getElem?_cons_succ, List.getElem?_append_left hi, List.getElem?_eq_getElem hi]
  unfold chg
  rw [List.getElem?_take_of_lt (by rw [hb]; omega), List.getElem?_drop, Nat.add_comm 1 i]
  unfold bhd
  rw [List.append_assoc, List.append_assoc]
  by_cases h1 : i + 1 < k
  · rw [List.getElem?_append_left (by rw [List.length_take]; omega), List.getElem?_take_of_lt h1, he, if_neg (by omega), if_neg (by omega)]
  · rw [List.getElem?_append_right (by rw [List.length_take]; omega), List.length_take, Nat.min_eq_left (by omega)]
    by_cases h2 : i + 1 = k
    · rw [if_pos h2, h2, Nat.sub_self]
      rfl
    · rw [if_neg h2]
      by_cases h3 : i = k
      · rw [if_pos h3, show i + 1 - k = 1 by omega]
        rfl
      · rw [if_neg h3]
        obtain ⟨m, hm⟩ : ∃ m, i + 1 - k = m + 2 := ⟨i + 1 - k - 2, by omega⟩
        rw [hm]
        show ((ends bs).drop (k + 2))[m]? = some bs[i]
        rw [List.getElem?_drop, show k + 2 + m = i + 1 by omega, he]
theorem lbeh_eq {bs : List Bool} {k : Nat} (h : k ≤ bs.length) : lbeh bs k = chg bs k := by
  apply List.ext_getElem?
  intro i
  by_cases hi : i < bs.length
  · rw [chg_get h hi]
    unfold lbeh
    have g : bs[i]? = some bs[i] := List.getElem?_eq_getElem hi
    have inner : (if 0 < k then bs.set (k - 1) false else bs)[i]? = some (if i + 1 = k then false else bs[i]) := by
      by_cases hk : 0 < k
      · rw [if_pos hk, List.getElem?_set]
        by_cases e : k - 1 = i
        · rw [if_pos e, if_pos (by omega), if_pos (by omega)]
        · rw [if_neg e, if_neg (by omega), g]
      · rw [if_neg hk, if_neg (by omega), g]
    have il : (if 0 < k then bs.set (k - 1) false else bs).length = bs.length := by
      split <;> simp
    by_cases hk : k < bs.length
    · rw [if_pos hk, List.getElem?_set]
      by_cases e : k = i
      · rw [if_pos e, if_pos (by rw [il]; exact hk), if_neg (by omega), if_pos e.symm]
      · rw [if_neg e, inner]
        by_cases e2 : i + 1 = k
        · rw [if_pos e2, if_pos e2]
        · rw [if_neg e2, if_neg e2, if_neg (fun z => e z.symm)]
    · rw [if_neg hk, inner]
      by_cases e2 : i + 1 = k
      · rw [if_pos e2, if_pos e2]
      · rw [if_neg e2, if_neg e2, if_neg (by omega)]
  · rw [List.getElem?_eq_none (by rw [lbeh_len]; omega), List.getElem?_eq_none (by rw [chg_len h]; omega)]
end HopR

set_option Elab.async false
set_option linter.all false
set_option maxRecDepth 100000
namespace HopR
open PySem PySem.Spec PyProof.Rows L2
/-! ### an exception that is kept behind its suite -/
/-- the exception at a, of the class cls, its dict d, kept as a value -/
def ExH (cls : Value) (d : Option Addr) (a : Addr) : HO := .ext fun h => ∃ (oe : Obj) (vs : Array Value), h.get? a = some oe ∧ Zc cls d oe ∧ oe.data = .fields vs
theorem exH_ok {P : Program} {w : World} {H : Hp} {h : Heap} {a : Addr} {cls : Value} {d : Option Addr} {oe : Obj} {vs : Array Value} (e : h.get? a = some oe) (z : Zc cls d oe) (q : oe.data = .fields vs) : ObjOk P w H h a (ExH cls d a) :=
  ⟨⟨oe, vs, e, z, q⟩, ⟨oe, e⟩, fun _ _ ⟨o, v, q, r⟩ k => ⟨o, v, k o q, r⟩⟩
section
variable {X : Cx} {pins : List (Addr × Obj)} {σ σ0 : L2.St} {H H0 : Hp} {s sI : Shared} {a : Addr} {oe : Obj} {vs : Array Value} {o : HO}
/-- an object that came behind the entry is tracked from now on -/
theorem track (I : Inv X pins σ H s) (J : Inv X pins σ0 H0 sI) (hI : sI.heap.get? a = none) (hx : X.ex = []) (na : H a = none) (nL : a ≠ X.env.locals) (ha : s.heap.get? a = some oe) (hd : oe.data = .fields vs) (new : ObjOk X.prog X.w (upd H a o) s.heap a o) : Inv X pins σ (upd H a o) s := by
  have n0 : ∀ b u, X.s_0.heap.get? b = some u → b ≠ a := by
    intro b u e z
    subst z
    obtain ⟨u2, q⟩ := J.base.there b u e (by rw [hx]; exact fun z => nomatch z)
    rw [hI] at q
    cases q
  have nN : ∀ {b : Addr} {u : HO}, H b = some u → b ≠ a := fun e => ne_of_none e na
  have bs := I.base
  refine ⟨I.ok, I.os, I.bare, ⟨bs.keep, bs.slot, ?_, bs.there, ?_, ?_, ?_⟩, I.loc, I.cell, ?_, ?_, ?_, ?_, I.len⟩
  · intro b u e n q
    rw [upd_ne (n0 b u e)]
    exact bs.free b u e n q
  · intro b xs e
    have q := bs.tups b xs e
    rw [upd_ne (nN q)]
    exact q
  · intro b ob u e
    have q := bs.frzs b ob u e
    rw [upd_ne (nN q)]
    exact q
  · intro b ps e
    obtain ⟨m, q⟩ := bs.tbls b ps e
    exact ⟨m, by rw [upd_ne (nN q)]; exact q⟩
  · rw [upd_ne nL.symm]
    exact I.free
  · intro x c e
    have nc : c ≠ a := by
      intro z
      subst z
      obtain ⟨v, oc, e1, e2⟩ := I.cell x c e
      rw [ha] at e1
      cases e1
      rw [hd] at e2
      cases e2
    rw [upd_ne nc]
    exact I.freeC x c e
  · intro p hp
    have np : p.1 ≠ a := by
      intro z
      have q := (J.pin p hp).1
      rw [z, hI] at q
      cases q
    obtain ⟨e, n, r⟩ := I.pin p hp
    exact ⟨e, by rw [upd_ne np]; exact n, r⟩
  · intro b u e
    by_cases hb : b = a
    · subst hb
      rw [upd_same] at e
      cases e
      exact new
    · rw [upd_ne hb] at e
      refine (I.hok b u e).stay (fun c v _ q => q) (fun c q => ?_) (fun c xs q => ?_)
      · rw [upd_ne (nN q)]
        exact q
      · rw [upd_ne (nN q)]
        exact q
end
theorem fly_keeps {B h h' : Heap} {l : List Env} {a : Addr} {Z : Obj → Prop} (x : HandSPX.FlyingZ B l a Z h) (k : ∀ b o, h.get? b = some o → h'.get? b = some o) : HandSPX.FlyingZ B l a Z h' := by
  obtain ⟨x1, x2, x3, oe, vs, T, oT, ts, e1, e2, e3, e4, e5, e6, e7, e8, e9⟩ := x
  exact ⟨fun b o e => k b o (x1 b o e), x2, x3.of_keeps (fun b o e _ => ⟨o, k b o e, rfl⟩), oe, vs, T, oT, ts, k _ _ e1, e2, e3, e4, e5, e6, k _ _ e7, e8, e9⟩
/-- the clause's test takes the exceptions whose class has m -/
def Tests (X : Cx) (t : Expr) (m : Value → Prop) : Prop :=
  ∀ (a : Addr) (oe : Obj) (pn pins : List (Addr × Obj)) (σ : L2.St) (H : Hp) (s : Shared) (cls : Value) (Q : Value → Shared → Prop) (E : Value → Shared → Prop), Inv (X.suite a ((a, oe) :: pn)) pins σ H s → s.heap.get? a = some oe → oe.cls = cls → m cls →
    (∀ (c : Value) (h' : Heap), (∀ b o, s.heap.get? b = some o → h'.get? b = some o) → PySem.W.Looks (model X.prog X.w) h' (excMatches (.ref a) c) true → Q c { s with heap := h' }) → wpAny (model X.prog X.w) (X.A.mark (some (.ref a))) (eval t X.env) Q E s
theorem ld_nm {X : Cx} {x : Str} {c : Value} {pins : List (Addr × Obj)} {σ : L2.St} {H : Hp} {s : Shared} {Q : Value → Shared → Prop} {E : Value → Shared → Prop} {p : Pos} (I : Inv X pins σ H s) (hc : Names X x c) (q : Q c s) : wpAny (model X.prog X.w) X.A (eval (.Name x p) X.env) Q E s := by
  obtain ⟨g, nd, h | ⟨h1, h2, h3⟩⟩ := hc
  · exact ld_glob I g h q nd
  · exact ld_blt I g h1 h2 q h3 nd
theorem ty_looks {P : Program} {w : World} {h : Heap} {a : Addr} {oe : Obj} {cls : Value} (e : h.get? a = some oe) (c : oe.cls = cls) : PySem.W.Looks (model P w) h (typeOf (.ref a)) cls := by
  intro A Q E s k q
  exact wpAny_typeOf_ref (k _ _ e) (by rw [c]; exact q)
theorem tests_one {X : Cx} {x : Str} {c : Value} {p : Pos} (hc : Names X x c) : Tests X (.Name x p) fun cls => PySem.W.exmOne X.K cls c = some true := by
  intro a oe pn pins σ H s cls Q E I ha hcl hm k
  exact ld_nm (X := X.suite a ((a, oe) :: pn)) I hc (k c s.heap (fun _ _ z => z) (PySem.W.exm_one I.kIn (ty_looks ha hcl) hm))
theorem tests_two {X : Cx} {x1 x2 : Str} {c1 c2 : Value} {p1 p2 pos : Pos} {u} (h1 : Names X x1 c1) (h2 : Names X x2 c2) : Tests X (.Tuple [.Name x1 p1, .Name x2 p2] u pos) fun cls => PySem.W.exmAny X.K cls [c1, c2] = some true := by
  intro a oe pn pins σ H s cls Q E I ha hcl hm k
  refine wpAny_Tuple_spliced ?_
  refine Calls.spliced_cons (ld_nm (X := X.suite a ((a, oe) :: pn)) I h1 ?_)
  refine Calls.spliced_cons (ld_nm (X := X.suite a ((a, oe) :: pn)) I h2 (Calls.spliced_nil ⟨by show 2 ≤ sizeLine; decide, ?_⟩))
  have hk : ∀ b o, s.heap.get? b = some o → (s.heap.push { cls := .type "tuple", data := .seq [c1, c2].toArray }).get? b = some o := fun b o e => Heap.get?_push_of_some _ e
  refine k (.ref s.heap.objs.size) _ hk ?_
  exact PySem.W.exm_tup2 (fun b o e => hk b o (I.kIn b o e)) (ty_looks (hk _ _ ha) hcl) (Heap.get?_push_size _ rfl) hm
/-- what 'except .. as n: v = n' wishes of an exception of the body: it is taken, and kept in slot j; slot i, n's, is empty behind it -/
def wHeld (m : Value → Prop) (i j : Nat) (D : Ends) : WX := fun cls d σ H => m cls ∧ ∀ a, H a = none → D.nx (((σ.set i (some (.ref a))).set j (some (.ref a))).set i none) (upd H a (ExH cls d a))
section
variable {X : Cx} {n v : Str} {i j : Nat} {t : Expr} {m : Value → Prop} {body : List Stmt} {pos pos' p1 p2 p3 : Pos} {tb : WX → TS}
theorem ps_try_held (hs : X.stack = X.env :: X.outer) (hf : X.env.frame = some X.env.locals) (hN : X.N.Nodup) (hi : X.N[i]? = some n) (hj : X.N[j]? = some v) (hln : X.env.kindOf n = some .local) (hlv : X.env.kindOf v = some .local) (hx : X.ex = []) (ht : Tests X t m)
    (hb : ∀ (W : WX) (pn : List (Addr × Obj)) (xe : Value → Shared → Prop), Takes (X.tr pn xe) W → PassesOwn (model X.prog X.w) X.A X.env xe → PSs (X.tr pn xe) body (tb W))
    (hsu : ∀ (a : Addr) (oe : Obj) (pn : List (Addr × Obj)), PSs (X.suite a ((a, oe) :: pn)) [.Assign [.Name v p1] (.Name n p2) p3] (tAsg (tVar i) (gName j))) :
    PS X (.Try body [.ExceptHandler (some t) (some n) [.Assign [.Name v p1] (.Name n p2) p3] pos'] [] [] pos) (fun D σ H => tb (wHeld m i j D) D σ H) := by
  constructor
  intro pins s σ H D I h
  have ok := I.ok
  have frm : X.A.frames = some (X.env :: X.outer) := ok.frames.trans (congrArg some hs)
  have body_ := hb (wHeld m i j D) (X.pn ++ pins) (fun e s₁ => wpAny (model X.prog X.w) X.A (noteFrame e X.env) (fun _ s₂ => wpAny (model X.prog X.w) X.A (setFlight e none) (fun _ s₃ => wpAny (model X.prog X.w) X.A (handleBy e X.env [.ExceptHandler (some t) (some n) [.Assign [.Name v p1] (.Name n p2) p3] pos']) (SP X pins D) X.xe s₃) X.xe s₂) X.xe s₁) ?caught PassesOwn.looking
  · refine wpAny_Try_except (wpAny_mono (body_.run [] s σ H D (I.toTry _) h) ?_ fun _ _ z => z)
    intro f s1 hsp
    match f, hsp with
    | .next, ⟨σ', H', J', q⟩ => exact wpAny_execs_nil ⟨σ', H', J'.ofTry ok, q⟩
    | .brk, ⟨σ', H', J', q⟩ => exact ⟨σ', H', J'.ofTry ok, q⟩
    | .cont, ⟨σ', H', J', q⟩ => exact ⟨σ', H', J'.ofTry ok, q⟩
    | .ret u, ⟨v, σ', H', J', r, q⟩ => exact ⟨v, σ', H', J'.ofTry ok, r, q⟩
  case caught =>
    rintro u s' ⟨a, B, sI, pins', σ', H', cls, d, rfl, J', nb, up, sky, na, os, ag, hm, hk⟩
    have J : Inv X pins σ' H' sI := J'.ofTry ok
    have sk2 : Sky B (X.env :: X.outer) a (Zc cls d) X.env.locals s'.heap := hs ▸ sky
    show wpAny (model X.prog X.w) X.A (noteFrame (.ref a) X.env) _ _ _
    refine Sky.land Zc.steady frm hf sk2 fun h3 fl3 up3 => ?_
    have notF : ∀ {g : Heap}, HandSPX.FlyingZ B (X.env :: X.outer) a (Zc cls d) g → a ∉ frs (X.env :: X.outer) := by
      intro g fl hmem
      obtain ⟨o1, v1, e1, _, e3⟩ := fl.there
      obtain ⟨_, o2, e2, hn2⟩ := fl.2.2.1.mem hmem
      rw [e1] at e2
      cases e2
      exact hn2 _ e3
    have nfr := notF fl3
    have nL : a ≠ X.env.locals := by
      intro z
      exact nfr (List.mem_filterMap.mpr ⟨X.env, List.mem_cons_self, hf.trans (congrArg some z.symm)⟩)
    have nF : a ∉ X.fs := by
      intro z
      obtain ⟨e, he, q⟩ := List.mem_filterMap.mp z
      exact nfr (List.mem_filterMap.mpr ⟨e, List.mem_cons_of_mem _ he, q⟩)
    have nI : sI.heap.get? a = none := by
      cases e : sI.heap.get? a with
      | none => rfl
      | some o =>
        have q := nb a o e (by rw [hs]; exact nfr)
        rw [fl3.2.1] at q
        cases q
    obtain ⟨oe3, vs3, he3, hz3, hd3⟩ := fl3.there
    have J3 : Inv X pins σ' H' { s' with heap := h3 } := J.landed nb fl3.1 (up.trans up3) os ag
    refine wpAny_handleBy_cons (codeAny_handlers_test ?_) (fun q => nomatch q)
    refine ht a oe3 _ _ _ _ _ cls _ _ (J3.suite he3 hd3 na nL nF) he3 hz3.1 hm fun c h' kp lk => lk.here ?_
    refine codeAny_handlers_suite_as (HandSPX.lands_againZ (fly_keeps fl3 kp) fun h4 fl4 up4 => ?_)
    have upA : sI.heap.UpToSlots h4 := ((up.trans up3).trans (Heap.UpToSlots.of_keeps kp)).trans up4
    have J4 : Inv X pins σ' H' { s' with heap := h4 } := J.landed nb fl4.1 upA os ag
    obtain ⟨oe4, vs4, he4, hz4, hd4⟩ := fl4.there
    refine store_ok (X := X.suite a ((a, oe4) :: (X.pn ++ pins))) (v := .ref a) (J4.suite he4 hd4 na nL nF) hN hi (.inl hln) rfl (fun s5 S5 => ?_) (.inr hln)
    have hlen : i < σ'.length := by
      rw [J.len]
      exact (List.getElem?_eq_some_iff.mp hi).1
    refine wpAny_mono ((hsu a oe4 (X.pn ++ pins)).run [] s5 _ H' { nx := fun σ6 H6 => σ6 = (σ'.set i (some (.ref a))).set j (some (.ref a)) ∧ H6 = H', rt := fun _ _ => False } S5 ?_) (fun f s6 hsp => ?_) (fun _ _ z => False.elim z)
    · exact ⟨.ref a, by simp [hlen], rfl, rfl⟩
    match f, hsp with
    | .next, ⟨σ6, H6, S6, e6, e7⟩ =>
      subst e6 e7
      refine gone_ok (X := X.suite a ((a, oe4) :: (X.pn ++ pins))) S6 hN hi hln fun s7 S7 => ?_
      have ha7 := (S7.pin (a, oe4) (List.mem_append_left _ List.mem_cons_self)).1
      exact ⟨_, _, track (S7.unsuite ok) J nI hx na nL ha7 hd4 (exH_ok ha7 hz4 hd4), hk a na⟩
    | .brk, ⟨_, _, _, z⟩ => exact z.elim
    | .cont, ⟨_, _, _, z⟩ => exact z.elim
    | .ret u, ⟨_, _, _, _, _, z⟩ => exact z.elim
end
end HopR

set_option Elab.async false
set_option linter.all false
set_option maxRecDepth 100000
namespace HopR
open PySem PySem.Spec PyProof.Rows L2
/-! ### isinstance of a kept exception without a dict -/
section
variable {X : Cx}
theorem held_at {pins : List (Addr × Obj)} {σ : L2.St} {H : Hp} {s : Shared} {a D : Addr} (I : Inv X pins σ H s) (ha : H a = some (ExH (.ref D) none a)) : ∃ oe, PySem.W.InstAt s.heap a oe D none := by
  obtain ⟨⟨oe, vs, e, ⟨z1, z2⟩, q⟩, _, _⟩ := I.hok a _ ha
  obtain ⟨oc, od, oda, osl⟩ := oe
  dsimp only at z1 z2 q
  subst z1 z2 q
  exact ⟨_, e, rfl, rfl, trivial⟩
/-- isinstance(kept, c) -/
def rIsH (K : PySem.W.Frag) : List V → Hp → VK → Prop := fun xs H Q => ∃ (a D : Addr) (c : V) (cv : Value) (b : Bool), xs = [.ref a, c] ∧ H a = some (ExH (.ref D) none a) ∧ ExcC K D ∧ ClsV c cv ∧ PySem.W.kitOne K (.ref D) cv = some b ∧ Q (.bl b) H
theorem call_isH : CallR X (.builtin "isinstance") (rIsH X.K) := by
  rintro pins s σ H xs us Q I r ⟨a, D, c, cv, b, rfl, ha, C, kc, e, q⟩
  obtain ⟨u1, u2, rfl, r1, r2⟩ := vals2 r
  obtain rfl := kc.eq r2
  cases (show u1 = Value.ref a from r1)
  obtain ⟨oe, J⟩ := held_at I ha
  exact PySem.W.kia_one (PySem.W.handS_kitx_exc C.hg C.hk C.hs C.hd C.ha C.hn C.ht C.hm) I.kIn J e (fun z => nomatch z) fun tk => ⟨.bl b, H, I.tok tk, rfl, q⟩
/-- isinstance(kept, (c1, c2, ..)) -/
def rIsHT (K : PySem.W.Frag) : List V → Hp → VK → Prop := fun xs H Q => ∃ (a D tp : Addr) (cs : List V) (ws : List Value) (b : Bool), xs = [.ref a, .ref tp] ∧ H a = some (ExH (.ref D) none a) ∧ ExcC K D ∧ H tp = some (.tup cs) ∧ Paired ClsV cs ws ∧ PySem.W.kitAny K (.ref D) ws = some b ∧ Q (.bl b) H
theorem call_isHT : CallR X (.builtin "isinstance") (rIsHT X.K) := by
  rintro pins s σ H xs us Q I r ⟨a, D, tp, cs, ws, b, rfl, ha, C, ht, kc, e, q⟩
  obtain ⟨u1, u2, rfl, r1, r2⟩ := vals2 r
  cases (show u1 = Value.ref a from r1)
  cases (show u2 = Value.ref tp from r2)
  obtain ⟨oe, J⟩ := held_at I ha
  have hT : ObjOk X.prog X.w H s.heap tp (.tup cs) := I.hok tp _ ht
  obtain ⟨_, its, rv, ⟨oc, od, dt, osl⟩, g1, g2, n, g3⟩ := hT
  obtain rfl := ClsV.all kc rv
  simp only at g2 g3
  subst g2 g3
  exact PySem.W.kia_tup (PySem.W.handS_kitx_exc C.hg C.hk C.hs C.hd C.ha C.hn C.ht C.hm) I.kIn J g1 e (fun z => nomatch z) fun tk => ⟨.bl b, H, I.tok tk, rfl, q⟩
end
/-! ### things that are whole numbers or not -/
/-- x is of a built-in type that is no whole number's -/
def Odd (K : PySem.W.Frag) (H : Hp) (x : V) : Prop := ∃ t bI, TyX K H x t ∧ PySem.W.kitOne K t (.type "int") = some bI ∧ (bI = true → PySem.W.kitOne K t (.type "bool") = some true)
theorem odd_non {K : PySem.W.Frag} {H : Hp} : Odd K H .non := ⟨_, false, .base .non, kit_ty (by decide +kernel), fun z => nomatch z⟩
theorem odd_bl {K : PySem.W.Frag} {H : Hp} {b : Bool} : Odd K H (.bl b) := ⟨_, true, .base (.bl b), kit_ty (by decide +kernel), fun _ => kit_ty (by decide +kernel)⟩
theorem odd_str {K : PySem.W.Frag} {H : Hp} {z : Str} : Odd K H (.str z) := ⟨_, false, .base (.str z), kit_ty (by decide +kernel), fun z => nomatch z⟩
theorem odd_lst {K : PySem.W.Frag} {H : Hp} {a : Addr} {xs : List V} (e : H a = some (.lst xs)) : Odd K H (.ref a) := ⟨_, false, .base (.lst e), kit_ty (by decide +kernel), fun z => nomatch z⟩
theorem odd_tup {K : PySem.W.Frag} {H : Hp} {a : Addr} {xs : List V} (e : H a = some (.tup xs)) : Odd K H (.ref a) := ⟨_, false, .base (.tup e), kit_ty (by decide +kernel), fun z => nomatch z⟩
theorem odd_dK {K : PySem.W.Frag} {H : Hp} {a : Addr} {xs : List (Key × V)} (e : H a = some (.dK xs)) : Odd K H (.ref a) := ⟨_, false, .base (.dK e), kit_ty (by decide +kernel), fun z => nomatch z⟩
end HopR

set_option Elab.async false
set_option linter.all false
set_option maxRecDepth 100000
namespace HopR
open PySem L2
theorem same_upd {H : Hp} {p : Addr} {o : HO} (h : H p = none) : Same H (upd H p o) := fun b x e => by
  rw [upd_ne (ne_of_none e h)]
  exact e
theorem same_new {H H1 : Hp} {p : Addr} {o : HO} (h : H p = none) (s : Same H H1) : Same H (upd H1 p o) := fun b x e => by
  rw [upd_ne (ne_of_none e h)]
  exact s _ _ e
/-- a def of the text, its binding, where its name leads -/
structure Fn (K : PySem.W.Frag) (mg : Str → Option Value) (x : Str) (st : Stmt) (ps : List Str) (f : Addr) (fd : FuncData) : Prop where
  F : Fun K x x st f fd
  b : Binds K fd ps []
  g : mg x = some (.ref f)
end HopR

set_option Elab.async false
set_option linter.all false
set_option maxRecDepth 100000
namespace HopR
open PySem L2
/-! ### classes of refusals -/
theorem kit_own {K : PySem.W.Frag} {D C : Addr} {b : Bool} (ne : D ≠ C) (hd : PySem.W.hasDictIn K C = true) (ht : PySem.W.typeIn K (.ref C) = some (.type "type")) (h : PySem.W.subIn K (.ref D) (.ref C) = some b) : PySem.W.kitOne K (.ref D) (.ref C) = some b := by
  obtain ⟨cd, hc, _⟩ := PySem.W.any_some hd
  have e1 : ((Value.ref D == Value.ref C) = true) = False := by
    rw [eq_iff_iff]
    exact ⟨fun z => ne (Value.ref.inj (beq_iff_eq.mp z)), False.elim⟩
  have e2 : ((PySem.W.clsIn K C).isSome && PySem.W.typeIn K (.ref C) == some (.type "type")) = true := by rw [hc, ht] <;> rfl
  unfold PySem.W.kitOne
  rw [if_neg (by rw [e1]; exact id)]
  show (if ((PySem.W.clsIn K C).isSome && PySem.W.typeIn K (.ref C) == some (.type "type")) = true then PySem.W.subIn K (.ref D) (.ref C) else none) = some b
  rw [if_pos e2]
  exact h
theorem kit_me {K : PySem.W.Frag} {D : Addr} : PySem.W.kitOne K (.ref D) (.ref D) = some true := by
  unfold PySem.W.kitOne
  rw [if_pos (by simp)]
theorem kit_blt {K : PySem.W.Frag} {D : Addr} {T : String} {b : Bool} (m : PySem.W.kitMeta T = true) (h : PySem.W.subIn K (.ref D) (.type T) = some b) : PySem.W.kitOne K (.ref D) (.type T) = some b := by
  have e1 : ¬ ((Value.ref D == Value.type T) = true) := fun z => nomatch (beq_iff_eq.mp z)
  unfold PySem.W.kitOne
  rw [if_neg e1]
  show (if PySem.W.kitMeta T = true then PySem.W.subIn K (.ref D) (.type T) else none) = some b
  rw [if_pos m]
  exact h
theorem kitAny_cons {K : PySem.W.Frag} {t c : Value} {r : List Value} (h : PySem.W.kitOne K t c = some false) (q : PySem.W.kitAny K t r = some false) : PySem.W.kitAny K t (c :: r) = some false := by
  simp only [PySem.W.kitAny, h, q]
theorem kitAny_nil {K : PySem.W.Frag} {t : Value} : PySem.W.kitAny K t [] = some false := by simp only [PySem.W.kitAny]
theorem exmAny2 {K : PySem.W.Frag} {t c1 c2 : Value} {b1 b2 : Bool} (h1 : PySem.W.exmOne K t c1 = some b1) (h2 : PySem.W.exmOne K t c2 = some b2) : PySem.W.exmAny K t [c1, c2] = some (b1 || b2) := by
  simp only [PySem.W.exmAny, h1, h2, Bool.or_false]
/-- an own exception class, as its instances are made and asked -/
structure Xc (K : PySem.W.Frag) (D : Addr) (bm : List Value) (nw : String) : Prop where
  x : PySem.W.excIn K D bm nw = true
  k : PySem.W.keepIn K (.ref D) = true
  be : PySem.W.subIn K (.ref D) (.type "BaseException") = some true
  ty : PySem.W.typeIn K (.ref D) = some (.type "type")
  c : ExcC K D
abbrev bmV : List Value := [.type "ValueError", .type "Exception", .type "BaseException", .type "object"]
abbrev bmZ : List Value := [.type "ZeroDivisionError", .type "ArithmeticError", .type "Exception", .type "BaseException", .type "object"]
/-! ### things by their kind -/
theorem tyx_same {K : PySem.W.Frag} {H H' : Hp} {x : V} {t : Value} (s : Same H H') (ty : TyX K H x t) : TyX K H' x t := by
  cases ty with
  | base h =>
    cases h with
    | non => exact .base .non
    | bl x => exact .base (.bl x)
    | int i => exact .base (.int i)
    | str x => exact .base (.str x)
    | flt x => exact .base (.flt x)
    | lst e => exact .base (.lst (s _ _ e))
    | frz e => exact .base (.frz (s _ _ e))
    | tup e => exact .base (.tup (s _ _ e))
    | dK e => exact .base (.dK (s _ _ e))
    | dT e => exact .base (.dT (s _ _ e))
    | ins e a b c d f => exact .base (.ins (s _ _ e) a b c d f)
  | byt b => exact .byt b
  | set e => exact .set (s _ _ e)
  | kList e c => exact .kList e c
  | kTuple e c => exact .kTuple e c
  | kDict e c => exact .kDict e c
  | fTuple e => exact .fTuple (s _ _ e)
  | fDict e => exact .fDict (s _ _ e)
theorem odd_same {K : PySem.W.Frag} {H H' : Hp} {x : V} (s : Same H H') (h : Odd K H x) : Odd K H' x := by
  obtain ⟨t, b, ty, k⟩ := h
  exact ⟨t, b, tyx_same s ty, k⟩
/-- x is no text -/
def NoTxt (K : PySem.W.Frag) (H : Hp) (x : V) : Prop := ∃ t, TyX K H x t ∧ PySem.W.kitOne K t (.type "str") = some false
theorem notxt_non {K : PySem.W.Frag} {H : Hp} : NoTxt K H .non := ⟨_, .base .non, kit_ty (by decide +kernel)⟩
theorem notxt_bl {K : PySem.W.Frag} {H : Hp} {b : Bool} : NoTxt K H (.bl b) := ⟨_, .base (.bl b), kit_ty (by decide +kernel)⟩
theorem notxt_int {K : PySem.W.Frag} {H : Hp} {i : Int} : NoTxt K H (.int i) := ⟨_, .base (.int i), kit_ty (by decide +kernel)⟩
theorem notxt_lst {K : PySem.W.Frag} {H : Hp} {a : Addr} {xs : List V} (e : H a = some (.lst xs)) : NoTxt K H (.ref a) := ⟨_, .base (.lst e), kit_ty (by decide +kernel)⟩
theorem notxt_tup {K : PySem.W.Frag} {H : Hp} {a : Addr} {xs : List V} (e : H a = some (.tup xs)) : NoTxt K H (.ref a) := ⟨_, .base (.tup e), kit_ty (by decide +kernel)⟩
theorem notxt_dK {K : PySem.W.Frag} {H : Hp} {a : Addr} {xs : List (Key × V)} (e : H a = some (.dK xs)) : NoTxt K H (.ref a) := ⟨_, .base (.dK e), kit_ty (by decide +kernel)⟩
theorem notxt_same {K : PySem.W.Frag} {H H' : Hp} {x : V} (s : Same H H') (h : NoTxt K H x) : NoTxt K H' x := by
  obtain ⟨t, ty, k⟩ := h
  exact ⟨t, tyx_same s ty, k⟩
/-! ### signs in the written dict of both signs -/
/-- the sign is a bead or a free place -/
def okc (c : Nat) : Bool := decide (c = 111) || decide (c = 46)
theorem okc_cd (b : Bool) : okc (cd b) = true := by cases b <;> rfl
def keyText : Value → Option Str
  | .str s _ => some s
  | _ => none
theorem keyText_str {v : Value} {s : Str} (h : keyText v = some s) : ∃ t, v = .str s t := by
  cases v <;> simp [keyText] at h
  exact ⟨_, by rw [h]⟩
def keysAre (es : Array DictEntry) : Prop := es.toList.map (fun e => keyText e.key) = [some ("o" : Str), some ("." : Str)]
theorem sign_in {K : PySem.W.Frag} {d : Addr} {es : Array DictEntry} {n : Nat} (l : K.lookup d = some ⟨.type "dict", none, .dict es n, #[]⟩) (hk : keysAre es) (c : Nat) : ∃ r, PySem.W.nsIn K d ⟨#[c]⟩ = some r ∧ r.isSome = okc c := by
  unfold keysAre at hk
  obtain ⟨e1, e2, hes⟩ : ∃ e1 e2, es.toList = [e1, e2] := by
    have hl := congrArg List.length hk
    rw [List.length_map] at hl
    match h : es.toList, hl with
    | [e1, e2], _ => exact ⟨e1, e2, rfl⟩
  rw [hes] at hk
  obtain ⟨t1, k1⟩ := keyText_str (List.cons.inj hk).1
  obtain ⟨t2, k2⟩ := keyText_str (List.cons.inj (List.cons.inj hk).2).1
  have i1 : e1.key.isStr ⟨#[c]⟩ = decide (c = 111) := by
    rw [k1]
    by_cases h : c = 111
    · subst h
      show (("o" : Str) == ⟨#[111]⟩) = true
      decide +kernel
    · rw [decide_eq_false h]
      have : ¬ (("o" : Str) = ⟨#[c]⟩) := fun z => by
        have z2 := congrArg (fun q : Str => q.cps.toList) z
        have z3 : [111] = [c] := z2
        exact h (List.cons.inj z3).1.symm
      simp [Value.isStr, this]
  have i2 : e2.key.isStr ⟨#[c]⟩ = decide (c = 46) := by
    rw [k2]
    by_cases h : c = 46
    · subst h
      show (("." : Str) == ⟨#[46]⟩) = true
      decide +kernel
    · rw [decide_eq_false h]
      have : ¬ (("." : Str) = ⟨#[c]⟩) := fun z => by
        have z2 := congrArg (fun q : Str => q.cps.toList) z
        have z3 : [46] = [c] := z2
        exact h (List.cons.inj z3).1.symm
      simp [Value.isStr, this]
  have r1 : e1.refKey = false := by unfold DictEntry.refKey; rw [k1]
  have r2 : e2.refKey = false := by unfold DictEntry.refKey; rw [k2]
  unfold PySem.W.nsIn
  rw [l]
  simp only [hes, List.find?, i1, i2, List.any_cons, r1, r2, List.any_nil, Bool.or_false]
  unfold okc
  by_cases h1 : c = 111
  · simp [h1]
  · by_cases h2 : c = 46
    · simp [h2]
    · simp [h1, h2]
/-- x is no row: no text, or one that is too short, too long, or has another sign -/
def NotRow (K : PySem.W.Frag) (H : Hp) (x : V) : Prop := NoTxt K H x ∨ ∃ z : Str, x = .str z ∧ z.length ≤ 10000 ∧ (z.length = 0 ∨ 30 < z.length ∨ ∃ c ∈ z.cps.toList, okc c = false)
def NotWord (K : PySem.W.Frag) (H : Hp) (x : V) : Prop := NoTxt K H x ∨ ∃ z : Str, x = .str z ∧ z.length ≤ 10000 ∧ (30 < z.length ∨ ∃ c ∈ z.cps.toList, okc c = false)
theorem notrow_same {K : PySem.W.Frag} {H H' : Hp} {x : V} (s : Same H H') (h : NotRow K H x) : NotRow K H' x := h.imp (notxt_same s) id
theorem notword_same {K : PySem.W.Frag} {H H' : Hp} {x : V} (s : Same H H') (h : NotWord K H x) : NotWord K H' x := h.imp (notxt_same s) id
theorem notword_row {K : PySem.W.Frag} {H : Hp} {x : V} (h : NotWord K H x) : NotRow K H x := h.imp id fun ⟨z, e, l, q⟩ => ⟨z, e, l, .inr q⟩
end HopR

set_option Elab.async false
set_option linter.all false
set_option maxRecDepth 100000
namespace HopR
open PySem L2
/-! ### words: where they can be shortened, and to what -/
def shp (bs : List Bool) (i : Nat) : Bool := decide ((bs.drop i).take 2 = [true, false])
def plc (bs : List Bool) : List Nat := (List.range bs.length).filter (shp bs)
def shA (bs : List Bool) (k : Nat) : List Bool := bs.take (k + 1) ++ bs.drop (k + 2)
def shB (bs : List Bool) (k : Nat) : List Bool := bs.take k ++ bs.drop (k + 1)
theorem shp_split {bs : List Bool} {i : Nat} (h : shp bs i = true) : bs = bs.take i ++ true :: false :: bs.drop (i + 2) ∧ i + 2 ≤ bs.length := by
  have h := of_decide_eq_true h
  have e : bs.drop i = [true, false] ++ (bs.drop i).drop 2 := by
    conv => lhs; rw [← List.take_append_drop 2 (bs.drop i), h]
  rw [List.drop_drop] at e
  have hl := congrArg List.length e
  rw [List.length_drop, List.length_append, List.length_drop] at hl
  have hl2 : bs.length - i = 2 + (bs.length - (i + 2)) := hl
  refine ⟨?_, by omega⟩
  conv => lhs; rw [← List.take_append_drop i bs, e]
  rfl
theorem plc_shp {bs : List Bool} {k : Nat} (h : k ∈ plc bs) : shp bs k = true ∧ k < bs.length := ⟨(List.mem_filter.mp h).2, List.mem_range.mp (List.mem_filter.mp h).1⟩
theorem plc_few (bs : List Bool) : (plc bs).length ≤ bs.length := by
  refine Nat.le_trans (List.length_filter_le _ _) ?_
  rw [List.length_range]
  exact Nat.le_refl _
theorem shA_len {bs : List Bool} {k : Nat} (h : k + 2 ≤ bs.length) : (shA bs k).length + 1 = bs.length := by
  unfold shA
  rw [List.length_append, List.length_take, List.length_drop]
  omega
theorem shB_len {bs : List Bool} {k : Nat} (h : k + 2 ≤ bs.length) : (shB bs k).length + 1 = bs.length := by
  unfold shB
  rw [List.length_append, List.length_take, List.length_drop]
  omega
theorem shA_eq {bs : List Bool} {k : Nat} (h : k ∈ plc bs) : shA bs k = bs.take k ++ [true] ++ bs.drop (k + 2) := by
  obtain ⟨e, hl⟩ := shp_split (plc_shp h).1
  unfold shA
  have e2 : bs.take (k + 1) = bs.take k ++ [true] := by
    rw [List.take_add_one]
    congr 1
    rw [e, List.getElem?_append_right (by rw [List.length_take]; omega), List.length_take, show k - min k bs.length = 0 by omega]
    rfl
  rw [e2]
theorem shB_eq {bs : List Bool} {k : Nat} (h : k ∈ plc bs) : shB bs k = bs.take k ++ [false] ++ bs.drop (k + 2) := by
  obtain ⟨e, hl⟩ := shp_split (plc_shp h).1
  unfold shB
  rw [List.append_assoc]
  congr 1
  have e3 : bs.drop (k + 1) = false :: bs.drop (k + 2) := by
    have h1 : k + 1 < bs.length := by omega
    rw [List.drop_eq_getElem_cons h1]
    congr 1
    have h2 : bs[k + 1]? = some false := by
      rw [e, List.getElem?_append_right (by rw [List.length_take]; omega), List.length_take, show k + 1 - min k bs.length = 1 by omega]
      rfl
    rw [List.getElem?_eq_getElem h1] at h2
    exact Option.some.inj h2
  rw [e3]
  rfl
/-! ### words and other things -/
def isRowB (z : Str) : Bool := decide (1 ≤ z.length) && (decide (z.length ≤ 30) && z.cps.toList.all okc)
def isWordB (z : Str) : Bool := decide (z.length ≤ 30) && z.cps.toList.all okc
/-- whether x is a row -/
def RowB (K : PySem.W.Frag) (H : Hp) (x : V) (b : Bool) : Prop := (NoTxt K H x ∧ b = false) ∨ ∃ z : Str, x = .str z ∧ z.length ≤ 10000 ∧ b = isRowB z
/-- whether x is a word -/
def WordB (K : PySem.W.Frag) (H : Hp) (x : V) (b : Bool) : Prop := (NoTxt K H x ∧ b = false) ∨ ∃ z : Str, x = .str z ∧ z.length ≤ 10000 ∧ b = isWordB z
theorem wordB_same {K : PySem.W.Frag} {H H' : Hp} {x : V} {b : Bool} (s : Same H H') (h : WordB K H x b) : WordB K H' x b := h.imp (fun ⟨q, e⟩ => ⟨notxt_same s q, e⟩) id
theorem rowB_same {K : PySem.W.Frag} {H H' : Hp} {x : V} {b : Bool} (s : Same H H') (h : RowB K H x b) : RowB K H' x b := h.imp (fun ⟨q, e⟩ => ⟨notxt_same s q, e⟩) id
theorem okc_tx (bs : List Bool) : (tx bs).cps.toList.all okc = true := by
  rw [tx_list, List.all_map, List.all_eq_true]
  exact fun b _ => okc_cd b
theorem isWord_tx {bs : List Bool} (h : bs.length ≤ 30) : isWordB (tx bs) = true := by
  unfold isWordB
  rw [okc_tx, tx_len, decide_eq_true h]
  rfl
theorem isRow_tx {bs : List Bool} (h1 : 1 ≤ bs.length) (h : bs.length ≤ 30) : isRowB (tx bs) = true := by
  unfold isRowB
  rw [okc_tx, tx_len, decide_eq_true h, decide_eq_true h1]
  rfl
theorem len0 {z : Str} (h : z.length = 0) : z = "" := by
  apply ext_str
  have : z.cps = #[] := Array.eq_empty_of_size_eq_zero h
  rw [this]
  rfl
/-- as the program tells it: a row, or the text without signs -/
theorem isWord_or (z : Str) : isWordB z = (isRowB z || decide (z = "")) := by
  unfold isWordB isRowB
  by_cases h : z.length = 0
  · rw [len0 h]
    decide +kernel
  · have ne : ¬ z = "" := fun e => h (by rw [e]; decide +kernel)
    rw [decide_eq_false ne, decide_eq_true (show 1 ≤ z.length by omega)]
    simp
/-- a spot at which the word of bs can't be shortened -/
def BadSpot (K : PySem.W.Frag) (H : Hp) (y : V) (ks : List Nat) : Prop := Odd K H y ∨ ∃ i : Int, y = .int i ∧ ∀ k ∈ ks, i ≠ (k : Int)
theorem badspot_same {K : PySem.W.Frag} {H H' : Hp} {y : V} {ks : List Nat} (s : Same H H') (h : BadSpot K H y ks) : BadSpot K H' y ks := h.imp (odd_same s) id
theorem inV_in {ks : List Nat} {k : Nat} (h : k ∈ ks) : inV (wv k) (ks.map wv) = true := by
  unfold inV
  rw [List.any_eq_true]
  exact ⟨wv k, List.mem_map_of_mem h, by unfold wv eqV; simp⟩
theorem inV_no {ks : List Nat} {i : Int} (h : ∀ k ∈ ks, i ≠ (k : Int)) : inV (.int i) (ks.map wv) = false := by
  unfold inV
  rw [List.any_eq_false]
  intro x hx
  obtain ⟨k, hk, rfl⟩ := List.mem_map.mp hx
  unfold wv eqV
  simp
  have := h k hk
  omega
theorem flat_ks (ks : List Nat) : (ks.map wv).all flatV = true := by
  rw [List.all_eq_true]
  intro x hx
  obtain ⟨k, _, rfl⟩ := List.mem_map.mp hx
  rfl
theorem fit {m : Nat} (h : m ≤ 10000) : m ≤ sizeLine := Nat.le_trans h (by decide)
theorem fit' {m : Nat} (h : m ≤ 10000) : m < sizeLine := Nat.lt_of_le_of_lt h (by decide)
theorem tx_fit {bs : List Bool} (h : bs.length ≤ 10000) : (tx bs).length ≤ sizeLine := by
  rw [tx_len]
  exact fit h
theorem tx_nil : ("" : Str) = tx [] := by decide +kernel
theorem dec_str {a b : Str} {p : Prop} [Decidable p] (h : a = b ↔ p) : decide (V.str a = V.str b) = decide p := by
  by_cases q : p
  · rw [decide_eq_true q, decide_eq_true (by rw [h.mpr q])]
  · rw [decide_eq_false q, decide_eq_false fun z => q (h.mp (V.str.inj z))]
end HopR

set_option Elab.async false
set_option linter.all false
set_option maxRecDepth 100000
namespace HopR
open PySem L2
/-! ### the draws -/
def dval (left : Int) (k : Nat) (z : Int) : Int :=
  if (1000000000000000000 : Int) ≤ left then left % z
  else
    let small := left % 1000000000000000000
    let one := (small + 7 * (k : Int) + 1) * (48271 + 2 * (k : Int) * (k : Int)) % 2147483647
    let two := (small / 3 + 11 * (k : Int) + 5) * (39373 + 6 * (k : Int)) % 2147483629
    (one * two + one / 64) % z
def dleft (left : Int) (z : Int) : Int := if (1000000000000000000 : Int) ≤ left then left / z else left
def draws : Int → Nat → List Int → List Int
  | _, _, [] => []
  | left, k, z :: r => dval left k z :: draws (dleft left z) (k + 1) r
theorem draws_len : ∀ (zs : List Int) (c : Int) (k : Nat), (draws c k zs).length = zs.length
  | [], _, _ => rfl
  | z :: r, c, k => by
    show (draws (dleft c z) (k + 1) r).length + 1 = r.length + 1
    rw [draws_len r]
theorem dval_ok {c : Int} {k : Nat} {z : Int} (h : 0 < z) : 0 ≤ dval c k z ∧ dval c k z < z := by
  unfold dval
  split
  · exact ⟨Int.emod_nonneg _ (by omega), Int.emod_lt_of_pos _ h⟩
  · exact ⟨Int.emod_nonneg _ (by omega), Int.emod_lt_of_pos _ h⟩
theorem draws_ok : ∀ (zs : List Int) (c : Int) (k : Nat), (∀ z ∈ zs, 0 < z) → ∀ (i : Nat) (d z : Int), (draws c k zs)[i]? = some d → zs[i]? = some z → 0 ≤ d ∧ d < z
  | [], _, _, _, i, d, z, _, h => by simp at h
  | y :: r, c, k, hp, 0, d, z, h1, h2 => by
    have e1 : dval c k y = d := Option.some.inj h1
    have e2 : y = z := Option.some.inj h2
    subst e1 e2
    exact dval_ok (hp y (List.mem_cons_self ..))
  | y :: r, c, k, hp, i + 1, d, z, h1, h2 => draws_ok r _ _ (fun q hq => hp q (List.mem_cons_of_mem _ hq)) i d z h1 h2
/-- the size of a draw is one that is reckoned with -/
def SizeOk (z : Int) : Prop := 0 < z ∧ z < 18446744073709551616
def bits (cs : List Int) : List Bool := cs.map fun c => decide (c = 1)
theorem signs_rows : ∀ (ys : List Str), (∀ y ∈ ys, ∃ b, y = tx [b]) → ∃ bs : List Bool, ys = bs.map fun b => tx [b]
  | [], _ => ⟨[], rfl⟩
  | y :: r, h => by
    obtain ⟨b, e⟩ := h y (List.mem_cons_self ..)
    obtain ⟨bs, e2⟩ := signs_rows r fun z hz => h z (List.mem_cons_of_mem _ hz)
    exact ⟨b :: bs, by rw [e, e2]; rfl⟩
theorem dot_o (c : Int) (h0 : 0 ≤ c) (h2 : c < 2) : atI (".o" : Str).cps.toList c = some (cd (decide (c = 1))) := by
  have e : (".o" : Str).cps.toList = [46, 111] := by decide +kernel
  rw [e]
  rcases (show c = 0 ∨ c = 1 by omega) with rfl | rfl
  · decide
  · decide
/-- a row -/
def Row (bs : List Bool) : Prop := 1 ≤ bs.length ∧ bs.length ≤ 30
theorem row_size {bs : List Bool} (h : Row bs) : (tx bs).length ≤ sizeLine := tx_fit (Nat.le_trans h.2 (by decide))
theorem flat_rep {α : Type} (x : α) : ∀ m : Nat, (List.replicate m [x]).flatten = List.replicate m x
  | 0 => rfl
  | m + 1 => by
    rw [List.replicate_succ, List.flatten_cons, flat_rep x m]
    rfl
theorem rep_of (m : Nat) : repS "o." m = tx (List.replicate m [true, false]).flatten := by
  unfold repS tx
  have e : ("o." : Str).cps.toList = [true, false].map cd := by decide +kernel
  rw [e, List.map_flatten, List.map_replicate]
theorem rep_of_len (m : Nat) : (List.replicate m [true, false]).flatten.length = 2 * m := by
  rw [List.length_flatten, List.map_replicate, List.sum_replicate_nat]
  show m * 2 = 2 * m
  omega
def spDrawn (K : PySem.W.Frag) : Sp := fun vs H Q _ => ∃ (c : Int) (a : Addr) (zs : List Int), vs = [.int c, .ref a] ∧ SqL K H a (zs.map V.int) ∧ (∀ z ∈ zs, SizeOk z) ∧ zs.length ≤ 1000 ∧
  ∀ H' p, Same H H' → H p = none → H' p = some (.lst ((draws c 0 zs).map V.int)) → Q (.ref p) H'
def spCellH (K : PySem.W.Frag) : Sp := fun vs H Q _ => ∃ (a : Addr) (ns : List Int) (k : Nat), vs = [.ref a, .int (k : Int)] ∧ SqL K H a (ns.map V.int) ∧ ∀ c : Int, Q (.int c) H
def spLRow : Sp := fun vs H Q _ => ∃ (c : Int) (M : Nat), vs = [.int c, .int (M : Int)] ∧ 1 ≤ M ∧ M ≤ 30 ∧ ∀ H' bs, Same H H' → 1 ≤ bs.length → bs.length ≤ M → Q (.str (tx bs)) H'
end HopR

set_option Elab.async false
set_option linter.all false
set_option maxRecDepth 100000
namespace HopR
open PySem L2
/-- a list of draws by its places -/
theorem draws2 {c z0 z1 : Int} (h0 : 0 < z0) (h1 : 0 < z1) : ∃ d0 d1 : Int, draws c 0 [z0, z1] = [d0, d1] ∧ (0 ≤ d0 ∧ d0 < z0) ∧ (0 ≤ d1 ∧ d1 < z1) := by
  have hl := draws_len [z0, z1] c 0
  match hd : draws c 0 [z0, z1], hl with
  | [d0, d1], _ =>
    have hp : ∀ z ∈ [z0, z1], 0 < z := by
      intro z hz
      simp only [List.mem_cons, List.not_mem_nil, or_false] at hz
      rcases hz with rfl | rfl
      · exact h0
      · exact h1
    exact ⟨d0, d1, rfl, draws_ok _ c 0 hp 0 d0 z0 (by rw [hd]; rfl) rfl, draws_ok _ c 0 hp 1 d1 z1 (by rw [hd]; rfl) rfl⟩
end HopR

set_option Elab.async false
set_option linter.all false
set_option maxRecDepth 100000
namespace HopR
open PySem PySem.Spec PyProof.Rows L2
open Builtin Builtin.Str Builtin.Int
/-! ### f"{n:b}" for n to 100 -/
/-- the figures of n by twos -/
def binText (n : Nat) : Str := ⟨((Nat.toDigits 2 n).map Char.toNat).toArray⟩
set_option maxHeartbeats 8000000 in
theorem gives_b : ∀ (n : Nat) (t u : Tok), n < 101 → Gives («int.__format__» ⟨[.int (n : Int) t, .str "b" u], []⟩) (.str (binText n))
  | 0, _, _, _ => .of_eq rfl
  | 1, _, _, _ => .of_eq rfl
  | 2, _, _, _ => .of_eq rfl
  | 3, _, _, _ => .of_eq rfl
  | 4, _, _, _ => .of_eq rfl
  | 5, _, _, _ => .of_eq rfl
  | 6, _, _, _ => .of_eq rfl
  | 7, _, _, _ => .of_eq rfl
  | 8, _, _, _ => .of_eq rfl
  | 9, _, _, _ => .of_eq rfl
  | 10, _, _, _ => .of_eq rfl
  | 11, _, _, _ => .of_eq rfl
  | 12, _, _, _ => .of_eq rfl
  | 13, _, _, _ => .of_eq rfl
  | 14, _, _, _ => .of_eq rfl
  | 15, _, _, _ => .of_eq rfl
  | 16, _, _, _ => .of_eq rfl
  | 17, _, _, _ => .of_eq rfl
  | 18, _, _, _ => .of_eq rfl
  | 19, _, _, _ => .of_eq rfl
  | 20, _, _, _ => .of_eq rfl
  | 21, _, _, _ => .of_eq rfl
  | 22, _, _, _ => .of_eq rfl
  | 23, _, _, _ => .of_eq rfl
  | 24, _, _, _ => .of_eq rfl
  | 25, _, _, _ => .of_eq rfl
  | 26, _, _, _ => .of_eq rfl
  | 27, _, _, _ => .of_eq rfl
  | 28, _, _, _ => .of_eq rfl
  | 29, _, _, _ => .of_eq rfl
  | 30, _, _, _ => .of_eq rfl
  | 31, _, _, _ => .of_eq rfl
  | 32, _, _, _ => .of_eq rfl
  | 33, _, _, _ => .of_eq rfl
  | 34, _, _, _ => .of_eq rfl
  | 35, _, _, _ => .of_eq rfl
  | 36, _, _, _ => .of_eq rfl
  | 37, _, _, _ => .of_eq rfl
  | 38, _, _, _ => .of_eq rfl
  | 39, _, _, _ => .of_eq rfl
  | 40, _, _, _ => .of_eq rfl
  | 41, _, _, _ => .of_eq rfl
  | 42, _, _, _ => .of_eq rfl
  | 43, _, _, _ => .of_eq rfl
  | 44, _, _, _ => .of_eq rfl
  | 45, _, _, _ => .of_eq rfl
  | 46, _, _, _ => .of_eq rfl
  | 47, _, _, _ => .of_eq rfl
  | 48, _, _, _ => .of_eq rfl
  | 49, _, _, _ => .of_eq rfl
  | 50, _, _, _ => .of_eq rfl
  | 51, _, _, _ => .of_eq rfl
  | 52, _, _, _ => .of_eq rfl
  | 53, _, _, _ => .of_eq rfl
  | 54, _, _, _ => .of_eq rfl
  | 55, _, _, _ => .of_eq rfl
  | 56, _, _, _ => .of_eq rfl
  | 57, _, _, _ => .of_eq rfl
  | 58, _, _, _ => .of_eq rfl
  | 59, _, _, _ => .of_eq rfl
  | 60, _, _, _ => .of_eq rfl
  | 61, _, _, _ => .of_eq rfl
  | 62, _, _, _ => .of_eq rfl
  | 63, _, _, _ => .of_eq rfl
  | 64, _, _, _ => .of_eq rfl
  | 65, _, _, _ => .of_eq rfl
  | 66, _, _, _ => .of_eq rfl
  | 67, _, _, _ => .of_eq rfl
  | 68, _, _, _ => .of_eq rfl
  | 69, _, _, _ => .of_eq rfl
  | 70, _, _, _ => .of_eq rfl
  | 71, _, _, _ => .of_eq rfl
  | 72, _, _, _ => .of_eq rfl
  | 73, _, _, _ => .of_eq rfl
  | 74, _, _, _ => .of_eq rfl
  | 75, _, _, _ => .of_eq rfl
  | 76, _, _, _ => .of_eq rfl
  | 77, _, _, _ => .of_eq rfl
  | 78, _, _, _ => .of_eq rfl
  | 79, _, _, _ => .of_eq rfl
  | 80, _, _, _ => .of_eq rfl
  | 81, _, _, _ => .of_eq rfl
  | 82, _, _, _ => .of_eq rfl
  | 83, _, _, _ => .of_eq rfl
  | 84, _, _, _ => .of_eq rfl
  | 85, _, _, _ => .of_eq rfl
  | 86, _, _, _ => .of_eq rfl
  | 87, _, _, _ => .of_eq rfl
  | 88, _, _, _ => .of_eq rfl
  | 89, _, _, _ => .of_eq rfl
  | 90, _, _, _ => .of_eq rfl
  | 91, _, _, _ => .of_eq rfl
  | 92, _, _, _ => .of_eq rfl
  | 93, _, _, _ => .of_eq rfl
  | 94, _, _, _ => .of_eq rfl
  | 95, _, _, _ => .of_eq rfl
  | 96, _, _, _ => .of_eq rfl
  | 97, _, _, _ => .of_eq rfl
  | 98, _, _, _ => .of_eq rfl
  | 99, _, _, _ => .of_eq rfl
  | 100, _, _, _ => .of_eq rfl
  | n + 101, _, _, h => False.elim (Nat.not_lt_of_le (Nat.le_add_left 101 n) h)
end HopR

set_option Elab.async false
set_option linter.all false
set_option maxRecDepth 100000
namespace HopR
open PySem PySem.Spec PyProof.Rows L2
def tFmtB (te : TE) : TE := fun σ H Q => te σ H fun x H1 => ∃ n : Nat, x = .int (n : Int) ∧ n < 101 ∧ Q (.str (binText n)) H1
theorem bin_small : ∀ n < 101, (binText n).length ≤ sizeLine := by decide +kernel
theorem len_b : (("b" : Str).length == 0) = false := by decide +kernel
theorem fit_b : ("b" : Str).length ≤ sizeLine := by decide +kernel
theorem field_b {prog : Program} {w : World} {A : Around} {E : Value → Shared → Prop} {s : Shared} {n : Nat} {t : Tok} {Q : Value → Shared → Prop} (hn : n < 101) (h : Q (.str (binText n) (s.toks + 1)) { s with toks := s.toks + 1 + 1 }) : wpAny (model prog w) A (formatField (.int (n : Int) t) "b") Q E s :=
  wpAny_formatField_spec (T := "int") (idf := "int.__format__") (B := PySem.Builtin.«int.__format__») (v := .int (n : Int) t) (sp := "b") (x := binText n) len_b (fun s' => typeIs_int s' (n : Int) t) PySem.F.slot_int_format PySem.F.entry_int_format PySem.F.args_int_format_2 (fun u => @gives_b n t u hn) h fit_b (bin_small n hn)
theorem pe_fmtB {X : Cx} {e : Expr} {te : TE} {pos p1 p2 : Pos} {k : Nat} (he : PE X e te) : PE X (.FormattedValue e (-1) (some (.JoinedStr [.Constant (.str "b") k p1] p2)) pos) (tFmtB te) := by
  constructor
  intro pins s σ H Q I h
  refine wpAny_FormattedValue_spec (thn (he.run pins s σ H _ I h) ?_)
  rintro v s1 ⟨x, H1, I1, rx, n, rfl, hn, q⟩
  obtain ⟨t, rfl⟩ := rx
  have js : PE X (.JoinedStr [.Constant (.str "b") k p1] p2) (tC (.str "b")) := pe_joined1 pe_str
  refine thn (js.run pins s1 σ H1 (fun y H2 => y = .str "b" ∧ H2 = H1) I1 ⟨rfl, rfl⟩) ?_
  rintro r s2 ⟨y, H2, I2, ry, rfl, rfl⟩
  obtain ⟨t2, rfl⟩ := ry
  exact ⟨_, t2, rfl, field_b hn ⟨.str (binText n), H2, I2.tok _, ⟨_, rfl⟩, q⟩⟩
end HopR

set_option Elab.async false
set_option linter.all false
set_option maxRecDepth 100000
namespace HopR
open PySem PySem.Spec PyProof.Rows L2
section
variable {X : Cx}
/-! ### x *= y, wide -/
def ipMulW : TIp := fun x y H Q => ∃ i j, x = .int i ∧ y = .int j ∧ CMulW i j ∧ Q (.int (i * j)) H
theorem ip_mulW : PIp X .Mult ipMulW := by
  intro pins s σ H x y v u Q I r1 r2 h
  obtain ⟨i, j, e1, e2, c, q⟩ := h
  subst e1; subst e2
  obtain ⟨t, rfl⟩ := r1
  obtain ⟨t', rfl⟩ := r2
  exact imul_int ⟨.int _, H, I.tok _, ⟨_, rfl⟩, q⟩ c.ok
/-! ### a body in a try whose exceptions are wished for by their class and heap alone -/
def tSome (W : WX) (tb : XK → TS) : TS := fun D σ H => ∃ E1 : XK, (∀ cls d σ' H', E1 cls d H' → W cls d σ' H') ∧ tb E1 D σ H
theorem pss_some {W : WX} {body : List Stmt} {tb : XK → TS} (h : ∀ E1 : XK, (∀ cls d σ' H', E1 cls d H' → W cls d σ' H') → PSs X body (tb E1)) : PSs X body (tSome W tb) :=
  ⟨fun pins s σ H D I ⟨E1, hW, q⟩ => (h E1 hW).run pins s σ H D I q⟩
end
/-! ### the figures of n by twos, from the left -/
def step2 (m c : Nat) : Nat := 2 * m + (if c = 49 then 1 else 0)
theorem bin_fold : ∀ n < 101, (binText n).cps.toList.foldl step2 0 = n := by decide +kernel
theorem step2_le : ∀ (cs : List Nat) (m : Nat), m ≤ cs.foldl step2 m
  | [], m => Nat.le_refl m
  | c :: r, m => by
    rw [List.foldl_cons]
    refine Nat.le_trans ?_ (step2_le r _)
    unfold step2
    omega
theorem bin_le {n i c : Nat} (hn : n < 101) (h : (binText n).cps[i]? = some c) : step2 (((binText n).cps.toList.take i).foldl step2 0) c = ((binText n).cps.toList.take (i + 1)).foldl step2 0 ∧ step2 (((binText n).cps.toList.take i).foldl step2 0) c ≤ n := by
  have e : ((binText n).cps.toList.take (i + 1)).foldl step2 0 = step2 (((binText n).cps.toList.take i).foldl step2 0) c := by
    have h2 : (binText n).cps.toList[i]? = some c := by
      rw [Array.getElem?_toList]
      exact h
    rw [List.take_add_one, h2, List.foldl_append]
    rfl
  refine ⟨e.symm, ?_⟩
  rw [← e]
  have := step2_le ((binText n).cps.toList.drop (i + 1)) (((binText n).cps.toList.take (i + 1)).foldl step2 0)
  rw [← List.foldl_append, List.take_append_drop, bin_fold n hn] at this
  exact this
theorem pow_lt {x : Int} {e m n : Nat} (h : x.natAbs < 2 ^ e) (hm : m ≤ n) : (x ^ m).natAbs < 2 ^ (e * n + 1) := by
  rw [Int.natAbs_pow]
  have h1 : x.natAbs ^ m ≤ (2 ^ e) ^ m := Nat.pow_le_pow_left (Nat.le_of_lt h) m
  rw [← Nat.pow_mul] at h1
  have h2 : 2 ^ (e * m) ≤ 2 ^ (e * n) := Nat.pow_le_pow_right (by decide) (Nat.mul_le_mul_left e hm)
  have h3 : 2 ^ (e * n) < 2 ^ (e * n + 1) := Nat.pow_lt_pow_right (by decide) (by omega)
  omega
end HopR

set_option Elab.async false
set_option linter.all false
set_option maxRecDepth 100000
namespace HopR
open PySem PySem.Spec PyProof.Rows L2
/-! ### len, str and repr of objects of an own class; an attribute as a target -/
section
variable {X : Cx} {CX : CXT} {n : Nat} {C f : Addr} {fd : FuncData} {ps : List Str} {sp : Sp} {E : XK}
/-- a def called by a built-in that runs in the same frames -/
theorem call_at {A : Around} {pins : List (Addr × Obj)} {σ : L2.St} {H : Hp} {s : Shared} {Q : VK} {us : List Value} {vs : List V} (F : FnOk X.prog X.w X.K X.mg X.base CX n f fd ps sp) (room : Room n A) (frames : A.frames = X.A.frames) (bind : Binds X.K fd ps []) (lets : Passes CX X E)
    (I : Inv X pins σ H s) (vals : Vals vs us) (prom : sp vs H Q E) : wpAny (model X.prog X.w) A (call (.ref f) us) (EP X pins σ Q) X.xe s := by
  have I0 := I.env0
  have here : Env0 X.prog X.w X.K X.mg X.base A X.stack s H := { frames := frames.trans I0.frames, mod := I0.mod, bs := I0.bs, bsz := I0.bsz, funs := I0.funs, frf := I0.frf, hok := I0.hok, bare := I0.bare }
  have size := vals.length.symm.trans (F.len _ _ _ _ prom)
  have bound := bind s us I.kIn (by rw [List.append_nil]; exact size)
  rw [List.append_nil] at bound
  refine wpAny_call (codeAny_mono (F.run A X.stack s H ⟨us, []⟩ us vs Q E room here bound vals prom) fun r s' h => ?_)
  have said := after_call lets I h
  cases r with
  | error e => exact said
  | ok fl => cases fl <;> exact said
/-- one object of the class, and what its method promises of it -/
def rOwn1 (C : Addr) (sp : Sp) (E : XK) (R : V → Hp → VK → Prop) : List V → Hp → VK → Prop := fun xs H Q => ∃ a dx fs, xs = [.ref a] ∧ H a = some (.ins C dx fs) ∧ sp [.ref a] H (fun v H' => R v H' Q) E
def isLen : V → Hp → VK → Prop := fun v H Q => ∃ i : Int, v = .int i ∧ (0 ≤ i ∧ i < 2 ^ 63) ∧ Q (.int i) H
def isTxt : V → Hp → VK → Prop := fun v H Q => ∃ z : Str, v = .str z ∧ Q (.str z) H
/-- len(o) -/
theorem cr_lenOwn (len : PySem.W.findIn X.K (.ref C) "__len__" = some (some (.ref f))) (fn : PySem.W.isFn X.K (.ref f) = true) (F : FnOk X.prog X.w X.K X.mg X.base CX n f fd ps sp) (room : Room (n + 1) X.A) (bind : Binds X.K fd ps []) (lets : Passes CX X E) :
    CallR X (.builtin "len") (rOwn1 C sp E isLen) := by
  rintro pins s σ H _ us Q I r ⟨a, dx, fs, rfl, ha, prom⟩
  obtain ⟨u, rfl, rv⟩ := vals1 r
  cases rv
  obtain ⟨_, J, _⟩ := ins_get I.hok ha
  obtain ⟨od, J, _⟩ := J.look
  obtain ⟨m, F0⟩ := I.fr
  refine PySem.W.len_K F0 I.ok.mod.kin J len fn (thn (call_at F room.in1 rfl bind lets I (us := [.ref a]) (vs := [.ref a]) (.cons rfl .nil) prom) ?_)
  rintro w s' ⟨z, H', I', rz, i, rfl, hi, q⟩
  obtain ⟨t, rfl⟩ := rz
  exact ⟨hi, .int i, H', I'.tok _, ⟨_, rfl⟩, q⟩
/-- str(o) -/
theorem cr_strOwn (str : PySem.W.findIn X.K (.ref C) "__str__" = some (some (.ref f))) (fn : PySem.W.isFn X.K (.ref f) = true) (F : FnOk X.prog X.w X.K X.mg X.base CX n f fd ps sp) (room : Room (n + 2) X.A) (bind : Binds X.K fd ps []) (lets : Passes CX X E) :
    CallR X (.type "str") (rOwn1 C sp E isTxt) := by
  rintro pins s σ H _ us Q I r ⟨a, dx, fs, rfl, ha, prom⟩
  obtain ⟨u, rfl, rv⟩ := vals1 r
  cases rv
  obtain ⟨_, J, _⟩ := ins_get I.hok ha
  obtain ⟨od, J, _⟩ := J.look
  have un := room.un
  refine PySem.W.kso_call (by show X.A.units + 1 + 1 < cLine; omega) I.kIn J str fn (thn (call_at F room.in1.in1 rfl bind lets I (us := [.ref a]) (vs := [.ref a]) (.cons rfl .nil) prom) ?_)
  rintro w s' ⟨z, H', I', rz, y, rfl, q⟩
  obtain ⟨t, rfl⟩ := rz
  exact ⟨.str y, H', I', ⟨_, rfl⟩, q⟩
/-- repr(o) -/
theorem cr_reprOwn (rep : PySem.W.findIn X.K (.ref C) "__repr__" = some (some (.ref f))) (fn : PySem.W.isFn X.K (.ref f) = true) (F : FnOk X.prog X.w X.K X.mg X.base CX n f fd ps sp) (room : Room (n + 1) X.A) (bind : Binds X.K fd ps []) (lets : Passes CX X E) :
    CallR X (.builtin "repr") (rOwn1 C sp E isTxt) := by
  rintro pins s σ H _ us Q I r ⟨a, dx, fs, rfl, ha, prom⟩
  obtain ⟨u, rfl, rv⟩ := vals1 r
  cases rv
  obtain ⟨_, J, _⟩ := ins_get I.hok ha
  obtain ⟨od, J, _⟩ := J.look
  obtain ⟨m, F0⟩ := I.fr
  have un := room.un
  refine PySem.W.repr_K (by show X.A.units + 1 < cLine; omega) F0 I.ok.mod.kin J rep fn (thn (call_at F room.in1 rfl bind lets I (us := [.ref a]) (vs := [.ref a]) (.cons rfl .nil) prom) ?_)
  rintro w s' ⟨z, H', I', rz, y, rfl, q⟩
  obtain ⟨t, rfl⟩ := rz
  exact ⟨.str y, H', I', ⟨_, rfl⟩, q⟩
end
section
variable {X : Cx}
/-- o.f as a target: the field is put -/
def gFld (K : PySem.W.Frag) (to : TE) (f : Str) : TG := fun v σ H Q => to σ H fun o H1 => ∃ a C dx fs, o = .ref a ∧ H1 a = some (.ins C dx fs) ∧ Cls K C ∧ NoAttr K C f ∧ fs.length < 1000 ∧ Q σ (upd H1 a (.ins C dx (putF f v fs)))
theorem pg_fld {o : Expr} {to : TE} {f : Str} {pos : Pos} (ho : PE X o to) : PG X (.Attribute o f pos) (gFld X.K to f) := by
  constructor
  intro pins s σ H v u Q I r h
  rw [assign_Attribute]
  refine wpAny_bind (wpAny_holding (thn (ho.run pins s σ H _ I h) ?_))
  rintro ov s1 ⟨x, H1, I1, rx, a, C, dx, fs, rfl, ea, c, na, few, q⟩
  cases rx
  refine wpAny_bind (wpAny_standAt (wpAny_bind (wpAny_holding (setattr_ok I1 ea c na few r fun s2 I2 => ?_))))
  exact wpAny_release ⟨σ, _, I2, q⟩
end
end HopR

set_option Elab.async false
set_option linter.all false
set_option maxRecDepth 100000
namespace HopR
open PySem PySem.Spec PyProof.Rows L2
/-! ### repr of a list that holds own objects beside data -/
section
variable {X : Cx}
/-- what repr tells of an item of the list at L, n defs deep, now and later -/
def Itm (X : Cx) (n : Nat) (L : Addr) (H : Hp) (x : V) (t : Str) : Prop :=
  ∀ (pins : List (Addr × Obj)) (σ : L2.St) (H1 : Hp) (s : Shared) (u : Value) (base : Nat) (A : Around) (g : List Code) (Q : Str → Shared → Prop), Same H H1 → Inv X pins σ H1 s → RelV x u → base + t.length ≤ sizeLine →
    Room n A → A.frames = X.A.frames → A.guards = some g → (∀ b, b ≠ L → Clear g b) → (∀ s' H2, Inv X pins σ H2 s' → Same H1 H2 → Q t s') → wpAny (model X.prog X.w) A (pyReprUnder base u) Q X.xe s
theorem vals_has {p : Addr} : ∀ {xs : List V} {us : List Value}, Vals xs us → V.ref p ∈ xs → Value.ref p ∈ us
  | _, _, .cons (a := x) (b := y) r t, h => by
    rcases List.mem_cons.mp h with e | h
    · rw [← e] at r
      cases (show y = Value.ref p from r)
      exact List.mem_cons_self ..
    · exact List.mem_cons_of_mem _ (vals_has t h)
theorem all_read {h : Heap} {v : Value} : ∀ {us : List Value} {ds : List PyData} {as : List Addr}, ReadsAll h us ds as → v ∈ us → ∃ d as', Reads h v d as'
  | _, _, _, .cons r t, hm => by
    rcases List.mem_cons.mp hm with e | hm
    · rw [e]
      exact ⟨_, _, r⟩
    · exact all_read t hm
/-- an own object is no datum -/
theorem no_datum {pins : List (Addr × Obj)} {σ : L2.St} {H : Hp} {s : Shared} {p C dx : Addr} {fs : List (Str × V)} (I : Inv X pins σ H s) (hp : H p = some (.ins C dx fs)) {d : PyData} {as : List Addr} : ¬ Reads s.heap (.ref p) d as := by
  obtain ⟨_, J, _⟩ := ins_get I.hok hp
  obtain ⟨od, J, _⟩ := J.look
  have h1 := J.at_
  have h2 := J.cls
  intro r
  cases r with
  | list a b _ _ =>
    rw [h1] at a
    cases a
    rw [h2] at b
    cases b
  | tuple a b _ _ =>
    rw [h1] at a
    cases a
    rw [h2] at b
    cases b
  | dict a b _ _ _ =>
    rw [h1] at a
    cases a
    rw [h2] at b
    cases b
/-- nor is a list that holds one -/
theorem no_datumL {pins : List (Addr × Obj)} {σ : L2.St} {H : Hp} {s : Shared} {L p C dx : Addr} {xs : List V} {fs : List (Str × V)} (I : Inv X pins σ H s) (hL : H L = some (.lst xs)) (hm : V.ref p ∈ xs) (hp : H p = some (.ins C dx fs)) {d : PyData} {as : List Addr} : ¬ Reads s.heap (.ref L) d as := by
  obtain ⟨its, rv, ⟨o, k, ho, hc, hs, hd⟩, _⟩ := I.list (SqL.of hL)
  have hi := vals_has rv hm
  intro r
  cases r with
  | list a _ c e =>
    rw [ho] at a
    cases a
    rw [hd] at c
    cases c
    obtain ⟨d', as', r'⟩ := all_read e (by simpa using hi)
    exact no_datum I hp r'
  | tuple a b _ _ =>
    rw [ho] at a
    cases a
    rw [hc] at b
    exact absurd (Value.type.inj b) (by decide)
  | dict a b _ _ _ =>
    rw [ho] at a
    cases a
    rw [hc] at b
    exact absurd (Value.type.inj b) (by decide)
theorem itm_data {n : Nat} {L : Addr} {H : Hp} {x : V} {d : PyData} (hd : ∀ H1, Same H H1 → Dp X.K H1 x d) (hs : d.showable = true) (hn : d.hasDict = false) (hdep : d.depth ≤ 64) (hz : d.shown.length ≤ sizeLine)
    (hL : ∀ pins σ H1 s, Same H H1 → Inv X pins σ H1 s → ∀ e as, ¬ Reads s.heap (.ref L) e as) : Itm X n L H x d.shown := by
  intro pins σ H1 s u base A g Q sm I ru hb room fr hg hcl hQ
  obtain ⟨as, rd⟩ := Dp.reads I d x u (hd H1 sm) ru
  obtain ⟨bs, few, tells⟩ := ReprK.of_reads (prog := X.prog) (w := X.w) rd hs (fun e => absurd (hn.symm.trans e) (by decide)) hz
  refine tells base hb A g X.xe s Q hg (fun b hb' => hcl b fun e => ?_) (by have := room.un; omega) (fun _ _ e => e) (fun h' tk hk => hQ _ H1 (I.kept hk) (Same.refl _))
  obtain ⟨d', as', r', _⟩ := few b hb'
  rw [e] at r'
  exact hL _ _ _ _ sm I _ _ r'
/-- a special method found in an own class, called by `last` -/
theorem special_own {M : Model} {A : Around} {E : Value → Shared → Prop} {s : Shared} {K : PySem.W.Frag} {x C f : Addr} {ox : Obj} {od : Option Obj} {name : Str} {last : Value → List Value → Sem Value} {Q : Option Value → Shared → Prop} (kin : K.In s.heap) (J : PySem.W.InstAt s.heap x ox C od)
    (has : PySem.W.findIn K (.ref C) name = some (some (.ref f))) (fn : PySem.W.isFn K (.ref f) = true) (run : wpAny M A (last (.ref f) [.ref x]) (fun v => Q (some v)) E s) : wpAny M A (callSpecialIfBoundBy? last (.ref x) name) Q E s := by
  have tell : wpAny M A (do let v ← last (.ref f) [.ref x]; pure (some v)) Q E s := wpAny_bind (wpAny_mono run (fun _ _ h => wpAny_pure h) fun _ _ h => h)
  have bound := PySem.W.bind_fn (M := M) kin (.ref x) (beq_iff_eq.mp fn)
  unfold callSpecialIfBoundBy? bindSpecialIfBound?
  refine wpAny_holding (wpAny_bind (wpAny_bind (wpAny_bind (J.type.here ((PySem.W.looks_findIn kin has).here (wpAny_bind (wpAny_askSetting (wpAny_ite ?_))))))))
  split
  · exact wpAny_bind (bound.here (wpAny_pure tell))
  · exact wpAny_tryCatch (wpAny_bind (bound.here (wpAny_pure tell)))
theorem itm_own {CX : CXT} {k n : Nat} {L a C dx f : Addr} {H : Hp} {fs : List (Str × V)} {fd : FuncData} {ps : List Str} {sp : Sp} {E : XK} {t : Str} (ha : H a = some (.ins C dx fs)) (rep : PySem.W.findIn X.K (.ref C) "__repr__" = some (some (.ref f))) (fn : PySem.W.isFn X.K (.ref f) = true)
    (F : FnOk X.prog X.w X.K X.mg X.base CX k f fd ps sp) (kn : k ≤ n) (bind : Binds X.K fd ps []) (lets : Passes CX X E) (prom : ∀ H1, Same H H1 → sp [.ref a] H1 (fun v H2 => v = .str t ∧ Same H1 H2) E) : Itm X n L H (.ref a) t := by
  intro pins σ H1 s u base A g Q sm I ru hb room fr hg hcl hQ
  cases (show u = Value.ref a from ru)
  obtain ⟨_, J, _⟩ := ins_get I.hok (sm _ _ ha)
  obtain ⟨od, J, _⟩ := J.look
  have un := room.un
  refine wpAny_pyReprUnder_ref (by omega) ?_
  unfold pyReprObjUnder pyReprObjBy
  refine wpAny_bind (wpAny_cRoomFor (by omega) (wpAny_bind (wpAny_bind (J.type.here ((PySem.W.looks_findIn I.kIn rep).here ?_)))))
  show wpAny _ _ (if (some (Value.ref f)).isNone = true then _ else _) _ _ _
  rw [if_neg (by simp)]
  refine wpAny_bind (special_own I.kIn J rep fn (thn (call_at F (room.mono kn) fr bind lets I (us := [.ref a]) (vs := [.ref a]) (.cons rfl .nil) (prom H1 sm)) ?_))
  rintro v s' ⟨z, H', I', rz, rfl, sm'⟩
  obtain ⟨tk, rfl⟩ := rz
  exact wpAny_bind (wpAny_isInstance (T := "str") (b := true) rfl isSubtype_str_str (wpAny_pure ⟨_, _, rfl, hQ s' H' I' sm'⟩))
theorem vals_at : ∀ {xs : List V} {us : List Value}, Vals xs us → ∀ (i : Nat) x u, xs[i]? = some x → us[i]? = some u → RelV x u
  | _, _, .cons r t, 0, x, u, h1, h2 => by
    cases h1
    cases h2
    exact r
  | _, _, .cons r t, i + 1, x, u, h1, h2 => vals_at t i x u h1 h2
theorem texts_of : ∀ {ts : List Str} {us : List Value}, Vals (ts.map V.str) us → ∃ l : List (Str × Tok), us = strValues l ∧ l.map (·.1) = ts
  | [], _, h => by
    cases h
    exact ⟨[], rfl, rfl⟩
  | t :: ts, _, h => by
    cases h with
    | cons r h =>
      obtain ⟨k, rfl⟩ := r
      obtain ⟨l, rfl, e⟩ := texts_of h
      exact ⟨(t, k) :: l, rfl, by rw [List.map_cons, e]⟩
theorem room_loop {k : Nat} {A : Around} (r : Room (k + 1) A) (args : Args) : Room k (A.under (.builtin "list.__repr__.loop" args)) :=
  ⟨r.hd, by
    have := r.dp
    have e : (A.under (.builtin "list.__repr__.loop" args)).depth ≤ A.depth + 1 := by
      first | exact Nat.le_refl _ | (simp [Around.under, Code.weight, Code.isCreation, Code.isGuard, Code.isCaller, Code.frames, Code.isFrame, guardIds])
    omega, by
    have := r.un
    rw [units_under_list_loop]
    omega⟩
theorem frames_loop {A : Around} (args : Args) : (A.under (.builtin "list.__repr__.loop" args)).frames = A.frames := by
  first | rfl | simp [Around.under, Code.envs, Code.isFrame, pushEnvs]
/-- all turns of the list's repr, the texts so far at P -/
theorem turns {A : Around} {n : Nat} {L P : Addr} {H : Hp} {xs : List V} {ts : List Str} {R : Result → Shared → Prop} (hg : A.guards = some []) (room : Room (n + 1) A) (fr : A.frames = X.A.frames) (hP : H P = none) (hL : H L = some (.lst xs)) (len : ts.length = xs.length)
    (tell : ∀ (i : Nat) x t, xs[i]? = some x → ts[i]? = some t → Itm X n L H x t) (fits : (listText ts).length ≤ sizeLine) (bad : ∀ e s', X.xe e s' → R (.error e) s') {pins : List (Addr × Obj)} {σ : L2.St}
    (good : ∀ s' H2 u, Inv X pins σ H2 s' → Same H H2 → R (.ok (.ret (.str (listText ts) u))) s') :
    ∀ (k i : Nat) (H1 : Hp) (s : Shared), xs.length - i = k → i ≤ xs.length → Inv X pins σ H1 s → Same H H1 → H1 P = some (.lst ((ts.take i).map V.str)) →
      codeAny (model X.prog X.w) A (.builtin "list.__repr__.loop" ⟨[.ref L, rawInt i, .ref P, rawInt ((piled (ts.take i) : Nat) : Int)], []⟩) R s := by
  have few := textFrom_len ts 0 "["
  have whole : (listText ts).length = (textFrom 0 "[" ts).length + 1 := by
    show (textFrom 0 "[" ts ++ "]").length = _
    rw [strLen_append]
    rfl
  intro k
  induction k with
  | zero =>
    intro i H1 s hk hi I sm eP
    obtain ⟨its, rv, ⟨o, m, ho, _, _, hd⟩, _⟩ := I.list (SqL.of (sm _ _ hL))
    obtain ⟨its2, rv2, ⟨o2, m2, ho2, _, _, hd2⟩, _⟩ := I.list (SqL.of eP)
    obtain ⟨l, el, e1⟩ := texts_of rv2
    have none_ : its.toArray[i]? = none := by
      have := rv.length
      simp
      omega
    rw [List.take_of_length_le (by omega)] at e1
    refine codeAny_builtin F.entry_list_repr_loop ?_
    show wpAny _ _ (Builtin.«list.__repr__.loop» ⟨[.ref L, .int i 0, .ref P, .int ((piled (ts.take i) : Nat) : Int) 0], []⟩) _ _ s
    rw [repr_loop_tree]
    refine wpAny_bind (wpAny_listItems ho hd ?_)
    rw [Int.toNat_natCast]
    simp only [none_]
    unfold reprEnd
    refine wpAny_bind (wpAny_listItems ho2 hd2 ?_)
    rw [show its2.toArray.toList = strValues l from el, repr_fold, e1]
    exact wpAny_bind (wpAny_pure (wpAny_bind (wpAny_mkStr (wpAny_pure (good _ H1 _ (I.tok _) sm)) fits)))
  | succ k ih =>
    intro i H1 s hk hi I sm eP
    have hlt : i < xs.length := by omega
    obtain ⟨its, rv, ⟨o, m, ho, _, _, hd⟩, _⟩ := I.list (SqL.of (sm _ _ hL))
    have hli := rv.length
    obtain ⟨t, ht⟩ : ∃ t, ts[i]? = some t := ⟨ts[i]'(by omega), List.getElem?_eq_getElem _⟩
    obtain ⟨x, hx⟩ : ∃ x, xs[i]? = some x := ⟨xs[i], List.getElem?_eq_getElem hlt⟩
    have here : its.toArray[i]? = some (its[i]'(by omega)) := by simp
    have rel : RelV x (its[i]'(by omega)) := vals_at rv i _ _ hx (List.getElem?_eq_getElem _)
    have p1 := piled_take_succ ht
    have p2 := piled_take_le ts (i + 1)
    have p3 := piled_le_listText ts
    refine codeAny_builtin F.entry_list_repr_loop ?_
    show wpAny _ _ (Builtin.«list.__repr__.loop» ⟨[.ref L, .int i 0, .ref P, .int ((piled (ts.take i) : Nat) : Int) 0], []⟩) _ _ s
    rw [repr_loop_tree]
    refine wpAny_bind (wpAny_listItems ho hd ?_)
    rw [Int.toNat_natCast]
    simp only [here]
    rw [Int.toNat_natCast]
    refine wpAny_bind (wpAny_holding (wpAny_mono (tell i x t hx ht pins σ H1 s _ (piled (ts.take i) + 1) _ _ _ sm I rel (by omega) (room_loop room _) ((frames_loop _).trans fr) (guards_under_guard (isGuard_list_loop _) hg) (fun b hb => (Clear.nil b).cons (a := L) fun e => hb e.symm) ?_) (fun _ _ h => h) bad))
    intro s' H2 I2 sm2
    refine wpAny_bind (wpAny_mkStr ?_ (Nat.le_trans (few.2.1 t (List.mem_of_getElem? ht)) (by omega)))
    refine wpAny_bind ?_
    show wpAny _ _ (updateSeq P _) _ _ _
    have eP2 := sm2 _ _ eP
    obtain ⟨hz2, its2, n2, rv2, e2⟩ := (show ObjOk X.prog X.w H2 s'.heap P (.lst ((ts.take i).map V.str)) from I2.hok P _ eP2)
    have hl2 := rv2.length
    have hl3 : ((ts.take i).map V.str).length = i := by
      rw [List.length_map, List.length_take]
      omega
    have few1 := few.1
    rw [if_neg (Nat.lt_irrefl 0)] at few1
    refine wpAny_updateSeq e2 rfl (wpAny_pure ⟨F.quiet_list_repr_loop _, ?_⟩) (by rw [List.size_toArray]; omega) (by rw [Array.size_push, List.size_toArray]; omega)
    have i1 : ((i : Int) + 1) = ((i + 1 : Nat) : Int) := by omega
    have i2 : piled (ts.take i) + (t.length + 2) = piled (ts.take (i + 1)) := by omega
    rw [i1, i2]
    have et : (ts.take (i + 1)).map V.str = (ts.take i).map V.str ++ [V.str t] := by
      rw [List.take_add_one, ht, List.map_append]
      rfl
    refine ih (i + 1) (upd H2 P (.lst ((ts.take (i + 1)).map V.str))) _ (by omega) hlt (I2.write (e := P) (by rw [eP2]; trivial) (.inl rfl) (fun b u hb q => (Heap.get?_update_other _ _ (Ne.symm hb)).trans q) ⟨_, Heap.get?_update_self _ e2 rfl⟩ ⟨?_, its2 ++ [.str t s'.toks], n2 + 1, ?_, ?_⟩) (same_new hP (sm.trans sm2)) upd_same
    · rw [et, List.length_append, hl3]
      show i + 1 ≤ sizeLine
      omega
    · rw [et]
      exact rv2.append (.cons ⟨_, rfl⟩ .nil)
    · refine (Heap.get?_update_self _ e2 rfl).trans ?_
      simp [Obj.mapSeq]
/-- repr(xs), xs no empty list, of data and of own objects -/
def rReprL (X : Cx) (n : Nat) : List V → Hp → VK → Prop := fun vs H Q => ∃ (L : Addr) (x : V) (xs : List V) (ts : List Str), vs = [.ref L] ∧ H L = some (.lst (x :: xs)) ∧ ts.length = (x :: xs).length ∧ (∀ (i : Nat) y t, (x :: xs)[i]? = some y → ts[i]? = some t → Itm X n L H y t) ∧
  (listText ts).length ≤ sizeLine ∧ ∀ H', Same H H' → Q (.str (listText ts)) H'
theorem cr_reprL {n : Nat} (hG : X.A.guards = some []) (room : Room (n + 3) X.A) : CallR X (.builtin "repr") (rReprL X n) := by
  rintro pins s σ H _ us Q I r ⟨L, x, xs, ts, rfl, hL, len, tell, fits, q⟩
  obtain ⟨u, rfl, rv⟩ := vals1 r
  cases (show u = Value.ref L from rv)
  obtain ⟨its, rv2, ⟨o, m, ho, hc, _, hd⟩, _⟩ := I.list (SqL.of hL)
  have un := room.un
  have type : s.TypeIs (.ref L) "list" := ⟨o, ho, hc⟩
  have nP : H s.heap.objs.size = none := I.hok.fresh (Nat.le_refl _)
  cases rv2 with
  | cons r1 r2 =>
    refine call_repr_slot (by omega) type F.slot_list_repr.toG ?_
    refine wpAny_call (codeAny_call_builtin F.slot_list_repr.plain F.entry_list_repr (F.slot_list_repr.check _ _ _ _ _ _ _ _ type (F.args_list_repr_1 _) ?_))
    refine wpAny_list_repr_head (A := X.A.in1.in1) hG (fun _ _ _ h => nomatch h) ho hd ?_
    refine wpAny_bind (m := newList []) (wpAny_newObj_type (wpAny_pure ⟨F.quiet_list_repr_loop _, ?_⟩))
    refine turns (A := X.A.in1) (n := n) hG (Room.mono (k := n + 2) (j := n + 1) room.in1 (Nat.le_succ _)) rfl nP hL len tell fits ?bad (pins := pins) (σ := σ) ?good _ 0 (upd H s.heap.objs.size (.lst [])) _ rfl (Nat.zero_le _) (I.laid (t' := s.toks) (fun b o e => Heap.get?_push_of_some _ e) (Nat.le_refl _) ⟨Nat.zero_le _, [], 0, .nil, Heap.get?_push_size _ rfl⟩) (same_upd nP) upd_same
    case bad => exact fun e s' h => h
    case good => exact fun s' H2 u I2 sm => ⟨_, _, rfl, .str _, H2, I2, ⟨_, rfl⟩, q H2 sm⟩
end
end HopR

set_option Elab.async false
set_option linter.all false
set_option maxRecDepth 100000
namespace HopR
open PySem PySem.Spec PyProof.Rows L2
/-! ### == and != by an own __eq__ of a class of the text, whose own names hold no __ne__ -/
structure EqC (K : PySem.W.Frag) (C f : Addr) : Prop where
  eq : PySem.W.findIn K (.ref C) "__eq__" = some (some (.ref f))
  fn : PySem.W.isFn K (.ref f) = true
  own : ∃ nm q N bs hd sn sub ab col dd k0 k1 k2 k3 k5 nw, K.lookup C = some (excClassObj nm q C N bs [.type "object"] hd sn sub ab col dd k0 k1 k2 k3 k5 nw) ∧ PySem.W.nsOkIn K N = true ∧ PySem.W.nsIn K N "__eq__" = some (some (.ref f)) ∧ PySem.W.nsIn K N "__ne__" = some none
theorem name_here {K : PySem.W.Frag} {h : Heap} {N : Addr} {mg : Str → Option Value} {x : Str} {v : Value} (kin : K.In h) (names : h.Ns N mg) (e : PySem.W.nsIn K N x = some (some v)) : mg x = some v := by
  rcases names with ⟨o, es, ep, at_, data, -, find⟩
  rw [← find]
  revert e
  unfold PySem.W.nsIn
  cases look : K.lookup N with
  | none => exact fun e => nomatch e
  | some ob =>
    obtain rfl : ob = o := Option.some.inj ((kin _ _ look).symm.trans at_)
    obtain ⟨cls, dict, dat, slots⟩ := ob
    obtain rfl : dat = .dict es ep := data
    intro e
    unfold nsFind findBy
    rw [← Array.find?_toList]
    cases hit : es.toList.find? (·.key.isStr x) with
    | none =>
      simp only [hit] at e
      split at e <;> cases e
    | some en =>
      simp only [hit] at e
      cases e
      rfl
theorem fn_here {K : PySem.W.Frag} {h : Heap} {f : Addr} (kin : K.In h) (fn : PySem.W.isFn K (.ref f) = true) : ∃ o, h.get? f = some o ∧ o.cls = .type "function" := by
  have e : (K.lookup f).map (·.cls) = some (Value.type "function") := beq_iff_eq.mp fn
  obtain ⟨o, look, cls⟩ := Option.map_eq_some_iff.mp e
  exact ⟨o, kin _ _ look, cls⟩
theorem EqC.here {K : PySem.W.Frag} {h : Heap} {C f a : Addr} {o : Obj} (c : EqC K C f) (kin : K.In h) (at_ : h.get? a = some o) (cls : o.cls = .ref C) : h.OwnEqNoNe a C f "object" [.type "object"] := by
  obtain ⟨nm, q, N, bs, hd, sn, sub, ab, col, dd, k0, k1, k2, k3, k5, nw, look, ok, heq, hne⟩ := c.own
  obtain ⟨of, hf, hc⟩ := fn_here kin c.fn
  have names : h.Ns N (h.nsMap N) := .of_isNs (PySem.W.isNs_of_in kin ok)
  exact ⟨o, of, nm, q, N, bs, hd, sn, sub, ab, col, dd, k0, k1, k2, k3, k5, nw, h.nsMap N, _, at_, cls, kin _ _ look, names, name_here kin names heq, hf, hc, PySem.F.cmp_object.mro, PySem.F.cmp_object.eq.lookup, PySem.W.nsMap_none_of_in kin ok hne⟩
section
variable {X : Cx} {CX : CXT} {n : Nat} {C f : Addr} {fd : FuncData} {ps : List Str} {sp : Sp} {E : XK}
/-- two instances of the class; what its __eq__ promises of them, a truth -/
def rOwn (C : Addr) (sp : Sp) (E : XK) (neg : Bool) : R2 := fun x y H Q => ∃ a b dx dy fs gs, x = .ref a ∧ y = .ref b ∧ H a = some (.ins C dx fs) ∧ H b = some (.ins C dy gs) ∧ sp [.ref a, .ref b] H (fun v H' => ∃ k : Bool, v = .bl k ∧ Q (.bl (k ^^ neg)) H') E
theorem two_refs {a b : Addr} : Vals [V.ref a, V.ref b] [Value.ref a, Value.ref b] := .cons rfl (.cons rfl .nil)
theorem op_eqOwn (c : EqC X.K C f) (F : FnOk X.prog X.w X.K X.mg X.base CX n f fd ps sp) (room : Room n X.A) (bind : Binds X.K fd ps []) (lets : Passes CX X E) : OpR X (compareOp .Eq) (rOwn C sp E false) := by
  rintro pins s σ H _ _ v u Q I rx ry ⟨a, b, dx, dy, fs, gs, rfl, rfl, ha, hb, prom⟩
  cases rx; cases ry
  obtain ⟨_, J, _⟩ := ins_get I.hok ha
  obtain ⟨_, J', _⟩ := ins_get I.hok hb
  obtain ⟨_, J, _⟩ := J.look
  obtain ⟨_, J', _⟩ := J'.look
  obtain ⟨m, F0⟩ := I.fr
  refine PySem.W.cmp_K (op := .Eq) (tb := .ref C) room.units0 F0 I.ok.mod.kin J J'.type (by simp [PySem.W.notFirst]) c.eq c.fn (thn (call_at F room rfl bind lets I two_refs prom) ?_)
  rintro w s' ⟨z, H', I', rz, k, rfl, q⟩
  cases rz
  refine ⟨.bl k, H', I', rfl, ?_⟩
  rw [Bool.xor_false] at q
  exact q
theorem op_neOwn (c : EqC X.K C f) (F : FnOk X.prog X.w X.K X.mg X.base CX n f fd ps sp) (room : Room (n + 1) X.A) (bind : Binds X.K fd ps []) (lets : Passes CX X E) : OpR X (compareOp .NotEq) (rOwn C sp E true) := by
  rintro pins ⟨hp, g, d, t, os⟩ σ H _ _ v u Q I rx ry ⟨a, b, dx, dy, fs, gs, rfl, rfl, ha, hb, prom⟩
  cases rx; cases ry
  obtain ⟨_, J, _⟩ := ins_get I.hok ha
  obtain ⟨_, J', _⟩ := ins_get I.hok hb
  obtain ⟨_, J, _⟩ := J.look
  obtain ⟨_, J', _⟩ := J'.look
  have un := room.un
  refine compareOp_ne_ownEq PySem.F.cmp_object (c.here I.kIn J.at_ J.cls) J'.at_ J'.cls (by omega) (thn (call_at (A := X.A.in1) F room.in1 rfl bind lets I two_refs prom) ?_)
  rintro w s' ⟨z, H', I', rz, k, rfl, q⟩
  cases rz
  refine ⟨k, rfl, .bl (!k), H', I', rfl, ?_⟩
  rw [Bool.xor_true] at q
  exact q
end
end HopR

set_option Elab.async false
set_option linter.all false
set_option maxRecDepth 100000
namespace HopR
open PySem PySem.Spec PyProof.Rows L2
/-! ### {o!r} in an f-string, o of an own class -/
section
variable {X : Cx} {CX : CXT} {n : Nat} {C f : Addr} {fd : FuncData} {ps : List Str} {sp : Sp} {E : XK} {e : Expr} {te : TE} {pos : Pos}
def tFmtO (C : Addr) (sp : Sp) (E : XK) (te : TE) : TE := fun σ H Q => te σ H fun x H1 => ∃ a dx fs, x = .ref a ∧ H1 a = some (.ins C dx fs) ∧ sp [.ref a] H1 (fun v H' => ∃ z : Str, v = .str z ∧ z.length ≤ sizeLine ∧ Q (.str z) H') E
theorem pe_fmtO (rep : PySem.W.findIn X.K (.ref C) "__repr__" = some (some (.ref f))) (fn : PySem.W.isFn X.K (.ref f) = true) (F : FnOk X.prog X.w X.K X.mg X.base CX n f fd ps sp) (room : Room (n + 1) X.A) (bind : Binds X.K fd ps []) (lets : Passes CX X E) (he : PE X e te) :
    PE X (.FormattedValue e 114 none pos) (tFmtO C sp E te) := by
  constructor
  intro pins s σ H Q I h
  refine wpAny_FormattedValue_repr (thn (he.run pins s σ H _ I h) ?_)
  rintro u s1 ⟨_, H1, I1, ru, a, dx, fs, rfl, ha, prom⟩
  cases (show u = Value.ref a from ru)
  obtain ⟨_, J, _⟩ := ins_get I1.hok ha
  obtain ⟨od, J, _⟩ := J.look
  have un := room.un
  rw [pyReprObj_eq_pyReprObjBy]
  unfold pyReprObjBy
  refine wpAny_bind (wpAny_cRoomFor (by omega) (wpAny_bind (wpAny_bind (J.type.here ((PySem.W.looks_findIn I1.kIn rep).here ?_)))))
  show wpAny _ _ (if (some (Value.ref f)).isNone = true then _ else _) _ _ _
  rw [if_neg (by simp)]
  refine wpAny_bind (special_own I1.kIn J rep fn (thn (call_at F (room.mono (Nat.le_succ n)) rfl bind lets I1 (us := [.ref a]) (vs := [.ref a]) (.cons rfl .nil) prom) ?_))
  rintro v s' ⟨_, H', I', rz, z, rfl, hz, q⟩
  obtain ⟨tk, rfl⟩ := rz
  refine wpAny_bind (wpAny_isInstance (T := "str") (b := true) rfl isSubtype_str_str (wpAny_pure ?_))
  exact wpAny_formatField_str ⟨.str z, H', I', ⟨_, rfl⟩, q⟩ ⟨.str z, H', I'.tok _, ⟨_, rfl⟩, q⟩ hz
/-- o == p by the class's own __eq__, told by its two facts alone -/
theorem op_eqTwo (eq : PySem.W.findIn X.K (.ref C) "__eq__" = some (some (.ref f))) (fn : PySem.W.isFn X.K (.ref f) = true) (F : FnOk X.prog X.w X.K X.mg X.base CX n f fd ps sp) (room : Room n X.A) (bind : Binds X.K fd ps []) (lets : Passes CX X E) : OpR X (compareOp .Eq) (rOwn C sp E false) := by
  rintro pins s σ H _ _ v u Q I rx ry ⟨a, b, dx, dy, fs, gs, rfl, rfl, ha, hb, prom⟩
  cases rx; cases ry
  obtain ⟨_, J, _⟩ := ins_get I.hok ha
  obtain ⟨_, J', _⟩ := ins_get I.hok hb
  obtain ⟨_, J, _⟩ := J.look
  obtain ⟨_, J', _⟩ := J'.look
  obtain ⟨m, F0⟩ := I.fr
  refine PySem.W.cmp_K (op := .Eq) (tb := .ref C) room.units0 F0 I.ok.mod.kin J J'.type (by simp [PySem.W.notFirst]) eq fn (thn (call_at F room rfl bind lets I two_refs prom) ?_)
  rintro w s' ⟨z, H', I', rz, k, rfl, q⟩
  cases rz
  rw [Bool.xor_false] at q
  exact ⟨.bl k, H', I', rfl, q⟩
end
/-! ### lists of new tuples -/
def TupH {α : Type} (H : Hp) (f : α → List V) : List α → List V → Prop
  | [], vs => vs = []
  | a :: r, vs => ∃ p vr, vs = .ref p :: vr ∧ H p = some (.tup (f a)) ∧ TupH H f r vr
section
variable {α : Type} {H H' : Hp} {f : α → List V}
theorem tupH_same (s : Same H H') : ∀ {as : List α} {vs : List V}, TupH H f as vs → TupH H' f as vs
  | [], _, h => h
  | _ :: _, _, ⟨p, vr, e, h1, h2⟩ => ⟨p, vr, e, s _ _ h1, tupH_same s h2⟩
theorem tupH_upd {D : Addr} {xs : List V} {o : HO} (hD : H D = some (.lst xs)) : ∀ {as : List α} {vs : List V}, TupH H f as vs → TupH (upd H D o) f as vs
  | [], _, h => h
  | _ :: _, _, ⟨p, vr, e, h1, h2⟩ => ⟨p, vr, e, by
      rw [upd_ne (fun z => by rw [z, hD] at h1; cases h1)]
      exact h1, tupH_upd hD h2⟩
theorem tupH_add {a : α} {p : Addr} (h1 : H p = some (.tup (f a))) : ∀ {as : List α} {vs : List V}, TupH H f as vs → TupH H f (as ++ [a]) (vs ++ [.ref p])
  | [], _, h => by
    cases h
    exact ⟨p, [], rfl, h1, rfl⟩
  | _ :: _, _, ⟨p', vr, e, h2, h3⟩ => ⟨p', vr ++ [.ref p], by rw [e]; rfl, h2, tupH_add h1 h3⟩
theorem tupH_len : ∀ {as : List α} {vs : List V}, TupH H f as vs → vs.length = as.length
  | [], _, h => by
    cases h
    rfl
  | _ :: _, _, ⟨_, vr, e, _, h2⟩ => by rw [e, List.length_cons, List.length_cons, tupH_len h2]
theorem tupH_at : ∀ {as : List α} {vs : List V} {k : Nat} {a : α}, TupH H f as vs → as[k]? = some a → ∃ p, vs[k]? = some (.ref p) ∧ H p = some (.tup (f a))
  | [], _, k, a, h, e => by simp at e
  | b :: r, _, 0, a, ⟨p, vr, ev, h1, h2⟩, e => by
    have : b = a := Option.some.inj e
    subst this
    exact ⟨p, by rw [ev]; rfl, h1⟩
  | b :: r, _, k + 1, a, ⟨p, vr, ev, h1, h2⟩, e => by
    obtain ⟨p', e1, e2⟩ := tupH_at (k := k) h2 e
    exact ⟨p', by rw [ev]; exact e1, e2⟩
end
end HopR

set_option Elab.async false
set_option linter.all false
set_option maxRecDepth 100000
namespace HopR
open PySem PySem.Spec PyProof.Rows L2
/-! ### sum(whole numbers, start=0) -/
theorem may_start (l : Addr) (t : Tok) : checkBuiltinCall "sum" ⟨[.ref l], [(Str.ofString "start", .int 0 t)]⟩ = pure () := by
  have ok : argsOk "sum" ⟨[.ref l], [(Str.ofString "start", .int 0 t)]⟩ := by
    unfold argsOk
    kernel_rfl
  unfold checkBuiltinCall
  rw [F.kind_sum]
  unfold argsOk at ok
  cases h : Manifest.signature? "sum" with
  | none => rfl
  | some sig =>
    rw [h] at ok
    exact ok
section
variable {prog : Program} {w : World} {A : Around} {E : Value → Shared → Prop} {s : Shared}
theorem no_text {i : Int} {t : Tok} {T : String} {Q : Bool → Shared → Prop} (sub : isSubtype (.type "int") (.type T) = pure false) (q : Q false s) : wpAny (model prog w) A (isInstance (.int i t) (.type T)) Q E s := wpAny_isInstance (typeIs_int s i t) sub q
theorem sum_from {l : Addr} {t : Tok} {xs : Array (Int × Tok)} {Q : Value → Shared → Prop} (calm : A.handled = none) (hl : s.heap.IsList l (intItems xs))
    (fin : ∀ h' tk t', (∀ b o, s.heap.get? b = some o → h'.get? b = some o) → Q (.int (preSum (numAt xs) xs.size) t') { s with heap := h', toks := tk }) :
    wpAny (model prog w) A (call (.builtin "sum") [.ref l] [(Str.ofString "start", .int 0 t)]) Q E s := by
  refine wpAny_call (codeAny_call_builtin F.plain_sum F.entry_sum ?_)
  rw [may_start]
  refine wpAny_pure ?_
  unfold Builtin.«sum»
  simp only [List.length_cons, List.length_nil]
  rw [if_neg (by decide)]
  refine wpAny_bind (wpAny_of_eq (show Builtin.Builtins.bindParams "sum" ["start"] 0 ⟨[], [(Str.ofString "start", .int 0 t)]⟩ = pure [some (.int 0 t)] from by kernel_rfl) ?_)
  refine wpAny_bind (iter_intList hl fun s2 e at0 low here => ?_)
  subst e
  dsimp only
  refine wpAny_ite ?_
  split
  case isFalse no => exact absurd rfl no
  refine wpAny_bind (wpAny_rule (wpAny_bind (wpAny_mkInt (wpAny_bind (wpAny_pure ?_)))))
  simp only [List.forIn_cons, List.forIn_nil]
  refine wpAny_bind (wpAny_bind (wpAny_bind (no_text PySem.sub_int_str ?_)))
  rw [if_neg (by decide)]
  refine wpAny_pure (wpAny_bind (wpAny_bind (no_text PySem.sub_int_bytes ?_)))
  rw [if_neg (by decide)]
  refine wpAny_pure (wpAny_bind (wpAny_bind (no_text PySem.sub_int_bytearray ?_)))
  rw [if_neg (by decide)]
  refine wpAny_pure (wpAny_pure (wpAny_bind (wpAny_newObj_type ?_)))
  have W := Walks.list (prog := prog) (w := w) (A := A.in1) calm s.heap.objs.size l here (intItems xs)
  refine wpAny_pure ⟨plainId_quiet F.plain_sum_loop _, codeAny_sum_loopG W (numAt xs) (fun _ _ => intItems_at) _ (fun m => Nat.lt_irrefl _ (low _ m)) _ 0 _ _ 0 0 (.inl rfl) rfl (Nat.zero_le _) (W.frame _ _ _ at0 fun b _ o q => Heap.get?_push_of_some _ q) (Heap.get?_push_size _ rfl) ?_⟩
  intro h' tk t' old
  have q := fin h' tk t' fun b o e => ?_
  · simpa [intItems] using q
  · have lt := Heap.lt_size e
    refine old b o ?_ ?_ (Heap.get?_push_of_some _ (Heap.get?_push_of_some _ e))
    · intro m
      have m : b = s.heap.objs.size := by simpa using m
      exact absurd lt (by rw [m]; exact Nat.lt_irrefl _)
    · rw [Heap.size_push]
      exact Nat.ne_of_lt (Nat.lt_succ_of_lt lt)
end
section
variable {X : Cx}
def rSumK (K : PySem.W.Frag) : List V → List V → Hp → VK → Prop := fun vs zs H Q => ∃ (a : Addr) (ns : List Int), vs = [V.ref a] ∧ zs = [.int 0] ∧ SqL K H a (ns.map V.int) ∧ Q (.int ns.sum) H
theorem cr_sumK (calm : X.calm = true) : CallRK X (.builtin "sum") [Str.ofString "start"] (rSumK X.K) := by
  rintro pins s σ H _ _ us ws Q I r rz ⟨a, ns, rfl, rfl, hs, q⟩
  obtain rfl := Vals.ref1 r
  obtain ⟨_, rfl, t, rfl⟩ := vals1 rz
  obtain ⟨its, rv, hl, _⟩ := I.list hs
  obtain ⟨xs, e⟩ := rv.ints.allInts.items
  have hn : numsOf (intItems xs).toList = ns := by
    rw [← e]
    exact rv.ints.numsOf
  rw [nums_intItems] at hn
  have hl' := hl.isList
  rw [e] at hl'
  refine sum_from (I.ok.hd calm) hl' fun h' tk t' old => ⟨.int ns.sum, H, I.kept old, ⟨t', ?_⟩, q⟩
  rw [preSum_eq, List.take_of_length_le (by simp), hn]
end
end HopR

set_option Elab.async false
set_option linter.all false
set_option maxRecDepth 100000
namespace HopR
open PySem PySem.Spec PyProof.Rows L2
/-! ### numbers: // by any number but 0 -/
def CDivWN (_ j : Int) : Prop := j ≠ 0 ∧ j.natAbs.log2 < 9000
theorem op_fdivWN {X : Cx} : OpR X (binaryOp .FloorDiv) (rI CDivWN fun i j => .int (i.fdiv j)) := opI fun i j _ _ _ _ _ hc q => floordiv_int hc.1 q (.inl (PyProof.noPylong_of_log2 hc.2))
theorem gcd_fmod (a b : Int) : Int.gcd b (a.fmod b) = Int.gcd a b := by
  rw [Int.fmod_def, Int.mul_comm, Int.gcd_sub_mul_right_right, Int.gcd_comm]
theorem fmod_less (a : Int) {b : Int} (h : b ≠ 0) : (a.fmod b).natAbs < b.natAbs := by
  have h1 := Int.emod_nonneg a h
  have h2 := Int.emod_lt a h
  rw [Int.fmod_eq_emod]
  by_cases h3 : 0 ≤ b ∨ b ∣ a
  · rw [if_pos h3]
    omega
  · rw [if_neg h3]
    have h4 : a % b ≠ 0 := fun e => h3 (.inr (Int.dvd_of_emod_eq_zero e))
    have h5 : b < 0 := by
      refine Int.not_le.mp fun e => h3 (.inl e)
    omega
/-! ### fractions -/
theorem low_num {t b : Int} (h : b ≠ 0) : (t.fdiv (if b < 0 then -(Int.gcd t b : Int) else (Int.gcd t b : Int))) = (Rat.divInt t b).num := by
  have hd : ((Int.gcd t b : Nat) : Int) ∣ t := Int.gcd_dvd_left ..
  rw [Rat.num_divInt, Int.gcd_comm b t]
  by_cases hb : b < 0
  · rw [if_pos hb, Int.fdiv_eq_ediv_of_dvd (by rw [Int.neg_dvd]; exact hd), Int.ediv_neg, Int.sign_eq_neg_one_of_neg hb, Int.neg_one_mul, Int.neg_ediv_of_dvd hd]
  · have hb2 : 0 < b := by omega
    rw [if_neg hb, Int.fdiv_eq_ediv_of_dvd hd, Int.sign_eq_one_of_pos hb2, Int.one_mul]
theorem low_den {t b : Int} (h : b ≠ 0) : (b.fdiv (if b < 0 then -(Int.gcd t b : Int) else (Int.gcd t b : Int))) = ((Rat.divInt t b).den : Int) := by
  have hd : ((Int.gcd t b : Nat) : Int) ∣ b := Int.gcd_dvd_right ..
  rw [Rat.den_divInt, if_neg h, Int.gcd_comm b t]
  rw [Int.natCast_ediv]
  by_cases hb : b < 0
  · rw [if_pos hb, Int.fdiv_eq_ediv_of_dvd (by rw [Int.neg_dvd]; exact hd), Int.ediv_neg, Int.ofNat_natAbs_of_nonpos (by omega), Int.neg_ediv_of_dvd hd]
  · rw [if_neg hb, Int.fdiv_eq_ediv_of_dvd hd, Int.natAbs_of_nonneg (by omega)]
theorem gcd_pos {t b : Int} (h : b ≠ 0) : 0 < Int.gcd t b := Int.gcd_pos_of_ne_zero_right _ h
/-- both numbers of the fraction are below 2 ^ n -/
def Sz (n : Nat) (q : Rat) : Prop := q.num.natAbs < 2 ^ n ∧ q.den < 2 ^ n
theorem Sz.mono {n m : Nat} {q : Rat} (h : Sz n q) (hm : n ≤ m) : Sz m q := ⟨Nat.lt_of_lt_of_le h.1 (Nat.pow_le_pow_right (by decide) hm), Nat.lt_of_lt_of_le h.2 (Nat.pow_le_pow_right (by decide) hm)⟩
theorem sz_divInt {t b : Int} {n : Nat} (h : b ≠ 0) (ht : t.natAbs < 2 ^ n) (hb : b.natAbs < 2 ^ n) : Sz n (Rat.divInt t b) := by
  have g := gcd_pos (t := t) h
  constructor
  · rw [Rat.num_divInt]
    refine Nat.lt_of_le_of_lt (Int.natAbs_ediv_le_natAbs _ _) ?_
    rw [Int.natAbs_mul]
    rcases Int.lt_or_gt_of_ne h with h | h
    · rw [Int.sign_eq_neg_one_of_neg h]; simpa using ht
    · rw [Int.sign_eq_one_of_pos h]; simpa using ht
  · rw [Rat.den_divInt, if_neg h]
    exact Nat.lt_of_le_of_lt (Nat.div_le_self _ _) hb
theorem den_ne (q : Rat) : ((q.den : Nat) : Int) ≠ 0 := by
  have := q.den_nz
  omega
theorem pos_two (n : Nat) : 0 < 2 ^ n := Nat.pow_pos (by decide)
theorem two_lt {a b : Nat} {n : Nat} (ha : a < 2 ^ n) (hb : b < 2 ^ n) : a + b < 2 ^ (n + 1) := by
  rw [Nat.pow_succ]
  omega
theorem add_eq (q r : Rat) : q + r = Rat.divInt (q.num * r.den + r.num * q.den) ((q.den : Int) * (r.den : Int)) := by
  conv => lhs; rw [← Rat.num_divInt_den q, ← Rat.num_divInt_den r]
  exact Rat.divInt_add_divInt _ _ (den_ne q) (den_ne r)
theorem sub_eq (q r : Rat) : q - r = Rat.divInt (q.num * r.den - r.num * q.den) ((q.den : Int) * (r.den : Int)) := by
  conv => lhs; rw [← Rat.num_divInt_den q, ← Rat.num_divInt_den r]
  exact Rat.divInt_sub_divInt _ _ (den_ne q) (den_ne r)
theorem mul_eq (q r : Rat) : q * r = Rat.divInt (q.num * r.num) ((q.den : Int) * (r.den : Int)) := by
  conv => lhs; rw [← Rat.num_divInt_den q, ← Rat.num_divInt_den r]
  exact Rat.divInt_mul_divInt _ _
theorem div_eq (q r : Rat) : q / r = Rat.divInt (q.num * r.den) ((q.den : Int) * r.num) := by
  rw [Rat.div_def]
  conv => lhs; rw [← Rat.num_divInt_den q, ← Rat.num_divInt_den r]
  rw [Rat.inv_divInt]
  exact Rat.divInt_mul_divInt _ _
end HopR

set_option Elab.async false
set_option linter.all false
set_option maxRecDepth 100000
namespace HopR
open PySem PySem.Spec PyProof.Rows L2
/-! ### products, divided out crosswise -/
theorem mul_num (q r : Rat) : (q.num.fdiv (Int.gcd q.num (r.den : Int) : Int)) * (r.num.fdiv (Int.gcd r.num (q.den : Int) : Int)) = (q * r).num := by
  have h1 : ((Int.gcd q.num (r.den : Int) : Nat) : Int) ∣ q.num := Int.gcd_dvd_left ..
  have h2 : ((Int.gcd r.num (q.den : Int) : Nat) : Int) ∣ r.num := Int.gcd_dvd_left ..
  rw [Int.fdiv_eq_ediv_of_dvd h1, Int.fdiv_eq_ediv_of_dvd h2]
  show _ = (Rat.mul q r).num
  unfold Rat.mul
  rfl
theorem mul_den (q r : Rat) : ((q.den : Int).fdiv (Int.gcd r.num (q.den : Int) : Int)) * ((r.den : Int).fdiv (Int.gcd q.num (r.den : Int) : Int)) = ((q * r).den : Int) := by
  have h1 : ((Int.gcd q.num (r.den : Int) : Nat) : Int) ∣ (r.den : Int) := Int.gcd_dvd_right ..
  have h2 : ((Int.gcd r.num (q.den : Int) : Nat) : Int) ∣ (q.den : Int) := Int.gcd_dvd_right ..
  rw [Int.fdiv_eq_ediv_of_dvd h1, Int.fdiv_eq_ediv_of_dvd h2]
  show _ = ((Rat.mul q r).den : Int)
  unfold Rat.mul
  rfl
end HopR

set_option Elab.async false
set_option linter.all false
set_option maxRecDepth 100000
namespace HopR
open PySem L2
/-! ### fractions above nought -/
theorem num_pos {q : Rat} (h : 0 < q) : 0 < q.num := by
  have h1 : 0 ≤ q.num := Rat.num_nonneg.mpr (by grind)
  have h2 : q.num ≠ 0 := fun e => by
    have : q = 0 := Rat.num_eq_zero.mp e
    rw [this] at h
    exact absurd h (by decide)
  omega
theorem pos_num {q : Rat} (h : 0 < q.num) : 0 < q := by
  have h1 : 0 ≤ q := Rat.num_nonneg.mp (by omega)
  have h2 : q ≠ 0 := fun e => by
    rw [e] at h
    exact absurd h (by decide)
  grind
theorem add_above {x y : Rat} (h : 0 ≤ y) (h2 : 0 < x) : 0 < y + x := by grind
theorem le_above {x : Rat} (h : 0 < x) : 0 ≤ x := by grind
theorem div_ne {q r : Rat} (h : 0 < q) (h2 : 0 < r) : q / r ≠ 0 := by
  rw [Rat.div_def]
  intro e
  rcases Rat.mul_eq_zero.mp e with e | e
  · rw [e] at h
    exact absurd h (by decide)
  · have h3 : r = 0 := by rw [← Rat.inv_inv r, e, Rat.inv_zero]
    rw [h3] at h2
    exact absurd h2 (by decide)
theorem ne_above {x : Rat} (h : 0 < x) : x ≠ 0 := fun e => by
  rw [e] at h
  exact absurd h (by decide)
theorem nat_low (n : Nat) : (0 : Rat) ≤ ((n : Int) : Rat) := by exact_mod_cast Nat.zero_le n
theorem nat_above {n : Nat} (h : 0 < n) : (0 : Rat) < ((n : Int) : Rat) := by exact_mod_cast h
theorem rat_int (t : Int) : Rat.divInt t 1 = (t : Rat) := by
  rw [Rat.divInt_eq_div]
  show (t : Rat) / ((1 : Int) : Rat) = (t : Rat)
  rw [Rat.div_def]
  have e : ((1 : Int) : Rat)⁻¹ = 1 := by decide +kernel
  rw [e, Rat.mul_one]
theorem sz_int {n k : Nat} (h : n < 2 ^ k) (hk : 1 ≤ k) : Sz k ((n : Int) : Rat) := by
  refine ⟨h, ?_⟩
  show 1 < 2 ^ k
  exact Nat.one_lt_two_pow (by omega)
theorem sz_add {n m : Nat} {q r : Rat} (h1 : Sz n q) (h2 : Sz m r) : Sz (n + m + 1) (q + r) := by
  rw [add_eq]
  have b1 : (q.num * r.den).natAbs < 2 ^ (n + m) := by
    rw [Int.natAbs_mul, Nat.pow_add]
    exact Nat.mul_lt_mul'' h1.1 h2.2
  have b2 : (r.num * q.den).natAbs < 2 ^ (n + m) := by
    rw [Int.natAbs_mul, Nat.add_comm, Nat.pow_add]
    exact Nat.mul_lt_mul'' h2.1 h1.2
  refine sz_divInt (Int.mul_ne_zero (den_ne q) (den_ne r)) ?_ ?_
  · exact Nat.lt_of_le_of_lt (Int.natAbs_add_le _ _) (two_lt b1 b2)
  · rw [Int.natAbs_mul]
    have h3 : q.den * r.den < 2 ^ (n + m) := by
      rw [Nat.pow_add]
      exact Nat.mul_lt_mul'' h1.2 h2.2
    exact Nat.lt_of_lt_of_le h3 (Nat.pow_le_pow_right (by decide) (by omega))
theorem sz_mul {n m : Nat} {q r : Rat} (h1 : Sz n q) (h2 : Sz m r) : Sz (n + m) (q * r) := by
  rw [mul_eq]
  refine sz_divInt (Int.mul_ne_zero (den_ne q) (den_ne r)) ?_ ?_
  · rw [Int.natAbs_mul, Nat.pow_add]
    exact Nat.mul_lt_mul'' h1.1 h2.1
  · rw [Int.natAbs_mul, Nat.pow_add]
    exact Nat.mul_lt_mul'' h1.2 h2.2
theorem sz_inv {n : Nat} {r : Rat} (h : Sz n r) (h0 : r ≠ 0) : Sz n r⁻¹ := by
  rw [Rat.inv_def]
  exact sz_divInt (fun e => h0 (Rat.num_eq_zero.mp e)) h.2 h.1
theorem sz_div {n m : Nat} {q r : Rat} (h1 : Sz n q) (h2 : Sz m r) (h0 : r ≠ 0) : Sz (n + m) (q / r) := by
  rw [Rat.div_def]
  exact sz_mul h1 (sz_inv h2 h0)
/-! ### walls -/
theorem two_in {l : List Nat} {a b : Nat} (ha : a ∈ l) (hb : b ∈ l) (h : a ≠ b) : 2 ≤ l.length := by
  match l, ha, hb with
  | [x], ha, hb =>
    have h1 := List.mem_singleton.mp ha
    have h2 := List.mem_singleton.mp hb
    omega
  | _ :: _ :: _, _, _ => simp
theorem one_in {l : List Nat} {a : Nat} (ha : a ∈ l) : 1 ≤ l.length := by
  match l, ha with
  | _ :: _, _ => simp
end HopR

set_option Elab.async false
set_option linter.all false
set_option maxRecDepth 100000
namespace HopR
open PySem L2
/-! ### texts by their codes -/
def rt (cs : List Nat) : Str := ⟨cs.toArray⟩
def one (c : Nat) : Str := ⟨#[c]⟩
theorem rt_list (cs : List Nat) : (rt cs).cps.toList = cs := by simp [rt]
theorem rt_len (cs : List Nat) : (rt cs).length = cs.length := by
  show cs.toArray.size = cs.length
  simp
theorem rt_of (z : Str) : rt z.cps.toList = z := ext_str (rt_list _)
theorem rt_inj {a b : List Nat} (h : rt a = rt b) : a = b := by
  have := congrArg (fun q : Str => q.cps.toList) h
  simpa only [rt_list] using this
theorem rt_app (a b : List Nat) : rt a ++ rt b = rt (a ++ b) := by
  apply ext_str
  rw [rt_list]
  show ((rt a).cps ++ (rt b).cps).toList = a ++ b
  rw [Array.toList_append, rt_list, rt_list]
theorem rt_fit {cs : List Nat} (h : cs.length ≤ 10000) : (rt cs).length ≤ sizeLine := by
  rw [rt_len]
  exact fit h
theorem sg_rt (cs : List Nat) : sg (rt cs) = cs.map one := by
  unfold sg
  rw [rt_list]
  rfl
theorem join_rt (cs : List Nat) : Txt.join "" (cs.map one) = rt cs := by
  apply ext_str
  rw [join0_list, List.map_map, rt_list]
  induction cs with
  | nil => rfl
  | cons b r ih =>
    rw [List.map_cons, List.flatten_cons, ih]
    rfl
theorem ones_sum : ∀ cs : List Nat, ((cs.map one).map (·.length)).sum = cs.length
  | [] => rfl
  | c :: r => by
    rw [List.map_cons, List.map_cons, List.sum_cons, ones_sum r]
    show 1 + r.length = r.length + 1
    omega
theorem join_rt_fits {cs : List Nat} (h : cs.length ≤ 1000) : ((cs.map one).map (·.length)).sum + (cs.map one).length * ("" : Str).length ≤ 16777216 := by
  have e : ("" : Str).length = 0 := by decide +kernel
  rw [ones_sum, e, Nat.mul_zero]
  omega
theorem cut_rt (cs : List Nat) (lo hi : Option Int) : cutS (rt cs) lo hi = rt ((cs.drop (HT.sIx cs.length 0 lo)).take (HT.sIx cs.length cs.length hi - HT.sIx cs.length 0 lo)) := by
  apply ext_str
  unfold cutS
  rw [rt_len, rt_list, rt_list]
theorem cut_rt_to (cs : List Nat) (k : Nat) : cutS (rt cs) none (some (k : Int)) = rt (cs.take k) := by
  rw [cut_rt, HT.sIx_none, HT.sIx_nat, List.drop_zero, Nat.sub_zero]
  by_cases h : k ≤ cs.length
  · rw [Nat.min_eq_left h]
  · rw [Nat.min_eq_right (by omega), List.take_length, List.take_of_length_le (by omega)]
theorem cut_rt_from (cs : List Nat) (k : Nat) : cutS (rt cs) (some (k : Int)) none = rt (cs.drop k) := by
  rw [cut_rt, HT.sIx_none, HT.sIx_nat]
  by_cases h : k ≤ cs.length
  · rw [Nat.min_eq_left h, List.take_of_length_le (by rw [List.length_drop]; exact Nat.le_refl _)]
  · rw [Nat.min_eq_right (by omega), List.drop_length, List.drop_of_length_le (by omega), List.take_nil]
theorem one_inj {a b : Nat} (h : one a = one b) : a = b := by
  have := congrArg (fun q : Str => q.cps.toList) h
  exact (List.cons.inj this).1
theorem one_eq (a b : Nat) : (one a == one b) = decide (a = b) := by
  by_cases h : a = b
  · subst h
    simp
  · rw [decide_eq_false h]
    have : ¬ (one a = one b) := fun z => h (one_inj z)
    simp [this]
/-! ### signs in a written dict -/
theorem find_key (c : Nat) : ∀ (ts : List Nat) (L : List DictEntry), L.map (fun e => keyText e.key) = ts.map (fun q => some (one q)) → (L.find? (·.key.isStr (one c))).isSome = decide (c ∈ ts) ∧ L.any (·.refKey) = false
  | [], [], _ => ⟨by simp, rfl⟩
  | [], e :: r, h => by simp at h
  | q :: ts, [], h => by simp at h
  | q :: ts, e :: r, h => by
    rw [List.map_cons, List.map_cons] at h
    obtain ⟨h1, h2⟩ := List.cons.inj h
    obtain ⟨t, hk⟩ := keyText_str h1
    obtain ⟨i1, i2⟩ := find_key c ts r h2
    have e1 : e.key.isStr (one c) = decide (q = c) := by
      rw [hk]
      exact one_eq q c
    refine ⟨?_, ?_⟩
    · rw [List.find?_cons, e1]
      by_cases hq : q = c
      · rw [decide_eq_true hq]
        simp [hq]
      · rw [decide_eq_false hq]
        show (r.find? (·.key.isStr (one c))).isSome = _
        rw [i1]
        have : ¬ c = q := fun z => hq z.symm
        simp [this]
    · rw [List.any_cons, i2, Bool.or_false]
      unfold DictEntry.refKey
      rw [hk]
theorem key_in {K : PySem.W.Frag} {d : Addr} {es : Array DictEntry} {n : Nat} {ts : List Nat} (l : K.lookup d = some ⟨.type "dict", none, .dict es n, #[]⟩) (hk : es.toList.map (fun e => keyText e.key) = ts.map (fun q => some (one q))) (c : Nat) :
    ∃ r, PySem.W.nsIn K d (one c) = some r ∧ r.isSome = decide (c ∈ ts) := by
  obtain ⟨h1, h2⟩ := find_key c ts es.toList hk
  unfold PySem.W.nsIn
  rw [l]
  simp only
  cases hf : es.toList.find? (·.key.isStr (one c)) with
  | some e =>
    rw [hf] at h1
    exact ⟨_, rfl, h1⟩
  | none =>
    rw [hf] at h1
    simp only [h2]
    exact ⟨_, rfl, h1⟩
/-! ### rings -/
def okr (c : Nat) : Bool := decide (c ∈ [97, 98, 46])
def isRingB (z : Str) : Bool := decide (2 ≤ z.length) && (decide (z.length ≤ 12) && z.cps.toList.all okr)
/-- whether x is a ring -/
def RingB (K : PySem.W.Frag) (H : Hp) (x : V) (b : Bool) : Prop := (NoTxt K H x ∧ b = false) ∨ ∃ z : Str, x = .str z ∧ z.length ≤ 10000 ∧ b = isRingB z
theorem ringB_same {K : PySem.W.Frag} {H H' : Hp} {x : V} {b : Bool} (s : Same H H') (h : RingB K H x b) : RingB K H' x b := h.imp (fun ⟨q, e⟩ => ⟨notxt_same s q, e⟩) id
/-- a ring by its codes -/
structure Rg (cs : List Nat) : Prop where
  lo : 2 ≤ cs.length
  hi : cs.length ≤ 12
  ok : ∀ c ∈ cs, c ∈ [97, 98, 46]
theorem Rg.isB {cs : List Nat} (h : Rg cs) : isRingB (rt cs) = true := by
  unfold isRingB
  rw [rt_len, rt_list, decide_eq_true h.lo, decide_eq_true h.hi]
  show cs.all okr = true
  rw [List.all_eq_true]
  exact fun c hc => decide_eq_true (h.ok c hc)
/-- how far above the others a sign stands -/
def rk (c : Nat) : Nat := if c = 97 then 2 else if c = 98 then 1 else 0
def nxt (cs : List Nat) (i : Nat) : Nat := (i + 1) % cs.length
theorem nxt_lt {cs : List Nat} (h : Rg cs) (i : Nat) : nxt cs i < cs.length := Nat.mod_lt _ (Nat.lt_of_lt_of_le (by decide) h.lo)
/-- the signs at a place and at the next one exchanged -/
def swp (cs : List Nat) (i : Nat) : List Nat := (cs.set i (cs.getD (nxt cs i) 0)).set (nxt cs i) (cs.getD i 0)
theorem swp_len (cs : List Nat) (i : Nat) : (swp cs i).length = cs.length := by
  unfold swp
  rw [List.length_set, List.length_set]
def ups (cs : List Nat) (i : Nat) : Bool := decide (rk (cs.getD (nxt cs i) 0) < rk (cs.getD i 0))
def rchg (cs : List Nat) (m : Nat) : List Nat := (List.range m).filter (ups cs)
theorem rchg_succ (cs : List Nat) (i : Nat) : rchg cs (i + 1) = rchg cs i ++ (if ups cs i then [i] else []) := by
  unfold rchg
  rw [List.range_succ, List.filter_append]
  congr 1
  cases h : ups cs i with
  | true => simp [h]
  | false => simp [h]
theorem rchg_few (cs : List Nat) (m : Nat) : (rchg cs m).length ≤ m := by
  refine Nat.le_trans (List.length_filter_le _ _) ?_
  rw [List.length_range]
  exact Nat.le_refl _
/-- the data of the changes -/
def dchg (cs : List Nat) (ks : List Nat) : List PyData := ks.map fun (k : Nat) => PyData.tuple [.int (k : Int), .str (rt (swp cs k))]
/-- a list of tuples (place, ring) -/
def Tups (H : Hp) (cs : List Nat) : List Nat → List V → Prop
  | [], vs => vs = []
  | k :: r, vs => ∃ p vr, vs = .ref p :: vr ∧ H p = some (.tup [.int (k : Int), .str (rt (swp cs k))]) ∧ Tups H cs r vr
theorem tups_same {H H' : Hp} {cs : List Nat} (s : Same H H') : ∀ {ks : List Nat} {vs : List V}, Tups H cs ks vs → Tups H' cs ks vs
  | [], _, h => h
  | k :: r, _, ⟨p, vr, e, h1, h2⟩ => ⟨p, vr, e, s _ _ h1, tups_same s h2⟩
theorem tups_add {H : Hp} {cs : List Nat} {k : Nat} {p : Addr} (h1 : H p = some (.tup [.int (k : Int), .str (rt (swp cs k))])) : ∀ {ks : List Nat} {vs : List V}, Tups H cs ks vs → Tups H cs (ks ++ [k]) (vs ++ [.ref p])
  | [], _, h => by
    cases h
    exact ⟨p, [], rfl, h1, rfl⟩
  | q :: r, _, ⟨p', vr, e, h2, h3⟩ => ⟨p', vr ++ [.ref p], by rw [e]; rfl, h2, tups_add h1 h3⟩
theorem tups_upd {H : Hp} {cs : List Nat} {D : Addr} {xs : List V} {o : HO} (hD : H D = some (.lst xs)) : ∀ {ks : List Nat} {vs : List V}, Tups H cs ks vs → Tups (upd H D o) cs ks vs
  | [], _, h => h
  | k :: r, _, ⟨p, vr, e, h1, h2⟩ => ⟨p, vr, e, by
      rw [upd_ne (fun z => by rw [z, hD] at h1; cases h1)]
      exact h1, tups_upd hD h2⟩
theorem tups_len {H : Hp} {cs : List Nat} : ∀ {ks : List Nat} {vs : List V}, Tups H cs ks vs → vs.length = ks.length
  | [], _, h => by
    cases h
    rfl
  | k :: r, _, ⟨p, vr, e, _, h2⟩ => by
    rw [e, List.length_cons, List.length_cons, tups_len h2]
theorem tups_dp {K : PySem.W.Frag} {H : Hp} {cs : List Nat} : ∀ {ks : List Nat} {vs : List V}, Tups H cs ks vs → DpAll K H vs (dchg cs ks)
  | [], _, h => by
    cases h
    exact .nil
  | k :: r, _, ⟨p, vr, e, h1, h2⟩ => by
    rw [e]
    exact .cons (.tup (SqT.of h1) (.cons (.int _) (.cons (.str _) .nil))) (tups_dp h2)
theorem getD_small {cs : List Nat} (h : Rg cs) (i : Nat) : cs.getD i 0 < 1114112 := by
  rw [List.getD_eq_getElem?_getD]
  cases e : cs[i]? with
  | none => show 0 < 1114112; decide
  | some c =>
    have := h.ok c (List.mem_of_getElem? e)
    simp only [List.mem_cons, List.not_mem_nil, or_false] at this
    show c < 1114112
    omega
theorem strOk_swp {cs : List Nat} (h : Rg cs) (i : Nat) : PyData.strOk (rt (swp cs i)) = true := by
  unfold PyData.strOk
  rw [← Array.all_toList, rt_list, List.all_eq_true]
  intro c hc
  refine decide_eq_true ?_
  unfold swp at hc
  rcases List.mem_or_eq_of_mem_set hc with h1 | rfl
  · rcases List.mem_or_eq_of_mem_set h1 with h2 | rfl
    · have := h.ok c h2
      simp only [List.mem_cons, List.not_mem_nil, or_false] at this
      omega
    · exact getD_small h _
  · exact getD_small h _
theorem lay_dchg {cs : List Nat} (h : Rg cs) : ∀ ks : List Nat, PyData.canLayAll0 (dchg cs ks) = true
  | [] => rfl
  | k :: r => by
    show PyData.canLayAll0 (.tuple [.int (k : Int), .str (rt (swp cs k))] :: dchg cs r) = true
    simp only [PyData.canLayAll0, lay_dchg h r, Bool.and_true, PyData.canLay0, strOk_swp h]
theorem deep_dchg (cs : List Nat) : ∀ ks : List Nat, PyData.depthAll (dchg cs ks) ≤ 1
  | [] => by show 0 ≤ 1; decide
  | k :: r => by
    show PyData.depthAll (.tuple [.int (k : Int), .str (rt (swp cs k))] :: dchg cs r) ≤ 1
    have := deep_dchg cs r
    simp only [PyData.depthAll, PyData.depth]
    omega
theorem shaped_dchg {cs : List Nat} (h : Rg cs) (ks : List Nat) : SeqAt.shaped (.list (dchg cs ks)) = true := by
  unfold SeqAt.shaped
  rw [Bool.and_eq_true]
  refine ⟨?_, decide_eq_true ?_⟩
  · simp only [PyData.canLay0, lay_dchg h]
  · have := deep_dchg cs ks
    simp only [PyData.depth]
    omega
theorem eqv_dchg {cs : List Nat} (h : Rg cs) (ks : List Nat) : PyData.eqv (.list (dchg cs ks)) (.list (dchg cs ks)) = true := PySem.SeqAt.eqv_refl _ (by simp only [PyData.canLay0, lay_dchg h])
end HopR

set_option Elab.async false
set_option linter.all false
set_option maxRecDepth 100000
namespace HopR
open PySem PySem.Spec PyProof.Rows L2
section
variable {X : Cx}
/-- tuple(text) -/
def rTupT : List V → Hp → VK → Prop := fun vs H Q => ∃ z : Str, vs = [.str z] ∧ z.length ≤ sizeLine ∧ ∀ p : Addr, H p = none → Q (.ref p) (upd H p (.tup ((sg z).map V.str)))
theorem cr_tupT (hcm : X.calm = true) : CallR X (.type "tuple") rTupT := by
  rintro pins s σ H _ us Q I r ⟨z, rfl, hz, q⟩
  obtain ⟨_, rfl, t, rfl⟩ := vals1 r
  refine call_tuple_str (I.ok.hd hcm) z t (fun h' tk acc old items => ?_) hz
  have after : Inv X pins σ H { s with heap := h', toks := tk } := I.kept old
  refine ⟨.ref h'.objs.size, _, after.laid (t' := tk) (fun b o e => Heap.get?_push_of_some _ e) (Nat.le_refl _) ?_, rfl, q _ (after.hok.fresh (Nat.le_refl _))⟩
  refine ⟨by rw [List.length_map, sg_len]; exact hz, acc.toList, vals_of_strs (signs_are items), ?_⟩
  rw [Array.toArray_toList]
  exact IsTup.new _ _
end
/-! ### lists of whole numbers as data -/
def dis (zs : List Int) : List PyData := zs.map PyData.int
theorem dp_ints {K : PySem.W.Frag} {H : Hp} : ∀ zs : List Int, DpAll K H (zs.map V.int) (dis zs)
  | [] => .nil
  | z :: r => .cons (.int z) (dp_ints r)
theorem lay_ints : ∀ zs : List Int, PyData.canLayAll0 (dis zs) = true
  | [] => rfl
  | z :: r => by
    show PyData.canLayAll0 (.int z :: dis r) = true
    simp only [PyData.canLayAll0, lay_ints r, Bool.and_true]
    rfl
theorem deep_ints : ∀ zs : List Int, PyData.depthAll (dis zs) = 0
  | [] => rfl
  | z :: r => by
    show PyData.depthAll (.int z :: dis r) = 0
    simp only [PyData.depthAll, deep_ints r]
    rfl
theorem shaped_zs (zs : List Int) : SeqAt.shaped (.list (dis zs)) = true := by
  unfold SeqAt.shaped
  rw [Bool.and_eq_true]
  refine ⟨?_, decide_eq_true ?_⟩
  · simp only [PyData.canLay0, lay_ints]
  · simp only [PyData.depth, deep_ints]
    decide
theorem cut_ints (ns : List Int) (hi : Int) (hl : ns.length ≤ 63) : ∃ zs : List Int, cutV (ns.map V.int) none (some hi) = zs.map V.int ∧ zs.length ≤ 63 := by
  unfold cutV
  refine ⟨(ns.drop (HT.sIx (ns.map V.int).length 0 none)).take (HT.sIx (ns.map V.int).length (ns.map V.int).length (some hi) - HT.sIx (ns.map V.int).length 0 none), by rw [List.map_take, List.map_drop], ?_⟩
  rw [List.length_take, List.length_drop]
  omega
end HopR

set_option Elab.async false
set_option linter.all false
set_option maxRecDepth 100000
namespace HopW
/-! ### weights of words -/
/-- a line's numbers, each with g of its place -/
def lp (g : Nat → Rat) : List Nat → Rat
  | [] => 0
  | m :: l => (m : Rat) * g 0 + lp (fun b => g (b + 1)) l
def tp (x : Rat) (g : Nat → Rat) : List (List Nat) → Rat
  | [] => 0
  | l :: t => lp g l + x * tp x g t
def sfx : List Nat → List Nat
  | [] => []
  | m :: l => (m + l.sum) :: sfx l
def go (s : Nat) : List (List Nat) → List (List Nat)
  | [] => [[s]]
  | l :: t => (s :: sfx l.tail) :: go l.sum t
def sg (h : Nat → Rat) : Nat → Rat
  | 0 => 0
  | b + 1 => h 0 + sg (fun j => h (j + 1)) b
def fg (x : Rat) (g : Nat → Rat) : Nat → Rat := fun b => x * g 0 + sg (fun j => g (j + 1)) b
def stT (T : List (List Nat)) (b : Bool) : List (List Nat) := if b then T.map (0 :: ·) else go 0 T
def gf (x : Rat) : List Bool → (Nat → Rat) → (Nat → Rat)
  | [], g => g
  | true :: w, g => fun b => gf x w g (b + 1)
  | false :: w, g => fg x (gf x w g)
theorem cast_add (a b : Nat) : ((a + b : Nat) : Rat) = (a : Rat) + (b : Rat) := by exact_mod_cast rfl
theorem lp_lin (c : Rat) (h : Nat → Rat) : ∀ l : List Nat, lp (fun b => c + h b) l = c * (l.sum : Rat) + lp h l := by
  intro l
  induction l generalizing h with
  | nil => show (0 : Rat) = c * ((0 : Nat) : Rat) + 0; grind
  | cons m l ih =>
    show (m : Rat) * (c + h 0) + lp (fun b => c + h (b + 1)) l = c * ((m :: l).sum : Rat) + ((m : Rat) * h 0 + lp (fun b => h (b + 1)) l)
    rw [ih (fun b => h (b + 1)), List.sum_cons, cast_add]
    grind
theorem lp_sfx (h : Nat → Rat) (m : Nat) : ∀ l : List Nat, lp (sg h) (m :: l) = lp h (sfx l) := by
  intro l
  induction l generalizing h m with
  | nil => show (m : Rat) * 0 + 0 = 0; grind
  | cons m' l ih =>
    show (m : Rat) * 0 + lp (fun b => h 0 + sg (fun j => h (j + 1)) b) (m' :: l) = ((m' + l.sum : Nat) : Rat) * h 0 + lp (fun b => h (b + 1)) (sfx l)
    rw [lp_lin, ih, List.sum_cons]
    grind
theorem lp_fg (x : Rat) (g : Nat → Rat) (l : List Nat) : lp (fg x g) l = x * ((l.sum : Rat) * g 0) + lp (fun b => g (b + 1)) (sfx l.tail) := by
  unfold fg
  rw [lp_lin]
  cases l with
  | nil => show x * g 0 * ((0 : Nat) : Rat) + 0 = x * (((0 : Nat) : Rat) * g 0) + 0; grind
  | cons m l =>
    rw [lp_sfx, List.tail_cons]
    grind
theorem tp_go (x : Rat) (g : Nat → Rat) : ∀ (T : List (List Nat)) (s : Nat), tp x g (go s T) = (s : Rat) * g 0 + tp x (fg x g) T := by
  intro T
  induction T with
  | nil =>
    intro s
    show ((s : Rat) * g 0 + 0) + x * 0 = (s : Rat) * g 0 + 0
    grind
  | cons l t ih =>
    intro s
    show ((s : Rat) * g 0 + lp (fun b => g (b + 1)) (sfx l.tail)) + x * tp x g (go l.sum t) = (s : Rat) * g 0 + (lp (fg x g) l + x * tp x (fg x g) t)
    rw [ih, lp_fg]
    grind
theorem tp_bead (x : Rat) (g : Nat → Rat) : ∀ T : List (List Nat), tp x g (T.map (0 :: ·)) = tp x (fun b => g (b + 1)) T := by
  intro T
  induction T with
  | nil => rfl
  | cons l t ih =>
    show (((0 : Nat) : Rat) * g 0 + lp (fun b => g (b + 1)) l) + x * tp x g (t.map (0 :: ·)) = lp (fun b => g (b + 1)) l + x * tp x (fun b => g (b + 1)) t
    rw [ih]
    grind
theorem tp_st (x : Rat) (g : Nat → Rat) (T : List (List Nat)) (b : Bool) : tp x g (stT T b) = tp x (gf x [b] g) T := by
  cases b with
  | true => exact tp_bead x g T
  | false =>
    show tp x g (go 0 T) = tp x (fg x g) T
    rw [tp_go]
    show ((0 : Nat) : Rat) * g 0 + tp x (fg x g) T = _
    grind
theorem gf_app (x : Rat) (g : Nat → Rat) : ∀ u v : List Bool, gf x (u ++ v) g = gf x u (gf x v g)
  | [], _ => rfl
  | true :: u, v => by
    show (fun b => gf x (u ++ v) g (b + 1)) = fun b => gf x u (gf x v g) (b + 1)
    rw [gf_app x g u v]
  | false :: u, v => by
    show fg x (gf x (u ++ v) g) = fg x (gf x u (gf x v g))
    rw [gf_app x g u v]
theorem tp_fold (x : Rat) (g : Nat → Rat) : ∀ (w : List Bool) (T : List (List Nat)), tp x g (w.foldl stT T) = tp x (gf x w g) T := by
  intro w
  induction w with
  | nil => intro T; rfl
  | cons b w ih =>
    intro T
    show tp x g (w.foldl stT (stT T b)) = _
    rw [ih, tp_st]
    show tp x (gf x [b] (gf x w g)) T = _
    rw [← gf_app]
    rfl
def tbl (w : List Bool) : List (List Nat) := w.foldl stT [[1]]
/-- the weight of a word: x for each free place left, y for each bead -/
def wt (x y : Rat) (w : List Bool) : Rat := gf x w (fun b => y ^ b) 0
theorem wt_tbl (x y : Rat) (w : List Bool) : tp x (fun b => y ^ b) (tbl w) = wt x y w := by
  unfold tbl wt
  rw [tp_fold]
  show (((1 : Nat) : Rat) * gf x w (fun b => y ^ b) 0 + 0) + x * 0 = _
  grind
/-! ### what the weights keep -/
theorem sg_add (h k : Nat → Rat) : ∀ b, sg (fun j => h j + k j) b = sg h b + sg k b := by
  intro b
  induction b generalizing h k with
  | zero => show (0 : Rat) = 0 + 0; grind
  | succ b ih =>
    show h 0 + k 0 + sg (fun j => h (j + 1) + k (j + 1)) b = (h 0 + sg (fun j => h (j + 1)) b) + (k 0 + sg (fun j => k (j + 1)) b)
    rw [ih]
    grind
theorem sg_mul (c : Rat) (h : Nat → Rat) : ∀ b, sg (fun j => c * h j) b = c * sg h b := by
  intro b
  induction b generalizing h with
  | zero => show (0 : Rat) = c * 0; grind
  | succ b ih =>
    show c * h 0 + sg (fun j => c * h (j + 1)) b = c * (h 0 + sg (fun j => h (j + 1)) b)
    rw [ih]
    grind
theorem gf_add (x : Rat) (h k : Nat → Rat) : ∀ (w : List Bool) (b : Nat), gf x w (fun j => h j + k j) b = gf x w h b + gf x w k b := by
  intro w
  induction w with
  | nil => intro b; rfl
  | cons s w ih =>
    intro b
    cases s with
    | true => exact ih (b + 1)
    | false =>
      show x * gf x w (fun j => h j + k j) 0 + sg (fun j => gf x w (fun j => h j + k j) (j + 1)) b = (x * gf x w h 0 + sg (fun j => gf x w h (j + 1)) b) + (x * gf x w k 0 + sg (fun j => gf x w k (j + 1)) b)
      rw [ih 0, show (fun j => gf x w (fun j => h j + k j) (j + 1)) = fun j => gf x w h (j + 1) + gf x w k (j + 1) from funext fun j => ih (j + 1), sg_add]
      grind
theorem gf_mul (x c : Rat) (h : Nat → Rat) : ∀ (w : List Bool) (b : Nat), gf x w (fun j => c * h j) b = c * gf x w h b := by
  intro w
  induction w with
  | nil => intro b; rfl
  | cons s w ih =>
    intro b
    cases s with
    | true => exact ih (b + 1)
    | false =>
      show x * gf x w (fun j => c * h j) 0 + sg (fun j => gf x w (fun j => c * h j) (j + 1)) b = c * (x * gf x w h 0 + sg (fun j => gf x w h (j + 1)) b)
      rw [ih 0, show (fun j => gf x w (fun j => c * h j) (j + 1)) = fun j => c * gf x w h (j + 1) from funext fun j => ih (j + 1), sg_mul]
      grind
theorem sg_last (h : Nat → Rat) : ∀ b, sg h (b + 1) = sg h b + h b := by
  intro b
  induction b generalizing h with
  | zero => show h 0 + 0 = 0 + h 0; grind
  | succ b ih =>
    show h 0 + sg (fun j => h (j + 1)) (b + 1) = (h 0 + sg (fun j => h (j + 1)) b) + h (b + 1)
    rw [ih]
    grind
/-- a bead that comes out is gone, or the free place is -/
theorem wt_of (x y : Rat) (u v : List Bool) : wt x y (u ++ true :: false :: v) = wt x y (u ++ true :: v) + wt x y (u ++ false :: v) := by
  unfold wt
  rw [gf_app, gf_app, gf_app, ← gf_add]
  congr 1
  funext b
  show x * gf x v (fun b => y ^ b) 0 + sg (fun j => gf x v (fun b => y ^ b) (j + 1)) (b + 1) = gf x v (fun b => y ^ b) (b + 1) + (x * gf x v (fun b => y ^ b) 0 + sg (fun j => gf x v (fun b => y ^ b) (j + 1)) b)
  rw [sg_last]
  grind
theorem wt_free (x y : Rat) (v : List Bool) : wt x y (false :: v) = x * wt x y v := by
  show x * gf x v (fun b => y ^ b) 0 + 0 = x * gf x v (fun b => y ^ b) 0
  grind
theorem wt_bead (x y : Rat) (v : List Bool) : wt x y (v ++ [true]) = y * wt x y v := by
  unfold wt
  rw [gf_app, ← gf_mul]
  congr 1
  funext b
  show y ^ (b + 1) = y * y ^ b
  rw [Rat.pow_succ, Rat.mul_comm]
theorem sg_pow {x y : Rat} (h : x * y = x + y) : ∀ b, x + sg (fun j => y ^ (j + 1)) b = x * y ^ b := by
  intro b
  induction b with
  | zero => show x + 0 = x * y ^ 0; rw [Rat.pow_zero]; grind
  | succ b ih =>
    rw [sg_last, Rat.pow_succ]
    have e : x * (y ^ b * y) = y ^ b * (x * y) := by grind
    rw [e, h]
    grind
theorem gf_one {x y : Rat} (h : x * y = x + y) : ∀ (w : List Bool) (b : Nat), gf x w (fun b => y ^ b) b = x ^ (w.count false) * y ^ (w.count true) * y ^ b := by
  intro w
  induction w with
  | nil => intro b; show y ^ b = x ^ 0 * y ^ 0 * y ^ b; rw [Rat.pow_zero, Rat.pow_zero]; grind
  | cons s w ih =>
    intro b
    cases s with
    | true =>
      show gf x w (fun b => y ^ b) (b + 1) = _
      rw [ih, List.count_cons_of_ne (by decide), List.count_cons_self, Rat.pow_succ, Rat.pow_succ]
      grind
    | false =>
      show x * gf x w (fun b => y ^ b) 0 + sg (fun j => gf x w (fun b => y ^ b) (j + 1)) b = _
      rw [ih, show (fun j => gf x w (fun b => y ^ b) (j + 1)) = fun j => (x ^ (w.count false) * y ^ (w.count true)) * y ^ (j + 1) from funext fun j => ih (j + 1), sg_mul, List.count_cons_self, List.count_cons_of_ne (by decide), Rat.pow_succ, Rat.pow_zero]
      have e := sg_pow h b
      grind
theorem wt_one {x y : Rat} (h : x * y = x + y) (w : List Bool) : wt x y w = x ^ (w.count false) * y ^ (w.count true) := by
  unfold wt
  rw [gf_one h, Rat.pow_zero]
  grind
/-! ### all heaps counted -/
def sn (h : Nat → Nat) : Nat → Nat
  | 0 => 0
  | b + 1 => h 0 + sn (fun j => h (j + 1)) b
def gn : List Bool → Nat → Nat
  | [], _ => 1
  | true :: w, b => gn w (b + 1)
  | false :: w, b => sn (gn w) (b + 1)
theorem sn_sg (h : Nat → Nat) : ∀ b, ((sn h b : Nat) : Rat) = sg (fun j => (h j : Rat)) b := by
  intro b
  induction b generalizing h with
  | zero => rfl
  | succ b ih =>
    show ((h 0 + sn (fun j => h (j + 1)) b : Nat) : Rat) = (h 0 : Rat) + sg (fun j => (h (j + 1) : Rat)) b
    rw [cast_add, ih]
theorem gn_gf : ∀ (w : List Bool) (b : Nat), ((gn w b : Nat) : Rat) = gf 1 w (fun b => 1 ^ b) b := by
  intro w
  induction w with
  | nil =>
    intro b
    show ((1 : Nat) : Rat) = 1 ^ b
    induction b with
    | zero => rfl
    | succ b ih => rw [Rat.pow_succ, ← ih, Rat.mul_one]
  | cons s w ih =>
    intro b
    cases s with
    | true => exact ih (b + 1)
    | false =>
      show ((sn (gn w) (b + 1) : Nat) : Rat) = 1 * gf 1 w (fun b => 1 ^ b) 0 + sg (fun j => gf 1 w (fun b => 1 ^ b) (j + 1)) b
      rw [sn_sg]
      show (gn w 0 : Rat) + sg (fun j => (gn w (j + 1) : Rat)) b = _
      rw [ih 0, show (fun j => (gn w (j + 1) : Rat)) = fun j => gf 1 w (fun b => 1 ^ b) (j + 1) from funext fun j => ih (j + 1)]
      grind
theorem gn_wt (w : List Bool) : ((gn w 0 : Nat) : Rat) = wt 1 1 w := gn_gf w 0
end HopW

set_option Elab.async false
set_option linter.all false
set_option maxRecDepth 100000
namespace HopR
open PySem PySem.Spec PyProof.Rows L2
/-! ### sorted(texts, reverse=True): the same texts, in some order -/
def ltS (v u : Value) : Bool := decide ((strOf v).cps.toList < (strOf u).cps.toList)
theorem swo_txt : SrtO.Swo ltS where
  asym x y h := decide_eq_false (List.lt_asymm (of_decide_eq_true h))
  tr x y z h1 h2 := by
    have a := List.not_lt.mp (of_decide_eq_false h1)
    have b := List.not_lt.mp (of_decide_eq_false h2)
    exact decide_eq_false (List.not_lt.mpr (List.le_trans a b))
section
variable {prog : Program} {w : World} {A : Around} {s : Shared}
theorem texts_sortable {l : Addr} {vs : List Value} {ss : List Str} (are : StrsAre vs ss) (two : 2 ≤ vs.length) : SrtO.SortableO prog w A s l vs ltS := by
  intro h' _
  refine ⟨oneType', fun Q E q => ?_, fun x y hx hy => ?_⟩
  · obtain ⟨a, b, r, rfl⟩ : ∃ a b r, vs = a :: b :: r := by
      match vs, two with
      | a :: b :: r, _ => exact ⟨a, b, r, rfl⟩
    rw [keyKind_strs are]
    exact wpAny_pure q
  · obtain ⟨a, t, ea⟩ := are.all _ hx
    obtain ⟨b, u, eb⟩ := are.all _ hy
    show wpAny (model prog w) A (keyLt' oneType' x.1 y.1) (fun r s' => s' = _ ∧ r = ltS x.1 y.1) (fun _ _ => False) _
    rw [ea, eb, keyLt'_oneType]
    exact oneLt_str ⟨rfl, rfl⟩
end
section
variable {X : Cx}
def rSortTR (K : PySem.W.Frag) : List V → List V → Hp → VK → Prop := fun vs zs H Q => ∃ (a : Addr) (xs : List Str), vs = [.ref a] ∧ zs = [.bl true] ∧ SqL K H a (xs.map V.str) ∧ ∀ (ys : List Str) (p : Addr), ys.Perm xs → H p = none → Q (.ref p) (upd H p (.lst (ys.map V.str)))
theorem strs_of_vals : ∀ {xs : List Str} {us : List Value}, Vals (xs.map V.str) us → StrsAre us xs
  | [], _, h => by
    cases h
    exact .nil
  | x :: r, _, h => by
    cases h with
    | cons a b =>
      obtain ⟨t, rfl⟩ := a
      exact .cons x t (strs_of_vals b)
theorem cr_sortTR : CallRK X (.builtin "sorted") [Str.ofString "reverse"] (rSortTR X.K) := by
  rintro pins s σ H _ _ us ws Q I r rz ⟨a, xs, rfl, rfl, hs, q⟩
  obtain rfl := Vals.ref1 r
  obtain ⟨w1, rfl, e1⟩ := vals1 rz
  obtain rfl : w1 = Value.bool true := e1
  obtain ⟨its, rv, hl, hz⟩ := I.list hs
  have are := strs_of_vals rv
  refine SrtR.sorted_ordK (b := true) (fun _ => rfl) (args_sorted_rev _ _) (fun _ => args_list_sort_rev _ _) swo_txt hl.isList (by rw [← rv.length]; exact hz) (fun two _ _ _ _ => texts_sortable are two) fun out _ stb => ?_
  have pm : out.reverse.Perm its := out.reverse_perm.trans (stb.perm.trans its.reverse_perm)
  have are' : StrsAre out.reverse (out.reverse.map strOf) := strsAre_map _ fun v hv => are.all v (pm.mem_iff.mp hv)
  have pm' : (out.reverse.map strOf).Perm xs := by
    have := pm.map strOf
    rw [are.strs] at this
    exact this
  obtain ⟨ep, at_⟩ := sortedAll_at s.heap its (if true = true then out.toArray.reverse else out.toArray)
  have hlen : ((out.reverse.map strOf).map V.str).length ≤ sizeLine := by
    rw [List.length_map, pm'.length_eq]
    rw [List.length_map] at hz
    exact hz
  refine ⟨.ref (s.heap.objs.size + 1), upd H (s.heap.objs.size + 1) (.lst ((out.reverse.map strOf).map V.str)), I.laid (t' := s.toks) (fun _ _ => sortedAll_old) (Nat.le_succ _) ⟨hlen, out.reverse, ep, vals_of_strs are', ?_⟩, rfl, q _ _ pm' (I.hok.fresh (Nat.le_succ _))⟩
  rw [at_]
  simp
end
end HopR

set_option Elab.async false
set_option linter.all false
set_option maxRecDepth 100000
namespace HopW
/-! ### all words of so many signs together, and such with signs told by their places -/
def gb (x : Rat) (g : Nat → Rat) : Nat → Rat := fun b => g (b + 1) + fg x g b
def gp (x : Rat) : List (Option Bool) → (Nat → Rat) → (Nat → Rat)
  | [], g => g
  | none :: p, g => gb x (gp x p g)
  | some b :: p, g => gf x [b] (gp x p g)
def ladd : List Nat → List Nat → List Nat
  | [], k => k
  | a :: l, [] => a :: l
  | a :: l, b :: k => (a + b) :: ladd l k
def tadd : List (List Nat) → List (List Nat) → List (List Nat)
  | [], k => k
  | a :: l, [] => a :: l
  | a :: l, b :: k => ladd a b :: tadd l k
def stp (T : List (List Nat)) : Option Bool → List (List Nat)
  | none => tadd (stT T true) (stT T false)
  | some b => stT T b
def tblp (p : List (Option Bool)) : List (List Nat) := p.foldl stp [[1]]
/-- the weights of all words of this form together -/
def pw (x y : Rat) (p : List (Option Bool)) : Rat := gp x p (fun b => y ^ b) 0
theorem lp_ladd (g : Nat → Rat) : ∀ l k : List Nat, lp g (ladd l k) = lp g l + lp g k := by
  intro l
  induction l generalizing g with
  | nil => intro k; show lp g k = 0 + lp g k; grind
  | cons a l ih =>
    intro k
    cases k with
    | nil => show lp g (a :: l) = lp g (a :: l) + 0; grind
    | cons b k =>
      show ((a + b : Nat) : Rat) * g 0 + lp (fun b => g (b + 1)) (ladd l k) = ((a : Rat) * g 0 + lp (fun b => g (b + 1)) l) + ((b : Rat) * g 0 + lp (fun b => g (b + 1)) k)
      rw [ih, cast_add]
      grind
theorem tp_tadd (x : Rat) (g : Nat → Rat) : ∀ S T : List (List Nat), tp x g (tadd S T) = tp x g S + tp x g T := by
  intro S
  induction S with
  | nil => intro T; show tp x g T = 0 + tp x g T; grind
  | cons a l ih =>
    intro T
    cases T with
    | nil => show tp x g (a :: l) = tp x g (a :: l) + 0; grind
    | cons b k =>
      show lp g (ladd a b) + x * tp x g (tadd l k) = (lp g a + x * tp x g l) + (lp g b + x * tp x g k)
      rw [ih, lp_ladd]
      grind
theorem lp_add (g h : Nat → Rat) : ∀ l : List Nat, lp (fun b => g b + h b) l = lp g l + lp h l := by
  intro l
  induction l generalizing g h with
  | nil => show (0 : Rat) = 0 + 0; grind
  | cons m l ih =>
    show (m : Rat) * (g 0 + h 0) + lp (fun b => g (b + 1) + h (b + 1)) l = ((m : Rat) * g 0 + lp (fun b => g (b + 1)) l) + ((m : Rat) * h 0 + lp (fun b => h (b + 1)) l)
    rw [ih]
    grind
theorem tp_add (x : Rat) (g h : Nat → Rat) : ∀ T : List (List Nat), tp x (fun b => g b + h b) T = tp x g T + tp x h T := by
  intro T
  induction T with
  | nil => show (0 : Rat) = 0 + 0; grind
  | cons l t ih =>
    show lp (fun b => g b + h b) l + x * tp x (fun b => g b + h b) t = (lp g l + x * tp x g t) + (lp h l + x * tp x h t)
    rw [ih, lp_add]
    grind
theorem tp_stp (x : Rat) (g : Nat → Rat) (T : List (List Nat)) (s : Option Bool) : tp x g (stp T s) = tp x (gp x [s] g) T := by
  cases s with
  | some b => exact tp_st x g T b
  | none =>
    show tp x g (tadd (stT T true) (stT T false)) = tp x (fun b => g (b + 1) + fg x g b) T
    rw [tp_tadd, tp_st, tp_st, tp_add]
    rfl
theorem gp_app (x : Rat) (g : Nat → Rat) : ∀ u v : List (Option Bool), gp x (u ++ v) g = gp x u (gp x v g)
  | [], _ => rfl
  | none :: u, v => by
    show gb x (gp x (u ++ v) g) = gb x (gp x u (gp x v g))
    rw [gp_app x g u v]
  | some b :: u, v => by
    show gf x [b] (gp x (u ++ v) g) = gf x [b] (gp x u (gp x v g))
    rw [gp_app x g u v]
theorem tp_foldp (x : Rat) (g : Nat → Rat) : ∀ (p : List (Option Bool)) (T : List (List Nat)), tp x g (p.foldl stp T) = tp x (gp x p g) T := by
  intro p
  induction p with
  | nil => intro T; rfl
  | cons s p ih =>
    intro T
    show tp x g (p.foldl stp (stp T s)) = _
    rw [ih, tp_stp]
    show tp x (gp x [s] (gp x p g)) T = _
    rw [← gp_app]
    rfl
theorem tp_one (x : Rat) (h : Nat → Rat) : tp x h [[1]] = h 0 := by
  show (((1 : Nat) : Rat) * h 0 + 0) + x * 0 = _
  grind
theorem pw_tbl (x y : Rat) (p : List (Option Bool)) : tp x (fun b => y ^ b) (tblp p) = pw x y p := by
  unfold tblp pw
  rw [tp_foldp, tp_one]
/-! ### all ends as often as each other -/
def dt : List Nat → List (List Nat)
  | [] => []
  | m :: l => (m :: l) :: dt l
def ot : Nat → List Nat
  | 0 => [1]
  | n + 1 => 0 :: sfx (ot n)
theorem lp_sfx2 (h : Nat → Rat) : ∀ (l : List Nat) (m : Nat), lp h (sfx (m :: l)) = lp h (m :: l) + lp h (sfx l) := by
  intro l
  induction l generalizing h with
  | nil => intro m; show (((m + 0 : Nat) : Rat) * h 0 + 0) = ((m : Rat) * h 0 + 0) + 0; rw [Nat.add_zero]; grind
  | cons m' l ih =>
    intro m
    show ((m + (m' :: l).sum : Nat) : Rat) * h 0 + lp (fun b => h (b + 1)) (sfx (m' :: l)) = ((m : Rat) * h 0 + lp (fun b => h (b + 1)) (m' :: l)) + (((m' + l.sum : Nat) : Rat) * h 0 + lp (fun b => h (b + 1)) (sfx l))
    rw [ih, List.sum_cons, cast_add]
    grind
theorem tp_dt (x : Rat) (g : Nat → Rat) : ∀ l : List Nat, tp x g (dt (0 :: sfx l)) = tp x (gb x g) (dt l) := by
  intro l
  induction l with
  | nil => show (((0 : Nat) : Rat) * g 0 + 0) + x * 0 = 0; grind
  | cons m l ih =>
    have ih : (((0 : Nat) : Rat) * g 0 + lp (fun b => g (b + 1)) (sfx l)) + x * tp x g (dt (sfx l)) = tp x (gb x g) (dt l) := ih
    have e : lp (gb x g) (m :: l) = lp (fun b => g (b + 1)) (m :: l) + lp (fg x g) (m :: l) := lp_add _ _ _
    have e2 := lp_fg x g (m :: l)
    have e3 := lp_sfx2 (fun b => g (b + 1)) l m
    rw [List.tail_cons] at e2
    show (((0 : Nat) : Rat) * g 0 + lp (fun b => g (b + 1)) (sfx (m :: l))) + x * ((((m + l.sum : Nat) : Rat) * g 0 + lp (fun b => g (b + 1)) (sfx l)) + x * tp x g (dt (sfx l))) = lp (gb x g) (m :: l) + x * tp x (gb x g) (dt l)
    rw [e, e2, e3, ← ih, List.sum_cons]
    grind
theorem tp_ot (x : Rat) : ∀ (n : Nat) (g : Nat → Rat), tp x g (dt (ot n)) = gp x (List.replicate n none) g 0 := by
  intro n
  induction n with
  | zero => intro g; exact tp_one x g
  | succ n ih =>
    intro g
    show tp x g (dt (0 :: sfx (ot n))) = _
    rw [tp_dt, ih, List.replicate_succ', gp_app]
    rfl
theorem pw_all (x y : Rat) (n : Nat) : tp x (fun b => y ^ b) (dt (ot n)) = pw x y (List.replicate n none) := tp_ot x n _
/-! ### what these weights keep -/
theorem fg_add (x : Rat) (h k : Nat → Rat) (b : Nat) : fg x (fun j => h j + k j) b = fg x h b + fg x k b := by
  unfold fg
  rw [show (fun j => (fun j => h j + k j) (j + 1)) = fun j => (fun j => h (j + 1)) j + (fun j => k (j + 1)) j from rfl, sg_add]
  grind
theorem fg_mul (x c : Rat) (h : Nat → Rat) (b : Nat) : fg x (fun j => c * h j) b = c * fg x h b := by
  unfold fg
  rw [show (fun j => (fun j => c * h j) (j + 1)) = fun j => c * (fun j => h (j + 1)) j from rfl, sg_mul]
  grind
theorem gp_add (x : Rat) (h k : Nat → Rat) : ∀ (p : List (Option Bool)), gp x p (fun j => h j + k j) = fun b => gp x p h b + gp x p k b := by
  intro p
  induction p with
  | nil => rfl
  | cons s p ih =>
    funext b
    match s with
    | none =>
      show gp x p (fun j => h j + k j) (b + 1) + fg x (gp x p (fun j => h j + k j)) b = (gp x p h (b + 1) + fg x (gp x p h) b) + (gp x p k (b + 1) + fg x (gp x p k) b)
      rw [ih, fg_add]
      grind
    | some true =>
      show gp x p (fun j => h j + k j) (b + 1) = _
      rw [ih]
      rfl
    | some false =>
      show fg x (gp x p (fun j => h j + k j)) b = fg x (gp x p h) b + fg x (gp x p k) b
      rw [ih, fg_add]
theorem gp_mul (x c : Rat) (h : Nat → Rat) : ∀ (p : List (Option Bool)), gp x p (fun j => c * h j) = fun b => c * gp x p h b := by
  intro p
  induction p with
  | nil => rfl
  | cons s p ih =>
    funext b
    match s with
    | none =>
      show gp x p (fun j => c * h j) (b + 1) + fg x (gp x p (fun j => c * h j)) b = c * (gp x p h (b + 1) + fg x (gp x p h) b)
      rw [ih, fg_mul]
      grind
    | some true =>
      show gp x p (fun j => c * h j) (b + 1) = _
      rw [ih]
      rfl
    | some false =>
      show fg x (gp x p (fun j => c * h j)) b = c * fg x (gp x p h) b
      rw [ih, fg_mul]
/-- where either sign may stand -/
theorem pw_none (x y : Rat) (p q : List (Option Bool)) : pw x y (p ++ none :: q) = pw x y (p ++ some true :: q) + pw x y (p ++ some false :: q) := by
  unfold pw
  rw [gp_app, gp_app, gp_app]
  show gp x p (fun b => gp x q (fun b => y ^ b) (b + 1) + fg x (gp x q (fun b => y ^ b)) b) 0 = _
  rw [gp_add]
  rfl
theorem pw_of (x y : Rat) (p q : List (Option Bool)) : pw x y (p ++ some true :: some false :: q) = pw x y (p ++ some true :: q) + pw x y (p ++ some false :: q) := by
  unfold pw
  rw [gp_app, gp_app, gp_app]
  have key : ∀ G : Nat → Rat, gp x p (fun b => fg x G (b + 1)) 0 = gp x p (fun b => G (b + 1)) 0 + gp x p (fg x G) 0 := fun G => by
    rw [show (fun b => fg x G (b + 1)) = fun b => (fun b => G (b + 1)) b + (fg x G) b from funext fun b => by
      unfold fg
      rw [sg_last]
      grind, gp_add]
  exact key _
theorem gp_word (x : Rat) (g : Nat → Rat) : ∀ w : List Bool, gp x (w.map some) g = gf x w g
  | [] => rfl
  | true :: w => by
    show (fun b => gp x (w.map some) g (b + 1)) = fun b => gf x w g (b + 1)
    rw [gp_word x g w]
  | false :: w => by
    show fg x (gp x (w.map some) g) = fg x (gf x w g)
    rw [gp_word x g w]
theorem pw_word (x y : Rat) (w : List Bool) : pw x y (w.map some) = wt x y w := by
  unfold pw wt
  rw [gp_word]
theorem pw_free (x y : Rat) (p : List (Option Bool)) : pw x y (some false :: p) = x * pw x y p := by
  show x * gp x p (fun b => y ^ b) 0 + 0 = x * gp x p (fun b => y ^ b) 0
  grind
theorem pw_bead (x y : Rat) (p : List (Option Bool)) : pw x y (p ++ [some true]) = y * pw x y p := by
  unfold pw
  rw [gp_app]
  show gp x p (fun b => y ^ (b + 1)) 0 = _
  rw [show (fun b => y ^ (b + 1)) = fun b => y * (fun b => y ^ b) b from funext fun b => by
    show y ^ (b + 1) = y * y ^ b
    rw [Rat.pow_succ, Rat.mul_comm], gp_mul]
/-! ### in the mirror -/
def mw (w : List Bool) : List Bool := (w.map not).reverse
def mp (p : List (Option Bool)) : List (Option Bool) := (p.map (Option.map not)).reverse
theorem mw_app (u v : List Bool) : mw (u ++ v) = mw v ++ mw u := by
  unfold mw
  rw [List.map_append, List.reverse_append]
theorem mp_app (u v : List (Option Bool)) : mp (u ++ v) = mp v ++ mp u := by
  unfold mp
  rw [List.map_append, List.reverse_append]
theorem mp_word (w : List Bool) : mp (w.map some) = (mw w).map some := by
  unfold mp mw
  rw [List.map_map, List.map_reverse, List.map_map]
  rfl
theorem kinds_of : ∀ v : List Bool, (∃ u, true :: v = u ++ [true]) ∨ ∃ u r, true :: v = u ++ true :: false :: r
  | [] => .inl ⟨[], rfl⟩
  | false :: v => .inr ⟨[], v, rfl⟩
  | true :: v => by
    rcases kinds_of v with ⟨u, e⟩ | ⟨u, r, e⟩
    · exact .inl ⟨true :: u, by rw [e]; rfl⟩
    · exact .inr ⟨true :: u, r, by rw [e]; rfl⟩
theorem wt_mw (x y : Rat) : ∀ (n : Nat) (w : List Bool), w.length = n → wt x y w = wt y x (mw w) := by
  intro n
  induction n using Nat.strongRecOn with
  | ind n ih =>
    intro w hn
    match w, hn with
    | [], _ =>
      show y ^ 0 = x ^ 0
      rw [Rat.pow_zero, Rat.pow_zero]
    | false :: v, hn =>
      rw [wt_free, ih v.length (by rw [← hn]; exact Nat.lt_succ_self _) v rfl, show mw (false :: v) = mw v ++ [true] from mw_app [false] v, wt_bead]
    | true :: v, hn =>
      rcases kinds_of v with ⟨u, e⟩ | ⟨u, r, e⟩
      · rw [e] at hn ⊢
        rw [List.length_append] at hn
        rw [wt_bead, ih u.length (by rw [← hn]; exact Nat.lt_succ_self _) u rfl, mw_app]
        show _ = wt y x (false :: mw u)
        rw [wt_free]
      · rw [e] at hn ⊢
        rw [List.length_append] at hn
        have hn : u.length + (r.length + 2) = n := hn
        have e1 : mw (u ++ true :: false :: r) = mw r ++ true :: false :: mw u := by
          rw [mw_app, show mw (true :: false :: r) = mw r ++ [true, false] from mw_app [true, false] r, List.append_assoc]
          rfl
        have e2 : mw (u ++ true :: r) = mw r ++ false :: mw u := by
          rw [mw_app, show mw (true :: r) = mw r ++ [false] from mw_app [true] r, List.append_assoc]
          rfl
        have e3 : mw (u ++ false :: r) = mw r ++ true :: mw u := by
          rw [mw_app, show mw (false :: r) = mw r ++ [true] from mw_app [false] r, List.append_assoc]
          rfl
        have l1 : (u ++ true :: r).length = n - 1 := by
          rw [List.length_append]
          show u.length + (r.length + 1) = _
          omega
        have l2 : (u ++ false :: r).length = n - 1 := by
          rw [List.length_append]
          show u.length + (r.length + 1) = _
          omega
        rw [wt_of, ih (n - 1) (by omega) _ l1, ih (n - 1) (by omega) _ l2, e1, e2, e3, wt_of]
        grind
theorem pw_mirror (x y : Rat) : ∀ (p : List (Option Bool)) (w : List Bool), pw x y (w.map some ++ p) = pw y x (mp p ++ (mw w).map some) := by
  intro p
  induction p with
  | nil =>
    intro w
    rw [List.append_nil, pw_word, wt_mw x y _ w rfl, ← pw_word]
    rfl
  | cons s p ih =>
    intro w
    have hs : ∀ b, pw x y (w.map some ++ some b :: p) = pw y x (mp p ++ some (!b) :: (mw w).map some) := fun b => by
      have := ih (w ++ [b])
      rw [List.map_append, List.append_assoc, mw_app] at this
      exact this
    have hm : ∀ s, mp (s :: p) ++ (mw w).map some = mp p ++ Option.map not s :: (mw w).map some := fun s => by
      rw [show mp (s :: p) = mp p ++ [Option.map not s] from mp_app [s] p, List.append_assoc]
      rfl
    rw [hm]
    cases s with
    | some b => exact hs b
    | none =>
      rw [pw_none, hs, hs]
      show _ = pw y x (mp p ++ none :: (mw w).map some)
      rw [pw_none]
      show pw y x (mp p ++ some false :: _) + pw y x (mp p ++ some true :: _) = _
      grind
theorem pw_mp (x y : Rat) (p : List (Option Bool)) : pw x y p = pw y x (mp p) := by
  have := pw_mirror x y p []
  rw [show mw [] = [] from rfl, List.map_nil, List.append_nil] at this
  exact this
/-! ### paces that come to one -/
theorem gp_one {x y : Rat} (h : x * y = x + y) : ∀ (p : List (Option Bool)) (b : Nat), gp x p (fun b => y ^ b) b = x ^ (p.count (some false)) * y ^ (p.count (some true)) * (x * y) ^ (p.count none) * y ^ b := by
  intro p
  induction p with
  | nil => intro b; show y ^ b = x ^ 0 * y ^ 0 * (x * y) ^ 0 * y ^ b; rw [Rat.pow_zero, Rat.pow_zero, Rat.pow_zero]; grind
  | cons s p ih =>
    intro b
    have ef : fg x (gp x p (fun b => y ^ b)) b = x * (x ^ (p.count (some false)) * y ^ (p.count (some true)) * (x * y) ^ (p.count none)) * y ^ b := by
      rw [show gp x p (fun b => y ^ b) = fun j => (x ^ (p.count (some false)) * y ^ (p.count (some true)) * (x * y) ^ (p.count none)) * (fun j => y ^ j) j from funext fun j => ih j, fg_mul]
      have e := sg_pow h b
      show _ * (x * y ^ 0 + sg (fun j => y ^ (j + 1)) b) = _
      rw [Rat.pow_zero, Rat.mul_one, e]
      grind
    match s with
    | some true =>
      show gp x p (fun b => y ^ b) (b + 1) = _
      rw [ih, List.count_cons_of_ne (by decide), List.count_cons_self, List.count_cons_of_ne (by decide), Rat.pow_succ, Rat.pow_succ]
      grind
    | some false =>
      show fg x (gp x p (fun b => y ^ b)) b = _
      rw [ef, List.count_cons_self, List.count_cons_of_ne (by decide), List.count_cons_of_ne (by decide), Rat.pow_succ]
      grind
    | none =>
      show gp x p (fun b => y ^ b) (b + 1) + fg x (gp x p (fun b => y ^ b)) b = _
      rw [ef, ih, List.count_cons_of_ne (by decide), List.count_cons_of_ne (by decide), List.count_cons_self, Rat.pow_succ, Rat.pow_succ, h]
      grind
theorem pw_one {x y : Rat} (h : x * y = x + y) (p : List (Option Bool)) : pw x y p = x ^ (p.count (some false)) * y ^ (p.count (some true)) * (x * y) ^ (p.count none) := by
  unfold pw
  rw [gp_one h, Rat.pow_zero, Rat.mul_one]
/-! ### above nought -/
theorem sg_nn {h : Nat → Rat} : ∀ {b : Nat}, (∀ j, 0 < h j) → 0 ≤ sg h b := by
  intro b
  induction b generalizing h with
  | zero => intro _; exact Rat.le_refl
  | succ b ih =>
    intro p
    have h1 := p 0
    have h2 := ih (h := fun j => h (j + 1)) (fun j => p (j + 1))
    show 0 ≤ h 0 + sg (fun j => h (j + 1)) b
    grind
theorem fg_pos {x : Rat} {h : Nat → Rat} (hx : 0 < x) (p : ∀ j, 0 < h j) (b : Nat) : 0 < fg x h b := by
  have h1 := sg_nn (h := fun j => h (j + 1)) (b := b) (fun j => p (j + 1))
  have h2 : 0 < x * h 0 := Rat.mul_pos hx (p 0)
  show 0 < x * h 0 + sg (fun j => h (j + 1)) b
  grind
theorem gp_pos {x : Rat} (hx : 0 < x) {g : Nat → Rat} (hg : ∀ j, 0 < g j) : ∀ (p : List (Option Bool)) (b : Nat), 0 < gp x p g b := by
  intro p
  induction p with
  | nil => exact hg
  | cons s p ih =>
    intro b
    match s with
    | none =>
      have h1 := ih (b + 1)
      have h2 := fg_pos hx ih b
      show 0 < gp x p g (b + 1) + fg x (gp x p g) b
      grind
    | some true => exact ih (b + 1)
    | some false => exact fg_pos hx ih b
theorem ypow_pos {y : Rat} (hy : 0 < y) : ∀ b : Nat, 0 < y ^ b
  | 0 => by rw [Rat.pow_zero]; decide
  | b + 1 => by rw [Rat.pow_succ]; exact Rat.mul_pos (ypow_pos hy b) hy
theorem pw_pos {x y : Rat} (hx : 0 < x) (hy : 0 < y) (p : List (Option Bool)) : 0 < pw x y p := gp_pos hx (ypow_pos hy) p 0
end HopW

set_option Elab.async false
set_option linter.all false
set_option maxRecDepth 100000
namespace HopW
/-! ### signs told by their places -/
def pat (n : Nat) (S : Nat → Option Bool) : List (Option Bool) := (List.range n).map S
def upS (S : Nat → Option Bool) (j : Nat) (v : Option Bool) : Nat → Option Bool := fun i => if i = j then v else S i
theorem pat_congr {n : Nat} {S T : Nat → Option Bool} (h : ∀ i, i < n → S i = T i) : pat n S = pat n T := List.map_congr_left fun i hi => h i (List.mem_range.mp hi)
theorem pat_none (n : Nat) : pat n (fun _ => none) = List.replicate n none := by
  unfold pat
  rw [List.map_const', List.length_range]
theorem pat_up {n j : Nat} (h : j < n) (S : Nat → Option Bool) (v : Option Bool) : pat n (upS S j v) = (List.range j).map S ++ v :: (List.range (n - 1 - j)).map fun i => S (j + 1 + i) := by
  unfold pat
  obtain ⟨k, rfl⟩ : ∃ k, n = j + (k + 1) := ⟨n - 1 - j, by omega⟩
  rw [List.range_add, List.map_append, List.range_succ_eq_map, List.map_cons, List.map_cons, show j + (k + 1) - 1 - j = k by omega]
  congr 1
  · exact List.map_congr_left fun i hi => if_neg (by have := List.mem_range.mp hi; omega)
  · congr 1
    · show (if j + 0 = j then v else _) = v
      rw [if_pos (Nat.add_zero j)]
    · rw [List.map_map, List.map_map]
      refine List.map_congr_left fun i _ => ?_
      show (if j + (i + 1) = j then v else S (j + (i + 1))) = S (j + 1 + i)
      rw [if_neg (by omega), show j + (i + 1) = j + 1 + i by omega]
theorem pat_split (x y : Rat) {n j : Nat} (h : j < n) (S : Nat → Option Bool) : pw x y (pat n (upS S j none)) = pw x y (pat n (upS S j (some true))) + pw x y (pat n (upS S j (some false))) := by
  rw [pat_up h, pat_up h, pat_up h, pw_none]
theorem pat_mp (n : Nat) (S : Nat → Option Bool) : mp (pat n S) = pat n fun i => Option.map not (S (n - 1 - i)) := by
  unfold mp pat
  rw [List.map_map]
  refine List.ext_getElem (by rw [List.length_reverse, List.length_map, List.length_map]) fun i h1 h2 => ?_
  rw [List.length_map, List.length_range] at h2
  rw [List.getElem_reverse, List.getElem_map, List.getElem_range, List.getElem_map, List.getElem_range, List.length_map, List.length_range]
  rfl
theorem pat_mirror (x y : Rat) (n : Nat) (S : Nat → Option Bool) : pw x y (pat n S) = pw y x (pat n fun i => Option.map not (S (n - 1 - i))) := by
  rw [pw_mp, pat_mp]
theorem all_mirror (x y : Rat) (n : Nat) : pw x y (List.replicate n none) = pw y x (List.replicate n none) := by
  rw [← pat_none, pat_mirror]
  rfl
theorem up_none (S : Nat → Option Bool) (j : Nat) (h : S j = none) : upS S j none = S := funext fun i => by
  unfold upS
  by_cases e : i = j
  · rw [if_pos e, e, h]
  · rw [if_neg e]
theorem up_comm (S : Nat → Option Bool) {i j : Nat} (h : i ≠ j) (a b : Option Bool) : upS (upS S i a) j b = upS (upS S j b) i a := funext fun l => by
  unfold upS
  by_cases e : l = j
  · rw [if_pos e, if_neg (by omega), if_pos e]
  · rw [if_neg e]
    by_cases e2 : l = i
    · rw [if_pos e2, if_pos e2]
    · rw [if_neg e2, if_neg e2, if_neg e]
def zS : Nat → Option Bool := fun _ => none
/-- a bead at a place, or none in the mirror -/
theorem one_mirror (x y : Rat) {n j : Nat} (h : j < n) : pw x y (pat n (upS zS j (some true))) + pw y x (pat n (upS zS (n - 1 - j) (some true))) = pw x y (List.replicate n none) := by
  have e := pat_split x y h zS
  rw [up_none zS j rfl, show pat n zS = List.replicate n none from pat_none n] at e
  rw [e, pat_mirror y x n (upS zS (n - 1 - j) (some true))]
  congr 2
  refine pat_congr fun i hi => ?_
  unfold upS zS
  by_cases c : i = j
  · rw [if_pos (by omega), if_pos c]
    rfl
  · rw [if_neg (by omega), if_neg c]
    rfl
theorem two_mirror (x y : Rat) {n i j : Nat} (hi : i < n) (hj : j < n) (hij : i ≠ j) : pw x y (pat n (upS (upS zS i (some true)) j (some true))) + pw x y (List.replicate n none) =
    pw x y (pat n (upS zS i (some true))) + pw x y (pat n (upS zS j (some true))) + pw y x (pat n (upS (upS zS (n - 1 - i) (some true)) (n - 1 - j) (some true))) := by
  have e0 := pat_split x y hi zS
  rw [up_none zS i rfl, show pat n zS = List.replicate n none from pat_none n] at e0
  have e1 := pat_split x y hj (upS zS i (some true))
  rw [up_none _ j (show upS zS i (some true) j = none from if_neg (by omega))] at e1
  have e2 := pat_split x y hj (upS zS i (some false))
  rw [up_none _ j (show upS zS i (some false) j = none from if_neg (by omega))] at e2
  have e3 := pat_split x y hi (upS zS j (some true))
  rw [up_none _ i (show upS zS j (some true) i = none from if_neg hij), ← up_comm zS hij (some true) (some true), ← up_comm zS hij (some false) (some true)] at e3
  have e4 : pw y x (pat n (upS (upS zS (n - 1 - i) (some true)) (n - 1 - j) (some true))) = pw x y (pat n (upS (upS zS i (some false)) j (some false))) := by
    rw [pat_mirror y x]
    congr 1
    refine pat_congr fun l hl => ?_
    unfold upS zS
    by_cases c : l = j
    · rw [if_pos (by omega), if_pos c]
      rfl
    · rw [if_neg (by omega), if_neg c]
      by_cases c2 : l = i
      · rw [if_pos (by omega), if_pos c2]
        rfl
      · rw [if_neg (by omega), if_neg c2]
        rfl
  rw [e4]
  grind
end HopW

set_option Elab.async false
set_option linter.all false
set_option maxRecDepth 100000
namespace HopW
/-! ### where both paces come to one, no place hangs on another -/
def sv (x y : Rat) : Option Bool → Rat
  | none => x * y
  | some true => y
  | some false => x
theorem pw_nil (x y : Rat) : pw x y [] = 1 := Rat.pow_zero y
theorem pw_cons1 {x y : Rat} (h : x * y = x + y) (s : Option Bool) (p : List (Option Bool)) : pw x y (s :: p) = sv x y s * pw x y p := by
  rw [pw_one h, pw_one h]
  match s with
  | none =>
    rw [List.count_cons_of_ne (by decide), List.count_cons_of_ne (by decide), List.count_cons_self, Rat.pow_succ]
    show _ = x * y * _
    grind
  | some true =>
    rw [List.count_cons_of_ne (by decide), List.count_cons_self, List.count_cons_of_ne (by decide), Rat.pow_succ]
    show _ = y * _
    grind
  | some false =>
    rw [List.count_cons_self, List.count_cons_of_ne (by decide), List.count_cons_of_ne (by decide), Rat.pow_succ]
    show _ = x * _
    grind
theorem pw_app1 {x y : Rat} (h : x * y = x + y) : ∀ p r : List (Option Bool), pw x y (p ++ r) = pw x y p * pw x y r
  | [], r => by rw [pw_nil, List.nil_append, Rat.one_mul]
  | s :: p, r => by rw [List.cons_append, pw_cons1 h, pw_cons1 h, pw_app1 h p r, Rat.mul_assoc]
theorem pw_rep1 {x y : Rat} (h : x * y = x + y) : ∀ n : Nat, pw x y (List.replicate n none) = (x * y) ^ n
  | 0 => by
    rw [Rat.pow_zero]
    exact pw_nil x y
  | n + 1 => by
    rw [List.replicate_succ, pw_cons1 h, pw_rep1 h n, Rat.pow_succ]
    show x * y * _ = _
    grind
/-- one sign told -/
theorem pat_sign {x y : Rat} (h : x * y = x + y) {n j : Nat} (hj : j < n) (S : Nat → Option Bool) (hS : S j = none) (v : Option Bool) : pw x y (pat n (upS S j v)) * (x * y) = pw x y (pat n S) * sv x y v := by
  have e := pat_up hj S none
  rw [up_none S j hS] at e
  rw [e, pat_up hj S v, pw_app1 h, pw_app1 h, pw_cons1 h, pw_cons1 h]
  show _ = _ * (x * y * _) * _
  grind
/-- beads at each place in turn, together -/
def bT (n : Nat) : Nat → List (List Nat)
  | 0 => []
  | m + 1 => tadd (bT n m) (tblp (pat n (upS zS m (some true))))
theorem bT_tp (x y : Rat) (n m : Nat) : tp x (fun b => y ^ b) (bT n (m + 1)) = tp x (fun b => y ^ b) (bT n m) + pw x y (pat n (upS zS m (some true))) := by
  show tp x (fun b => y ^ b) (tadd (bT n m) (tblp (pat n (upS zS m (some true))))) = _
  rw [tp_tadd, pw_tbl]
theorem bT_one {x y : Rat} (h : x * y = x + y) {n : Nat} : ∀ m : Nat, m ≤ n → tp x (fun b => y ^ b) (bT n m) * (x * y) = (m : Rat) * (pw x y (List.replicate n none) * y)
  | 0, _ => by
    show (0 : Rat) * (x * y) = ((0 : Nat) : Rat) * _
    grind
  | m + 1, hm => by
    have e := pat_sign h (show m < n by omega) zS rfl (some true)
    rw [show pat n zS = List.replicate n none from pat_none n] at e
    have e : pw x y (pat n (upS zS m (some true))) * (x * y) = pw x y (List.replicate n none) * y := e
    rw [bT_tp, Rat.add_mul, bT_one h m (by omega), e, cast_add]
    grind
end HopW

set_option Elab.async false
set_option linter.all false
set_option maxRecDepth 100000
namespace HopW
/-! ### the totals by numbers of signs left -/
def hh (x y : Rat) : Nat → Rat
  | 0 => 1
  | k + 1 => y ^ (k + 1) + x * hh x y k
def ms (x y : Rat) (k : Nat) : Nat → Rat
  | 0 => 0
  | j + 1 => ms x y k j + x ^ j * y ^ (k - j)
theorem lp_cmul (c : Rat) (g : Nat → Rat) : ∀ l : List Nat, lp (fun b => c * g b) l = c * lp g l := by
  intro l
  induction l generalizing g with
  | nil => show (0 : Rat) = c * 0; grind
  | cons m l ih =>
    show (m : Rat) * (c * g 0) + lp (fun b => c * g (b + 1)) l = c * ((m : Rat) * g 0 + lp (fun b => g (b + 1)) l)
    rw [ih]
    grind
theorem tp_hh (x y : Rat) : ∀ l : List Nat, tp x (fun b => y ^ b) (dt l) = lp (hh x y) l := by
  intro l
  induction l with
  | nil => rfl
  | cons m l ih =>
    show ((m : Rat) * y ^ 0 + lp (fun b => y ^ (b + 1)) l) + x * tp x (fun b => y ^ b) (dt l) = (m : Rat) * 1 + lp (fun b => y ^ (b + 1) + x * hh x y b) l
    rw [ih, lp_add, lp_cmul, Rat.pow_zero]
    grind
theorem ms_shift (x y : Rat) (k : Nat) : ∀ j : Nat, ms x y (k + 1) (j + 1) = y ^ (k + 1) + x * ms x y k j := by
  intro j
  induction j with
  | zero =>
    show 0 + x ^ 0 * y ^ (k + 1 - 0) = y ^ (k + 1) + x * 0
    rw [Rat.pow_zero, Nat.sub_zero]
    grind
  | succ j ih =>
    show ms x y (k + 1) (j + 1) + x ^ (j + 1) * y ^ (k + 1 - (j + 1)) = y ^ (k + 1) + x * (ms x y k j + x ^ j * y ^ (k - j))
    rw [ih, Rat.pow_succ, show k + 1 - (j + 1) = k - j by omega]
    grind
theorem ms_all (x y : Rat) : ∀ k : Nat, ms x y k (k + 1) = hh x y k := by
  intro k
  induction k with
  | zero =>
    show 0 + x ^ 0 * y ^ (0 - 0) = 1
    rw [Rat.pow_zero, Nat.sub_self, Rat.pow_zero]
    grind
  | succ k ih =>
    rw [ms_shift, ih]
    rfl
theorem lp_snoc (g : Nat → Rat) : ∀ (l : List Nat) (m : Nat), lp g (l ++ [m]) = lp g l + (m : Rat) * g l.length := by
  intro l
  induction l generalizing g with
  | nil => intro m; show (m : Rat) * g 0 + 0 = 0 + (m : Rat) * g 0; grind
  | cons a l ih =>
    intro m
    show (a : Rat) * g 0 + lp (fun b => g (b + 1)) (l ++ [m]) = ((a : Rat) * g 0 + lp (fun b => g (b + 1)) l) + (m : Rat) * g (l.length + 1)
    rw [ih]
    grind
theorem lp_take (g : Nat → Rat) {l : List Nat} {j m : Nat} (h : l[j]? = some m) : lp g (l.take (j + 1)) = lp g (l.take j) + (m : Rat) * g j := by
  have hj := (List.getElem?_eq_some_iff.mp h).1
  rw [List.take_add_one, h]
  show lp g (l.take j ++ [m]) = _
  rw [lp_snoc, List.length_take, Nat.min_eq_left (by omega)]
theorem tp_snoc (x : Rat) (g : Nat → Rat) : ∀ (T : List (List Nat)) (L : List Nat), tp x g (T ++ [L]) = tp x g T + x ^ T.length * lp g L := by
  intro T
  induction T with
  | nil =>
    intro L
    show lp g L + x * 0 = 0 + x ^ 0 * lp g L
    rw [Rat.pow_zero]
    grind
  | cons a T ih =>
    intro L
    show lp g a + x * tp x g (T ++ [L]) = (lp g a + x * tp x g T) + x ^ (T.length + 1) * lp g L
    rw [ih, Rat.pow_succ]
    grind
theorem lp_zeros (g : Nat → Rat) : ∀ k : Nat, lp g (List.replicate k 0) = 0 := by
  intro k
  induction k generalizing g with
  | zero => rfl
  | succ k ih =>
    show ((0 : Nat) : Rat) * g 0 + lp (fun b => g (b + 1)) (List.replicate k 0) = 0
    rw [ih]
    grind
def dgT (k : Nat) : Nat → List (List Nat)
  | 0 => []
  | j + 1 => dgT k j ++ [List.replicate (k - j) 0 ++ [1]]
theorem dgT_len (k : Nat) : ∀ j : Nat, (dgT k j).length = j
  | 0 => rfl
  | j + 1 => by
    show (dgT k j ++ [_]).length = j + 1
    rw [List.length_append, dgT_len k j]
    rfl
theorem tp_dgT (x y : Rat) (k : Nat) : ∀ j : Nat, tp x (fun b => y ^ b) (dgT k j) = ms x y k j
  | 0 => rfl
  | j + 1 => by
    show tp x (fun b => y ^ b) (dgT k j ++ [List.replicate (k - j) 0 ++ [1]]) = ms x y k j + x ^ j * y ^ (k - j)
    rw [tp_snoc, tp_dgT x y k j, dgT_len, lp_snoc, lp_zeros, List.length_replicate]
    show _ + x ^ j * (0 + ((1 : Nat) : Rat) * y ^ (k - j)) = _
    grind
/-! ### how often each number is left -/
def fac : Nat → Nat
  | 0 => 1
  | n + 1 => fac n * (n + 1)
def bal (n k : Nat) : Nat := k * fac (2 * n - 1 - k) / (fac n * fac (n - k))
def balRow (n : Nat) : List Nat := (List.range (n + 1)).map (bal n)
def balOk (n : Nat) : Bool := decide (0 :: sfx (balRow n) = balRow (n + 1))
theorem bal_all : (List.range 40).all (fun n => n == 0 || balOk n) = true := by decide +kernel
theorem bal_first : ot 1 = balRow 1 := by decide +kernel
theorem ot_bal : ∀ n : Nat, 1 ≤ n → n ≤ 40 → ot n = balRow n
  | 0, h, _ => absurd h (by decide)
  | 1, _, _ => bal_first
  | n + 2, _, h => by
    have e := List.all_eq_true.mp bal_all (n + 1) (List.mem_range.mpr (by omega))
    have e2 : balOk (n + 1) = true := by simpa using e
    show 0 :: sfx (ot (n + 1)) = _
    rw [ot_bal (n + 1) (by omega) (by omega)]
    exact of_decide_eq_true e2
def cat : Nat → Nat
  | 0 => 1
  | m + 1 => cat m * (4 * m + 2) / (m + 2)
def wsum (s : Nat) : List Nat → Nat
  | [] => 0
  | m :: l => m * s + wsum (s + 1) l
theorem cat_all : (List.range 41).all (fun n => decide (wsum 1 (if n = 0 then [1] else balRow n) = cat (n + 1))) = true := by decide +kernel
theorem hh_one : ∀ k : Nat, hh 1 1 k = ((k + 1 : Nat) : Rat)
  | 0 => rfl
  | k + 1 => by
    have p : ∀ j : Nat, (1 : Rat) ^ j = 1 := fun j => by
      induction j with
      | zero => exact Rat.pow_zero 1
      | succ j ih => rw [Rat.pow_succ, ih, Rat.mul_one]
    show 1 ^ (k + 1) + 1 * hh 1 1 k = _
    rw [p, hh_one k, show ((k + 1 + 1 : Nat) : Rat) = ((k + 1 : Nat) : Rat) + ((1 : Nat) : Rat) from cast_add _ _]
    show 1 + 1 * ((k + 1 : Nat) : Rat) = ((k + 1 : Nat) : Rat) + 1
    grind
theorem lp_wsum (g : Nat → Rat) : ∀ (l : List Nat) (s : Nat), (∀ k, g k = ((k + s : Nat) : Rat)) → lp g l = ((wsum s l : Nat) : Rat) := by
  intro l
  induction l generalizing g with
  | nil => intro s _; rfl
  | cons m l ih =>
    intro s h
    show (m : Rat) * g 0 + lp (fun b => g (b + 1)) l = ((m * s + wsum (s + 1) l : Nat) : Rat)
    rw [ih (fun b => g (b + 1)) (s + 1) (fun k => by show g (k + 1) = _; rw [h, show k + 1 + s = k + (s + 1) by omega]), h 0, Nat.zero_add, cast_add]
    congr 1
    exact_mod_cast rfl
theorem ones_cat {n : Nat} (h : n ≤ 40) : pw 1 1 (List.replicate n none) = ((cat (n + 1) : Nat) : Rat) := by
  rw [← pw_all, tp_hh, lp_wsum _ _ 1 hh_one]
  have e := of_decide_eq_true (List.all_eq_true.mp cat_all n (List.mem_range.mpr (by omega)))
  rw [← e]
  by_cases hn : n = 0
  · rw [if_pos hn, hn]
    rfl
  · rw [if_neg hn, ot_bal n (by omega) h]
/-! ### what goes through is below each pace -/
theorem all_more {x y : Rat} (hx : 0 < x) (hy : 0 < y) (n : Nat) : x * pw x y (List.replicate n none) < pw x y (List.replicate (n + 1) none) := by
  have e := pw_none x y [] (List.replicate n none)
  rw [List.nil_append, List.nil_append, List.nil_append, pw_free] at e
  have p := pw_pos hx hy (some true :: List.replicate n none)
  rw [List.replicate_succ, e]
  grind
end HopW

set_option Elab.async false
set_option linter.all false
set_option maxRecDepth 100000
namespace HopR
open PySem PySem.Spec PyProof.Rows L2
/-! ### walks that hand out new tuples -/
/-- n turns; at each a new tuple of items that Y tells -/
def ItTup (n : Nat) (Y : Nat → List V → Prop) : It :=
  ⟨fun i _ => i < n, fun i H v H' => ∃ T xs, v = .ref T ∧ H T = none ∧ H' = upd H T (.tup xs) ∧ Y i xs, fun i _ => n ≤ i⟩
theorem turn_tup {P : Program} {w : World} {K : PySem.W.Frag} {elts : List Expr} {kk : Nat} {tpos : Pos} {it : Addr} {fp wr : List Addr} {n : Nat} {Pt : Nat → Array Value → Prop} {St : Nat → Heap → Prop} {Mid : Nat → Addr → Heap → Prop} {Y : Nat → List V → Prop}
    (mem : it ∈ fp) (obj : ∀ i h, St i h → ∀ b ∈ fp, ∃ o, h.get? b = some o ∧ ∀ v, o.data ≠ .cell v) (W : ∀ A : Around, A.handled = none → WalksT P w A it fp wr n Pt St Mid)
    (tells : ∀ i vals, Pt i vals → ∃ xs, xs.length ≤ sizeLine ∧ Vals xs vals.toList ∧ Y i xs) (self : ∀ (A : Around) (i : Nat) (s : Shared) (Q : Value → Shared → Prop) (E : Value → Shared → Prop), St i s.heap → Q (.ref it) s → wpAny (model P w) A (pyIter (.ref it)) Q E s)
    (W0 : WalksT P w callerA it fp wr n Pt St Mid) :
    Turn P w K (.Tuple elts kk tpos) (ItTup n Y) fp it (fun i h => i ≤ n ∧ St i h) where
  mem := mem
  obj i h st := obj i h st.2
  keep i h h' st k := ⟨st.1, W0.frame i h h' st.2 k⟩
  item := by
    intro X hP hw hK calm i pins s σ H E I free st go
    subst hP hw hK
    have V := W X.A (I.ok.hd calm)
    refine V.item i s _ E go st.2 fun T vals h1 tk told new tup mid old => ⟨.ref T, rfl, ?_⟩
    refine V.go elts kk tpos i T _ _ E mid fun h2 st2 old2 => ?_
    obtain ⟨xs, few, are, y⟩ := tells i vals told
    have out := V.apart i T h1 mid
    obtain ⟨o, ho, hr⟩ := tup
    have tup2 : h2.IsTuple T vals := ⟨o, old2 T o out ho, hr⟩
    have ok : ObjOk X.prog X.w (upd H T (.tup xs)) h2 T (.tup xs) := ⟨few, vals.toList, are, by rw [Array.toArray_toList]; exact tup2⟩
    have J : Inv X pins σ (upd H T (.tup xs)) { s with heap := h2, toks := tk } := I.turnedNew (ch := fp) (fun b ob nb q => old2 b ob (fun z => nb (V.sub b z)) (old b ob (fun z => nb (V.sub b z)) q)) free new ok
    refine ⟨.ref T, _, J, rfl, ⟨T, xs, rfl, I.hok.fresh new, rfl, y⟩, ⟨go, st2⟩, fun b hb => ?_⟩
    obtain ⟨ob, q, _⟩ := obj i s.heap st.2 b hb
    rw [upd_ne (Nat.ne_of_lt (Nat.lt_of_lt_of_le (Heap.lt_size q) new))]
    exact (free b hb).1
  done := by
    intro X hP hw hK calm i pins s σ H E I free st stop
    subst hP hw hK
    have V := W X.A (I.ok.hd calm)
    obtain rfl : i = n := Nat.le_antisymm st.1 stop
    exact V.done s _ E st.2 fun h1 tk old => ⟨rfl, I.turnedL (ch := fp) (fun b o nb q => old b o (fun z => nb (V.sub b z)) q) free⟩
  self A i s Q E st q := self A i s Q E st.2 q
/-- a loop over such a walk -/
theorem walk_tup {n : Nat} {Y : Nat → List V → Prop} : Walk (ItTup n Y) n (fun _ => True) (fun i H v H' => ∃ T xs, v = .ref T ∧ H T = none ∧ H' = upd H T (.tup xs) ∧ Y i xs) :=
  ⟨fun _ _ lt _ => lt, fun _ _ => Nat.le_refl _, fun _ _ _ _ _ _ y => y⟩
/-! ### zip(text, text) -/
theorem draws_txt {prog : Program} {w : World} {A : Around} (hh : A.handled = none) (it : Addr) (x : Str) (t : Tok) :
    Draws prog w A it [it] x.cps.size (fun i v => ∃ c u, x.cps[i]? = some c ∧ v = .str ⟨#[c]⟩ u) (fun i h => h.IsStrIter it (strIterType x) x t i) := by
  unfold strIterType
  split
  · exact .strAscii hh it x t
  · exact .strWide hh it x t
/-- the signs of both texts, place by place -/
def ZipY (x y : Str) (i : Nat) (vs : List V) : Prop := ∃ c e, x.cps[i]? = some c ∧ y.cps[i]? = some e ∧ vs = [.str ⟨#[c]⟩, .str ⟨#[e]⟩]
def iZipS (ta : TA) : TI := fun σ H R => ta σ H fun vs H1 => ∃ x y : Str, vs = [.str x, .str y] ∧ R (ItTup (min x.cps.size y.cps.size) (ZipY x y)) H1
theorem pi_zipS {X : Cx} {e e2 : Expr} {ta : TA} {p pos tpos : Pos} {elts : List Expr} {kk : Nat} (hg : Gl X "zip") (hm : X.mg "zip" = none) (ha : PA X [e, e2] ta)
    (hs : starEach [e, e2] X.env = (false, eval e X.env) :: starEach [e2] X.env := by rfl) (hpl : (backTo pos (starEach [e2] X.env)).any (·.1) = false := by rfl) :
    PI X (.Tuple elts kk tpos) (.Call (.Name "zip" p) [e, e2] [] pos) (iZipS ta) := by
  constructor
  intro pins s σ H R I h
  refine Call_ (ld_blt I hg hm boot_zip (callWith_type1 (thn (ha.run pos pins s σ H _ I h) ?_) hs hpl))
  rintro us s1 ⟨_, H1, J, rel, x, y, rfl, q⟩
  obtain ⟨_, _, rfl, ⟨t, rfl⟩, u, rfl⟩ := vals2 rel
  refine zip_begins2 (begins_text x t) (begins_text y u) trivial trivial fun h' isz pin pout at1 at2 _ old => wpAny_pyIter_zip isz ?_
  have sep : ZipSep2 (s1.heap.objs.size + 4) (s1.heap.objs.size + 2) (s1.heap.objs.size + 3) s1.heap.objs.size (s1.heap.objs.size + 1) [s1.heap.objs.size] [s1.heap.objs.size + 1] := by
    constructor <;> simp
  have W : ∀ A : Around, A.handled = none → WalksT X.prog X.w A (s1.heap.objs.size + 4) _ _ _ _ _ _ := fun A hh => WalksT.zipD2 sep (draws_txt (A := A.in1) hh s1.heap.objs.size x t) (draws_txt (A := A.in1) hh (s1.heap.objs.size + 1) y u)
  refine ⟨s1.heap.objs.size + 4, _, _, _, H1, rfl, J.kept (t' := s1.toks) old, turn_tup (Y := ZipY x y) (by simp) ?_ W ?_ ?_ (W callerA rfl), ⟨Nat.zero_le _, isz, pin, ⟨_, _, pout⟩, ⟨_, at1, rfl, rfl⟩, ⟨_, at2, rfl, rfl⟩⟩, ?_, q⟩
  · rintro i h ⟨hz, h1, ⟨_, _, h2⟩, ⟨o1, g1, _, d1⟩, ⟨o2, g2, _, d2⟩⟩ b hb
    have hb : b = s1.heap.objs.size + 4 ∨ b = s1.heap.objs.size + 2 ∨ b = s1.heap.objs.size + 3 ∨ b = s1.heap.objs.size ∨ b = s1.heap.objs.size + 1 := by simpa using hb
    rcases hb with rfl | rfl | rfl | rfl | rfl
    · exact ⟨_, hz, fun v q => nomatch q⟩
    · exact ⟨_, h1, fun v q => nomatch q⟩
    · exact ⟨_, h2, fun v q => nomatch q⟩
    · exact ⟨o1, g1, fun v q => by rw [d1] at q; cases q⟩
    · exact ⟨o2, g2, fun v q => by rw [d2] at q; cases q⟩
  · rintro i vals ⟨_, _, ⟨c, t1, hc, rfl⟩, ⟨e, t2, he, rfl⟩, rfl⟩
    exact ⟨[.str ⟨#[c]⟩, .str ⟨#[e]⟩], by show 2 ≤ sizeLine; decide, .cons ⟨t1, rfl⟩ (.cons ⟨t2, rfl⟩ .nil), c, e, hc, he, rfl⟩
  · exact fun A i s Q E st q => wpAny_pyIter_zip st.1 q
  · intro b hb
    have hb : b = s1.heap.objs.size + 4 ∨ b = s1.heap.objs.size + 2 ∨ b = s1.heap.objs.size + 3 ∨ b = s1.heap.objs.size ∨ b = s1.heap.objs.size + 1 := by simpa using hb
    have le : s1.heap.objs.size ≤ b := by
      rcases hb with rfl | rfl | rfl | rfl | rfl
      · exact Nat.le_add_right _ _
      · exact Nat.le_add_right _ _
      · exact Nat.le_add_right _ _
      · exact Nat.le_refl _
      · exact Nat.le_add_right _ _
    exact J.fpOk le (J.hok.fresh le)
end HopR

set_option Elab.async false
set_option linter.all false
set_option maxRecDepth 100000
namespace HopR
open PySem L2
/-! ### a row beneath a row -/
def ust (u l : Bool) : Int := (if u then 1 else 0) - (if l then 0 else 1)
def bn : Int → List Bool → List Bool → Bool
  | o, u :: us, l :: ls => if o + ust u l < 0 then false else bn (o + ust u l) us ls
  | o, _, _ => decide (o = 0)
theorem bn_nil (o : Int) (ls : List Bool) : bn o [] ls = decide (o = 0) := by
  cases ls <;> rfl
theorem bn_cons (o : Int) (u l : Bool) (us ls : List Bool) : bn o (u :: us) (l :: ls) = if o + ust u l < 0 then false else bn (o + ust u l) us ls := rfl
def rise (b : Bool) : Int := if b then 1 else -1
theorem rise_two (u l : Bool) : rise u + rise l = 2 * ust u l := by cases u <;> cases l <;> rfl
/-- as the law looks -/
def lb : Int → List Bool → List Nat → Bool
  | h, u :: us, c :: cs => if okc c = false then false else if h + rise u + rise (decide (c = 111)) < 0 then false else lb (h + rise u + rise (decide (c = 111))) us cs
  | h, _, _ => decide (h = 0)
def bls (cs : List Nat) : List Bool := cs.map fun c => decide (c = 111)
theorem lb_eq : ∀ (us : List Bool) (cs : List Nat) (o : Int), us.length = cs.length → lb (2 * o) us cs = (cs.all okc && bn o us (bls cs))
  | [], [], o, _ => by
    show decide (2 * o = 0) = (true && decide (o = 0))
    by_cases h : o = 0
    · rw [decide_eq_true h, decide_eq_true (by omega)]; rfl
    · rw [decide_eq_false h, decide_eq_false (by omega)]; rfl
  | [], c :: cs, o, h => by simp at h
  | u :: us, [], o, h => by simp at h
  | u :: us, c :: cs, o, h => by
    have hl : us.length = cs.length := by simpa using h
    show (if okc c = false then false else if 2 * o + rise u + rise (decide (c = 111)) < 0 then false else lb (2 * o + rise u + rise (decide (c = 111))) us cs) = ((okc c && cs.all okc) && (if o + ust u (decide (c = 111)) < 0 then false else bn (o + ust u (decide (c = 111))) us (bls cs)))
    cases hc : okc c with
    | false => rfl
    | true =>
      rw [if_neg (by decide)]
      have e := rise_two u (decide (c = 111))
      have e2 : 2 * o + rise u + rise (decide (c = 111)) = 2 * (o + ust u (decide (c = 111))) := by omega
      rw [e2, lb_eq us cs _ hl, Bool.true_and]
      by_cases hn : o + ust u (decide (c = 111)) < 0
      · rw [if_pos hn, if_pos (by omega), Bool.and_false]
      · rw [if_neg hn, if_neg (by omega)]
/-- whether x is beneath the row of bs -/
def bnB (bs : List Bool) (cs : List Nat) : Bool := decide (cs.length = bs.length) && (cs.all okc && bn 0 bs (bls cs))
def BnB (K : PySem.W.Frag) (H : Hp) (bs : List Bool) (x : V) (b : Bool) : Prop := (NoTxt K H x ∧ b = false) ∨ ∃ cs : List Nat, x = .str (rt cs) ∧ cs.length ≤ 10000 ∧ b = bnB bs cs
theorem bnB_same {K : PySem.W.Frag} {H H' : Hp} {bs : List Bool} {x : V} {b : Bool} (s : Same H H') (h : BnB K H bs x b) : BnB K H' bs x b := h.imp (fun ⟨q, e⟩ => ⟨notxt_same s q, e⟩) id
theorem tx_rt (bs : List Bool) : tx bs = rt (bs.map cd) := ext_str (by rw [tx_list, rt_list])
theorem bls_tx (bs : List Bool) : bls (bs.map cd) = bs := by
  unfold bls
  rw [List.map_map]
  conv => rhs; rw [← List.map_id bs]
  congr 1
  funext b
  cases b <;> rfl
theorem okc_map (bs : List Bool) : (bs.map cd).all okc = true := by
  rw [List.all_map, List.all_eq_true]
  exact fun b _ => okc_cd b
theorem okc_row {cs : List Nat} (h : cs.all okc = true) : rt cs = tx (bls cs) := by
  rw [tx_rt]
  congr 1
  unfold bls
  rw [List.map_map]
  conv => lhs; rw [← List.map_id cs]
  apply List.map_congr_left
  intro c hc
  have := List.all_eq_true.mp h c hc
  unfold okc at this
  simp only [Bool.or_eq_true, decide_eq_true_eq] at this
  rcases this with rfl | rfl <;> rfl
theorem bnB_tx (bs ls : List Bool) : bnB bs (ls.map cd) = (decide (ls.length = bs.length) && bn 0 bs ls) := by
  unfold bnB
  rw [List.length_map, okc_map, bls_tx, Bool.true_and]
end HopR

set_option Elab.async false
set_option linter.all false
set_option maxRecDepth 100000
namespace HopR
open PySem L2
/-! ### how many ways lead on from each height -/
def geti (L : List Int) (i : Int) : Int := if 0 ≤ i ∧ i < (L.length : Int) then L.getD i.toNat 0 else 0
def own (b : Bool) (L : List Int) : List Int := (List.range L.length).map fun h : Nat => geti L ((h : Int) + (rise b - 1)) + geti L ((h : Int) + (rise b + 1))
def tab (L0 : List Int) : List Bool → List (List Int)
  | [] => [L0]
  | b :: bs => own b ((tab L0 bs).headD []) :: tab L0 bs
theorem own_len (b : Bool) (L : List Int) : (own b L).length = L.length := by
  unfold own
  rw [List.length_map, List.length_range]
theorem own_at {b : Bool} {L : List Int} {h : Nat} (hh : h < L.length) : geti (own b L) (h : Int) = geti L ((h : Int) + (rise b - 1)) + geti L ((h : Int) + (rise b + 1)) := by
  conv => lhs; unfold geti
  rw [if_pos ⟨by omega, by rw [own_len]; omega⟩]
  unfold own
  rw [Int.toNat_natCast, List.getD_eq_getElem?_getD, List.getElem?_map, List.getElem?_range hh]
  rfl
/-- the table from the row's beginning on -/
def hd (L0 : List Int) (bs : List Bool) : List Int := (tab L0 bs).headD []
theorem tab_hd (L0 : List Int) (bs : List Bool) : ∃ r, tab L0 bs = hd L0 bs :: r := by
  cases bs with
  | nil => exact ⟨[], rfl⟩
  | cons b r => exact ⟨tab L0 r, rfl⟩
theorem hd_cons (L0 : List Int) (b : Bool) (bs : List Bool) : hd L0 (b :: bs) = own b (hd L0 bs) := rfl
theorem hd_len (L0 : List Int) : ∀ bs : List Bool, (hd L0 bs).length = L0.length
  | [] => rfl
  | b :: r => by rw [hd_cons, own_len, hd_len L0 r]
theorem tab_len (L0 : List Int) : ∀ bs : List Bool, (tab L0 bs).length = bs.length + 1
  | [] => rfl
  | b :: r => by
    show (tab L0 r).length + 1 = r.length + 1 + 1
    rw [tab_len L0 r]
theorem tab_at (L0 : List Int) : ∀ (bs : List Bool) (k : Nat), k ≤ bs.length → (tab L0 bs)[k]? = some (hd L0 (bs.drop k))
  | bs, 0, _ => by
    obtain ⟨r, e⟩ := tab_hd L0 bs
    rw [e]
    rfl
  | [], k + 1, h => by simp at h
  | b :: r, k + 1, h => by
    show (tab L0 r)[k]? = some (hd L0 (r.drop k))
    exact tab_at L0 r k (by simpa using h)
theorem geti_nn {L : List Int} (h : ∀ x ∈ L, 0 ≤ x) (i : Int) : 0 ≤ geti L i := by
  unfold geti
  split
  · rw [List.getD_eq_getElem?_getD]
    cases e : L[i.toNat]? with
    | none => exact Int.le_refl _
    | some x => exact h x (List.mem_of_getElem? e)
  · exact Int.le_refl _
theorem own_nn {b : Bool} {L : List Int} (h : ∀ x ∈ L, 0 ≤ x) : ∀ x ∈ own b L, 0 ≤ x := by
  intro x hx
  obtain ⟨i, _, rfl⟩ := List.mem_map.mp hx
  have h1 := geti_nn h ((i : Int) + (rise b - 1))
  have h2 := geti_nn h ((i : Int) + (rise b + 1))
  omega
theorem hd_nn {L0 : List Int} (h : ∀ x ∈ L0, 0 ≤ x) : ∀ bs : List Bool, ∀ x ∈ hd L0 bs, 0 ≤ x
  | [] => h
  | b :: r => by
    rw [hd_cons]
    exact own_nn (hd_nn h r)
/-- something always leads on from height 0 -/
theorem hd_zero {L0 : List Int} (h : ∀ x ∈ L0, 0 ≤ x) (h0 : 0 < geti L0 0) (hl : 0 < L0.length) : ∀ bs : List Bool, 0 < geti (hd L0 bs) 0
  | [] => h0
  | b :: r => by
    have ih := hd_zero h h0 hl r
    have e := own_at (b := b) (L := hd L0 r) (h := 0) (by rw [hd_len]; exact hl)
    rw [hd_cons]
    have e' : geti (own b (hd L0 r)) 0 = geti (own b (hd L0 r)) ((0 : Nat) : Int) := rfl
    rw [e', e]
    have n1 := geti_nn (hd_nn h r) (((0 : Nat) : Int) + (rise b - 1))
    have n2 := geti_nn (hd_nn h r) (((0 : Nat) : Int) + (rise b + 1))
    cases b with
    | true =>
      have : (((0 : Nat) : Int) + (rise true - 1)) = 0 := rfl
      rw [this] at n1 ⊢
      omega
    | false =>
      have : (((0 : Nat) : Int) + (rise false + 1)) = 0 := rfl
      rw [this] at n2 ⊢
      omega
theorem geti_at {L : List Int} {j : Nat} (h : j < L.length) : atI (L.map V.int) (j : Int) = some (.int (geti L (j : Int))) := atI_nat (by
  unfold geti
  rw [if_pos ⟨by omega, by omega⟩, List.getElem?_map, List.getD_eq_getElem?_getD, Int.toNat_natCast, List.getElem?_eq_getElem h]
  rfl)
/-! ### lists of lists -/
def Lsts (H : Hp) (o : Addr) : List (List Int) → List V → Prop
  | [], vs => vs = []
  | L :: r, vs => ∃ p vr, vs = .ref p :: vr ∧ p ≠ o ∧ H p = some (.lst (L.map V.int)) ∧ Lsts H o r vr
theorem lsts_same {H H' : Hp} {o : Addr} (s : Same H H') : ∀ {Ls : List (List Int)} {vs : List V}, Lsts H o Ls vs → Lsts H' o Ls vs
  | [], _, h => h
  | L :: r, _, ⟨p, vr, e, n, h1, h2⟩ => ⟨p, vr, e, n, s _ _ h1, lsts_same s h2⟩
theorem lsts_upd {H : Hp} {o : Addr} {x : HO} : ∀ {Ls : List (List Int)} {vs : List V}, Lsts H o Ls vs → Lsts (upd H o x) o Ls vs
  | [], _, h => h
  | L :: r, _, ⟨p, vr, e, n, h1, h2⟩ => ⟨p, vr, e, n, by rw [upd_ne n]; exact h1, lsts_upd h2⟩
theorem lsts_len {H : Hp} {o : Addr} : ∀ {Ls : List (List Int)} {vs : List V}, Lsts H o Ls vs → vs.length = Ls.length
  | [], _, h => by
    cases h
    rfl
  | L :: r, _, ⟨p, vr, e, _, _, h2⟩ => by rw [e, List.length_cons, List.length_cons, lsts_len h2]
theorem lsts_at {H : Hp} {o : Addr} : ∀ {Ls : List (List Int)} {vs : List V} {k : Nat} {L : List Int}, Lsts H o Ls vs → Ls[k]? = some L → ∃ p, vs[k]? = some (.ref p) ∧ H p = some (.lst (L.map V.int))
  | [], _, k, L, h, e => by simp at e
  | M :: r, _, 0, L, ⟨p, vr, ev, _, h1, h2⟩, e => by
    have : M = L := Option.some.inj e
    subst this
    exact ⟨p, by rw [ev]; rfl, h1⟩
  | M :: r, _, k + 1, L, ⟨p, vr, ev, _, h1, h2⟩, e => by
    obtain ⟨p', e1, e2⟩ := lsts_at (k := k) h2 e
    exact ⟨p', by rw [ev]; exact e1, e2⟩
end HopR

set_option Elab.async false
set_option linter.all false
set_option maxRecDepth 100000
namespace HopR
open PySem L2
/-! ### lists of new tuples -/
def TupG {α : Type} (H : Hp) (f : α → List V) : List α → List V → Prop
  | [], vs => vs = []
  | a :: r, vs => ∃ p vr, vs = .ref p :: vr ∧ H p = some (.tup (f a)) ∧ TupG H f r vr
section
variable {α : Type} {H H' : Hp} {f : α → List V}
theorem tupG_same (s : Same H H') : ∀ {as : List α} {vs : List V}, TupG H f as vs → TupG H' f as vs
  | [], _, h => h
  | _ :: _, _, ⟨p, vr, e, h1, h2⟩ => ⟨p, vr, e, s _ _ h1, tupG_same s h2⟩
theorem tupG_upd {D : Addr} {xs : List V} {o : HO} (hD : H D = some (.lst xs)) : ∀ {as : List α} {vs : List V}, TupG H f as vs → TupG (upd H D o) f as vs
  | [], _, h => h
  | _ :: _, _, ⟨p, vr, e, h1, h2⟩ => ⟨p, vr, e, by
      rw [upd_ne (fun z => by rw [z, hD] at h1; cases h1)]
      exact h1, tupG_upd hD h2⟩
theorem tupG_add {a : α} {p : Addr} (h1 : H p = some (.tup (f a))) : ∀ {as : List α} {vs : List V}, TupG H f as vs → TupG H f (as ++ [a]) (vs ++ [.ref p])
  | [], _, h => by
    cases h
    exact ⟨p, [], rfl, h1, rfl⟩
  | _ :: _, _, ⟨p', vr, e, h2, h3⟩ => ⟨p', vr ++ [.ref p], by rw [e]; rfl, h2, tupG_add h1 h3⟩
theorem tupG_len : ∀ {as : List α} {vs : List V}, TupG H f as vs → vs.length = as.length
  | [], _, h => by
    cases h
    rfl
  | _ :: _, _, ⟨_, vr, e, _, h2⟩ => by rw [e, List.length_cons, List.length_cons, tupG_len h2]
theorem tupG_at : ∀ {as : List α} {vs : List V} {k : Nat} {a : α}, TupG H f as vs → as[k]? = some a → ∃ p, vs[k]? = some (.ref p) ∧ H p = some (.tup (f a))
  | [], _, k, a, h, e => by simp at e
  | b :: r, _, 0, a, ⟨p, vr, ev, h1, h2⟩, e => by
    have : b = a := Option.some.inj e
    subst this
    exact ⟨p, by rw [ev]; rfl, h1⟩
  | b :: r, _, k + 1, a, ⟨p, vr, ev, h1, h2⟩, e => by
    obtain ⟨p', e1, e2⟩ := tupG_at (k := k) h2 e
    exact ⟨p', by rw [ev]; exact e1, e2⟩
end
/-! ### from height to height -/
theorem geti_pos {L : List Int} {i : Int} (h : 0 < geti L i) : 0 ≤ i ∧ i < (L.length : Int) := by
  unfold geti at h
  split at h
  · assumption
  · omega
/-- the sign l leads on from height h -/
def leads (L : List Int) (h : Int) (u l : Bool) : Bool := decide (0 ≤ h + rise u + rise l) && decide (0 < geti L (h + rise u + rise l))
theorem some_leads {L : List Int} {h : Nat} {u : Bool} (hh : h < L.length) (hp : 0 < geti (own u L) (h : Int)) : ∃ l, leads L (h : Int) u l = true := by
  rw [own_at hh] at hp
  by_cases h1 : 0 < geti L ((h : Int) + (rise u - 1))
  · refine ⟨false, ?_⟩
    have e : (h : Int) + rise u + rise false = (h : Int) + (rise u - 1) := by
      show (h : Int) + rise u + (-1) = _
      omega
    unfold leads
    rw [e, decide_eq_true (geti_pos h1).1, decide_eq_true h1]
    rfl
  · have h2 : 0 < geti L ((h : Int) + (rise u + 1)) := by omega
    refine ⟨true, ?_⟩
    have e : (h : Int) + rise u + rise true = (h : Int) + (rise u + 1) := by
      show (h : Int) + rise u + 1 = _
      omega
    unfold leads
    rw [e, decide_eq_true (geti_pos h2).1, decide_eq_true h2]
    rfl
end HopR

set_option Elab.async false
set_option linter.all false
set_option maxRecDepth 100000
set_option exponentiation.threshold 200000
namespace Hop
section
open PySem L2 HopR
open C8 (InsC call_isC)
def top (i : Nat) : Stmt := PySem.Challenge.pw_hopline_k60_totals_refused.main.body.getD i (.Pass ⟨0, 0, 0, 0⟩)
abbrev sIsWhole : Stmt := top 19
abbrev sNeedNum : Stmt := top 20
abbrev sDivisor : Stmt := top 21
abbrev sPower : Stmt := top 22
abbrev sInit : Stmt := inClass (top 24) 0
abbrev sTimes : Stmt := inClass (top 24) 3
abbrev sOver : Stmt := inClass (top 24) 4
abbrev sLowest : Stmt := top 25
abbrev sIsRow : Stmt := top 31
abbrev sNeedRow : Stmt := top 32
abbrev sPaceFrom : Stmt := top 34
abbrev sPacesFrom : Stmt := top 35
abbrev sIsWord : Stmt := top 37
abbrev sNeedWord : Stmt := top 38
abbrev sWithBead : Stmt := top 39
abbrev sWithFree : Stmt := top 40
abbrev sEndsOf : Stmt := top 41
abbrev sShare : Stmt := top 43
abbrev sWeight : Stmt := top 44
abbrev sDrawn : Stmt := top 56
abbrev sLRow : Stmt := top 57
abbrev sOften : Stmt := top 47
abbrev sAllEnds : Stmt := top 48
abbrev sTopOf : Stmt := top 49
abbrev sTotal : Stmt := top 50
abbrev sThrough : Stmt := top 51
abbrev sRowChance : Stmt := top 52
abbrev sLPart : Stmt := top 58
abbrev sLLow : Stmt := top 59
abbrev sLSmall : Stmt := top 54
theorem tb_ : ¬ (("top" : Str) = "bottom") := by decide +kernel
def pf (q : Rat) : List (Str × V) := putF "bottom" (.int (q.den : Int)) (putF "top" (.int q.num) [])
theorem pf_top (q : Rat) : (pf q).lookup ("top" : Str) = some (.int q.num) := by
  unfold pf
  rw [lookup_putF, if_neg tb_, lookup_putF, if_pos rfl]
theorem pf_bottom (q : Rat) : (pf q).lookup ("bottom" : Str) = some (.int (q.den : Int)) := by
  unfold pf
  rw [lookup_putF, if_pos rfl]
theorem pf_no (q : Rat) {m : Str} (h1 : ¬ m = "bottom") (h2 : ¬ m = "top") : (pf q).lookup m = none := by
  unfold pf
  rw [lookup_putF, if_neg h1, lookup_putF, if_neg h2]
  rfl
/-- at a a Part of q -/
def PA (C : Addr) (H : Hp) (a : Addr) (q : Rat) : Prop := ∃ dx, H a = some (.ins C dx (pf q))
theorem PA.same {C : Addr} {H H' : Hp} {a : Addr} {q : Rat} (s : Same H H') (h : PA C H a q) : PA C H' a q := let ⟨dx, e⟩ := h; ⟨dx, s _ _ e⟩
/-- what is known of the class and of the built-ins -/
structure TxtP (K : PySem.W.Frag) (mg : Str → Option Value) (C : Addr) : Prop where
  len : mg "len" = none
  range : mg "range" = none
  abs : mg "abs" = none
  isi : mg "isinstance" = none
  int : mg "int" = none
  bool : mg "bool" = none
  ins : InsC K C
  nT : NoAttr K C "top"
  nB : NoAttr K C "bottom"
  mgC : mg "Part" = some (.ref C)
end
end Hop
namespace Hop
section
open PySem L2 HopR
open C8 (InsC call_isC)
variable {P : Program} {w : World} {K : PySem.W.Frag} {mg : Str → Option Value} {base : Heap} {C : Addr}
def spWhole : Sp := fun vs H Q _ => ∃ i : Int, vs = [.int i] ∧ Q (.bl true) H
theorem scWhole : FnScope ["thing"] ["thing"] (defScope sIsWhole) := ⟨rfl, rfl, rfl, by decide +kernel, rfl, by decide +kernel, by decide +kernel⟩
theorem ok_whole {f : Addr} {fd : FuncData} {k : Nat} (F : Fun K "is_whole" "is_whole" sIsWhole f fd) (T : TxtP K mg C) : FnOk P w K mg base CX0 (k + 1) f fd ["thing"] spWhole := by
  refine F.ok scWhole (fun vs H Q E h => ?_) (fun cdv A outer s H vs Q E hr h => ?_)
  · obtain ⟨i, rfl, _⟩ := h
    rfl
  · obtain ⟨i, rfl, q⟩ := h
    refine ⟨_, pss_one (ps_ret (pe_and (pe_callB call_isi (by rfl) T.isi (by decide +kernel) (pa_cons (pv 0) (pa_cons (pe_bltn (v := .ty "int") (by rfl) T.int (by decide +kernel) rfl) pa_nil)))
      (pe_one (pe_not (pe_callB call_isi (by rfl) T.isi (by decide +kernel) (pa_cons (pv 0) (pa_cons (pe_bltn (v := .ty "bool") (by rfl) T.bool (by decide +kernel) rfl) pa_nil))))))), ?_⟩
    refine ⟨.int i, rfl, .int i, .ty "int", .type "int", .type "int", true, rfl, .ty _, .base (.int _), kit_ty (by decide +kernel), true, rfl, ?_⟩
    exact ⟨.int i, rfl, .int i, .ty "bool", .type "int", .type "bool", false, rfl, .ty _, .base (.int _), kit_ty (by decide +kernel), false, rfl, q⟩
def spDivisor : Sp := fun vs H Q _ => ∃ a b : Int, vs = [.int a, .int b] ∧ Q (.int (Int.gcd a b : Int)) H
theorem scDivisor : FnScope ["one", "other"] ["one", "other"] (defScope sDivisor) := ⟨rfl, rfl, rfl, by decide +kernel, rfl, by decide +kernel, by decide +kernel⟩
theorem ok_divisor {f : Addr} {fd : FuncData} {k : Nat} (F : Fun K "common_divisor" "common_divisor" sDivisor f fd) (T : TxtP K mg C) : FnOk P w K mg base CX0 (k + 1) f fd ["one", "other"] spDivisor := by
  refine F.ok scDivisor (fun vs H Q E h => ?_) (fun cdv A outer s H vs Q E hr h => ?_)
  · obtain ⟨a, b, rfl, _⟩ := h
    rfl
  · obtain ⟨a, b, rfl, q⟩ := h
    have nd := scDivisor.nd
    refine ⟨_, pss_cons (ps_while PassesOwn.never (pt_cmpR op_ne (pv 1) pe_int (nomark _)) (pss_one (ps_par (by rfl) nd (i := 0) (j := 1) rfl rfl (by decide) rfl rfl (pa_cons (pv 1) (pa_cons (pe_op op_modN (pv 0) (pv 1)) pa_nil)) (by rfl))))
      (pss_one (ps_ret (pe_callB call_abs (by rfl) T.abs (by decide +kernel) (pa_cons (pv 0) pa_nil)))), ?_⟩
    refine while_by (fun σ H1 => ∃ x y : Int, σ = [some (.int x), some (.int y)] ∧ Int.gcd x y = Int.gcd a b ∧ H1 = H) (fun σ _ => match σ with | [_, some (.int y)] => y.natAbs | _ => 0) ⟨a, b, rfl, rfl, rfl⟩ ?_ ?_
    · rintro σ H1 ⟨x, y, rfl, e, rfl⟩
      refine ⟨.int y, rfl, rfl, _, rfl, ?_⟩
      by_cases hy : y = 0
      · subst hy
        refine iteNS rfl ⟨.int x, rfl, x, rfl, ?_⟩
        have e2 : (if x < 0 then -x else x) = (Int.gcd a b : Int) := by
          rw [← e, Int.gcd_zero_right]
          split <;> omega
        show Q (.int (if x < 0 then -x else x)) H1
        rw [e2]
        exact q
      · rw [decide_eq_false (fun z => hy (V.int.inj z))]
        refine iteT ⟨.int y, rfl, .int x, rfl, .int y, rfl, x, y, rfl, rfl, hy, _, _, rfl, ⟨y, x.fmod y, rfl, (gcd_fmod x y).trans e, rfl⟩, fmod_less x hy⟩
    · rintro σ H1 Q1 Q2 hm h
      obtain ⟨v, e1, e2, k2, e3, h⟩ := h
      exact ⟨v, e1, e2, k2, e3, hm _ _ h⟩
theorem scInit : FnScope ["self", "top", "bottom", "divisor"] ["self", "top", "bottom"] (defScope sInit) := ⟨rfl, rfl, rfl, by decide +kernel, rfl, by decide +kernel, by decide +kernel⟩
def spInit (C : Addr) : Sp := fun vs H Q _ => ∃ (p dx : Addr) (t b : Int), vs = [.ref p, .int t, .int b] ∧ b ≠ 0 ∧ b.natAbs < 2 ^ 8000 ∧ H p = some (.ins C dx []) ∧ Q .non (upd H p (.ins C dx (pf (Rat.divInt t b))))
theorem ok_init {f f1 f2 : Addr} {fd fd1 fd2 : FuncData} {k : Nat} (F : FunD K "__init__" "Part.__init__" (defArgs sInit) (defBody sInit) (defScope sInit) [.int 1] [] f fd) (N1 : Fn K mg "is_whole" sIsWhole ["thing"] f1 fd1) (N2 : Fn K mg "common_divisor" sDivisor ["one", "other"] f2 fd2) (T : TxtP K mg C) :
    FnOk P w K mg base CX0 (k + 2) f fd ["self", "top", "bottom"] (spInit C) := by
  have G1 : FnOk P w K mg base CX0 (k + 1) f1 fd1 ["thing"] spWhole := ok_whole N1.F T
  have G2 : FnOk P w K mg base CX0 (k + 1) f2 fd2 ["one", "other"] spDivisor := ok_divisor N2.F T
  refine F.ok scInit (fun vs H Q E h => ?_) (fun cdv A outer s H vs Q E hr h => ?_)
  · obtain ⟨p, dx, t, b, rfl, _⟩ := h
    rfl
  · obtain ⟨p, dx, t, b, rfl, hb, hb2, hp, q⟩ := h
    have nd := scInit.nd
    refine ⟨_, PSs.nox (pss_cons (ps_if (pt_not (pt_val (pe_call G1 hr (by rfl) N1.g N1.F.kp N1.b .nil pass0 (pa_cons (pv 1) pa_nil)))) (pss_one ps_never) pss_nil)
      (pss_cons (ps_if (pt_not (pt_val (pe_call G1 hr (by rfl) N1.g N1.F.kp N1.b .nil pass0 (pa_cons (pv 2) pa_nil)))) (pss_one ps_never) pss_nil)
      (pss_cons (ps_if (pt_cmpR op_eq (pv 2) pe_int (nomark _)) (pss_one ps_never) pss_nil)
      (pss_cons (ps_set (i := 3) nd rfl (.inl rfl) (pe_call G2 hr (by rfl) N2.g N2.F.kp N2.b .nil pass0 (pa_cons (pv 1) (pa_cons (pv 2) pa_nil))))
      (pss_cons (ps_if (pt_cmpR op_lt (pv 2) pe_int (nomark _)) (pss_one (ps_set (i := 3) nd rfl (.inl rfl) (pe_un un_neg (pv 3)))) pss_nil)
      (pss_cons (ps_fld (pv 0) (pe_op op_fdivWN (pv 1) (pv 3)) rfl)
      (pss_one (ps_fld (pv 0) (pe_op op_fdivWN (pv 2) (pv 3)) rfl)))))))), ?_⟩
    refine ⟨.int t, rfl, t, rfl, true, rfl, iteF ⟨.int b, rfl, b, rfl, true, rfl, iteF ⟨.int b, rfl, rfl, _, rfl, ?_⟩⟩⟩
    rw [decide_eq_false (fun z => hb (V.int.inj z))]
    refine iteF ⟨.int t, rfl, .int b, rfl, t, b, rfl, ?_⟩
    have hg := gcd_pos (t := t) hb
    have hgl : (Int.gcd t b).log2 < 9000 := by
      have h1 : Int.gcd t b ≤ b.natAbs := Nat.le_of_dvd (by omega) (Int.gcd_dvd_natAbs_right ..)
      exact Nat.lt_of_lt_of_le (PySem.Flt.log2_lt_of (by decide) (Nat.lt_of_le_of_lt h1 hb2)) (by decide)
    have fin : ∀ g : Int, g = (if b < 0 then -(Int.gcd t b : Int) else (Int.gcd t b : Int)) → CDivWN t g ∧ CDivWN b g := fun g e => by
      have e2 : g.natAbs = Int.gcd t b := by
        rw [e]
        split <;> omega
      unfold CDivWN
      rw [e2]
      exact ⟨⟨by omega, hgl⟩, ⟨by omega, hgl⟩⟩
    have done : ∀ g : Int, g = (if b < 0 then -(Int.gcd t b : Int) else (Int.gcd t b : Int)) → Q .non (upd (upd H p (.ins C dx (putF "top" (.int (t.fdiv g)) []))) p (.ins C dx (putF "bottom" (.int (b.fdiv g)) (putF "top" (.int (t.fdiv g)) [])))) := fun g e => by
      rw [upd_upd, e, low_num hb, low_den hb]
      exact q
    refine ⟨.int b, rfl, _, _, rfl, rfl, _, rfl, ite2 (fun e => ?_) (fun e => ?_)⟩
    · have e : b < 0 := of_decide_eq_true e
      have eg : -(Int.gcd t b : Int) = (if b < 0 then -(Int.gcd t b : Int) else (Int.gcd t b : Int)) := (if_pos e).symm
      obtain ⟨c1, c2⟩ := fin _ eg
      refine ⟨_, rfl, _, rfl, ?_⟩
      refine ⟨.int t, rfl, _, rfl, t, _, rfl, rfl, c1, .ref p, rfl, p, C, dx, _, rfl, hp, T.ins.cl, T.nT, (by show 0 < 1000; decide), ?_⟩
      exact ⟨.int b, rfl, _, rfl, b, _, rfl, rfl, c2, .ref p, rfl, p, C, dx, _, rfl, upd_same, T.ins.cl, T.nB, (by show 1 < 1000; decide), done _ eg⟩
    · have e : ¬ b < 0 := fun z => e (decide_eq_true z)
      have eg : (Int.gcd t b : Int) = (if b < 0 then -(Int.gcd t b : Int) else (Int.gcd t b : Int)) := (if_neg e).symm
      obtain ⟨c1, c2⟩ := fin _ eg
      refine ⟨.int t, rfl, _, rfl, t, _, rfl, rfl, c1, .ref p, rfl, p, C, dx, _, rfl, hp, T.ins.cl, T.nT, (by show 0 < 1000; decide), ?_⟩
      exact ⟨.int b, rfl, _, rfl, b, _, rfl, rfl, c2, .ref p, rfl, p, C, dx, _, rfl, upd_same, T.ins.cl, T.nB, (by show 1 < 1000; decide), done _ eg⟩
/-- what a Part is made with: its class, its __init__ and how that binds -/
structure Mks (K : PySem.W.Frag) (mg : Str → Option Value) (C fi f1 f2 : Addr) (gi g1 g2 : FuncData) (d1 : Value) : Prop where
  M : Mk K C fi
  F : FunD K "__init__" "Part.__init__" (defArgs sInit) (defBody sInit) (defScope sInit) [.int 1] [] fi gi
  b3 : Binds K gi ["self", "top", "bottom"] []
  b2 : Binds K gi ["self", "top", "bottom"] [d1]
  r1 : RelV (.int 1) d1
  N1 : Fn K mg "is_whole" sIsWhole ["thing"] f1 g1
  N2 : Fn K mg "common_divisor" sDivisor ["one", "other"] f2 g2
/-- a new Part, behind H -/
def New (C : Addr) (H : Hp) (q : Rat) (Q : VK) : Prop := ∀ H' p, Same H H' → H p = none → PA C H' p q → Q (.ref p) H'
theorem made {C : Addr} {H : Hp} {t b : Int} {Q : VK} {E : XK} (hb : b ≠ 0) (hz : b.natAbs < 2 ^ 8000) (h : New C H (Rat.divInt t b) Q) :
    ∀ x dx, H x = none → H dx = none → dx ≠ x → spInit C (.ref x :: ([.int t, .int b] ++ [])) (upd (upd H dx (.own x)) x (.ins C dx [])) (fun v H2 => v = .non ∧ Q (.ref x) H2) E := by
  intro x dx hx hdx ne
  refine ⟨x, dx, t, b, rfl, hb, hz, upd_same, rfl, ?_⟩
  rw [upd_upd]
  refine h _ _ (fun c o e => ?_) hx ⟨dx, upd_same⟩
  rw [upd_ne (ne_of_none e hx), upd_ne (ne_of_none e hdx)]
  exact e
def spOp (C : Addr) (ok : Rat → Rat → Prop) (g : Rat → Rat → Rat) : Sp := fun vs H Q _ => ∃ a b q r, vs = [.ref a, .ref b] ∧ PA C H a q ∧ PA C H b r ∧ Sz 4000 q ∧ Sz 3900 r ∧ ok q r ∧ New C H (g q r) Q
theorem mk_facts {H : Hp} {x dx : Addr} {q : Rat} (hx : H x = none) (hdx : H dx = none) : Same H (upd (upd H dx (.own x)) x (.ins C dx (pf q))) ∧ PA C (upd (upd H dx (.own x)) x (.ins C dx (pf q))) x q := by
  refine ⟨fun c o e => ?_, dx, upd_same⟩
  rw [upd_ne (ne_of_none e hx), upd_ne (ne_of_none e hdx)]
  exact e
theorem pf_set (q r : Rat) : putF "bottom" (.int (q.den : Int)) (putF "top" (.int q.num) (pf r)) = pf q := by
  unfold pf
  simp [putF, tb_]
theorem few_pf (q : Rat) : (pf q).length < 1000 := by
  unfold pf
  simp [putF, tb_]
theorem few_pf1 (q : Rat) (x : V) : (putF "top" x (pf q)).length < 1000 := by
  unfold pf
  simp [putF, tb_]
theorem scLowest : FnScope ["top", "bottom", "result"] ["top", "bottom"] (defScope sLowest) := ⟨rfl, rfl, rfl, by decide +kernel, rfl, by decide +kernel, by decide +kernel⟩
def spLowest (C : Addr) : Sp := fun vs H Q _ => ∃ q : Rat, vs = [.int q.num, .int (q.den : Int)] ∧ New C H q Q
theorem ok_lowest {f fi f1 f2 : Addr} {fd gi g1 g2 : FuncData} {d1 : Value} {k : Nat} (F : Fun K "lowest" "lowest" sLowest f fd) (N : Mks K mg C fi f1 f2 gi g1 g2 d1) (T : TxtP K mg C) : FnOk P w K mg base CX0 (k + 4) f fd ["top", "bottom"] (spLowest C) := by
  have GI : FnOk P w K mg base CX0 (k + 2) fi gi ["self", "top", "bottom"] (spInit C) := ok_init N.F N.N1 N.N2 T
  refine F.ok scLowest (fun vs H Q E h => ?_) (fun cdv A outer s H vs Q E hr h => ?_)
  · obtain ⟨q, rfl, _⟩ := h
    rfl
  · obtain ⟨q, rfl, h⟩ := h
    have nd := scLowest.nd
    refine ⟨_, pss_cons (ps_set (i := 2) nd rfl (.inl rfl) (pe_make N.M GI hr (by rfl) T.mgC N.b2 (.cons N.r1 .nil) pass0 (pa_cons pe_int pa_nil)))
      (pss_cons (ps_fld (pv 2) (pv 0) rfl) (pss_cons (ps_fld (pv 2) (pv 1) rfl) (pss_one (ps_ret (pv 2))))), ?_⟩
    intro p dx np hdx ne
    refine ⟨p, dx, 1, 1, rfl, by decide, Nat.one_lt_two_pow (by decide), upd_same, rfl, ?_⟩
    rw [upd_upd]
    refine ⟨.int q.num, rfl, .ref p, rfl, p, C, dx, _, rfl, upd_same, T.ins.cl, T.nT, few_pf _, ?_⟩
    refine ⟨.int (q.den : Int), rfl, .ref p, rfl, p, C, dx, _, rfl, upd_same, T.ins.cl, T.nB, few_pf1 _ _, ?_⟩
    refine ⟨.ref p, rfl, ?_⟩
    rw [upd_upd, upd_upd, pf_set]
    refine h _ p (fun c o e => ?_) np ⟨dx, upd_same⟩
    rw [upd_ne (ne_of_none e np), upd_ne (ne_of_none e hdx)]
    exact e
def spMul (C : Addr) : Sp := fun vs H Q _ => ∃ a b q r, vs = [.ref a, .ref b] ∧ PA C H a q ∧ PA C H b r ∧ Sz 100000 q ∧ Sz 3900 r ∧ (r ≠ 0 ∨ Sz 8000 q) ∧ New C H (q * r) Q
theorem fdiv_le {t : Int} {g n : Nat} (h : t.natAbs < 2 ^ n) (d : (g : Int) ∣ t) : (t.fdiv (g : Int)).natAbs < 2 ^ n := by
  rw [Int.fdiv_eq_ediv_of_dvd d]
  exact Nat.lt_of_le_of_lt (Int.natAbs_ediv_le_natAbs _ _) h
theorem scTimes : FnScope ["self", "other", "first", "second"] ["self", "other"] (defScope sTimes) := ⟨rfl, rfl, rfl, by decide +kernel, rfl, by decide +kernel, by decide +kernel⟩
theorem ok_mul {f fi f1 f2 fz : Addr} {fd gi g1 g2 gz : FuncData} {d1 : Value} {k : Nat} (F : Fun K "times" "Part.times" sTimes f fd) (N : Mks K mg C fi f1 f2 gi g1 g2 d1) (Nz : Fn K mg "lowest" sLowest ["top", "bottom"] fz gz) (T : TxtP K mg C) :
    FnOk P w K mg base CX0 (k + 5) f fd ["self", "other"] (spMul C) := by
  have G2 : FnOk P w K mg base CX0 (k + 4) f2 g2 ["one", "other"] spDivisor := ok_divisor N.N2.F T
  have GZ : FnOk P w K mg base CX0 (k + 4) fz gz ["top", "bottom"] (spLowest C) := ok_lowest Nz.F N T
  refine F.ok scTimes (fun vs H Q E h => ?_) (fun cdv A outer s H vs Q E hr h => ?_)
  · obtain ⟨a, b, q, r, rfl, _⟩ := h
    rfl
  · obtain ⟨a, b, q, r, rfl, ⟨dx, ha⟩, ⟨dy, hb⟩, zq, zr, hs, h⟩ := h
    have nd := scTimes.nd
    refine ⟨_, pss_cons (ps_set (i := 2) nd rfl (.inl rfl) (pe_call G2 hr (by rfl) N.N2.g N.N2.F.kp N.N2.b .nil pass0 (pa_cons (pe_fld (pv 0) rfl) (pa_cons (pe_fld (pv 1) rfl) pa_nil))))
      (pss_cons (ps_set (i := 3) nd rfl (.inl rfl) (pe_call G2 hr (by rfl) N.N2.g N.N2.F.kp N.N2.b .nil pass0 (pa_cons (pe_fld (pv 1) rfl) (pa_cons (pe_fld (pv 0) rfl) pa_nil))))
      (pss_one (ps_ret (pe_call GZ hr (by rfl) Nz.g Nz.F.kp Nz.b .nil pass0 (pa_cons (pe_op op_mulW (pe_op op_fdivWN (pe_fld (pv 0) rfl) (pv 2)) (pe_op op_fdivWN (pe_fld (pv 1) rfl) (pv 3)))
        (pa_cons (pe_op op_mulW (pe_op op_fdivWN (pe_fld (pv 0) rfl) (pv 3)) (pe_op op_fdivWN (pe_fld (pv 1) rfl) (pv 2))) pa_nil)))))), ?_⟩
    have p1 := gcd_pos (t := q.num) (den_ne r)
    have p2 := gcd_pos (t := r.num) (den_ne q)
    have l1 : (Int.gcd q.num (r.den : Int)).log2 < 9000 := by
      have h1 : Int.gcd q.num (r.den : Int) ≤ r.den := Nat.le_of_dvd (Nat.pos_of_ne_zero r.den_nz) (Int.gcd_dvd_natAbs_right ..)
      exact Nat.lt_of_lt_of_le (PySem.Flt.log2_lt_of (by decide) (Nat.lt_of_le_of_lt h1 zr.2)) (by decide)
    have l2 : (Int.gcd r.num (q.den : Int)).log2 < 9000 := by
      rcases hs with h0 | h0
      · have h1 : Int.gcd r.num (q.den : Int) ≤ r.num.natAbs := Nat.le_of_dvd (Int.natAbs_pos.mpr fun e => h0 (Rat.num_eq_zero.mp e)) (Int.gcd_dvd_natAbs_left ..)
        exact Nat.lt_of_lt_of_le (PySem.Flt.log2_lt_of (by decide) (Nat.lt_of_le_of_lt h1 zr.1)) (by decide)
      · have h1 : Int.gcd r.num (q.den : Int) ≤ q.den := Nat.le_of_dvd (Nat.pos_of_ne_zero q.den_nz) (Int.gcd_dvd_natAbs_right ..)
        exact Nat.lt_of_lt_of_le (PySem.Flt.log2_lt_of (by decide) (Nat.lt_of_le_of_lt h1 h0.2)) (by decide)
    have c1 : ∀ t : Int, CDivWN t (Int.gcd q.num (r.den : Int) : Int) := fun t => ⟨by omega, l1⟩
    have c2 : ∀ t : Int, CDivWN t (Int.gcd r.num (q.den : Int) : Int) := fun t => ⟨by omega, l2⟩
    refine ⟨.ref a, rfl, a, C, dx, _, _, rfl, ha, T.ins.cl, T.nT, pf_top q, .ref b, rfl, b, C, dy, _, _, rfl, hb, T.ins.cl, T.nB, pf_bottom r, q.num, (r.den : Int), rfl, ?_⟩
    refine ⟨.ref b, rfl, b, C, dy, _, _, rfl, hb, T.ins.cl, T.nT, pf_top r, .ref a, rfl, a, C, dx, _, _, rfl, ha, T.ins.cl, T.nB, pf_bottom q, r.num, (q.den : Int), rfl, ?_⟩
    refine ⟨.ref a, rfl, a, C, dx, _, _, rfl, ha, T.ins.cl, T.nT, pf_top q, _, rfl, _, _, rfl, rfl, c1 _, .ref b, rfl, b, C, dy, _, _, rfl, hb, T.ins.cl, T.nT, pf_top r, _, rfl, _, _, rfl, rfl, c2 _, _, _, rfl, rfl, ?_, ?_⟩
    · exact wide_mul (fdiv_le zq.1 (Int.gcd_dvd_left ..)) (fdiv_le zr.1 (Int.gcd_dvd_left ..)) (by decide) (by decide) (by decide)
    refine ⟨.ref a, rfl, a, C, dx, _, _, rfl, ha, T.ins.cl, T.nB, pf_bottom q, _, rfl, _, _, rfl, rfl, c2 _, .ref b, rfl, b, C, dy, _, _, rfl, hb, T.ins.cl, T.nB, pf_bottom r, _, rfl, _, _, rfl, rfl, c1 _, _, _, rfl, rfl, ?_, ?_⟩
    · exact wide_mul (fdiv_le (t := (q.den : Int)) zq.2 (Int.gcd_dvd_right ..)) (fdiv_le (t := (r.den : Int)) zr.2 (Int.gcd_dvd_right ..)) (by decide) (by decide) (by decide)
    refine ⟨q * r, ?_, h⟩
    show [V.int (_ * _), V.int (_ * _)] = _
    rw [mul_num, mul_den]
def spDiv (C : Addr) : Sp := fun vs H Q _ => ∃ a b q r, vs = [.ref a, .ref b] ∧ PA C H a q ∧ PA C H b r ∧ Sz 100000 q ∧ Sz 3900 r ∧ r ≠ 0 ∧ New C H (q / r) Q
theorem scOver : FnScope ["self", "other"] ["self", "other"] (defScope sOver) := ⟨rfl, rfl, rfl, by decide +kernel, rfl, by decide +kernel, by decide +kernel⟩
theorem no_times (q : Rat) : (pf q).lookup ("times" : Str) = none := pf_no q (by decide +kernel) (by decide +kernel)
theorem ok_div {f fi f1 f2 fz ft : Addr} {fd gi g1 g2 gz gt : FuncData} {d1 : Value} {k : Nat} (F : Fun K "over" "Part.over" sOver f fd) (N : Mks K mg C fi f1 f2 gi g1 g2 d1) (Nz : Fn K mg "lowest" sLowest ["top", "bottom"] fz gz) (Ft : Fun K "times" "Part.times" sTimes ft gt) (bt : Binds K gt ["self", "other"] []) (mt : Meth K C "times" ft) (T : TxtP K mg C) :
    FnOk P w K mg base CX0 (k + 6) f fd ["self", "other"] (spDiv C) := by
  have GI : FnOk P w K mg base CX0 (k + 4) fi gi ["self", "top", "bottom"] (spInit C) := ok_init N.F N.N1 N.N2 T
  have GT : FnOk P w K mg base CX0 (k + 5) ft gt ["self", "other"] (spMul C) := ok_mul Ft N Nz T
  refine F.ok scOver (fun vs H Q E h => ?_) (fun cdv A outer s H vs Q E hr h => ?_)
  · obtain ⟨a, b, q, r, rfl, _⟩ := h
    rfl
  · obtain ⟨a, b, q, r, rfl, ⟨dx, ha⟩, ⟨dy, hb⟩, zq, zr, hr0, h⟩ := h
    have hn0 : r.num ≠ 0 := fun e => hr0 (Rat.num_eq_zero.mp e)
    have up : ∀ {n : Nat}, n < 2 ^ 3900 → n < 2 ^ 8000 := fun h => Nat.lt_of_lt_of_le h (Nat.pow_le_pow_right (by decide) (by decide))
    refine ⟨_, pss_one (ps_ret (pe_meth (pv 0) T.ins.cl mt GT hr bt .nil pass0 (pa_cons (pe_make N.M GI hr (by rfl) T.mgC N.b3 .nil pass0 (pa_cons (pe_fld (pv 1) rfl) (pa_cons (pe_fld (pv 1) rfl) pa_nil))) pa_nil))), ?_⟩
    refine ⟨.ref a, rfl, a, dx, _, rfl, ha, no_times q, ?_⟩
    refine ⟨.ref b, rfl, b, C, dy, _, _, rfl, hb, T.ins.cl, T.nB, pf_bottom r, .ref b, rfl, b, C, dy, _, _, rfl, hb, T.ins.cl, T.nT, pf_top r, ?_⟩
    intro p dz np hdz ne
    refine ⟨p, dz, (r.den : Int), r.num, rfl, hn0, up zr.1, upd_same, rfl, ?_⟩
    rw [upd_upd]
    obtain ⟨s1, pa⟩ := mk_facts (C := C) (q := Rat.divInt (r.den : Int) r.num) np hdz
    generalize upd (upd H dz (.own p)) p (.ins C dz (pf (Rat.divInt (r.den : Int) r.num))) = H1 at s1 pa
    have er : Rat.divInt (r.den : Int) r.num = r⁻¹ := (Rat.inv_def r).symm
    have z1 : Sz 3900 (Rat.divInt (r.den : Int) r.num) := sz_divInt hn0 zr.2 zr.1
    rw [er] at pa z1
    refine ⟨a, p, q, r⁻¹, rfl, PA.same s1 ⟨dx, ha⟩, pa, zq, z1, .inl ?_, fun H2 p2 s2 n2 pa2 => ?_⟩
    · intro e
      refine hr0 ?_
      rw [← Rat.inv_inv r, e]
      exact Rat.inv_zero
    · refine h H2 p2 (s1.trans s2) (s1.free n2) ?_
      rw [Rat.div_def]
      exact pa2
theorem ok_over {f fi f1 f2 fz ft : Addr} {fd gi g1 g2 gz gt : FuncData} {d1 : Value} {k : Nat} (F : Fun K "over" "Part.over" sOver f fd) (N : Mks K mg C fi f1 f2 gi g1 g2 d1) (Nz : Fn K mg "lowest" sLowest ["top", "bottom"] fz gz) (Ft : Fun K "times" "Part.times" sTimes ft gt) (bt : Binds K gt ["self", "other"] []) (mt : Meth K C "times" ft) (T : TxtP K mg C) :
    FnOk P w K mg base CX0 (k + 6) f fd ["self", "other"] (spOp C (fun _ r => r ≠ 0) (fun q r => q / r)) :=
  (ok_div F N Nz Ft bt mt T).imp fun vs H Q E ⟨a, b, q, r, e, ha, hb, zq, zr, h0, h⟩ => ⟨a, b, q, r, e, ha, hb, zq.mono (by decide), zr, h0, h⟩
end
end Hop
namespace Hop
section
open PySem L2 HopR
open C8 (InsC call_isC)
structure TxtR (K : PySem.W.Frag) (w : World) (mg : Str → Option Value) (d : Addr) (es : Array DictEntry) (n : Nat) : Prop where
  len : mg "len" = none
  range : mg "range" = none
  all : mg "all" = none
  isi : mg "isinstance" = none
  str : mg "str" = none
  int : mg "int" = none
  bool : mg "bool" = none
  reversed : mg "reversed" = none
  sorted : mg "sorted" = none
  list : mg "list" = none
  repr : mg "repr" = none
  bead : ∃ t, mg "BEAD" = some (.str "o" t)
  free : ∃ t, mg "FREE" = some (.str "." t)
  most : ∃ t, mg "MOST_PLACES" = some (.int 30 t)
  os : mg "OTHER_SIGN" = some (.ref d)
  D : KDict K w d es n
  osO : ∃ t, PySem.W.nsIn K d "o" = some (some (.str "." t))
  osF : ∃ t, PySem.W.nsIn K d "." = some (some (.str "o" t))
/-- a text in a written dict -/
def rInKd (K : PySem.W.Frag) (d : Addr) : R2 := fun x y H Q => ∃ (z : Str) (r : Option Value), x = .str z ∧ y = .ref d ∧ PySem.W.nsIn K d z = some r ∧ Q (.bl r.isSome) H
theorem op_inKd {X : Cx} {d : Addr} {es : Array DictEntry} {n : Nat} (D : KDict X.K X.w d es n) : OpR X (compareOp .In) (rInKd X.K d) := op_in_kd D
def spIsRow : Sp := fun vs H Q _ => ∃ bs, vs = [.str (tx bs)] ∧ Row bs ∧ ∀ H', Same H H' → Q (.bl true) H'
theorem scIsRow : FnScope ["thing", "sign"] ["thing"] (defScope sIsRow) := ⟨rfl, rfl, rfl, by decide +kernel, rfl, by decide +kernel, by decide +kernel⟩
end
end Hop
namespace Hop
section
open PySem L2 HopR
open C8 (InsC call_isC)
variable {P : Program} {w : World} {K : PySem.W.Frag} {mg : Str → Option Value} {base : Heap} {d : Addr} {es : Array DictEntry} {n : Nat}
theorem in_os (T : TxtR K w mg d es n) (b : Bool) : ∃ r, PySem.W.nsIn K d (tx [b]) = some (some r) ∧ ∃ t, r = .str (tx [!b]) t := by
  cases b with
  | true =>
    obtain ⟨t, e⟩ := T.osO
    rw [tx_o] at e
    exact ⟨_, e, t, by rw [tx_f]; rfl⟩
  | false =>
    obtain ⟨t, e⟩ := T.osF
    rw [tx_f] at e
    exact ⟨_, e, t, by rw [tx_o]; rfl⟩
theorem ok_isrow {f : Addr} {fd : FuncData} {k : Nat} (F : Fun K "is_row" "is_row" sIsRow f fd) (T : TxtR K w mg d es n) : FnOk P w K mg base CX0 (k + 1) f fd ["thing"] spIsRow := by
  refine F.ok scIsRow (fun vs H Q E h => ?_) (fun cdv A outer s H vs Q E hr h => ?_)
  · obtain ⟨bs, rfl, _⟩ := h
    rfl
  · obtain ⟨bs, rfl, hR, q⟩ := h
    have nd := scIsRow.nd
    obtain ⟨tm, gm⟩ := T.most
    refine ⟨_, pss_cons (ps_if (PW.pt (pw_or (pt_not (pt_val (pe_callB call_isi (by rfl) T.isi (by decide +kernel) (pa_cons (pv 0) (pa_cons (pe_bltn (v := .ty "str") (by rfl) T.str (by decide +kernel) rfl) pa_nil)))))
          (pw_or (pt_cmpR op_lt (pe_callB call_len_str (by rfl) T.len PySem.boot_len (pa_cons (pv 0) pa_nil)) pe_int (nomark _))
          (pw_or1 (pt_cmpR op_gt (pe_callB call_len_str (by rfl) T.len PySem.boot_len (pa_cons (pv 0) pa_nil)) (pe_glob (v := .int 30) (by rfl) gm ⟨_, rfl⟩) (nomark _))))))
        (pss_one (ps_ret pe_bl)) pss_nil)
      (pss_one (ps_ret (pe_callB (cr_all rfl) (by rfl) T.all (by decide +kernel) (pa_cons
        (pe_lc (own := [("sign", 1)]) (g := gName 1) (tt := tYes) (te := tOp (rInKd K d) (tVar 1) (tC (.ref d))) rfl nd (pi_str (pv 0)) (blkOk_by (own := [("sign", 1)]) (N := ["thing", "sign"]) (sc := defScope sIsRow) (by decide +kernel))
          (fun _ _ _ _ _ => pg_name (i := 1) nd rfl (Or.inl rfl)) (fun _ _ _ _ _ => pts_nil)
          (fun _ _ _ _ _ => pe_cmpR (op_inKd T.D) (pv 1) (pe_glob (v := .ref d) (by rfl) T.os rfl) (by rfl)))
        pa_nil)))), ?_⟩
    have hz := row_size hR
    refine ⟨.str (tx bs), rfl, .str (tx bs), .ty "str", .type "str", .type "str", true, rfl, .ty _, .base (.str _), kit_ty (by decide +kernel), true, rfl, iteF ?_⟩
    refine ⟨.str (tx bs), rfl, tx bs, rfl, hz, _, _, rfl, rfl, _, rfl, ?_⟩
    rw [tx_len, decide_eq_false (by have := hR.1; omega)]
    refine iteF ⟨.str (tx bs), rfl, tx bs, rfl, hz, _, _, rfl, rfl, _, rfl, ?_⟩
    rw [tx_len, decide_eq_false (by have := hR.2; omega)]
    refine iteF ⟨.str (tx bs), rfl, tx bs, rfl, fun D hD => ?_⟩
    refine lc_tx (bs := bs) (fun i H3 => Same H H3 ∧ H3 D = some (.lst ((List.replicate i true).map V.bl)) ∧ i ≤ 30) ⟨same_upd hD, upd_same, by decide⟩ ?_ ?_
    · rintro i b H3 hb ⟨sm, eD, hi⟩
      obtain ⟨r, e1, t, e2⟩ := in_os T b
      have hi2 : i < bs.length := (List.getElem?_eq_some_iff.mp hb).1
      refine ⟨rfl, .str (tx [b]), rfl, tx [b], some r, rfl, rfl, e1, _, eD, ?_, same_new hD sm, ?_, ?_⟩
      · rw [List.length_map, List.length_replicate]
        exact small1000 (by omega)
      · rw [upd_same, List.replicate_succ', List.map_append]
        rfl
      · have := hR.2
        omega
    · rintro H3 ⟨sm, eD, hi⟩
      refine ⟨D, List.replicate bs.length true, rfl, SqL.of eD, ?_⟩
      have e : (List.replicate bs.length true).all id = true := by simp
      rw [e]
      exact q H3 sm
def spNeed : Sp := fun vs H Q _ => ∃ bs, vs = [.str (tx bs)] ∧ Row bs ∧ ∀ H', Same H H' → Q .non H'
theorem scNeed : FnScope ["thing"] ["thing"] (defScope sNeedRow) := ⟨rfl, rfl, rfl, by decide +kernel, rfl, by decide +kernel, by decide +kernel⟩
theorem ok_need {f f1 : Addr} {fd fd1 : FuncData} {k : Nat} (F : Fun K "need_row" "need_row" sNeedRow f fd) (N1 : Fn K mg "is_row" sIsRow ["thing"] f1 fd1) (T : TxtR K w mg d es n) : FnOk P w K mg base CX0 (k + 2) f fd ["thing"] spNeed := by
  have G1 : FnOk P w K mg base CX0 (k + 1) f1 fd1 ["thing"] spIsRow := ok_isrow N1.F T
  refine F.ok scNeed (fun vs H Q E h => ?_) (fun cdv A outer s H vs Q E hr h => ?_)
  · obtain ⟨bs, rfl, _⟩ := h
    rfl
  · obtain ⟨bs, rfl, hR, q⟩ := h
    refine ⟨_, pss_one (ps_if (pt_not (pt_val (pe_call G1 hr (by rfl) N1.g N1.F.kp N1.b .nil pass0 (pa_cons (pv 0) pa_nil)))) (pss_one ps_never) pss_nil), ?_⟩
    exact ⟨.str (tx bs), rfl, bs, rfl, hR, fun H1 s1 => ⟨true, rfl, iteF (q H1 s1)⟩⟩
end
end Hop
namespace Hop
section
open PySem L2 HopR
open C8 (InsC call_isC)
variable {P : Program} {w : World} {K : PySem.W.Frag} {mg : Str → Option Value} {base : Heap} {C : Addr}
/-- at a a pace -/
def PC (C : Addr) (H : Hp) (a : Addr) (q : Rat) : Prop := PA C H a q ∧ 0 < q ∧ Sz 45 q
theorem PC.same {H H' : Hp} {a : Addr} {q : Rat} (s : Same H H') (h : PC C H a q) : PC C H' a q := ⟨h.1.same s, h.2⟩
/-- what is handed in as a pace, and the pace that it is -/
def Pw (C : Addr) (H : Hp) (x : V) (q : Rat) : Prop := (x = .non ∧ q = 1) ∨ ∃ a, x = .ref a ∧ PC C H a q
theorem Pw.same {H H' : Hp} {x : V} {q : Rat} (s : Same H H') (h : Pw C H x q) : Pw C H' x q := h.imp id fun ⟨a, e, p⟩ => ⟨a, e, p.same s⟩
theorem Pw.pos {H : Hp} {x : V} {q : Rat} (h : Pw C H x q) : 0 < q := by
  rcases h with ⟨_, rfl⟩ | ⟨_, _, p⟩
  · decide
  · exact p.2.1
theorem pc_one {H : Hp} {p : Addr} (h : PA C H p (Rat.divInt 1 1)) : PC C H p 1 := by
  have e : Rat.divInt 1 1 = 1 := by decide +kernel
  rw [e] at h
  exact ⟨h, by decide, ⟨by decide, by decide⟩⟩
end
end Hop
namespace Hop
section
open PySem L2 HopR
open C8 (InsC call_isC)
variable {P : Program} {w : World} {K : PySem.W.Frag} {mg : Str → Option Value} {base : Heap} {C : Addr}
variable {fi f1 f2 : Addr} {gi g1 g2 : FuncData} {d1 : Value}
def spPaceFrom (C : Addr) : Sp := fun vs H Q _ => ∃ x q, vs = [x] ∧ Pw C H x q ∧ ∀ H' a, Same H H' → PC C H' a q → Q (.ref a) H'
theorem scPaceFrom : FnScope ["thing"] ["thing"] (defScope sPaceFrom) := ⟨rfl, rfl, rfl, by decide +kernel, rfl, by decide +kernel, by decide +kernel⟩
theorem ok_paceFrom {f : Addr} {fd : FuncData} {k : Nat} (F : Fun K "pace_from" "pace_from" sPaceFrom f fd) (M : Mks K mg C fi f1 f2 gi g1 g2 d1) (T : TxtP K mg C) : FnOk P w K mg base CX0 (k + 4) f fd ["thing"] (spPaceFrom C) := by
  have GI : FnOk P w K mg base CX0 (k + 2) fi gi ["self", "top", "bottom"] (spInit C) := ok_init M.F M.N1 M.N2 T
  refine F.ok scPaceFrom (fun vs H Q E h => ?_) (fun cdv A outer s H vs Q E hr h => ?_)
  · obtain ⟨x, q, rfl, _⟩ := h
    rfl
  · obtain ⟨x, q, rfl, hx, h⟩ := h
    refine ⟨_, PSs.nox (pss_cons (ps_if (pt_cmpR op_isN (pv 0) pe_non (nomark _)) (pss_one (ps_ret (pe_make M.M GI hr (by rfl) T.mgC M.b2 (.cons M.r1 .nil) pass0 (pa_cons pe_int pa_nil)))) pss_nil)
      (pss_cons (ps_if (PW.pt (pw_or (pt_not (pt_val (pe_callB (call_isC T.ins) (by rfl) T.isi (by decide +kernel) (pa_cons (pv 0) (pa_cons (pe_glob (v := .ref C) (by rfl) T.mgC rfl) pa_nil))))) (pw_or1 (pt_cmpR op_lt (pe_fld (pv 0) rfl) pe_int (nomark _))))) (pss_one ps_never) pss_nil)
      (pss_one (ps_ret (pv 0))))), ?_⟩
    rcases hx with ⟨rfl, rfl⟩ | ⟨a, rfl, ⟨⟨dx, ha⟩, h0, hz⟩⟩
    · refine ⟨.non, rfl, rfl, _, rfl, ?_⟩
      rw [decide_eq_true rfl]
      refine iteT ?_
      intro p dx np hdx ne
      refine ⟨p, dx, 1, 1, rfl, by decide, Nat.one_lt_two_pow (by decide), upd_same, rfl, ?_⟩
      rw [upd_upd]
      obtain ⟨s3, pa3⟩ := mk_facts (C := C) (q := Rat.divInt 1 1) np hdx
      exact h _ p s3 (pc_one pa3)
    · refine ⟨.ref a, rfl, rfl, _, rfl, ?_⟩
      rw [decide_eq_false (fun z => nomatch z)]
      refine iteF ⟨.ref a, rfl, a, dx, _, rfl, ha, true, rfl, iteF ?_⟩
      refine ⟨.ref a, rfl, a, C, dx, _, _, rfl, ha, T.ins.cl, T.nT, pf_top q, _, _, rfl, rfl, _, rfl, ?_⟩
      have hp := num_pos h0
      rw [decide_eq_false (show ¬ q.num < 1 by omega)]
      exact iteF ⟨.ref a, rfl, h _ _ (Same.refl _) ⟨⟨dx, ha⟩, h0, hz⟩⟩
def spPacesFrom (C : Addr) : Sp := fun vs H Q _ => ∃ x y q r, vs = [x, y] ∧ Pw C H x q ∧ Pw C H y r ∧ ∀ H' p a b, Same H H' → H p = none → H' p = some (.tup [.ref a, .ref b]) → PC C H' a q → PC C H' b r → Q (.ref p) H'
theorem scPacesFrom : FnScope ["inn", "out", "first"] ["inn", "out"] (defScope sPacesFrom) := ⟨rfl, rfl, rfl, by decide +kernel, rfl, by decide +kernel, by decide +kernel⟩
theorem ok_pacesFrom {f p1 : Addr} {fd q1 : FuncData} {k : Nat} (F : Fun K "paces_from" "paces_from" sPacesFrom f fd) (N1 : Fn K mg "pace_from" sPaceFrom ["thing"] p1 q1) (M : Mks K mg C fi f1 f2 gi g1 g2 d1) (T : TxtP K mg C) : FnOk P w K mg base CX0 (k + 5) f fd ["inn", "out"] (spPacesFrom C) := by
  have G1 : FnOk P w K mg base CX0 (k + 4) p1 q1 ["thing"] (spPaceFrom C) := ok_paceFrom N1.F M T
  refine F.ok scPacesFrom (fun vs H Q E h => ?_) (fun cdv A outer s H vs Q E hr h => ?_)
  · obtain ⟨x, y, q, r, rfl, _⟩ := h
    rfl
  · obtain ⟨x, y, q, r, rfl, pa, pb, h⟩ := h
    have nd := scPacesFrom.nd
    refine ⟨_, pss_cons (ps_set (i := 2) nd rfl (.inl rfl) (pe_call G1 hr (by rfl) N1.g N1.F.kp N1.b .nil pass0 (pa_cons (pv 0) pa_nil)))
      (pss_one (ps_ret (pe_tup (pa_cons (pv 2) (pa_cons (pe_call G1 hr (by rfl) N1.g N1.F.kp N1.b .nil pass0 (pa_cons (pv 1) pa_nil)) pa_nil))))), ?_⟩
    refine ⟨x, rfl, x, q, rfl, pa, fun H1 a s1 p1 => ⟨.ref a, rfl, y, rfl, y, r, rfl, pb.same s1, fun H2 b s2 p2 => ⟨(by show 2 ≤ sizeLine; decide), fun p np => ?_⟩⟩⟩
    have s12 := s1.trans s2
    exact h _ p a b (s12.trans (same_upd np)) (s12.free np) upd_same (p1.same (s2.trans (same_upd np))) (p2.same (same_upd np))
theorem scPower : FnScope ["number", "many", "result", "bit"] ["number", "many"] (defScope sPower) := ⟨rfl, rfl, rfl, by decide +kernel, rfl, by decide +kernel, by decide +kernel⟩
def spPower : Sp := fun vs H Q _ => ∃ (x : Int) (n e : Nat), vs = [.int x, .int (n : Int)] ∧ n < 101 ∧ x.natAbs < 2 ^ e ∧ e * n ≤ 3000 ∧ e ≤ 3000 ∧ Q (.int (x ^ n)) H
theorem one_49 : ("1" : Str) = ⟨#[49]⟩ := by decide +kernel
theorem ok_power {f : Addr} {fd : FuncData} {k : Nat} (F : Fun K "power" "power" sPower f fd) : FnOk P w K mg base CX0 (k + 1) f fd ["number", "many"] spPower := by
  refine F.ok scPower (fun vs H Q E h => ?_) (fun cdv A outer s H vs Q E hr h => ?_)
  · obtain ⟨x, n, e, rfl, _⟩ := h
    rfl
  · obtain ⟨x, n, e, rfl, hn, hx, he, he2, q⟩ := h
    have nd := scPower.nd
    refine ⟨_, pss_cons (ps_set (i := 2) nd rfl (.inl rfl) pe_int)
      (pss_cons (ps_for PassesOwn.never rfl (pi_str (pe_joined1 (pe_fmtB (pv 1)))) (pg_name (i := 3) nd rfl (.inl rfl))
        (pss_cons (ps_aug (i := 2) nd rfl (.inl rfl) (pv 2) ip_mulW)
        (pss_one (ps_if (pt_cmpR op_eq (pv 3) pe_str (nomark _)) (pss_one (ps_aug (i := 2) nd rfl (.inl rfl) (pv 0) ip_mulW)) pss_nil))))
      (pss_one (ps_ret (pv 2)))), ?_⟩
    refine ⟨.int (n : Int), rfl, n, rfl, hn, binText n, rfl, ?_⟩
    have up : ∀ m, m ≤ n → (x ^ m).natAbs < 2 ^ 3001 := fun m hm => Nat.lt_of_lt_of_le (pow_lt hx hm) (Nat.pow_le_pow_right (by decide) (by omega))
    refine for_it (walk_str (z := binText n)) (fun i σ H3 => ∃ y3, σ = [some (.int x), some (.int (n : Int)), some (.int (x ^ (((binText n).cps.toList.take i).foldl step2 0))), y3] ∧ H3 = H) ⟨none, by rw [List.take_zero, List.foldl_nil, Int.pow_zero]; rfl, rfl⟩ (fun _ _ _ _ _ => trivial) ?_ ?_
    · rintro i v σ H3 H4 _ ⟨y3, rfl, rfl⟩ ⟨rfl, c, hc, rfl⟩
      obtain ⟨e1, e2⟩ := bin_le hn hc
      generalize ((binText n).cps.toList.take i).foldl step2 0 = m at e1 e2 ⊢
      have e3 : 2 * m ≤ n := by
        unfold step2 at e2
        omega
      refine ⟨_, rfl, _, rfl, _, _, rfl, rfl, wide_mul (up m (by omega)) (up m (by omega)) (by decide) (by decide) (by decide), ?_⟩
      have e4 : x ^ m * x ^ m = x ^ (2 * m) := by rw [← Int.pow_add, Nat.two_mul]
      rw [e4]
      refine ⟨_, rfl, rfl, _, rfl, ?_⟩
      by_cases h49 : c = 49
      · have ec : decide (V.str ⟨#[c]⟩ = V.str "1") = true := decide_eq_true (by rw [one_49, h49])
        rw [ec]
        refine iteT ⟨_, rfl, _, rfl, _, _, rfl, rfl, wide_mul (up (2 * m) e3) (by have := up 1 (by unfold step2 at e2; rw [if_pos h49] at e2; omega); rw [Int.pow_one] at this; exact this) (by decide) (by decide) (by decide), ?_⟩
        refine ⟨some (.str ⟨#[c]⟩), ?_, rfl⟩
        rw [← e1]
        unfold step2
        rw [if_pos h49, Int.pow_succ]
        rfl
      · have ec : decide (V.str ⟨#[c]⟩ = V.str "1") = false := decide_eq_false fun z => by
          rw [one_49] at z
          have z := V.str.inj z
          injection z with z
          exact h49 (by simpa using z)
        rw [ec]
        refine iteF ⟨some (.str ⟨#[c]⟩), ?_, rfl⟩
        rw [← e1]
        unfold step2
        rw [if_neg h49]
        rfl
    · rintro σ H3 ⟨y3, rfl, rfl⟩
      refine ⟨_, rfl, ?_⟩
      have : ((binText n).cps.toList.take (binText n).cps.size).foldl step2 0 = n := by
        rw [← Array.length_toList, List.take_length, bin_fold n hn]
      rw [this]
      exact q
end
end Hop
namespace Hop
section
open PySem L2 HopR
open C8 (InsC call_isC)
def LG (H : Hp) (o : Addr) : List (List Nat) → List V → Prop
  | [], vs => vs = []
  | L :: r, vs => ∃ p vr, vs = .ref p :: vr ∧ p ≠ o ∧ H p = some (.lst (L.map wv)) ∧ LG H o r vr
theorem lg_same {H H' : Hp} {o : Addr} (s : Same H H') : ∀ {Ls : List (List Nat)} {vs : List V}, LG H o Ls vs → LG H' o Ls vs
  | [], _, h => h
  | L :: r, _, ⟨p, vr, e, n, h1, h2⟩ => ⟨p, vr, e, n, s _ _ h1, lg_same s h2⟩
theorem lg_upd {H : Hp} {o : Addr} {x : HO} : ∀ {Ls : List (List Nat)} {vs : List V}, LG H o Ls vs → LG (upd H o x) o Ls vs
  | [], _, h => h
  | L :: r, _, ⟨p, vr, e, n, h1, h2⟩ => ⟨p, vr, e, n, by rw [upd_ne n]; exact h1, lg_upd h2⟩
theorem lg_to {H : Hp} {o o' : Addr} (hn : H o' = none) : ∀ {Ls : List (List Nat)} {vs : List V}, LG H o Ls vs → LG H o' Ls vs
  | [], _, h => h
  | L :: r, _, ⟨p, vr, e, n, h1, h2⟩ => ⟨p, vr, e, ne_of_none h1 hn, h1, lg_to hn h2⟩
theorem lg_len {H : Hp} {o : Addr} : ∀ {Ls : List (List Nat)} {vs : List V}, LG H o Ls vs → vs.length = Ls.length
  | [], _, h => by
    cases h
    rfl
  | L :: r, _, ⟨p, vr, e, _, _, h2⟩ => by rw [e, List.length_cons, List.length_cons, lg_len h2]
theorem lg_at {H : Hp} {o : Addr} : ∀ {Ls : List (List Nat)} {vs : List V} {k : Nat} {L : List Nat}, LG H o Ls vs → Ls[k]? = some L → ∃ p, vs[k]? = some (.ref p) ∧ H p = some (.lst (L.map wv))
  | [], _, k, L, h, e => by simp at e
  | M :: r, _, 0, L, ⟨p, vr, ev, _, h1, h2⟩, e => by
    have : M = L := Option.some.inj e
    subst this
    exact ⟨p, by rw [ev]; rfl, h1⟩
  | M :: r, _, k + 1, L, ⟨p, vr, ev, _, h1, h2⟩, e => by
    obtain ⟨p', e1, e2⟩ := lg_at (k := k) h2 e
    exact ⟨p', by rw [ev]; exact e1, e2⟩
theorem lg_add {H : Hp} {o p : Addr} {L : List Nat} (n : p ≠ o) (h1 : H p = some (.lst (L.map wv))) : ∀ {Ls : List (List Nat)} {vs : List V}, LG H o Ls vs → LG H o (Ls ++ [L]) (vs ++ [.ref p])
  | [], _, h => by
    cases h
    exact ⟨p, [], rfl, n, h1, rfl⟩
  | _ :: _, _, ⟨p', vr, e, n', h2, h3⟩ => ⟨p', vr ++ [.ref p], by rw [e]; rfl, n', h2, lg_add n h1 h3⟩
/-- the line that stands at a place -/
theorem lg_get {H : Hp} {o : Addr} {T : List (List Nat)} {vs : List V} {j : Nat} {x : V} (g : LG H o T vs) (hx : vs[j]? = some x) : ∃ p L, T[j]? = some L ∧ x = .ref p ∧ H p = some (.lst (L.map wv)) := by
  have hj : j < T.length := by
    rw [← lg_len g]
    exact (List.getElem?_eq_some_iff.mp hx).1
  obtain ⟨p, e1, e2⟩ := lg_at g (List.getElem?_eq_getElem hj)
  rw [hx] at e1
  exact ⟨p, _, List.getElem?_eq_getElem hj, Option.some.inj e1, e2⟩
/-- at a a table -/
def Tb (H : Hp) (a : Addr) (T : List (List Nat)) : Prop := ∃ vs, H a = some (.lst vs) ∧ LG H a T vs
theorem Tb.same {H H' : Hp} {a : Addr} {T : List (List Nat)} (s : Same H H') (h : Tb H a T) : Tb H' a T := let ⟨vs, e, g⟩ := h; ⟨vs, s _ _ e, lg_same s g⟩
/-- a new list that grows by a new line -/
def Gr (H0 H : Hp) (D : Addr) (T : List (List Nat)) : Prop := Same H0 H ∧ Tb H D T
theorem gr_nil {H0 : Hp} {D : Addr} (hD : H0 D = none) : Gr H0 (upd H0 D (.lst [])) D [] := ⟨same_upd hD, [], upd_same, rfl⟩
theorem gr_add {H0 H H4 : Hp} {D p : Addr} {T : List (List Nat)} {L : List Nat} {vs : List V} (hD : H0 D = none) (g : Gr H0 H D T) (s : Same H H4) (np : H p = none) (h1 : H4 p = some (.lst (L.map wv))) (ev : H D = some (.lst vs)) : Gr H0 (upd H4 D (.lst (vs ++ [.ref p]))) D (T ++ [L]) := by
  obtain ⟨s0, vs', e', gg⟩ := g
  rw [ev] at e'
  have e' : vs = vs' := by
    injection e' with e'
    injection e' with e'
  subst e'
  have np2 : p ≠ D := fun z => by
    rw [z, ev] at np
    cases np
  refine ⟨same_new hD (s0.trans s), _, upd_same, lg_upd (lg_add np2 h1 (lg_same s gg))⟩
def Small (T : List (List Nat)) : Prop := T.length ≤ 40 ∧ ∀ L ∈ T, L.length ≤ 40
theorem take_map_snoc {α β : Type} (f : α → β) {l : List α} {j : Nat} {a : α} (h : l[j]? = some a) : (l.take j).map f ++ [f a] = (l.take (j + 1)).map f := by
  rw [List.take_add_one, h, List.map_append]
  rfl
end
end Hop
namespace Hop
section
open PySem L2 HopR
open C8 (InsC call_isC)
variable {P : Program} {w : World} {K : PySem.W.Frag} {mg : Str → Option Value} {base : Heap}
def spBead : Sp := fun vs H Q _ => ∃ (a : Addr) (T : List (List Nat)), vs = [.ref a] ∧ Tb H a T ∧ Small T ∧ ∀ H' p, Same H H' → H p = none → Tb H' p (T.map (0 :: ·)) → Q (.ref p) H'
abbrev nWB : List Str := ["table", "line"]
theorem scBead : FnScope nWB ["table"] (defScope sWithBead) := ⟨rfl, rfl, rfl, by decide +kernel, rfl, by decide +kernel, by decide +kernel⟩
theorem ok_bead {f : Addr} {fd : FuncData} {k : Nat} (F : Fun K "with_bead" "with_bead" sWithBead f fd) : FnOk P w K mg base CX0 (k + 1) f fd ["table"] spBead := by
  refine F.ok scBead (fun vs H Q E h => ?_) (fun cdv A outer s H vs Q E hr h => ?_)
  · obtain ⟨a, T, rfl, _⟩ := h
    rfl
  · obtain ⟨a, T, rfl, ⟨xs, ea, ga⟩, hT, q⟩ := h
    have nd := scBead.nd
    refine ⟨_, pss_one (ps_ret (pe_lc (own := [("line", 1)]) (g := gName 1) (tt := tYes) rfl nd (pi_list (pv 0)) (blkOk_by (own := [("line", 1)]) (N := nWB) (sc := defScope sWithBead) (by decide +kernel)) (fun _ _ _ _ _ => pg_name (i := 1) nd rfl (Or.inl rfl)) (fun _ _ _ _ _ => pts_nil) (fun _ _ _ _ _ => pe_op op_cat (pe_lst (pa_cons pe_int pa_nil)) (pv 1)))), ?_⟩
    refine ⟨.ref a, rfl, a, rfl, ⟨_, SqL.of ea⟩, fun D hD => ?_⟩
    refine lc_list (K := K) (a := a) (xs := xs) (fun j H3 => Gr H H3 D ((T.take j).map (0 :: ·))) (gr_nil hD) (fun j H3 _ h => SqL.of (h.1 _ _ ea)) ?_ ?_
    · rintro j x H3 hx g3
      obtain ⟨p, L, hL, rfl, ep⟩ := lg_get ga hx
      have hl := hT.2 L (List.mem_of_getElem? hL)
      have hj : j < T.length := (List.getElem?_eq_some_iff.mp hL).1
      have hT1 := hT.1
      obtain ⟨vD, eD, gD⟩ := g3.2
      refine ⟨rfl, (by show 1 ≤ sizeLine; decide), fun o1 n1 => ⟨.ref p, rfl, o1, p, _, L.map wv, rfl, rfl, upd_same, ?_, ?_, fun p5 n5 => ?_⟩⟩
      · exact (same_upd n1) _ _ (g3.1 _ _ ep)
      · rw [List.length_map]
        exact fit (by show 1 + L.length ≤ _; omega)
      · have s5 := (same_upd (o := .lst [.int 0]) n1).trans (same_upd (o := .lst ([V.int 0] ++ L.map wv)) n5)
        refine ⟨vD, s5 _ _ eD, ?_, ?_⟩
        · rw [lg_len gD, List.length_map]
          exact fit' (Nat.le_trans (List.length_take_le _ _) (by omega))
        · rw [← take_map_snoc _ hL]
          exact gr_add hD g3 s5 ((same_upd n1).free n5) upd_same eD
    · rintro H3 g3
      rw [lg_len ga, List.take_length] at g3
      exact q H3 D g3.1 hD g3.2
end
end Hop
namespace Hop
section
open PySem L2 HopR
open C8 (InsC call_isC)
theorem cutN_from (v : List Nat) (k : Nat) : cutV (v.map wv) (some (k : Int)) none = (v.drop k).map wv := by
  unfold cutV
  rw [HT.sIx_nat, List.length_map, List.map_drop]
  show ((v.map wv).drop (min k v.length)).take (v.length - min k v.length) = _
  by_cases h : k ≤ v.length
  · rw [Nat.min_eq_left h, List.take_of_length_le (by rw [List.length_drop, List.length_map]; exact Nat.le_refl _)]
  · rw [Nat.min_eq_right (by omega), Nat.sub_self, List.take_zero, List.drop_of_length_le (by rw [List.length_map]; omega)]
theorem ints_of (v : List Nat) : v.map wv = (v.map fun k : Nat => (k : Int)).map V.int := by
  rw [List.map_map]
  rfl
theorem ints_sum : ∀ v : List Nat, (v.map fun k : Nat => (k : Int)).sum = ((v.sum : Nat) : Int)
  | [] => rfl
  | a :: r => by
    rw [List.map_cons, List.sum_cons, ints_sum r, List.sum_cons, Int.natCast_add]
def tl (l : List Nat) : List Nat := (List.range (l.length - 1)).map fun i => (l.drop (1 + i)).sum
theorem sfx_eq : ∀ l : List Nat, HopW.sfx l = (List.range l.length).map fun i => (l.drop i).sum
  | [] => rfl
  | m :: l => by
    rw [List.length_cons, List.range_succ_eq_map, List.map_cons, List.map_map]
    show (m + l.sum) :: HopW.sfx l = (m :: l).sum :: _
    rw [sfx_eq l, List.sum_cons]
    rfl
theorem tl_eq (l : List Nat) : tl l = HopW.sfx l.tail := by
  rw [sfx_eq, List.length_tail]
  unfold tl
  refine List.map_congr_left fun i _ => ?_
  rw [← List.drop_one, List.drop_drop]
def wf (T : List (List Nat)) : List (List Nat) := List.zipWith (fun h t => h :: t) (0 :: T.map List.sum) (T.map tl ++ [[]])
theorem wf_eq (T : List (List Nat)) : wf T = HopW.go 0 T := by
  unfold wf
  generalize 0 = s
  induction T generalizing s with
  | nil => rfl
  | cons l t ih =>
    show (s :: tl l) :: List.zipWith (fun h t => h :: t) (l.sum :: t.map List.sum) (t.map tl ++ [[]]) = (s :: HopW.sfx l.tail) :: HopW.go l.sum t
    rw [ih, tl_eq]
theorem wf_len (T : List (List Nat)) : (wf T).length = T.length + 1 := by
  unfold wf
  rw [List.length_zipWith, List.length_cons, List.length_map, List.length_append, List.length_map]
  show min (T.length + 1) (T.length + 1) = _
  omega
theorem tl_len (l : List Nat) : (tl l).length = l.length - 1 := by
  unfold tl
  rw [List.length_map, List.length_range]
def rLenQ (K : PySem.W.Frag) : List V → Hp → VK → Prop := fun xs H Q => ∃ p ys, xs = [.ref p] ∧ (SqL K H p ys ∨ SqT K H p ys) ∧ Q (.int ys.length) H
abbrev tTail (K : PySem.W.Frag) : TE := tCB (rSum K) (tCons (tSl (rSlL K) (tVar 3) (tPart (tVar 4)) tNoPart) tNil)
abbrev tTails (K : PySem.W.Frag) : TE := tLc (iRng2 (tCons (tC (.int 1)) (tCons (tCB (rLenQ K) (tCons (tVar 3) tNil)) tNil))) (gName 4) tYes (tTail K) [4]
def scLine : Scope := { kind := .function, names := [(".0", .local), ("line", .cell), ("range", .globalImplicit), ("len", .globalImplicit)], isGenerator := false, isCoroutine := false }
end
end Hop
namespace Hop
section
open PySem L2 HopR
open C8 (InsC call_isC)
variable {P : Program} {w : World} {K : PySem.W.Frag} {mg : Str → Option Value} {base : Heap}
structure TxtL (mg : Str → Option Value) : Prop where
  sum : mg "sum" = none
  range : mg "range" = none
  len : mg "len" = none
  zip : mg "zip" = none
  enum : mg "enumerate" = none
  reversed : mg "reversed" = none
def spFree : Sp := fun vs H Q _ => ∃ (a : Addr) (T : List (List Nat)), vs = [.ref a] ∧ Tb H a T ∧ Small T ∧ ∀ H' p, Same H H' → H p = none → Tb H' p (wf T) → Q (.ref p) H'
abbrev nWF : List Str := ["table", "heads", "tails", "line", "beads", "head", "tail"]
theorem scFree : FnScope nWF ["table"] (defScope sWithFree) := ⟨rfl, rfl, rfl, by decide +kernel, rfl, by decide +kernel, by decide +kernel⟩
set_option maxHeartbeats 4000000 in
theorem ok_free {f : Addr} {fd : FuncData} {k : Nat} (F : Fun K "with_free" "with_free" sWithFree f fd) (T0 : TxtL mg) : FnOk P w K mg base CX0 (k + 1) f fd ["table"] spFree := by
  refine F.ok scFree (fun vs H Q E h => ?_) (fun cdv A outer s H vs Q E hr h => ?_)
  · obtain ⟨a, T, rfl, _⟩ := h
    rfl
  · obtain ⟨a, T, rfl, ⟨xs, ea, ga⟩, hT, q⟩ := h
    have nd := scFree.nd
    have hT1 := hT.1
    have hxl := lg_len ga
    refine ⟨_, pss_cons (ps_set (i := 1) nd rfl (.inl rfl) (pe_op op_cat (pe_lst (pa_cons pe_int pa_nil))
        (pe_lc (own := [("line", 3)]) (g := gName 3) (tt := tYes) (te := tCB (rSum K) (tCons (tVar 3) tNil)) rfl nd (pi_list (pv 0)) (blkOk_by (own := [("line", 3)]) (N := nWF) (sc := defScope sWithFree) (by decide +kernel)) (fun _ _ _ _ _ => pg_name (i := 3) nd rfl (Or.inl rfl)) (fun _ _ _ _ _ => pts_nil) (fun _ _ _ _ _ => pe_callB (show CallR _ (.builtin "sum") (rSum K) from cr_sum rfl) (by rfl) T0.sum (by decide +kernel) (pa_cons (pv 3) pa_nil)))))
      (pss_cons (ps_set (i := 2) nd rfl (.inl rfl) (pe_op op_cat
        (pe_lc (own := [("line", 3)]) (g := gName 3) (tt := tYes) (te := tTails K) rfl nd (pi_list (pv 0)) (blkOk_by (own := [("line", 3)]) (N := nWF) (sc := defScope sWithFree) (by decide +kernel)) (fun _ _ _ _ _ => pg_name (i := 3) nd rfl (Or.inr rfl)) (fun _ _ _ _ _ => pts_nil)
          (fun _ _ _ _ _ => pe_lc (own := [("beads", 4)]) (g := gName 4) (tt := tYes) (te := tTail K) rfl nd (pi_range2 (by rfl) T0.range (pa_cons pe_int (pa_cons (pe_callB (show CallR _ (.builtin "len") (rLenQ K) from call_len_seq) (by rfl) T0.len PySem.boot_len (pa_cons (pv 3) pa_nil)) pa_nil))) (blkOk_by (own := [("beads", 4)]) (N := nWF) (sc := relS scLine (defScope sWithFree)) (by decide +kernel)) (fun _ _ _ _ _ => pg_name (i := 4) nd rfl (Or.inl rfl)) (fun _ _ _ _ _ => pts_nil)
            (fun _ _ _ _ _ => pe_callB (show CallR _ (.builtin "sum") (rSum K) from cr_sum rfl) (by rfl) T0.sum (by decide +kernel) (pa_cons (pe_slice (show SlR _ (rSlL K) from sl_list) (pv 3) (po_some (pv 4)) po_none) pa_nil))))
        (pe_lst (pa_cons (pe_lst pa_nil) pa_nil))))
      (pss_one (ps_ret (pe_lc (own := [("head", 5), ("tail", 6)]) (g := gTup K 2 (gCons (gName 5) (gCons (gName 6) gNil))) (tt := tYes) rfl nd (pi_zip (by rfl) T0.zip (pa_cons (pv 1) (pa_cons (pv 2) pa_nil)))
        (blkOk_by (own := [("head", 5), ("tail", 6)]) (N := nWF) (sc := defScope sWithFree) (by decide +kernel))
        (fun _ _ _ _ _ => pg_tup (by rfl) (pgs_cons (pg_name (i := 5) nd rfl (.inl rfl)) (pgs_cons (pg_name (i := 6) nd rfl (.inl rfl)) pgs_nil))) (fun _ _ _ _ _ => pts_nil) (fun _ _ _ _ _ => pe_op op_cat (pe_lst (pa_cons (pv 5) pa_nil)) (pv 6)))))), ?_⟩
    refine ⟨(by show 1 ≤ sizeLine; decide), fun l1 n1 => ?_⟩
    have t1 := same_upd (o := .lst [.int 0]) n1
    have e1 : upd H l1 (.lst [.int 0]) l1 = some (.lst [.int 0]) := upd_same
    generalize upd H l1 (.lst [.int 0]) = H1 at t1 e1
    refine ⟨.ref a, rfl, a, rfl, ⟨_, SqL.of (t1 _ _ ea)⟩, fun D2 hD2 => ?_⟩
    refine lc_list (K := K) (a := a) (xs := xs) (fun j H3 => Same H1 H3 ∧ H3 D2 = some (.lst (((T.take j).map List.sum).map wv))) ⟨same_upd hD2, upd_same⟩ (fun j H3 _ h => SqL.of ((t1.trans h.1) _ _ ea)) ?_ ?_
    · rintro j x H3 hx ⟨s3, e3⟩
      obtain ⟨p, L, hL, rfl, ep⟩ := lg_get ga hx
      refine ⟨rfl, .ref p, rfl, p, _, rfl, SqL.of (by rw [← ints_of]; exact (t1.trans s3) _ _ ep), ?_⟩
      rw [ints_sum]
      refine ⟨_, e3, ?_, same_new hD2 s3, ?_⟩
      · rw [List.length_map, List.length_map]
        exact fit' (Nat.le_trans (List.length_take_le _ _) (by have := (List.getElem?_eq_some_iff.mp hL).1; omega))
      · rw [upd_same, ← take_map_snoc _ hL, List.map_append]
        rfl
    rintro H2 ⟨s2, e2⟩
    rw [hxl, List.take_length] at e2
    refine ⟨l1, D2, [.int 0], (T.map List.sum).map wv, rfl, rfl, s2 _ _ e1, e2, by rw [List.length_map, List.length_map]; exact fit (by show 1 + T.length ≤ _; omega), fun l3 n3 => ?_⟩
    have c3 : [V.int 0] ++ (T.map List.sum).map wv = (0 :: T.map List.sum).map wv := rfl
    rw [c3]
    have t3 : Same H (upd H2 l3 (.lst ((0 :: T.map List.sum).map wv))) := (t1.trans s2).trans (same_upd n3)
    have e3 : upd H2 l3 (.lst ((0 :: T.map List.sum).map wv)) l3 = some (.lst ((0 :: T.map List.sum).map wv)) := upd_same
    generalize upd H2 l3 (.lst ((0 :: T.map List.sum).map wv)) = H3 at t3 e3
    refine ⟨.ref a, rfl, a, rfl, ⟨_, SqL.of (t3 _ _ ea)⟩, fun D4 hD4 => ?_⟩
    refine lc_list (K := K) (a := a) (xs := xs) (fun j H5 => Gr H3 H5 D4 ((T.take j).map tl)) (gr_nil hD4) (fun j H5 _ h => SqL.of ((t3.trans h.1) _ _ ea)) ?_ ?_
    · rintro j x H5 hx g5
      obtain ⟨p, L, hL, rfl, ep⟩ := lg_get ga hx
      have hl := hT.2 L (List.mem_of_getElem? hL)
      have hj : j < T.length := (List.getElem?_eq_some_iff.mp hL).1
      have ep5 := (t3.trans g5.1) _ _ ep
      obtain ⟨vD, eD, gD⟩ := g5.2
      refine ⟨rfl, .ref p, rfl, p, _, rfl, .inl (SqL.of ep5), 1, _, rfl, ⟨by decide, by decide, by rw [List.length_map]; omega, by rw [List.length_map]; omega⟩, fun D6 hD6 => ?_⟩
      rw [show (((L.map wv).length : Int) - 1).toNat = L.length - 1 by rw [List.length_map]; omega]
      have tk : ∀ i, i < L.length - 1 → ((List.range (L.length - 1)).map fun i => (L.drop (1 + i)).sum)[i]? = some ((L.drop (1 + i)).sum) := fun i hi => by
        rw [List.getElem?_map, List.getElem?_range hi]
        rfl
      refine lc_range (lo := 1) (n := L.length - 1) (fun i H6 => Same H5 H6 ∧ H6 D6 = some (.lst (((tl L).take i).map wv))) ⟨same_upd hD6, upd_same⟩ ?_ ?_
      · rintro i H6 hi ⟨s6, e6⟩
        refine ⟨rfl, .ref p, rfl, .int (1 + (i : Int)), rfl, 1 + (i : Int), rfl, p, _, rfl, SqL.of (s6 _ _ ep5), fun p7 n7 => ?_⟩
        rw [show (1 : Int) + (i : Int) = ((1 + i : Nat) : Int) by omega, cutN_from]
        have s7 := same_upd (o := .lst ((L.drop (1 + i)).map wv)) n7
        have e7 : upd H6 p7 (.lst ((L.drop (1 + i)).map wv)) p7 = some (.lst ((L.drop (1 + i)).map wv)) := upd_same
        generalize upd H6 p7 (.lst ((L.drop (1 + i)).map wv)) = H7 at s7 e7
        refine ⟨p7, _, rfl, SqL.of (by rw [← ints_of]; exact e7), ?_⟩
        rw [ints_sum]
        refine ⟨_, s7 _ _ e6, ?_, same_new hD6 (s6.trans s7), ?_⟩
        · rw [List.length_map]
          exact fit' (Nat.le_trans (List.length_take_le _ _) (by omega))
        · rw [upd_same, List.take_add_one, show (tl L)[i]? = _ from tk i hi, List.map_append]
          rfl
      · rintro H6 ⟨s6, e6⟩
        rw [List.take_of_length_le (by rw [tl_len]; exact Nat.le_refl _)] at e6
        refine ⟨vD, s6 _ _ eD, ?_, ?_⟩
        · rw [lg_len gD, List.length_map]
          exact fit' (Nat.le_trans (List.length_take_le _ _) (by omega))
        · rw [← take_map_snoc _ hL]
          exact gr_add hD4 g5 s6 hD6 e6 eD
    rintro H5 g5
    rw [hxl, List.take_length] at g5
    obtain ⟨s5, vD, eD, gD⟩ := g5
    refine ⟨(by show 0 ≤ sizeLine; decide), fun l6 n6 => ⟨(by show 1 ≤ sizeLine; decide), fun l7 n7 => ?_⟩⟩
    have s6 := same_upd (o := .lst []) n6
    have e6 : upd H5 l6 (.lst []) l6 = some (.lst []) := upd_same
    generalize upd H5 l6 (.lst []) = H6 at s6 e6 n7
    have s7 := same_upd (o := .lst [.ref l6]) n7
    have e7 : upd H6 l7 (.lst [.ref l6]) l7 = some (.lst [.ref l6]) := upd_same
    generalize upd H6 l7 (.lst [.ref l6]) = H7 at s7 e7
    have s57 := s6.trans s7
    have hvl : vD.length = T.length := by rw [lg_len gD, List.length_map]
    refine ⟨D4, l7, vD, [.ref l6], rfl, rfl, s57 _ _ eD, e7, by rw [hvl]; exact fit (by show T.length + 1 ≤ _; omega), fun l8 n8 => ?_⟩
    have g8 : LG H7 l8 (T.map tl ++ [[]]) (vD ++ [.ref l6]) := lg_add (L := []) (ne_of_none (s7 _ _ e6) n8) (s7 _ _ e6) (lg_to n8 (lg_same s57 gD))
    have s8 := same_upd (o := .lst (vD ++ [.ref l6])) n8
    have e8 : upd H7 l8 (.lst (vD ++ [.ref l6])) l8 = some (.lst (vD ++ [.ref l6])) := upd_same
    have g8 := lg_same s8 g8
    generalize upd H7 l8 (.lst (vD ++ [.ref l6])) = H8 at s8 e8 g8
    have s38 : Same H3 H8 := s5.trans (s57.trans s8)
    have e38 := s38 _ _ e3
    have s08 := t3.trans s38
    generalize vD ++ [.ref l6] = ys at e8 g8
    have hyl : ys.length = T.length + 1 := by
      rw [lg_len g8, List.length_append, List.length_map]
      rfl
    refine ⟨.ref l3, rfl, .ref l8, rfl, l3, l8, _, _, rfl, SqL.of e38, SqL.of e8, fun D9 hD9 => ?_⟩
    refine lc_it (walk_zip (K := K) (a := l3) (b := l8) (xs := (0 :: T.map List.sum).map wv) (ys := ys) (n := T.length + 1) (by rw [List.length_map, List.length_cons, List.length_map, hyl, Nat.min_self]))
      (fun i H9 => Gr H8 H9 D9 ((wf T).take i)) (gr_nil hD9) (fun i H9 _ h => ⟨SqL.of (h.1 _ _ e38), SqL.of (h.1 _ _ e8)⟩) ?_ ?_
    · rintro i x H9 H10 hi g9 ⟨t, x1, x2, rfl, nt, rfl, hx1, hx2⟩
      have hx1 : ((0 :: T.map List.sum).map wv)[i]? = some x1 := hx1
      have hx2 : ys[i]? = some x2 := hx2
      rw [List.getElem?_map] at hx1
      obtain ⟨k1, hk1, rfl⟩ := Option.map_eq_some_iff.mp hx1
      obtain ⟨p, L, hL, rfl, ep⟩ := lg_get g8 hx2
      have hw : (wf T)[i]? = some (k1 :: L) := by
        unfold wf
        rw [List.getElem?_zipWith, hk1, hL]
      have hLl : L.length ≤ 40 := by
        rcases List.mem_append.mp (List.mem_of_getElem? hL) with z | z
        · obtain ⟨M, hM, rfl⟩ := List.mem_map.mp z
          rw [tl_len]
          have := hT.2 M hM
          omega
        · rw [List.mem_singleton.mp z]
          exact Nat.zero_le _
      have st := same_upd (o := .tup [wv k1, .ref p]) nt
      obtain ⟨s9, v9, e9, g9'⟩ := id g9
      refine ⟨t, _, rfl, SqT.of upd_same, rfl, _, _, rfl, _, _, rfl, rfl, rfl, wv k1, rfl, (by show 1 ≤ sizeLine; decide), fun o1 n1 => ?_⟩
      have s1 := st.trans (same_upd (o := .lst [wv k1]) n1)
      refine ⟨.ref p, rfl, o1, p, _, L.map wv, rfl, rfl, upd_same, s1 _ _ (s9 _ _ ep), ?_, fun p5 n5 => ?_⟩
      · rw [List.length_map]
        exact fit (by show 1 + L.length ≤ _; omega)
      · have s15 := s1.trans (same_upd (o := .lst ([wv k1] ++ L.map wv)) n5)
        refine ⟨v9, s15 _ _ e9, ?_, ?_⟩
        · rw [lg_len g9']
          exact fit' (Nat.le_trans (List.length_take_le _ _) (by omega))
        · rw [List.take_add_one, hw]
          exact gr_add (L := k1 :: L) hD9 g9 s15 (s1.free n5) upd_same e9
    · rintro H9 g9
      rw [List.take_of_length_le (by rw [wf_len]; exact Nat.le_refl _)] at g9
      exact q H9 D9 (s08.trans g9.1) (s08.free hD9) g9.2
end
end Hop
namespace Hop
section
open PySem L2 HopR
open C8 (InsC call_isC)
theorem sfx_len : ∀ l : List Nat, (HopW.sfx l).length = l.length
  | [] => rfl
  | _ :: l => by
    show (HopW.sfx l).length + 1 = l.length + 1
    rw [sfx_len l]
theorem go_len : ∀ (T : List (List Nat)) (s : Nat), (HopW.go s T).length = T.length + 1
  | [], _ => rfl
  | l :: t, s => by
    show (HopW.go l.sum t).length + 1 = t.length + 1 + 1
    rw [go_len t]
theorem go_line {m : Nat} (hm : 1 ≤ m) : ∀ (T : List (List Nat)) (s : Nat), (∀ L ∈ T, L.length ≤ m) → ∀ L ∈ HopW.go s T, L.length ≤ m
  | [], s, _, L, hL => by
    rw [List.mem_singleton.mp hL]
    exact hm
  | l :: t, s, h, L, hL => by
    rcases List.mem_cons.mp hL with rfl | hL
    · show (HopW.sfx l.tail).length + 1 ≤ m
      have := h l List.mem_cons_self
      rw [sfx_len, List.length_tail]
      omega
    · exact go_line hm t l.sum (fun L hL => h L (List.mem_cons_of_mem _ hL)) L hL
theorem fold_len : ∀ (w : List Bool) (T : List (List Nat)), (w.foldl HopW.stT T).length = T.length + w.count false
  | [], _ => rfl
  | true :: w, T => by
    rw [List.foldl_cons, fold_len w, List.count_cons_of_ne (by decide)]
    show (T.map (0 :: ·)).length + _ = _
    rw [List.length_map]
  | false :: w, T => by
    rw [List.foldl_cons, fold_len w, List.count_cons_self]
    show (HopW.go 0 T).length + _ = _
    rw [go_len]
    omega
theorem fold_line : ∀ (w : List Bool) (T : List (List Nat)) (m : Nat), 1 ≤ m → (∀ L ∈ T, L.length ≤ m) → ∀ L ∈ w.foldl HopW.stT T, L.length ≤ m + w.count true
  | [], _, _, _, h, L, hL => h L hL
  | true :: w, T, m, hm, h, L, hL => by
    rw [List.foldl_cons] at hL
    have := fold_line w (HopW.stT T true) (m + 1) (by omega) (fun M hM => by
      obtain ⟨M', h', rfl⟩ := List.mem_map.mp hM
      show M'.length + 1 ≤ m + 1
      have := h M' h'
      omega) L hL
    rw [List.count_cons_self]
    omega
  | false :: w, T, m, hm, h, L, hL => by
    rw [List.foldl_cons] at hL
    rw [List.count_cons_of_ne (by decide)]
    exact fold_line w (HopW.stT T false) m hm (go_line hm T 0 h) L hL
theorem tbl_len (w : List Bool) : (HopW.tbl w).length = w.count false + 1 := by
  unfold HopW.tbl
  rw [fold_len]
  show 1 + _ = _
  omega
theorem tbl_line {w : List Bool} {L : List Nat} (h : L ∈ HopW.tbl w) : L.length ≤ w.count true + 1 := by
  have := fold_line w [[1]] 1 (by decide) (fun L hL => by rw [List.mem_singleton.mp hL]; decide) L h
  omega
theorem tbl_small {w : List Bool} (h : w.length ≤ 30) : Small (HopW.tbl w) := by
  have h1 := List.count_le_length (a := false) (l := w)
  have h2 := List.count_le_length (a := true) (l := w)
  refine ⟨by rw [tbl_len]; omega, fun L hL => ?_⟩
  have := tbl_line hL
  omega
def eL (f b : Nat) : List Nat → List (Nat × Nat × Nat)
  | [] => []
  | m :: l => (if 0 < m then [(f, b, m)] else []) ++ eL f (b + 1) l
def eT (f : Nat) : List (List Nat) → List (Nat × Nat × Nat)
  | [] => []
  | l :: t => eL f 0 l ++ eT (f + 1) t
theorem eL_app (f : Nat) : ∀ (l r : List Nat) (b : Nat), eL f b (l ++ r) = eL f b l ++ eL f (b + l.length) r
  | [], r, b => rfl
  | m :: l, r, b => by
    show (if 0 < m then [(f, b, m)] else []) ++ eL f (b + 1) (l ++ r) = _
    rw [eL_app f l r (b + 1), ← List.append_assoc]
    show _ = _ ++ eL f (b + (l.length + 1)) r
    rw [show b + 1 + l.length = b + (l.length + 1) by omega]
    rfl
theorem eT_app : ∀ (l r : List (List Nat)) (f : Nat), eT f (l ++ r) = eT f l ++ eT (f + l.length) r
  | [], r, f => rfl
  | m :: l, r, f => by
    show eL f 0 m ++ eT (f + 1) (l ++ r) = _
    rw [eT_app l r (f + 1), ← List.append_assoc]
    show _ = _ ++ eT (f + (l.length + 1)) r
    rw [show f + 1 + l.length = f + (l.length + 1) by omega]
    rfl
theorem eL_take {f : Nat} {l : List Nat} {j m : Nat} (h : l[j]? = some m) : eL f 0 (l.take (j + 1)) = eL f 0 (l.take j) ++ (if 0 < m then [(f, j, m)] else []) := by
  have hj := (List.getElem?_eq_some_iff.mp h).1
  rw [List.take_add_one, h, eL_app, List.length_take, Nat.min_eq_left (by omega), Nat.zero_add]
  show _ ++ ((if 0 < m then [(f, j, m)] else []) ++ []) = _
  rw [List.append_nil]
theorem eT_take {T : List (List Nat)} {i : Nat} {l : List Nat} (h : T[i]? = some l) : eT 0 (T.take (i + 1)) = eT 0 (T.take i) ++ eL i 0 l := by
  have hj := (List.getElem?_eq_some_iff.mp h).1
  rw [List.take_add_one, h, eT_app, List.length_take, Nat.min_eq_left (by omega), Nat.zero_add]
  show _ ++ (eL i 0 l ++ []) = _
  rw [List.append_nil]
def f3 (e : Nat × Nat × Nat) : List V := [wv e.1, wv e.2.1, wv e.2.2]
/-- a walk, whatever is done at each turn -/
theorem out_it {J : It} {n : Nat} {G : Hp → Prop} {Y : Nat → Hp → V → Hp → Prop} (w : Walk J n G Y) {B : (Hp → Prop) → V → Hp → Prop} {H1 : Hp} {Qd : Hp → Prop} (Pv : Nat → Hp → Prop) (h0 : Pv 0 H1) (hG : ∀ i H, i ≤ n → Pv i H → G H)
    (hs : ∀ i x H H', i < n → Pv i H → Y i H x H' → B (Pv (i + 1)) x H') (hd : ∀ H, Pv n H → Qd H) :
    ∃ W : Nat → Nat → Hp → Prop, (∃ m, W 0 m H1) ∧ ∀ i m H, W i m H → (J.stop i H ∧ Qd H) ∨ (J.go i H ∧ ∃ Nx : Hp → Prop, (∀ H', Nx H' → ∃ m', m' < m ∧ W (i + 1) m' H') ∧ ∀ x H', J.yld i H x H' → B Nx x H') := by
  refine ⟨fun i m H => i + m = n ∧ Pv i H, ⟨n, Nat.zero_add n, h0⟩, fun i m H h => ?_⟩
  obtain ⟨e, p⟩ := h
  have hg := hG i H (by omega) p
  cases m with
  | zero =>
    have e : i = n := e
    subst e
    exact .inl ⟨w.stops H hg, hd H p⟩
  | succ m =>
    exact .inr ⟨w.goes i H (by omega) hg, Pv (i + 1), fun H' p' => ⟨m, Nat.lt_succ_self m, by omega, p'⟩, fun x H' y => hs i x H H' (by omega) p (w.yields i H x H' (by omega) hg y)⟩
/-- a new list of new tuples -/
def GrT (H0 H : Hp) (D : Addr) (es : List (Nat × Nat × Nat)) (n : Nat) : Prop := Same H0 H ∧ ∃ acc, H D = some (.lst acc) ∧ TupG H f3 es acc ∧ acc.length ≤ n
end
end Hop
namespace Hop
section
open PySem L2 HopR
open C8 (InsC call_isC)
variable {P : Program} {w : World} {K : PySem.W.Frag} {mg : Str → Option Value} {base : Heap} {d : Addr} {es : Array DictEntry} {n : Nat}
theorem scIsWord : FnScope ["thing"] ["thing"] (defScope sIsWord) := ⟨rfl, rfl, rfl, by decide +kernel, rfl, by decide +kernel, by decide +kernel⟩
theorem ok_isword {f f1 : Addr} {fd fd1 : FuncData} {k : Nat} (F : Fun K "is_word" "is_word" sIsWord f fd) (N1 : Fn K mg "is_row" sIsRow ["thing"] f1 fd1) (T : TxtR K w mg d es n) : FnOk P w K mg base CX0 (k + 2) f fd ["thing"] spIsRow := by
  have G1 : FnOk P w K mg base CX0 (k + 1) f1 fd1 ["thing"] spIsRow := ok_isrow N1.F T
  refine F.ok scIsWord (fun vs H Q E h => ?_) (fun cdv A outer s H vs Q E hr h => ?_)
  · obtain ⟨bs, rfl, _⟩ := h
    rfl
  · obtain ⟨bs, rfl, hR, q⟩ := h
    refine ⟨_, pss_one (ps_ret (pe_or (pe_call G1 hr (by rfl) N1.g N1.F.kp N1.b .nil pass0 (pa_cons (pv 0) pa_nil))
      (pe_one (pe_and (pe_callB call_isi (by rfl) T.isi (by decide +kernel) (pa_cons (pv 0) (pa_cons (pe_bltn (v := .ty "str") (by rfl) T.str (by decide +kernel) rfl) pa_nil))) (pe_one (pe_cmpR op_eq (pv 0) pe_str (nomark _))))))), ?_⟩
    exact ⟨.str (tx bs), rfl, bs, rfl, hR, fun H1 s1 => ⟨true, rfl, q H1 s1⟩⟩
theorem scNeedW : FnScope ["thing"] ["thing"] (defScope sNeedWord) := ⟨rfl, rfl, rfl, by decide +kernel, rfl, by decide +kernel, by decide +kernel⟩
theorem ok_needw {f f1 f2 : Addr} {fd fd1 fd2 : FuncData} {k : Nat} (F : Fun K "need_word" "need_word" sNeedWord f fd) (N1 : Fn K mg "is_row" sIsRow ["thing"] f1 fd1) (N2 : Fn K mg "is_word" sIsWord ["thing"] f2 fd2) (T : TxtR K w mg d es n) : FnOk P w K mg base CX0 (k + 3) f fd ["thing"] spNeed := by
  have G1 : FnOk P w K mg base CX0 (k + 2) f2 fd2 ["thing"] spIsRow := ok_isword N2.F N1 T
  refine F.ok scNeedW (fun vs H Q E h => ?_) (fun cdv A outer s H vs Q E hr h => ?_)
  · obtain ⟨bs, rfl, _⟩ := h
    rfl
  · obtain ⟨bs, rfl, hR, q⟩ := h
    refine ⟨_, pss_one (ps_if (pt_not (pt_val (pe_call G1 hr (by rfl) N2.g N2.F.kp N2.b .nil pass0 (pa_cons (pv 0) pa_nil)))) (pss_one ps_never) pss_nil), ?_⟩
    exact ⟨.str (tx bs), rfl, bs, rfl, hR, fun H1 s1 => ⟨true, rfl, iteF (q H1 s1)⟩⟩
structure EnDefs (K : PySem.W.Frag) (mg : Str → Option Value) : Prop where
  R : ∃ r s, Fn K mg "is_row" sIsRow ["thing"] r s
  W : ∃ r s, Fn K mg "is_word" sIsWord ["thing"] r s
  N : ∃ r s, Fn K mg "need_word" sNeedWord ["thing"] r s
  B : ∃ r s, Fn K mg "with_bead" sWithBead ["table"] r s
  F : ∃ r s, Fn K mg "with_free" sWithFree ["table"] r s
def spEndsOf : Sp := fun vs H Q _ => ∃ bs, vs = [.str (tx bs)] ∧ Row bs ∧ ∀ H' p acc, Same H H' → H p = none → H' p = some (.lst acc) → TupG H' f3 (eT 0 (HopW.tbl bs)) acc → acc.length ≤ 1600 → Q (.ref p) H'
abbrev nEO : List Str := ["word", "table", "sign", "frees", "line", "beads", "many"]
theorem scEndsOf : FnScope nEO ["word"] (defScope sEndsOf) := ⟨rfl, rfl, rfl, by decide +kernel, rfl, by decide +kernel, by decide +kernel⟩
def rGtI : R2 := rI0 fun i j => .bl (decide (i > j))
theorem is_o (b : Bool) : decide (V.str (tx [b]) = V.str "o") = b := by
  rw [tx_o]
  cases b with
  | true => exact decide_eq_true rfl
  | false => exact decide_eq_false fun q => absurd (tx_inj (V.str.inj q)) (by decide)
theorem tbl_step {bs : List Bool} {i : Nat} {b : Bool} (h : bs[i]? = some b) : HopW.tbl (bs.take (i + 1)) = HopW.stT (HopW.tbl (bs.take i)) b := by
  unfold HopW.tbl
  rw [List.take_add_one, h, List.foldl_append]
  rfl
set_option maxHeartbeats 4000000 in
theorem ok_endsOf {f : Addr} {fd : FuncData} {k : Nat} (F : Fun K "ends_of" "ends_of" sEndsOf f fd) (N : EnDefs K mg) (T : TxtR K w mg d es n) (T0 : TxtL mg) : FnOk P w K mg base CX0 (k + 4) f fd ["word"] spEndsOf := by
  obtain ⟨f1, g1, N1⟩ := N.R
  obtain ⟨f2, g2, N2⟩ := N.W
  obtain ⟨f3', g3, N3⟩ := N.N
  obtain ⟨f4, g4, N4⟩ := N.B
  obtain ⟨f5, g5, N5⟩ := N.F
  have G3 : FnOk P w K mg base CX0 (k + 3) f3' g3 ["thing"] spNeed := ok_needw N3.F N1 N2 T
  have G4 : FnOk P w K mg base CX0 (k + 3) f4 g4 ["table"] spBead := ok_bead N4.F
  have G5 : FnOk P w K mg base CX0 (k + 3) f5 g5 ["table"] spFree := ok_free N5.F T0
  refine F.ok scEndsOf (fun vs H Q E h => ?_) (fun cdv A outer s H vs Q E hr h => ?_)
  · obtain ⟨bs, rfl, _⟩ := h
    rfl
  · obtain ⟨bs, rfl, hR, q⟩ := h
    have nd := scEndsOf.nd
    obtain ⟨tb, gb⟩ := T.bead
    have h30 := hR.2
    refine ⟨_, pss_cons (ps_expr (pe_call G3 hr (by rfl) N3.g N3.F.kp N3.b .nil pass0 (pa_cons (pv 0) pa_nil)))
      (pss_cons (ps_set (i := 1) nd rfl (.inl rfl) (pe_lst (pa_cons (pe_lst (pa_cons pe_int pa_nil)) pa_nil)))
      (pss_cons (ps_for PassesOwn.never rfl (pi_str (pv 0)) (pg_name (i := 2) nd rfl (.inl rfl))
        (pss_one (ps_set (i := 1) nd rfl (.inl rfl) (pe_ifExp (pt_cmpR op_eq (pv 2) (pe_glob (v := .str "o") (by rfl) gb ⟨_, rfl⟩) (nomark _)) (pe_call G4 hr (by rfl) N4.g N4.F.kp N4.b .nil pass0 (pa_cons (pv 1) pa_nil)) (pe_call G5 hr (by rfl) N5.g N5.F.kp N5.b .nil pass0 (pa_cons (pv 1) pa_nil))))))
      (pss_one (ps_ret (pe_lc2 (own := [("frees", 3), ("line", 4), ("beads", 5), ("many", 6)]) (vs1 := [5, 6]) (g := gTup K 2 (gCons (gName 3) (gCons (gName 4) gNil))) (tt := tYes) (wi1 := iEnum K (tCons (tVar 4) tNil)) (g1 := gTup K 2 (gCons (gName 5) (gCons (gName 6) gNil))) (tt1 := tTest (tOp rGtI (tVar 6) (tC (.int 0)))) rfl nd
        (pi_enum (by rfl) T0.enum (pa_cons (pv 1) pa_nil)) (blkOk_by (own := [("frees", 3), ("line", 4), ("beads", 5), ("many", 6)]) (N := nEO) (sc := defScope sEndsOf) (by decide +kernel)) (by decide)
        (fun _ _ _ _ _ => pg_tup (by rfl) (pgs_cons (pg_name (i := 3) nd rfl (.inl rfl)) (pgs_cons (pg_name (i := 4) nd rfl (.inl rfl)) pgs_nil))) (fun _ _ _ _ _ => pts_nil)
        (fun _ _ _ _ _ => pi_enum (by rfl) T0.enum (pa_cons (pv 4) pa_nil))
        (fun _ _ _ _ _ => pg_tup (by rfl) (pgs_cons (pg_name (i := 5) nd rfl (.inl rfl)) (pgs_cons (pg_name (i := 6) nd rfl (.inl rfl)) pgs_nil)))
        (fun _ _ _ _ _ => pts_one (pt_cmpR (show OpR _ (compareOp .Gt) rGtI from op_gt) (pv 6) pe_int (nomark _)))
        (fun _ _ _ _ _ => pe_tup (pa_cons (pv 3) (pa_cons (pv 5) (pa_cons (pv 6) pa_nil))))))))), ?_⟩
    refine ⟨.str (tx bs), rfl, bs, rfl, hR, fun H1 s1 => ?_⟩
    refine ⟨(by show 1 ≤ sizeLine; decide), fun l2 n2 => ⟨(by show 1 ≤ sizeLine; decide), fun l3 n3 => ?_⟩⟩
    have s2 := same_upd (o := .lst [.int 1]) n2
    have e2 : upd H1 l2 (.lst [.int 1]) l2 = some (.lst [.int 1]) := upd_same
    generalize upd H1 l2 (.lst [.int 1]) = H2 at s2 e2 n3
    have s3 := same_upd (o := .lst [.ref l2]) n3
    have t3 : Tb (upd H2 l3 (.lst [.ref l2])) l3 [[1]] := ⟨_, upd_same, l2, [], rfl, ne_of_none e2 n3, s3 _ _ e2, rfl⟩
    generalize upd H2 l3 (.lst [.ref l2]) = H3 at s3 t3
    have s03 := s1.trans (s2.trans s3)
    refine ⟨.str (tx bs), rfl, tx bs, rfl, ?_⟩
    refine for_tx (bs := bs) (fun i σ H4 => ∃ (y2 : Option V) (p : Addr), σ = [some (.str (tx bs)), some (.ref p), y2, none, none, none, none] ∧ Same H H4 ∧ Tb H4 p (HopW.tbl (bs.take i))) ⟨_, l3, rfl, s03, t3⟩ ?_ ?_
    · rintro i b σ H4 hb ⟨y2, p, rfl, s4, t4⟩
      have hsm : Small (HopW.tbl (bs.take i)) := tbl_small (by rw [List.length_take]; omega)
      refine ⟨.str (tx [b]), rfl, rfl, _, rfl, ?_⟩
      rw [is_o]
      have hst := tbl_step hb
      cases b with
      | true =>
        refine iteT ⟨.ref p, rfl, p, _, rfl, t4, hsm, fun H5 p5 s5 n5 t5 => ⟨_, p5, rfl, s4.trans s5, ?_⟩⟩
        rw [hst]
        exact t5
      | false =>
        refine iteF ⟨.ref p, rfl, p, _, rfl, t4, hsm, fun H5 p5 s5 n5 t5 => ⟨_, p5, rfl, s4.trans s5, ?_⟩⟩
        rw [hst]
        rw [wf_eq] at t5
        exact t5
    · rintro σ H4 ⟨y2, p, rfl, s4, t4⟩
      rw [List.take_length] at t4
      have hsm : Small (HopW.tbl bs) := tbl_small h30
      generalize HopW.tbl bs = U at t4 hsm q
      obtain ⟨xs, ep, gp⟩ := t4
      have hU := hsm.1
      refine ⟨.ref p, rfl, p, _, rfl, SqL.of ep, fun D hD => ?_⟩
      refine out_it (walk_enum (K := K) (a := p) (xs := xs)) (fun i H5 => GrT H4 H5 D (eT 0 (U.take i)) (40 * i)) ⟨same_upd hD, [], upd_same, rfl, Nat.le_refl _⟩ (fun i H5 _ h => SqL.of (h.1 _ _ ep)) ?_ ?_
      · rintro i x H5 H6 hi ⟨s5, acc, eD, gD, hl⟩ ⟨t, x1, x2, rfl, nt, rfl, hx1, hx2⟩
        have hx1 : some (V.int (i : Nat)) = some x1 := hx1
        obtain rfl := Option.some.inj hx1
        have hx2 : xs[i]? = some x2 := hx2
        obtain ⟨pl, L, hL, rfl, el⟩ := lg_get gp hx2
        have hLl := hsm.2 L (List.mem_of_getElem? hL)
        have hi2 : i < U.length := (List.getElem?_eq_some_iff.mp hL).1
        have st := same_upd (o := .tup [.int (i : Nat), .ref pl]) nt
        have et : upd H5 t (.tup [.int (i : Nat), .ref pl]) t = some (.tup [.int (i : Nat), .ref pl]) := upd_same
        generalize upd H5 t (.tup [.int (i : Nat), .ref pl]) = H6 at st et
        have el6 := (s5.trans st) _ _ el
        refine ⟨t, _, rfl, SqT.of et, rfl, _, _, rfl, _, _, rfl, rfl, rfl, ?_⟩
        refine ⟨.ref pl, rfl, pl, _, rfl, SqL.of el6, ?_⟩
        refine out_it (walk_enum (K := K) (a := pl) (xs := L.map wv)) (fun j H7 => GrT H4 H7 D (eT 0 (U.take i) ++ eL i 0 (L.take j)) (40 * i + j)) ⟨s5.trans st, acc, st _ _ eD, by
          show TupG H6 f3 (eT 0 (U.take i) ++ []) acc
          rw [List.append_nil]
          exact tupG_same st gD, hl⟩ (fun j H7 _ h => SqL.of (h.1 _ _ el)) ?_ ?_
        · rintro j x H7 H8 hj ⟨s7, acc7, eD7, gD7, hl7⟩ ⟨t', x1, x2, rfl, nt', rfl, hx1, hx2⟩
          have hx1 : some (V.int (j : Nat)) = some x1 := hx1
          obtain rfl := Option.some.inj hx1
          have hx2 : (L.map wv)[j]? = some x2 := hx2
          rw [List.getElem?_map] at hx2
          obtain ⟨m, hm, rfl⟩ := Option.map_eq_some_iff.mp hx2
          have hj2 : j < L.length := (List.getElem?_eq_some_iff.mp hm).1
          have st' := same_upd (o := .tup [.int (j : Nat), wv m]) nt'
          have et' : upd H7 t' (.tup [.int (j : Nat), wv m]) t' = some (.tup [.int (j : Nat), wv m]) := upd_same
          generalize upd H7 t' (.tup [.int (j : Nat), wv m]) = H8 at st' et'
          refine ⟨t', _, rfl, SqT.of et', rfl, _, _, rfl, _, _, rfl, rfl, rfl, ?_⟩
          refine ⟨wv m, rfl, _, _, rfl, rfl, _, rfl, ?_⟩
          have hE := eL_take (f := i) hm
          by_cases hm0 : 0 < m
          · rw [if_pos hm0] at hE
            rw [decide_eq_true (show (m : Int) > 0 by omega)]
            refine iteT ⟨.int (i : Nat), rfl, .int (j : Nat), rfl, wv m, rfl, (by show 3 ≤ sizeLine; decide), fun p9 n9 => ?_⟩
            have s9 := st'.trans (same_upd (o := .tup [.int (i : Nat), .int (j : Nat), wv m]) n9)
            have e9 : upd H8 p9 (.tup [.int (i : Nat), .int (j : Nat), wv m]) p9 = some (.tup (f3 (i, j, m))) := upd_same
            generalize upd H8 p9 (.tup [.int (i : Nat), .int (j : Nat), wv m]) = H9 at s9 e9
            refine ⟨acc7, s9 _ _ eD7, fit' (by omega), same_new hD (s7.trans s9), _, upd_same, ?_, ?_⟩
            · rw [hE, ← List.append_assoc]
              exact tupG_upd (s9 _ _ eD7) (tupG_add e9 (tupG_same s9 gD7))
            · rw [List.length_append]
              show acc7.length + 1 ≤ _
              omega
          · rw [if_neg hm0, List.append_nil] at hE
            rw [decide_eq_false (show ¬ (m : Int) > 0 by omega)]
            refine iteF ⟨s7.trans st', acc7, st' _ _ eD7, ?_, by omega⟩
            rw [hE]
            exact tupG_same st' gD7
        · rintro H7 ⟨s7, acc7, eD7, gD7, hl7⟩
          rw [List.length_map] at hl7 gD7
          rw [List.take_length] at gD7
          refine ⟨s7, acc7, eD7, ?_, by omega⟩
          rw [eT_take hL]
          exact gD7
      · rintro H5 ⟨s5, acc, eD, gD, hl⟩
        rw [lg_len gp] at gD hl
        rw [List.take_length] at gD
        exact q H5 D acc (s4.trans s5) (s4.free hD) eD gD (by omega)
end
end Hop
namespace Hop
section
open PySem L2 HopR
open C8 (InsC call_isC)
theorem count_tx (bs : List Bool) (b : Bool) : PySem.Txt.count (tx bs) (tx [b]) = ((bs.count b : Nat) : Int) := by
  have e1 : tx [b] = ⟨#[cd b]⟩ := by cases b <;> decide +kernel
  have e : PySem.Txt.count (tx bs) ⟨#[cd b]⟩ = PyProof.Rows.cnt (cd b) (tx bs).cps.toList := PyProof.Rows.count_is (tx bs) (cd b)
  rw [e1, e, tx_list]
  clear e e1
  induction bs with
  | nil => rfl
  | cons c r ih =>
    rw [List.map_cons, PyProof.Rows.cnt_cons, ih]
    by_cases h : c = b
    · subst h
      rw [List.count_cons_self, if_pos rfl]
      omega
    · rw [List.count_cons_of_ne h, if_neg (by cases b <;> cases c <;> first | (exact absurd rfl h) | decide)]
      omega
theorem sfx_sum : ∀ l : List Nat, (HopW.sfx l).sum ≤ l.length * l.sum
  | [] => Nat.le_refl _
  | m :: l => by
    show ((m + l.sum) :: HopW.sfx l).sum ≤ (l.length + 1) * (m :: l).sum
    rw [List.sum_cons, List.sum_cons]
    have h1 := sfx_sum l
    have h2 : l.length * l.sum ≤ l.length * (m + l.sum) := Nat.mul_le_mul_left _ (Nat.le_add_left _ _)
    rw [Nat.add_mul, Nat.one_mul]
    omega
theorem go_sum {M : Nat} : ∀ (T : List (List Nat)) (s : Nat), s ≤ M → (∀ L ∈ T, L.length ≤ 40 ∧ L.sum ≤ M) → ∀ L ∈ HopW.go s T, L.sum ≤ 64 * M
  | [], s, hs, _, L, hL => by
    rw [List.mem_singleton.mp hL]
    show s + 0 ≤ _
    omega
  | l :: t, s, hs, h, L, hL => by
    have hl := h l List.mem_cons_self
    rcases List.mem_cons.mp hL with rfl | hL
    · rw [List.sum_cons]
      have h1 := sfx_sum l.tail
      have h2 : l.tail.sum ≤ l.sum := by
        cases l with
        | nil => exact Nat.le_refl _
        | cons m r =>
          rw [List.tail_cons, List.sum_cons]
          omega
      have h3 : l.tail.length * l.tail.sum ≤ 40 * M := Nat.mul_le_mul (by rw [List.length_tail]; omega) (by omega)
      omega
    · exact go_sum t l.sum hl.2 (fun L hL => h L (List.mem_cons_of_mem _ hL)) L hL
theorem tbl_sum {bs : List Bool} (h : bs.length ≤ 30) : ∀ i, i ≤ bs.length → ∀ L ∈ HopW.tbl (bs.take i), L.sum ≤ 64 ^ i
  | 0, _, L, hL => by
    rw [List.take_zero] at hL
    rw [List.mem_singleton.mp hL]
    decide
  | i + 1, hi, L, hL => by
    have ih := tbl_sum h i (by omega)
    rw [tbl_step (List.getElem?_eq_getElem (show i < bs.length by omega))] at hL
    have hs := tbl_small (w := bs.take i) (by rw [List.length_take]; omega)
    have hp : 64 ^ (i + 1) = 64 * 64 ^ i := by rw [Nat.pow_succ, Nat.mul_comm]
    rw [hp]
    cases hb : bs[i] with
    | true =>
      rw [hb] at hL
      obtain ⟨M, hM, rfl⟩ := List.mem_map.mp hL
      have := ih M hM
      rw [List.sum_cons]
      omega
    | false =>
      rw [hb] at hL
      exact go_sum _ 0 (Nat.zero_le _) (fun L hL => ⟨hs.2 L hL, ih L hL⟩) L hL
theorem mem_sum : ∀ {l : List Nat} {m : Nat}, m ∈ l → m ≤ l.sum
  | a :: l, m, h => by
    rw [List.sum_cons]
    rcases List.mem_cons.mp h with rfl | h
    · omega
    · have := mem_sum h
      omega
theorem eL_mem {f : Nat} : ∀ {l : List Nat} {b : Nat} {e : Nat × Nat × Nat}, e ∈ eL f b l → e.1 = f ∧ e.2.1 < b + l.length ∧ e.2.2 ∈ l
  | [], _, _, h => nomatch h
  | m :: l, b, e, h => by
    rcases List.mem_append.mp h with h | h
    · by_cases hm : 0 < m
      · rw [if_pos hm] at h
        rw [List.mem_singleton.mp h]
        exact ⟨rfl, by show b < b + (l.length + 1); omega, List.mem_cons_self⟩
      · rw [if_neg hm] at h
        exact nomatch h
    · obtain ⟨h1, h2, h3⟩ := eL_mem h
      exact ⟨h1, by show e.2.1 < b + (l.length + 1); omega, List.mem_cons_of_mem _ h3⟩
theorem eT_mem : ∀ {T : List (List Nat)} {f : Nat} {e : Nat × Nat × Nat}, e ∈ eT f T → e.1 < f + T.length ∧ ∃ L ∈ T, e.2.1 < L.length ∧ e.2.2 ∈ L
  | [], _, _, h => nomatch h
  | l :: t, f, e, h => by
    rcases List.mem_append.mp h with h | h
    · obtain ⟨h1, h2, h3⟩ := eL_mem h
      exact ⟨by show e.1 < f + (t.length + 1); omega, l, List.mem_cons_self, by omega, h3⟩
    · obtain ⟨h1, L, h2, h3⟩ := eT_mem h
      exact ⟨by show e.1 < f + (t.length + 1); omega, L, List.mem_cons_of_mem _ h2, h3⟩
/-- an end of a row -/
structure EndOf (bs : List Bool) (e : Nat × Nat × Nat) : Prop where
  f : e.1 ≤ bs.count false
  b : e.2.1 ≤ bs.count true
  m : e.2.2 < 2 ^ 200
theorem end_of {bs : List Bool} (h : bs.length ≤ 30) {e : Nat × Nat × Nat} (he : e ∈ eT 0 (HopW.tbl bs)) : EndOf bs e := by
  obtain ⟨h1, L, hL, h2, h3⟩ := eT_mem he
  have hs := tbl_sum h bs.length (Nat.le_refl _) L (by rw [List.take_length]; exact hL)
  have hl := tbl_line hL
  rw [tbl_len] at h1
  refine ⟨by omega, by omega, Nat.lt_of_le_of_lt (Nat.le_trans (mem_sum h3) hs) ?_⟩
  refine Nat.lt_of_le_of_lt (Nat.pow_le_pow_right (n := 64) (j := 30) (by decide) h) (by decide)
def tI (q r : Rat) (F B : Nat) (e : Nat × Nat × Nat) : Int := (e.2.2 : Int) * ((q.den : Int) ^ e.1 * q.num ^ (F - e.1)) * ((r.den : Int) ^ e.2.1 * r.num ^ (B - e.2.1))
def sI (q r : Rat) (F B : Nat) : List (Nat × Nat × Nat) → Int
  | [] => 0
  | e :: l => tI q r F B e + sI q r F B l
def rs (x y : Rat) : List (Nat × Nat × Nat) → Rat
  | [] => 0
  | e :: l => (e.2.2 : Rat) * x ^ e.1 * y ^ e.2.1 + rs x y l
theorem sI_app (q r : Rat) (F B : Nat) : ∀ l k : List (Nat × Nat × Nat), sI q r F B (l ++ k) = sI q r F B l + sI q r F B k
  | [], k => by show _ = 0 + _; rw [Int.zero_add]; rfl
  | e :: l, k => by
    show tI q r F B e + sI q r F B (l ++ k) = tI q r F B e + sI q r F B l + _
    rw [sI_app q r F B l k, Int.add_assoc]
theorem rs_app (x y : Rat) : ∀ l k : List (Nat × Nat × Nat), rs x y (l ++ k) = rs x y l + rs x y k
  | [], k => by show rs x y k = 0 + _; rw [Rat.zero_add]
  | e :: l, k => by
    show _ + rs x y (l ++ k) = _ + rs x y l + _
    rw [rs_app x y l k, Rat.add_assoc]
theorem rs_eL (x y : Rat) (f : Nat) : ∀ (l : List Nat) (b : Nat), rs x y (eL f b l) = x ^ f * HopW.lp (fun j => y ^ (b + j)) l
  | [], b => by show (0 : Rat) = x ^ f * 0; grind
  | m :: l, b => by
    show rs x y ((if 0 < m then [(f, b, m)] else []) ++ eL f (b + 1) l) = x ^ f * ((m : Rat) * y ^ (b + 0) + HopW.lp (fun j => y ^ (b + (j + 1))) l)
    rw [rs_app, rs_eL x y f l (b + 1), show (fun j => y ^ (b + 1 + j)) = fun j => y ^ (b + (j + 1)) from funext fun j => by rw [show b + 1 + j = b + (j + 1) by omega], Nat.add_zero]
    by_cases hm : 0 < m
    · rw [if_pos hm]
      show (m : Rat) * x ^ f * y ^ b + 0 + _ = _
      grind
    · rw [if_neg hm, show m = 0 by omega]
      show (0 : Rat) + _ = x ^ f * (((0 : Nat) : Rat) * y ^ b + _)
      grind
theorem rs_eT (x y : Rat) : ∀ (T : List (List Nat)) (f : Nat), rs x y (eT f T) = x ^ f * HopW.tp x (fun j => y ^ j) T
  | [], f => by show (0 : Rat) = x ^ f * 0; grind
  | l :: t, f => by
    show rs x y (eL f 0 l ++ eT (f + 1) t) = x ^ f * (HopW.lp (fun j => y ^ j) l + x * HopW.tp x (fun j => y ^ j) t)
    rw [rs_app, rs_eL, rs_eT x y t (f + 1), show (fun j => y ^ (0 + j)) = fun j => y ^ j from funext fun j => by rw [Nat.zero_add], Rat.pow_succ]
    grind
theorem rmul_pow (x p : Rat) : ∀ n : Nat, (x * p) ^ n = x ^ n * p ^ n
  | 0 => by rw [Rat.pow_zero, Rat.pow_zero, Rat.pow_zero, Rat.mul_one]
  | n + 1 => by
    rw [Rat.pow_succ, Rat.pow_succ, Rat.pow_succ, rmul_pow x p n]
    grind
theorem rpow_add (x : Rat) (a b : Nat) : x ^ (a + b) = x ^ a * x ^ b := by grind
theorem share_is {x p d : Rat} (h : x * p = d) {f F : Nat} (hf : f ≤ F) : d ^ f * p ^ (F - f) = x ^ f * p ^ F := by
  rw [← h, rmul_pow, Rat.mul_assoc, ← rpow_add, show f + (F - f) = F by omega]
theorem inv_num {q : Rat} (h : 0 < q) : q⁻¹ * ((q.num : Int) : Rat) = ((q.den : Nat) : Rat) := by
  have hn : ((q.num : Int) : Rat) ≠ 0 := fun e => ne_above h (Rat.num_eq_zero.mp (Rat.intCast_eq_zero_iff.mp e))
  have hd : ((q.den : Nat) : Rat) ≠ 0 := fun e => q.den_nz (by exact_mod_cast e)
  have e : q = ((q.num : Int) : Rat) / ((q.den : Nat) : Rat) := by
    conv => lhs; rw [← Rat.num_divInt_den q, Rat.divInt_eq_div]
    rfl
  have e2 : q * ((q.den : Nat) : Rat) = ((q.num : Int) : Rat) := by
    conv => lhs; lhs; rw [e]
    exact Rat.div_mul_cancel hd
  rw [← e2, ← Rat.mul_assoc, Rat.inv_mul_cancel q (ne_above h), Rat.one_mul]
theorem tI_rat {q r : Rat} (hq : 0 < q) (hr : 0 < r) {F B : Nat} {e : Nat × Nat × Nat} (h1 : e.1 ≤ F) (h2 : e.2.1 ≤ B) :
    ((tI q r F B e : Int) : Rat) = ((q.num : Int) : Rat) ^ F * ((r.num : Int) : Rat) ^ B * ((e.2.2 : Rat) * q⁻¹ ^ e.1 * r⁻¹ ^ e.2.1) := by
  unfold tI
  rw [Rat.intCast_mul, Rat.intCast_mul, Rat.intCast_mul, Rat.intCast_mul, Rat.intCast_pow, Rat.intCast_pow, Rat.intCast_pow, Rat.intCast_pow, Rat.intCast_natCast, Rat.intCast_natCast, Rat.intCast_natCast, share_is (inv_num hq) h1, share_is (inv_num hr) h2]
  grind
theorem sI_rat {q r : Rat} (hq : 0 < q) (hr : 0 < r) {F B : Nat} : ∀ {l : List (Nat × Nat × Nat)}, (∀ e ∈ l, e.1 ≤ F ∧ e.2.1 ≤ B) → ((sI q r F B l : Int) : Rat) = ((q.num : Int) : Rat) ^ F * ((r.num : Int) : Rat) ^ B * rs q⁻¹ r⁻¹ l
  | [], _ => by show ((0 : Int) : Rat) = _ * 0; grind
  | e :: l, h => by
    have he := h e List.mem_cons_self
    show ((tI q r F B e + sI q r F B l : Int) : Rat) = _ * (_ + rs q⁻¹ r⁻¹ l)
    rw [Rat.intCast_add, tI_rat hq hr he.1 he.2, sI_rat hq hr (fun e he => h e (List.mem_cons_of_mem _ he))]
    grind
theorem num_ne {q : Rat} (h : 0 < q) : q.num ≠ 0 := fun e => ne_above h (Rat.num_eq_zero.mp e)
theorem weight_is {q r : Rat} (hq : 0 < q) (hr : 0 < r) {bs : List Bool} (h : bs.length ≤ 30) :
    Rat.divInt (sI q r (bs.count false) (bs.count true) (eT 0 (HopW.tbl bs))) (q.num ^ (bs.count false) * r.num ^ (bs.count true)) = HopW.wt q⁻¹ r⁻¹ bs := by
  have hn : ((q.num : Int) : Rat) ^ (bs.count false) * ((r.num : Int) : Rat) ^ (bs.count true) ≠ 0 := by
    rw [← Rat.intCast_pow, ← Rat.intCast_pow, ← Rat.intCast_mul]
    intro e
    exact Int.mul_ne_zero (Int.pow_ne_zero (num_ne hq)) (Int.pow_ne_zero (num_ne hr)) (Rat.intCast_eq_zero_iff.mp e)
  rw [Rat.divInt_eq_div, sI_rat hq hr (fun e he => ⟨(end_of h he).f, (end_of h he).b⟩), Rat.intCast_mul, Rat.intCast_pow, Rat.intCast_pow, rs_eT, Rat.pow_zero, Rat.one_mul, HopW.wt_tbl, Rat.mul_comm, Rat.mul_div_cancel hn]
theorem pow_le {x : Int} {e : Nat} (h : x.natAbs < 2 ^ e) (m : Nat) : (x ^ m).natAbs ≤ 2 ^ (e * m) := by
  rw [Int.natAbs_pow, Nat.pow_mul]
  exact Nat.pow_le_pow_left (Nat.le_of_lt h) m
theorem share_le {q : Rat} (h : Sz 45 q) {f F : Nat} (hf : f ≤ F) : ((q.den : Int) ^ f * q.num ^ (F - f)).natAbs ≤ 2 ^ (45 * F) := by
  have h1 := pow_le (x := (q.den : Int)) h.2 f
  have h2 := pow_le h.1 (F - f)
  rw [Int.natAbs_mul]
  refine Nat.le_trans (Nat.mul_le_mul h1 h2) ?_
  rw [← Nat.pow_add, ← Nat.mul_add, show f + (F - f) = F by omega]
  exact Nat.le_refl _
theorem share_lt {q : Rat} (h : Sz 45 q) {f F : Nat} (hf : f ≤ F) (hF : F ≤ 30) : ((q.den : Int) ^ f * q.num ^ (F - f)).natAbs < 2 ^ 1351 :=
  Nat.lt_of_le_of_lt (share_le h hf) (Nat.pow_lt_pow_right (by decide) (by omega))
theorem tI_lt {q r : Rat} (hq : Sz 45 q) (hr : Sz 45 r) {bs : List Bool} (h : bs.length ≤ 30) {e : Nat × Nat × Nat} (he : EndOf bs e) : (tI q r (bs.count false) (bs.count true) e).natAbs < 2 ^ 2902 := by
  have c1 := List.count_le_length (a := false) (l := bs)
  have c2 := List.count_le_length (a := true) (l := bs)
  have h1 := share_lt hq he.f (by omega)
  have h2 := share_lt hr he.b (by omega)
  have h3 : ((e.2.2 : Int)).natAbs < 2 ^ 200 := he.m
  exact wide_lt (wide_lt h3 h1) h2
theorem sI_lt {q r : Rat} (hq : Sz 45 q) (hr : Sz 45 r) {bs : List Bool} (h : bs.length ≤ 30) : ∀ {l : List (Nat × Nat × Nat)}, (∀ e ∈ l, EndOf bs e) → (sI q r (bs.count false) (bs.count true) l).natAbs ≤ l.length * 2 ^ 2902
  | [], _ => Nat.zero_le _
  | e :: l, he => by
    have h1 := tI_lt hq hr h (he e List.mem_cons_self)
    have h2 := sI_lt hq hr h (l := l) (fun e h => he e (List.mem_cons_of_mem _ h))
    show (tI q r (bs.count false) (bs.count true) e + sI q r (bs.count false) (bs.count true) l).natAbs ≤ (l.length + 1) * _
    refine Nat.le_trans (Int.natAbs_add_le _ _) ?_
    rw [Nat.add_mul, Nat.one_mul]
    omega
theorem weight_sz {q r : Rat} (pq : 0 < q) (pr : 0 < r) (hq : Sz 45 q) (hr : Sz 45 r) {bs : List Bool} (h : bs.length ≤ 30) (hl : (eT 0 (HopW.tbl bs)).length ≤ 1600) : Sz 2920 (HopW.wt q⁻¹ r⁻¹ bs) := by
  rw [← weight_is pq pr h]
  have c1 := List.count_le_length (a := false) (l := bs)
  have c2 := List.count_le_length (a := true) (l := bs)
  refine sz_divInt (Int.mul_ne_zero (Int.pow_ne_zero (num_ne pq)) (Int.pow_ne_zero (num_ne pr))) ?_ ?_
  · refine Nat.lt_of_le_of_lt (sI_lt hq hr h (fun e he => end_of h he)) ?_
    refine Nat.lt_of_le_of_lt (Nat.mul_le_mul_right _ hl) ?_
    rw [show (2 : Nat) ^ 2920 = 2 ^ 18 * 2 ^ 2902 by rw [← Nat.pow_add]]
    exact Nat.mul_lt_mul_of_pos_right (by decide) (Nat.pow_pos (by decide))
  · rw [Int.natAbs_mul]
    refine Nat.lt_of_le_of_lt (Nat.mul_le_mul (pow_le hq.1 _) (pow_le hr.1 _)) ?_
    rw [← Nat.pow_add]
    exact Nat.pow_lt_pow_right (by decide) (by omega)
end
end Hop
namespace Hop
section
open PySem L2 HopR
open C8 (InsC call_isC)
variable {P : Program} {w : World} {K : PySem.W.Frag} {mg : Str → Option Value} {base : Heap} {C d : Addr} {es : Array DictEntry} {n : Nat}
variable {fi f1 f2 : Addr} {gi g1 g2 : FuncData} {d1 : Value}
def spShare (C : Addr) : Sp := fun vs H Q _ => ∃ (a : Addr) (q : Rat) (m M : Nat), vs = [.ref a, wv m, wv M] ∧ PC C H a q ∧ m ≤ M ∧ M ≤ 40 ∧ Q (.int ((q.den : Int) ^ m * q.num ^ (M - m))) H
theorem scShare : FnScope ["pace", "many", "most"] ["pace", "many", "most"] (defScope sShare) := ⟨rfl, rfl, rfl, by decide +kernel, rfl, by decide +kernel, by decide +kernel⟩
theorem ok_share {f : Addr} {fd : FuncData} {k : Nat} (F : Fun K "share" "share" sShare f fd) (Np : ∃ r s, Fn K mg "power" sPower ["number", "many"] r s) (T : TxtP K mg C) : FnOk P w K mg base CX0 (k + 2) f fd ["pace", "many", "most"] (spShare C) := by
  obtain ⟨fp, gp, Np⟩ := Np
  have GP : FnOk P w K mg base CX0 (k + 1) fp gp ["number", "many"] spPower := ok_power Np.F
  refine F.ok scShare (fun vs H Q E h => ?_) (fun cdv A outer s H vs Q E hr h => ?_)
  · obtain ⟨a, q, m, M, rfl, _⟩ := h
    rfl
  · obtain ⟨a, q, m, M, rfl, ⟨⟨dx, ha⟩, h0, hz⟩, hm, hM, h⟩ := h
    refine ⟨_, pss_one (ps_ret (pe_op op_mulW (pe_call GP hr (by rfl) Np.g Np.F.kp Np.b .nil pass0 (pa_cons (pe_fld (pv 0) rfl) (pa_cons (pv 1) pa_nil))) (pe_call GP hr (by rfl) Np.g Np.F.kp Np.b .nil pass0 (pa_cons (pe_fld (pv 0) rfl) (pa_cons (pe_op op_sub (pv 2) (pv 1)) pa_nil))))), ?_⟩
    refine ⟨.ref a, rfl, a, C, dx, _, _, rfl, ha, T.ins.cl, T.nB, pf_bottom q, wv m, rfl, (q.den : Int), m, 45, rfl, by omega, hz.2, by omega, by decide, ?_⟩
    refine ⟨.ref a, rfl, a, C, dx, _, _, rfl, ha, T.ins.cl, T.nT, pf_top q, wv M, rfl, wv m, rfl, _, _, rfl, rfl, q.num, M - m, 45, ?_, by omega, hz.1, by omega, by decide, ?_⟩
    · show [V.int q.num, V.int ((M : Int) - (m : Int))] = _
      rw [show (M : Int) - (m : Int) = ((M - m : Nat) : Int) by omega]
    · refine ⟨_, _, rfl, rfl, ?_, h⟩
      exact wide_mul (pow_lt (x := (q.den : Int)) (n := 40) hz.2 (by omega)) (pow_lt (n := 40) hz.1 (by omega)) (by decide) (by decide) (by decide)
structure WtDefs (K : PySem.W.Frag) (mg : Str → Option Value) (C fi f1 f2 fw : Addr) (gi g1 g2 gw : FuncData) (d1 dA dB : Value) : Prop where
  M : Mks K mg C fi f1 f2 gi g1 g2 d1
  E : EnDefs K mg
  nr : ∃ r s, Fn K mg "need_row" sNeedRow ["thing"] r s
  p1 : ∃ r s, Fn K mg "pace_from" sPaceFrom ["thing"] r s
  p2 : ∃ r s, Fn K mg "paces_from" sPacesFrom ["inn", "out"] r s
  eo : ∃ r s, Fn K mg "ends_of" sEndsOf ["word"] r s
  sh : ∃ r s, Fn K mg "share" sShare ["pace", "many", "most"] r s
  pw : ∃ r s, Fn K mg "power" sPower ["number", "many"] r s
  W : FunD K "weight" "weight" (defArgs sWeight) (defBody sWeight) (defScope sWeight) [.non, .non] [] fw gw
  b3 : Binds K gw ["row", "inn", "out"] []
  b1 : Binds K gw ["row", "inn", "out"] [dA, dB]
  rA : RelV .non dA
  rB : RelV .non dB
  g : mg "weight" = some (.ref fw)
def spWeight (C : Addr) : Sp := fun vs H Q _ => ∃ (bs : List Bool) (x y : V) (q r : Rat), vs = [.str (tx bs), x, y] ∧ Row bs ∧ Pw C H x q ∧ Pw C H y r ∧ (Sz 45 q → Sz 45 r → Sz 2920 (HopW.wt q⁻¹ r⁻¹ bs) → New C H (HopW.wt q⁻¹ r⁻¹ bs) Q)
abbrev nWt : List Str := ["row", "inn", "out", "first", "last", "most_frees", "most_beads", "top", "frees", "beads", "many"]
theorem scWeight : FnScope nWt ["row", "inn", "out"] (defScope sWeight) := ⟨rfl, rfl, rfl, by decide +kernel, rfl, by decide +kernel, by decide +kernel⟩
end
end Hop
namespace Hop
section
open PySem L2 HopR
open C8 (InsC call_isC)
variable {P : Program} {w : World} {K : PySem.W.Frag} {mg : Str → Option Value} {base : Heap} {C d : Addr} {es : Array DictEntry} {n : Nat}
variable {fi f1 f2 : Addr} {gi g1 g2 : FuncData} {d1 : Value}
variable {fw : Addr} {gw : FuncData} {dA dB : Value}
set_option maxHeartbeats 4000000 in
theorem ok_weight {k : Nat} (N : WtDefs K mg C fi f1 f2 fw gi g1 g2 gw d1 dA dB) (T : TxtP K mg C) (TR : TxtR K w mg d es n) (T0 : TxtL mg) : FnOk P w K mg base CX0 (k + 6) fw gw ["row", "inn", "out"] (spWeight C) := by
  obtain ⟨r1, s1, R1⟩ := N.E.R
  obtain ⟨r2, s2, R2⟩ := N.nr
  obtain ⟨r3, s3, R3⟩ := N.p1
  obtain ⟨r4, s4, R4⟩ := N.p2
  obtain ⟨r5, s5, R5⟩ := N.eo
  obtain ⟨r6, s6, R6⟩ := N.sh
  obtain ⟨r7, s7, R7⟩ := N.pw
  have GI : FnOk P w K mg base CX0 (k + 4) fi gi ["self", "top", "bottom"] (spInit C) := ok_init N.M.F N.M.N1 N.M.N2 T
  have G2 : FnOk P w K mg base CX0 (k + 5) r2 s2 ["thing"] spNeed := ok_need R2.F R1 TR
  have G4 : FnOk P w K mg base CX0 (k + 5) r4 s4 ["inn", "out"] (spPacesFrom C) := ok_pacesFrom R4.F R3 N.M T
  have G5 : FnOk P w K mg base CX0 (k + 5) r5 s5 ["word"] spEndsOf := ok_endsOf R5.F N.E TR T0
  have G6 : FnOk P w K mg base CX0 (k + 5) r6 s6 ["pace", "many", "most"] (spShare C) := ok_share R6.F N.pw T
  have G7 : FnOk P w K mg base CX0 (k + 5) r7 s7 ["number", "many"] spPower := ok_power R7.F
  refine N.W.ok scWeight (fun vs H Q E h => ?_) (fun cdv A outer s H vs Q E hr h => ?_)
  · obtain ⟨bs, x, y, q, r, rfl, _⟩ := h
    rfl
  · obtain ⟨bs, x, y, q, r, rfl, hR, hx, hy, h⟩ := h
    have nd := scWeight.nd
    obtain ⟨tb, gb⟩ := TR.bead
    obtain ⟨tf, gf⟩ := TR.free
    have h30 := hR.2
    have c1 := List.count_le_length (a := false) (l := bs)
    have c2 := List.count_le_length (a := true) (l := bs)
    refine ⟨_, PSs.nox (pss_cons (ps_expr (pe_call G2 hr (by rfl) R2.g R2.F.kp R2.b .nil pass0 (pa_cons (pv 0) pa_nil)))
      (pss_cons (ps_asg (pe_call G4 hr (by rfl) R4.g R4.F.kp R4.b .nil pass0 (pa_cons (pv 1) (pa_cons (pv 2) pa_nil))) (pg_tup (by rfl) (pgs_cons (pg_name (i := 3) nd rfl (.inl rfl)) (pgs_cons (pg_name (i := 4) nd rfl (.inl rfl)) pgs_nil))))
      (pss_cons (ps_set (i := 5) nd rfl (.inl rfl) (pe_bm PySem.F.plainAttrs_str PySem.F.slot_str_count PySem.F.type_str_count mt_count (pv 0) (pa_cons (pe_glob (v := .str ".") (by rfl) gf ⟨_, rfl⟩) pa_nil)))
      (pss_cons (ps_set (i := 6) nd rfl (.inl rfl) (pe_bm PySem.F.plainAttrs_str PySem.F.slot_str_count PySem.F.type_str_count mt_count (pv 0) (pa_cons (pe_glob (v := .str "o") (by rfl) gb ⟨_, rfl⟩) pa_nil)))
      (pss_cons (ps_set (i := 7) nd rfl (.inl rfl) pe_int)
      (pss_cons (ps_for PassesOwn.never rfl (pi_list (pe_call G5 hr (by rfl) R5.g R5.F.kp R5.b .nil pass0 (pa_cons (pv 0) pa_nil))) (pg_tup (by rfl) (pgs_cons (pg_name (i := 8) nd rfl (.inl rfl)) (pgs_cons (pg_name (i := 9) nd rfl (.inl rfl)) (pgs_cons (pg_name (i := 10) nd rfl (.inl rfl)) pgs_nil))))
        (pss_one (ps_aug (i := 7) nd rfl (.inl rfl) (pe_op op_mulW (pe_op op_mulW (pv 10) (pe_call G6 hr (by rfl) R6.g R6.F.kp R6.b .nil pass0 (pa_cons (pv 3) (pa_cons (pv 8) (pa_cons (pv 5) pa_nil))))) (pe_call G6 hr (by rfl) R6.g R6.F.kp R6.b .nil pass0 (pa_cons (pv 4) (pa_cons (pv 9) (pa_cons (pv 6) pa_nil))))) ip_add)))
      (pss_one (ps_ret (pe_make N.M.M GI hr (by rfl) T.mgC N.M.b3 .nil pass0 (pa_cons (pv 7) (pa_cons (pe_op op_mulW (pe_call G7 hr (by rfl) R7.g R7.F.kp R7.b .nil pass0 (pa_cons (pe_fld (pv 3) rfl) (pa_cons (pv 5) pa_nil))) (pe_call G7 hr (by rfl) R7.g R7.F.kp R7.b .nil pass0 (pa_cons (pe_fld (pv 4) rfl) (pa_cons (pv 6) pa_nil)))) pa_nil))))))))))), ?_⟩
    refine ⟨.str (tx bs), rfl, bs, rfl, hR, fun H1 s1 => ?_⟩
    refine ⟨x, rfl, y, rfl, x, y, q, r, rfl, hx.same s1, hy.same s1, fun H2 p2 a b s2 n2 e2 pa pb => ?_⟩
    have s02 := s1.trans s2
    refine ⟨p2, _, rfl, SqT.of e2, rfl, _, _, rfl, _, _, rfl, rfl, ?_⟩
    refine ⟨.str (tx bs), rfl, rfl, tx bs, ".", rfl, rfl, .str (tx bs), rfl, rfl, tx bs, "o", rfl, rfl, ?_⟩
    have cf : PySem.Txt.count (tx bs) "." = ((bs.count false : Nat) : Int) := by rw [tx_f]; exact count_tx bs false
    have co : PySem.Txt.count (tx bs) "o" = ((bs.count true : Nat) : Int) := by rw [tx_o]; exact count_tx bs true
    rw [cf, co]
    refine ⟨.str (tx bs), rfl, bs, rfl, hR, fun H3 p3 acc s3 n3 e3 g3 hl3 => ?_⟩
    have s03 := s02.trans s3
    have hes : (eT 0 (HopW.tbl bs)).length ≤ 1600 := by rw [← tupG_len g3]; exact hl3
    have wsz := weight_sz pa.2.1 pb.2.1 pa.2.2 pb.2.2 h30 hes
    have wis := weight_is pa.2.1 pb.2.1 h30
    have hend := fun e (he : e ∈ eT 0 (HopW.tbl bs)) => end_of h30 he
    generalize eT 0 (HopW.tbl bs) = U at g3 hend wis hes
    refine ⟨p3, rfl, ⟨_, SqL.of e3⟩, ?_⟩
    refine for_list (K := K) (a := p3) (xs := acc) (fun i σ H4 => ∃ (y8 y9 y10 : Option V), σ = [some (.str (tx bs)), some x, some y, some (.ref a), some (.ref b), some (wv (bs.count false)), some (wv (bs.count true)), some (.int (sI q r (bs.count false) (bs.count true) (U.take i))), y8, y9, y10] ∧ H4 = H3) ⟨_, _, _, rfl, rfl⟩ (fun i σ H4 _ ⟨_, _, _, _, h⟩ => by rw [h]; exact SqL.of e3) ?_ ?_
    · rintro i v σ H4 hv ⟨y8, y9, y10, rfl, rfl⟩
      have hi : i < U.length := by
        rw [← tupG_len g3]
        exact (List.getElem?_eq_some_iff.mp hv).1
      have hUi : U[i]? = some U[i] := List.getElem?_eq_getElem hi
      obtain ⟨pt, et1, et2⟩ := tupG_at g3 hUi
      rw [hv] at et1
      obtain rfl := Option.some.inj et1
      have he := hend U[i] (List.getElem_mem hi)
      have eS : sI q r (bs.count false) (bs.count true) (U.take (i + 1)) = sI q r (bs.count false) (bs.count true) (U.take i) + tI q r (bs.count false) (bs.count true) U[i] := by
        rw [List.take_add_one, hUi, sI_app]
        show _ + (_ + 0) = _
        rw [Int.add_zero]
      generalize U[i] = e at he eS et2
      obtain ⟨ef, eb, em⟩ := e
      have h3 : ((em : Int)).natAbs < 2 ^ 200 := he.m
      have hs1 := share_lt pa.2.2 he.f (by omega)
      have hs2 := share_lt pb.2.2 he.b (by omega)
      refine ⟨pt, _, rfl, SqT.of et2, rfl, _, _, rfl, _, _, rfl, _, _, rfl, rfl, ?_⟩
      refine ⟨_, rfl, wv em, rfl, .ref a, rfl, wv ef, rfl, wv (bs.count false), rfl, a, q, ef, bs.count false, rfl, pa.same s3, he.f, by omega, ?_⟩
      refine ⟨_, _, rfl, rfl, wide_mul h3 hs1 (by decide) (by decide) (by decide), .ref b, rfl, wv eb, rfl, wv (bs.count true), rfl, b, r, eb, bs.count true, rfl, pb.same s3, he.b, by omega, ?_⟩
      refine ⟨_, _, rfl, rfl, wide_mul (wide_lt h3 hs1) hs2 (by decide) (by decide) (by decide), _, _, rfl, rfl, ?_⟩
      refine ⟨some (wv ef), some (wv eb), some (wv em), ?_, rfl⟩
      rw [eS]
      rfl
    · rintro σ H4 ⟨y8, y9, y10, rfl, rfl⟩
      rw [show acc.length = U.length from tupG_len g3, List.take_length]
      obtain ⟨dx, ha⟩ := (pa.same s3).1
      obtain ⟨dy, hb⟩ := (pb.same s3).1
      have b1 := pow_le pa.2.2.1 (bs.count false)
      have b2 := pow_le pb.2.2.1 (bs.count true)
      have b1' : (q.num ^ (bs.count false)).natAbs < 2 ^ 1351 := Nat.lt_of_le_of_lt b1 (Nat.pow_lt_pow_right (by decide) (by omega))
      have b2' : (r.num ^ (bs.count true)).natAbs < 2 ^ 1351 := Nat.lt_of_le_of_lt b2 (Nat.pow_lt_pow_right (by decide) (by omega))
      refine ⟨_, rfl, .ref a, rfl, a, C, dx, _, _, rfl, ha, T.ins.cl, T.nT, pf_top q, wv (bs.count false), rfl, q.num, bs.count false, 45, rfl, by omega, pa.2.2.1, by omega, by decide, ?_⟩
      refine ⟨.ref b, rfl, b, C, dy, _, _, rfl, hb, T.ins.cl, T.nT, pf_top r, wv (bs.count true), rfl, r.num, bs.count true, 45, rfl, by omega, pb.2.2.1, by omega, by decide, ?_⟩
      refine ⟨_, _, rfl, rfl, wide_mul b1' b2' (by decide) (by decide) (by decide), ?_⟩
      refine made (Int.mul_ne_zero (Int.pow_ne_zero (num_ne pa.2.1)) (Int.pow_ne_zero (num_ne pb.2.1))) (Nat.lt_of_lt_of_le (wide_lt b1' b2') (Nat.pow_le_pow_right (by decide) (by decide))) ?_
      rw [wis]
      exact fun H5 p5 s5 n5 pa5 => h pa.2.2 pb.2.2 wsz H5 p5 (s03.trans s5) (s03.free n5) pa5
end
end Hop
namespace Hop
section
open PySem L2 HopR
open C8 (InsC call_isC)
theorem ot_len : ∀ n : Nat, (HopW.ot n).length = n + 1
  | 0 => rfl
  | n + 1 => by
    show (HopW.sfx (HopW.ot n)).length + 1 = _
    rw [sfx_len, ot_len n]
theorem ot_step (n : Nat) : HopW.ot (n + 1) = 0 :: (List.range (n + 1)).map fun i => ((HopW.ot n).drop i).sum := by
  show 0 :: HopW.sfx (HopW.ot n) = _
  rw [sfx_eq, ot_len]
theorem dt_eq : ∀ l : List Nat, HopW.dt l = (List.range l.length).map fun i => l.drop i
  | [] => rfl
  | m :: l => by
    rw [List.length_cons, List.range_succ_eq_map, List.map_cons, List.map_map]
    show (m :: l) :: HopW.dt l = (m :: l) :: _
    rw [dt_eq l]
    rfl
theorem ot_sum : ∀ n : Nat, n ≤ 40 → (HopW.ot n).sum ≤ 64 ^ n
  | 0, _ => by decide
  | n + 1, h => by
    have ih := ot_sum n (by omega)
    show (0 :: HopW.sfx (HopW.ot n)).sum ≤ _
    rw [List.sum_cons, Nat.zero_add, Nat.pow_succ, Nat.mul_comm]
    refine Nat.le_trans (sfx_sum _) ?_
    rw [ot_len]
    exact Nat.mul_le_mul (by omega) ih
/-- a table of at most m lines, each of at most m numbers that come to at most M -/
def Fit (m M : Nat) (T : List (List Nat)) : Prop := T.length ≤ m ∧ ∀ L ∈ T, L.length ≤ m ∧ L.sum ≤ M
theorem Fit.mono {m M k N : Nat} {T : List (List Nat)} (h : Fit m M T) (h1 : m ≤ k) (h2 : M ≤ N) : Fit k N T := ⟨Nat.le_trans h.1 h1, fun L hL => ⟨Nat.le_trans (h.2 L hL).1 h1, Nat.le_trans (h.2 L hL).2 h2⟩⟩
theorem drop_sum (l : List Nat) (i : Nat) : (l.drop i).sum ≤ l.sum := by
  conv => rhs; rw [← List.take_append_drop i l, List.sum_append]
  exact Nat.le_add_left _ _
theorem ot_fit {n : Nat} (h : n ≤ 40) : Fit (n + 1) (2 ^ 250) (HopW.dt (HopW.ot n)) := by
  have hs : (HopW.ot n).sum ≤ 2 ^ 250 := Nat.le_trans (ot_sum n h) (Nat.le_trans (Nat.pow_le_pow_right (n := 64) (j := 40) (by decide) h) (by decide))
  rw [dt_eq]
  refine ⟨by rw [List.length_map, List.length_range, ot_len]; exact Nat.le_refl _, fun L hL => ?_⟩
  obtain ⟨i, _, rfl⟩ := List.mem_map.mp hL
  exact ⟨by rw [List.length_drop, ot_len]; omega, Nat.le_trans (drop_sum _ i) hs⟩
end
end Hop
namespace Hop
section
open PySem L2 HopR
open C8 (InsC call_isC)
variable {P : Program} {w : World} {K : PySem.W.Frag} {mg : Str → Option Value} {base : Heap}
abbrev tSums (K : PySem.W.Frag) : TE := tCB (rSum K) (tCons (tSl (rSlL K) (tVar 1) (tPart (tVar 3)) tNoPart) tNil)
def spOften : Sp := fun vs H Q _ => ∃ n : Nat, vs = [wv n] ∧ n ≤ 40 ∧ ∀ H' p, Same H H' → H p = none → H' p = some (.lst ((HopW.ot n).map wv)) → Q (.ref p) H'
abbrev nOB : List Str := ["many", "often", "turn", "signs"]
theorem scOften : FnScope nOB ["many"] (defScope sOften) := ⟨rfl, rfl, rfl, by decide +kernel, rfl, by decide +kernel, by decide +kernel⟩
set_option maxHeartbeats 4000000 in
theorem ok_often {f : Addr} {fd : FuncData} {k : Nat} (F : Fun K "often_by_signs" "often_by_signs" sOften f fd) (T0 : TxtL mg) : FnOk P w K mg base CX0 (k + 1) f fd ["many"] spOften := by
  refine F.ok scOften (fun vs H Q E h => ?_) (fun cdv A outer s H vs Q E hr h => ?_)
  · obtain ⟨n, rfl, _⟩ := h
    rfl
  · obtain ⟨n, rfl, hn, q⟩ := h
    have nd := scOften.nd
    refine ⟨_, pss_cons (ps_set (i := 1) nd rfl (.inr rfl) (pe_lst (pa_cons pe_int pa_nil)))
      (pss_cons (ps_for PassesOwn.never rfl (pi_range1 (by rfl) T0.range (pa_cons (pv 0) pa_nil)) (pg_name (i := 2) nd rfl (.inl rfl))
        (pss_one (ps_set (i := 1) nd rfl (.inr rfl) (pe_op op_cat (pe_lst (pa_cons pe_int pa_nil))
          (pe_lc (own := [("signs", 3)]) (g := gName 3) (tt := tYes) (te := tSums K) rfl nd (pi_range1 (by rfl) T0.range (pa_cons (pe_callB call_len_seq (by rfl) T0.len PySem.boot_len (pa_cons (pv 1) pa_nil)) pa_nil)) (blkOk_by (own := [("signs", 3)]) (N := nOB) (sc := defScope sOften) (by decide +kernel)) (fun _ _ _ _ _ => pg_name (i := 3) nd rfl (Or.inl rfl)) (fun _ _ _ _ _ => pts_nil)
            (fun _ _ _ _ _ => pe_callB (show CallR _ (.builtin "sum") (rSum K) from cr_sum rfl) (by rfl) T0.sum (by decide +kernel) (pa_cons (pe_slice (show SlR _ (rSlL K) from sl_list) (pv 1) (po_some (pv 3)) po_none) pa_nil)))))))
      (pss_one (ps_ret (pv 1)))), ?_⟩
    refine ⟨(by show 1 ≤ sizeLine; decide), fun l1 n1 => ?_⟩
    have t1 := same_upd (o := .lst [.int 1]) n1
    have e1 : upd H l1 (.lst [.int 1]) l1 = some (.lst ((HopW.ot 0).map wv)) := upd_same
    generalize upd H l1 (.lst [.int 1]) = H1 at t1 e1
    refine ⟨wv n, rfl, (n : Int), rfl, by omega, by omega, ?_⟩
    rw [Int.toNat_natCast]
    refine for_range (lo := 0) (n := n) (fun i σ H2 => ∃ (y2 y3 : Option V) (p : Addr), σ = [some (wv n), some (.ref p), y2, y3] ∧ Same H H2 ∧ H p = none ∧ H2 p = some (.lst ((HopW.ot i).map wv))) ⟨none, none, l1, rfl, t1, n1, e1⟩ ?_ ?_
    · rintro i σ H2 hi ⟨y2, y3, p, rfl, s2, np0, e2⟩
      have hol : (HopW.ot i).length = i + 1 := ot_len i
      refine ⟨(by show 1 ≤ sizeLine; decide), fun l3 n3 => ?_⟩
      have s3 := same_upd (o := .lst [.int 0]) n3
      have e3 : upd H2 l3 (.lst [.int 0]) l3 = some (.lst [.int 0]) := upd_same
      generalize upd H2 l3 (.lst [.int 0]) = H3 at s3 e3
      have e23 := s3 _ _ e2
      refine ⟨.ref p, rfl, p, _, rfl, .inl (SqL.of e23), _, rfl, by omega, by rw [List.length_map, hol]; omega, fun D hD => ?_⟩
      rw [show ((((HopW.ot i).map wv).length : Int)).toNat = i + 1 by rw [List.length_map, hol]; omega]
      refine lc_range (lo := 0) (n := i + 1) (fun j H4 => Same H3 H4 ∧ H4 D = some (.lst (((List.range j).map fun j => ((HopW.ot i).drop j).sum).map wv))) ⟨same_upd hD, upd_same⟩ ?_ ?_
      · rintro j H4 hj ⟨s4, e4⟩
        refine ⟨rfl, .ref p, rfl, .int (0 + (j : Int)), rfl, 0 + (j : Int), rfl, p, _, rfl, SqL.of (s4 _ _ e23), fun p7 n7 => ?_⟩
        rw [Int.zero_add (j : Int), cutN_from]
        have s7 := same_upd (o := .lst (((HopW.ot i).drop j).map wv)) n7
        have e7 : upd H4 p7 (.lst (((HopW.ot i).drop j).map wv)) p7 = some (.lst (((HopW.ot i).drop j).map wv)) := upd_same
        generalize upd H4 p7 (.lst (((HopW.ot i).drop j).map wv)) = H7 at s7 e7
        refine ⟨p7, _, rfl, SqL.of (by rw [← ints_of]; exact e7), ?_⟩
        rw [ints_sum]
        refine ⟨_, s7 _ _ e4, ?_, same_new hD (s4.trans s7), ?_⟩
        · rw [List.length_map, List.length_map, List.length_range]
          exact fit' (by omega)
        · rw [upd_same, List.range_succ, List.map_append, List.map_append]
          rfl
      · rintro H4 ⟨s4, e4⟩
        refine ⟨l3, D, [.int 0], _, rfl, rfl, s4 _ _ e3, e4, ?_, fun l5 n5 => ?_⟩
        · rw [List.length_map, List.length_map, List.length_range]
          exact fit (by show 1 + (i + 1) ≤ _; omega)
        · refine ⟨_, _, l5, rfl, s2.trans (s3.trans (s4.trans (same_upd n5))), (s2.trans (s3.trans s4)).free n5, ?_⟩
          rw [upd_same, ot_step]
          rfl
    · rintro σ H2 ⟨y2, y3, p, rfl, s2, np0, e2⟩
      exact ⟨.ref p, rfl, q H2 p s2 np0 e2⟩
def spAllEnds : Sp := fun vs H Q _ => ∃ n : Nat, vs = [wv n] ∧ n ≤ 40 ∧ ∀ H' p, Same H H' → H p = none → Tb H' p (HopW.dt (HopW.ot n)) → Q (.ref p) H'
abbrev nAE : List Str := ["many", "often", "frees"]
theorem scAllEnds : FnScope nAE ["many"] (defScope sAllEnds) := ⟨rfl, rfl, rfl, by decide +kernel, rfl, by decide +kernel, by decide +kernel⟩
theorem ok_allEnds {f : Addr} {fd : FuncData} {k : Nat} (F : Fun K "all_ends" "all_ends" sAllEnds f fd) (N1 : ∃ r s, Fn K mg "often_by_signs" sOften ["many"] r s) (T0 : TxtL mg) : FnOk P w K mg base CX0 (k + 2) f fd ["many"] spAllEnds := by
  obtain ⟨r1, s1, N1⟩ := N1
  have G1 : FnOk P w K mg base CX0 (k + 1) r1 s1 ["many"] spOften := ok_often N1.F T0
  refine F.ok scAllEnds (fun vs H Q E h => ?_) (fun cdv A outer s H vs Q E hr h => ?_)
  · obtain ⟨n, rfl, _⟩ := h
    rfl
  · obtain ⟨n, rfl, hn, q⟩ := h
    have nd := scAllEnds.nd
    refine ⟨_, pss_cons (ps_set (i := 1) nd rfl (.inr rfl) (pe_call G1 hr (by rfl) N1.g N1.F.kp N1.b .nil pass0 (pa_cons (pv 0) pa_nil)))
      (pss_one (ps_ret (pe_lc (own := [("frees", 2)]) (g := gName 2) (tt := tYes) rfl nd (pi_range1 (by rfl) T0.range (pa_cons (pe_op op_add (pv 0) pe_int) pa_nil)) (blkOk_by (own := [("frees", 2)]) (N := nAE) (sc := defScope sAllEnds) (by decide +kernel)) (fun _ _ _ _ _ => pg_name (i := 2) nd rfl (Or.inl rfl)) (fun _ _ _ _ _ => pts_nil)
        (fun _ _ _ _ _ => pe_slice (show SlR _ (rSlL K) from sl_list) (pv 1) (po_some (pv 2)) po_none)))), ?_⟩
    refine ⟨wv n, rfl, n, rfl, hn, fun H1 p s1 n1 e1 => ?_⟩
    have hol : (HopW.ot n).length = n + 1 := ot_len n
    refine ⟨wv n, rfl, (n : Int), 1, rfl, rfl, (n : Int) + 1, rfl, by omega, by omega, fun D hD => ?_⟩
    rw [show ((n : Int) + 1).toNat = n + 1 by omega]
    refine lc_range (lo := 0) (n := n + 1) (fun j H3 => Gr H1 H3 D ((List.range j).map fun i => (HopW.ot n).drop i)) (gr_nil hD) ?_ ?_
    · rintro j H3 hj g3
      obtain ⟨vD, eD, gD⟩ := g3.2
      refine ⟨rfl, .ref p, rfl, .int (0 + (j : Int)), rfl, 0 + (j : Int), rfl, p, _, rfl, SqL.of (g3.1 _ _ e1), fun p7 n7 => ?_⟩
      rw [Int.zero_add (j : Int), cutN_from]
      have s7 := same_upd (o := .lst (((HopW.ot n).drop j).map wv)) n7
      refine ⟨vD, s7 _ _ eD, ?_, ?_⟩
      · rw [lg_len gD, List.length_map, List.length_range]
        exact fit' (by omega)
      · rw [List.range_succ, List.map_append]
        exact gr_add hD g3 s7 n7 upd_same eD
    · rintro H3 g3
      rw [← hol, ← dt_eq] at g3
      exact q H3 D (s1.trans g3.1) (s1.free hD) g3.2
end
end Hop
namespace Hop
section
open PySem L2 HopR
open C8 (InsC call_isC)
def sh (q : Rat) (n f : Nat) : Int := (q.den : Int) ^ f * q.num ^ (n - f)
def pL (s : Nat → Int) : Nat → List Int → List Int
  | _, [] => []
  | b, m :: l => s b * m :: pL s (b + 1) l
def nI (l : List Nat) : List Int := l.map fun k : Nat => (k : Int)
def lI (r : Rat) (n : Nat) (l : List Nat) : Int := (pL (sh r n) 0 (nI l)).sum
def topI (q r : Rat) (n : Nat) (T : List (List Nat)) : Int := (pL (sh q n) 0 (T.map (lI r n))).sum
theorem pL_app (s : Nat → Int) : ∀ (l k : List Int) (b : Nat), pL s b (l ++ k) = pL s b l ++ pL s (b + l.length) k
  | [], k, b => rfl
  | m :: l, k, b => by
    show s b * m :: pL s (b + 1) (l ++ k) = _
    rw [pL_app s l k (b + 1), List.length_cons, show b + 1 + l.length = b + (l.length + 1) by omega]
    rfl
theorem pL_take {s : Nat → Int} {l : List Int} {j : Nat} {m : Int} (h : l[j]? = some m) : pL s 0 (l.take (j + 1)) = pL s 0 (l.take j) ++ [s j * m] := by
  have hj := (List.getElem?_eq_some_iff.mp h).1
  rw [List.take_add_one, h, pL_app, List.length_take, Nat.min_eq_left (by omega), Nat.zero_add]
  rfl
theorem pL_len (s : Nat → Int) : ∀ (l : List Int) (b : Nat), (pL s b l).length = l.length
  | [], _ => rfl
  | _ :: l, b => by
    show (pL s (b + 1) l).length + 1 = l.length + 1
    rw [pL_len s l]
theorem sh_rat {q : Rat} (hq : 0 < q) {n f : Nat} (h : f ≤ n) : ((sh q n f : Int) : Rat) = q⁻¹ ^ f * ((q.num : Int) : Rat) ^ n := by
  unfold sh
  rw [Rat.intCast_mul, Rat.intCast_pow, Rat.intCast_pow, Rat.intCast_natCast, share_is (inv_num hq) h]
theorem line_rat {r : Rat} (hr : 0 < r) (n : Nat) : ∀ (l : List Nat) (b : Nat), b + l.length ≤ n + 1 → (((pL (sh r n) b (nI l)).sum : Int) : Rat) = ((r.num : Int) : Rat) ^ n * HopW.lp (fun j => r⁻¹ ^ (b + j)) l
  | [], b, _ => by show ((0 : Int) : Rat) = _ * 0; grind
  | m :: l, b, h => by
    rw [List.length_cons] at h
    have ih := line_rat hr n l (b + 1) (by omega)
    show (((sh r n b * (m : Int) :: pL (sh r n) (b + 1) (nI l)).sum : Int) : Rat) = _ * ((m : Rat) * r⁻¹ ^ (b + 0) + HopW.lp (fun j => r⁻¹ ^ (b + (j + 1))) l)
    rw [List.sum_cons, Rat.intCast_add, ih, Rat.intCast_mul, sh_rat hr (by omega), Rat.intCast_natCast, show (fun j => r⁻¹ ^ (b + 1 + j)) = fun j => r⁻¹ ^ (b + (j + 1)) from funext fun j => by rw [show b + 1 + j = b + (j + 1) by omega], Nat.add_zero]
    grind
theorem top_rat' {q r : Rat} (hq : 0 < q) (hr : 0 < r) (n : Nat) : ∀ (T : List (List Nat)) (f : Nat), f + T.length ≤ n + 1 → (∀ L ∈ T, L.length ≤ n + 1) →
    (((pL (sh q n) f (T.map (lI r n))).sum : Int) : Rat) = ((q.num : Int) : Rat) ^ n * ((r.num : Int) : Rat) ^ n * (q⁻¹ ^ f * HopW.tp q⁻¹ (fun j => r⁻¹ ^ j) T)
  | [], f, _, _ => by show ((0 : Int) : Rat) = _ * (_ * 0); grind
  | l :: t, f, h, hL => by
    rw [List.length_cons] at h
    have ih := top_rat' hq hr n t (f + 1) (by omega) (fun L h => hL L (List.mem_cons_of_mem _ h))
    have il := line_rat hr n l 0 (by have := hL l List.mem_cons_self; omega)
    show (((sh q n f * lI r n l :: pL (sh q n) (f + 1) (t.map (lI r n))).sum : Int) : Rat) = _ * (_ * (HopW.lp (fun j => r⁻¹ ^ j) l + q⁻¹ * HopW.tp q⁻¹ (fun j => r⁻¹ ^ j) t))
    rw [List.sum_cons, Rat.intCast_add, ih, Rat.intCast_mul, sh_rat hq (by omega)]
    unfold lI
    rw [il, show (fun j => r⁻¹ ^ (0 + j)) = fun j => r⁻¹ ^ j from funext fun j => by rw [Nat.zero_add], Rat.pow_succ]
    grind
theorem top_rat {q r : Rat} (hq : 0 < q) (hr : 0 < r) {n M : Nat} {T : List (List Nat)} (h : Fit (n + 1) M T) : ((topI q r n T : Int) : Rat) = ((q.num : Int) : Rat) ^ n * ((r.num : Int) : Rat) ^ n * HopW.tp q⁻¹ (fun j => r⁻¹ ^ j) T := by
  unfold topI
  rw [top_rat' hq hr n T 0 (by have := h.1; omega) (fun L hL => (h.2 L hL).1), Rat.pow_zero, Rat.one_mul]
theorem sh_le {q : Rat} {e : Nat} (h : Sz e q) {n f : Nat} (hf : f ≤ n) : (sh q n f).natAbs ≤ 2 ^ (e * n) := by
  have h1 := pow_le (x := (q.den : Int)) h.2 f
  have h2 := pow_le h.1 (n - f)
  unfold sh
  rw [Int.natAbs_mul]
  refine Nat.le_trans (Nat.mul_le_mul h1 h2) ?_
  rw [← Nat.pow_add, ← Nat.mul_add, show f + (n - f) = n by omega]
  exact Nat.le_refl _
theorem pL_le {s : Nat → Int} {B A : Nat} : ∀ {l : List Int} {b : Nat}, (∀ j, b ≤ j → j < b + l.length → (s j).natAbs ≤ B) → (∀ m ∈ l, m.natAbs ≤ A) → (pL s b l).sum.natAbs ≤ l.length * (B * A)
  | [], _, _, _ => Nat.zero_le _
  | m :: l, b, h, hA => by
    have h1 := h b (Nat.le_refl _) (by rw [List.length_cons]; omega)
    have h2 := hA m List.mem_cons_self
    have h3 := pL_le (s := s) (B := B) (A := A) (l := l) (b := b + 1) (fun j a c => h j (by omega) (by rw [List.length_cons]; omega)) (fun m hm => hA m (List.mem_cons_of_mem _ hm))
    show (s b * m :: pL s (b + 1) l).sum.natAbs ≤ (l.length + 1) * (B * A)
    rw [List.sum_cons]
    refine Nat.le_trans (Int.natAbs_add_le _ _) ?_
    rw [Int.natAbs_mul, Nat.add_mul, Nat.one_mul]
    have h4 := Nat.mul_le_mul h1 h2
    omega
theorem line_le {r : Rat} {e : Nat} (h : Sz e r) {n M : Nat} {l : List Nat} (hl : l.length ≤ n + 1) (hM : l.sum ≤ M) : (lI r n l).natAbs ≤ (n + 1) * (2 ^ (e * n) * M) := by
  unfold lI
  have h1 : (nI l).length = l.length := List.length_map _
  refine Nat.le_trans (pL_le (B := 2 ^ (e * n)) (A := M) (fun j _ hj => sh_le h (by omega)) (fun m hm => ?_)) ?_
  · obtain ⟨k, hk, rfl⟩ := List.mem_map.mp hm
    exact Nat.le_trans (mem_sum hk) hM
  · rw [h1]
    exact Nat.mul_le_mul_right _ hl
theorem top_lt {q r : Rat} {e : Nat} (hq : Sz e q) (hr : Sz e r) {n : Nat} (hn : n ≤ 40) {T : List (List Nat)} (h : Fit (n + 1) (2 ^ 250) T) : (topI q r n T).natAbs < 2 ^ (2 * (e * n) + 262) := by
  unfold topI
  have h1 : (T.map (lI r n)).length = T.length := List.length_map _
  refine Nat.lt_of_le_of_lt (pL_le (B := 2 ^ (e * n)) (A := (n + 1) * (2 ^ (e * n) * 2 ^ 250)) (fun j _ hj => sh_le hq (by have := h.1; omega)) (fun m hm => ?_)) ?_
  · obtain ⟨L, hL, rfl⟩ := List.mem_map.mp hm
    exact line_le hr (h.2 L hL).1 (h.2 L hL).2
  · rw [h1]
    have h2 : T.length ≤ 41 := Nat.le_trans h.1 (by omega)
    refine Nat.lt_of_le_of_lt (Nat.mul_le_mul h2 (Nat.mul_le_mul (Nat.le_refl _) (Nat.mul_le_mul (show n + 1 ≤ 41 by omega) (Nat.le_refl _)))) ?_
    rw [show 2 * (e * n) + 262 = 12 + (e * n + (e * n + 250)) by omega, Nat.pow_add 2 12, Nat.pow_add 2 (e * n), Nat.pow_add 2 (e * n) 250]
    have hp : 0 < 2 ^ (e * n) * (2 ^ (e * n) * 2 ^ 250) := Nat.mul_pos (Nat.pow_pos (by decide)) (Nat.mul_pos (Nat.pow_pos (by decide)) (Nat.pow_pos (by decide)))
    have e2 : 41 * (2 ^ (e * n) * (41 * (2 ^ (e * n) * 2 ^ 250))) = 1681 * (2 ^ (e * n) * (2 ^ (e * n) * 2 ^ 250)) := by
      rw [Nat.mul_left_comm (2 ^ (e * n)) 41, ← Nat.mul_assoc 41 41]
    rw [e2]
    exact Nat.mul_lt_mul_of_pos_right (by decide) hp
theorem powI_le {x : Int} {e : Nat} (h : x.natAbs < 2 ^ e) {n : Nat} (hn : n ≤ 40) (he : e ≤ 45) : (x ^ n).natAbs < 2 ^ 1801 := by
  refine Nat.lt_of_le_of_lt (pow_le h n) (Nat.pow_lt_pow_right (by decide) ?_)
  have := Nat.mul_le_mul he hn
  omega
def rMulI : R2 := rI CMulW fun i j => .int (i * j)
abbrev tWorth (K : PySem.W.Frag) : TE := tCB (rSum K) (tCons (tLc (iEnum K (tCons (tVar 10) tNil)) (gTup K 2 (gCons (gName 8) (gCons (gName 9) gNil))) tYes (tOp rMulI (tVar 9) (tOp (rIxL K) (tVar 5) (tVar 8))) [8, 9]) tNil)
def scLine2 : Scope := { kind := .function, names := [(".0", .local), ("line", .local), ("sum", .globalImplicit), ("enumerate", .globalImplicit), ("by_out", .free)], isGenerator := false, isCoroutine := false }
theorem range_take {n j : Nat} (g : Nat → Int) (h : j < n) : ((List.range n).map g)[j]? = some (g j) := by rw [List.getElem?_map, List.getElem?_range h]; rfl
end
end Hop
namespace Hop
section
open PySem L2 HopR
open C8 (InsC call_isC)
variable {P : Program} {w : World} {K : PySem.W.Frag} {mg : Str → Option Value} {base : Heap} {C : Addr}
def spTopOf (C : Addr) : Sp := fun vs H Q _ => ∃ (t a b : Addr) (n : Nat) (q r : Rat) (T : List (List Nat)), vs = [.ref t, wv n, .ref a, .ref b] ∧ n ≤ 40 ∧ Tb H t T ∧ Fit (n + 1) (2 ^ 250) T ∧ PC C H a q ∧ PC C H b r ∧ ∀ H', Same H H' → Q (.int (topI q r n T)) H'
abbrev nTO : List Str := ["table", "many", "first", "last", "by_inn", "by_out", "lines", "frees", "beads", "often", "line", "worth"]
theorem scTopOf : FnScope nTO ["table", "many", "first", "last"] (defScope sTopOf) := ⟨rfl, rfl, rfl, by decide +kernel, rfl, by decide +kernel, by decide +kernel⟩
set_option maxHeartbeats 8000000 in
theorem ok_topOf {f : Addr} {fd : FuncData} {k : Nat} (F : Fun K "top_of" "top_of" sTopOf f fd) (N1 : ∃ r s, Fn K mg "share" sShare ["pace", "many", "most"] r s) (Np : ∃ r s, Fn K mg "power" sPower ["number", "many"] r s) (T : TxtP K mg C) (T0 : TxtL mg) : FnOk P w K mg base CX0 (k + 3) f fd ["table", "many", "first", "last"] (spTopOf C) := by
  obtain ⟨r1, s1, N1⟩ := N1
  have G1 : FnOk P w K mg base CX0 (k + 2) r1 s1 ["pace", "many", "most"] (spShare C) := ok_share N1.F Np T
  refine F.ok scTopOf (fun vs H Q E h => ?_) (fun cdv A outer s H vs Q E hr h => ?_)
  · obtain ⟨t, a, b, n, q, r, T, rfl, _⟩ := h
    rfl
  · obtain ⟨t, a, b, n, q, r, U, rfl, hn, ⟨xs, et, gt⟩, hF, pa, pb, qq⟩ := h
    have nd := scTopOf.nd
    refine ⟨_, pss_cons (ps_set (i := 4) nd rfl (.inr rfl) (pe_lc (own := [("frees", 7)]) (g := gName 7) (tt := tYes) rfl nd (pi_range1 (by rfl) T0.range (pa_cons (pe_op op_add (pv 1) pe_int) pa_nil)) (blkOk_by (own := [("frees", 7)]) (N := nTO) (sc := defScope sTopOf) (by decide +kernel)) (fun _ _ _ _ _ => pg_name (i := 7) nd rfl (Or.inl rfl)) (fun _ _ _ _ _ => pts_nil)
        (fun _ _ _ _ _ => pe_call G1 hr (by rfl) N1.g N1.F.kp N1.b .nil pass0 (pa_cons (pv 2) (pa_cons (pv 7) (pa_cons (pv 1) pa_nil))))))
      (pss_cons (ps_set (i := 5) nd rfl (.inr rfl) (pe_lc (own := [("beads", 8)]) (g := gName 8) (tt := tYes) rfl nd (pi_range1 (by rfl) T0.range (pa_cons (pe_op op_add (pv 1) pe_int) pa_nil)) (blkOk_by (own := [("beads", 8)]) (N := nTO) (sc := defScope sTopOf) (by decide +kernel)) (fun _ _ _ _ _ => pg_name (i := 8) nd rfl (Or.inl rfl)) (fun _ _ _ _ _ => pts_nil)
        (fun _ _ _ _ _ => pe_call G1 hr (by rfl) N1.g N1.F.kp N1.b .nil pass0 (pa_cons (pv 3) (pa_cons (pv 8) (pa_cons (pv 1) pa_nil))))))
      (pss_cons (ps_setLc (i := 6) (own := [("line", 10)]) (g := gName 10) (tt := tYes) (te := tWorth K) (by rfl) nd rfl rfl (sw_true rfl rfl rfl (by decide +kernel)) (pi_list (pv 0)) (blkOk_by (own := [("line", 10)]) (N := nTO) (sc := defScope sTopOf) (by decide +kernel)) (fun _ _ _ _ _ => pg_name (i := 10) nd rfl (Or.inl rfl)) (fun _ _ _ _ _ => pts_nil)
        (fun _ _ _ _ _ => pe_callB (show CallR _ (.builtin "sum") (rSum K) from cr_sum rfl) (by rfl) T0.sum (by decide +kernel) (pa_cons
          (pe_lc (own := [("beads", 8), ("often", 9)]) (g := gTup K 2 (gCons (gName 8) (gCons (gName 9) gNil))) (tt := tYes) (te := tOp rMulI (tVar 9) (tOp (rIxL K) (tVar 5) (tVar 8))) rfl nd (pi_enum (by rfl) T0.enum (pa_cons (pv 10) pa_nil)) (blkOk_by (own := [("beads", 8), ("often", 9)]) (N := nTO) (sc := relS scLine2 (defScope sTopOf)) (by decide +kernel))
            (fun _ _ _ _ _ => pg_tup (by rfl) (pgs_cons (pg_name (i := 8) nd rfl (.inl rfl)) (pgs_cons (pg_name (i := 9) nd rfl (.inl rfl)) pgs_nil))) (fun _ _ _ _ _ => pts_nil)
            (fun _ _ _ _ _ => pe_op (show OpR _ (binaryOp .Mult) rMulI from op_mulW) (pv 9) (pe_ix (show IxR _ (rIxL K) from ix_list) (pv 5) (pv 8) (fun _ _ => rfl)))) pa_nil)))
      (pss_one (ps_ret (pe_callB (cr_sum rfl) (by rfl) T0.sum (by decide +kernel) (pa_cons
        (pe_lc (own := [("frees", 7), ("worth", 11)]) (g := gTup K 2 (gCons (gName 7) (gCons (gName 11) gNil))) (tt := tYes) rfl nd (pi_enum (by rfl) T0.enum (pa_cons (pv 6) pa_nil)) (blkOk_by (own := [("frees", 7), ("worth", 11)]) (N := nTO) (sc := defScope sTopOf) (by decide +kernel))
          (fun _ _ _ _ _ => pg_tup (by rfl) (pgs_cons (pg_name (i := 7) nd rfl (.inl rfl)) (pgs_cons (pg_name (i := 11) nd rfl (.inl rfl)) pgs_nil))) (fun _ _ _ _ _ => pts_nil)
          (fun _ _ _ _ _ => pe_op (show OpR _ (binaryOp .Mult) rMulI from op_mulW) (pe_ix (show IxR _ (rIxL K) from ix_list) (pv 4) (pv 7) (fun _ _ => rfl)) (pv 11))) pa_nil)))))), ?_⟩
    have szq := fun {f : Nat} (h : f ≤ n) => Nat.lt_of_le_of_lt (sh_le pa.2.2 h) (Nat.pow_lt_pow_right (show 1 < 2 by decide) (show 45 * n < 1801 by omega))
    have szr := fun {f : Nat} (h : f ≤ n) => Nat.lt_of_le_of_lt (sh_le pb.2.2 h) (Nat.pow_lt_pow_right (show 1 < 2 by decide) (show 45 * n < 1801 by omega))
    -- by_inn
    refine ⟨wv n, rfl, (n : Int), 1, rfl, rfl, (n : Int) + 1, rfl, by omega, by omega, fun D1 hD1 => ?_⟩
    rw [show ((n : Int) + 1).toNat = n + 1 by omega]
    refine lc_range (lo := 0) (n := n + 1) (fun j H1 => Same H H1 ∧ H1 D1 = some (.lst (((List.range j).map (sh q n)).map V.int))) ⟨same_upd hD1, upd_same⟩ ?_ ?_
    · rintro j H1 hj ⟨s1, e1⟩
      refine ⟨rfl, .ref a, rfl, .int (0 + (j : Int)), rfl, wv n, rfl, a, q, j, n, (by show [V.ref a, V.int (0 + (j : Int)), wv n] = _; rw [Int.zero_add]; rfl), pa.same s1, by omega, hn, _, e1, ?_, same_new hD1 s1, ?_⟩
      · rw [List.length_map, List.length_map, List.length_range]
        exact fit' (by omega)
      · rw [upd_same, List.range_succ, List.map_append, List.map_append]
        rfl
    rintro H1 ⟨s1, e1⟩
    -- by_out
    refine ⟨wv n, rfl, (n : Int), 1, rfl, rfl, (n : Int) + 1, rfl, by omega, by omega, fun D2 hD2 => ?_⟩
    rw [show ((n : Int) + 1).toNat = n + 1 by omega]
    refine lc_range (lo := 0) (n := n + 1) (fun j H2 => Same H1 H2 ∧ H2 D2 = some (.lst (((List.range j).map (sh r n)).map V.int))) ⟨same_upd hD2, upd_same⟩ ?_ ?_
    · rintro j H2 hj ⟨s2, e2⟩
      refine ⟨rfl, .ref b, rfl, .int (0 + (j : Int)), rfl, wv n, rfl, b, r, j, n, (by show [V.ref b, V.int (0 + (j : Int)), wv n] = _; rw [Int.zero_add]; rfl), pb.same (s1.trans s2), by omega, hn, _, e2, ?_, same_new hD2 s2, ?_⟩
      · rw [List.length_map, List.length_map, List.length_range]
        exact fit' (by omega)
      · rw [upd_same, List.range_succ, List.map_append, List.map_append]
        rfl
    rintro H2 ⟨s2, e2⟩
    have e12 := s2 _ _ e1
    have s02 := s1.trans s2
    -- lines
    refine ⟨.ref t, rfl, t, rfl, ⟨_, SqL.of (s02 _ _ et)⟩, fun D3 hD3 => ?_⟩
    have hU := hF.1
    refine lc_list (K := K) (a := t) (xs := xs) (fun i H3 => Same H2 H3 ∧ H3 D3 = some (.lst (((U.take i).map (lI r n)).map V.int))) ⟨same_upd hD3, upd_same⟩ (fun i H3 _ h => SqL.of ((s02.trans h.1) _ _ et)) ?_ ?_
    · rintro i x H3 hx ⟨s3, e3⟩
      obtain ⟨p, L, hL, rfl, ep⟩ := lg_get gt hx
      have hFL := hF.2 L (List.mem_of_getElem? hL)
      have hi : i < U.length := (List.getElem?_eq_some_iff.mp hL).1
      have ep3 := (s02.trans s3) _ _ ep
      refine ⟨rfl, .ref p, rfl, p, _, rfl, SqL.of ep3, fun D4 hD4 => ?_⟩
      refine lc_it (walk_enum (K := K) (a := p) (xs := L.map wv)) (fun j H4 => Same H3 H4 ∧ H4 D4 = some (.lst ((pL (sh r n) 0 ((nI L).take j)).map V.int))) ⟨same_upd hD4, upd_same⟩ (fun j H4 _ h => SqL.of (h.1 _ _ ep3)) ?_ ?_
      · rintro j x H4 H5 hj ⟨s4, e4⟩ ⟨t', x1, x2, rfl, nt', rfl, hx1, hx2⟩
        have hx1 : some (V.int (j : Nat)) = some x1 := hx1
        obtain rfl := Option.some.inj hx1
        have hx2 : (L.map wv)[j]? = some x2 := hx2
        rw [List.getElem?_map] at hx2
        obtain ⟨m, hm, rfl⟩ := Option.map_eq_some_iff.mp hx2
        have hjl : j < L.length := (List.getElem?_eq_some_iff.mp hm).1
        have hmN : (nI L)[j]? = some (m : Int) := by
          unfold nI
          rw [List.getElem?_map, hm]
          rfl
        have st := same_upd (o := .tup [.int (j : Nat), wv m]) nt'
        have et' : upd H4 t' (.tup [.int (j : Nat), wv m]) t' = some (.tup [.int (j : Nat), wv m]) := upd_same
        generalize upd H4 t' (.tup [.int (j : Nat), wv m]) = H5 at st et'
        have ed := (s3.trans (s4.trans st)) _ _ e2
        have hm2 : ((m : Int)).natAbs < 2 ^ 251 := Nat.lt_of_le_of_lt (Nat.le_trans (mem_sum (List.mem_of_getElem? hm)) hFL.2) (by decide)
        refine ⟨t', _, rfl, SqT.of et', rfl, _, _, rfl, _, _, rfl, rfl, rfl, wv m, rfl, .ref D2, rfl, .int (j : Nat), rfl, D2, _, _, .int (sh r n j), rfl, rfl, SqL.of ed, atI_nat (by rw [List.getElem?_map, range_take _ (by omega)]; rfl), _, _, rfl, rfl, wide_mul hm2 (szr (by omega)) (by decide) (by decide) (by decide), ?_⟩
        refine ⟨_, st _ _ e4, ?_, same_new hD4 (s4.trans st), ?_⟩
        · rw [List.length_map, pL_len]
          exact fit' (Nat.le_trans (List.length_take_le _ _) (by omega))
        · rw [upd_same, pL_take hmN, List.map_append, Int.mul_comm]
          rfl
      · rintro H4 ⟨s4, e4⟩
        rw [List.take_of_length_le (by unfold nI; rw [List.length_map, List.length_map]; exact Nat.le_refl _)] at e4
        refine ⟨D4, _, rfl, SqL.of e4, _, s4 _ _ e3, ?_, same_new hD3 (s3.trans s4), ?_⟩
        · rw [List.length_map, List.length_map]
          exact fit' (Nat.le_trans (List.length_take_le _ _) (by omega))
        · rw [upd_same, ← take_map_snoc _ hL, List.map_append]
          rfl
    rintro H3 ⟨s3, e3⟩
    rw [lg_len gt, List.take_length] at e3
    have s03 := s02.trans s3
    have e13 := s3 _ _ e12
    refine ⟨.ref D3, rfl, D3, _, rfl, SqL.of e3, fun D4 hD4 => ?_⟩
    refine lc_it (walk_enum (K := K) (a := D3) (xs := (U.map (lI r n)).map V.int)) (fun j H4 => Same H3 H4 ∧ H4 D4 = some (.lst ((pL (sh q n) 0 ((U.map (lI r n)).take j)).map V.int))) ⟨same_upd hD4, upd_same⟩ (fun j H4 _ h => SqL.of (h.1 _ _ e3)) ?_ ?_
    · rintro j x H4 H5 hj ⟨s4, e4⟩ ⟨t', x1, x2, rfl, nt', rfl, hx1, hx2⟩
      have hx1 : some (V.int (j : Nat)) = some x1 := hx1
      obtain rfl := Option.some.inj hx1
      have hx2 : ((U.map (lI r n)).map V.int)[j]? = some x2 := hx2
      rw [List.getElem?_map] at hx2
      obtain ⟨m, hm, rfl⟩ := Option.map_eq_some_iff.mp hx2
      have hjl : j < U.length := by
        have := (List.getElem?_eq_some_iff.mp hm).1
        rwa [List.length_map] at this
      have hm2 : m.natAbs < 2 ^ 2100 := by
        obtain ⟨L, hL, rfl⟩ := List.mem_map.mp (List.mem_of_getElem? hm)
        refine Nat.lt_of_le_of_lt (line_le pb.2.2 (hF.2 L hL).1 (hF.2 L hL).2) ?_
        refine Nat.lt_of_le_of_lt (Nat.mul_le_mul (show n + 1 ≤ 41 by omega) (Nat.mul_le_mul_right _ (Nat.pow_le_pow_right (show 0 < 2 by decide) (show 45 * n ≤ 1800 by omega)))) (by decide)
      have st := same_upd (o := .tup [.int (j : Nat), .int m]) nt'
      have et' : upd H4 t' (.tup [.int (j : Nat), .int m]) t' = some (.tup [.int (j : Nat), .int m]) := upd_same
      generalize upd H4 t' (.tup [.int (j : Nat), .int m]) = H5 at st et'
      have ed := (s4.trans st) _ _ e13
      refine ⟨t', _, rfl, SqT.of et', rfl, _, _, rfl, _, _, rfl, rfl, rfl, .ref D1, rfl, .int (j : Nat), rfl, D1, _, _, .int (sh q n j), rfl, rfl, SqL.of ed, atI_nat (by rw [List.getElem?_map, range_take _ (by omega)]; rfl), .int m, rfl, _, _, rfl, rfl, wide_mul (szq (by omega)) hm2 (by decide) (by decide) (by decide), ?_⟩
      refine ⟨_, st _ _ e4, ?_, same_new hD4 (s4.trans st), ?_⟩
      · rw [List.length_map, pL_len]
        exact fit' (Nat.le_trans (List.length_take_le _ _) (by omega))
      · rw [upd_same, pL_take hm, List.map_append]
        rfl
    · rintro H4 ⟨s4, e4⟩
      rw [List.take_of_length_le (by simp)] at e4
      exact ⟨D4, _, rfl, SqL.of e4, qq H4 (s03.trans s4)⟩
end
end Hop
namespace Hop
section
open PySem L2 HopR
open C8 (InsC call_isC)
def tot (q r : Rat) (n : Nat) : Rat := HopW.pw q⁻¹ r⁻¹ (List.replicate n none)
theorem inv_pos {q : Rat} (h : 0 < q) : 0 < q⁻¹ := Rat.inv_pos.mpr h
theorem tot_pos {q r : Rat} (hq : 0 < q) (hr : 0 < r) (n : Nat) : 0 < tot q r n := HopW.pw_pos (inv_pos hq) (inv_pos hr) _
theorem base_ne {q r : Rat} (hq : 0 < q) (hr : 0 < r) (n : Nat) : ((q.num : Int) : Rat) ^ n * ((r.num : Int) : Rat) ^ n ≠ 0 := by
  rw [← Rat.intCast_pow, ← Rat.intCast_pow, ← Rat.intCast_mul]
  intro e
  exact Int.mul_ne_zero (Int.pow_ne_zero (num_ne hq)) (Int.pow_ne_zero (num_ne hr)) (Rat.intCast_eq_zero_iff.mp e)
theorem tot_is {q r : Rat} (hq : 0 < q) (hr : 0 < r) {n : Nat} (hn : n ≤ 40) : Rat.divInt (topI q r n (HopW.dt (HopW.ot n))) (q.num ^ n * r.num ^ n) = tot q r n := by
  rw [Rat.divInt_eq_div, top_rat hq hr (ot_fit hn), HopW.pw_all, Rat.intCast_mul, Rat.intCast_pow, Rat.intCast_pow, Rat.mul_comm, Rat.mul_div_cancel (base_ne hq hr n)]
  rfl
theorem base_lt {q r : Rat} {e : Nat} (hq : Sz e q) (hr : Sz e r) (n : Nat) {m : Nat} (h : 2 * (e * n) < m) : (q.num ^ n * r.num ^ n).natAbs < 2 ^ m := by
  rw [Int.natAbs_mul]
  refine Nat.lt_of_le_of_lt (Nat.mul_le_mul (pow_le hq.1 n) (pow_le hr.1 n)) ?_
  rw [← Nat.pow_add]
  exact Nat.pow_lt_pow_right (by decide) (by omega)
theorem tot_sz {q r : Rat} (pq : 0 < q) (pr : 0 < r) {e : Nat} (hq : Sz e q) (hr : Sz e r) {n : Nat} (hn : n ≤ 40) : Sz (2 * (e * n) + 262) (tot q r n) := by
  rw [← tot_is pq pr hn]
  exact sz_divInt (Int.mul_ne_zero (Int.pow_ne_zero (num_ne pq)) (Int.pow_ne_zero (num_ne pr))) (top_lt hq hr hn (ot_fit hn)) (base_lt hq hr n (by omega))
theorem one_sz' : Sz 45 (1 : Rat) := ⟨by decide, by decide⟩
end
end Hop
namespace Hop
section
open PySem L2 HopR
open C8 (InsC call_isC)
variable {P : Program} {w : World} {K : PySem.W.Frag} {mg : Str → Option Value} {base : Heap} {C d : Addr} {es : Array DictEntry} {n : Nat}
variable {fi f1 f2 : Addr} {gi g1 g2 : FuncData} {d1 : Value}
theorem Pw.sz {H : Hp} {x : V} {q : Rat} (h : Pw C H x q) : Sz 45 q := by
  rcases h with ⟨_, rfl⟩ | ⟨_, _, p⟩
  · exact one_sz'
  · exact p.2.2
theorem scNeedNum : FnScope ["thing", "least", "most"] ["thing", "least", "most"] (defScope sNeedNum) := ⟨rfl, rfl, rfl, by decide +kernel, rfl, by decide +kernel, by decide +kernel⟩
def spNum : Sp := fun vs H Q _ => ∃ i lo hi : Int, vs = [.int i, .int lo, .int hi] ∧ lo ≤ i ∧ i ≤ hi ∧ Q .non H
theorem ok_num {f f1 : Addr} {fd g1 : FuncData} {k : Nat} (F : Fun K "need_number" "need_number" sNeedNum f fd) (N1 : Fn K mg "is_whole" sIsWhole ["thing"] f1 g1) (T : TxtP K mg C) : FnOk P w K mg base CX0 (k + 2) f fd ["thing", "least", "most"] spNum := by
  have G1 : FnOk P w K mg base CX0 (k + 1) f1 g1 ["thing"] spWhole := ok_whole N1.F T
  refine F.ok scNeedNum (fun vs H Q E h => ?_) (fun cdv A outer s H vs Q E hr h => ?_)
  · obtain ⟨i, lo, hi, rfl, _⟩ := h
    rfl
  · obtain ⟨i, lo, hi, rfl, h1, h2, q⟩ := h
    refine ⟨_, pss_one (ps_if (PW.pt (pw_or (pt_not (pt_val (pe_call G1 hr (by rfl) N1.g N1.F.kp N1.b .nil pass0 (pa_cons (pv 0) pa_nil)))) (pw_or (pt_cmpR op_lt (pv 0) (pv 1) (nomark _)) (pw_or1 (pt_cmpR op_gt (pv 0) (pv 2) (nomark _)))))) (pss_one ps_never) pss_nil), ?_⟩
    refine ⟨.int i, rfl, i, rfl, true, rfl, iteF ⟨.int i, rfl, .int lo, rfl, _, _, rfl, rfl, _, rfl, ?_⟩⟩
    rw [decide_eq_false (show ¬ i < lo by omega)]
    refine iteF ⟨.int i, rfl, .int hi, rfl, _, _, rfl, rfl, _, rfl, ?_⟩
    rw [decide_eq_false (show ¬ i > hi by omega)]
    exact iteF q
structure TotDefs (K : PySem.W.Frag) (mg : Str → Option Value) (C fi f1 f2 ft : Addr) (gi g1 g2 gt : FuncData) (d1 dA dB : Value) : Prop where
  M : Mks K mg C fi f1 f2 gi g1 g2 d1
  nn : ∃ r s, Fn K mg "need_number" sNeedNum ["thing", "least", "most"] r s
  p1 : ∃ r s, Fn K mg "pace_from" sPaceFrom ["thing"] r s
  p2 : ∃ r s, Fn K mg "paces_from" sPacesFrom ["inn", "out"] r s
  ob : ∃ r s, Fn K mg "often_by_signs" sOften ["many"] r s
  ae : ∃ r s, Fn K mg "all_ends" sAllEnds ["many"] r s
  to : ∃ r s, Fn K mg "top_of" sTopOf ["table", "many", "first", "last"] r s
  sh : ∃ r s, Fn K mg "share" sShare ["pace", "many", "most"] r s
  pw : ∃ r s, Fn K mg "power" sPower ["number", "many"] r s
  W : FunD K "total" "total" (defArgs sTotal) (defBody sTotal) (defScope sTotal) [.non, .non] [] ft gt
  b3 : Binds K gt ["many", "inn", "out"] []
  g : mg "total" = some (.ref ft)
  hM : ∃ t, mg "MOST_IN_TOTAL" = some (.int 40 t)
end
end Hop
namespace Hop
section
open PySem L2 HopR
open C8 (InsC call_isC)
variable {P : Program} {w : World} {K : PySem.W.Frag} {mg : Str → Option Value} {base : Heap} {C d : Addr} {es : Array DictEntry} {n : Nat}
variable {fi f1 f2 : Addr} {gi g1 g2 : FuncData} {d1 : Value}
variable {ft : Addr} {gt : FuncData} {dA dB : Value}
def spTotal (C : Addr) : Sp := fun vs H Q _ => ∃ (m : Nat) (x y : V) (q r : Rat), vs = [wv m, x, y] ∧ m ≤ 40 ∧ Pw C H x q ∧ Pw C H y r ∧ ((∀ e, Sz e q → Sz e r → Sz (2 * (e * m) + 262) (tot q r m)) → New C H (tot q r m) Q)
abbrev nTt : List Str := ["many", "inn", "out", "first", "last"]
theorem scTotal : FnScope nTt ["many", "inn", "out"] (defScope sTotal) := ⟨rfl, rfl, rfl, by decide +kernel, rfl, by decide +kernel, by decide +kernel⟩
set_option maxHeartbeats 4000000 in
theorem ok_total {k : Nat} (N : TotDefs K mg C fi f1 f2 ft gi g1 g2 gt d1 dA dB) (T : TxtP K mg C) (T0 : TxtL mg) : FnOk P w K mg base CX0 (k + 6) ft gt ["many", "inn", "out"] (spTotal C) := by
  obtain ⟨r2, s2, R2⟩ := N.nn
  obtain ⟨r3, s3, R3⟩ := N.p1
  obtain ⟨r4, s4, R4⟩ := N.p2
  obtain ⟨r5, s5, R5⟩ := N.ae
  obtain ⟨r6, s6, R6⟩ := N.to
  obtain ⟨r7, s7, R7⟩ := N.pw
  have GI : FnOk P w K mg base CX0 (k + 4) fi gi ["self", "top", "bottom"] (spInit C) := ok_init N.M.F N.M.N1 N.M.N2 T
  have G2 : FnOk P w K mg base CX0 (k + 5) r2 s2 ["thing", "least", "most"] spNum := ok_num R2.F N.M.N1 T
  have G4 : FnOk P w K mg base CX0 (k + 5) r4 s4 ["inn", "out"] (spPacesFrom C) := ok_pacesFrom R4.F R3 N.M T
  have G5 : FnOk P w K mg base CX0 (k + 5) r5 s5 ["many"] spAllEnds := ok_allEnds R5.F N.ob T0
  have G6 : FnOk P w K mg base CX0 (k + 5) r6 s6 ["table", "many", "first", "last"] (spTopOf C) := ok_topOf R6.F N.sh N.pw T T0
  have G7 : FnOk P w K mg base CX0 (k + 5) r7 s7 ["number", "many"] spPower := ok_power R7.F
  refine N.W.ok scTotal (fun vs H Q E h => ?_) (fun cdv A outer s H vs Q E hr h => ?_)
  · obtain ⟨m, x, y, q, r, rfl, _⟩ := h
    rfl
  · obtain ⟨m, x, y, q, r, rfl, hm, hx, hy, h⟩ := h
    have nd := scTotal.nd
    obtain ⟨tm, gm⟩ := N.hM
    refine ⟨_, PSs.nox (pss_cons (ps_expr (pe_call G2 hr (by rfl) R2.g R2.F.kp R2.b .nil pass0 (pa_cons (pv 0) (pa_cons pe_int (pa_cons (pe_glob (v := .int 40) (by rfl) gm ⟨_, rfl⟩) pa_nil)))))
      (pss_cons (ps_asg (pe_call G4 hr (by rfl) R4.g R4.F.kp R4.b .nil pass0 (pa_cons (pv 1) (pa_cons (pv 2) pa_nil))) (pg_tup (by rfl) (pgs_cons (pg_name (i := 3) nd rfl (.inl rfl)) (pgs_cons (pg_name (i := 4) nd rfl (.inl rfl)) pgs_nil))))
      (pss_one (ps_ret (pe_make N.M.M GI hr (by rfl) T.mgC N.M.b3 .nil pass0 (pa_cons (pe_call G6 hr (by rfl) R6.g R6.F.kp R6.b .nil pass0 (pa_cons (pe_call G5 hr (by rfl) R5.g R5.F.kp R5.b .nil pass0 (pa_cons (pv 0) pa_nil)) (pa_cons (pv 0) (pa_cons (pv 3) (pa_cons (pv 4) pa_nil))))) (pa_cons (pe_op op_mulW (pe_call G7 hr (by rfl) R7.g R7.F.kp R7.b .nil pass0 (pa_cons (pe_fld (pv 3) rfl) (pa_cons (pv 0) pa_nil))) (pe_call G7 hr (by rfl) R7.g R7.F.kp R7.b .nil pass0 (pa_cons (pe_fld (pv 4) rfl) (pa_cons (pv 0) pa_nil)))) pa_nil))))))), ?_⟩
    refine ⟨wv m, rfl, (m : Int), 0, 40, rfl, by omega, by omega, ?_⟩
    refine ⟨x, rfl, y, rfl, x, y, q, r, rfl, hx, hy, fun H2 p2 a b s2 n2 e2 pa pb => ?_⟩
    refine ⟨p2, _, rfl, SqT.of e2, rfl, _, _, rfl, _, _, rfl, rfl, ?_⟩
    refine ⟨wv m, rfl, m, rfl, hm, fun H3 t s3 n3 t3 => ⟨wv m, rfl, .ref a, rfl, .ref b, rfl, t, a, b, m, q, r, _, rfl, hm, t3, ot_fit hm, pa.same s3, pb.same s3, fun H4 s4 => ?_⟩⟩
    have s34 := s3.trans s4
    have s04 := s2.trans s34
    obtain ⟨dx, ha⟩ := (pa.same s34).1
    obtain ⟨dy, hb⟩ := (pb.same s34).1
    refine ⟨.ref a, rfl, a, C, dx, _, _, rfl, ha, T.ins.cl, T.nT, pf_top q, wv m, rfl, q.num, m, 45, rfl, by omega, pa.2.2.1, by omega, by decide, ?_⟩
    refine ⟨.ref b, rfl, b, C, dy, _, _, rfl, hb, T.ins.cl, T.nT, pf_top r, wv m, rfl, r.num, m, 45, rfl, by omega, pb.2.2.1, by omega, by decide, ?_⟩
    refine ⟨_, _, rfl, rfl, wide_mul (powI_le pa.2.2.1 hm (Nat.le_refl _)) (powI_le pb.2.2.1 hm (Nat.le_refl _)) (by decide) (by decide) (by decide), ?_⟩
    refine made (Int.mul_ne_zero (Int.pow_ne_zero (num_ne pa.2.1)) (Int.pow_ne_zero (num_ne pb.2.1))) (Nat.lt_of_lt_of_le (base_lt pa.2.2 pb.2.2 m (Nat.lt_succ_self _)) (Nat.pow_le_pow_right (by decide) (by omega))) ?_
    rw [tot_is pa.2.1 pb.2.1 hm]
    exact fun H5 p5 s5 n5 pa5 => h (fun e zq zr => tot_sz pa.2.1 pb.2.1 zq zr hm) H5 p5 (s04.trans s5) (s04.free n5) pa5
structure OverDefs (K : PySem.W.Frag) (mg : Str → Option Value) (C ft fo : Addr) (gt go : FuncData) : Prop where
  z : ∃ r s, Fn K mg "lowest" sLowest ["top", "bottom"] r s
  Ft : Fun K "times" "Part.times" sTimes ft gt
  bt : Binds K gt ["self", "other"] []
  mt : Meth K C "times" ft
  Fo : Fun K "over" "Part.over" sOver fo go
  bo : Binds K go ["self", "other"] []
  mo : Meth K C "over" fo
end
end Hop
namespace Hop
section
open PySem L2 HopR
open C8 (InsC call_isC)
variable {P : Program} {w : World} {K : PySem.W.Frag} {mg : Str → Option Value} {base : Heap} {C d : Addr} {es : Array DictEntry} {n : Nat}
variable {fi f1 f2 : Addr} {gi g1 g2 : FuncData} {d1 : Value}
variable {ft : Addr} {gt : FuncData} {dA dB : Value}
variable {xt xo : Addr} {yt yo : FuncData}
theorem no_over (q : Rat) : (pf q).lookup ("over" : Str) = none := pf_no q (by decide +kernel) (by decide +kernel)
structure ThrDefs (K : PySem.W.Frag) (mg : Str → Option Value) (fh : Addr) (gh : FuncData) : Prop where
  W : FunD K "through" "through" (defArgs sThrough) (defBody sThrough) (defScope sThrough) [.non, .non] [] fh gh
  b3 : Binds K gh ["many", "inn", "out"] []
  g : mg "through" = some (.ref fh)
def spThrough (C : Addr) : Sp := fun vs H Q _ => ∃ (m : Nat) (x y : V) (q r : Rat), vs = [wv m, x, y] ∧ 1 ≤ m ∧ m ≤ 40 ∧ Pw C H x q ∧ Pw C H y r ∧ ((∀ e, Sz e q → Sz e r → Sz (4 * (e * m) + 524) (tot q r (m - 1) / tot q r m)) → New C H (tot q r (m - 1) / tot q r m) Q)
abbrev nTh : List Str := ["many", "inn", "out"]
theorem scThrough : FnScope nTh ["many", "inn", "out"] (defScope sThrough) := ⟨rfl, rfl, rfl, by decide +kernel, rfl, by decide +kernel, by decide +kernel⟩
theorem quot_sz {q r : Rat} (pq : 0 < q) (pr : 0 < r) {e : Nat} (hq : Sz e q) (hr : Sz e r) {m : Nat} (hm : m ≤ 40) : Sz (4 * (e * m) + 524) (tot q r (m - 1) / tot q r m) := by
  refine (sz_div (tot_sz pq pr hq hr (n := m - 1) (by omega)) (tot_sz pq pr hq hr hm) (ne_above (tot_pos pq pr m))).mono ?_
  have : e * (m - 1) ≤ e * m := Nat.mul_le_mul_left e (by omega)
  omega
theorem ok_through {fh : Addr} {gh : FuncData} {k : Nat} (D : ThrDefs K mg fh gh) (N : TotDefs K mg C fi f1 f2 ft gi g1 g2 gt d1 dA dB) (M : OverDefs K mg C xt xo yt yo) (T : TxtP K mg C) (T0 : TxtL mg) : FnOk P w K mg base CX0 (k + 7) fh gh ["many", "inn", "out"] (spThrough C) := by
  obtain ⟨r2, s2, R2⟩ := N.nn
  obtain ⟨fz, gz, Nz⟩ := M.z
  have G2 : FnOk P w K mg base CX0 (k + 6) r2 s2 ["thing", "least", "most"] spNum := ok_num R2.F N.M.N1 T
  have GT : FnOk P w K mg base CX0 (k + 6) ft gt ["many", "inn", "out"] (spTotal C) := ok_total N T T0
  have GO : FnOk P w K mg base CX0 (k + 6) xo yo ["self", "other"] (spOp C (fun _ r => r ≠ 0) (fun q r => q / r)) := ok_over M.Fo N.M Nz M.Ft M.bt M.mt T
  refine D.W.ok scThrough (fun vs H Q E h => ?_) (fun cdv A outer s H vs Q E hr h => ?_)
  · obtain ⟨m, x, y, q, r, rfl, _⟩ := h
    rfl
  · obtain ⟨m, x, y, q, r, rfl, hm1, hm, hx, hy, h⟩ := h
    have nd := scThrough.nd
    obtain ⟨tm, gm⟩ := N.hM
    refine ⟨_, PSs.nox (pss_cons (ps_expr (pe_call G2 hr (by rfl) R2.g R2.F.kp R2.b .nil pass0 (pa_cons (pv 0) (pa_cons pe_int (pa_cons (pe_glob (v := .int 40) (by rfl) gm ⟨_, rfl⟩) pa_nil)))))
      (pss_one (ps_ret (pe_meth (pe_call GT hr (by rfl) N.g N.W.kp N.b3 .nil pass0 (pa_cons (pe_op op_sub (pv 0) pe_int) (pa_cons (pv 1) (pa_cons (pv 2) pa_nil)))) T.ins.cl M.mo GO hr M.bo .nil pass0 (pa_cons (pe_call GT hr (by rfl) N.g N.W.kp N.b3 .nil pass0 (pa_cons (pv 0) (pa_cons (pv 1) (pa_cons (pv 2) pa_nil)))) pa_nil))))), ?_⟩
    refine ⟨wv m, rfl, (m : Int), 1, 40, rfl, by omega, by omega, ?_⟩
    refine ⟨wv m, rfl, (m : Int), 1, rfl, rfl, x, rfl, y, rfl, m - 1, x, y, q, r, (by show [V.int ((m : Int) - 1), x, y] = _; rw [show (m : Int) - 1 = ((m - 1 : Nat) : Int) by omega]; rfl), by omega, hx, hy, fun z1 H1 p1 s1 n1 w1 => ?_⟩
    obtain ⟨dx1, ex1⟩ := w1
    have zq := hx.sz
    have zr := hy.sz
    refine ⟨p1, dx1, _, rfl, ex1, no_over _, wv m, rfl, x, rfl, y, rfl, m, x, y, q, r, rfl, hm, hx.same s1, hy.same s1, fun z2 H2 p2 s2 n2 w2 => ?_⟩
    refine ⟨p1, p2, _, _, rfl, PA.same s2 ⟨dx1, ex1⟩, w2, (z1 45 zq zr).mono (by omega), (z2 45 zq zr).mono (by omega), ne_above (tot_pos hx.pos hy.pos m), fun H3 p3 s3 n3 w3 => ?_⟩
    have s02 := s1.trans s2
    exact h (fun e zq zr => quot_sz hx.pos hy.pos zq zr hm) H3 p3 (s02.trans s3) (s02.free n3) w3
structure RowDefs (K : PySem.W.Frag) (mg : Str → Option Value) (fh : Addr) (gh : FuncData) : Prop where
  W : FunD K "row_chance" "row_chance" (defArgs sRowChance) (defBody sRowChance) (defScope sRowChance) [.non, .non] [] fh gh
  b3 : Binds K gh ["row", "inn", "out"] []
  g : mg "row_chance" = some (.ref fh)
def spRowChance (C : Addr) : Sp := fun vs H Q _ => ∃ (bs : List Bool) (x y : V) (q r : Rat), vs = [.str (tx bs), x, y] ∧ Row bs ∧ Pw C H x q ∧ Pw C H y r ∧ New C H (HopW.wt q⁻¹ r⁻¹ bs / tot q r bs.length) Q
abbrev nRc : List Str := ["row", "inn", "out"]
theorem scRowChance : FnScope nRc ["row", "inn", "out"] (defScope sRowChance) := ⟨rfl, rfl, rfl, by decide +kernel, rfl, by decide +kernel, by decide +kernel⟩
end
end Hop
namespace Hop
section
open PySem L2 HopR
open C8 (InsC call_isC)
variable {P : Program} {w : World} {K : PySem.W.Frag} {mg : Str → Option Value} {base : Heap} {C d : Addr} {es : Array DictEntry} {n : Nat}
variable {fi f1 f2 : Addr} {gi g1 g2 : FuncData} {d1 : Value}
variable {ft : Addr} {gt : FuncData} {dA dB : Value}
variable {xt xo : Addr} {yt yo : FuncData}
variable {fw : Addr} {gw : FuncData} {dC dD : Value}
theorem ok_rowChance {fh : Addr} {gh : FuncData} {k : Nat} (D : RowDefs K mg fh gh) (NW : WtDefs K mg C fi f1 f2 fw gi g1 g2 gw d1 dC dD) (N : TotDefs K mg C fi f1 f2 ft gi g1 g2 gt d1 dA dB) (M : OverDefs K mg C xt xo yt yo) (T : TxtP K mg C) (TR : TxtR K w mg d es n) (T0 : TxtL mg) : FnOk P w K mg base CX0 (k + 7) fh gh ["row", "inn", "out"] (spRowChance C) := by
  obtain ⟨fz, gz, Nz⟩ := M.z
  have GW : FnOk P w K mg base CX0 (k + 6) fw gw ["row", "inn", "out"] (spWeight C) := ok_weight NW T TR T0
  have GT : FnOk P w K mg base CX0 (k + 6) ft gt ["many", "inn", "out"] (spTotal C) := ok_total N T T0
  have GO : FnOk P w K mg base CX0 (k + 6) xo yo ["self", "other"] (spOp C (fun _ r => r ≠ 0) (fun q r => q / r)) := ok_over M.Fo N.M Nz M.Ft M.bt M.mt T
  refine D.W.ok scRowChance (fun vs H Q E h => ?_) (fun cdv A outer s H vs Q E hr h => ?_)
  · obtain ⟨bs, x, y, q, r, rfl, _⟩ := h
    rfl
  · obtain ⟨bs, x, y, q, r, rfl, hR, hx, hy, h⟩ := h
    have wr := row_size hR
    refine ⟨_, pss_one (ps_ret (pe_meth (pe_call GW hr (by rfl) NW.g NW.W.kp NW.b3 .nil pass0 (pa_cons (pv 0) (pa_cons (pv 1) (pa_cons (pv 2) pa_nil)))) T.ins.cl M.mo GO hr M.bo .nil pass0 (pa_cons (pe_call GT hr (by rfl) N.g N.W.kp N.b3 .nil pass0 (pa_cons (pe_callB call_len_str (by rfl) T.len PySem.boot_len (pa_cons (pv 0) pa_nil)) (pa_cons (pv 1) (pa_cons (pv 2) pa_nil)))) pa_nil))), ?_⟩
    refine ⟨.str (tx bs), rfl, x, rfl, y, rfl, bs, x, y, q, r, rfl, hR, hx, hy, fun zq zr zw H1 p1 s1 n1 w1 => ?_⟩
    obtain ⟨dx1, ex1⟩ := w1
    refine ⟨p1, dx1, _, rfl, ex1, no_over _, .str (tx bs), rfl, tx bs, rfl, wr, x, rfl, y, rfl, bs.length, x, y, q, r, (by show [V.int ((tx bs).length : Int), x, y] = _; rw [tx_len]; rfl), (by have := hR.2; omega), hx.same s1, hy.same s1, fun z2 H2 p2 s2 n2 w2 => ?_⟩
    refine ⟨p1, p2, _, _, rfl, PA.same s2 ⟨dx1, ex1⟩, w2, zw.mono (by decide), (z2 45 zq zr).mono (by have := hR.2; omega), ne_above (tot_pos hx.pos hy.pos _), fun H3 p3 s3 n3 w3 => ?_⟩
    have s02 := s1.trans s2
    exact h H3 p3 (s02.trans s3) (s02.free n3) w3
end
end Hop
namespace Hop
section
open PySem L2 HopR
open C8 (InsC call_isC)
variable {P : Program} {w : World} {K : PySem.W.Frag} {mg : Str → Option Value} {base : Heap} {d : Addr} {es : Array DictEntry} {n : Nat}
theorem scDrawn : FnScope ["_law_cell", "_law_sizes", "_law_found", "_law_left", "_law_k", "_law_small", "_law_one", "_law_two"] ["_law_cell", "_law_sizes"] (defScope sDrawn) := ⟨rfl, rfl, rfl, by decide +kernel, rfl, by decide +kernel, by decide +kernel⟩
theorem ok_drawn {f : Addr} {fd : FuncData} {k : Nat} (F : Fun K "_law_drawn" "_law_drawn" sDrawn f fd) (mL : mg "len" = none) (mR : mg "range" = none) : FnOk P w K mg base CX0 (k + 1) f fd ["_law_cell", "_law_sizes"] (spDrawn K) := by
  refine F.ok scDrawn (fun vs H Q E h => ?_) (fun cdv A outer s H vs Q E hr h => ?_)
  · obtain ⟨c, a, zs, rfl, _⟩ := h
    rfl
  · obtain ⟨c, a, zs, rfl, hS, hz, hlen, q⟩ := h
    have nd := scDrawn.nd
    refine ⟨_, pss_cons (ps_set (i := 2) nd rfl (.inl rfl) (pe_lst pa_nil))
      (pss_cons (ps_set (i := 3) nd rfl (.inl rfl) (pv 0))
      (pss_cons (ps_for PassesOwn.never rfl (pi_range1 (by rfl) mR (pa_cons (pe_callB call_len_seq (by rfl) mL PySem.boot_len (pa_cons (pv 1) pa_nil)) pa_nil)) (pg_name (i := 4) nd rfl (.inl rfl))
        (pss_one (ps_if (pt_cmpR op_ge (pv 3) (pe_op op_pow pe_int pe_int) (nomark _))
          (pss_cons (ps_expr (pe_bm PySem.F.plainAttrs_list PySem.F.slot_list_append PySem.F.type_list_append mt_append (pv 2) (pa_cons (pe_op op_mod (pv 3) (pe_ix ix_list (pv 1) (pv 4) (fun _ _ => rfl))) pa_nil)))
            (pss_one (ps_set (i := 3) nd rfl (.inl rfl) (pe_op op_fdivW (pv 3) (pe_ix ix_list (pv 1) (pv 4) (fun _ _ => rfl))))))
          (pss_cons (ps_set (i := 5) nd rfl (.inl rfl) (pe_op op_mod (pv 3) (pe_op op_pow pe_int pe_int)))
          (pss_cons (ps_set (i := 6) nd rfl (.inl rfl) (pe_op op_mod (pe_op op_mul (pe_op op_add (pe_op op_add (pv 5) (pe_op op_mul pe_int (pv 4))) pe_int) (pe_op op_add pe_int (pe_op op_mul (pe_op op_mul pe_int (pv 4)) (pv 4)))) pe_int))
          (pss_cons (ps_set (i := 7) nd rfl (.inl rfl) (pe_op op_mod (pe_op op_mul (pe_op op_add (pe_op op_add (pe_op op_fdiv (pv 5) pe_int) (pe_op op_mul pe_int (pv 4))) pe_int) (pe_op op_add pe_int (pe_op op_mul pe_int (pv 4)))) pe_int))
          (pss_one (ps_expr (pe_bm PySem.F.plainAttrs_list PySem.F.slot_list_append PySem.F.type_list_append mt_append (pv 2) (pa_cons (pe_op op_mod (pe_op op_add (pe_op op_mul (pv 6) (pv 7)) (pe_op op_fdiv (pv 6) pe_int)) (pe_ix ix_list (pv 1) (pv 4) (fun _ _ => rfl))) pa_nil))))))))))
      (pss_one (ps_ret (pv 2))))), ?_⟩
    -- found = []; left = cell
    refine ⟨Nat.zero_le _, fun o no => ?_⟩
    have s1 : Same H (upd H o (.lst [])) := same_upd no
    refine ⟨.int c, rfl, .ref a, rfl, a, zs.map V.int, rfl, .inl (s1.seq hS), ((zs.map V.int).length : Int), rfl, by omega, (by rw [List.length_map]; omega), ?_⟩
    refine for_range (lo := 0) (n := zs.length) (fun i σ H3 => ∃ (l : Int) (y4 y5 y6 y7 : Option V) (ds : List Int), σ = [some (.int c), some (.ref a), some (.ref o), some (.int l), y4, y5, y6, y7] ∧
        Same H H3 ∧ H3 o = some (.lst (ds.map V.int)) ∧ ds.length = i ∧ ds ++ draws l i (zs.drop i) = draws c 0 zs)
      ⟨c, none, none, none, none, [], rfl, s1, upd_same, rfl, by simp⟩ ?_ ?_ |> (fun h => by rw [List.length_map]; exact h)
    · rintro i σ H3 hi ⟨l, y4, y5, y6, y7, ds, rfl, sm, eo, el, ed⟩
      have hA : SqL K H3 a (zs.map V.int) := sm.seq hS
      have hz1 := hz zs[i] (List.getElem_mem hi)
      have gz : zs[i]? = some zs[i] := List.getElem?_eq_getElem hi
      have g : atI (zs.map V.int) (i : Int) = some (.int zs[i]) := atI_nat (by rw [List.getElem?_map, gz]; rfl)
      have hd : zs.drop i = zs[i] :: zs.drop (i + 1) := List.drop_eq_getElem_cons hi
      rw [hd] at ed
      have ed' : (ds ++ [dval l i zs[i]]) ++ draws (dleft l zs[i]) (i + 1) (zs.drop (i + 1)) = draws c 0 zs := by
        rw [List.append_assoc]
        exact ed
      have small : (ds.map V.int).length < sizeLine := by
        rw [List.length_map]
        exact small1000 (by omega)
      rw [Int.zero_add]
      refine ⟨.int l, rfl, 10, 18, rfl, rfl, ⟨by decide, by decide, by decide⟩, l, 10 ^ 18, rfl, rfl, _, rfl, ite2 (fun e => ?_) (fun e => ?_)⟩
      · have e : (1000000000000000000 : Int) ≤ l := of_decide_eq_true e
        refine ⟨.ref o, rfl, .inl ⟨rfl, _, SqL.of eo⟩, .int l, rfl, .ref a, rfl, .int (i : Int), rfl, a, _, _, _, rfl, rfl, hA, g, l, zs[i], rfl, rfl, hz1.1, o, _, _, rfl, rfl, eo, small, ?_⟩
        have e1 : dval l i zs[i] = l % zs[i] := by
          unfold dval
          rw [if_pos e]
        have e2 : dleft l zs[i] = l / zs[i] := by
          unfold dleft
          rw [if_pos e]
        have sm2 : Same H (upd H3 o (.lst (ds.map V.int ++ [.int (l % zs[i])]))) := same_new no sm
        refine ⟨.int l, rfl, .ref a, rfl, .int (i : Int), rfl, a, _, _, _, rfl, rfl, sm2.seq hS, g, l, zs[i], rfl, rfl, wide_div hz1.1 (b := 64) (by have := hz1.2; have := hz1.1; omega) (by decide) (by decide), ?_⟩
        refine ⟨_, _, _, _, _, ds ++ [dval l i zs[i]], rfl, sm2, ?_, ?_, ?_⟩
        · rw [upd_same, e1, List.map_append]
          rfl
        · rw [List.length_append, el]
          rfl
        · rw [← e2]
          exact ed'
      · have e : ¬ (1000000000000000000 : Int) ≤ l := fun z => e (decide_eq_true z)
        have e2 : dleft l zs[i] = l := by
          unfold dleft
          rw [if_neg e]
        have hi1000 : (i : Int) < 1000 := by omega
        have s0 : 0 ≤ l % 1000000000000000000 := Int.emod_nonneg _ (by decide)
        have s9 : l % 1000000000000000000 < 1000000000000000000 := Int.emod_lt_of_pos _ (by decide)
        refine ⟨.int l, rfl, 10, 18, rfl, rfl, ⟨by decide, by decide, by decide⟩, l, 10 ^ 18, rfl, rfl, (show (0 : Int) < 10 ^ 18 by decide), ?_⟩
        refine ⟨_, rfl, .int (i : Int), rfl, 7, i, rfl, rfl, .inl ⟨by decide, by decide⟩, _, _, rfl, rfl, _, _, rfl, rfl, .int (i : Int), rfl, 2, i, rfl, rfl, .inl ⟨by decide, by decide⟩, .int (i : Int), rfl, _, _, rfl, rfl, .inl ⟨by omega, by omega⟩, _, _, rfl, rfl, _, _, rfl, rfl,
          .inl ⟨by show -(2 ^ 64) < l % 1000000000000000000 + 7 * (i : Int) + 1; omega, by show l % 1000000000000000000 + 7 * (i : Int) + 1 < 2 ^ 64; omega⟩, _, _, rfl, rfl, (show (0 : Int) < 2147483647 by decide), ?_⟩
        refine ⟨_, rfl, _, _, rfl, rfl, ⟨by decide, by decide⟩, .int (i : Int), rfl, 11, i, rfl, rfl, .inl ⟨by decide, by decide⟩, _, _, rfl, rfl, _, _, rfl, rfl, .int (i : Int), rfl, 6, i, rfl, rfl, .inl ⟨by decide, by decide⟩, _, _, rfl, rfl, _, _, rfl, rfl,
          .inl ⟨by show -(2 ^ 64) < l % 1000000000000000000 / 3 + 11 * (i : Int) + 5; omega, by show l % 1000000000000000000 / 3 + 11 * (i : Int) + 5 < 2 ^ 64; omega⟩, _, _, rfl, rfl, (show (0 : Int) < 2147483629 by decide), ?_⟩
        have o0 := Int.emod_nonneg ((l % 1000000000000000000 + 7 * (i : Int) + 1) * (48271 + 2 * (i : Int) * (i : Int))) (show (2147483647 : Int) ≠ 0 by decide)
        have o9 := Int.emod_lt_of_pos ((l % 1000000000000000000 + 7 * (i : Int) + 1) * (48271 + 2 * (i : Int) * (i : Int))) (show (0 : Int) < 2147483647 by decide)
        refine ⟨.ref o, rfl, .inl ⟨rfl, _, SqL.of eo⟩, _, rfl, _, rfl, _, _, rfl, rfl, .inl ⟨Int.lt_of_lt_of_le (by decide) o0, Int.lt_trans o9 (by decide)⟩, _, rfl, _, _, rfl, rfl, ⟨by decide, by decide⟩, _, _, rfl, rfl, .ref a, rfl, .int (i : Int), rfl, a, _, _, _, rfl, rfl, hA, g, _, zs[i], rfl, rfl, hz1.1, o, _, _, rfl, rfl, eo, small, ?_⟩
        have e1 : dval l i zs[i] = ((l % 1000000000000000000 + 7 * (i : Int) + 1) * (48271 + 2 * (i : Int) * (i : Int)) % 2147483647 * ((l % 1000000000000000000 / 3 + 11 * (i : Int) + 5) * (39373 + 6 * (i : Int)) % 2147483629) + (l % 1000000000000000000 + 7 * (i : Int) + 1) * (48271 + 2 * (i : Int) * (i : Int)) % 2147483647 / 64) % zs[i] := by
          unfold dval
          rw [if_neg e]
        refine ⟨_, _, _, _, _, ds ++ [dval l i zs[i]], rfl, same_new no sm, ?_, ?_, ?_⟩
        · rw [upd_same, e1, List.map_append]
          rfl
        · rw [List.length_append, el]
          rfl
        · rw [e2] at ed'
          exact ed'
    · rintro σ H3 ⟨l, y4, y5, y6, y7, ds, rfl, sm, eo, el, ed⟩
      rw [List.drop_length] at ed
      have ed : ds = draws c 0 zs := by
        rw [← ed]
        show ds = ds ++ []
        rw [List.append_nil]
      subst ed
      exact ⟨.ref o, rfl, q H3 o sm no eo⟩
def tl5 (bs : List Bool) : List V := (bs.map fun b => tx [b]).map V.str
theorem tl5_len (bs : List Bool) : (tl5 bs).length = bs.length := by
  unfold tl5
  rw [List.length_map, List.length_map]
theorem sizes32 : ∀ z ∈ ([30, 4] ++ List.replicate 30 2 : List Int), SizeOk z := by
  intro z hz
  rcases List.mem_append.mp hz with h | h
  · rcases List.mem_cons.mp h with rfl | h
    · exact ⟨by decide, by decide⟩
    · obtain rfl := List.mem_singleton.mp h
      exact ⟨by decide, by decide⟩
  · rw [(List.mem_replicate.mp h).2]
    exact ⟨by decide, by decide⟩
def spRow30 : Sp := fun vs H Q _ => ∃ c : Int, vs = [.int c, .int 30] ∧ ∀ H' bs, Same H H' → Row bs → Q (.str (tx bs)) H'
theorem scLRow : FnScope ["_law_cell", "_law_most", "_law_draws", "_law_signs", "_law_draw", "_law_k"] ["_law_cell", "_law_most"] (defScope sLRow) := ⟨rfl, rfl, rfl, by decide +kernel, rfl, by decide +kernel, by decide +kernel⟩
theorem ok_lrow {f f1 : Addr} {fd fd1 : FuncData} {k : Nat} (F : Fun K "_law_row" "_law_row" sLRow f fd) (N1 : Fn K mg "_law_drawn" sDrawn ["_law_cell", "_law_sizes"] f1 fd1) (T : TxtR K w mg d es n) : FnOk P w K mg base CX0 (k + 2) f fd ["_law_cell", "_law_most"] spRow30 := by
  have G1 : FnOk P w K mg base CX0 (k + 1) f1 fd1 ["_law_cell", "_law_sizes"] (spDrawn K) := ok_drawn N1.F T.len T.range
  refine F.ok scLRow (fun vs H Q E h => ?_) (fun cdv A outer s H vs Q E hr h => ?_)
  · obtain ⟨c, rfl, _⟩ := h
    rfl
  · obtain ⟨c, rfl, q⟩ := h
    have nd := scLRow.nd
    -- the end
    obtain ⟨t3, p3, h3⟩ : ∃ t3, PSs (cxOf CX0 P w K mg base ["_law_cell", "_law_most", "_law_draws", "_law_signs", "_law_draw", "_law_k"] "_law_row" (defScope sLRow) f cdv A outer s H E).nox ((defBody sLRow).drop 4) t3 ∧
        ∀ (H1 : Hp) (p : Addr) (bs : List Bool) (y2 y4 y5 : Option V), Same H H1 → H1 p = some (.lst (tl5 bs)) → Row bs → t3 { nx := fun _ H' => Q .non H', rt := Q } [some (.int c), some (.int 30), y2, some (.ref p), y4, y5] H1 := by
      refine ⟨_, pss_one (ps_ret (pe_join pe_str (pv 3))), fun H1 p bs y2 y4 y5 sm e hR => ?_⟩
      refine ⟨⟨_, rfl⟩, .ref p, rfl, "", p, (bs.map fun b => tx [b]), rfl, rfl, .inl (SqL.of e), join_fits (by have := hR.2; omega), ?_⟩
      rw [join_tx]
      exact q H1 bs sm hR
    -- by turns
    obtain ⟨t2, p2, h2⟩ : ∃ t2, PSs (cxOf CX0 P w K mg base ["_law_cell", "_law_most", "_law_draws", "_law_signs", "_law_draw", "_law_k"] "_law_row" (defScope sLRow) f cdv A outer s H E).nox ((defBody sLRow).drop 3) t2 ∧
        ∀ (H1 : Hp) (p pd : Addr) (bs : List Bool) (ds : List Int) (m : Nat) (d1 d2 : Int) (y4 y5 : Option V), Same H H1 → H1 p = some (.lst (tl5 bs)) → Row bs → H1 pd = some (.lst (ds.map V.int)) → ds[0]? = some (m : Int) → m < 30 → ds[1]? = some d1 → ds[2]? = some d2 →
          t2 { nx := fun _ H' => Q .non H', rt := Q } [some (.int c), some (.int 30), some (.ref pd), some (.ref p), y4, y5] H1 := by
      refine ⟨_, pss_cons (ps_if (pt_cmpR op_eq (pe_ix ix_list (pv 2) pe_int (fun _ _ => rfl)) pe_int (nomark _))
        (pss_one (ps_setLc (i := 3) (own := [("_law_k", 5)]) (g := gName 5) (tt := tYes) (by rfl) nd rfl rfl (sw_true rfl rfl rfl (by decide +kernel)) (pi_range1 (by rfl) T.range (pa_cons (pe_op op_add pe_int (pe_ix ix_list (pv 2) pe_int (fun _ _ => rfl))) pa_nil))
          (blkOk_by (own := [("_law_k", 5)]) (N := ["_law_cell", "_law_most", "_law_draws", "_law_signs", "_law_draw", "_law_k"]) (sc := defScope sLRow) (by decide +kernel))
          (fun _ _ _ _ _ => pg_name (i := 5) nd rfl (Or.inl rfl)) (fun _ _ _ _ _ => pts_nil) (fun _ _ _ _ _ => pe_ix ix_str pe_str (pe_op op_mod (pe_op op_add (pv 5) (pe_ix (show IxR _ (rIxL K) from ix_list) (pv 2) pe_int (fun _ _ => rfl))) pe_int) (fun _ _ => rfl)))) pss_nil) p3,
        fun H1 p pd bs ds m d1 d2 y4 y5 sm e hR ed e0 hm e1 e2 => ?_⟩
      have g0 : atI (ds.map V.int) 0 = some (.int (m : Int)) := atI_nat (j := 0) (by rw [List.getElem?_map, e0]; rfl)
      have g1 : atI (ds.map V.int) 1 = some (.int d1) := atI_nat (j := 1) (by rw [List.getElem?_map, e1]; rfl)
      have g2 : atI (ds.map V.int) 2 = some (.int d2) := atI_nat (j := 2) (by rw [List.getElem?_map, e2]; rfl)
      refine ⟨.ref pd, rfl, pd, _, _, _, rfl, rfl, SqL.of ed, g1, rfl, _, rfl, ite2 (fun _ => ?_) (fun _ => h3 _ p bs _ _ _ sm e hR)⟩
      refine ⟨.ref pd, rfl, pd, _, _, _, rfl, rfl, SqL.of ed, g0, _, _, rfl, rfl, _, rfl, by omega, by omega, fun D hD => ?_⟩
      have en : ((1 : Int) + (m : Int)).toNat = m + 1 := by omega
      rw [en]
      have hD0 := sm.free hD
      refine lc_range (lo := 0) (n := m + 1) (fun i H3 => ∃ bs' : List Bool, Same H1 H3 ∧ Same H H3 ∧ H3 D = some (.lst (tl5 bs')) ∧ bs'.length = i) ⟨[], same_upd hD, same_new hD0 sm, upd_same, rfl⟩ ?_ ?_
      · rintro i H3 hi ⟨bs', s13, sm3, eD, hl⟩
        rw [Int.zero_add]
        have b0 : 0 ≤ ((i : Int) + d2) % 2 := Int.emod_nonneg _ (by decide)
        have b1 : ((i : Int) + d2) % 2 < 2 := Int.emod_lt_of_pos _ (by decide)
        refine ⟨rfl, .int (i : Int), rfl, .ref pd, rfl, pd, _, _, _, rfl, rfl, SqL.of (s13 _ _ ed), g2, _, _, rfl, rfl, _, _, rfl, rfl, (show (0 : Int) < 2 by decide), ".o", _, _, rfl, rfl, (by decide), dot_o _ b0 b1, _, eD, ?_, bs' ++ [decide (((i : Int) + d2) % 2 = 1)], ?_, same_new hD0 sm3, ?_, ?_⟩
        · rw [tl5_len]
          exact fit' (by omega)
        · intro b o e'
          rw [upd_ne (ne_of_none e' hD)]
          exact s13 _ _ e'
        · rw [upd_same]
          unfold tl5
          rw [List.map_append, List.map_append]
          rfl
        · rw [List.length_append, hl]
          rfl
      · rintro H3 ⟨bs', s13, sm3, eD, hl⟩
        exact h3 _ D bs' _ _ _ sm3 eD ⟨by omega, by omega⟩
    refine ⟨_, pss_cons (ps_set (i := 2) nd rfl (.inr rfl) (pe_call G1 hr (by rfl) N1.g N1.F.kp N1.b .nil pass0 (pa_cons (pv 0) (pa_cons (pe_op op_cat (pe_lst (pa_cons (pv 1) (pa_cons pe_int pa_nil))) (pe_op op_rep (pe_lst (pa_cons pe_int pa_nil)) (pv 1))) pa_nil))))
      (pss_cons (ps_setLc (i := 3) (own := [("_law_draw", 4)]) (g := gName 4) (tt := tYes) (by rfl) nd rfl rfl (sw_true rfl rfl rfl (by decide +kernel)) (pi_list (pe_slice sl_list (pv 2) (po_some pe_int) (po_some (pe_op op_add pe_int (pe_ix ix_list (pv 2) pe_int (fun _ _ => rfl))))))
        (blkOk_by (own := [("_law_draw", 4)]) (N := ["_law_cell", "_law_most", "_law_draws", "_law_signs", "_law_draw", "_law_k"]) (sc := defScope sLRow) (by decide +kernel))
        (fun _ _ _ _ _ => pg_name (i := 4) nd rfl (Or.inl rfl)) (fun _ _ _ _ _ => pts_nil) (fun _ _ _ _ _ => pe_ix ix_str pe_str (pv 4) (fun _ _ => rfl)))
      (pss_cons (ps_if (pt_cmpR op_eq (pe_ix ix_list (pv 2) pe_int (fun _ _ => rfl)) pe_int (nomark _)) (pss_one (ps_set (i := 3) nd rfl (.inl rfl) (pe_callBK cr_sortTR (by rfl) T.sorted (by decide +kernel) (pa_cons (pv 3) pa_nil) (pk_cons pe_bl pk_nil)))) pss_nil) p2)), ?_⟩
    -- the sizes
    refine ⟨.int c, rfl, .int 30, rfl, (by show 2 ≤ sizeLine; decide), fun l1 n1 => ⟨(by show 1 ≤ sizeLine; decide), fun l2 n2 => ?_⟩⟩
    refine ⟨.int 30, rfl, l2, 30, [.int 2], rfl, rfl, upd_same, by decide, by decide, (by show 1 * 30 ≤ sizeLine; decide), fun l3 n3 => ?_⟩
    have m2 := (same_upd n1).free n2
    have nl12 : l1 ≠ l2 := fun e => by
      rw [← e, upd_same] at n2
      cases n2
    have s2 := same_new (o := .lst [.int 2]) m2 (same_upd (o := .lst [.int 30, .int 4]) n1)
    have m3 := s2.free n3
    have nl13 : l1 ≠ l3 := fun e => by
      rw [← e, upd_ne nl12, upd_same] at n3
      cases n3
    refine ⟨l1, l3, [.int 30, .int 4], _, rfl, rfl, ?_, upd_same, (by show 2 + 30 ≤ sizeLine; decide), fun l4 n4 => ?_⟩
    · rw [upd_ne nl13, upd_ne nl12, upd_same]
    have s3 := same_new (o := .lst (List.replicate (30 : Int).toNat [V.int 2]).flatten) m3 s2
    have m4 := s3.free n4
    refine ⟨c, l4, [30, 4] ++ List.replicate 30 2, rfl, SqL.of upd_same, sizes32, by decide, fun H1 p s4 np ep => ?_⟩
    have sH1 : Same H H1 := (same_new m4 s3).trans s4
    generalize hds : draws c 0 ([30, 4] ++ List.replicate 30 2) = ds at ep
    have hlen : ds.length = 32 := by
      rw [← hds, draws_len]
      rfl
    have hok : ∀ (i : Nat) (x z : Int), ds[i]? = some x → ([30, 4] ++ List.replicate 30 2 : List Int)[i]? = some z → 0 ≤ x ∧ x < z := by
      rw [← hds]
      exact draws_ok _ c 0 (fun z hz => (sizes32 z hz).1)
    obtain ⟨d0, e0⟩ : ∃ x, ds[0]? = some x := ⟨ds[0], List.getElem?_eq_getElem (by omega)⟩
    obtain ⟨d1, e1⟩ : ∃ x, ds[1]? = some x := ⟨ds[1], List.getElem?_eq_getElem (by omega)⟩
    obtain ⟨d2, e2⟩ : ∃ x, ds[2]? = some x := ⟨ds[2], List.getElem?_eq_getElem (by omega)⟩
    have b0 := hok 0 d0 30 e0 rfl
    obtain ⟨m, rfl⟩ : ∃ m : Nat, d0 = (m : Int) := ⟨d0.toNat, by omega⟩
    have hcs : ∀ x ∈ (ds.drop 2).take (m + 1), 0 ≤ x ∧ x < 2 := fun x hx => by
      obtain ⟨j, hj⟩ := List.getElem?_of_mem (List.mem_of_mem_take hx)
      rw [List.getElem?_drop] at hj
      have hj2 : 2 + j < ds.length := (List.getElem?_eq_some_iff.mp hj).1
      refine hok (2 + j) x 2 hj ?_
      rw [List.getElem?_append_right (by show 2 ≤ 2 + j; omega), List.getElem?_replicate]
      show (if 2 + j - 2 < 30 then some (2 : Int) else none) = some 2
      rw [if_pos (by omega)]
    have hcl : ((ds.drop 2).take (m + 1)).length = m + 1 := by
      rw [List.length_take, List.length_drop, hlen]
      omega
    generalize hcd : (ds.drop 2).take (m + 1) = xs at hcs hcl
    have ecut : cutV (ds.map V.int) (some 2) (some (3 + (m : Int))) = xs.map V.int := by
      unfold cutV
      rw [show (some (2 : Int)) = some ((2 : Nat) : Int) from rfl, show (3 + (m : Int)) = ((3 + m : Nat) : Int) by omega, HT.sIx_nat, HT.sIx_nat, List.length_map, hlen, ← hcd, List.map_take, List.map_drop]
      have i1 : min 2 32 = 2 := by omega
      have i2 : min (3 + m) 32 - 2 = m + 1 := by omega
      rw [i1, i2]
    have g0 : atI (ds.map V.int) 0 = some (.int (m : Int)) := atI_nat (j := 0) (by rw [List.getElem?_map, e0]; rfl)
    have g1 : atI (ds.map V.int) 1 = some (.int d1) := atI_nat (j := 1) (by rw [List.getElem?_map, e1]; rfl)
    refine ⟨.ref p, rfl, 2, rfl, .ref p, rfl, p, _, _, _, rfl, rfl, SqL.of ep, g0, _, _, rfl, rfl, _, rfl, p, _, rfl, SqL.of ep, fun l5 n5 => ?_⟩
    rw [ecut]
    have s5 := same_upd (o := .lst (xs.map V.int)) n5
    have e5 : upd H1 l5 (.lst (xs.map V.int)) l5 = some (.lst (xs.map V.int)) := upd_same
    generalize upd H1 l5 (.lst (xs.map V.int)) = J6 at *
    have sH6 : Same H J6 := sH1.trans s5
    refine ⟨l5, rfl, ⟨_, SqL.of e5⟩, fun D hD => ?_⟩
    have hD0 := sH6.free hD
    refine lc_list (K := K) (a := l5) (xs := xs.map V.int) (fun i H3 => ∃ bs' : List Bool, Same J6 H3 ∧ Same H H3 ∧ H3 D = some (.lst (tl5 bs')) ∧ bs'.length = i) ⟨[], same_upd hD, same_new hD0 sH6, upd_same, rfl⟩ (fun i H3 _ ⟨_, h, _⟩ => SqL.of (h _ _ e5)) ?_ ?_
    · rintro i x H3 hx ⟨bs', sm6, sm, eD, hl⟩
      rw [List.getElem?_map] at hx
      obtain ⟨u, hu, rfl⟩ := Option.map_eq_some_iff.mp hx
      have hb := hcs u (List.mem_of_getElem? hu)
      have hi : i < xs.length := (List.getElem?_eq_some_iff.mp hu).1
      refine ⟨rfl, .int u, rfl, ".o", u, _, rfl, rfl, (by decide), dot_o u hb.1 hb.2, _, eD, ?_, bs' ++ [decide (u = 1)], ?_, same_new hD0 sm, ?_, ?_⟩
      · rw [tl5_len]
        exact fit' (by omega)
      · intro b o e'
        rw [upd_ne (ne_of_none e' hD)]
        exact sm6 _ _ e'
      · rw [upd_same]
        unfold tl5
        rw [List.map_append, List.map_append]
        rfl
      · rw [List.length_append, hl]
        rfl
    · rintro H3 ⟨bs', sm6, sm, eD, hl⟩
      rw [List.length_map] at hl
      have hR' : Row bs' := ⟨by omega, by omega⟩
      have ep3 := (s5.trans sm6) _ _ ep
      refine ⟨.ref p, rfl, p, _, _, _, rfl, rfl, SqL.of ep3, g1, rfl, _, rfl, ite2 (fun _ => ?_) (fun _ => h2 _ D p bs' ds m d1 d2 _ _ sm eD hR' ep3 e0 (by omega) e1 e2)⟩
      refine ⟨.ref D, rfl, D, bs'.map fun b => tx [b], rfl, rfl, SqL.of eD, fun ys p9 pm n9 => ?_⟩
      obtain ⟨bs9, rfl⟩ := signs_rows ys fun y hy => by
        obtain ⟨b, _, e⟩ := List.mem_map.mp (pm.mem_iff.mp hy)
        exact ⟨b, e.symm⟩
      have hl9 : bs9.length = bs'.length := by
        have := pm.length_eq
        rwa [List.length_map, List.length_map] at this
      exact h2 _ p9 p bs9 ds m d1 d2 _ _ (same_new (sm.free n9) sm) upd_same ⟨by omega, by omega⟩ (same_upd n9 _ _ ep3) e0 (by omega) e1 e2
end
end Hop
namespace Hop
section
open PySem L2 HopR
open C8 (InsC call_isC)
variable {P : Program} {w : World} {K : PySem.W.Frag} {mg : Str → Option Value} {base : Heap} {C d : Addr} {es : Array DictEntry} {n : Nat}
variable {fi f1 f2 : Addr} {gi g1 g2 : FuncData} {d1 : Value}
theorem scLow : FnScope ["_law_top", "_law_bottom", "_law_one", "_law_other"] ["_law_top", "_law_bottom"] (defScope sLLow) := ⟨rfl, rfl, rfl, by decide +kernel, rfl, by decide +kernel, by decide +kernel⟩
def tq (q : Rat) : List V := [.int q.num, .int (q.den : Int)]
def spLow : Sp := fun vs H Q _ => ∃ t b : Int, vs = [.int t, .int b] ∧ b ≠ 0 ∧ b.natAbs < 2 ^ 8000 ∧ ∀ H' p, Same H H' → H p = none → H' p = some (.tup (tq (Rat.divInt t b))) → Q (.ref p) H'
theorem abs_nat (x : Int) : (if x < 0 then -x else x) = (x.natAbs : Int) := by
  split <;> omega
theorem ok_low {f : Addr} {fd : FuncData} {k : Nat} (F : Fun K "_law_low" "_law_low" sLLow f fd) (T : TxtP K mg C) : FnOk P w K mg base CX0 (k + 1) f fd ["_law_top", "_law_bottom"] spLow := by
  refine F.ok scLow (fun vs H Q E h => ?_) (fun cdv A outer s H vs Q E hr h => ?_)
  · obtain ⟨a, b, rfl, _⟩ := h
    rfl
  · obtain ⟨t, b, rfl, hb, hb2, q⟩ := h
    have nd := scLow.nd
    refine ⟨_, pss_cons (ps_set (i := 2) nd rfl (.inl rfl) (pe_callB call_abs (by rfl) T.abs (by decide +kernel) (pa_cons (pv 0) pa_nil)))
      (pss_cons (ps_set (i := 3) nd rfl (.inl rfl) (pe_callB call_abs (by rfl) T.abs (by decide +kernel) (pa_cons (pv 1) pa_nil)))
      (pss_cons (ps_while PassesOwn.never (pt_cmpR op_gt (pv 3) pe_int (nomark _)) (pss_one (ps_par (by rfl) nd (i := 2) (j := 3) rfl rfl (by decide) rfl rfl (pa_cons (pv 3) (pa_cons (pe_op op_modN (pv 2) (pv 3)) pa_nil)) (by rfl))))
      (pss_cons (ps_if (pt_cmpR op_lt (pv 1) pe_int (nomark _)) (pss_one (ps_set (i := 2) nd rfl (.inl rfl) (pe_op op_sub pe_int (pv 2)))) pss_nil)
      (pss_one (ps_ret (pe_tup (pa_cons (pe_op op_fdivWN (pv 0) (pv 2)) (pa_cons (pe_op op_fdivWN (pv 1) (pv 2)) pa_nil)))))))), ?_⟩
    refine ⟨.int t, rfl, t, rfl, .int b, rfl, b, rfl, ?_⟩
    rw [abs_nat, abs_nat]
    have hg := gcd_pos (t := t) hb
    have hgl : (Int.gcd t b).log2 < 9000 := by
      have h1 : Int.gcd t b ≤ b.natAbs := Nat.le_of_dvd (by omega) (Int.gcd_dvd_natAbs_right ..)
      exact Nat.lt_of_lt_of_le (PySem.Flt.log2_lt_of (by decide) (Nat.lt_of_le_of_lt h1 hb2)) (by decide)
    have fin : ∀ g : Int, g = (if b < 0 then -(Int.gcd t b : Int) else (Int.gcd t b : Int)) → CDivWN t g ∧ CDivWN b g := fun g e => by
      have e2 : g.natAbs = Int.gcd t b := by
        rw [e]
        split <;> omega
      unfold CDivWN
      rw [e2]
      exact ⟨⟨by omega, hgl⟩, ⟨by omega, hgl⟩⟩
    have done : ∀ g : Int, g = (if b < 0 then -(Int.gcd t b : Int) else (Int.gcd t b : Int)) → ∀ p, H p = none → Q (.ref p) (upd H p (.tup [.int (t.fdiv g), .int (b.fdiv g)])) := fun g e p hp => by
      rw [e, low_num hb, low_den hb]
      exact q _ _ (same_upd hp) hp upd_same
    refine while_by (fun σ H1 => ∃ x y : Nat, σ = [some (.int t), some (.int b), some (.int (x : Int)), some (.int (y : Int))] ∧ Nat.gcd x y = Int.gcd t b ∧ H1 = H) (fun σ _ => match σ with | [_, _, _, some (.int y)] => y.natAbs | _ => 0) ⟨t.natAbs, b.natAbs, rfl, rfl, rfl⟩ ?_ ?_
    · rintro σ H1 ⟨x, y, rfl, e, rfl⟩
      refine ⟨_, rfl, _, _, rfl, rfl, _, rfl, ?_⟩
      by_cases hy : y = 0
      · subst hy
        rw [Nat.gcd_zero_right] at e
        subst e
        rw [decide_eq_false (show ¬ (((0 : Nat) : Int) > 0) by decide)]
        refine iteF ⟨.int b, rfl, _, _, rfl, rfl, _, rfl, ite2 (fun e => ?_) (fun e => ?_)⟩
        · have e : b < 0 := of_decide_eq_true e
          have eg : (0 : Int) - (Int.gcd t b : Int) = (if b < 0 then -(Int.gcd t b : Int) else (Int.gcd t b : Int)) := by
            rw [if_pos e]
            omega
          obtain ⟨c1, c2⟩ := fin _ eg
          exact ⟨_, rfl, _, _, rfl, rfl, .int t, rfl, _, rfl, t, _, rfl, rfl, c1, .int b, rfl, _, rfl, b, _, rfl, rfl, c2, (by show 2 ≤ sizeLine; decide), fun p hp => done _ eg p hp⟩
        · have e : ¬ b < 0 := fun z => e (decide_eq_true z)
          have eg : (Int.gcd t b : Int) = (if b < 0 then -(Int.gcd t b : Int) else (Int.gcd t b : Int)) := (if_neg e).symm
          obtain ⟨c1, c2⟩ := fin _ eg
          exact ⟨.int t, rfl, _, rfl, t, _, rfl, rfl, c1, .int b, rfl, _, rfl, b, _, rfl, rfl, c2, (by show 2 ≤ sizeLine; decide), fun p hp => done _ eg p hp⟩
      · have hyi : (y : Int) ≠ 0 := by omega
        have em : ((x : Int).fmod (y : Int)) = ((x % y : Nat) : Int) := by
          rw [Int.fmod_eq_emod_of_nonneg _ (by omega)]
          exact (Int.natCast_emod x y).symm
        rw [decide_eq_true (show (y : Int) > 0 by omega)]
        refine iteT ⟨_, rfl, _, rfl, _, rfl, _, _, rfl, rfl, hyi, _, _, rfl, ⟨y, x % y, (by show [some (V.int t), some (V.int b), some (V.int (y : Int)), some (V.int ((x : Int).fmod (y : Int)))] = _; rw [em]), ?_, rfl⟩, ?_⟩
        · rw [← e, Nat.gcd_comm y, ← Nat.gcd_rec, Nat.gcd_comm]
        · exact fmod_less (x : Int) hyi
    · rintro σ H1 Q1 Q2 hm h
      obtain ⟨v, e1, i1, j1, e2, e3, k2, e4, h⟩ := h
      exact ⟨v, e1, i1, j1, e2, e3, k2, e4, hm _ _ h⟩
end
end Hop
namespace Hop
section
open PySem L2 HopR
open C8 (InsC call_isC)
theorem draws3 {c z0 z1 z2 : Int} (h : ∀ z ∈ [z0, z1, z2], 0 < z) : ∃ d0 d1 d2 : Int, draws c 0 [z0, z1, z2] = [d0, d1, d2] ∧ (0 ≤ d0 ∧ d0 < z0) ∧ (0 ≤ d1 ∧ d1 < z1) ∧ (0 ≤ d2 ∧ d2 < z2) := by
  have hl := draws_len [z0, z1, z2] c 0
  match hd : draws c 0 [z0, z1, z2], hl with
  | [d0, d1, d2], _ =>
    have k := draws_ok [z0, z1, z2] c 0 h
    rw [hd] at k
    exact ⟨d0, d1, d2, rfl, k 0 d0 z0 rfl rfl, k 1 d1 z1 rfl rfl, k 2 d2 z2 rfl rfl⟩
theorem frac_above {t b : Int} (ht : 0 < t) (hb : 0 < b) : 0 < Rat.divInt t b := by
  refine pos_num ?_
  rw [Rat.num_divInt, Int.sign_eq_one_of_pos hb, Int.one_mul]
  exact Int.ediv_pos_of_pos_of_dvd ht (by omega) (Int.gcd_dvd_right ..)
/-- a pace, told by the law: None, or a tuple -/
def Pt (e : Nat) (H : Hp) (v : V) (q : Rat) : Prop := (v = .non ∧ q = 1) ∨ ∃ a, v = .ref a ∧ H a = some (.tup (tq q)) ∧ 0 < q ∧ Sz e q
theorem Pt.mono {e e' : Nat} {H : Hp} {v : V} {q : Rat} (he : e ≤ e') (h : Pt e H v q) : Pt e' H v q := h.imp id fun ⟨a, ea, t, p, z⟩ => ⟨a, ea, t, p, z.mono he⟩
end
end Hop
namespace Hop
section
open PySem L2 HopR
open C8 (InsC call_isC)
variable {P : Program} {w : World} {K : PySem.W.Frag} {mg : Str → Option Value} {base : Heap} {C d : Addr} {es : Array DictEntry} {n : Nat}
variable {fi f1 f2 : Addr} {gi g1 g2 : FuncData} {d1 : Value}
def spLPart (C : Addr) : Sp := fun vs H Q _ => ∃ (v : V) (q : Rat), vs = [v] ∧ Pt 20 H v q ∧ ∀ H' x, Same H H' → Pw C H' x q → Q x H'
theorem scLPart : FnScope ["_law_pace_here"] ["_law_pace_here"] (defScope sLPart) := ⟨rfl, rfl, rfl, by decide +kernel, rfl, by decide +kernel, by decide +kernel⟩
theorem ok_lpart {f : Addr} {fd : FuncData} {k : Nat} (F : Fun K "_law_part" "_law_part" sLPart f fd) (N : Mks K mg C fi f1 f2 gi g1 g2 d1) (T : TxtP K mg C) : FnOk P w K mg base CX0 (k + 4) f fd ["_law_pace_here"] (spLPart C) := by
  have GI : FnOk P w K mg base CX0 (k + 2) fi gi ["self", "top", "bottom"] (spInit C) := ok_init N.F N.N1 N.N2 T
  refine F.ok scLPart (fun vs H Q E h => ?_) (fun cdv A outer s H vs Q E hr h => ?_)
  · obtain ⟨v, q, rfl, _⟩ := h
    rfl
  · obtain ⟨v, q, rfl, hv, h⟩ := h
    refine ⟨_, pss_cons (ps_if (pt_cmpR op_isN (pv 0) pe_non (nomark _)) (pss_one (ps_ret pe_non)) pss_nil)
      (pss_one (ps_ret (pe_make N.M GI hr (by rfl) T.mgC N.b3 .nil pass0 (pa_cons (pe_ix ix_tup (pv 0) pe_int (fun _ _ => rfl)) (pa_cons (pe_ix ix_tup (pv 0) pe_int (fun _ _ => rfl)) pa_nil))))), ?_⟩
    rcases hv with ⟨rfl, rfl⟩ | ⟨a, rfl, ea, p, z⟩
    · refine ⟨.non, rfl, rfl, _, rfl, ?_⟩
      rw [decide_eq_true rfl]
      exact iteT (h H .non (Same.refl _) (.inl ⟨rfl, rfl⟩))
    · refine ⟨.ref a, rfl, rfl, _, rfl, ?_⟩
      rw [decide_eq_false (fun z => nomatch z)]
      refine iteF ⟨.ref a, rfl, a, _, 0, .int q.num, rfl, rfl, SqT.of ea, rfl, .ref a, rfl, a, _, 1, .int (q.den : Int), rfl, rfl, SqT.of ea, rfl, ?_⟩
      refine made (den_ne q) (Nat.lt_of_lt_of_le (show ((q.den : Nat) : Int).natAbs < 2 ^ 20 from z.2) (Nat.pow_le_pow_right (by decide) (by decide))) ?_
      rw [Rat.num_divInt_den]
      exact fun H5 p5 s5 n5 w5 => h H5 (.ref p5) s5 (.inr ⟨p5, rfl, w5, p, z.mono (by decide)⟩)
def spPace (e : Nat) : Sp := fun vs H Q _ => ∃ c : Int, vs = [.int c] ∧ ∀ H' v q, Same H H' → Pt e H' v q → Q v H'
abbrev nSm : List Str := ["_law_cell", "_law_way", "_law_one", "_law_two"]
theorem scLSmall : FnScope nSm ["_law_cell"] (defScope sLSmall) := ⟨rfl, rfl, rfl, by decide +kernel, rfl, by decide +kernel, by decide +kernel⟩
theorem low_pt {H : Hp} {p : Addr} {e : Nat} {t b : Int} (e2 : H p = some (.tup (tq (Rat.divInt t b)))) (ht : 0 < t) (hb : 0 < b) (h1 : t.natAbs < 2 ^ e) (h2 : b.natAbs < 2 ^ e) : Pt e H (.ref p) (Rat.divInt t b) := .inr ⟨p, rfl, e2, frac_above ht hb, sz_divInt (by omega) h1 h2⟩
theorem ok_lsmall {f : Addr} {fd : FuncData} {k : Nat} (F : Fun K "_law_small_pace" "_law_small_pace" sLSmall f fd) (N1 : ∃ r s, Fn K mg "_law_drawn" sDrawn ["_law_cell", "_law_sizes"] r s) (N2 : ∃ r s, Fn K mg "_law_low" sLLow ["_law_top", "_law_bottom"] r s) (T : TxtP K mg C) : FnOk P w K mg base CX0 (k + 2) f fd ["_law_cell"] (spPace 4) := by
  obtain ⟨r1, s1, N1⟩ := N1
  obtain ⟨r2, s2, N2⟩ := N2
  have G1 : FnOk P w K mg base CX0 (k + 1) r1 s1 ["_law_cell", "_law_sizes"] (spDrawn K) := ok_drawn N1.F T.len T.range
  have G2 : FnOk P w K mg base CX0 (k + 1) r2 s2 ["_law_top", "_law_bottom"] spLow := ok_low N2.F T
  refine F.ok scLSmall (fun vs H Q E h => ?_) (fun cdv A outer s H vs Q E hr h => ?_)
  · obtain ⟨c, rfl, _⟩ := h
    rfl
  · obtain ⟨c, rfl, q⟩ := h
    have nd := scLSmall.nd
    refine ⟨_, pss_cons (ps_asg (pe_call G1 hr (by rfl) N1.g N1.F.kp N1.b .nil pass0 (pa_cons (pv 0) (pa_cons (pe_lst (pa_cons pe_int (pa_cons pe_int (pa_cons pe_int pa_nil)))) pa_nil))) (pg_lst (by rfl) (pgs_cons (pg_name (i := 1) nd rfl (.inl rfl)) (pgs_cons (pg_name (i := 2) nd rfl (.inl rfl)) (pgs_cons (pg_name (i := 3) nd rfl (.inl rfl)) pgs_nil)))))
      (pss_cons (ps_if (pt_cmpR op_eq (pv 1) pe_int (nomark _)) (pss_one (ps_ret pe_non)) pss_nil)
      (pss_one (ps_ret (pe_call G2 hr (by rfl) N2.g N2.F.kp N2.b .nil pass0 (pa_cons (pe_op op_add pe_int (pv 2)) (pa_cons (pe_op op_add pe_int (pv 3)) pa_nil)))))), ?_⟩
    refine ⟨.int c, rfl, (by show 3 ≤ sizeLine; decide), fun l1 n1 => ?_⟩
    refine ⟨c, l1, [6, 9, 9], rfl, SqL.of upd_same, ?_, by decide, fun H1 p1 s1 n2 e1 => ?_⟩
    · intro z hz
      simp only [List.mem_cons, List.not_mem_nil, or_false] at hz
      rcases hz with rfl | rfl | rfl <;> exact ⟨by decide, by decide⟩
    obtain ⟨d0, d1, d2, ed, b0, b1, b2⟩ := draws3 (c := c) (z0 := 6) (z1 := 9) (z2 := 9) (by decide)
    rw [ed] at e1
    have sH1 : Same H H1 := (same_upd n1).trans s1
    refine ⟨p1, _, rfl, SqL.of e1, rfl, _, _, rfl, _, _, rfl, _, _, rfl, rfl, ?_⟩
    refine ⟨.int d0, rfl, rfl, _, rfl, ite2 (fun _ => q H1 .non 1 sH1 (.inl ⟨rfl, rfl⟩)) (fun _ => ?_)⟩
    refine ⟨.int d1, rfl, 1, d1, rfl, rfl, .int d2, rfl, 1, d2, rfl, rfl, 1 + d1, 1 + d2, rfl, by omega, ?_, fun H2 p2 s2 n2 e2 => ?_⟩
    · exact Nat.lt_of_lt_of_le (show (1 + d2).natAbs < 2 ^ 4 by omega) (Nat.pow_le_pow_right (by decide) (by decide))
    · exact q H2 (.ref p2) _ (sH1.trans s2) (low_pt e2 (by omega) (by omega) (by omega) (by omega))
end
end Hop

set_option Elab.async false
set_option linter.all false
set_option maxRecDepth 100000
namespace HopR
open PySem PySem.Spec PyProof.Rows L2
section
variable {X : Cx}
/-! ### xs[lo:hi:st] -/
def sliceIx (n : Nat) (lo hi : Option Int) (st : Int) : List Nat := sliceRange (sliceBounds lo hi (some st) n).1 (sliceBounds lo hi (some st) n).2.1 (sliceBounds lo hi (some st) n).2.2
def pick {α : Type} (xs : List α) (ix : List Nat) : List α := ix.filterMap (xs[·]?)
theorem vals_pick {xs : List V} {its : List Value} (r : Vals xs its) : ∀ ix : List Nat, Vals (pick xs ix) (pick its ix)
  | [] => .nil
  | i :: q => by
    unfold pick
    rw [List.filterMap_cons, List.filterMap_cons]
    cases e : xs[i]? with
    | none =>
      rw [Vals.none_of r e]
      exact vals_pick r q
    | some x =>
      obtain ⟨u, e2, ru⟩ := Vals.get r e
      rw [e2]
      exact .cons ru (vals_pick r q)
def tSl3 (K : PySem.W.Frag) (te : TE) (tl th ts : TO) : TE := fun σ H Q => te σ H fun x H1 => tl σ H1 fun lo H2 => th σ H2 fun hi H3 => ts σ H3 fun st H4 => ∃ a xs c, x = .ref a ∧ st = some c ∧ c ≠ 0 ∧ SqL K H4 a xs ∧ (pick xs (sliceIx xs.length lo hi c)).length ≤ sizeLine ∧
  ∀ p, H4 p = none → Q (.ref p) (upd H4 p (.lst (pick xs (sliceIx xs.length lo hi c))))
theorem pe_slice3 {e : Expr} {te : TE} {lo hi : Option Expr} {se : Expr} {tl th ts : TO} {p3 pos : Pos} (he : PE X e te) (hl : PO X lo tl) (hu : PO X hi th) (hs : PO X (some se) ts) : PE X (.Subscript e (.Slice lo hi (some se) p3) pos) (tSl3 X.K te tl th ts) := by
  refine ⟨fun pins s σ H Q I h => Subscript_ (thn (he.run pins s σ H _ I h) fun v s1 ⟨x, H1, I1, r1, q1⟩ => ?_)⟩
  refine wpAny_Slice (thn (hl.run pins s1 σ H1 _ I1 q1) fun vl s2 ⟨l, H2, I2, pl, q2⟩ => thn (hu.run pins s2 σ H2 _ I2 q2) fun vu s3 ⟨u, H3, I3, pu, q3⟩ => thn (hs.run pins s3 σ H3 _ I3 q3) fun vs s4 ⟨st, H4, I4, ps, a, xs, c, ex, es, hc, hx, hz, q⟩ => ?_)
  subst ex
  subst es
  cases r1
  have I5 : Inv X pins σ H4 { s4 with heap := s4.heap.push { cls := .type "slice", data := .fields #[vl, vu, vs] } } := I4.kept (t' := s4.toks) fun b ob qq => Heap.get?_push_of_some _ qq
  obtain ⟨its, r, ht, hz2⟩ := I5.list hx
  have hlen := r.length
  show wpAny (model X.prog X.w) X.A (subscriptTail e (.Slice lo hi (some se) p3) (.ref a) (.ref s4.heap.objs.size)) (EP X pins σ Q) X.xe { s4 with heap := s4.heap.push { cls := .type "slice", data := .fields #[vl, vu, vs] } }
  refine tail_any (ops := [.ref a, .ref s4.heap.objs.size]) ht.isList.typeIs (PySem.slot_list_getitem.lookup) ?_ (by with_unfolding_all rfl)
  refine wpAny_getItem_list_slice ht.isList (Heap.IsSliceOf.new _ vl vu vs) pl pu ps (fun z => hc (Option.some.inj z)) ?_ (by rw [List.size_toArray]; omega)
  have e1 : slicePick its.toArray l u (some c) = (pick its (sliceIx xs.length l u c)).toArray := by
    unfold slicePick pick sliceIx
    rw [List.size_toArray, ← hlen]
    simp only [List.getElem?_toArray]
  rw [e1]
  refine ⟨.ref _, _, I5.laid (t' := s4.toks) (o := .lst (pick xs (sliceIx xs.length l u c))) (fun b ob qq => Heap.get?_push_of_some _ qq) (Nat.le_refl _) ?_, rfl, q _ (I5.hok.fresh (Nat.le_refl _))⟩
  exact ⟨hz, _, 0, vals_pick r _, Heap.get?_push_size _ rfl⟩
/-! ### xs.count(y), flat items -/
def rCntV (K : PySem.W.Frag) : V → List V → Hp → VK → Prop := fun x xs H Q => ∃ (p : Addr) (ys : List V) (y : V), x = .ref p ∧ xs = [y] ∧ SqL K H p ys ∧ flatV y = true ∧ ys.all flatV = true ∧ Q (.int ((ys.countP fun z => eqV z y : Nat) : Int)) H
theorem countU {y : V} : ∀ {ys : List V} {its : List Value}, Vals ys its → ys.all flatV = true → its.countP (eqU y) = ys.countP fun z => eqV z y
  | _, _, .nil, _ => rfl
  | _, _, .cons (a := z) r t, f => by
    rw [List.all_cons, Bool.and_eq_true] at f
    rw [List.countP_cons, List.countP_cons, countU t f.2, eqU_of r f.1]
theorem mt_countV : MtR X "list.count" (rCntV X.K) := by
  intro pins s σ H x xs v us Q I rx rxs h
  obtain ⟨p, ys, y, rfl, rfl, hs, fy, fys, q⟩ := h
  cases rx
  obtain ⟨uy, rfl, ry⟩ := rxs.one
  obtain ⟨its, rv, ⟨⟨cls, dd, data, sl⟩, n, ho, hc, hdn, hd⟩, hlen⟩ := I.list hs
  simp only at hc hd
  subst hc hd
  refine call_meets PySem.F.slot_list_count ⟨_, ho, rfl⟩ PySem.F.entry_list_count (PySem.F.args_list_count_2 _ _)
    (SeqAt.list_countAt p its.toArray n dd sl uy (eqU y)) ⟨ho, fun u' hu' => mem_eqAt ry fy rv fys u' (by simpa using hu'), ?_⟩
  refine ⟨.int ((ys.countP fun z => eqV z y : Nat) : Int), H, I.tok _, ⟨s.toks, ?_⟩, q⟩
  show Value.int ((its.toArray.toList.countP (eqU y) : Nat) : Int) s.toks = _
  rw [List.toList_toArray, countU rv fys]
end
/-! ### every second one -/
def ev {α : Type} : List α → List α
  | [] => []
  | [x] => [x]
  | x :: _ :: r => x :: ev r
theorem pick_ev {α : Type} : ∀ (xs : List α) (m : Nat), m = (xs.length + 1) / 2 → pick xs ((List.range m).map fun k => 2 * k) = ev xs
  | [], m, e => by
    have : m = 0 := by simpa using e
    subst this
    rfl
  | [x], m, e => by
    have : m = 1 := by simpa using e
    subst this
    rfl
  | x :: y :: r, m, e => by
    obtain ⟨m', rfl⟩ : ∃ m', m = m' + 1 := ⟨(r.length + 1) / 2, by rw [e, List.length_cons, List.length_cons]; omega⟩
    have e' : m' = (r.length + 1) / 2 := by
      rw [List.length_cons, List.length_cons] at e
      omega
    rw [List.range_succ_eq_map, List.map_cons, List.map_map]
    unfold pick
    rw [List.filterMap_cons]
    show x :: _ = x :: ev r
    rw [← pick_ev r m' e']
    unfold pick
    rw [List.filterMap_map, List.filterMap_map]
    congr 1
theorem ix_ev (n : Nat) : sliceIx n none none 2 = (List.range ((n + 1) / 2)).map fun k => 2 * k := by
  unfold sliceIx sliceBounds sliceRange
  simp only [Option.getD_some, show ((2 : Int) > 0) = True from by simp, if_true]
  by_cases h : (0 : Int) < n
  · rw [if_pos h]
    have e : (((n : Int) - 0 + 2 - 1) / 2).toNat = (n + 1) / 2 := by omega
    rw [e]
    apply List.map_congr_left
    intro k _
    omega
  · rw [if_neg h]
    have : n = 0 := by omega
    subst this
    rfl
theorem ix_od (n : Nat) (h : 1 ≤ n) : sliceIx n (some 1) none 2 = (List.range (n / 2)).map fun k => 1 + 2 * k := by
  unfold sliceIx sliceBounds sliceRange
  simp only [Option.getD_some, show ((2 : Int) > 0) = True from by simp, if_true, show ¬ ((1 : Int) < 0) from by decide, if_false]
  have e0 : max (0 : Int) (min 1 (n : Int)) = 1 := by omega
  rw [e0]
  by_cases h : (1 : Int) < n
  · rw [if_pos h]
    have e : (((n : Int) - 1 + 2 - 1) / 2).toNat = n / 2 := by omega
    rw [e]
    apply List.map_congr_left
    intro k _
    omega
  · rw [if_neg h]
    have : n = 1 := by omega
    subst this
    rfl
theorem pick_od {α : Type} (x : α) (r : List α) : pick (x :: r) ((List.range ((x :: r).length / 2)).map fun k => 1 + 2 * k) = ev r := by
  rw [← pick_ev r ((r.length + 1) / 2) rfl]
  unfold pick
  rw [List.filterMap_map, List.filterMap_map, List.length_cons]
  congr 1
  funext k
  show (x :: r)[1 + 2 * k]? = r[2 * k]?
  rw [Nat.add_comm]
  rfl
end HopR

set_option Elab.async false
set_option linter.all false
set_option maxRecDepth 100000
namespace HopR
open PySem PySem.Spec PyProof.Rows L2 LamX
/-! ### what a try takes it may be asked of slots of the def's own number alone -/
theorem takes_len {X : Cx} {W : WX} (tk : Takes X W) : Takes X (fun cls d σ H => σ.length = X.N.length → W cls d σ H) := by
  rintro u s' ⟨a, B, sI, pins, σ, H, cls, d, e, I, nb, up, sky, na, os, ag, w⟩
  exact tk u s' ⟨a, B, sI, pins, σ, H, cls, d, e, I, nb, up, sky, na, os, ag, w I.len⟩
theorem list4 {α : Type _} {l : List α} (h : l.length = 4) : ∃ a b c d, l = [a, b, c, d] := by
  match l, h with
  | [a, b, c, d], _ => exact ⟨a, b, c, d, rfl⟩
/-! ### the eleven refusals, and what an exception of one of them answers -/
structure Kinds (K : PySem.W.Frag) (mg : Str → Option Value) (HE c0 c1 c2 c3 c4 c5 c6 c7 c8 c9 c10 : Addr) : Prop where
  ve : mg "ValueError" = none
  gH : mg "HopError" = some (.ref HE)
  g0 : mg "NoNumber" = some (.ref c0)
  g1 : mg "NoRow" = some (.ref c1)
  g2 : mg "NoPace" = some (.ref c2)
  g3 : mg "NoStep" = some (.ref c3)
  g4 : mg "NoWord" = some (.ref c4)
  g5 : mg "NoPlace" = some (.ref c5)
  g6 : mg "NoHeap" = some (.ref c6)
  g7 : mg "TooMany" = some (.ref c7)
  g8 : mg "NoWay" = some (.ref c8)
  g9 : mg "NoLines" = some (.ref c9)
  g10 : mg "NoRing" = some (.ref c10)
structure Raised (K : PySem.W.Frag) (D HE c0 c1 c2 c3 c4 c5 c6 c7 c8 c9 c10 : Addr) (m : Nat) : Prop where
  lt : m < 11
  ex : PySem.W.exmOne K (.ref D) (.ref HE) = some true
  C : ExcC K D
  kH : PySem.W.kitOne K (.ref D) (.ref HE) = some true
  kV : PySem.W.kitOne K (.ref D) (.type "ValueError") = some true
  k0 : PySem.W.kitOne K (.ref D) (.ref c0) = some (decide (0 = m))
  k1 : PySem.W.kitOne K (.ref D) (.ref c1) = some (decide (1 = m))
  k2 : PySem.W.kitOne K (.ref D) (.ref c2) = some (decide (2 = m))
  k3 : PySem.W.kitOne K (.ref D) (.ref c3) = some (decide (3 = m))
  k4 : PySem.W.kitOne K (.ref D) (.ref c4) = some (decide (4 = m))
  k5 : PySem.W.kitOne K (.ref D) (.ref c5) = some (decide (5 = m))
  k6 : PySem.W.kitOne K (.ref D) (.ref c6) = some (decide (6 = m))
  k7 : PySem.W.kitOne K (.ref D) (.ref c7) = some (decide (7 = m))
  k8 : PySem.W.kitOne K (.ref D) (.ref c8) = some (decide (8 = m))
  k9 : PySem.W.kitOne K (.ref D) (.ref c9) = some (decide (9 = m))
  k10 : PySem.W.kitOne K (.ref D) (.ref c10) = some (decide (10 = m))
def flags (m : Nat) : List V := [.bl (decide (0 = m)), .bl (decide (1 = m)), .bl (decide (2 = m)), .bl (decide (3 = m)), .bl (decide (4 = m)), .bl (decide (5 = m)), .bl (decide (6 = m)), .bl (decide (7 = m)), .bl (decide (8 = m)), .bl (decide (9 = m)), .bl (decide (10 = m))]
theorem flags_flat (m : Nat) : (flags m).all flatV = true := rfl
theorem flags_one : ∀ m < 11, ((flags m).countP fun z => eqV z (.bl true)) = 1 := by decide +kernel
theorem flags_at : ∀ m < 11, ∃ z, (flags m)[m]? = some z ∧ eqV z (.bl true) = true ∧ ∀ k < m, ∀ z', (flags m)[k]? = some z' → eqV z' (.bl true) = false := by
  intro m hm
  rcases (show m = 0 ∨ m = 1 ∨ m = 2 ∨ m = 3 ∨ m = 4 ∨ m = 5 ∨ m = 6 ∨ m = 7 ∨ m = 8 ∨ m = 9 ∨ m = 10 by omega) with rfl | rfl | rfl | rfl | rfl | rfl | rfl | rfl | rfl | rfl | rfl <;>
    refine ⟨_, rfl, rfl, fun k hk z' hz => ?_⟩ <;> revert z' <;> revert k <;> decide +kernel
/-- the lambda raises an exception of the class D; its number is told behind it -/
def TCls (D : Addr) (m : Nat) : (XK → Hp → VK → Prop) → Hp → VK → Prop := fun tl H Q => ∀ R : VK, tl (fun cls d H' => cls = .ref D ∧ d = none ∧ ∀ H'', Same H' H'' → Q (.int (m : Int)) H'') H R
end HopR

set_option Elab.async false
set_option linter.all false
set_option maxRecDepth 100000
namespace HopR
open PySem PySem.Spec PyProof.Rows L2 LamX
/-! ### where all but tables of code objects stays -/
theorem ext_of {H H' : Hp} (s : Same H H') : ExtN H H' := ExtN.of s
theorem ext_lst {H H' : Hp} {p : Addr} {xs : List V} (s : ExtN H H') (e : H p = some (.lst xs)) : H' p = some (.lst xs) := s _ _ e fun _ z => nomatch z
theorem tyx_ext {K : PySem.W.Frag} {H H' : Hp} {x : V} {t : Value} (s : ExtN H H') (ty : TyX K H x t) : TyX K H' x t := by
  cases ty with
  | base h =>
    cases h with
    | non => exact .base .non
    | bl x => exact .base (.bl x)
    | int i => exact .base (.int i)
    | str x => exact .base (.str x)
    | flt x => exact .base (.flt x)
    | lst e => exact .base (.lst (s _ _ e fun _ z => nomatch z))
    | frz e => exact .base (.frz (s _ _ e fun _ z => nomatch z))
    | tup e => exact .base (.tup (s _ _ e fun _ z => nomatch z))
    | dK e => exact .base (.dK (s _ _ e fun _ z => nomatch z))
    | dT e => exact .base (.dT (s _ _ e fun _ z => nomatch z))
    | ins e a b c d f => exact .base (.ins (s _ _ e fun _ z => nomatch z) a b c d f)
  | byt b => exact .byt b
  | set e => exact .set (s _ _ e fun _ z => nomatch z)
  | kList e c => exact .kList e c
  | kTuple e c => exact .kTuple e c
  | kDict e c => exact .kDict e c
  | fTuple e => exact .fTuple (s _ _ e fun _ z => nomatch z)
  | fDict e => exact .fDict (s _ _ e fun _ z => nomatch z)
theorem odd_ext {K : PySem.W.Frag} {H H' : Hp} {x : V} (s : ExtN H H') (h : Odd K H x) : Odd K H' x := by
  obtain ⟨t, b, ty, k⟩ := h
  exact ⟨t, b, tyx_ext s ty, k⟩
theorem notxt_ext {K : PySem.W.Frag} {H H' : Hp} {x : V} (s : ExtN H H') (h : NoTxt K H x) : NoTxt K H' x := by
  obtain ⟨t, ty, k⟩ := h
  exact ⟨t, tyx_ext s ty, k⟩
theorem tabs_one {H : Hp} {P : Addr} {q : Str} (h : H P = some (.tbl #[])) : Tabs [(P, q)] H := fun p hp => by
  rw [List.mem_singleton.mp hp]
  exact TabS.nil h
end HopR

set_option Elab.async false
set_option linter.all false
set_option maxRecDepth 100000
namespace HopR
open PySem PySem.Spec PyProof.Rows L2 LamX NdefX
/-! ### what never changes -/
abbrev fz (ob : Obj) : HO := .frz ob (.own 0)
section
variable {P : Program} {w : World} {H H' : Hp} {h h' B : Heap} {cl : List (Str × Addr)} {fs : List Addr}
theorem fz_get {a : Addr} {ob : Obj} (hok : HOk P w H h) (e : H a = some (fz ob)) : h.get? a = some ob := (hok a _ e).1
/-- b is a cell of cl -/
def InC (cl : List (Str × Addr)) (b : Addr) : Prop := ∃ y, cl.lookup y = some b
open Classical in
/-- the cells are not tracked -/
noncomputable def off (cl : List (Str × Addr)) (H : Hp) : Hp := fun b => if InC cl b then none else H b
open Classical in
/-- the cells are tracked as in H, all else as in H' -/
noncomputable def bck (cl : List (Str × Addr)) (H H' : Hp) : Hp := fun b => if InC cl b then H b else H' b
theorem off_in {b : Addr} (h : InC cl b) : off cl H b = none := by
  unfold off
  rw [if_pos h]
theorem off_out {b : Addr} (h : ¬ InC cl b) : off cl H b = H b := by
  unfold off
  rw [if_neg h]
theorem bck_in {b : Addr} (h : InC cl b) : bck cl H H' b = H b := by
  unfold bck
  rw [if_pos h]
theorem bck_out {b : Addr} (h : ¬ InC cl b) : bck cl H H' b = H' b := by
  unfold bck
  rw [if_neg h]
theorem off_none {b : Addr} (n : H b = none) : off cl H b = none := by
  by_cases h : InC cl b
  · exact off_in h
  · rw [off_out h]
    exact n
/-- the cells stand frozen -/
def FrzC (cl : List (Str × Addr)) (H : Hp) : Prop := ∀ y c, cl.lookup y = some c → ∃ ob v, H c = some (fz ob) ∧ ob.data = .cell v
theorem FrzC.no (C : FrzC cl H) {b : Addr} {o : HO} (e : H b = some o) (n : ∀ ob, o ≠ fz ob) : ¬ InC cl b := fun ⟨y, hy⟩ => by
  obtain ⟨ob, _, h, _⟩ := C y b hy
  exact n ob (Option.some.inj (e.symm.trans h))
theorem FrzC.ext (C : FrzC cl H) (e : ExtN H H') : FrzC cl H' := fun y c h => by
  obtain ⟨ob, v, h1, h2⟩ := C y c h
  exact ⟨ob, v, e _ _ h1 (fun _ z => nomatch z), h2⟩
theorem env_off {K : PySem.W.Frag} {mg : Str → Option Value} {base : Heap} {A : Around} {outer : List Env} {s : Shared} (C : FrzC cl H) (e0 : Env0 P w K mg base A outer s H) : Env0 P w K mg base A outer s (off cl H) := by
  refine ⟨e0.frames, e0.mod, fun b o h => ⟨(e0.bs b o h).1, off_none (e0.bs b o h).2⟩, e0.bsz, e0.funs, fun b hb => off_none (e0.frf b hb), fun b o h => ?_, e0.bare⟩
  by_cases hb : InC cl b
  · rw [off_in hb] at h
    cases h
  · rw [off_out hb] at h
    refine (e0.hok b o h).stay (fun _ _ _ q => q) (fun c q => ?_) fun c xs q => ?_
    · rw [off_out (C.no q fun _ z => nomatch z)]
      exact q
    · rw [off_out (C.no q fun _ z => nomatch z)]
      exact q
/-- what the ground says where the cells were kept, so says the ground with them -/
theorem hok_back (C : FrzC cl H) (hc : ∀ y c ob v, cl.lookup y = some c → H c = some (fz ob) → ob.data = .cell v → B.get? c = some ob ∧ H' c = none) (hok' : HOk P w H' B) : HOk P w (bck cl H H') B := fun b o e => by
  have keep : ∀ c u, H' c = some u → bck cl H H' c = some u := fun c u q => by
    refine (bck_out fun ⟨y, hy⟩ => ?_).trans q
    obtain ⟨ob, v, h1, h2⟩ := C y c hy
    rw [(hc y c ob v hy h1 h2).2] at q
    cases q
  by_cases hb : InC cl b
  · obtain ⟨y, hy⟩ := hb
    obtain ⟨ob, v, h1, h2⟩ := C y b hy
    rw [bck_in ⟨y, hy⟩, h1] at e
    cases e
    have g := (hc y b ob v hy h1 h2).1
    exact ⟨g, ob, g⟩
  · rw [bck_out hb] at e
    exact (hok' b o e).stay (fun _ _ _ q => q) (fun c q => keep c _ q) fun c xs q => keep c _ q
theorem un_back (C : FrzC cl H) (nf : ∀ b ∈ fs, H b = none) (hok : HOk P w H h) (hok' : HOk P w H' h') (u : Un fs [] (off cl H) H' h h') : Un fs [] H (bck cl H H') h h' ∧ HOk P w (bck cl H H') h' := by
  have nx : ∀ b : Addr, b ∉ ([] : List Addr) := fun b z => nomatch z
  have hc : ∀ y c ob v, cl.lookup y = some c → H c = some (fz ob) → ob.data = .cell v → h'.get? c = some ob ∧ H' c = none := fun y c ob v hy h1 _ =>
    have g := fz_get hok h1
    have n : off cl H c = none := off_in ⟨y, hy⟩
    ⟨u.keep c ob g n (fun z => by rw [nf c z] at h1; cases h1) (nx c), u.free c ob g n (nx c)⟩
  refine ⟨⟨fun b o e n hb hx => u.keep b o e (off_none n) hb hx, fun b o e n hb hx => u.slot b o e (off_none n) hb hx, fun b o e n hx => ?_, u.there, fun b xs e => ?_, fun b o v e => ?_, fun b ps e => ?_⟩, hok_back C hc hok'⟩
  · by_cases hb : InC cl b
    · rw [bck_in hb]
      exact n
    · rw [bck_out hb]
      exact u.free b o e (off_none n) hx
  · have hb := C.no e fun _ z => nomatch z
    rw [bck_out hb]
    exact u.tups b xs ((off_out hb).trans e)
  · by_cases hb : InC cl b
    · rw [bck_in hb]
      exact e
    · rw [bck_out hb]
      exact u.frzs b o v ((off_out hb).trans e)
  · have hb := C.no e fun _ z => nomatch z
    rw [bck_out hb]
    exact u.tbls b ps ((off_out hb).trans e)
theorem ub_back (C : FrzC cl H) (nf : ∀ b ∈ fs, H b = none) (hok : HOk P w H h) (hok' : HOk P w H' B) (u : UB fs (off cl H) H' h B h') : UB fs H (bck cl H H') h B h' ∧ HOk P w (bck cl H H') B ∧ ∀ b, InC cl b → ∃ ob, B.get? b = some ob := by
  have hc : ∀ y c ob v, cl.lookup y = some c → H c = some (fz ob) → ob.data = .cell v → B.get? c = some ob ∧ H' c = none := fun y c ob v hy h1 _ =>
    have g := fz_get hok h1
    have n : off cl H c = none := off_in ⟨y, hy⟩
    ⟨u.keep c ob g n (fun z => by rw [nf c z] at h1; cases h1), u.free c ob g n⟩
  refine ⟨⟨fun b o e n hb => u.keep b o e (off_none n) hb, u.slot, fun b o e n => ?_, u.there, fun b xs e => ?_, fun b o v e => ?_, fun b ps e => ?_⟩, hok_back C hc hok', fun b ⟨y, hy⟩ => ?_⟩
  · by_cases hb : InC cl b
    · rw [bck_in hb]
      exact n
    · rw [bck_out hb]
      exact u.free b o e (off_none n)
  · have hb := C.no e fun _ z => nomatch z
    rw [bck_out hb]
    exact u.tups b xs ((off_out hb).trans e)
  · by_cases hb : InC cl b
    · rw [bck_in hb]
      exact e
    · rw [bck_out hb]
      exact u.frzs b o v ((off_out hb).trans e)
  · have hb := C.no e fun _ z => nomatch z
    rw [bck_out hb]
    exact u.tbls b ps ((off_out hb).trans e)
  · obtain ⟨ob, v, h1, h2⟩ := C y b hy
    exact ⟨ob, (hc y b ob v hy h1 h2).1⟩
theorem cr_back {K : PySem.W.Frag} {mg : Str → Option Value} {base : Heap} {A : Around} {outer : List Env} {s s' : Shared} {Q : VK} {E : XK} {r : Result} (C : FrzC cl H) (e0 : Env0 P w K mg base A outer s H)
    (c : CR (L2.CX P w) outer P w (off cl H) s (fun v H' => Q v (bck cl H H')) (fun cls d H' => E cls d (bck cl H H')) r s') : CR (L2.CX P w) outer P w H s Q E r s' := by
  match r, c with
  | .error e, c =>
    obtain ⟨a, B, H1, cls, d, rfl, fl, hok, ub, na, os, ag, hE⟩ := c
    obtain ⟨u2, k2, hB⟩ := ub_back C e0.frf e0.hok hok ub
    refine ⟨a, B, _, cls, d, rfl, fl, k2, u2, ?_, os, ag, hE⟩
    refine (bck_out fun z => ?_).trans na
    obtain ⟨ob, e⟩ := hB a z
    rw [fl.2.1] at e
    cases e
  | .ok (.ret v), c =>
    obtain ⟨x, H1, os, ag, un, hok, rv, q⟩ := c
    obtain ⟨u2, k2⟩ := un_back C e0.frf e0.hok hok un
    exact ⟨x, _, os, ag, u2, k2, rv, q⟩
  | .ok .next, c => exact c.elim
  | .ok .brk, c => exact c.elim
  | .ok .cont, c => exact c.elim
theorem same_back (C : FrzC cl H) (s : Same (off cl H) H') : Same H (bck cl H H') := fun b o e => by
  by_cases hb : InC cl b
  · rw [bck_in hb]
    exact e
  · rw [bck_out hb]
    exact s b o ((off_out hb).trans e)
end
/-! ### a lambda without parameters runs -/
section
variable {P : Program} {w : World} {K : PySem.W.Frag} {mg : Str → Option Value} {base : Heap} {k : Nat} {f c' : Addr} {q : Str} {params : Arguments} {body : Expr} {scope : Scope} {cl : List (Str × Addr)} {fr : List Str}
abbrev lamF (q : Str) (params : Arguments) (scope : Scope) (cl : List (Str × Addr)) (c' : Addr) : NF := ⟨"<lambda>", q, params, [], scope, cl, c'⟩
abbrev lamO (q : Str) (params : Arguments) (body : Expr) (scope : Scope) (cl : List (Str × Addr)) (pm : Value) (c' : Addr) (ctv : Value) : Obj := PySem.W.kla_obj "<lambda>" q params body scope cl pm c' ctv
theorem lam_run {t : TE} {A : Around} {outer : List Env} {s : Shared} {H : Hp} {Q : VK} {E : XK} {pm ctv : Value} {ws : List (Option V)} (S : NScope fr [] fr scope) (hbind : bindArgs (PySem.W.kla_fn "<lambda>" q params body scope cl pm (.ref c') ctv) ⟨[], []⟩ = pure [])
    (hbody : Room k (A.deeper (envF (lamF q params scope cl c') f s.heap.objs.size)) → PE (ncx (L2.CX P w) P w K mg base fr (lamF q params scope cl c') f A outer s H E) body t)
    (hr : Room (k + 1) A) (e0 : Env0 P w K mg base A outer s H) (hf : s.heap.get? f = some (lamO q params body scope cl pm c' ctv)) (hc : s.heap.CodeRec (.ref c') q) (C : CellsAt cl fr ws s.heap H) (h : t (startF fr [] ws) H Q) :
    codeAny (model P w) A (.call (.ref f) ⟨[], []⟩) (CR (L2.CX P w) outer P w H s Q E) s := by
  have lim : s.heap.NoLimit := e0.mod.nolimit.keeps fun b o e => (e0.bs b o e).1
  refine PySem.W.kla_callFunE hr.depth hf rfl S.co S.gen rfl hc ?_
  rw [hbind]
  refine wpAny_pure (wpAny_newFunctionEnv S.nocell (fun y hy => absurd hy (by simp)) (fun h₁ hns hsb => ⟨lim.fresh _ hsb, ?_⟩) S.kind)
  have old : ∀ b o, s.heap.get? b = some o → h₁.get? b = some o := fun b o e => hsb.extBut b o (Nat.ne_of_lt (Heap.lt_size e)) (Heap.get?_push_of_some _ e)
  have start := inv_startN (CX := L2.CX P w) (f := f) (E := E) (tk := s.toks + ([] : List (Str × Value)).length) (F := lamF q params scope cl c') S hr.hd e0 (vs := []) (us := []) rfl .nil C hns old
  refine PySem.W.kla_codeExpr (wpAny_mono ((hbody (hr.deeper _)).run [] _ _ H Q start h) (fun v s' z => ?_) fun _ _ z => z)
  obtain ⟨x, H', J, rv, z⟩ := z
  exact ⟨x, H', J.os, J.bare, J.base, J.hok, rv, z⟩
/-! ### a lambda that is kept: all that it leans on stands frozen -/
structure Kept (H : Hp) (f c' : Addr) (q : Str) (params : Arguments) (body : Expr) (scope : Scope) (cl : List (Str × Addr)) (fr : List Str) (ws : List V) : Prop where
  fn : ∃ pm ctv, H f = some (fz (lamO q params body scope cl pm c' ctv))
  co : H c' = some (CodeO c' q)
  inj : ∀ x y c, cl.lookup x = some c → cl.lookup y = some c → x = y
  cells : FrzC cl H
  has : ∀ (i : Nat) (y : Str), fr[i]? = some y → ∃ c ob u v, cl.lookup y = some c ∧ H c = some (fz ob) ∧ ob.data = .cell (some u) ∧ ws[i]? = some v ∧ L2.RelV v u
  len : ws.length = fr.length
theorem Kept.ext {H H' : Hp} {ws : List V} (h : Kept H f c' q params body scope cl fr ws) (e : ExtN H H') : Kept H' f c' q params body scope cl fr ws := by
  obtain ⟨pm, ctv, hf⟩ := h.fn
  refine ⟨⟨pm, ctv, e _ _ hf fun _ z => nomatch z⟩, e _ _ h.co codeO_ne, h.inj, h.cells.ext e, fun i y hy => ?_, h.len⟩
  obtain ⟨c, ob, u, v, h1, h2, h3⟩ := h.has i y hy
  exact ⟨c, ob, u, v, h1, e _ _ h2 (fun _ z => nomatch z), h3⟩
/-- f raises, called without anything, an exception of the class D -/
structure Door (P : Program) (w : World) (K : PySem.W.Frag) (mg : Str → Option Value) (base : Heap) (k : Nat) (D : Addr) (H : Hp) (f : Addr) : Prop where
  fn : ∃ od fd sl, H f = some (fz ⟨.type "function", od, .func fd, sl⟩)
  co : ∃ c' q, H c' = some (CodeO c' q)
  run : ∀ (A : Around) (outer : List Env) (s : Shared) (H2 : Hp) (E : XK), Room k A → Env0 P w K mg base A outer s H2 → ExtN H H2 → (∀ H', Same H2 H' → E (.ref D) none H') → codeAny (model P w) A (.call (.ref f) ⟨[], []⟩) (CR (L2.CX P w) outer P w H2 s (fun _ _ => False) E) s
theorem Door.ext {D : Addr} {H H' : Hp} (d : Door P w K mg base k D H f) (e : ExtN H H') : Door P w K mg base k D H' f := by
  obtain ⟨od, fd, sl, h1⟩ := d.fn
  obtain ⟨c', q, h2⟩ := d.co
  exact ⟨⟨od, fd, sl, e _ _ h1 fun _ z => nomatch z⟩, ⟨c', q, e _ _ h2 codeO_ne⟩, fun A outer s H2 E hr e0 e2 => d.run A outer s H2 E hr e0 (e.trans e2)⟩
/-- all is kept but tables and what stands frozen -/
def Thru (H H' : Hp) : Prop := ∀ b o, H b = some o → (∀ ps, o ≠ .tbl ps) → (∀ ob, o ≠ fz ob) → H' b = some o
theorem door_of {D : Addr} {H : Hp} {ws : List V} {t : XK → TE} (h : Kept H f c' q params body scope cl fr ws) (S : NScope fr [] fr scope)
    (hbind : ∀ pm ctv, bindArgs (PySem.W.kla_fn "<lambda>" q params body scope cl pm (.ref c') ctv) ⟨[], []⟩ = pure [])
    (hbody : ∀ (A : Around) (outer : List Env) (s : Shared) (H : Hp) (E : XK), Room k (A.deeper (envF (lamF q params scope cl c') f s.heap.objs.size)) → PE (ncx (L2.CX P w) P w K mg base fr (lamF q params scope cl c') f A outer s H E) body (t E))
    (hsay : ∀ (H2 : Hp) (E : XK), Thru H H2 → (∀ H', Same H2 H' → E (.ref D) none H') → t E (startF fr [] (ws.map some)) H2 (fun _ _ => False)) :
    Door P w K mg base (k + 1) D H f := by
  obtain ⟨pm, ctv, hf⟩ := h.fn
  refine ⟨⟨_, _, _, hf⟩, ⟨c', q, h.co⟩, fun A outer s H2 E hr e0 e2 hE => ?_⟩
  have h2 := h.ext e2
  have hf2 := e2 _ _ hf fun _ z => nomatch z
  refine codeAny_mono (lam_run (t := t (fun cls d H' => E cls d (bck cl H2 H'))) (E := fun cls d H' => E cls d (bck cl H2 H')) (Q := fun _ _ => False) (ws := ws.map some) S (hbind pm ctv) (fun hr' => hbody A outer s (off cl H2) _ hr') hr (env_off h2.cells e0) (fz_get e0.hok hf2) (codeO_at e0.hok h2.co) ⟨?_, fun y c hy => ⟨off_in ⟨y, hy⟩, ?_⟩, h2.inj, fun i y hy => ?_⟩ ?_) fun r s' z => cr_back h2.cells e0 z
  · rw [List.length_map]
    exact h2.len
  · obtain ⟨ob, v, h1, h3⟩ := h2.cells y c hy
    exact ⟨v, ob, fz_get e0.hok h1, h3⟩
  · obtain ⟨c, ob, u, v, g1, g2, g3, g4, g5⟩ := h2.has i y hy
    refine ⟨c, g1, fun v' hv' => ⟨u, ?_, ob, fz_get e0.hok g2, g3⟩⟩
    rw [List.getElem?_map, g4] at hv'
    cases hv'
    exact g5
  · refine hsay _ _ (fun b o e n1 n2 => ?_) fun H' s' => hE _ (same_back h2.cells s')
    have e' := e2 b o e n1
    rw [off_out (h2.cells.no e' n2)]
    exact e'
end
/-! ### the lambda is made -/
section
variable {X : Cx} {pins : List (Addr × Obj)} {σ : L2.St} {H : Hp} {s : Shared}
theorem lam_new {T : List (Addr × Str)} {c P : Addr} {params : Arguments} {body : Expr} {scope : Scope} {pos : Pos} {E : Value → Shared → Prop} {Q : Value → Shared → Prop} (I : Inv X pins σ H s) (TB : TabB X.base X.mg c P) (hcode : X.env.code = .ref c)
    (hm : (P, X.env.qual ++ "<lambda>") ∈ T) (hu : ∀ p ∈ T, p.1 = P → p.2 = X.env.qual ++ "<lambda>") (hT : Tabs T H) (hdef : defaultsOf params X.env = ([], [])) (hfree : ∀ y ∈ scope.names, y.2 = .free → ∃ c, X.env.cells.lookup y.1 = some c)
    (say : ∀ (f c' : Addr) (pm ctv : Value) (H1 : Hp) (s' : Shared), Inv X pins σ H1 s' → ExtN H H1 → Tabs T H1 → H f = none → H1 f = some (fz (lamO (X.env.qual ++ "<lambda>") params body scope (cloFrom X.env.cells scope.names []) pm c' ctv)) → H1 c' = some (CodeO c' (X.env.qual ++ "<lambda>")) → Q (.ref f) s') :
    wpAny (model X.prog X.w) X.A (eval (.Lambda params body scope pos) X.env) Q E s := by
  obtain ⟨ps, hP, ht, ha⟩ := hT _ hm
  have atP : s.heap.get? P = some { cls := .none, data := .fields ps } := I.hok P _ hP
  -- the function's object is laid in a heap that has the code object
  have lay : ∀ {H1 : Hp} {h' : Heap} {tk : Tok} {c' : Addr} {pm ctv : Value}, Inv X pins σ H1 { s with heap := h', toks := tk } → ExtN H H1 → Tabs T H1 → s.heap.objs.size ≤ h'.objs.size → H1 c' = some (CodeO c' (X.env.qual ++ "<lambda>")) →
      Q (.ref h'.objs.size) { s with heap := h'.push (lamO (X.env.qual ++ "<lambda>") params body scope (cloFrom X.env.cells scope.names []) pm c' ctv), toks := tk } := fun {H1 h' tk c' pm ctv} I1 eN T1 hsz hco => by
    have g : (h'.push (lamO (X.env.qual ++ "<lambda>") params body scope (cloFrom X.env.cells scope.names []) pm c' ctv)).get? h'.objs.size = some (lamO (X.env.qual ++ "<lambda>") params body scope (cloFrom X.env.cells scope.names []) pm c' ctv) := Heap.get?_push_size _ rfl
    have nF : H1 h'.objs.size = none := I1.hok.fresh (Nat.le_refl _)
    have up : ∀ b o, H1 b = some o → upd H1 h'.objs.size (fz (lamO (X.env.qual ++ "<lambda>") params body scope (cloFrom X.env.cells scope.names []) pm c' ctv)) b = some o := fun b o e => (upd_ne (ne_of_none e nF)).trans e
    exact say h'.objs.size c' pm ctv _ _ (I1.laid (o := fz (lamO (X.env.qual ++ "<lambda>") params body scope (cloFrom X.env.cells scope.names []) pm c' ctv)) (t' := tk) (fun b u e => Heap.get?_push_of_some _ e) (Nat.le_refl _) ⟨g, _, g⟩) (eN.trans (ExtN.of up)) (T1.ext up) (I.hok.fresh hsz) upd_same (up _ _ hco)
  refine PySem.W.kla_eval hdef ?_
  cases hc : codeAmong pos ps.toList with
  | some cv =>
    obtain ⟨c', rfl, hco⟩ := ha pos cv hc
    exact PySem.W.kla_makeFunctionHit (mg := X.mg) (c := c) (P := P) (ps := ps) (closure_ok hfree) I.ok.glob (I.mod.glob.keeps I.bk) hcode (TB.code.keeps I.bk) atP ht hc (TB.bm.keeps I.bk) fun ctv h' tk hx hsz => lay (I.kept hx) (ExtN.refl H) hT hsz hco
  | none =>
    refine PySem.W.kla_makeFunction (mg := X.mg) (c := c) (P := P) (ps := ps) (closure_ok hfree) I.ok.glob (I.mod.glob.keeps I.bk) hcode (TB.code.keeps I.bk) atP ht hc TB.gP (TB.bm.keeps I.bk) fun c' ctv h' tk hx hge hlt hrec htb => ?_
    obtain ⟨_, oc, vs, t, ec, g1, g2, g3⟩ := hrec
    cases ec
    have nC : H c' = none := I.hok.fresh hge
    have stay : ∀ b o, H b = some o → (∀ ps, o ≠ .tbl ps) → upd (upd H P (.tbl (ps ++ #[rawInt pos.line, rawInt pos.col, .ref c']))) c' (CodeO c' (X.env.qual ++ "<lambda>")) b = some o := fun b o e n => by
      rw [upd_ne (ne_of_none e nC), upd_ne fun z => by rw [z, hP] at e; exact n ps (Option.some.inj e).symm]
      exact e
    have el : (ps ++ #[rawInt pos.line, rawInt pos.col, .ref c']).toList = ps.toList ++ [rawInt pos.line, rawInt pos.col, .ref c'] := by simp
    refine lay (inv_table I hP hx htb hge ⟨oc, vs, t, g1, g2, g3⟩) stay (fun p hp => ?_) (Nat.le_trans hge (Nat.le_of_lt hlt)) upd_same
    by_cases hb : p.1 = P
    · rw [hu p hp hb, hb]
      refine ⟨_, (upd_ne (ne_of_none hP nC)).trans upd_same, el ▸ PySem.TriplesOk_snoc _ _ _ _ ht, fun p' cv h' => ?_⟩
      rcases among_app _ ht (el ▸ h') with z | z
      · obtain ⟨c0, e1, e2⟩ := ha p' cv z
        exact ⟨c0, e1, stay _ _ e2 codeO_ne⟩
      · exact ⟨c', z, upd_same⟩
    · obtain ⟨qs, a1, a2, a3⟩ := hT p hp
      refine ⟨qs, (upd_ne (ne_of_none a1 nC)).trans ((upd_ne hb).trans a1), a2, fun p' cv h' => ?_⟩
      obtain ⟨c0, e1, e2⟩ := a3 p' cv h'
      exact ⟨c0, e1, stay _ _ e2 codeO_ne⟩
def tLamF (T : List (Addr × Str)) (q : Str) (params : Arguments) (body : Expr) (scope : Scope) (cl : List (Str × Addr)) : TE := fun _ H Q => Tabs T H ∧ ∀ (f c' : Addr) (pm ctv : Value) (H1 : Hp), ExtN H H1 → Tabs T H1 → H f = none → H1 f = some (fz (lamO q params body scope cl pm c' ctv)) → H1 c' = some (CodeO c' q) → Q (.ref f) H1
theorem pe_lamF {T : List (Addr × Str)} {c P : Addr} {params : Arguments} {body : Expr} {scope : Scope} {pos : Pos} (TB : TabB X.base X.mg c P) (hcode : X.env.code = .ref c)
    (hm : (P, X.env.qual ++ "<lambda>") ∈ T) (hu : ∀ p ∈ T, p.1 = P → p.2 = X.env.qual ++ "<lambda>") (hdef : defaultsOf params X.env = ([], [])) (L : LamS X.env.scope scope) :
    PE X (.Lambda params body scope pos) (tLamF T (X.env.qual ++ "<lambda>") params body scope (cloFrom X.env.cells scope.names [])) :=
  ⟨fun _ _ _ H _ I ⟨hT, h⟩ => lam_new I TB hcode hm hu hT hdef (L.has I.ok) fun f c' pm ctv H1 _ I1 e1 t1 h0 h1 h2 => ⟨.ref f, H1, I1, rfl, h f c' pm ctv H1 e1 t1 h0 h1 h2⟩⟩
/-! ### x(), x a kept lambda that raises -/
theorem pe_door {i k : Nat} {a : Str} {D : Addr} {E : XK} {p1 p2 : Pos} (hr : Room k X.A) (hx : Passes (L2.CX X.prog X.w) X E) (hN : X.N[i]? = some a) (hv : Vis X.env.scope a) (hd : (a == ("__debug__" : Str)) = false := by decide) (hcd : (a == ("__classdict__" : Str)) = false := by decide) :
    PE X (.Call (.Name a p1) [] [] p2) (fun σ H _ => ∃ f, σ[i]? = some (some (.ref f)) ∧ Door X.prog X.w X.K X.mg X.base k D H f ∧ ∀ H', Same H H' → E (.ref D) none H') := by
  refine ⟨fun pins s σ H Q I h => ?_⟩
  obtain ⟨f, hs, d, hE⟩ := h
  refine wpAny_Call_Name_kw (thn ((pe_var (pos := p1) hN hv hd hcd).run pins s σ H (fun v H1 => v = .ref f ∧ H1 = H) I ⟨.ref f, hs, rfl, rfl⟩) fun u s1 z => ?_)
  obtain ⟨_, _, I1, r1, rfl, rfl⟩ := z
  cases (show u = Value.ref f from r1)
  obtain ⟨od, fd, sl, hf⟩ := d.fn
  refine PySem.W.callWith_F0 ⟨_, od, fd, sl, fz_get I1.hok hf⟩ (wpAny_call (codeAny_mono (d.run X.A X.stack s1 _ E hr I1.env0 (ExtN.refl _) hE) fun r s' z => ?_))
  match r, z with
  | .error e, z => exact hx pins σ _ s1 e s' I1 z
  | .ok (.ret v), z => exact (z.choose_spec.choose_spec.2.2.2.2.2).elim
  | .ok .next, z => exact z.elim
  | .ok .brk, z => exact z.elim
  | .ok .cont, z => exact z.elim
end
/-! ### a def that ends with a return, told with its slots -/
structure PSR (X : Cx) (st : List Stmt) (t : (V → L2.St → Hp → Prop) → L2.St → Hp → Prop) : Prop where
  run : ∀ (s : Shared) (σ : L2.St) (H : Hp) (R : V → L2.St → Hp → Prop), Inv X [] σ H s → t R σ H → wpAny (model X.prog X.w) X.A (execs st X.env) (fun fl s' => ∃ u v σ' H', fl = .ret u ∧ Inv X [] σ' H' s' ∧ L2.RelV v u ∧ R v σ' H') X.xe s
theorem psr_ret {X : Cx} {e : Expr} {te : TE} {pos : Pos} (h : PE X e te) : PSR X [.Return (some e) pos] (fun R σ H => te σ H (fun v H' => R v σ H')) :=
  ⟨fun s σ H _ I q => wpAny_execs_cons (wpAny_Return_some (thn (h.run [] s σ H _ I q) fun u _ ⟨v, H', J, rv, z⟩ => ⟨u, v, σ, H', rfl, J, rv, z⟩))⟩
theorem psr_cons {X : Cx} {st : Stmt} {rest : List Stmt} {t : TS} {u : (V → L2.St → Hp → Prop) → L2.St → Hp → Prop} (h1 : PS X st t) (h2 : PSR X rest u) : PSR X (st :: rest) (fun R σ H => t { nx := u R, rt := fun _ _ => False } σ H) := by
  refine ⟨fun s σ H R I q => wpAny_execs_cons (thn (h1.run [] s σ H _ I q) fun fl s1 z => ?_)⟩
  match fl, z with
  | .next, ⟨σ', H', I', z⟩ => exact h2.run s1 σ' H' R I' z
  | .ret _, ⟨_, _, _, _, _, z⟩ => exact z.elim
  | .brk, ⟨_, _, _, z⟩ => exact z.elim
  | .cont, ⟨_, _, _, z⟩ => exact z.elim
/-- H' is H with the frame's cells frozen, each with what the slots say -/
structure Froze (cells : List (Str × Addr)) (N : List Str) (sc : Scope) (σ : L2.St) (H H' : Hp) : Prop where
  out : ∀ b, ¬ InC cells b → H' b = H b
  no : ∀ b, InC cells b → H b = none
  inj : ∀ x y c, cells.lookup x = some c → cells.lookup y = some c → x = y
  at_ : ∀ y c, cells.lookup y = some c → ∃ ob u, H' c = some (fz ob) ∧ ob.data = .cell u ∧ ∀ (i : Nat) (v : V), N[i]? = some y → σ[i]? = some (some v) → sc.names.lookup y = some .cell → ∃ u', u = some u' ∧ L2.RelV v u'
theorem Froze.same {cells : List (Str × Addr)} {N : List Str} {sc : Scope} {σ : L2.St} {H H' : Hp} (z : Froze cells N sc σ H H') : Same H H' := fun b o e => by
  rw [z.out b fun h => by rw [z.no b h] at e; cases e]
  exact e
theorem fn_ofC {CX : CXT} {P : Program} {w : World} {K : PySem.W.Frag} {mg : Str → Option Value} {base : Heap} {k : Nat} {f : Addr} {name qual : Str} {params : Arguments} {body : List Stmt} {scope : Scope} {dV kV doc pm cdv ct oc : Value} {an od : Option Addr}
    {osl : Array (Option Value)} {N ps : List Str} {sp : Sp} (lk : K.lookup f = some ⟨oc, od, .func (PySem.W.fnOf name qual params body scope dV kV doc pm an cdv ct), osl⟩) (hcd : PySem.W.codeIn K cdv qual = true) (S : FnScope N ps scope)
    (len : ∀ vs H Q E, sp vs H Q E → vs.length = ps.length)
    (hbody : ∀ (A : Around) (outer : List Env) (s : Shared) (H : Hp) (vs : List V) (Q : VK) (E : XK), Room k (A.deeper (envOfC qual scope s.heap.objs.size f cdv)) → sp vs H Q E →
      ∃ t, PSR (cxOf CX P w K mg base N qual scope f cdv A outer s H E) body t ∧ t (fun v σ' H' => ∀ H2, Froze (cellsFrom (s.heap.objs.size + 1) scope.names []) N scope σ' H' H2 → Q v H2) (start N vs) H) :
    FnOk P w K mg base CX (k + 1) f (PySem.W.fnOf name qual params body scope dV kV doc pm an cdv ct) ps sp := by
  refine ⟨len, fun A outer s H args us vs Q E hr e0 bind rv prom => ?_⟩
  have here := e0.mod.kin.keeps fun b o e => (e0.bs b o e).1
  have kinds : ∀ y ∈ ps.zip us, scope.names.lookup y.1 = some .local ∨ (scope.names.lookup y.1 = some .cell ∧ ((cellsFrom (s.heap.objs.size + 1) scope.names []).lookup y.1).isSome = true) := fun (y1, y2) hy =>
    (S.par y1 (List.of_mem_zip hy).1).imp id fun g => ⟨g, PySem.W.cellsFrom_some _ _ _ (.inl g)⟩
  obtain ⟨t, pr, rd⟩ := hbody A outer s H vs Q E (hr.deeper _) prom
  refine codeAny_call_function hr.depth (here _ _ lk) rfl S.co S.gen rfl (PySem.W.codeRec_of here hcd) (bind _ _ _ _ (wpAny_newFunctionEnv_cells S.kind kinds fun _ e s1 x => ?_))
  cases e
  refine ⟨(e0.mod.nolimit.keeps fun b o e => (e0.bs b o e).1).keeps x.toInCall.keep, codeAny_func (wpAny_mono (pr.run s1 _ H _ (inv_start S hr.hd e0 (len _ _ _ _ prom) rv x) rd) (fun fl s' z => ?_) fun _ _ z => z)⟩
  obtain ⟨u, v, σ', H', rfl, J, rv', z⟩ := z
  have ce : ∀ y c, (cellsFrom (s.heap.objs.size + 1) scope.names []).lookup y = some c → ∃ ob u, s'.heap.get? c = some ob ∧ ob.data = .cell u ∧ H' c = none ∧ s.heap.objs.size ≤ c := fun y c hy => by
    obtain ⟨u, ob, h1, h2⟩ := J.cell y c hy
    exact ⟨ob, u, h1, h2, J.freeC y c hy, J.ok.cab y c rfl hy⟩
  -- the cells, frozen
  classical
  let H2 : Hp := fun b => if InC (cellsFrom (s.heap.objs.size + 1) scope.names []) b then (s'.heap.get? b).map fz else H' b
  have h2in : ∀ b, InC (cellsFrom (s.heap.objs.size + 1) scope.names []) b → H2 b = (s'.heap.get? b).map fz := fun b h => if_pos h
  have h2out : ∀ b, ¬ InC (cellsFrom (s.heap.objs.size + 1) scope.names []) b → H2 b = H' b := fun b h => if_neg h
  have keep : ∀ b o, H' b = some o → H2 b = some o := fun b o e => (h2out b fun ⟨y, hy⟩ => by
    obtain ⟨_, _, _, _, n, _⟩ := ce y b hy
    rw [n] at e
    cases e).trans e
  have old : ∀ b o, s.heap.get? b = some o → ¬ InC (cellsFrom (s.heap.objs.size + 1) scope.names []) b := fun b o e ⟨y, hy⟩ => by
    obtain ⟨_, _, _, _, _, hc⟩ := ce y b hy
    exact absurd (Nat.lt_of_lt_of_le (Heap.lt_size e) hc) (Nat.lt_irrefl _)
  have un : Un (frs outer) [] H H' s.heap s'.heap := J.base
  refine ⟨v, H2, J.os, J.bare, ⟨un.keep, un.slot, fun b o e n hx => (h2out b (old b o e)).trans (un.free b o e n hx), un.there, fun b xs e => keep _ _ (un.tups b xs e), fun b o y e => keep _ _ (un.frzs b o y e), fun b qs e => ?_⟩, fun b o e => ?_, rv', z H2 ⟨h2out, fun b ⟨y, hy⟩ => J.freeC y b hy, J.ok.inj, fun y c hy => ?_⟩⟩
  · obtain ⟨more, e'⟩ := un.tbls b qs e
    exact ⟨more, keep _ _ e'⟩
  · by_cases hb : InC (cellsFrom (s.heap.objs.size + 1) scope.names []) b
    · obtain ⟨y, hy⟩ := hb
      obtain ⟨ob, _, h1, _⟩ := ce y b hy
      rw [h2in b ⟨y, hy⟩, h1] at e
      cases e
      exact ⟨h1, ob, h1⟩
    · rw [h2out b hb] at e
      exact (J.hok b o e).stay (fun _ _ _ q => q) (fun c q => keep _ _ q) fun c xs q => keep _ _ q
  · obtain ⟨ob, u', h1, h2, _, _⟩ := ce y c hy
    refine ⟨ob, u', by rw [h2in c ⟨y, hy⟩, h1]; rfl, h2, fun i x hi hx hk => ?_⟩
    obtain ⟨m, _, hl⟩ := J.loc
    obtain ⟨u2, r2, l⟩ := hl i y x hi hx (.inr (.inl hk))
    rcases l with ⟨k, _⟩ | ⟨_, c2, e2, ob2, g1, g2⟩
    · have k : scope.names.lookup y = some .local := k
      rw [hk] at k
      cases k
    · have e2 : (cellsFrom (s.heap.objs.size + 1) scope.names []).lookup y = some c2 := e2
      rw [hy] at e2
      cases e2
      rw [h1] at g1
      cases g1
      rw [h2] at g2
      cases g2
      exact ⟨u2, rfl, r2⟩
/-- a lambda of a def that has come to its end is kept -/
theorem kept_of {cells : List (Str × Addr)} {N : List Str} {sc scope : Scope} {σ : L2.St} {H H' : Hp} {f c' : Addr} {q : Str} {params : Arguments} {body : Expr} {fr : List Str} {js : List Nat} {ws : List V} {pm ctv : Value} (z : Froze cells N sc σ H H')
    (hf : H f = some (fz (lamO q params body scope (cloFrom cells scope.names []) pm c' ctv))) (hc : H c' = some (CodeO c' q)) (hfree : ∀ y ∈ scope.names, y.2 = .free → ∃ c, cells.lookup y.1 = some c) (hfr : ∀ y ∈ fr, (y, NameKind.free) ∈ scope.names) (hk : ∀ y ∈ fr, sc.names.lookup y = some .cell)
    (hj : js.map (fun j => N[j]?) = fr.map some) (hw : js.map (fun j => σ[j]?) = ws.map (fun v => some (some v))) : Kept H' f c' q params body scope (cloFrom cells scope.names []) fr ws := by
  have sm := z.same
  have hl : js.length = fr.length := by
    have := congrArg List.length hj
    rwa [List.length_map, List.length_map] at this
  have hl2 : js.length = ws.length := by
    have := congrArg List.length hw
    rwa [List.length_map, List.length_map] at this
  refine ⟨⟨pm, ctv, sm _ _ hf⟩, sm _ _ hc, fun x y c e1 e2 => z.inj x y c (clo_cm hfree e1) (clo_cm hfree e2), fun y c e => ?_, fun i y hy => ?_, hl2.symm.trans hl⟩
  · obtain ⟨ob, u, h1, h2, _⟩ := z.at_ y c (clo_cm hfree e)
    exact ⟨ob, u, h1, h2⟩
  · have hm := List.mem_of_getElem? hy
    obtain ⟨c, e⟩ := hfree (y, .free) (hfr y hm) rfl
    obtain ⟨ob, u, h1, h2, h3⟩ := z.at_ y c e
    have hi : i < js.length := by
      rw [hl]
      exact (List.getElem?_eq_some_iff.mp hy).1
    have e1 := congrArg (fun l => l[i]?) hj
    have e2 := congrArg (fun l => l[i]?) hw
    simp only [List.getElem?_map, hy, List.getElem?_eq_getElem hi, List.getElem?_eq_getElem (hl2 ▸ hi), Option.map_some, Option.some.injEq] at e1 e2
    obtain ⟨u', rfl, r⟩ := h3 _ _ e1 e2 (hk y hm)
    exact ⟨c, ob, u', _, clo_has hfree (hfr y hm) e, h1, h2, List.getElem?_eq_getElem (hl2 ▸ hi), r⟩
end HopR

set_option Elab.async false
set_option linter.all false
set_option maxRecDepth 100000
/-! a list comprehension whose element may raise (a call that lets an exception out) -/
namespace HopR
open PySem PySem.Spec PyProof.Rows L2
/-! ### a heap without one object -/
theorem without (h : Heap) (C : Addr) : ∃ G : Heap, (∀ b, b ≠ C → G.get? b = h.get? b) ∧ G.get? C = none := by
  obtain ⟨G, h1, h2⟩ := restrict h (fun b => decide (b ≠ C))
  exact ⟨G, fun b e => h1 b (by simpa using e), h2 C (by simp)⟩
theorem funFrames_move {base base' h h' : Heap} : ∀ {l : List Env}, h.FunFrames base l → (∀ L ∈ frs l, base'.get? L = none ∧ h'.get? L = h.get? L) → h'.FunFrames base' l
  | [], x, _ => x
  | e :: l, x, k => by
    unfold Heap.FunFrames at x ⊢
    obtain ⟨h1, ⟨L, o, h2, h3, h4, h5⟩, h6⟩ := x
    have hm : L ∈ frs (e :: l) := by
      unfold frs
      rw [List.filterMap_cons, h2]
      exact .head _
    refine ⟨h1, ⟨L, o, h2, (k L hm).1, by rw [(k L hm).2]; exact h4, h5⟩, funFrames_move h6 fun L' m => k L' ?_⟩
    unfold frs at m ⊢
    rw [List.filterMap_cons, h2]
    exact .tail _ m
theorem traced_move {base base' h h' : Heap} {a : Addr} {Z : Obj → Prop} {fl : Value} {C : Addr} (t : HandSPX.TracedZ h base a Z fl) (hb : ∀ b, base.get? b = none → base'.get? b = none) (k : ∀ b, b ≠ C → h'.get? b = h.get? b) (hC : ∀ o vs, h.get? C = some o → o.data ≠ .fields vs) : HandSPX.TracedZ h' base' a Z fl := by
  obtain ⟨oe, vs, T, oT, ts, h1, h2, h3, h4, h5, h6, h7, h8, h9⟩ := t
  exact ⟨oe, vs, T, oT, ts, by rw [k a fun e => hC oe vs (e ▸ h1) h3]; exact h1, h2, h3, h4, hb T h5, h6, by rw [k T fun e => hC oT ts (e ▸ h7) h8]; exact h7, h8, h9⟩
theorem hok_move {P : Program} {w : World} {H : Hp} {h h' : Heap} {C : Addr} (x : HOk P w H h) (k : ∀ b, b ≠ C → h'.get? b = h.get? b) (hC : H C = none) : HOk P w H h' := fun a o e => by
  have hne : ∀ b, (b = a ∨ H b = some (.own a)) → b ≠ C := fun b z q => by
    subst q
    obtain z | z := z
    · subst z; rw [hC] at e; cases e
    · rw [hC] at z; cases z
  exact (x a o e).stay (fun b u z q => by rw [k b (hne b z)]; exact q) (fun _ z => z) (fun _ _ z => z)
/-- the air of a block: what a call in it let out -/
def Blown (Y : Cx) (E : XK) (e : Value) (s' : Shared) : Prop := ∃ (pins : List (Addr × Obj)) (σ : L2.St) (H : Hp) (s : Shared), L2.Inv Y pins σ H s ∧ CX Y.prog Y.w Y.stack H s E e s'
abbrev blkE (X : Cx) (s : Shared) (H : Hp) (scope : Scope) (cenv : Env) (fp : List Addr) (E : XK) : Cx := (X.blk s H scope cenv fp).wish (Blown (X.blk s H scope cenv fp) E)
theorem unwish {X : Cx} {Ex : Value → Shared → Prop} {pins : List (Addr × Obj)} {σ : L2.St} {H : Hp} {s : Shared} (I : L2.Inv (X.wish Ex) pins σ H s) : L2.Inv X pins σ H s := I.wish X.xe
theorem passes_blk {X : Cx} {s : Shared} {H : Hp} {scope : Scope} {cenv : Env} {fp : List Addr} {E : XK} : ∀ (pins : List (Addr × Obj)) (σ : L2.St) (H' : Hp) (s1 : Shared) (e : Value) (s' : Shared), L2.Inv (blkE X s H scope cenv fp E) pins σ H' s1 → CX X.prog X.w X.stack H' s1 E e s' → (blkE X s H scope cenv fp E).xe e s' :=
  fun pins σ H' s1 e s' I c => ⟨pins, σ, H', s1, unwish I, c⟩
section
variable {X : Cx} {pins : List (Addr × Obj)} {σ : L2.St} {H : Hp} {s : Shared} {E : XK} {W : WX} {cenv : Env} {scope : Scope} {fp : List Addr}
/-- an exception leaves the block -/
theorem blown_out (hs : X.stack = X.env :: X.outer) (hf : X.env.frame = some X.env.locals) (tk : Takes X W) (hW : ∀ cls d H', E cls d H' → W cls d σ H') (I : L2.Inv X pins σ H s)
    (hl : s.heap.objs.size = cenv.locals) (hfr : cenv.frame = X.env.frame) (hfp : ∀ b ∈ fp, FpOk X pins H b) {u : Value} {s4 : Shared} (x : Blown (X.blk s H scope cenv fp) E u s4) :
    notedBy (model X.prog X.w) X.A cenv (CompFails (model X.prog X.w) X.A X.xe cenv) u s4 := by
  obtain ⟨pins', σ', H1, s1, I1, a, B, H', cls, d, rfl, ⟨hst, hBa, hFF, hT⟩, hok, ub, na, hos, ag, hE⟩ := x
  have hC3 : s.heap.get? cenv.locals = none := by
    rw [← hl]
    exact Heap.get?_none_of_le (Nat.le_refl _)
  have hCf : cenv.locals ∉ frs X.stack := fun m => by
    rw [hs] at m
    unfold frs at m
    rw [List.filterMap_cons, hf] at m
    obtain m | m := List.mem_cons.mp m
    · exact absurd I.lt (by rw [← m, ← hl]; exact Nat.lt_irrefl _)
    · exact I.nofs (by rw [hl]; exact Nat.le_refl _) m
  obtain ⟨mC, nsC, _⟩ := I1.loc
  have nsC : s1.heap.Ns cenv.locals mC := nsC
  obtain ⟨oC, esC, epC, gC, dC, kC, fC⟩ := nsC
  have H1C : H1 cenv.locals = none := I1.free
  have gB : B.get? cenv.locals = some oC := ub.keep _ _ gC H1C hCf
  have g4 : s4.heap.get? cenv.locals = some oC := hst _ _ gB
  have H'C : H' cenv.locals = none := ub.free _ _ gC H1C
  obtain ⟨G1, k1, n1⟩ := without s1.heap cenv.locals
  obtain ⟨G4, k4, n4⟩ := without s4.heap cenv.locals
  obtain ⟨BC, kB, nB⟩ := without B cenv.locals
  have hdC : ∀ o vs, s4.heap.get? cenv.locals = some o → o.data ≠ .fields vs := fun o vs q z => by
    rw [g4] at q
    cases q
    rw [dC] at z
    cases z
  have subB : ∀ b, B.get? b = none → BC.get? b = none := fun b q => by
    by_cases e : b = cenv.locals
    · rw [e]; exact nB
    · rw [kB b e]; exact q
  have J1 : L2.Inv X pins σ H1 { s1 with heap := G1 } := by
    have b1 : Un (frs X.stack) fp H H1 s.heap s1.heap := I1.base
    have off : ∀ {b o}, s.heap.get? b = some o → b ≠ cenv.locals := fun q e => by rw [e, hC3] at q; cases q
    refine I.call' (s' := { s1 with heap := G1 }) I1.os ⟨fun b o q h1 h2 h3 => by rw [k1 b (off q)]; exact b1.keep b o q h1 h2 h3, fun b o q h1 h2 h3 => by rw [k1 b (off q)]; exact b1.slot b o q h1 h2 h3, b1.free, fun b o q h1 => by rw [k1 b (off q)]; exact b1.there b o q h1, b1.tups, b1.frzs, b1.tbls⟩ (hok_move I1.hok k1 H1C) I1.bare (fun b hb => ?_)
    obtain ⟨f1, f2, f3, f4, f5, f6⟩ := hfp b hb
    exact ⟨f4, f2, fun x c q => f5 x c q, f6⟩
  have hFr : ∀ L ∈ frs X.stack, L ≠ cenv.locals := fun L m e => hCf (e ▸ m)
  have c1 : CX X.prog X.w X.stack H1 { s1 with heap := G1 } E (.ref a) { s4 with heap := G4 } := by
    refine ⟨a, BC, H', cls, d, rfl, ⟨fun b o q => ?_, subB a hBa, funFrames_move hFF fun L m => ⟨subB L (hFF.mem m).1, k4 L (hFr L m)⟩, traced_move hT subB k4 hdC⟩, hok_move hok kB H'C, ⟨fun b o q h1 h2 => ?_, fun b o q h1 => ?_, fun b o q h1 => ?_, fun b o q h1 => ?_, ub.tups, ub.frzs, ub.tbls⟩, na, hos, ag, hE⟩
    · have e : b ≠ cenv.locals := fun e => by rw [e, nB] at q; cases q
      rw [k4 b e]
      rw [kB b e] at q
      exact hst b o q
    · have e : b ≠ cenv.locals := fun e => by rw [e] at q; exact absurd (q.symm.trans n1) (fun z => nomatch z)
      rw [kB b e]
      exact ub.keep b o (by rw [← k1 b e]; exact q) h1 h2
    · have e : b ≠ cenv.locals := fun e => by rw [e] at q; exact absurd (q.symm.trans n1) (fun z => nomatch z)
      show ∃ sl, G4.get? b = _
      rw [k4 b e]
      exact ub.slot b o (by rw [← k1 b e]; exact q) h1
    · have e : b ≠ cenv.locals := fun e => by rw [e] at q; exact absurd (q.symm.trans n1) (fun z => nomatch z)
      exact ub.free b o (by rw [← k1 b e]; exact q) h1
    · have e : b ≠ cenv.locals := fun e => by rw [e] at q; exact absurd (q.symm.trans n1) (fun z => nomatch z)
      rw [kB b e]
      exact ub.there b o (by rw [← k1 b e]; exact q) h1
  obtain ⟨a2, B2, sI, pins2, σ2, H2, cls2, d2, ea, I2, nb2, up2, sky2, na2, os2, ag2, w2⟩ := XE.of_call J1 hW c1
  cases ea
  have ag2 : AllBare s4.gens := ag2
  have os2 : s4.os = sI.os := os2
  have fly2 : HandSPX.FlyingZ B2 X.stack a (Zc cls2 d2) s4.heap ∧ B2.get? cenv.locals = none := by
    have nC : ∀ o vs, G4.get? cenv.locals = some o → o.data ≠ .fields vs := fun o vs q => by rw [n4] at q; cases q
    have b2 : ∀ {B3 : Heap}, B3.StaysIn G4 → B3.get? cenv.locals = none := fun {B3} q => by
      cases e : B3.get? cenv.locals with
      | none => rfl
      | some o => exact absurd ((q _ _ e).symm.trans n4) (fun z => nomatch z)
    have st : ∀ {B3 : Heap}, B3.StaysIn G4 → B3.StaysIn s4.heap := fun {B3} q b o e => by
      have e' : b ≠ cenv.locals := fun z => by rw [z, b2 q] at e; cases e
      rw [← k4 b e']
      exact q b o e
    have T4 := traced_move (base' := B) (h' := G4) hT (fun _ z => z) k4 hdC
    obtain ⟨oe, vs, T, oT, ts, h1, h2, h3, h4, h5, h6, h7, h8, h9⟩ := T4
    obtain ⟨x1, x2, x3, oe', vs', y1, y2, y3, y4⟩ | ⟨x1, x2, x3, x4⟩ | ⟨x1, x2, x3, oe', vs', T', oT', ts', y1, y2, y3, y4, y5, y6, y7, y8, y9⟩ := sky2
    · have y1 : G4.get? a = some oe' := y1
      rw [h1] at y1
      cases y1
      rw [h3] at y3
      cases y3
      rw [h4] at y4
      cases y4
    · exact ⟨⟨st x1, x2, funFrames_move x3 fun L m => ⟨(x3.mem m).1, (k4 L (hFr L m)).symm⟩, traced_move x4 (fun _ z => z) (fun b e => (k4 b e).symm) nC⟩, b2 x1⟩
    · have y1 : G4.get? a = some oe' := y1
      rw [h1] at y1
      cases y1
      rw [h3] at y3
      cases y3
      rw [h4] at y4
      cases y4
      have y7 : G4.get? T = some oT' := y7
      rw [h7] at y7
      cases y7
      rw [h8] at y8
      cases y8
      rw [h9] at y9
      cases y9
  obtain ⟨fl2, nB2⟩ := fly2
  have up4 : sI.heap.UpToSlots s4.heap := fun b o q nf => by
    obtain ⟨sl, z⟩ := up2 b o q nf
    have e : b ≠ cenv.locals := fun e => by
      have z : G4.get? b = _ := z
      rw [e, n4] at z
      cases z
    exact ⟨sl, by rw [← k4 b e]; exact z⟩
  have nI : sI.heap.get? cenv.locals = none := by
    cases e : sI.heap.get? cenv.locals with
    | none => rfl
    | some o => exact absurd ((nb2 _ _ e hCf).symm.trans nB2) (fun z => nomatch z)
  show wpAny (model X.prog X.w) X.A (noteFrame (.ref a) cenv) _ _ s4
  rw [noteFrame_env (.ref a) hfr]
  refine HandSPX.looks_onZ Zc.steady (I.ok.frames.trans (by rw [hs])) hf (by rw [← hs]; exact fl2) fun h5 hd5 up5 => ?_
  refine ⟨mC, Heap.Ns.upToSlots ⟨oC, esC, epC, g4, dC, kC, fC⟩ up5, fun h6 m6 ns6 sb6 => ?_⟩
  have hd6 : HandSPX.HeldZ B2 (X.env :: X.outer) a (Zc cls2 d2) X.env.locals h6 := by
    obtain ⟨x1, x2, x3, x4⟩ := hd5
    obtain ⟨sl, g5⟩ := up5 _ oC g4 (fun vs z => by rw [dC] at z; cases z)
    have off : ∀ L ∈ frs (X.env :: X.outer), L ≠ cenv.locals := fun L m => hFr L (by rw [hs]; exact m)
    exact ⟨fun b o q => by rw [sb6.2 b fun e => by rw [e, nB2] at q; cases q]; exact x1 b o q, x2, funFrames_move x3 fun L m => ⟨(x3.mem m).1, sb6.2 L (off L m)⟩,
      traced_move x4 (fun _ z => z) sb6.2 (fun o vs q z => by rw [g5] at q; cases q; rw [show (_ : Data) = _ from dC] at z; cases z)⟩
  have hfc : cenv.frame = some X.env.locals := hfr.trans hf
  obtain ⟨x1, x2, x3, oe, vs, T, oT, ts, y1, y2, y3, y4, y5, y6, y7, y8, y9⟩ := hd6
  have hd6 : HandSPX.HeldZ B2 (X.env :: X.outer) a (Zc cls2 d2) X.env.locals h6 := ⟨x1, x2, x3, oe, vs, T, oT, ts, y1, y2, y3, y4, y5, y6, y7, y8, y9⟩
  unfold PySem.passOn
  refine wpAny_bind (wpAny_field y1 y3 y4 ?_)
  rw [if_neg (show ¬(Value.ref T == Value.none) = true from fun z => by cases z), hfc]
  have hd6' : HandSPX.HeldZ B2 X.stack a (Zc cls2 d2) X.env.locals h6 := by rw [hs]; exact hd6
  show wpAny _ _ (setFlight (Value.ref a) (some X.env.locals) >>= fun _ => throw (Value.ref a)) _ _ _
  refine wpAny_bind ?_
  refine HandSPX.setFlight_onZ (s := { s4 with heap := h6 }) hd6' ?_
  intro h7 hd7 up7
  refine wpAny_throw (tk (.ref a) { s4 with heap := h7 } ⟨a, B2, sI, pins2, σ2, H2, cls2, d2, rfl, I2, nb2, fun b o q nf => ?_, .inr (.inr hd7), na2, os2, ag2, w2⟩)
  obtain ⟨sl, q4⟩ := up4 b o q nf
  obtain ⟨sl5, q5⟩ := up5 b _ q4 nf
  have e : b ≠ cenv.locals := fun e => by rw [e, nI] at q; cases q
  have q6 : h6.get? b = _ := (sb6.2 b e).trans q5
  obtain ⟨sl7, q7⟩ := up7 b _ q6 nf
  exact ⟨sl7, q7⟩
/-- behind a block, its names let go -/
theorem back_out (hs : X.stack = X.env :: X.outer) (I : L2.Inv X pins σ H s) (hl : s.heap.objs.size = cenv.locals) (hfp : ∀ b ∈ fp, FpOk X pins H b) {pins' : List (Addr × Obj)} {σ' : L2.St} {H1 : Hp} {s1 : Shared} {h' : Heap} (I1 : L2.Inv (X.blk s H scope cenv fp) pins' σ' H1 s1)
    (k1 : ∀ b, b ≠ cenv.locals → h'.get? b = s1.heap.get? b) : L2.Inv X pins σ H1 { s1 with heap := h' } := by
  have hC3 : s.heap.get? cenv.locals = none := by
    rw [← hl]
    exact Heap.get?_none_of_le (Nat.le_refl _)
  have H1C : H1 cenv.locals = none := I1.free
  have b1 : Un (frs X.stack) fp H H1 s.heap s1.heap := I1.base
  have off : ∀ {b o}, s.heap.get? b = some o → b ≠ cenv.locals := fun q e => by rw [e, hC3] at q; cases q
  refine I.call' (s' := { s1 with heap := h' }) I1.os ⟨fun b o q h1 h2 h3 => by rw [k1 b (off q)]; exact b1.keep b o q h1 h2 h3, fun b o q h1 h2 h3 => by rw [k1 b (off q)]; exact b1.slot b o q h1 h2 h3, b1.free, fun b o q h1 => by rw [k1 b (off q)]; exact b1.there b o q h1, b1.tups, b1.frzs, b1.tbls⟩ (hok_move I1.hok k1 H1C) I1.bare (fun b hb => ?_)
  obtain ⟨f1, f2, f3, f4, f5, f6⟩ := hfp b hb
  exact ⟨f4, f2, fun x c q => f5 x c q, f6⟩
theorem wiped (I : L2.Inv X pins σ H s) (vs : List Nat) : L2.Inv X pins (wipe σ vs) H s := by
  obtain ⟨m, ns, z⟩ := I.loc
  exact ⟨I.ok, I.os, I.bare, I.base, ⟨m, ns, fun i x v q1 q2 q3 => z i x v q1 (wipe_some q2).1 q3⟩, I.cell, I.free, I.freeC, I.pin, I.hok, by rw [wipe_length]; exact I.len⟩
end
/-! ### the rule -/
theorem pe_lcX {X : Cx} {E : XK} {W : WX} {elt tg iter : Expr} {ifs : List Expr} {scope : Scope} {own : List (Str × Nat)} {pos : Pos} {wi : TI} {g : TG} {tt : TT} {te : TE} (hc : X.calm = true) (hN : X.N.Nodup)
    (hs : X.stack = X.env :: X.outer) (hf : X.env.frame = some X.env.locals) (tk : Takes X W) (hW : ∀ cls d σ H', E cls d H' → W cls d σ H')
    (hi : PI X tg iter wi) (ok : BlkOk X.N X.env.scope scope own)
    (hg : ∀ (s : Shared) (H : Hp) (C : Addr) (cl : List (Str × Addr)) (fp : List Addr), PG (X.blk s H scope (compEnvC scope cl C X.env) fp) tg g)
    (ht : ∀ (s : Shared) (H : Hp) (C : Addr) (cl : List (Str × Addr)) (fp : List Addr), PTs (X.blk s H scope (compEnvC scope cl C X.env) fp) ifs tt)
    (he : ∀ (s : Shared) (H : Hp) (C : Addr) (cl : List (Str × Addr)) (fp : List Addr), PE (blkE X s H scope (compEnvC scope cl C X.env) fp E) elt te)
    (hfold : ∀ x, foldedSetIterable iter X.env x = pure x := by intro x; rfl) :
    PE X (.ListComp elt [⟨tg, iter, ifs, 0⟩] scope pos) (tLc wi g tt te (own.map (·.2))) := by
  refine ⟨fun pins s σ H Q I h => ?_⟩
  refine comprehension_at (g := ⟨tg, iter, ifs, 0⟩) (gs := []) (use := none) (newAcc := newList []) (first := eval iter X.env) (e := .ListComp elt [⟨tg, iter, ifs, 0⟩] scope pos) rfl hfold (closure_ok fun y hy hk => I.ok.has y.1 (ok.free y hy hk)) ok.kind (fun x hx hl => (ok.uniq x hx).trans (congrArg some hl)) ?_
  refine thn (hi.run pins s σ H _ I h) fun v s1 h1 => thn h1 fun itv s2 ⟨it, fp, tn, J, H2, eit, I2, T, t0, hfp, hR⟩ => ?_
  subst eit
  have hD : s2.heap.get? s2.heap.objs.size = none := Heap.get?_none_of_le (Nat.le_refl _)
  refine wpAny_newList ?_ (by decide)
  have kp : ∀ b u, s2.heap.get? b = some u → (s2.heap.push { cls := .type "list", data := .seq ([] : List Value).toArray }).get? b = some u := fun b u e => Heap.get?_push_of_some _ e
  have I3 : L2.Inv X pins σ (upd H2 s2.heap.objs.size (.lst [])) { s2 with heap := s2.heap.push { cls := .type "list", data := .seq ([] : List Value).toArray } } :=
    I2.laid (t' := s2.toks) kp (Nat.le_refl _) ⟨by decide, [], 0, .nil, Heap.get?_push_size _ rfl⟩
  have hfb : ∀ b ∈ fp, b < s2.heap.objs.size := fun b hb => by
    obtain ⟨o, q, _⟩ := T.obj 0 _ t0 b hb
    exact Heap.lt_size q
  have t3 := T.keep 0 _ (s2.heap.push { cls := .type "list", data := .seq ([] : List Value).toArray }) t0 fun b hb o e => kp b o e
  obtain ⟨Wv, ⟨m0, w0⟩, hturn⟩ := hR s2.heap.objs.size (I2.hok.fresh (Nat.le_refl _))
  have hfp3 : ∀ b ∈ fp, FpOk X pins (upd H2 s2.heap.objs.size (.lst [])) b := fun b hb => ⟨by rw [upd_ne (Nat.ne_of_lt (hfb b hb))]; exact (hfp b hb).1, (hfp b hb).2⟩
  have hD3 : upd H2 s2.heap.objs.size (.lst []) s2.heap.objs.size = some (.lst []) := upd_same
  have hsz : s2.heap.objs.size < (s2.heap.push { cls := .type "list", data := .seq ([] : List Value).toArray }).objs.size := Heap.lt_size (Heap.get?_push_size _ rfl)
  generalize hD0 : s2.heap.objs.size = D at *
  generalize hs3 : ({ s2 with heap := s2.heap.push { cls := .type "list", data := .seq ([] : List Value).toArray } } : Shared) = s3 at *
  have eh3 : s3.heap = s2.heap.push { cls := .type "list", data := .seq ([] : List Value).toArray } := by rw [← hs3]
  rw [← eh3] at t3 hsz
  generalize hH3 : upd H2 D (.lst []) = H3 at *
  have hf3 : ∀ b ∈ fp, FpOk X pins H3 b ∧ b < s3.heap.objs.size := fun b hb => ⟨hfp3 b hb, Nat.lt_trans (hfb b hb) hsz⟩
  refine newEnv_comp ?_
  have B0 := block_start (own := own) I3 ok hN hf3
  generalize hs4 : ({ heap := pushCells (s3.heap.push { cls := .type "dict", data := .dict #[] }) scope.names, gens := s3.gens, drawn := s3.drawn, toks := s3.toks, os := s3.os } : Shared) = s4 at *
  show codeAny (model X.prog X.w) X.A (.compStart (.ListComp elt [⟨tg, iter, ifs, 0⟩] scope pos) 0 (.ref it) (.ref D) (compEnvC scope (cellsFrom (s3.heap.objs.size + 1) scope.names (cloFrom X.env.cells scope.names [])) s3.heap.objs.size X.env))
    (compEnds (model X.prog X.w) X.A X.xe none (EP X pins σ Q) (.ref D) (compEnvC scope (cellsFrom (s3.heap.objs.size + 1) scope.names (cloFrom X.env.cells scope.names [])) s3.heap.objs.size X.env)) s4
  generalize hcl : cellsFrom (s3.heap.objs.size + 1) scope.names (cloFrom X.env.cells scope.names []) = cl at *
  have t4 : tn 0 s4.heap := T.keep 0 _ _ t3 fun b hb o e => by
    rw [← hs4]
    exact pushCells_keeps _ _ _ _ (Heap.get?_push_of_some _ e)
  have f4 : ∀ b ∈ fp, FpOk (X.blk s3 H3 scope (compEnvC scope cl s3.heap.objs.size X.env) fp) [] H3 b := fun b hb => ⟨(hf3 b hb).1.1, (B0.ok.exf b hb).1, B0.ok.exfs b hb, .inl hb, (B0.ok.exf b hb).2, fun p hp => nomatch hp⟩
  have loop : ∀ n s, (∃ i H', L2.Inv (X.blk s3 H3 scope (compEnvC scope cl s3.heap.objs.size X.env) fp) [] (wipe σ (own.map (·.2))) H' s ∧ tn i s.heap ∧ (∀ b ∈ fp, FpOk (X.blk s3 H3 scope (compEnvC scope cl s3.heap.objs.size X.env) fp) [] H' b) ∧ Wv i n H') →
      codeAny (model X.prog X.w) X.A (.compLoop (.ListComp elt [⟨tg, iter, ifs, 0⟩] scope pos) 0 (.ref it) (.ref D) (compEnvC scope cl s3.heap.objs.size X.env)) (compEnds (model X.prog X.w) X.A X.xe none (EP X pins σ Q) (.ref D) (compEnvC scope cl s3.heap.objs.size X.env)) s := by
    have hgY := hg s3 H3 s3.heap.objs.size cl fp
    have htY := ht s3 H3 s3.heap.objs.size cl fp
    have heY := he s3 H3 s3.heap.objs.size cl fp
    generalize hce : compEnvC scope cl s3.heap.objs.size X.env = ce at *
    have hl : s3.heap.objs.size = ce.locals := by rw [← hce]; rfl
    have hfr : ce.frame = X.env.frame := by rw [← hce]; rfl
    refine fun n s hh => compLoop_any (fun n s => ∃ i H', L2.Inv (X.blk s3 H3 scope ce fp) [] (wipe σ (own.map (·.2))) H' s ∧ tn i s.heap ∧ (∀ b ∈ fp, FpOk (X.blk s3 H3 scope ce fp) [] H' b) ∧ Wv i n H') ?_ n hh
    clear hh
    rintro n s ⟨i, H', Ib, tb, fb, wb⟩
    obtain ⟨hst, hq⟩ | ⟨hgo, Nx, hnx, hy⟩ := hturn i n H' wb
    · refine wpAny_mono (T.done (X.blk s3 H3 scope ce fp) rfl rfl rfl hc i [] s _ H' _ Ib fb tb hst) (fun r s1 ⟨hr, I1⟩ => ?_) fun _ _ x => x
      subst hr
      obtain ⟨mC, nsC, _⟩ := I1.loc
      exact ⟨mC, nsC, fun h' sb => ⟨.ref D, H', back_out hs I3 hl hfp3 I1 (fun b e => sb.2 b e), rfl, hq⟩⟩
    · refine wpAny_mono (T.item (X.blk s3 H3 scope ce fp) rfl rfl rfl hc i [] s _ H' _ Ib fb tb hgo) (fun r s1 ⟨u, hr, h2⟩ => ?_) fun _ _ x => x
      subst hr
      refine wpAny_mono h2 (fun _ s2 ⟨x, H2', I2', hx, hyl, tb2, nb2⟩ => ?_) fun _ _ x => x
      have fin : ∀ {σ' : L2.St} {H6 : Hp} {s6 : Shared}, L2.Inv (X.blk s3 H3 scope ce fp) ([] ++ pinsAt fp s2.heap) σ' H6 s6 → wipe σ' (own.map (·.2)) = wipe σ (own.map (·.2)) → Nx H6 →
          ∃ m, m < n ∧ ∃ i H', L2.Inv (X.blk s3 H3 scope ce fp) [] (wipe σ (own.map (·.2))) H' s6 ∧ tn i s6.heap ∧ (∀ b ∈ fp, FpOk (X.blk s3 H3 scope ce fp) [] H' b) ∧ Wv i m H' := fun {σ' H6 s6} I6 hw hx => by
        obtain ⟨m', hm, hw'⟩ := hnx _ hx
        have pk : ∀ b ∈ fp, ∀ o, s2.heap.get? b = some o → s6.heap.get? b = some o ∧ H6 b = none := fun b hb o e =>
          have z := I6.pin (b, o) (List.mem_append_right _ (List.mem_append_right _ (mem_pinsAt hb e)))
          ⟨z.1, z.2.1⟩
        refine ⟨m', hm, i + 1, H6, by rw [← hw]; exact wiped I6.unpinned _, T.keep _ _ _ tb2 (fun b hb o e => (pk b hb o e).1), fun b hb => ⟨?_, (fb b hb).2⟩, hw'⟩
        obtain ⟨o, e, _⟩ := T.obj _ _ tb2 b hb
        exact (pk b hb o e).2
      have I2p := I2'.pinned (fun b hb => ⟨nb2 b hb, (fb b hb).2⟩) (T.obj _ _ tb2)
      refine wpAny_mono (hgY.run _ s2 _ H2' x u _ I2p hx (hy x H2' hyl)) (fun _ s3' ⟨σ3, H3', I3', hw, ht'⟩ => ?_) (fun _ _ z => z.elim)
      refine wpAny_mono (htY.run _ s3' σ3 H3' _ I3' ht') (fun b s4' ⟨H4, I4, hb⟩ => ?_) (fun _ _ z => z.elim)
      cases b
      · exact fin I4 hw hb
      · refine wpAny_mono (heY.run _ s4' σ3 H4 _ (I4.wish _) hb) (fun y s5 ⟨v, H5, I5, hv, acc, hD5, hz, hN5⟩ => ?_) (fun e s' xx => blown_out hs hf tk (fun cls d H' q => hW cls d σ H' q) I3 hl hfr hfp3 xx)
        exact app_ok (X := X.blk s3 H3 scope ce fp) (unwish (X := X.blk s3 H3 scope ce fp) I5) hD5 hz hv fun s6 I6 => fin I6 hw hN5
  refine codeAny_compStart_list (loop m0 s4 ⟨0, H3, B0, t4, f4, w0⟩) (T.self X.A 0 s4 _ _ t4 (loop m0 s4 ⟨0, H3, B0, t4, f4, w0⟩))
end HopR

set_option Elab.async false
set_option linter.all false
set_option maxRecDepth 100000
/-! a call, or a comprehension, that is handed lambdas of the very frame: the frame's cells stand frozen for as long -/
namespace HopR
open PySem PySem.Spec PyProof.Rows L2 LamX NdefX
section
variable {cl : List (Str × Addr)} {N : List Str} {sc : Scope} {σ : L2.St} {H Hz H' : Hp}
theorem Froze.frzC (z : Froze cl N sc σ H Hz) : FrzC cl Hz := fun y c h => by
  obtain ⟨ob, u, h1, h2, _⟩ := z.at_ y c h
  exact ⟨ob, u, h1, h2⟩
theorem same_thaw (z : Froze cl N sc σ H Hz) (s : Same Hz H') : Same H (off cl H') := fun b o e => by
  have nb : ¬ InC cl b := fun h => by rw [z.no b h] at e; cases e
  rw [off_out nb]
  exact s b o (z.same b o e)
theorem thaw_none {p : Addr} (n : H' p = none) : off cl H' p = none := off_none n
theorem frzC_same (z : Froze cl N sc σ H Hz) (s : Same Hz H') : FrzC cl H' := fun y c h => by
  obtain ⟨ob, u, h1, h2⟩ := z.frzC y c h
  exact ⟨ob, u, s _ _ h1, h2⟩
theorem thaw_at {p : Addr} {o : HO} (C : FrzC cl H') (e : H' p = some o) (n : ∀ ob, o ≠ fz ob) : off cl H' p = some o := (off_out (C.no e n)).trans e
theorem hok_thaw {P : Program} {w : World} {h : Heap} (C : FrzC cl H') (k : HOk P w H' h) : HOk P w (off cl H') h := fun b o e => by
  by_cases hb : InC cl b
  · rw [off_in hb] at e
    cases e
  · rw [off_out hb] at e
    exact (k b o e).stay (fun _ _ _ q => q) (fun c q => thaw_at C q fun _ z => nomatch z) fun c xs q => thaw_at C q fun _ z => nomatch z
/-- what was reached with the cells frozen, told without them -/
theorem un_thaw {P : Program} {w : World} {fs ex : List Addr} {h h' : Heap} (z : Froze cl N sc σ H Hz) (hz : HOk P w Hz h) (hz' : HOk P w H' h') (u : Un fs ex Hz H' h h') : Un fs ex H (off cl H') h h' ∧ FrzC cl H' := by
  have C : FrzC cl H' := fun y c e => by
    obtain ⟨ob, v, h1, h2⟩ := z.frzC y c e
    exact ⟨ob, v, u.frzs _ _ _ h1, h2⟩
  have cellStays : ∀ b o, InC cl b → h.get? b = some o → h'.get? b = some o := fun b o ⟨y, hy⟩ e => by
    obtain ⟨ob, v, h1, h2⟩ := z.frzC y b hy
    rw [fz_get hz h1] at e
    cases e
    exact fz_get hz' (u.frzs _ _ _ h1)
  have at_out : ∀ b o, H b = some o → ¬ InC cl b ∧ Hz b = some o := fun b o e => by
    have nb : ¬ InC cl b := fun h => by rw [z.no b h] at e; cases e
    exact ⟨nb, (z.out b nb).trans e⟩
  refine ⟨⟨fun b o e n hb hx => ?_, fun b o e n hb hx => ?_, fun b o e n hx => ?_, u.there, fun b xs e => ?_, fun b o v e => ?_, fun b ps e => ?_⟩, C⟩
  · by_cases ic : InC cl b
    · exact cellStays b o ic e
    · exact u.keep b o e ((z.out b ic).trans n) hb hx
  · by_cases ic : InC cl b
    · exact ⟨o.slots, cellStays b o ic e⟩
    · exact u.slot b o e ((z.out b ic).trans n) hb hx
  · by_cases ic : InC cl b
    · exact off_in ic
    · exact off_none (u.free b o e ((z.out b ic).trans n) hx)
  · obtain ⟨nb, e2⟩ := at_out _ _ e
    exact (off_out nb).trans (u.tups b xs e2)
  · obtain ⟨nb, e2⟩ := at_out _ _ e
    exact (off_out nb).trans (u.frzs b o v e2)
  · obtain ⟨nb, e2⟩ := at_out _ _ e
    obtain ⟨more, e3⟩ := u.tbls b ps e2
    exact ⟨more, (off_out nb).trans e3⟩
end
section
variable {X : Cx} {pins : List (Addr × Obj)} {σ : L2.St} {H : Hp} {s : Shared}
/-- the frame's cells can be frozen -/
theorem freeze (I : L2.Inv X pins σ H s) : ∃ Hz, Froze X.env.cells X.N X.env.scope σ H Hz ∧ HOk X.prog X.w Hz s.heap := by
  classical
  have ce : ∀ y c, X.env.cells.lookup y = some c → ∃ ob u, s.heap.get? c = some ob ∧ ob.data = .cell u ∧ H c = none := fun y c hy => by
    obtain ⟨u, ob, h1, h2⟩ := I.cell y c hy
    exact ⟨ob, u, h1, h2, I.freeC y c hy⟩
  let Hz : Hp := fun b => if InC X.env.cells b then (s.heap.get? b).map fz else H b
  have hin : ∀ b, InC X.env.cells b → Hz b = (s.heap.get? b).map fz := fun b h => if_pos h
  have hout : ∀ b, ¬ InC X.env.cells b → Hz b = H b := fun b h => if_neg h
  have keep : ∀ b o, H b = some o → Hz b = some o := fun b o e => (hout b fun ⟨y, hy⟩ => by
    rw [I.freeC y b hy] at e
    cases e).trans e
  refine ⟨Hz, ⟨hout, fun b ⟨y, hy⟩ => I.freeC y b hy, I.ok.inj, fun y c hy => ?_⟩, fun b o e => ?_⟩
  · obtain ⟨ob, u', h1, h2, _⟩ := ce y c hy
    refine ⟨ob, u', by rw [hin c ⟨y, hy⟩, h1]; rfl, h2, fun i x hi hx hk => ?_⟩
    obtain ⟨m, _, hl⟩ := I.loc
    obtain ⟨u2, r2, l⟩ := hl i y x hi hx (.inr (.inl hk))
    rcases l with ⟨k, _⟩ | ⟨_, c2, e2, ob2, g1, g2⟩
    · have k : X.env.scope.names.lookup y = some .local := k
      rw [hk] at k
      cases k
    · rw [hy] at e2
      cases e2
      rw [h1] at g1
      cases g1
      rw [h2] at g2
      cases g2
      exact ⟨u2, rfl, r2⟩
  · by_cases hb : InC X.env.cells b
    · obtain ⟨y, hy⟩ := hb
      obtain ⟨ob, _, h1, _⟩ := ce y b hy
      rw [hin b ⟨y, hy⟩, h1] at e
      cases e
      exact ⟨h1, ob, h1⟩
    · rw [hout b hb] at e
      exact (I.hok b o e).stay (fun _ _ _ q => q) (fun c q => keep _ _ q) fun c xs q => keep _ _ q
theorem cell_young (I : L2.Inv X pins σ H s) (hfn : ∀ y, X.fn y = true) {b : Addr} (h : InC X.env.cells b) : X.s_0.heap.objs.size ≤ b ∧ b ∉ frs X.stack := by
  obtain ⟨y, hy⟩ := h
  have hc := I.ok.cab y b (hfn y) hy
  refine ⟨hc, fun m => ?_⟩
  have old : ∀ L ∈ frs X.outer, L ≠ b := fun L hL e => by
    obtain ⟨_, o, ho, _⟩ := I.ok.funs.mem hL
    exact absurd (Heap.lt_size ho) (by rw [e]; exact Nat.not_lt.mpr hc)
  rcases I.ok.stk with e | ⟨e, hf⟩
  · rw [e] at m
    exact old b m rfl
  · rw [e] at m
    unfold frs at m
    rw [List.filterMap_cons, hf] at m
    obtain m | m := List.mem_cons.mp m
    · obtain ⟨u, ob, h1, h2⟩ := I.cell y b hy
      obtain ⟨_, ⟨oL, _, _, gL, dL, _⟩, _⟩ := I.loc
      rw [m, gL] at h1
      cases h1
      rw [dL] at h2
      cases h2
    · exact old b m rfl
theorem env_froze (I : L2.Inv X pins σ H s) (hfn : ∀ y, X.fn y = true) {Hz : Hp} (z : Froze X.env.cells X.N X.env.scope σ H Hz) (hz : HOk X.prog X.w Hz s.heap) : Env0 X.prog X.w X.K X.mg X.base X.A X.stack s Hz := by
  have e0 := I.env0
  refine ⟨e0.frames, e0.mod, fun b o h => ⟨(e0.bs b o h).1, ?_⟩, e0.bsz, e0.funs, fun b hb => ?_, hz, e0.bare⟩
  · rw [z.out b fun ic => ?_]
    · exact (e0.bs b o h).2
    · have h1 := (cell_young I hfn ic).1
      exact absurd (Heap.lt_size h) (Nat.not_lt.mpr (Nat.le_trans I.ok.bsz h1))
  · rw [z.out b fun ic => (cell_young I hfn ic).2 hb]
    exact e0.frf b hb
end
/-! ### f(e, ..) with the own cells frozen -/
section
variable {X : Cx} {k : Nat} {f : Addr} {fd : FuncData} {ps : List Str} {sp : Sp} {dvs : List V} {ds : List Value} {x : Str} {p pos : Pos} {e : Expr} {es : List Expr} {t : TA}
def tCallF (cl : List (Str × Addr)) (N : List Str) (sc : Scope) (sp : Sp) (dvs : List V) (E : XK) (t : TA) : TE := fun σ H Q => t σ H fun vs H1 => ∀ Hz, Froze cl N sc σ H1 Hz → sp (vs ++ dvs) Hz (fun v H2 => Q v (off cl H2)) E
theorem pe_callF {E : XK} (F : FnOk X.prog X.w X.K X.mg X.base CX0 k f fd ps sp) (hr : Room k X.A) (hfn : ∀ y, X.fn y = true) (hg : Gl X x) (hm : X.mg x = some (.ref f)) (hk : PySem.W.keepIn X.K (.ref f) = true) (hb : Binds X.K fd ps ds) (hd : Vals dvs ds) (ha : PA X (e :: es) t)
    (hdb : (x == ("__debug__" : Str)) = false := by decide) (he : starEach (e :: es) X.env = (false, eval e X.env) :: starEach es X.env := by rfl) (hpl : (backTo pos (starEach es X.env)).any (·.1) = false := by rfl) :
    PE X (.Call (.Name x p) (e :: es) [] pos) (tCallF X.env.cells X.N X.env.scope sp dvs E t) := by
  refine ⟨fun pins s σ H Q I h => wpAny_Call_Name_kw (ld_glob I hg hm ?_ hdb)⟩
  refine PySem.W.callWith_K (h₀ := X.base) I.ok.mod.kin hk (thn (ha.run pos pins s σ H _ I h) ?_) he hpl
  rintro us s1 ⟨vs, H1, I1, r1, q1⟩
  refine ⟨I1.kIn, ?_⟩
  obtain ⟨Hz, z, hz⟩ := freeze I1
  have prom := q1 Hz z
  have r2 : Vals (vs ++ dvs) (us ++ ds) := r1.append hd
  have fits : (us ++ ds).length = ps.length := by
    rw [← r2.length]
    exact F.len _ _ _ _ prom
  refine wpAny_call (codeAny_mono (F.run X.A X.stack s1 Hz ⟨us, []⟩ _ _ _ E hr (env_froze I1 hfn z hz) (hb s1 us I1.kIn fits) r2 prom) ?_)
  intro res s' zz
  match res, zz with
  | .error er, zz => exact zz.elim
  | .ok (.ret u), zz =>
    obtain ⟨v, H2, os, ag, un, hok, rv, q⟩ := zz
    obtain ⟨un2, C2⟩ := un_thaw z hz hok un
    exact I1.after ⟨v, off X.env.cells H2, os, ag, un2, hok_thaw C2 hok, rv, q⟩
  | .ok .next, zz => exact zz.elim
  | .ok .brk, zz => exact zz.elim
  | .ok .cont, zz => exact zz.elim
end
end HopR

set_option Elab.async false
set_option linter.all false
set_option maxRecDepth 100000
/-! a list comprehension over lambdas of the very frame: the frame's cells stand frozen as long as it runs -/
namespace HopR
open PySem PySem.Spec PyProof.Rows L2 LamX NdefX
def tLcF (cl : List (Str × Addr)) (N : List Str) (sc : Scope) (wi : TI) (g : TG) (tt : TT) (te : TE) (vs : List Nat) : TE := fun σ H Q => wi σ H fun J H1 => ∀ Hz, Froze cl N sc σ H1 Hz → ∀ D, Hz D = none → ∃ W : Nat → Nat → Hp → Prop, (∃ m, W 0 m (upd Hz D (.lst []))) ∧
  ∀ i m H, W i m H → (J.stop i H ∧ Q (.ref D) (off cl H)) ∨ (J.go i H ∧ ∃ Nx : Hp → Prop, (∀ H', Nx H' → ∃ m', m' < m ∧ W (i + 1) m' H') ∧
    ∀ x H', J.yld i H x H' → g x (wipe σ vs) H' fun σ2 H2 => wipe σ2 vs = wipe σ vs ∧ tt σ2 H2 fun b H3 => if b = true then te σ2 H3 fun y H4 => ∃ acc, H4 D = some (.lst acc) ∧ acc.length < sizeLine ∧ Nx (upd H4 D (.lst (acc ++ [y]))) else Nx H3)
section
variable {X : Cx} {pins : List (Addr × Obj)} {σ : L2.St} {H Hz : Hp} {s : Shared} {scope : Scope} {ce : Env} {fp : List Addr}
theorem froze_laid {cl : List (Str × Addr)} {N : List Str} {sc : Scope} {D : Addr} {o : HO} (z : Froze cl N sc σ H Hz) (nD : ¬ InC cl D) : Froze cl N sc σ (upd H D o) (upd Hz D o) := by
  have ne : ∀ b, InC cl b → b ≠ D := fun b h e => nD (e ▸ h)
  refine ⟨fun b nb => ?_, fun b h => by rw [upd_ne (ne b h)]; exact z.no b h, z.inj, fun y c hy => ?_⟩
  · unfold upd
    split
    · rfl
    · exact z.out b nb
  · obtain ⟨ob, u, h1, h2⟩ := z.at_ y c hy
    exact ⟨ob, u, by rw [upd_ne (ne c ⟨y, hy⟩)]; exact h1, h2⟩
/-- the block's start, the cells of the frame around it frozen -/
theorem blk_froze (I : L2.Inv X pins σ H s) (hfn : ∀ y, X.fn y = true) (z : Froze X.env.cells X.N X.env.scope σ H Hz) {s4 : Shared} {σ' : L2.St} (B : L2.Inv (X.blk s H scope ce fp) [] σ' H s4) (hce : ce.cells = []) (hl : s.heap.objs.size ≤ ce.locals) (hk : HOk X.prog X.w Hz s4.heap) :
    L2.Inv (X.blk s Hz scope ce fp) [] σ' Hz s4 := by
  have had : ∀ b, InC X.env.cells b → ∃ ob, s.heap.get? b = some ob := fun b ⟨y, hy⟩ => by
    obtain ⟨u, ob, h1, _⟩ := I.cell y b hy
    exact ⟨ob, h1⟩
  have none_of : ∀ b, Hz b = none → H b = none := fun b n => by
    by_cases ic : InC X.env.cells b
    · exact z.no b ic
    · rw [← z.out b ic]
      exact n
  have u : Un (frs X.stack) fp H H s.heap s4.heap := B.base
  have k := B.ok
  have nl : ¬ InC X.env.cells ce.locals := fun ic => by
    obtain ⟨ob, e⟩ := had _ ic
    exact absurd (Heap.lt_size e) (Nat.not_lt.mpr hl)
  refine ⟨⟨k.mod, k.kind, k.glob, k.blt, k.above, k.inj, k.has, k.cab, k.hd, k.frames, k.stk, k.exf, fun b o h => ⟨(k.bs b o h).1, ?_⟩, k.bsz, k.noex, k.exfs, k.funs, fun b hb => ?_⟩, B.os, B.bare, ⟨fun b o e n hb hx => u.keep b o e (none_of b n) hb hx, fun b o e n hb hx => u.slot b o e (none_of b n) hb hx, fun b o e n hx => n, u.there, fun _ _ e => e, fun _ _ _ e => e, fun b ps e => ⟨#[], by rw [Array.append_empty]; exact e⟩⟩, B.loc, B.cell, ?_, fun y c hy => ?_, (fun p hp => nomatch hp), hk, B.len⟩
  · have h0 : H b = none := (k.bs b o h).2
    refine (z.out b fun ic => ?_).trans h0
    have h1 := (cell_young I hfn ic).1
    exact absurd (Heap.lt_size h) (Nat.not_lt.mpr (Nat.le_trans I.ok.bsz h1))
  · exact (z.out b fun ic => (cell_young I hfn ic).2 hb).trans (k.frf b hb)
  · exact (z.out _ nl).trans B.free
  · have hy : ce.cells.lookup y = some c := hy
    rw [hce] at hy
    cases hy
/-- behind a block that ran with the cells frozen -/
theorem back_thaw (hs : X.stack = X.env :: X.outer) (I : L2.Inv X pins σ H s) (z : Froze X.env.cells X.N X.env.scope σ H Hz) (hz : HOk X.prog X.w Hz s.heap) (hl : s.heap.objs.size = ce.locals) (hfp : ∀ b ∈ fp, FpOk X pins H b) {pins' : List (Addr × Obj)} {σ' : L2.St} {H1 : Hp} {s1 : Shared} {h' : Heap}
    (I1 : L2.Inv (X.blk s Hz scope ce fp) pins' σ' H1 s1) (k1 : ∀ b, b ≠ ce.locals → h'.get? b = s1.heap.get? b) : L2.Inv X pins σ (off X.env.cells H1) { s1 with heap := h' } := by
  have hC3 : s.heap.get? ce.locals = none := by
    rw [← hl]
    exact Heap.get?_none_of_le (Nat.le_refl _)
  have H1C : H1 ce.locals = none := I1.free
  have off3 : ∀ {b o}, s.heap.get? b = some o → b ≠ ce.locals := fun q e => by rw [e, hC3] at q; cases q
  have b1 : Un (frs X.stack) fp Hz H1 s.heap s1.heap := I1.base
  have b2 : Un (frs X.stack) fp Hz H1 s.heap h' := ⟨fun b o q h1 h2 h3 => by rw [k1 b (off3 q)]; exact b1.keep b o q h1 h2 h3, fun b o q h1 h2 h3 => by rw [k1 b (off3 q)]; exact b1.slot b o q h1 h2 h3, b1.free, fun b o q h1 => by rw [k1 b (off3 q)]; exact b1.there b o q h1, b1.tups, b1.frzs, b1.tbls⟩
  have k2 : HOk X.prog X.w H1 h' := hok_move I1.hok k1 H1C
  obtain ⟨u3, C3⟩ := un_thaw z hz k2 b2
  refine I.call' (s' := { s1 with heap := h' }) I1.os u3 (hok_thaw C3 k2) I1.bare (fun b hb => ?_)
  obtain ⟨f1, f2, f3, f4, f5, f6⟩ := hfp b hb
  exact ⟨f4, f2, fun x c q => f5 x c q, f6⟩
end
theorem pe_lcF {X : Cx} {elt tg iter : Expr} {ifs : List Expr} {scope : Scope} {own : List (Str × Nat)} {pos : Pos} {wi : TI} {g : TG} {tt : TT} {te : TE} (hc : X.calm = true) (hN : X.N.Nodup) (hfn : ∀ y, X.fn y = true)
    (hs : X.stack = X.env :: X.outer) (hi : PI X tg iter wi) (ok : BlkOk X.N X.env.scope scope own) (hcl : ∀ n l, cellsFrom n scope.names (cloFrom l scope.names []) = [])
    (hg : ∀ (s : Shared) (H : Hp) (C : Addr) (cl : List (Str × Addr)) (fp : List Addr), PG (X.blk s H scope (compEnvC scope cl C X.env) fp) tg g)
    (ht : ∀ (s : Shared) (H : Hp) (C : Addr) (cl : List (Str × Addr)) (fp : List Addr), PTs (X.blk s H scope (compEnvC scope cl C X.env) fp) ifs tt)
    (he : ∀ (s : Shared) (H : Hp) (C : Addr) (cl : List (Str × Addr)) (fp : List Addr), PE (X.blk s H scope (compEnvC scope cl C X.env) fp) elt te)
    (hfold : ∀ x, foldedSetIterable iter X.env x = pure x := by intro x; rfl) :
    PE X (.ListComp elt [⟨tg, iter, ifs, 0⟩] scope pos) (tLcF X.env.cells X.N X.env.scope wi g tt te (own.map (·.2))) := by
  refine ⟨fun pins s σ H Q I h => ?_⟩
  refine comprehension_at (g := ⟨tg, iter, ifs, 0⟩) (gs := []) (use := none) (newAcc := newList []) (first := eval iter X.env) (e := .ListComp elt [⟨tg, iter, ifs, 0⟩] scope pos) rfl hfold (closure_ok fun y hy hk => I.ok.has y.1 (ok.free y hy hk)) ok.kind (fun x hx hl => (ok.uniq x hx).trans (congrArg some hl)) ?_
  refine thn (hi.run pins s σ H _ I h) fun v s1 h1 => thn h1 fun itv s2 ⟨it, fp, tn, J, H2, eit, I2, T, t0, hfp, hR⟩ => ?_
  subst eit
  obtain ⟨Hz, z2, hz2⟩ := freeze I2
  have kp : ∀ b u, s2.heap.get? b = some u → (s2.heap.push { cls := .type "list", data := .seq ([] : List Value).toArray }).get? b = some u := fun b u e => Heap.get?_push_of_some _ e
  refine wpAny_newList ?_ (by decide)
  have newL : ∀ Hq : Hp, ObjOk X.prog X.w (upd Hq s2.heap.objs.size (.lst [])) (s2.heap.push { cls := .type "list", data := .seq ([] : List Value).toArray }) s2.heap.objs.size (.lst []) := fun _ => ⟨by decide, [], 0, .nil, Heap.get?_push_size _ rfl⟩
  have I3 : L2.Inv X pins σ (upd H2 s2.heap.objs.size (.lst [])) { s2 with heap := s2.heap.push { cls := .type "list", data := .seq ([] : List Value).toArray } } := I2.laid (t' := s2.toks) kp (Nat.le_refl _) (newL H2)
  have hz3 : HOk X.prog X.w (upd Hz s2.heap.objs.size (.lst [])) (s2.heap.push { cls := .type "list", data := .seq ([] : List Value).toArray }) := hz2.laid kp (Nat.le_refl _) (newL Hz)
  have nD : ¬ InC X.env.cells s2.heap.objs.size := fun ⟨y, hy⟩ => by
    obtain ⟨u, ob, h1, _⟩ := I2.cell y _ hy
    exact absurd (Heap.lt_size h1) (Nat.lt_irrefl _)
  have z3 := froze_laid (o := .lst []) z2 nD
  have hfb : ∀ b ∈ fp, b < s2.heap.objs.size := fun b hb => by
    obtain ⟨o, q, _⟩ := T.obj 0 _ t0 b hb
    exact Heap.lt_size q
  have t3 := T.keep 0 _ (s2.heap.push { cls := .type "list", data := .seq ([] : List Value).toArray }) t0 fun b hb o e => kp b o e
  obtain ⟨Wv, ⟨m0, w0⟩, hturn⟩ := hR Hz z2 s2.heap.objs.size (hz2.fresh (Nat.le_refl _))
  have hfp3 : ∀ b ∈ fp, FpOk X pins (upd H2 s2.heap.objs.size (.lst [])) b := fun b hb => ⟨by rw [upd_ne (Nat.ne_of_lt (hfb b hb))]; exact (hfp b hb).1, (hfp b hb).2⟩
  have hsz : s2.heap.objs.size < (s2.heap.push { cls := .type "list", data := .seq ([] : List Value).toArray }).objs.size := Heap.lt_size (Heap.get?_push_size _ rfl)
  generalize hD0 : s2.heap.objs.size = D at *
  generalize hs3 : ({ s2 with heap := s2.heap.push { cls := .type "list", data := .seq ([] : List Value).toArray } } : Shared) = s3 at *
  have eh3 : s3.heap = s2.heap.push { cls := .type "list", data := .seq ([] : List Value).toArray } := by rw [← hs3]
  rw [← eh3] at t3 hsz hz3
  generalize hH3 : upd H2 D (.lst []) = H3 at *
  generalize hHz3 : upd Hz D (.lst []) = Hz3 at *
  have hf3 : ∀ b ∈ fp, FpOk X pins H3 b ∧ b < s3.heap.objs.size := fun b hb => ⟨hfp3 b hb, Nat.lt_trans (hfb b hb) hsz⟩
  refine newEnv_comp ?_
  have B0 := block_start (own := own) I3 ok hN hf3
  generalize hs4 : ({ heap := pushCells (s3.heap.push { cls := .type "dict", data := .dict #[] }) scope.names, gens := s3.gens, drawn := s3.drawn, toks := s3.toks, os := s3.os } : Shared) = s4 at *
  have k34 : ∀ b u, s3.heap.get? b = some u → s4.heap.get? b = some u := fun b u e => by
    rw [← hs4]
    exact pushCells_keeps _ _ _ _ (Heap.get?_push_of_some _ e)
  rw [hcl] at B0 ⊢
  show codeAny (model X.prog X.w) X.A (.compStart (.ListComp elt [⟨tg, iter, ifs, 0⟩] scope pos) 0 (.ref it) (.ref D) (compEnvC scope [] s3.heap.objs.size X.env)) (compEnds (model X.prog X.w) X.A X.xe none (EP X pins σ Q) (.ref D) (compEnvC scope [] s3.heap.objs.size X.env)) s4
  have t4 : tn 0 s4.heap := T.keep 0 _ _ t3 fun b hb o e => k34 b o e
  have hgY := hg s3 Hz3 s3.heap.objs.size [] fp
  have htY := ht s3 Hz3 s3.heap.objs.size [] fp
  have heY := he s3 Hz3 s3.heap.objs.size [] fp
  have hce0 : (compEnvC scope [] s3.heap.objs.size X.env).cells = [] := rfl
  have hl : s3.heap.objs.size = (compEnvC scope [] s3.heap.objs.size X.env).locals := rfl
  generalize hce : compEnvC scope [] s3.heap.objs.size X.env = ce at *
  have Bz := blk_froze I3 hfn z3 B0 hce0 (Nat.le_of_eq hl) (hz3.kept k34)
  have f4 : ∀ b ∈ fp, FpOk (X.blk s3 Hz3 scope ce fp) [] Hz3 b := fun b hb => ⟨(z3.out b fun ⟨y, hy⟩ => (hfp3 b hb).2.2.2.2.1 y b hy rfl).trans (hfp3 b hb).1, (Bz.ok.exf b hb).1, Bz.ok.exfs b hb, .inl hb, (Bz.ok.exf b hb).2, fun p hp => nomatch hp⟩
  have loop : ∀ n s, (∃ i H', L2.Inv (X.blk s3 Hz3 scope ce fp) [] (wipe σ (own.map (·.2))) H' s ∧ tn i s.heap ∧ (∀ b ∈ fp, FpOk (X.blk s3 Hz3 scope ce fp) [] H' b) ∧ Wv i n H') →
      codeAny (model X.prog X.w) X.A (.compLoop (.ListComp elt [⟨tg, iter, ifs, 0⟩] scope pos) 0 (.ref it) (.ref D) ce) (compEnds (model X.prog X.w) X.A X.xe none (EP X pins σ Q) (.ref D) ce) s := by
    refine fun n s hh => compLoop_any (fun n s => ∃ i H', L2.Inv (X.blk s3 Hz3 scope ce fp) [] (wipe σ (own.map (·.2))) H' s ∧ tn i s.heap ∧ (∀ b ∈ fp, FpOk (X.blk s3 Hz3 scope ce fp) [] H' b) ∧ Wv i n H') ?_ n hh
    clear hh
    rintro n s ⟨i, H', Ib, tb, fb, wb⟩
    obtain ⟨hst, hq⟩ | ⟨hgo, Nx, hnx, hy⟩ := hturn i n H' wb
    · refine wpAny_mono (T.done (X.blk s3 Hz3 scope ce fp) rfl rfl rfl hc i [] s _ H' _ Ib fb tb hst) (fun r s1 ⟨hr, I1⟩ => ?_) fun _ _ x => x
      subst hr
      obtain ⟨mC, nsC, _⟩ := I1.loc
      exact ⟨mC, nsC, fun h' sb => ⟨.ref D, off X.env.cells H', back_thaw hs I3 z3 hz3 hl hfp3 I1 (fun b e => sb.2 b e), rfl, hq⟩⟩
    · refine wpAny_mono (T.item (X.blk s3 Hz3 scope ce fp) rfl rfl rfl hc i [] s _ H' _ Ib fb tb hgo) (fun r s1 ⟨u, hr, h2⟩ => ?_) fun _ _ x => x
      subst hr
      refine wpAny_mono h2 (fun _ s2 ⟨x, H2', I2', hx, hyl, tb2, nb2⟩ => ?_) fun _ _ x => x
      have fin : ∀ {σ' : L2.St} {H6 : Hp} {s6 : Shared}, L2.Inv (X.blk s3 Hz3 scope ce fp) ([] ++ pinsAt fp s2.heap) σ' H6 s6 → wipe σ' (own.map (·.2)) = wipe σ (own.map (·.2)) → Nx H6 →
          ∃ m, m < n ∧ ∃ i H', L2.Inv (X.blk s3 Hz3 scope ce fp) [] (wipe σ (own.map (·.2))) H' s6 ∧ tn i s6.heap ∧ (∀ b ∈ fp, FpOk (X.blk s3 Hz3 scope ce fp) [] H' b) ∧ Wv i m H' := fun {σ' H6 s6} I6 hw hx => by
        obtain ⟨m', hm, hw'⟩ := hnx _ hx
        have pk : ∀ b ∈ fp, ∀ o, s2.heap.get? b = some o → s6.heap.get? b = some o ∧ H6 b = none := fun b hb o e =>
          have z := I6.pin (b, o) (List.mem_append_right _ (List.mem_append_right _ (mem_pinsAt hb e)))
          ⟨z.1, z.2.1⟩
        refine ⟨m', hm, i + 1, H6, by rw [← hw]; exact wiped I6.unpinned _, T.keep _ _ _ tb2 (fun b hb o e => (pk b hb o e).1), fun b hb => ⟨?_, (fb b hb).2⟩, hw'⟩
        obtain ⟨o, e, _⟩ := T.obj _ _ tb2 b hb
        exact (pk b hb o e).2
      have I2p := I2'.pinned (fun b hb => ⟨nb2 b hb, (fb b hb).2⟩) (T.obj _ _ tb2)
      refine wpAny_mono (hgY.run _ s2 _ H2' x u _ I2p hx (hy x H2' hyl)) (fun _ s3' ⟨σ3, H3', I3', hw, ht'⟩ => ?_) (fun _ _ z => z.elim)
      refine wpAny_mono (htY.run _ s3' σ3 H3' _ I3' ht') (fun b s4' ⟨H4, I4, hb⟩ => ?_) (fun _ _ z => z.elim)
      cases b
      · exact fin I4 hw hb
      · refine wpAny_mono (heY.run _ s4' σ3 H4 _ I4 hb) (fun y s5 ⟨v, H5, I5, hv, acc, hD5, hz, hN5⟩ => ?_) (fun _ _ z => z.elim)
        exact app_ok (X := X.blk s3 Hz3 scope ce fp) I5 hD5 hz hv fun s6 I6 => fin I6 hw hN5
  exact codeAny_compStart_list (loop m0 s4 ⟨0, Hz3, Bz, t4, f4, w0⟩) (T.self X.A 0 s4 _ _ t4 (loop m0 s4 ⟨0, Hz3, Bz, t4, f4, w0⟩))
end HopR

set_option Elab.async false
set_option linter.all false
set_option maxRecDepth 100000
set_option exponentiation.threshold 200000
namespace Hop
section
open PySem L2 HopR
abbrev sClass : Stmt := top 62
end
end Hop
namespace Hop
section
open PySem L2 HopR
variable {P : Program} {w : World} {K : PySem.W.Frag} {mg : Str → Option Value} {base : Heap} {d : Addr} {es : Array DictEntry} {n : Nat} {d' : Addr} {es' : Array DictEntry} {n' : Nat}
end
end Hop
namespace Hop
section
open PySem PySem.Spec PyProof.Rows L2 HopR LamX
abbrev nCl : List Str := ["_law_call", "_law_error", "e", "_law_found"]
theorem scClass : FnScope nCl ["_law_call"] (defScope sClass) := ⟨rfl, rfl, rfl, by decide +kernel, rfl, by decide +kernel, by decide +kernel⟩
end
end Hop
namespace Hop
section
open PySem PySem.Spec PyProof.Rows L2 HopR LamX
variable {X : Cx} {HE c0 c1 c2 c3 c4 c5 c6 c7 c8 c9 c10 D : Addr} {m : Nat}
set_option maxHeartbeats 4000000 in
theorem class_gives {g : Addr} {cdg : Value} {q : Str} (Z : Kinds X.K X.mg HE c0 c1 c2 c3 c4 c5 c6 c7 c8 c9 c10) (R : Raised X.K D HE c0 c1 c2 c3 c4 c5 c6 c7 c8 c9 c10 m) (isi : X.mg "isinstance" = none) :
    GivesTo X nCl "_law_class_of" (defScope sClass) g cdg (defBody sClass) "_law_call" q (TCls D m) := by
  intro f c' s H Q tl act hc h
  have nd := scClass.nd
  refine ⟨_, pss_cons (ps_set (X := (cxOf C8.CX0 X.prog X.w X.K X.mg X.base nCl "_law_class_of" (defScope sClass) g cdg X.A X.stack s H C8.E0).nox) (i := 1) nd rfl (.inl rfl) pe_non)
    (pss_cons (ps_try_held (i := 2) (j := 1) (tb := fun W D σ H => ∃ Ech : XK, (∀ cls d σ' H', Ech cls d H' → σ'.length = 4 → W cls d σ' H') ∧ σ[0]? = some (some (.ref f)) ∧ H c' = some (CodeO c' q) ∧ tl Ech H (fun _ H' => D.nx σ H')) rfl rfl nd rfl rfl rfl rfl rfl (tests_one ⟨by rfl, by decide, .inl Z.gH⟩)
        (fun W pn xe tk _ => ?_) (fun a oe pn => pss_one (ps_set (i := 1) nd rfl (.inl rfl) (pv 2))))
    (pss_cons (ps_if (pt_cmpR op_isN (pv 1) pe_non (nomark _)) (pss_one (ps_ret pe_str)) pss_nil)
    (pss_cons (ps_set (i := 3) nd rfl (.inl rfl) (pe_lst (pa_cons (pe_callB call_isH (by rfl) isi (by decide +kernel) (pa_cons (pv 1) (pa_cons (pe_glob (v := .ref c0) (by rfl) Z.g0 rfl) pa_nil)))
      (pa_cons (pe_callB call_isH (by rfl) isi (by decide +kernel) (pa_cons (pv 1) (pa_cons (pe_glob (v := .ref c1) (by rfl) Z.g1 rfl) pa_nil)))
      (pa_cons (pe_callB call_isH (by rfl) isi (by decide +kernel) (pa_cons (pv 1) (pa_cons (pe_glob (v := .ref c2) (by rfl) Z.g2 rfl) pa_nil))) pa_nil)))))
    (pss_cons (ps_set (i := 3) nd rfl (.inl rfl) (pe_op op_cat (pv 3) (pe_lst (pa_cons (pe_callB call_isH (by rfl) isi (by decide +kernel) (pa_cons (pv 1) (pa_cons (pe_glob (v := .ref c3) (by rfl) Z.g3 rfl) pa_nil)))
      (pa_cons (pe_callB call_isH (by rfl) isi (by decide +kernel) (pa_cons (pv 1) (pa_cons (pe_glob (v := .ref c4) (by rfl) Z.g4 rfl) pa_nil)))
      (pa_cons (pe_callB call_isH (by rfl) isi (by decide +kernel) (pa_cons (pv 1) (pa_cons (pe_glob (v := .ref c5) (by rfl) Z.g5 rfl) pa_nil))) pa_nil))))))
    (pss_cons (ps_set (i := 3) nd rfl (.inl rfl) (pe_op op_cat (pv 3) (pe_lst (pa_cons (pe_callB call_isH (by rfl) isi (by decide +kernel) (pa_cons (pv 1) (pa_cons (pe_glob (v := .ref c6) (by rfl) Z.g6 rfl) pa_nil)))
      (pa_cons (pe_callB call_isH (by rfl) isi (by decide +kernel) (pa_cons (pv 1) (pa_cons (pe_glob (v := .ref c7) (by rfl) Z.g7 rfl) pa_nil)))
      (pa_cons (pe_callB call_isH (by rfl) isi (by decide +kernel) (pa_cons (pv 1) (pa_cons (pe_glob (v := .ref c8) (by rfl) Z.g8 rfl) pa_nil))) pa_nil))))))
    (pss_cons (ps_set (i := 3) nd rfl (.inl rfl) (pe_op op_cat (pv 3) (pe_lst (pa_cons (pe_callB call_isH (by rfl) isi (by decide +kernel) (pa_cons (pv 1) (pa_cons (pe_glob (v := .ref c9) (by rfl) Z.g9 rfl) pa_nil)))
      (pa_cons (pe_callB call_isH (by rfl) isi (by decide +kernel) (pa_cons (pv 1) (pa_cons (pe_glob (v := .ref c10) (by rfl) Z.g10 rfl) pa_nil))) pa_nil)))))
    (pss_cons (ps_if (PW.pt (pw_or (pt_cmpR op_ne (pe_bm PySem.F.plainAttrs_list PySem.F.slot_list_count PySem.F.type_list_count mt_countV (pv 3) (pa_cons pe_bl pa_nil)) pe_int (nomark _))
      (pw_or (pt_not (pt_val (pe_callB call_isH (by rfl) isi (by decide +kernel) (pa_cons (pv 1) (pa_cons (pe_glob (v := .ref HE) (by rfl) Z.gH rfl) pa_nil)))))
      (pw_or1 (pt_not (pt_val (pe_callB call_isH (by rfl) isi (by decide +kernel) (pa_cons (pv 1) (pa_cons (pe_bltn (v := .ty "ValueError") (by rfl) Z.ve (by decide +kernel) rfl) pa_nil))))))))) (pss_one (ps_ret pe_str)) pss_nil)
    (pss_one (ps_ret (pe_bm PySem.F.plainAttrs_list PySem.F.slot_list_index PySem.F.type_list_index mt_index (pv 3) (pa_cons pe_bl pa_nil))))))))))), ?_⟩
  · refine ⟨fun pins s' σ H' D I h' => ?_⟩
    obtain ⟨Ech, hW, h1, h2, h3⟩ := h'
    exact (pss_one (ps_expr (act _ pn xe Ech _ _ (takes_len tk) hW))).run pins s' σ H' D I ⟨h1, h2, h3⟩
  · refine ⟨fun cls d H' => cls = .ref D ∧ d = none ∧ ∀ H'', Same H' H'' → Q (.int (m : Int)) H'', ?_, rfl, hc, ?_⟩
    · rintro cls d σ' H' ⟨rfl, rfl, hq⟩ hl
      obtain ⟨a0, a1, a2, a3, rfl⟩ := list4 hl
      refine ⟨R.ex, fun a na => ?_⟩
      have s1 : Same H' (upd H' a (ExH (.ref D) none a)) := same_upd na
      have ha : upd H' a (ExH (.ref D) none a) a = some (ExH (.ref D) none a) := upd_same
      generalize upd H' a (ExH (.ref D) none a) = H1 at s1 ha
      refine ⟨.ref a, rfl, rfl, _, rfl, ?_⟩
      rw [decide_eq_false (fun z => nomatch z)]
      refine iteF ⟨.ref a, rfl, a, D, .ref c0, .ref c0, _, rfl, ha, R.C, .own _, R.k0, .ref a, rfl, a, D, .ref c1, .ref c1, _, rfl, ha, R.C, .own _, R.k1, .ref a, rfl, a, D, .ref c2, .ref c2, _, rfl, ha, R.C, .own _, R.k2, (by show 3 ≤ sizeLine; decide), fun l1 n1 => ?_⟩
      have s2 := s1.trans (same_upd (o := .lst [.bl (decide (0 = m)), .bl (decide (1 = m)), .bl (decide (2 = m))]) n1)
      have ha2 := same_upd (o := .lst [.bl (decide (0 = m)), .bl (decide (1 = m)), .bl (decide (2 = m))]) n1 _ _ ha
      have e2 : upd H1 l1 (.lst [.bl (decide (0 = m)), .bl (decide (1 = m)), .bl (decide (2 = m))]) l1 = some (.lst [.bl (decide (0 = m)), .bl (decide (1 = m)), .bl (decide (2 = m))]) := upd_same
      generalize upd H1 l1 (.lst [.bl (decide (0 = m)), .bl (decide (1 = m)), .bl (decide (2 = m))]) = H2 at s2 ha2 e2
      refine ⟨.ref l1, rfl, .ref a, rfl, a, D, .ref c3, .ref c3, _, rfl, ha2, R.C, .own _, R.k3, .ref a, rfl, a, D, .ref c4, .ref c4, _, rfl, ha2, R.C, .own _, R.k4, .ref a, rfl, a, D, .ref c5, .ref c5, _, rfl, ha2, R.C, .own _, R.k5, (by show 3 ≤ sizeLine; decide), fun l2 n2 => ?_⟩
      refine ⟨l1, l2, _, _, rfl, rfl, same_upd n2 _ _ e2, upd_same, (by show 3 + 3 ≤ sizeLine; decide), fun l3 n3 => ?_⟩
      have s3 := s2.trans ((same_upd (o := .lst [.bl (decide (3 = m)), .bl (decide (4 = m)), .bl (decide (5 = m))]) n2).trans (same_upd (o := .lst ([.bl (decide (0 = m)), .bl (decide (1 = m)), .bl (decide (2 = m))] ++ [.bl (decide (3 = m)), .bl (decide (4 = m)), .bl (decide (5 = m))])) n3))
      have ha3 := same_upd (o := .lst ([.bl (decide (0 = m)), .bl (decide (1 = m)), .bl (decide (2 = m))] ++ [.bl (decide (3 = m)), .bl (decide (4 = m)), .bl (decide (5 = m))])) n3 _ _ (same_upd (o := .lst [.bl (decide (3 = m)), .bl (decide (4 = m)), .bl (decide (5 = m))]) n2 _ _ ha2)
      have e3 : upd (upd H2 l2 (.lst [.bl (decide (3 = m)), .bl (decide (4 = m)), .bl (decide (5 = m))])) l3 (.lst ([.bl (decide (0 = m)), .bl (decide (1 = m)), .bl (decide (2 = m))] ++ [.bl (decide (3 = m)), .bl (decide (4 = m)), .bl (decide (5 = m))])) l3 = some (.lst ([.bl (decide (0 = m)), .bl (decide (1 = m)), .bl (decide (2 = m))] ++ [.bl (decide (3 = m)), .bl (decide (4 = m)), .bl (decide (5 = m))])) := upd_same
      generalize upd (upd H2 l2 (.lst [.bl (decide (3 = m)), .bl (decide (4 = m)), .bl (decide (5 = m))])) l3 (.lst ([.bl (decide (0 = m)), .bl (decide (1 = m)), .bl (decide (2 = m))] ++ [.bl (decide (3 = m)), .bl (decide (4 = m)), .bl (decide (5 = m))])) = H3 at s3 ha3 e3
      refine ⟨.ref l3, rfl, .ref a, rfl, a, D, .ref c6, .ref c6, _, rfl, ha3, R.C, .own _, R.k6, .ref a, rfl, a, D, .ref c7, .ref c7, _, rfl, ha3, R.C, .own _, R.k7, .ref a, rfl, a, D, .ref c8, .ref c8, _, rfl, ha3, R.C, .own _, R.k8, (by show 3 ≤ sizeLine; decide), fun l4 n4 => ?_⟩
      refine ⟨l3, l4, _, _, rfl, rfl, same_upd n4 _ _ e3, upd_same, (by show 6 + 3 ≤ sizeLine; decide), fun l5 n5 => ?_⟩
      generalize hx5 : ([.bl (decide (0 = m)), .bl (decide (1 = m)), .bl (decide (2 = m))] ++ [.bl (decide (3 = m)), .bl (decide (4 = m)), .bl (decide (5 = m))] ++ [.bl (decide (6 = m)), .bl (decide (7 = m)), .bl (decide (8 = m))] : List V) = x5
      have s4 := s3.trans ((same_upd (o := .lst [.bl (decide (6 = m)), .bl (decide (7 = m)), .bl (decide (8 = m))]) n4).trans (same_upd (o := .lst x5) n5))
      have ha4 := same_upd (o := .lst x5) n5 _ _ (same_upd (o := .lst [.bl (decide (6 = m)), .bl (decide (7 = m)), .bl (decide (8 = m))]) n4 _ _ ha3)
      have e4 : upd (upd H3 l4 (.lst [.bl (decide (6 = m)), .bl (decide (7 = m)), .bl (decide (8 = m))])) l5 (.lst x5) l5 = some (.lst x5) := upd_same
      generalize upd (upd H3 l4 (.lst [.bl (decide (6 = m)), .bl (decide (7 = m)), .bl (decide (8 = m))])) l5 (.lst x5) = H4 at s4 ha4 e4
      refine ⟨.ref l5, rfl, .ref a, rfl, a, D, .ref c9, .ref c9, _, rfl, ha4, R.C, .own _, R.k9, .ref a, rfl, a, D, .ref c10, .ref c10, _, rfl, ha4, R.C, .own _, R.k10, (by show 2 ≤ sizeLine; decide), fun l6 n6 => ?_⟩
      refine ⟨l5, l6, _, _, rfl, rfl, same_upd n6 _ _ e4, upd_same, (by rw [← hx5]; show 9 + 2 ≤ sizeLine; decide), fun l7 n7 => ?_⟩
      have ex6 : x5 ++ [.bl (decide (9 = m)), .bl (decide (10 = m))] = flags m := by rw [← hx5]; rfl
      rw [ex6]
      have s5 := s4.trans ((same_upd (o := .lst [.bl (decide (9 = m)), .bl (decide (10 = m))]) n6).trans (same_upd (o := .lst (flags m)) n7))
      have ha5 := same_upd (o := .lst (flags m)) n7 _ _ (same_upd (o := .lst [.bl (decide (9 = m)), .bl (decide (10 = m))]) n6 _ _ ha4)
      have e5 : upd (upd H4 l6 (.lst [.bl (decide (9 = m)), .bl (decide (10 = m))])) l7 (.lst (flags m)) l7 = some (.lst (flags m)) := upd_same
      generalize upd (upd H4 l6 (.lst [.bl (decide (9 = m)), .bl (decide (10 = m))])) l7 (.lst (flags m)) = H5 at s5 ha5 e5
      refine ⟨.ref l7, rfl, .inl ⟨rfl, _, SqL.of e5⟩, l7, _, _, rfl, rfl, SqL.of e5, rfl, flags_flat m, rfl, _, rfl, ?_⟩
      rw [flags_one m R.lt, decide_eq_true (show V.int ((1 : Nat) : Int) = V.int 1 from rfl)]
      refine iteF ⟨.ref a, rfl, a, D, .ref HE, .ref HE, true, rfl, ha5, R.C, .own _, R.kH, true, rfl, iteF ?_⟩
      refine ⟨.ref a, rfl, a, D, .ty "ValueError", .type "ValueError", true, rfl, ha5, R.C, .ty _, R.kV, true, rfl, iteF ?_⟩
      obtain ⟨z, hz1, hz2, hz3⟩ := flags_at m R.lt
      exact ⟨.ref l7, rfl, .inl ⟨rfl, _, SqL.of e5⟩, l7, _, _, m, z, rfl, rfl, SqL.of e5, rfl, flags_flat m, hz1, hz2, fun k z' hk h => hz3 k hk z' h, hq H5 s5⟩
    · exact h _
end
end Hop
namespace Hop
section
open PySem PySem.Spec PyProof.Rows L2 HopR LamX
variable {P : Program} {w : World} {K : PySem.W.Frag} {mg : Str → Option Value} {base : Heap} {d : Addr} {es : Array DictEntry} {n : Nat} {d' : Addr} {es' : Array DictEntry} {n' : Nat} {NG NI : Addr}
def spClass (P : Program) (w : World) (K : PySem.W.Frag) (mg : Str → Option Value) (base : Heap) (k : Nat) (D : Addr) (m : Nat) : Sp := fun vs H Q _ => ∃ f, vs = [.ref f] ∧ Door P w K mg base k D H f ∧ ∀ H', Same H H' → Q (.int (m : Int)) H'
theorem ok_class {f : Addr} {fd : FuncData} {k m : Nat} {HE c0 c1 c2 c3 c4 c5 c6 c7 c8 c9 c10 D : Addr} (F : Fun K "_law_class_of" "_law_class_of" sClass f fd) (Y : HopR.Kinds K mg HE c0 c1 c2 c3 c4 c5 c6 c7 c8 c9 c10) (R : Raised K D HE c0 c1 c2 c3 c4 c5 c6 c7 c8 c9 c10 m) (isi : mg "isinstance" = none) :
    FnOk P w K mg base CX0 (k + 1) f fd ["_law_call"] (spClass P w K mg base k D m) := by
  refine F.ok scClass (fun vs H Q E h => ?_) (fun cdv A outer s H vs Q E hr h => ?_)
  · obtain ⟨x, rfl, _⟩ := h
    rfl
  · obtain ⟨x, rfl, dr, q⟩ := h
    obtain ⟨c', qn, hc⟩ := dr.co
    have X0 : ∃ X : Cx, X.prog = P ∧ X.w = w ∧ X.K = K ∧ X.mg = mg ∧ X.base = base ∧ X.A = A ∧ X.stack = outer := ⟨{ cxOf CX0 P w K mg base [] "" (defScope sClass) f cdv A outer s H E with A := A, stack := outer }, rfl, rfl, rfl, rfl, rfl, rfl, rfl⟩
    obtain ⟨X, rfl, rfl, rfl, rfl, rfl, rfl, rfl⟩ := X0
    obtain ⟨t, pr, rd⟩ := class_gives (X := X) (m := m) (D := D) (g := f) (cdg := cdv) (q := qn) Y R isi x c' s H Q (fun E' HZ _ => Door X.prog X.w X.K X.mg X.base k D HZ x ∧ ∀ H', Same HZ H' → E' (.ref D) none H')
      (fun W pn xe E' p1 p2 tk hW => ⟨fun pins s' σ H' Q' I z => (pe_door (i := 0) hr (passes_call tk hW) rfl (.inl rfl)).run pins s' σ H' Q' I ⟨x, z.1, z.2.2.1, z.2.2.2⟩⟩) hc (fun _ => ⟨dr, fun H' s' => ⟨rfl, rfl, fun H'' s'' => q H'' (s'.trans s'')⟩⟩)
    exact ⟨t, pr, rd⟩
end
end Hop

set_option Elab.async false
set_option linter.all false
set_option maxRecDepth 100000
set_option exponentiation.threshold 200000
namespace Hop
open PySem L2 HopR
open C8 (InsC call_isC)
section
variable {P : Program} {w : World} {K : PySem.W.Frag} {mg : Str → Option Value} {base : Heap} {C d : Addr} {es : Array DictEntry} {n : Nat} {HE NN NR NP : Addr}
variable {fi f1 f2 : Addr} {gi g1 g2 : FuncData} {d1 : Value}
/-- the exceptions that this law meets -/
structure Ev (K : PySem.W.Frag) (mg : Str → Option Value) (HE NN NR NP : Addr) : Prop where
  ve : mg "ValueError" = none
  gNN : mg "NoNumber" = some (.ref NN)
  gNR : mg "NoRow" = some (.ref NR)
  gNP : mg "NoPace" = some (.ref NP)
  N : Xc K NN bmV "ValueError.__new__"
  R : Xc K NR bmV "ValueError.__new__"
  O : Xc K NP bmV "ValueError.__new__"
def spIsRowB (K : PySem.W.Frag) : Sp := fun vs H Q _ => ∃ x b, vs = [x] ∧ RowB K H x b ∧ ∀ H', Same H H' → Q (.bl b) H'
theorem ok_isrowB {f : Addr} {fd : FuncData} {k : Nat} (F : Fun K "is_row" "is_row" sIsRow f fd) (T : TxtR K w mg d es n) (ke : keysAre es) : FnOk P w K mg base CX0 (k + 1) f fd ["thing"] (spIsRowB K) := by
  refine F.ok scIsRow (fun vs H Q E h => ?_) (fun cdv A outer s H vs Q E hr h => ?_)
  · obtain ⟨x, b, rfl, _⟩ := h
    rfl
  · obtain ⟨x, b, rfl, hb, q⟩ := h
    have nd := scIsRow.nd
    obtain ⟨tm, gm⟩ := T.most
    refine ⟨_, pss_cons (ps_if (PW.pt (pw_or (pt_not (pt_val (pe_callB call_isi (by rfl) T.isi (by decide +kernel) (pa_cons (pv 0) (pa_cons (pe_bltn (v := .ty "str") (by rfl) T.str (by decide +kernel) rfl) pa_nil)))))
          (pw_or (pt_cmpR op_lt (pe_callB call_len_str (by rfl) T.len PySem.boot_len (pa_cons (pv 0) pa_nil)) pe_int (nomark _))
          (pw_or1 (pt_cmpR op_gt (pe_callB call_len_str (by rfl) T.len PySem.boot_len (pa_cons (pv 0) pa_nil)) (pe_glob (v := .int 30) (by rfl) gm ⟨_, rfl⟩) (nomark _))))))
        (pss_one (ps_ret pe_bl)) pss_nil)
      (pss_one (ps_ret (pe_callB (cr_all rfl) (by rfl) T.all (by decide +kernel) (pa_cons
        (pe_lc (own := [("sign", 1)]) (g := gName 1) (tt := tYes) (te := tOp (rInKd K d) (tVar 1) (tC (.ref d))) rfl nd (pi_str (pv 0)) (blkOk_by (own := [("sign", 1)]) (N := ["thing", "sign"]) (sc := defScope sIsRow) (by decide +kernel))
          (fun _ _ _ _ _ => pg_name (i := 1) nd rfl (Or.inl rfl)) (fun _ _ _ _ _ => pts_nil)
          (fun _ _ _ _ _ => pe_cmpR (op_inKd T.D) (pv 1) (pe_glob (v := .ref d) (by rfl) T.os rfl) (by rfl)))
        pa_nil)))), ?_⟩
    rcases hb with ⟨⟨t, ty, kt⟩, rfl⟩ | ⟨z, rfl, hz, rfl⟩
    · exact ⟨x, rfl, x, .ty "str", t, .type "str", false, rfl, .ty _, ty, kt, false, rfl, q H (Same.refl _)⟩
    · refine ⟨.str z, rfl, .str z, .ty "str", .type "str", .type "str", true, rfl, .ty _, .base (.str _), kit_ty (by decide +kernel), true, rfl, iteF ?_⟩
      refine ⟨.str z, rfl, z, rfl, fit hz, _, _, rfl, rfl, _, rfl, ?_⟩
      by_cases h1 : z.length < 1
      · rw [decide_eq_true (show (z.length : Int) < 1 by omega)]
        have e : isRowB z = false := by
          unfold isRowB
          rw [decide_eq_false (by omega)]
          rfl
        rw [e] at q
        exact q H (Same.refl _)
      rw [decide_eq_false (show ¬ (z.length : Int) < 1 by omega)]
      refine iteF ⟨.str z, rfl, z, rfl, fit hz, _, _, rfl, rfl, _, rfl, ?_⟩
      by_cases h2 : 30 < z.length
      · rw [decide_eq_true (show (z.length : Int) > 30 by omega)]
        have e : isRowB z = false := by
          unfold isRowB
          rw [decide_eq_false (show ¬ z.length ≤ 30 by omega)]
          simp
        rw [e] at q
        exact q H (Same.refl _)
      rw [decide_eq_false (show ¬ (z.length : Int) > 30 by omega)]
      refine iteF ⟨.str z, rfl, z, rfl, fun D hD => ?_⟩
      refine lc_it walk_str (fun i H3 => Same H H3 ∧ H3 D = some (.lst (((z.cps.toList.take i).map okc).map V.bl))) ⟨same_upd hD, upd_same⟩ (fun _ _ _ _ => trivial) ?_ ?_
      · rintro i x H3 H' hi ⟨sm, eD⟩ ⟨rfl, c, hc, rfl⟩
        obtain ⟨r, e1, e2⟩ := sign_in T.D.at_ ke c
        refine ⟨rfl, .str ⟨#[c]⟩, rfl, ⟨#[c]⟩, r, rfl, rfl, e1, _, eD, ?_, same_new hD sm, ?_⟩
        · rw [List.length_map, List.length_map]
          refine fit' (Nat.le_trans (List.length_take_le _ _) ?_)
          have : i < z.length := hi
          omega
        · rw [upd_same, e2, List.take_add_one, Array.getElem?_toList, hc, List.map_append, List.map_append]
          rfl
      · rintro H3 ⟨sm, eD⟩
        refine ⟨D, (z.cps.toList.map okc), rfl, SqL.of ?_, ?_⟩
        · rw [eD, List.take_of_length_le (by rw [Array.length_toList]; exact Nat.le_refl _)]
        · have e : (z.cps.toList.map okc).all id = isRowB z := by
            unfold isRowB
            rw [decide_eq_true (show 1 ≤ z.length by omega), decide_eq_true (show z.length ≤ 30 by omega), List.all_map]
            rfl
          rw [e]
          exact q H3 sm
def spNoRow (K : PySem.W.Frag) (NR : Addr) : Sp := fun vs H _ E => ∃ x, vs = [x] ∧ RowB K H x false ∧ ∀ H', Same H H' → E (.ref NR) none H'
theorem ok_norow {f f1 : Addr} {fd fd1 : FuncData} {k : Nat} (F : Fun K "need_row" "need_row" sNeedRow f fd) (N1 : Fn K mg "is_row" sIsRow ["thing"] f1 fd1) (T : TxtR K w mg d es n) (ke : keysAre es) (Z : Ev K mg HE NN NR NP) :
    FnOk P w K mg base (L2.CX P w) (k + 2) f fd ["thing"] (spNoRow K NR) := by
  have G1 : FnOk P w K mg base CX0 (k + 1) f1 fd1 ["thing"] (spIsRowB K) := ok_isrowB N1.F T ke
  refine F.okX scNeed (fun vs H Q E h => ?_) (fun cdv A outer s H vs Q E hr h => ?_)
  · obtain ⟨x, rfl, _⟩ := h
    rfl
  · obtain ⟨x, rfl, hb, q⟩ := h
    refine ⟨_, pss_one (ps_if (pt_not (pt_val (pe_call G1 hr (by rfl) N1.g N1.F.kp N1.b .nil pass0 (pa_cons (pv 0) pa_nil))))
      (pss_one (ps_raise rfl (takes_of rfl rfl rfl rfl) (pmk_own PySem.F.excBase_ValueError Z.R.x Z.gNR Z.R.k (raises_own Z.R.be Z.R.ty) rfl))) pss_nil), ?_⟩
    exact ⟨x, rfl, x, false, rfl, hb, fun H1 s1 => ⟨false, rfl, q H1 s1⟩⟩
/-! ### no pace -/
def NoPart (K : PySem.W.Frag) (C : Addr) (H : Hp) (x : V) : Prop := x ≠ .non ∧ ∃ t, TyX K H x t ∧ PySem.W.kitOne K t (.ref C) = some false
/-- what is no pace -/
def NoPc (K : PySem.W.Frag) (C : Addr) (H : Hp) (x : V) : Prop := NoPart K C H x ∨ ∃ a q, x = .ref a ∧ PA C H a q ∧ q.num < 1
theorem NoPc.same {H H' : Hp} {x : V} (s : Same H H') (h : NoPc K C H x) : NoPc K C H' x := by
  rcases h with ⟨n, t, ty, k⟩ | ⟨a, q, e, p, z⟩
  · exact .inl ⟨n, t, tyx_same s ty, k⟩
  · exact .inr ⟨a, q, e, p.same s, z⟩
def spNoPace (K : PySem.W.Frag) (C NP : Addr) : Sp := fun vs H _ E => ∃ x, vs = [x] ∧ NoPc K C H x ∧ ∀ H', Same H H' → E (.ref NP) none H'
theorem ok_nopace {f : Addr} {fd : FuncData} {k : Nat} (F : Fun K "pace_from" "pace_from" sPaceFrom f fd) (M : Mks K mg C fi f1 f2 gi g1 g2 d1) (T : TxtP K mg C) (Z : Ev K mg HE NN NR NP) : FnOk P w K mg base (L2.CX P w) (k + 4) f fd ["thing"] (spNoPace K C NP) := by
  refine F.okX scPaceFrom (fun vs H Q E h => ?_) (fun cdv A outer s H vs Q E hr h => ?_)
  · obtain ⟨x, rfl, _⟩ := h
    rfl
  · obtain ⟨x, rfl, hx, q⟩ := h
    rcases hx with ⟨hn, t, ty, kt⟩ | ⟨a, z, rfl, ⟨dx, ha⟩, hz⟩
    · refine ⟨_, pss_cons (ps_if (pt_cmpR op_isN (pv 0) pe_non (nomark _)) (pss_one ps_never) pss_nil)
        (pss_cons (ps_if (PW.pt (pw_or (pt_not (pt_val (pe_callB call_isi (by rfl) T.isi (by decide +kernel) (pa_cons (pv 0) (pa_cons (pe_glob (v := .ref C) (by rfl) T.mgC rfl) pa_nil))))) (pw_or1 (pt_cmpR op_lt (pe_fld (pv 0) rfl) pe_int (nomark _)))))
          (pss_one (ps_raise rfl (takes_of rfl rfl rfl rfl) (pmk_own PySem.F.excBase_ValueError Z.O.x Z.gNP Z.O.k (raises_own Z.O.be Z.O.ty) rfl))) pss_nil)
        (pss_one ps_never)), ?_⟩
      refine ⟨x, rfl, rfl, _, rfl, ?_⟩
      rw [decide_eq_false hn]
      exact iteF ⟨x, rfl, x, .ref C, t, .ref C, false, rfl, .own _, ty, kt, false, rfl, q H (Same.refl _)⟩
    · refine ⟨_, pss_cons (ps_if (pt_cmpR op_isN (pv 0) pe_non (nomark _)) (pss_one ps_never) pss_nil)
        (pss_cons (ps_if (PW.pt (pw_or (pt_not (pt_val (pe_callB (call_isC T.ins) (by rfl) T.isi (by decide +kernel) (pa_cons (pv 0) (pa_cons (pe_glob (v := .ref C) (by rfl) T.mgC rfl) pa_nil))))) (pw_or1 (pt_cmpR op_lt (pe_fld (pv 0) rfl) pe_int (nomark _)))))
          (pss_one (ps_raise rfl (takes_of rfl rfl rfl rfl) (pmk_own PySem.F.excBase_ValueError Z.O.x Z.gNP Z.O.k (raises_own Z.O.be Z.O.ty) rfl))) pss_nil)
        (pss_one ps_never)), ?_⟩
      refine ⟨.ref a, rfl, rfl, _, rfl, ?_⟩
      rw [decide_eq_false (fun z => nomatch z)]
      refine iteF ⟨.ref a, rfl, a, dx, _, rfl, ha, true, rfl, iteF ?_⟩
      refine ⟨.ref a, rfl, a, C, dx, _, _, rfl, ha, T.ins.cl, T.nT, pf_top z, _, _, rfl, rfl, _, rfl, ?_⟩
      rw [decide_eq_true (show z.num < 1 from hz)]
      exact q H (Same.refl _)
/-- the first pace is none, or the second -/
def spNoPaces (K : PySem.W.Frag) (C NP : Addr) : Sp := fun vs H _ E => ∃ x y, vs = [x, y] ∧ (NoPc K C H x ∨ (∃ q, Pw C H x q) ∧ NoPc K C H y) ∧ ∀ H', Same H H' → E (.ref NP) none H'
theorem ok_nopaces {f p1 : Addr} {fd q1 : FuncData} {k : Nat} (F : Fun K "paces_from" "paces_from" sPacesFrom f fd) (N1 : Fn K mg "pace_from" sPaceFrom ["thing"] p1 q1) (M : Mks K mg C fi f1 f2 gi g1 g2 d1) (T : TxtP K mg C) (Z : Ev K mg HE NN NR NP) : FnOk P w K mg base (L2.CX P w) (k + 5) f fd ["inn", "out"] (spNoPaces K C NP) := by
  have G1 : FnOk P w K mg base CX0 (k + 4) p1 q1 ["thing"] (spPaceFrom C) := ok_paceFrom N1.F M T
  have G2 : FnOk P w K mg base (L2.CX P w) (k + 4) p1 q1 ["thing"] (spNoPace K C NP) := ok_nopace N1.F M T Z
  refine F.okX scPacesFrom (fun vs H Q E h => ?_) (fun cdv A outer s H vs Q E hr h => ?_)
  · obtain ⟨x, y, rfl, _⟩ := h
    rfl
  · obtain ⟨x, y, rfl, hx, q⟩ := h
    have nd := scPacesFrom.nd
    rcases hx with hx | ⟨⟨z, hx⟩, hy⟩
    · refine ⟨_, pss_cons (ps_set (i := 2) nd rfl (.inl rfl) (pe_call G2 hr (by rfl) N1.g N1.F.kp N1.b .nil (passes_call (E := E) (takes_of rfl rfl rfl rfl) (fun _ _ _ _ h => h)) (pa_cons (pv 0) pa_nil))) (pss_one ps_never), ?_⟩
      exact ⟨x, rfl, x, rfl, hx, q⟩
    · refine ⟨_, pss_cons (ps_set (i := 2) nd rfl (.inl rfl) (pe_call G1 hr (by rfl) N1.g N1.F.kp N1.b .nil pass0 (pa_cons (pv 0) pa_nil)))
        (pss_one (ps_ret (pe_tup (pa_cons (pv 2) (pa_cons (pe_call G2 hr (by rfl) N1.g N1.F.kp N1.b .nil (passes_call (E := E) (takes_of rfl rfl rfl rfl) (fun _ _ _ _ h => h)) (pa_cons (pv 1) pa_nil)) pa_nil))))), ?_⟩
      exact ⟨x, rfl, x, z, rfl, hx, fun H1 a s1 p1 => ⟨.ref a, rfl, y, rfl, y, rfl, hy.same s1, fun H2 s2 => q H2 (s1.trans s2)⟩⟩
def spOdd (K : PySem.W.Frag) : Sp := fun vs H Q _ => ∃ x, vs = [x] ∧ Odd K H x ∧ Q (.bl false) H
theorem ok_odd {f : Addr} {fd : FuncData} {k : Nat} (F : Fun K "is_whole" "is_whole" sIsWhole f fd) (T : TxtP K mg C) : FnOk P w K mg base CX0 (k + 1) f fd ["thing"] (spOdd K) := by
  refine F.ok scWhole (fun vs H Q E h => ?_) (fun cdv A outer s H vs Q E hr h => ?_)
  · obtain ⟨x, rfl, _⟩ := h
    rfl
  · obtain ⟨x, rfl, ⟨t, bI, ty, k1, k2⟩, q⟩ := h
    refine ⟨_, pss_one (ps_ret (pe_and (pe_callB call_isi (by rfl) T.isi (by decide +kernel) (pa_cons (pv 0) (pa_cons (pe_bltn (v := .ty "int") (by rfl) T.int (by decide +kernel) rfl) pa_nil)))
      (pe_one (pe_not (pe_callB call_isi (by rfl) T.isi (by decide +kernel) (pa_cons (pv 0) (pa_cons (pe_bltn (v := .ty "bool") (by rfl) T.bool (by decide +kernel) rfl) pa_nil))))))), ?_⟩
    refine ⟨x, rfl, x, .ty "int", t, .type "int", bI, rfl, .ty _, ty, k1, bI, rfl, ?_⟩
    cases bI with
    | false => exact q
    | true => exact ⟨x, rfl, x, .ty "bool", t, .type "bool", true, rfl, .ty _, ty, k2 rfl, true, rfl, q⟩
def spNN (K : PySem.W.Frag) (NN : Addr) : Sp := fun vs H Q E => ∃ (x : V) (lo hi : Int), vs = [x, .int lo, .int hi] ∧ ((∃ i : Int, x = .int i ∧ lo ≤ i ∧ i ≤ hi ∧ Q .non H) ∨ (Odd K H x ∧ E (.ref NN) none H) ∨ (∃ i : Int, x = .int i ∧ (i < lo ∨ hi < i) ∧ E (.ref NN) none H))
theorem ok_neednum {f f1 : Addr} {fd g1 : FuncData} {k : Nat} (F : Fun K "need_number" "need_number" sNeedNum f fd) (N1 : Fn K mg "is_whole" sIsWhole ["thing"] f1 g1) (T : TxtP K mg C) (Z : Ev K mg HE NN NR NP) :
    FnOk P w K mg base (L2.CX P w) (k + 2) f fd ["thing", "least", "most"] (spNN K NN) := by
  have G1 : FnOk P w K mg base CX0 (k + 1) f1 g1 ["thing"] spWhole := ok_whole N1.F T
  have G0 : FnOk P w K mg base CX0 (k + 1) f1 g1 ["thing"] (spOdd K) := ok_odd N1.F T
  refine F.okX scNeedNum (fun vs H Q E h => ?_) (fun cdv A outer s H vs Q E hr h => ?_)
  · obtain ⟨x, lo, hi, rfl, _⟩ := h
    rfl
  · obtain ⟨x, lo, hi, rfl, h⟩ := h
    rcases h with ⟨i, rfl, h1, h2, q⟩ | ⟨ox, e⟩ | ⟨i, rfl, hi', e⟩
    · refine ⟨_, pss_one (ps_if (PW.pt (pw_or (pt_not (pt_val (pe_call G1 hr (by rfl) N1.g N1.F.kp N1.b .nil pass0 (pa_cons (pv 0) pa_nil)))) (pw_or (pt_cmpR op_lt (pv 0) (pv 1) (nomark _)) (pw_or1 (pt_cmpR op_gt (pv 0) (pv 2) (nomark _)))))) (pss_one ps_never) pss_nil), ?_⟩
      refine ⟨.int i, rfl, i, rfl, true, rfl, iteF ⟨.int i, rfl, .int lo, rfl, _, _, rfl, rfl, _, rfl, ?_⟩⟩
      rw [decide_eq_false (show ¬ i < lo by omega)]
      refine iteF ⟨.int i, rfl, .int hi, rfl, _, _, rfl, rfl, _, rfl, ?_⟩
      rw [decide_eq_false (show ¬ i > hi by omega)]
      exact iteF q
    · refine ⟨_, pss_one (ps_if (PW.pt (pw_or (pt_not (pt_val (pe_call G0 hr (by rfl) N1.g N1.F.kp N1.b .nil pass0 (pa_cons (pv 0) pa_nil)))) (pw_or (pt_cmpR op_lt (pv 0) (pv 1) (nomark _)) (pw_or1 (pt_cmpR op_gt (pv 0) (pv 2) (nomark _))))))
        (pss_one (ps_raise rfl (takes_of rfl rfl rfl rfl) (pmk_own PySem.F.excBase_ValueError Z.N.x Z.gNN Z.N.k (raises_own Z.N.be Z.N.ty) rfl))) pss_nil), ?_⟩
      exact ⟨x, rfl, x, rfl, ox, false, rfl, iteT e⟩
    · refine ⟨_, pss_one (ps_if (PW.pt (pw_or (pt_not (pt_val (pe_call G1 hr (by rfl) N1.g N1.F.kp N1.b .nil pass0 (pa_cons (pv 0) pa_nil)))) (pw_or (pt_cmpR op_lt (pv 0) (pv 1) (nomark _)) (pw_or1 (pt_cmpR op_gt (pv 0) (pv 2) (nomark _))))))
        (pss_one (ps_raise rfl (takes_of rfl rfl rfl rfl) (pmk_own PySem.F.excBase_ValueError Z.N.x Z.gNN Z.N.k (raises_own Z.N.be Z.N.ty) rfl))) pss_nil), ?_⟩
      refine ⟨.int i, rfl, i, rfl, true, rfl, iteF ⟨.int i, rfl, .int lo, rfl, _, _, rfl, rfl, _, rfl, ?_⟩⟩
      by_cases h0 : i < lo
      · rw [decide_eq_true h0]
        exact iteT e
      · rw [decide_eq_false h0]
        refine iteF ⟨.int i, rfl, .int hi, rfl, _, _, rfl, rfl, _, rfl, ?_⟩
        rw [decide_eq_true (show i > hi by omega)]
        exact iteT e
end
end Hop

set_option Elab.async false
set_option linter.all false
set_option maxRecDepth 100000
set_option exponentiation.threshold 200000
namespace Hop
open PySem L2 HopR
open C8 (InsC call_isC)
section
variable {P : Program} {w : World} {K : PySem.W.Frag} {mg : Str → Option Value} {base : Heap} {C d : Addr} {es : Array DictEntry} {n : Nat} {HE NN NR NP : Addr}
variable {fi f1 f2 : Addr} {gi g1 g2 : FuncData} {d1 : Value}
variable {ft : Addr} {gt : FuncData} {dA dB : Value}
variable {xt xo : Addr} {yt yo : FuncData}
variable {fw : Addr} {gw : FuncData} {dC dD : Value}
/-- no whole number, or none that is allowed -/
def NoNumb (K : PySem.W.Frag) (lo hi : Int) (H : Hp) (x : V) : Prop := Odd K H x ∨ ∃ i : Int, x = .int i ∧ (i < lo ∨ hi < i)
/-- two things that are not both paces -/
def NoPcs (K : PySem.W.Frag) (C : Addr) (H : Hp) (a b : V) : Prop := NoPc K C H a ∨ (∃ q, Pw C H a q) ∧ NoPc K C H b
theorem NoPcs.same {H H' : Hp} {a b : V} (s : Same H H') (h : NoPcs K C H a b) : NoPcs K C H' a b := h.imp (fun z => z.same s) (fun z => ⟨z.1.imp fun _ z => z.same s, z.2.same s⟩)
/-! ### total -/
def spNoTotal (K : PySem.W.Frag) (C NN NP : Addr) : Sp := fun vs H _ E => ∃ x a b, vs = [x, a, b] ∧ ((NoNumb K 0 40 H x ∧ ∀ H', Same H H' → E (.ref NN) none H') ∨ (∃ m : Nat, x = wv m ∧ m ≤ 40 ∧ NoPcs K C H a b ∧ ∀ H', Same H H' → E (.ref NP) none H'))
theorem ok_nototal {k : Nat} (N : TotDefs K mg C fi f1 f2 ft gi g1 g2 gt d1 dA dB) (T : TxtP K mg C) (Z : Ev K mg HE NN NR NP) : FnOk P w K mg base (L2.CX P w) (k + 6) ft gt ["many", "inn", "out"] (spNoTotal K C NN NP) := by
  obtain ⟨r2, s2, R2⟩ := N.nn
  obtain ⟨r3, s3, R3⟩ := N.p1
  obtain ⟨r4, s4, R4⟩ := N.p2
  have G1 : FnOk P w K mg base (L2.CX P w) (k + 5) r2 s2 ["thing", "least", "most"] (spNN K NN) := ok_neednum R2.F N.M.N1 T Z
  have G2 : FnOk P w K mg base CX0 (k + 5) r2 s2 ["thing", "least", "most"] spNum := ok_num R2.F N.M.N1 T
  have G4 : FnOk P w K mg base (L2.CX P w) (k + 5) r4 s4 ["inn", "out"] (spNoPaces K C NP) := ok_nopaces R4.F R3 N.M T Z
  refine N.W.ok scTotal (fun vs H Q E h => ?_) (fun cdv A outer s H vs Q E hr h => ?_)
  · obtain ⟨x, a, b, rfl, _⟩ := h
    rfl
  · obtain ⟨x, a, b, rfl, h⟩ := h
    have nd := scTotal.nd
    obtain ⟨tm, gm⟩ := N.hM
    rcases h with ⟨hx, q⟩ | ⟨m, rfl, hm, hp, q⟩
    · refine ⟨_, pss_cons (ps_expr (pe_call G1 hr (by rfl) R2.g R2.F.kp R2.b .nil (passes_call (E := E) (takes_of rfl rfl rfl rfl) (fun _ _ _ _ h => h)) (pa_cons (pv 0) (pa_cons pe_int (pa_cons (pe_glob (v := .int 40) (by rfl) gm ⟨_, rfl⟩) pa_nil))))) (pss_cons ps_never (pss_one ps_never)), ?_⟩
      exact ⟨x, rfl, x, 0, 40, rfl, .inr (hx.imp (fun z => ⟨z, q H (Same.refl _)⟩) (fun ⟨i, e, z⟩ => ⟨i, e, z, q H (Same.refl _)⟩))⟩
    · refine ⟨_, pss_cons (ps_expr (pe_call G2 hr (by rfl) R2.g R2.F.kp R2.b .nil pass0 (pa_cons (pv 0) (pa_cons pe_int (pa_cons (pe_glob (v := .int 40) (by rfl) gm ⟨_, rfl⟩) pa_nil)))))
        (pss_cons (ps_asg (pe_call G4 hr (by rfl) R4.g R4.F.kp R4.b .nil (passes_call (E := E) (takes_of rfl rfl rfl rfl) (fun _ _ _ _ h => h)) (pa_cons (pv 1) (pa_cons (pv 2) pa_nil))) (pg_tup (by rfl) (pgs_cons (pg_name (i := 3) nd rfl (.inl rfl)) (pgs_cons (pg_name (i := 4) nd rfl (.inl rfl)) pgs_nil))))
        (pss_one ps_never)), ?_⟩
      exact ⟨wv m, rfl, (m : Int), 0, 40, rfl, by omega, by omega, a, rfl, b, rfl, a, b, rfl, hp, q⟩
/-! ### through -/
def spNoThrough (K : PySem.W.Frag) (C NN NP : Addr) : Sp := fun vs H _ E => ∃ x a b, vs = [x, a, b] ∧ ((NoNumb K 1 40 H x ∧ ∀ H', Same H H' → E (.ref NN) none H') ∨ (∃ m : Nat, x = wv m ∧ 1 ≤ m ∧ m ≤ 40 ∧ NoPcs K C H a b ∧ ∀ H', Same H H' → E (.ref NP) none H'))
theorem ok_nothrough {fh : Addr} {gh : FuncData} {k : Nat} (D : ThrDefs K mg fh gh) (N : TotDefs K mg C fi f1 f2 ft gi g1 g2 gt d1 dA dB) (M : OverDefs K mg C xt xo yt yo) (T : TxtP K mg C) (Z : Ev K mg HE NN NR NP) : FnOk P w K mg base (L2.CX P w) (k + 7) fh gh ["many", "inn", "out"] (spNoThrough K C NN NP) := by
  obtain ⟨r2, s2, R2⟩ := N.nn
  obtain ⟨fz, gz, Nz⟩ := M.z
  have G1 : FnOk P w K mg base (L2.CX P w) (k + 6) r2 s2 ["thing", "least", "most"] (spNN K NN) := ok_neednum R2.F N.M.N1 T Z
  have G2 : FnOk P w K mg base CX0 (k + 6) r2 s2 ["thing", "least", "most"] spNum := ok_num R2.F N.M.N1 T
  have GT : FnOk P w K mg base (L2.CX P w) (k + 6) ft gt ["many", "inn", "out"] (spNoTotal K C NN NP) := ok_nototal N T Z
  have GO : FnOk P w K mg base CX0 (k + 6) xo yo ["self", "other"] (spOp C (fun _ r => r ≠ 0) (fun q r => q / r)) := ok_over M.Fo N.M Nz M.Ft M.bt M.mt T
  refine D.W.ok scThrough (fun vs H Q E h => ?_) (fun cdv A outer s H vs Q E hr h => ?_)
  · obtain ⟨x, a, b, rfl, _⟩ := h
    rfl
  · obtain ⟨x, a, b, rfl, h⟩ := h
    have nd := scThrough.nd
    obtain ⟨tm, gm⟩ := N.hM
    rcases h with ⟨hx, q⟩ | ⟨m, rfl, h1, hm, hp, q⟩
    · refine ⟨_, pss_cons (ps_expr (pe_call G1 hr (by rfl) R2.g R2.F.kp R2.b .nil (passes_call (E := E) (takes_of rfl rfl rfl rfl) (fun _ _ _ _ h => h)) (pa_cons (pv 0) (pa_cons pe_int (pa_cons (pe_glob (v := .int 40) (by rfl) gm ⟨_, rfl⟩) pa_nil))))) (pss_one ps_never), ?_⟩
      exact ⟨x, rfl, x, 1, 40, rfl, .inr (hx.imp (fun z => ⟨z, q H (Same.refl _)⟩) (fun ⟨i, e, z⟩ => ⟨i, e, z, q H (Same.refl _)⟩))⟩
    · refine ⟨_, pss_cons (ps_expr (pe_call G2 hr (by rfl) R2.g R2.F.kp R2.b .nil pass0 (pa_cons (pv 0) (pa_cons pe_int (pa_cons (pe_glob (v := .int 40) (by rfl) gm ⟨_, rfl⟩) pa_nil)))))
        (pss_one (ps_ret (pe_meth (pe_call GT hr (by rfl) N.g N.W.kp N.b3 .nil (passes_call (E := E) (takes_of rfl rfl rfl rfl) (fun _ _ _ _ h => h)) (pa_cons (pe_op op_sub (pv 0) pe_int) (pa_cons (pv 1) (pa_cons (pv 2) pa_nil)))) T.ins.cl M.mo GO hr M.bo .nil pass0 (pa_cons (pe_call GT hr (by rfl) N.g N.W.kp N.b3 .nil (passes_call (E := E) (takes_of rfl rfl rfl rfl) (fun _ _ _ _ h => h)) (pa_cons (pv 0) (pa_cons (pv 1) (pa_cons (pv 2) pa_nil)))) pa_nil)))), ?_⟩
      exact ⟨wv m, rfl, (m : Int), 1, 40, rfl, by omega, by omega, wv m, rfl, (m : Int), 1, rfl, rfl, a, rfl, b, rfl, _, a, b, rfl, .inr ⟨m - 1, (by show V.int ((m : Int) - 1) = _; rw [show (m : Int) - 1 = ((m - 1 : Nat) : Int) by omega]; rfl), by omega, hp, q⟩⟩
/-! ### weight, row_chance -/
def spNoChance (K : PySem.W.Frag) (C NR NP : Addr) : Sp := fun vs H _ E => ∃ x a b, vs = [x, a, b] ∧ ((RowB K H x false ∧ ∀ H', Same H H' → E (.ref NR) none H') ∨ (∃ bs, x = .str (tx bs) ∧ Row bs ∧ NoPcs K C H a b ∧ ∀ H', Same H H' → E (.ref NP) none H'))
theorem ok_noweight {k : Nat} (N : WtDefs K mg C fi f1 f2 fw gi g1 g2 gw d1 dA dB) (T : TxtP K mg C) (TR : TxtR K w mg d es n) (ke : keysAre es) (Z : Ev K mg HE NN NR NP) : FnOk P w K mg base (L2.CX P w) (k + 6) fw gw ["row", "inn", "out"] (spNoChance K C NR NP) := by
  obtain ⟨r1, s1, R1⟩ := N.E.R
  obtain ⟨r2, s2, R2⟩ := N.nr
  obtain ⟨r3, s3, R3⟩ := N.p1
  obtain ⟨r4, s4, R4⟩ := N.p2
  have G1 : FnOk P w K mg base (L2.CX P w) (k + 5) r2 s2 ["thing"] (spNoRow K NR) := ok_norow R2.F R1 TR ke Z
  have G2 : FnOk P w K mg base CX0 (k + 5) r2 s2 ["thing"] spNeed := ok_need R2.F R1 TR
  have G4 : FnOk P w K mg base (L2.CX P w) (k + 5) r4 s4 ["inn", "out"] (spNoPaces K C NP) := ok_nopaces R4.F R3 N.M T Z
  refine N.W.ok scWeight (fun vs H Q E h => ?_) (fun cdv A outer s H vs Q E hr h => ?_)
  · obtain ⟨x, a, b, rfl, _⟩ := h
    rfl
  · obtain ⟨x, a, b, rfl, h⟩ := h
    have nd := scWeight.nd
    rcases h with ⟨hx, q⟩ | ⟨bs, rfl, hR, hp, q⟩
    · refine ⟨_, pss_cons (ps_expr (pe_call G1 hr (by rfl) R2.g R2.F.kp R2.b .nil (passes_call (E := E) (takes_of rfl rfl rfl rfl) (fun _ _ _ _ h => h)) (pa_cons (pv 0) pa_nil))) (pss_cons ps_never (pss_cons ps_never (pss_cons ps_never (pss_cons ps_never (pss_cons ps_never (pss_one ps_never)))))), ?_⟩
      exact ⟨x, rfl, x, rfl, hx, q⟩
    · refine ⟨_, pss_cons (ps_expr (pe_call G2 hr (by rfl) R2.g R2.F.kp R2.b .nil pass0 (pa_cons (pv 0) pa_nil)))
        (pss_cons (ps_asg (pe_call G4 hr (by rfl) R4.g R4.F.kp R4.b .nil (passes_call (E := E) (takes_of rfl rfl rfl rfl) (fun _ _ _ _ h => h)) (pa_cons (pv 1) (pa_cons (pv 2) pa_nil))) (pg_tup (by rfl) (pgs_cons (pg_name (i := 3) nd rfl (.inl rfl)) (pgs_cons (pg_name (i := 4) nd rfl (.inl rfl)) pgs_nil))))
        (pss_cons ps_never (pss_cons ps_never (pss_cons ps_never (pss_cons ps_never (pss_one ps_never)))))), ?_⟩
      exact ⟨.str (tx bs), rfl, bs, rfl, hR, fun H1 s1 => ⟨a, rfl, b, rfl, a, b, rfl, hp.same s1, fun H2 s2 => q H2 (s1.trans s2)⟩⟩
theorem ok_nochance {fh : Addr} {gh : FuncData} {k : Nat} (D : RowDefs K mg fh gh) (NW : WtDefs K mg C fi f1 f2 fw gi g1 g2 gw d1 dC dD) (N : TotDefs K mg C fi f1 f2 ft gi g1 g2 gt d1 dA dB) (M : OverDefs K mg C xt xo yt yo) (T : TxtP K mg C) (TR : TxtR K w mg d es n) (T0 : TxtL mg) (ke : keysAre es) (Z : Ev K mg HE NN NR NP) : FnOk P w K mg base (L2.CX P w) (k + 7) fh gh ["row", "inn", "out"] (spNoChance K C NR NP) := by
  obtain ⟨fz, gz, Nz⟩ := M.z
  have GW : FnOk P w K mg base (L2.CX P w) (k + 6) fw gw ["row", "inn", "out"] (spNoChance K C NR NP) := ok_noweight NW T TR ke Z
  have GT : FnOk P w K mg base CX0 (k + 6) ft gt ["many", "inn", "out"] (spTotal C) := ok_total N T T0
  have GO : FnOk P w K mg base CX0 (k + 6) xo yo ["self", "other"] (spOp C (fun _ r => r ≠ 0) (fun q r => q / r)) := ok_over M.Fo N.M Nz M.Ft M.bt M.mt T
  refine D.W.ok scRowChance (fun vs H Q E h => ?_) (fun cdv A outer s H vs Q E hr h => ?_)
  · obtain ⟨x, a, b, rfl, _⟩ := h
    rfl
  · obtain ⟨x, a, b, rfl, h⟩ := h
    refine ⟨_, pss_one (ps_ret (pe_meth (pe_call GW hr (by rfl) NW.g NW.W.kp NW.b3 .nil (passes_call (E := E) (takes_of rfl rfl rfl rfl) (fun _ _ _ _ h => h)) (pa_cons (pv 0) (pa_cons (pv 1) (pa_cons (pv 2) pa_nil)))) T.ins.cl M.mo GO hr M.bo .nil pass0 (pa_cons (pe_call GT hr (by rfl) N.g N.W.kp N.b3 .nil pass0 (pa_cons (pe_callB call_len_str (by rfl) T.len PySem.boot_len (pa_cons (pv 0) pa_nil)) (pa_cons (pv 1) (pa_cons (pv 2) pa_nil)))) pa_nil))), ?_⟩
    exact ⟨x, rfl, a, rfl, b, rfl, x, a, b, rfl, h⟩
end
end Hop

set_option Elab.async false
set_option linter.all false
set_option maxRecDepth 100000
set_option exponentiation.threshold 200000
namespace Hop
open PySem L2 HopR
open C8 (InsC call_isC)
abbrev sThings : Stmt := top 63
abbrev sNoPcs : Stmt := top 61
section
variable {P : Program} {w : World} {K : PySem.W.Frag} {mg : Str → Option Value} {base : Heap} {C d : Addr} {es : Array DictEntry} {n : Nat}
variable {fi f1 f2 : Addr} {gi g1 g2 : FuncData} {d1 : Value}
/-! ### _law_things -/
def spThings (K : PySem.W.Frag) : Sp := fun vs H Q _ => vs = [] ∧ ∀ H' p ws, Same H H' → H p = none → H' p = some (.lst ws) → (∀ x ∈ ws, RowB K H' x false) → ws.length ≤ 1000 → Q (.ref p) H'
theorem scThings : FnScope [] [] (defScope sThings) := ⟨rfl, rfl, rfl, by decide +kernel, rfl, by decide +kernel, by decide +kernel⟩
theorem noB_lit {H : Hp} {z : Str} (hl : z.length ≤ 10000) (e : isRowB z = false) : RowB K H (.str z) false := .inr ⟨_, rfl, hl, e.symm⟩
theorem ok_things {f : Addr} {fd : FuncData} {k : Nat} (F : Fun K "_law_things" "_law_things" sThings f fd) : FnOk P w K mg base CX0 (k + 1) f fd [] (spThings K) := by
  refine F.ok scThings (fun vs H Q E h => ?_) (fun cdv A outer s H vs Q E hr h => ?_)
  · obtain ⟨rfl, _⟩ := h
    rfl
  · obtain ⟨rfl, q⟩ := h
    refine ⟨_, pss_one (ps_ret (pe_lst (pa_cons pe_non (pa_cons pe_int (pa_cons pe_bl (pa_cons (pe_lst (pa_cons pe_str pa_nil)) (pa_cons (pe_tup (pa_cons pe_str pa_nil)) (pa_cons pe_dnewK (pa_cons pe_str (pa_cons pe_str (pa_cons pe_str (pa_cons pe_str (pa_cons (pe_op op_repS pe_str pe_int) (pa_cons pe_str (pa_cons pe_int (pa_cons (pe_lst pa_nil) (pa_cons pe_str (pa_cons pe_str pa_nil)))))))))))))))))), ?_⟩
    refine ⟨(by show 1 ≤ sizeLine; decide), fun l1 n1 => ⟨(by show 1 ≤ sizeLine; decide), fun l2 n2 l3 n3 => ⟨"o", 31, rfl, rfl, by decide +kernel, by decide, Nat.zero_le _, fun l4 n4 => ⟨(by show 16 ≤ sizeLine; decide), fun l5 n5 => ?_⟩⟩⟩⟩
    have s1 := same_upd (o := .lst [.str "o"]) n1
    have e1 : upd H l1 (.lst [.str "o"]) l1 = some (.lst [.str "o"]) := upd_same
    generalize upd H l1 (.lst [.str "o"]) = J1 at *
    have s2 := same_upd (o := .tup [.str "o"]) n2
    have e2 : upd J1 l2 (.tup [.str "o"]) l2 = some (.tup [.str "o"]) := upd_same
    generalize upd J1 l2 (.tup [.str "o"]) = J2 at *
    have s3 := same_upd (o := .dK []) n3
    have e3 : upd J2 l3 (.dK []) l3 = some (.dK []) := upd_same
    generalize upd J2 l3 (.dK []) = J3 at *
    have s4 := same_upd (o := .lst []) n4
    have e4 : upd J3 l4 (.lst []) l4 = some (.lst []) := upd_same
    generalize upd J3 l4 (.lst []) = J4 at *
    have s14 := (s1.trans s2).trans (s3.trans s4)
    refine q _ l5 _ (s14.trans (same_upd n5)) (s14.free n5) upd_same ?_ (by show 16 ≤ 1000; decide)
    have s5 := same_upd (o := .lst [.non, .int 0, .bl true, .ref l1, .ref l2, .ref l3, .str "", .str "x", .str "O.", .str "o. ", .str (repS "o" 31), .str "o\n", .int 1, .ref l4, .str "-", .str "ab"]) n5
    intro x hx
    simp only [List.mem_cons, List.not_mem_nil, or_false] at hx
    rcases hx with rfl | rfl | rfl | rfl | rfl | rfl | rfl | rfl | rfl | rfl | rfl | rfl | rfl | rfl | rfl | rfl
    · exact .inl ⟨notxt_non, rfl⟩
    · exact .inl ⟨notxt_int, rfl⟩
    · exact .inl ⟨notxt_bl, rfl⟩
    · exact .inl ⟨notxt_lst (((s2.trans s3).trans (s4.trans s5)) _ _ e1), rfl⟩
    · exact .inl ⟨notxt_tup ((s3.trans (s4.trans s5)) _ _ e2), rfl⟩
    · exact .inl ⟨notxt_dK ((s4.trans s5) _ _ e3), rfl⟩
    · exact noB_lit (by decide +kernel) (by decide +kernel)
    · exact noB_lit (by decide +kernel) (by decide +kernel)
    · exact noB_lit (by decide +kernel) (by decide +kernel)
    · exact noB_lit (by decide +kernel) (by decide +kernel)
    · exact noB_lit (by decide +kernel) (by decide +kernel)
    · exact noB_lit (by decide +kernel) (by decide +kernel)
    · exact .inl ⟨notxt_int, rfl⟩
    · exact .inl ⟨notxt_lst (s5 _ _ e4), rfl⟩
    · exact noB_lit (by decide +kernel) (by decide +kernel)
    · exact noB_lit (by decide +kernel) (by decide +kernel)
/-! ### _law_no_paces -/
/-- things of these kinds are no Parts -/
structure Kp (K : PySem.W.Frag) (C : Addr) : Prop where
  int : PySem.W.kitOne K (.type "int") (.ref C) = some false
  bool : PySem.W.kitOne K (.type "bool") (.ref C) = some false
  str : PySem.W.kitOne K (.type "str") (.ref C) = some false
  tuple : PySem.W.kitOne K (.type "tuple") (.ref C) = some false
  list : PySem.W.kitOne K (.type "list") (.ref C) = some false
  dict : PySem.W.kitOne K (.type "dict") (.ref C) = some false
def spBadP (K : PySem.W.Frag) (C : Addr) : Sp := fun vs H Q _ => ∃ c : Int, vs = [.int c] ∧ ∀ H' p ws, Same H H' → H p = none → H' p = some (.lst ws) → (∀ x ∈ ws, NoPc K C H' x) → ws.length = 12 → Q (.ref p) H'
theorem scBadP : FnScope ["_law_cell", "_law_far"] ["_law_cell"] (defScope sNoPcs) := ⟨rfl, rfl, rfl, by decide +kernel, rfl, by decide +kernel, by decide +kernel⟩
theorem num_low {t b : Int} (ht : t ≤ 0) (hb : 0 < b) : (Rat.divInt t b).num < 1 := by
  rw [Rat.num_divInt, Int.sign_eq_one_of_pos hb, Int.one_mul]
  have hg : (0 : Int) < ((Int.gcd b t : Nat) : Int) := by
    have := Int.gcd_pos_of_ne_zero_left (b := t) (a := b) (by omega)
    omega
  have h := Int.ediv_le_ediv hg ht
  rw [Int.zero_ediv] at h
  omega
set_option maxHeartbeats 1000000 in
theorem ok_nopcs {f : Addr} {fd : FuncData} {k : Nat} (F : Fun K "_law_no_paces" "_law_no_paces" sNoPcs f fd) (M : Mks K mg C fi f1 f2 gi g1 g2 d1) (kpt : Kp K C) (T : TxtP K mg C) : FnOk P w K mg base CX0 (k + 4) f fd ["_law_cell"] (spBadP K C) := by
  have GI : FnOk P w K mg base CX0 (k + 2) fi gi ["self", "top", "bottom"] (spInit C) := ok_init M.F M.N1 M.N2 T
  refine F.ok scBadP (fun vs H Q E h => ?_) (fun cdv A outer s H vs Q E hr h => ?_)
  · obtain ⟨c, rfl, _⟩ := h
    rfl
  · obtain ⟨c, rfl, q⟩ := h
    have nd := scBadP.nd
    refine ⟨_, pss_cons (ps_set (i := 1) nd rfl (.inl rfl) (pe_op op_mod (pv 0) (pe_op op_pow pe_int pe_int)))
      (pss_one (ps_ret (pe_lst (pa_cons (pe_make M.M GI hr (by rfl) T.mgC M.b2 (.cons M.r1 .nil) pass0 (pa_cons pe_int pa_nil)) (pa_cons (pe_make M.M GI hr (by rfl) T.mgC M.b2 (.cons M.r1 .nil) pass0 (pa_cons (pe_un un_neg pe_int) pa_nil))
        (pa_cons (pe_make M.M GI hr (by rfl) T.mgC M.b3 .nil pass0 (pa_cons (pe_op op_sub (pe_op op_sub pe_int pe_int) (pv 1)) (pa_cons (pe_op op_add pe_int (pe_op op_mod (pv 1) pe_int)) pa_nil)))
        (pa_cons pe_int (pa_cons pe_int (pa_cons pe_bl (pa_cons pe_bl (pa_cons pe_str (pa_cons (pe_tup (pa_cons pe_int (pa_cons pe_int pa_nil))) (pa_cons (pe_lst (pa_cons pe_int pa_nil)) (pa_cons pe_dnewK (pa_cons (pv 1) pa_nil))))))))))))))), ?_⟩
    have p20 : (0 : Int) < 10 ^ 20 := by decide
    refine ⟨.int c, rfl, 10, 20, rfl, rfl, ⟨by decide, by decide, by decide⟩, c, 10 ^ 20, rfl, rfl, p20, ?_⟩
    have f0 : 0 ≤ c % 10 ^ 20 := Int.emod_nonneg _ (by decide)
    intro u1 v1 nu1 nv1 ne1
    refine ⟨u1, v1, 0, 1, rfl, by decide, Nat.one_lt_two_pow (by decide), upd_same, rfl, ?_⟩
    rw [upd_upd]
    obtain ⟨x1, pz⟩ := mk_facts (C := C) (q := Rat.divInt 0 1) nu1 nv1
    generalize upd (upd H v1 (.own u1)) u1 (.ins C v1 (pf (Rat.divInt 0 1))) = G1 at x1 pz
    refine ⟨1, rfl, ?_⟩
    intro u2 v2 nu2 nv2 ne2
    refine ⟨u2, v2, -1, 1, rfl, by decide, Nat.one_lt_two_pow (by decide), upd_same, rfl, ?_⟩
    rw [upd_upd]
    obtain ⟨x2, ph⟩ := mk_facts (C := C) (q := Rat.divInt (-1) 1) nu2 nv2
    generalize upd (upd G1 v2 (.own u2)) u2 (.ins C v2 (pf (Rat.divInt (-1) 1))) = G2 at x2 ph
    have m0 := Int.emod_nonneg (c % 10 ^ 20) (show (7 : Int) ≠ 0 by decide)
    have m7 := Int.emod_lt_of_pos (c % 10 ^ 20) (show (0 : Int) < 7 by decide)
    refine ⟨0, 1, rfl, rfl, .int (c % 10 ^ 20), rfl, _, _, rfl, rfl, .int (c % 10 ^ 20), rfl, (c % 10 ^ 20), 7, rfl, rfl, (show (0 : Int) < 7 by decide), _, _, rfl, rfl, ?_⟩
    intro u3 v3 nu3 nv3 ne3
    refine ⟨u3, v3, 0 - 1 - (c % 10 ^ 20), 1 + (c % 10 ^ 20) % 7, rfl, by omega, Nat.lt_of_lt_of_le (show (1 + (c % 10 ^ 20) % 7).natAbs < 2 ^ 4 by omega) (Nat.pow_le_pow_right (by decide) (by decide)), upd_same, rfl, ?_⟩
    rw [upd_upd]
    obtain ⟨x3, pw⟩ := mk_facts (C := C) (q := Rat.divInt (0 - 1 - (c % 10 ^ 20)) (1 + (c % 10 ^ 20) % 7)) nu3 nv3
    generalize upd (upd G2 v3 (.own u3)) u3 (.ins C v3 (pf (Rat.divInt (0 - 1 - (c % 10 ^ 20)) (1 + (c % 10 ^ 20) % 7)))) = G3 at x3 pw
    refine ⟨(by show 2 ≤ sizeLine; decide), fun tC nC => ⟨(by show 1 ≤ sizeLine; decide), fun lC nlC => fun dF nF => ⟨.int (c % 10 ^ 20), rfl, (by show 12 ≤ sizeLine; decide), fun lP nP => ?_⟩⟩⟩
    have x4 := same_upd (o := .tup [.int 1, .int 1]) nC
    have eC : upd G3 tC (.tup [.int 1, .int 1]) tC = some (.tup [.int 1, .int 1]) := upd_same
    generalize upd G3 tC (.tup [.int 1, .int 1]) = G4 at x4 eC nlC nF nP
    have x5 := same_upd (o := .lst [.int 1]) nlC
    have elC : upd G4 lC (.lst [.int 1]) lC = some (.lst [.int 1]) := upd_same
    generalize upd G4 lC (.lst [.int 1]) = G5 at x5 elC nF nP
    have x6 := same_upd (o := .dK []) nF
    have eF : upd G5 dF (.dK []) dF = some (.dK []) := upd_same
    generalize upd G5 dF (.dK []) = G6 at x6 eF nP
    have sAll := x1.trans (x2.trans (x3.trans (x4.trans (x5.trans x6))))
    refine q _ lP _ (sAll.trans (same_upd nP)) (sAll.free nP) upd_same ?_ rfl
    have x7 := same_upd (o := .lst [.ref u1, .ref u2, .ref u3, .int 1, .int 0, .bl true, .bl false, .str "1", .ref tC, .ref lC, .ref dF, .int (c % 10 ^ 20)]) nP
    have x37 := x4.trans (x5.trans (x6.trans x7))
    intro x hx
    simp only [List.mem_cons, List.not_mem_nil, or_false] at hx
    rcases hx with rfl | rfl | rfl | rfl | rfl | rfl | rfl | rfl | rfl | rfl | rfl | rfl
    · exact .inr ⟨u1, _, rfl, pz.same (x2.trans (x3.trans x37)), num_low (by decide) (by decide)⟩
    · exact .inr ⟨u2, _, rfl, ph.same (x3.trans x37), num_low (by decide) (by decide)⟩
    · exact .inr ⟨u3, _, rfl, pw.same x37, num_low (by omega) (by omega)⟩
    · exact .inl ⟨(fun z => nomatch z), _, .base (.int _), kpt.int⟩
    · exact .inl ⟨(fun z => nomatch z), _, .base (.int _), kpt.int⟩
    · exact .inl ⟨(fun z => nomatch z), _, .base (.bl _), kpt.bool⟩
    · exact .inl ⟨(fun z => nomatch z), _, .base (.bl _), kpt.bool⟩
    · exact .inl ⟨(fun z => nomatch z), _, .base (.str _), kpt.str⟩
    · exact .inl ⟨(fun z => nomatch z), _, .base (.tup ((x5.trans (x6.trans x7)) _ _ eC)), kpt.tuple⟩
    · exact .inl ⟨(fun z => nomatch z), _, .base (.lst ((x6.trans x7) _ _ elC)), kpt.list⟩
    · exact .inl ⟨(fun z => nomatch z), _, .base (.dK (x7 _ _ eF)), kpt.dict⟩
    · exact .inl ⟨(fun z => nomatch z), _, .base (.int _), kpt.int⟩
end
end Hop

set_option Elab.async false
set_option linter.all false
set_option maxRecDepth 100000
/-! what a thing is, is kept through a call of a door (all is kept but tables and what stands frozen) -/
namespace HopR
open PySem PySem.Spec PyProof.Rows L2
theorem thru_at {H H' : Hp} {b : Addr} {o : HO} (s : Thru H H') (e : H b = some o) (n1 : ∀ ps, o ≠ .tbl ps) (n2 : ∀ ob, o ≠ fz ob) : H' b = some o := s b o e n1 n2
theorem tyx_thru {K : PySem.W.Frag} {H H' : Hp} {x : V} {t : Value} (s : Thru H H') (ty : TyX K H x t) : TyX K H' x t := by
  cases ty with
  | base h =>
    cases h with
    | non => exact .base .non
    | bl x => exact .base (.bl x)
    | int i => exact .base (.int i)
    | str x => exact .base (.str x)
    | flt x => exact .base (.flt x)
    | lst e => exact .base (.lst (s _ _ e (fun _ z => nomatch z) (fun _ z => nomatch z)))
    | frz e => exact .base (.frz (s _ _ e (fun _ z => nomatch z) (fun _ z => nomatch z)))
    | tup e => exact .base (.tup (s _ _ e (fun _ z => nomatch z) (fun _ z => nomatch z)))
    | dK e => exact .base (.dK (s _ _ e (fun _ z => nomatch z) (fun _ z => nomatch z)))
    | dT e => exact .base (.dT (s _ _ e (fun _ z => nomatch z) (fun _ z => nomatch z)))
    | ins e a b c d f => exact .base (.ins (s _ _ e (fun _ z => nomatch z) (fun _ z => nomatch z)) a b c d f)
  | byt b => exact .byt b
  | set e => exact .set (s _ _ e (fun _ z => nomatch z) (fun _ z => nomatch z))
  | kList e c => exact .kList e c
  | kTuple e c => exact .kTuple e c
  | kDict e c => exact .kDict e c
  | fTuple e => exact .fTuple (s _ _ e (fun _ z => nomatch z) (fun _ z => nomatch z))
  | fDict e => exact .fDict (s _ _ e (fun _ z => nomatch z) (fun _ z => nomatch z))
theorem odd_thru {K : PySem.W.Frag} {H H' : Hp} {x : V} (s : Thru H H') (h : Odd K H x) : Odd K H' x := by
  obtain ⟨t, b, ty, k⟩ := h
  exact ⟨t, b, tyx_thru s ty, k⟩
theorem notxt_thru {K : PySem.W.Frag} {H H' : Hp} {x : V} (s : Thru H H') (h : NoTxt K H x) : NoTxt K H' x := by
  obtain ⟨t, ty, k⟩ := h
  exact ⟨t, tyx_thru s ty, k⟩
end HopR

set_option Elab.async false
set_option linter.all false
set_option maxRecDepth 100000
set_option exponentiation.threshold 200000
namespace Hop
open PySem L2 HopR NdefX LamX
open C8 (InsC call_isC)
section
variable {K : PySem.W.Frag} {C : Addr}
/-! ### what is handed in stays what it is while a door is called -/
theorem pa_thru {H H' : Hp} {a : Addr} {q : Rat} (s : Thru H H') (h : PA C H a q) : PA C H' a q := let ⟨dx, e⟩ := h; ⟨dx, s _ _ e (fun _ z => nomatch z) (fun _ z => nomatch z)⟩
theorem nopc_thru {H H' : Hp} {x : V} (s : Thru H H') (h : NoPc K C H x) : NoPc K C H' x := by
  rcases h with ⟨n, t, ty, k⟩ | ⟨a, q, e, p, z⟩
  · exact .inl ⟨n, t, tyx_thru s ty, k⟩
  · exact .inr ⟨a, q, e, pa_thru s p, z⟩
theorem pw_thru {H H' : Hp} {x : V} {q : Rat} (s : Thru H H') (h : Pw C H x q) : Pw C H' x q := h.imp id fun ⟨a, e, p, z⟩ => ⟨a, e, pa_thru s p, z⟩
theorem nopcs_thru {H H' : Hp} {a b : V} (s : Thru H H') (h : NoPcs K C H a b) : NoPcs K C H' a b := h.imp (nopc_thru s) fun ⟨⟨q, z⟩, y⟩ => ⟨⟨q, pw_thru s z⟩, nopc_thru s y⟩
theorem nonumb_thru {lo hi : Int} {H H' : Hp} {x : V} (s : Thru H H') (h : NoNumb K lo hi H x) : NoNumb K lo hi H' x := h.imp (odd_thru s) id
theorem rowB_thru {H H' : Hp} {x : V} {b : Bool} (s : Thru H H') (h : RowB K H x b) : RowB K H' x b := h.imp (fun ⟨q, e⟩ => ⟨notxt_thru s q, e⟩) id
theorem thru_ext {H H' : Hp} (e : ExtN H H') : Thru H H' := fun b o h n _ => e b o h n
theorem thru_same {H H' : Hp} (s : Same H H') : Thru H H' := fun b o e _ _ => s b o e
end
abbrev sLaw : Stmt := top 64
abbrev qLam : Str := ("law" : Str) ++ ".<locals>." ++ "<lambda>"
abbrev nLaw : List Str := ["_law_script", "_law_before", "_law_doors", "_law_door", "_law_bad", "_law_cell", "_law_good", "_law_many", "_law_none", "_law_pace_here", "_law_row_here", "_law_thing"]
theorem scLaw : FnScope nLaw ["_law_script"] (defScope sLaw) := ⟨rfl, rfl, rfl, by decide +kernel, rfl, by decide +kernel, by decide +kernel⟩
end Hop

set_option Elab.async false
set_option linter.all false
set_option maxRecDepth 100000
set_option exponentiation.threshold 200000
namespace Hop
open PySem L2 HopR NdefX LamX
open C8 (InsC call_isC)
theorem ext_new {H H' : Hp} {l : Addr} {o : HO} (n : H l = none) (e : ExtN H H') : ExtN H (upd H' l o) := fun b u h z => by
  rw [upd_ne (ne_of_none h n)]
  exact e b u h z
theorem fz_upd {H : Hp} {l f : Addr} {ob : Obj} {o : HO} {xs : List V} (hl : H l = some (.lst xs)) (hf : H f = some (fz ob)) : upd H l o f = some (fz ob) := by
  rw [upd_ne (ne_of hf hl fun z => nomatch z)]
  exact hf
theorem code_upd {H : Hp} {l c : Addr} {q : Str} {o : HO} {xs : List V} (hl : H l = some (.lst xs)) (hc : H c = some (CodeO c q)) : upd H l o c = some (CodeO c q) := by
  rw [upd_ne (ne_of hc hl fun z => by unfold CodeO at z; cases z)]
  exact hc
theorem tabs_upd {T : List (Addr × Str)} {H : Hp} {l : Addr} {o : HO} {xs : List V} (hl : H l = some (.lst xs)) (h : Tabs T H) : Tabs T (upd H l o) := fun p hp => by
  obtain ⟨ps, h1, h2, h3⟩ := h p hp
  refine ⟨ps, by rw [upd_ne (ne_of h1 hl fun z => nomatch z)]; exact h1, h2, fun pos cv hc => ?_⟩
  obtain ⟨c, e1, e2⟩ := h3 pos cv hc
  exact ⟨c, e1, code_upd hl e2⟩

section
variable {P : Program} {w : World} {K : PySem.W.Frag} {mg : Str → Option Value} {base : Heap} {C d : Addr} {es : Array DictEntry} {n : Nat} {HE NN NR NP : Addr}
/-! ### the loop over what is no row -/
set_option maxHeartbeats 4000000 in
theorem st_things {fL cL tb : Addr} {A : Around} {outer : List Env} {s : Shared} {H : Hp} {E : XK} {ft fcl fr : Addr} {gt gcl gr : FuncData} {dO : Value} (TB : TabB base mg cL tb) (Nt : Fn K mg "_law_things" sThings [] ft gt) (Nc : Fn K mg "_law_class_of" sClass ["_law_call"] fcl gcl)
   (Gt : FnOk P w K mg base CX0 9 ft gt [] (spThings K)) (Gcl : FnOk P w K mg base CX0 9 fcl gcl ["_law_call"] (spClass P w K mg base 8 NR 1))
   (Gr : FnOk P w K mg base (L2.CX P w) 7 fr gr ["row", "inn", "out"] (spNoChance K C NR NP)) (gR : mg "row_chance" = some (.ref fr)) (kR : PySem.W.keepIn K (.ref fr) = true) (b3 : Binds K gr ["row", "inn", "out"] []) (b2 : Binds K gr ["row", "inn", "out"] [dO]) (rO : RelV .non dO)
   (hr : Room 9 (A.deeper (PyProof.Rows.envOfC "law" (defScope sLaw) s.heap.objs.size fL (.ref cL)))) :
   ∃ t, PS (cxOf CX0 P w K mg base nLaw "law" (defScope sLaw) fL (.ref cL) A outer s H E).nox ((defBody sLaw).getD 8 (.Pass ⟨0, 0, 0, 0⟩)) t ∧
     ∀ (D : Ends) (H1 : Hp) (y0 y1 y2 y3 y7 y8 y9 y10 y11 : Option V) (bp : Addr) (c : Int) (gx : V) (gq : Rat) (wb : List V), H1 bp = some (.lst wb) → wb.length = 12 → (∀ x ∈ wb, NoPc K C H1 x) → Pw C H1 gx gq → Tabs [(tb, qLam)] H1 →
       (∀ (z2 z3 z11 : Option V) (H2 : Hp), ExtN H1 H2 → Tabs [(tb, qLam)] H2 → D.nx [y0, y1, z2, z3, some (.ref bp), some (.int c), some gx, y7, y8, y9, y10, z11] H2) →
       t D [y0, y1, y2, y3, some (.ref bp), some (.int c), some gx, y7, y8, y9, y10, y11] H1 := by
  have nd := scLaw.nd
  have hu : ∀ p ∈ [(tb, qLam)], p.1 = tb → p.2 = qLam := fun p hp _ => by rw [List.mem_singleton.mp hp]
  refine ⟨_, ps_for PassesOwn.never rfl (pi_list (pe_call0 Gt hr (by rfl) Nt.g Nt.F.kp Nt.b .nil pass0)) (pg_name (i := 11) nd rfl (.inr rfl))
      (pss_cons (ps_set (i := 2) nd rfl (.inl rfl) (pe_lst pa_nil))
      (pss_cons (ps_expr (pe_bm PySem.F.plainAttrs_list PySem.F.slot_list_append PySem.F.type_list_append mt_append (pv 2) (pa_cons (pe_lamF (T := [(tb, qLam)]) TB rfl (List.mem_cons_self ..) hu rfl (lamS_by (sc := defScope sLaw) (by decide +kernel))) pa_nil)))
      (pss_cons (ps_expr (pe_bm PySem.F.plainAttrs_list PySem.F.slot_list_append PySem.F.type_list_append mt_append (pv 2) (pa_cons (pe_lamF (T := [(tb, qLam)]) TB rfl (List.mem_cons_self ..) hu rfl (lamS_by (sc := defScope sLaw) (by decide +kernel))) pa_nil)))
      (pss_one (ps_for PassesOwn.never rfl (pi_list (pv 2)) (pg_name (i := 3) nd rfl (.inl rfl)) (pss_one (ps_if (pt_cmpR op_ne (pe_callF (E := E0) Gcl hr (fun _ => rfl) (by rfl) Nc.g Nc.F.kp Nc.b .nil (pa_cons (pv 3) pa_nil)) pe_int (nomark _)) (pss_one (ps_ret pe_bl)) pss_nil))))))), ?_⟩
  intro D H1 y0 y1 y2 y3 y7 y8 y9 y10 y11 bp c gx gq wb ebp hwb hno hpw hT hD
  refine ⟨rfl, fun H2 p ws s2 n2 e2 hws hwl => ⟨p, rfl, ⟨_, SqL.of e2⟩, ?_⟩⟩
  have xH := ExtN.of s2
  refine for_list (K := K) (a := p) (xs := ws) (fun i σ H3 => ∃ z2 z3 z11, σ = [y0, y1, z2, z3, some (.ref bp), some (.int c), some gx, y7, y8, y9, y10, z11] ∧ ExtN H2 H3 ∧ Tabs [(tb, qLam)] H3) ⟨_, _, _, rfl, ExtN.refl _, hT.ext s2⟩ (fun i σ H3 _ ⟨_, _, _, _, x3, _⟩ => SqL.of (ext_lst x3 e2)) ?_ (fun σ H3 ⟨z2, z3, z11, h, x3, t3⟩ => by rw [h]; exact hD z2 z3 z11 H3 (xH.trans x3) t3)
  rintro i x σ H3 hx ⟨z2, z3, z11, rfl, x3, t3⟩
  have hxr : RowB K H3 x false := rowB_thru (thru_ext x3) (hws x (List.mem_of_getElem? hx))
  refine ⟨Nat.zero_le _, fun l nl => ?_⟩
  have e0 : ExtN H3 (upd H3 l (.lst [])) := ExtN.of (same_upd nl)
  have t0 : Tabs [(tb, qLam)] (upd H3 l (.lst [])) := t3.ext (same_upd nl)
  have l0 : upd H3 l (.lst []) l = some (.lst []) := upd_same
  generalize upd H3 l (.lst []) = J0 at e0 t0 l0
  refine ⟨.ref l, rfl, .inl ⟨rfl, _, SqL.of l0⟩, t0, fun f1 c1 pm1 ct1 J1 x1 u1 n1 hf1 hc1 => ?_⟩
  have m1 := x1 _ _ l0 fun _ z => nomatch z
  refine ⟨l, _, _, rfl, rfl, m1, (by show 0 < sizeLine; decide), ?_⟩
  rw [show (([] : List V) ++ [V.ref f1]) = [.ref f1] from rfl]
  have e1 : ExtN H3 (upd J1 l (.lst [.ref f1])) := ext_new nl (e0.trans x1)
  have t1 : Tabs [(tb, qLam)] (upd J1 l (.lst [.ref f1])) := tabs_upd m1 u1
  have l1 : upd J1 l (.lst [.ref f1]) l = some (.lst [.ref f1]) := upd_same
  have a1 := fz_upd (o := .lst [.ref f1]) m1 hf1
  have b1 := code_upd (o := .lst [.ref f1]) m1 hc1
  generalize upd J1 l (.lst [.ref f1]) = K1 at e1 t1 l1 a1 b1
  refine ⟨.ref l, rfl, .inl ⟨rfl, _, SqL.of l1⟩, t1, fun f2 c2 pm2 ct2 J2 x2 u2 n2 hf2 hc2 => ?_⟩
  have x2' : ExtN K1 J2 := x2
  have m2 := x2' _ _ l1 fun _ z => nomatch z
  refine ⟨l, _, _, rfl, rfl, m2, (by show 1 < sizeLine; decide), ?_⟩
  rw [show ([V.ref f1] ++ [V.ref f2] : List V) = [.ref f1, .ref f2] from rfl]
  have e2' : ExtN H3 (upd J2 l (.lst [.ref f1, .ref f2])) := ext_new nl (e1.trans x2')
  have t2 : Tabs [(tb, qLam)] (upd J2 l (.lst [.ref f1, .ref f2])) := tabs_upd m2 u2
  have l2 : upd J2 l (.lst [.ref f1, .ref f2]) l = some (.lst [.ref f1, .ref f2]) := upd_same
  have a1' := fz_upd (o := .lst [.ref f1, .ref f2]) m2 (x2' _ _ a1 fun _ z => nomatch z)
  have b1' := code_upd (o := .lst [.ref f1, .ref f2]) m2 (x2' _ _ b1 codeO_ne)
  have a2 := fz_upd (o := .lst [.ref f1, .ref f2]) m2 hf2
  have b2' := code_upd (o := .lst [.ref f1, .ref f2]) m2 hc2
  generalize upd J2 l (.lst [.ref f1, .ref f2]) = K2 at e2' t2 l2 a1' b1' a2 b2'
  refine ⟨.ref l, rfl, l, rfl, ⟨_, SqL.of l2⟩, ?_⟩
  have hxr2 : RowB K K2 x false := rowB_thru (thru_ext e2') hxr
  have x13 : ExtN H1 K2 := xH.trans (x3.trans e2')
  have ebp2 : K2 bp = some (.lst wb) := ext_lst x13 ebp
  have hno2 : ∀ v ∈ wb, NoPc K C K2 v := fun v hv => nopc_thru (thru_ext x13) (hno v hv)
  have hpw2 : Pw C K2 gx gq := pw_thru (thru_ext x13) hpw
  refine for_list (K := K) (a := l) (xs := [.ref f1, .ref f2]) (fun j σ H4 => ∃ z3, σ = [y0, y1, some (.ref l), z3, some (.ref bp), some (.int c), some gx, y7, y8, y9, y10, some x] ∧ Same K2 H4) ⟨_, rfl, Same.refl _⟩ (fun j σ H4 _ ⟨_, _, sm⟩ => SqL.of (sm _ _ l2)) ?_ ?_
  · rintro j v σ H4 hv ⟨z3', rfl, sm⟩
    have door : ∀ Hz, Froze (cellsFrom (s.heap.objs.size + 1) (defScope sLaw).names []) nLaw (defScope sLaw) [y0, y1, some (.ref l), some v, some (.ref bp), some (.int c), some gx, y7, y8, y9, y10, some x] H4 Hz → ∃ f, v = .ref f ∧ Door P w K mg base 8 NR Hz f := fun Hz z => by
      have free : ∀ y, (defScope sLaw).names.lookup y = some .cell → ∃ c, (cellsFrom (s.heap.objs.size + 1) (defScope sLaw).names []).lookup y = some c := fun y h => cell_has h
      have th : Thru K2 Hz := thru_same (sm.trans z.same)
      have hx6 : RowB K Hz x false := rowB_thru th hxr2
      match j, hv with
      | 0, hv =>
        cases hv
        refine ⟨f1, rfl, ?_⟩
        have k1 := kept_of (fr := ["_law_thing", "_law_good"]) (ws := [x, gx]) (js := [11, 6]) z (sm _ _ a1') (sm _ _ b1') (fun y hy e => free _ (by revert y; decide +kernel)) (by decide +kernel) (by decide +kernel) rfl rfl
        refine door_of (t := fun E => tCall (spNoChance K C NR NP) [.non] E (tCons (tVar 0) (tCons (tVar 1) tNil))) k1 (nscope_by (by decide +kernel)) (fun _ _ => rfl) (fun A outer s H E hr2 => ?_) (fun H2 E th2 hE => ⟨x, rfl, gx, rfl, x, gx, .non, rfl, .inl ⟨rowB_thru th2 hx6, hE⟩⟩)
        exact pe_call (E := E) Gr hr2 (by rfl) gR kR b2 (.cons rO .nil) (passes_call (E := E) (takes_of rfl rfl rfl rfl) (fun _ _ _ _ h => h)) (pa_cons (pv 0) (pa_cons (pv 1) pa_nil))
      | 1, hv =>
        cases hv
        refine ⟨f2, rfl, ?_⟩
        have k2 := kept_of (fr := ["_law_thing", "_law_bad", "_law_cell"]) (ws := [x, .ref bp, .int c]) (js := [11, 4, 5]) z (sm _ _ a2) (sm _ _ b2') (fun y hy e => free _ (by revert y; decide +kernel)) (by decide +kernel) (by decide +kernel) rfl rfl
        have m0 := Int.emod_nonneg c (show (12 : Int) ≠ 0 by decide)
        have m12 := Int.emod_lt_of_pos c (show (0 : Int) < 12 by decide)
        obtain ⟨it, hit⟩ : ∃ it, atI wb (c % 12) = some it := by
          have hg : wb[(c % 12).toNat]? = some (wb[(c % 12).toNat]'(by omega)) := List.getElem?_eq_getElem (by omega)
          generalize wb[(c % 12).toNat]'(by omega) = it at hg
          refine ⟨it, ?_⟩
          rw [show c % 12 = (((c % 12).toNat : Nat) : Int) by omega]
          exact atI_nat hg
        refine door_of (t := fun E => tCall (spNoChance K C NR NP) [] E (tCons (tVar 0) (tCons (tOp (rIxL K) (tVar 1) (tOp (rI (fun _ j => 0 < j) fun i j => .int (i % j)) (tVar 2) (tC (.int 12)))) (tCons (tC .non) tNil)))) k2 (nscope_by (by decide +kernel)) (fun _ _ => rfl) (fun A outer s H E hr2 => ?_)
          (fun H2 E th2 hE => ⟨x, rfl, .ref bp, rfl, .int c, rfl, c, 12, rfl, rfl, (show (0 : Int) < 12 by decide), bp, wb, c % 12, it, rfl, rfl, SqL.of (th2 _ _ (th _ _ ebp2 (fun _ z => nomatch z) (fun _ z => nomatch z)) (fun _ z => nomatch z) (fun _ z => nomatch z)), hit, x, it, .non, rfl, .inl ⟨rowB_thru th2 hx6, hE⟩⟩)
        exact pe_call (E := E) Gr hr2 (by rfl) gR kR b3 .nil (passes_call (E := E) (takes_of rfl rfl rfl rfl) (fun _ _ _ _ h => h)) (pa_cons (pv 0) (pa_cons (pe_ix ix_list (pv 1) (pe_op op_mod (pv 2) pe_int) (fun _ _ => rfl)) (pa_cons pe_non pa_nil)))
    refine ⟨v, rfl, fun Hz z => ?_⟩
    obtain ⟨f, rfl, dr⟩ := door Hz z
    refine ⟨f, rfl, dr, fun H5 s5 => ⟨rfl, _, rfl, ?_⟩⟩
    rw [decide_eq_true (show V.int ((1 : Nat) : Int) = V.int 1 from rfl)]
    exact iteF ⟨_, rfl, sm.trans (same_thaw z s5)⟩
  · rintro σ H4 ⟨z3', rfl, sm⟩
    exact ⟨_, _, _, rfl, x3.trans (e2'.trans (ExtN.of sm)), t2.ext sm⟩
end
end Hop

set_option Elab.async false
set_option linter.all false
set_option maxRecDepth 100000
set_option exponentiation.threshold 200000
namespace Hop
open PySem L2 HopR NdefX LamX
open C8 (InsC call_isC)
section
variable {P : Program} {w : World} {K : PySem.W.Frag} {mg : Str → Option Value} {base : Heap} {C d : Addr} {es : Array DictEntry} {n : Nat} {HE NN NR NP : Addr}
/-! ### the loop over what is no pace -/
/-- total, through and row_chance, refusing -/
structure Ref (P : Program) (w : World) (K : PySem.W.Frag) (mg : Str → Option Value) (base : Heap) (C NN NR NP ft fh fr : Addr) (gt gh gr : FuncData) (dO : Value) : Prop where
  Gt : FnOk P w K mg base (L2.CX P w) 7 ft gt ["many", "inn", "out"] (spNoTotal K C NN NP)
  gT : mg "total" = some (.ref ft)
  kT : PySem.W.keepIn K (.ref ft) = true
  bT3 : Binds K gt ["many", "inn", "out"] []
  bT2 : Binds K gt ["many", "inn", "out"] [dO]
  Gh : FnOk P w K mg base (L2.CX P w) 7 fh gh ["many", "inn", "out"] (spNoThrough K C NN NP)
  gH : mg "through" = some (.ref fh)
  kH : PySem.W.keepIn K (.ref fh) = true
  bH2 : Binds K gh ["many", "inn", "out"] [dO]
  kbI : ∃ i2, KBn K gh ["many", "inn", "out"] 1 ["inn"] (fun us ws => us ++ ws ++ i2) (fun vs zs => vs ++ zs ++ [.non])
  kbO : ∃ i2, KBn K gh ["many", "inn", "out"] 1 ["out"] (fun us ws => us ++ i2 ++ ws) (fun vs zs => vs ++ [.non] ++ zs)
  Gr : FnOk P w K mg base (L2.CX P w) 7 fr gr ["row", "inn", "out"] (spNoChance K C NR NP)
  gR : mg "row_chance" = some (.ref fr)
  kR : PySem.W.keepIn K (.ref fr) = true
  bR3 : Binds K gr ["row", "inn", "out"] []
  bR2 : Binds K gr ["row", "inn", "out"] [dO]
  rO : RelV .non dO
set_option maxHeartbeats 8000000 in
theorem st_bad {fL cL tb : Addr} {A : Around} {outer : List Env} {s : Shared} {H : Hp} {E : XK} {ft fh fr fcl : Addr} {gt gh gr gcl : FuncData} {dO : Value} (TB : TabB base mg cL tb) (Nc : Fn K mg "_law_class_of" sClass ["_law_call"] fcl gcl)
   (Gcl : FnOk P w K mg base CX0 9 fcl gcl ["_law_call"] (spClass P w K mg base 8 NP 2)) (Rf : Ref P w K mg base C NN NR NP ft fh fr gt gh gr dO)
   (hr : Room 9 (A.deeper (PyProof.Rows.envOfC "law" (defScope sLaw) s.heap.objs.size fL (.ref cL)))) :
   ∃ t, PS (cxOf CX0 P w K mg base nLaw "law" (defScope sLaw) fL (.ref cL) A outer s H E).nox ((defBody sLaw).getD 7 (.Pass ⟨0, 0, 0, 0⟩)) t ∧
     ∀ (D : Ends) (H1 : Hp) (y0 y1 y2 y3 y5 y8 y9 y11 : Option V) (bp : Addr) (gx : V) (gq : Rat) (m : Nat) (bs : List Bool) (wb : List V), H1 bp = some (.lst wb) → (∀ x ∈ wb, NoPc K C H1 x) → Pw C H1 gx gq → m ≤ 39 → Row bs → Tabs [(tb, qLam)] H1 →
       (∀ (z2 z3 z9 : Option V) (H2 : Hp), ExtN H1 H2 → Tabs [(tb, qLam)] H2 → D.nx [y0, y1, z2, z3, some (.ref bp), y5, some gx, some (wv m), y8, z9, some (.str (tx bs)), y11] H2) →
       t D [y0, y1, y2, y3, some (.ref bp), y5, some gx, some (wv m), y8, y9, some (.str (tx bs)), y11] H1 := by
  obtain ⟨Gt, gT, kT, bT3, bT2, Gh, gH, kH, bH2, ⟨iI, kbI⟩, ⟨iO, kbO⟩, Gr, gR, kR, bR3, bR2, rO⟩ := Rf
  have nd := scLaw.nd
  have hu' := hu66 hr
  have hu64 : (A.deeper (PyProof.Rows.envOfC "law" (defScope sLaw) s.heap.objs.size fL (.ref cL))).units + 64 < cLine := by omega
  have hu : ∀ p ∈ [(tb, qLam)], p.1 = tb → p.2 = qLam := fun p hp _ => by rw [List.mem_singleton.mp hp]
  refine ⟨_, ps_for PassesOwn.never rfl (pi_list (pv 4)) (pg_name (i := 9) nd rfl (.inr rfl))
      (pss_cons (ps_set (i := 2) nd rfl (.inl rfl) (pe_lst pa_nil))
      (pss_cons (ps_expr (pe_bm PySem.F.plainAttrs_list PySem.F.slot_list_append PySem.F.type_list_append mt_append (pv 2) (pa_cons (pe_lamF (T := [(tb, qLam)]) TB rfl (List.mem_cons_self ..) hu rfl (lamS_by (sc := defScope sLaw) (by decide +kernel))) pa_nil)))
      (pss_cons (ps_expr (pe_bm PySem.F.plainAttrs_list PySem.F.slot_list_append PySem.F.type_list_append mt_append (pv 2) (pa_cons (pe_lamF (T := [(tb, qLam)]) TB rfl (List.mem_cons_self ..) hu rfl (lamS_by (sc := defScope sLaw) (by decide +kernel))) pa_nil)))
      (pss_cons (ps_expr (pe_bm PySem.F.plainAttrs_list PySem.F.slot_list_append PySem.F.type_list_append mt_append (pv 2) (pa_cons (pe_lamF (T := [(tb, qLam)]) TB rfl (List.mem_cons_self ..) hu rfl (lamS_by (sc := defScope sLaw) (by decide +kernel))) pa_nil)))
      (pss_cons (ps_expr (pe_bm PySem.F.plainAttrs_list PySem.F.slot_list_append PySem.F.type_list_append mt_append (pv 2) (pa_cons (pe_lamF (T := [(tb, qLam)]) TB rfl (List.mem_cons_self ..) hu rfl (lamS_by (sc := defScope sLaw) (by decide +kernel))) pa_nil)))
      (pss_cons (ps_expr (pe_bm PySem.F.plainAttrs_list PySem.F.slot_list_append PySem.F.type_list_append mt_append (pv 2) (pa_cons (pe_lamF (T := [(tb, qLam)]) TB rfl (List.mem_cons_self ..) hu rfl (lamS_by (sc := defScope sLaw) (by decide +kernel))) pa_nil)))
      (pss_cons (ps_expr (pe_bm PySem.F.plainAttrs_list PySem.F.slot_list_append PySem.F.type_list_append mt_append (pv 2) (pa_cons (pe_lamF (T := [(tb, qLam)]) TB rfl (List.mem_cons_self ..) hu rfl (lamS_by (sc := defScope sLaw) (by decide +kernel))) pa_nil)))
      (pss_cons (ps_expr (pe_bm PySem.F.plainAttrs_list PySem.F.slot_list_append PySem.F.type_list_append mt_append (pv 2) (pa_cons (pe_lamF (T := [(tb, qLam)]) TB rfl (List.mem_cons_self ..) hu rfl (lamS_by (sc := defScope sLaw) (by decide +kernel))) pa_nil)))
      (pss_one (ps_if (pt_cmpR (op_neD hu64) (pe_lcF (own := [("_law_door", 3)]) (g := gName 3) rfl nd (fun _ => rfl) rfl (pi_list (pv 2)) (blkOk_by (own := [("_law_door", 3)]) (N := nLaw) (sc := defScope sLaw) (by decide +kernel)) (fun _ _ => rfl)
          (fun _ _ _ _ _ => pg_name (i := 3) nd rfl (Or.inl rfl))
          (fun _ _ _ _ _ => pts_one (pt_cmpR op_ne (pe_call Gcl hr (by rfl) Nc.g Nc.F.kp Nc.b .nil pass0 (pa_cons (pv 3) pa_nil)) pe_int (nomark _)))
          (fun _ _ _ _ _ => pv 3)) (pe_lst pa_nil) (nomark _)) (pss_one (ps_ret pe_bl)) pss_nil)))))))))), ?_⟩
  intro D H1 y0 y1 y2 y3 y5 y8 y9 y11 bp gx gq m bs wb ebp hno hpw hm hR hT hD
  have up1 : V.int (1 + (m : Int)) = wv (m + 1) := by
    show V.int (1 + (m : Int)) = V.int ((m + 1 : Nat) : Int)
    rw [show (1 : Int) + (m : Int) = ((m + 1 : Nat) : Int) by omega]
  refine ⟨.ref bp, rfl, bp, rfl, ⟨_, SqL.of ebp⟩, ?_⟩
  refine for_list (K := K) (a := bp) (xs := wb) (fun i σ H3 => ∃ z2 z3 z9, σ = [y0, y1, z2, z3, some (.ref bp), y5, some gx, some (wv m), y8, z9, some (.str (tx bs)), y11] ∧ ExtN H1 H3 ∧ Tabs [(tb, qLam)] H3) ⟨_, _, _, rfl, ExtN.refl _, hT⟩ (fun i σ H3 _ ⟨_, _, _, _, xo, _⟩ => SqL.of (ext_lst xo ebp)) ?_ (fun σ H3 ⟨z2, z3, z9, h, xo, tO⟩ => by rw [h]; exact hD z2 z3 z9 H3 xo tO)
  rintro i v σ H3 hx ⟨z2, z3, z9, rfl, xo, tO⟩
  have hv0 : NoPc K C H1 v := hno v (List.mem_of_getElem? hx)
  refine ⟨Nat.zero_le _, fun l nl => ?_⟩
  have e0 : ExtN H3 (upd H3 l (.lst [])) := ExtN.of (same_upd nl)
  have t0 : Tabs [(tb, qLam)] (upd H3 l (.lst [])) := tO.ext (same_upd nl)
  have l0 : upd H3 l (.lst []) l = some (.lst []) := upd_same
  generalize upd H3 l (.lst []) = K0 at e0 t0 l0
  refine ⟨.ref l, rfl, .inl ⟨rfl, _, SqL.of l0⟩, t0, fun f1 c1 pm1 ct1 J1 x1 u1 n1 hf1 hc1 => ?_⟩
  have m1 := x1 _ _ l0 fun _ z => nomatch z
  refine ⟨l, _, _, rfl, rfl, m1, (by show 0 < sizeLine; decide), ?_⟩
  rw [show ([] ++ [V.ref f1] : List V) = [.ref f1] from rfl]
  have e1 : ExtN H3 (upd J1 l (.lst [.ref f1])) := ext_new nl (e0.trans x1)
  have t1 : Tabs [(tb, qLam)] (upd J1 l (.lst [.ref f1])) := tabs_upd m1 u1
  have l1 : upd J1 l (.lst [.ref f1]) l = some (.lst [.ref f1]) := upd_same
  have a1 := fz_upd (o := .lst [.ref f1]) m1 hf1
  have b1 := code_upd (o := .lst [.ref f1]) m1 hc1
  generalize upd J1 l (.lst [.ref f1]) = K1 at e1 t1 l1 a1 b1
  refine ⟨.ref l, rfl, .inl ⟨rfl, _, SqL.of l1⟩, t1, fun f2 c2 pm2 ct2 J2 x2 u2 n2 hf2 hc2 => ?_⟩
  have m2 := x2 _ _ l1 fun _ z => nomatch z
  refine ⟨l, _, _, rfl, rfl, m2, (by show 1 < sizeLine; decide), ?_⟩
  rw [show ([V.ref f1] ++ [V.ref f2] : List V) = [.ref f1, .ref f2] from rfl]
  have e2 : ExtN H3 (upd J2 l (.lst [.ref f1, .ref f2])) := ext_new nl (e1.trans x2)
  have t2 : Tabs [(tb, qLam)] (upd J2 l (.lst [.ref f1, .ref f2])) := tabs_upd m2 u2
  have l2 : upd J2 l (.lst [.ref f1, .ref f2]) l = some (.lst [.ref f1, .ref f2]) := upd_same
  have a1 := fz_upd (o := .lst [.ref f1, .ref f2]) m2 (x2 _ _ a1 fun _ z => nomatch z)
  have b1 := code_upd (o := .lst [.ref f1, .ref f2]) m2 (x2 _ _ b1 codeO_ne)
  have a2 := fz_upd (o := .lst [.ref f1, .ref f2]) m2 hf2
  have b2 := code_upd (o := .lst [.ref f1, .ref f2]) m2 hc2
  generalize upd J2 l (.lst [.ref f1, .ref f2]) = K2 at e2 t2 l2 a1 b1 a2 b2
  refine ⟨.ref l, rfl, .inl ⟨rfl, _, SqL.of l2⟩, t2, fun f3 c3 pm3 ct3 J3 x3 u3 n3 hf3 hc3 => ?_⟩
  have m3 := x3 _ _ l2 fun _ z => nomatch z
  refine ⟨l, _, _, rfl, rfl, m3, (by show 2 < sizeLine; decide), ?_⟩
  rw [show ([V.ref f1, V.ref f2] ++ [V.ref f3] : List V) = [.ref f1, .ref f2, .ref f3] from rfl]
  have e3 : ExtN H3 (upd J3 l (.lst [.ref f1, .ref f2, .ref f3])) := ext_new nl (e2.trans x3)
  have t3 : Tabs [(tb, qLam)] (upd J3 l (.lst [.ref f1, .ref f2, .ref f3])) := tabs_upd m3 u3
  have l3 : upd J3 l (.lst [.ref f1, .ref f2, .ref f3]) l = some (.lst [.ref f1, .ref f2, .ref f3]) := upd_same
  have a1 := fz_upd (o := .lst [.ref f1, .ref f2, .ref f3]) m3 (x3 _ _ a1 fun _ z => nomatch z)
  have b1 := code_upd (o := .lst [.ref f1, .ref f2, .ref f3]) m3 (x3 _ _ b1 codeO_ne)
  have a2 := fz_upd (o := .lst [.ref f1, .ref f2, .ref f3]) m3 (x3 _ _ a2 fun _ z => nomatch z)
  have b2 := code_upd (o := .lst [.ref f1, .ref f2, .ref f3]) m3 (x3 _ _ b2 codeO_ne)
  have a3 := fz_upd (o := .lst [.ref f1, .ref f2, .ref f3]) m3 hf3
  have b3 := code_upd (o := .lst [.ref f1, .ref f2, .ref f3]) m3 hc3
  generalize upd J3 l (.lst [.ref f1, .ref f2, .ref f3]) = K3 at e3 t3 l3 a1 b1 a2 b2 a3 b3
  refine ⟨.ref l, rfl, .inl ⟨rfl, _, SqL.of l3⟩, t3, fun f4 c4 pm4 ct4 J4 x4 u4 n4 hf4 hc4 => ?_⟩
  have m4 := x4 _ _ l3 fun _ z => nomatch z
  refine ⟨l, _, _, rfl, rfl, m4, (by show 3 < sizeLine; decide), ?_⟩
  rw [show ([V.ref f1, V.ref f2, V.ref f3] ++ [V.ref f4] : List V) = [.ref f1, .ref f2, .ref f3, .ref f4] from rfl]
  have e4 : ExtN H3 (upd J4 l (.lst [.ref f1, .ref f2, .ref f3, .ref f4])) := ext_new nl (e3.trans x4)
  have t4 : Tabs [(tb, qLam)] (upd J4 l (.lst [.ref f1, .ref f2, .ref f3, .ref f4])) := tabs_upd m4 u4
  have l4 : upd J4 l (.lst [.ref f1, .ref f2, .ref f3, .ref f4]) l = some (.lst [.ref f1, .ref f2, .ref f3, .ref f4]) := upd_same
  have a1 := fz_upd (o := .lst [.ref f1, .ref f2, .ref f3, .ref f4]) m4 (x4 _ _ a1 fun _ z => nomatch z)
  have b1 := code_upd (o := .lst [.ref f1, .ref f2, .ref f3, .ref f4]) m4 (x4 _ _ b1 codeO_ne)
  have a2 := fz_upd (o := .lst [.ref f1, .ref f2, .ref f3, .ref f4]) m4 (x4 _ _ a2 fun _ z => nomatch z)
  have b2 := code_upd (o := .lst [.ref f1, .ref f2, .ref f3, .ref f4]) m4 (x4 _ _ b2 codeO_ne)
  have a3 := fz_upd (o := .lst [.ref f1, .ref f2, .ref f3, .ref f4]) m4 (x4 _ _ a3 fun _ z => nomatch z)
  have b3 := code_upd (o := .lst [.ref f1, .ref f2, .ref f3, .ref f4]) m4 (x4 _ _ b3 codeO_ne)
  have a4 := fz_upd (o := .lst [.ref f1, .ref f2, .ref f3, .ref f4]) m4 hf4
  have b4 := code_upd (o := .lst [.ref f1, .ref f2, .ref f3, .ref f4]) m4 hc4
  generalize upd J4 l (.lst [.ref f1, .ref f2, .ref f3, .ref f4]) = K4 at e4 t4 l4 a1 b1 a2 b2 a3 b3 a4 b4
  refine ⟨.ref l, rfl, .inl ⟨rfl, _, SqL.of l4⟩, t4, fun f5 c5 pm5 ct5 J5 x5 u5 n5 hf5 hc5 => ?_⟩
  have m5 := x5 _ _ l4 fun _ z => nomatch z
  refine ⟨l, _, _, rfl, rfl, m5, (by show 4 < sizeLine; decide), ?_⟩
  rw [show ([V.ref f1, V.ref f2, V.ref f3, V.ref f4] ++ [V.ref f5] : List V) = [.ref f1, .ref f2, .ref f3, .ref f4, .ref f5] from rfl]
  have e5 : ExtN H3 (upd J5 l (.lst [.ref f1, .ref f2, .ref f3, .ref f4, .ref f5])) := ext_new nl (e4.trans x5)
  have t5 : Tabs [(tb, qLam)] (upd J5 l (.lst [.ref f1, .ref f2, .ref f3, .ref f4, .ref f5])) := tabs_upd m5 u5
  have l5 : upd J5 l (.lst [.ref f1, .ref f2, .ref f3, .ref f4, .ref f5]) l = some (.lst [.ref f1, .ref f2, .ref f3, .ref f4, .ref f5]) := upd_same
  have a1 := fz_upd (o := .lst [.ref f1, .ref f2, .ref f3, .ref f4, .ref f5]) m5 (x5 _ _ a1 fun _ z => nomatch z)
  have b1 := code_upd (o := .lst [.ref f1, .ref f2, .ref f3, .ref f4, .ref f5]) m5 (x5 _ _ b1 codeO_ne)
  have a2 := fz_upd (o := .lst [.ref f1, .ref f2, .ref f3, .ref f4, .ref f5]) m5 (x5 _ _ a2 fun _ z => nomatch z)
  have b2 := code_upd (o := .lst [.ref f1, .ref f2, .ref f3, .ref f4, .ref f5]) m5 (x5 _ _ b2 codeO_ne)
  have a3 := fz_upd (o := .lst [.ref f1, .ref f2, .ref f3, .ref f4, .ref f5]) m5 (x5 _ _ a3 fun _ z => nomatch z)
  have b3 := code_upd (o := .lst [.ref f1, .ref f2, .ref f3, .ref f4, .ref f5]) m5 (x5 _ _ b3 codeO_ne)
  have a4 := fz_upd (o := .lst [.ref f1, .ref f2, .ref f3, .ref f4, .ref f5]) m5 (x5 _ _ a4 fun _ z => nomatch z)
  have b4 := code_upd (o := .lst [.ref f1, .ref f2, .ref f3, .ref f4, .ref f5]) m5 (x5 _ _ b4 codeO_ne)
  have a5 := fz_upd (o := .lst [.ref f1, .ref f2, .ref f3, .ref f4, .ref f5]) m5 hf5
  have b5 := code_upd (o := .lst [.ref f1, .ref f2, .ref f3, .ref f4, .ref f5]) m5 hc5
  generalize upd J5 l (.lst [.ref f1, .ref f2, .ref f3, .ref f4, .ref f5]) = K5 at e5 t5 l5 a1 b1 a2 b2 a3 b3 a4 b4 a5 b5
  refine ⟨.ref l, rfl, .inl ⟨rfl, _, SqL.of l5⟩, t5, fun f6 c6 pm6 ct6 J6 x6 u6 n6 hf6 hc6 => ?_⟩
  have m6 := x6 _ _ l5 fun _ z => nomatch z
  refine ⟨l, _, _, rfl, rfl, m6, (by show 5 < sizeLine; decide), ?_⟩
  rw [show ([V.ref f1, V.ref f2, V.ref f3, V.ref f4, V.ref f5] ++ [V.ref f6] : List V) = [.ref f1, .ref f2, .ref f3, .ref f4, .ref f5, .ref f6] from rfl]
  have e6 : ExtN H3 (upd J6 l (.lst [.ref f1, .ref f2, .ref f3, .ref f4, .ref f5, .ref f6])) := ext_new nl (e5.trans x6)
  have t6 : Tabs [(tb, qLam)] (upd J6 l (.lst [.ref f1, .ref f2, .ref f3, .ref f4, .ref f5, .ref f6])) := tabs_upd m6 u6
  have l6 : upd J6 l (.lst [.ref f1, .ref f2, .ref f3, .ref f4, .ref f5, .ref f6]) l = some (.lst [.ref f1, .ref f2, .ref f3, .ref f4, .ref f5, .ref f6]) := upd_same
  have a1 := fz_upd (o := .lst [.ref f1, .ref f2, .ref f3, .ref f4, .ref f5, .ref f6]) m6 (x6 _ _ a1 fun _ z => nomatch z)
  have b1 := code_upd (o := .lst [.ref f1, .ref f2, .ref f3, .ref f4, .ref f5, .ref f6]) m6 (x6 _ _ b1 codeO_ne)
  have a2 := fz_upd (o := .lst [.ref f1, .ref f2, .ref f3, .ref f4, .ref f5, .ref f6]) m6 (x6 _ _ a2 fun _ z => nomatch z)
  have b2 := code_upd (o := .lst [.ref f1, .ref f2, .ref f3, .ref f4, .ref f5, .ref f6]) m6 (x6 _ _ b2 codeO_ne)
  have a3 := fz_upd (o := .lst [.ref f1, .ref f2, .ref f3, .ref f4, .ref f5, .ref f6]) m6 (x6 _ _ a3 fun _ z => nomatch z)
  have b3 := code_upd (o := .lst [.ref f1, .ref f2, .ref f3, .ref f4, .ref f5, .ref f6]) m6 (x6 _ _ b3 codeO_ne)
  have a4 := fz_upd (o := .lst [.ref f1, .ref f2, .ref f3, .ref f4, .ref f5, .ref f6]) m6 (x6 _ _ a4 fun _ z => nomatch z)
  have b4 := code_upd (o := .lst [.ref f1, .ref f2, .ref f3, .ref f4, .ref f5, .ref f6]) m6 (x6 _ _ b4 codeO_ne)
  have a5 := fz_upd (o := .lst [.ref f1, .ref f2, .ref f3, .ref f4, .ref f5, .ref f6]) m6 (x6 _ _ a5 fun _ z => nomatch z)
  have b5 := code_upd (o := .lst [.ref f1, .ref f2, .ref f3, .ref f4, .ref f5, .ref f6]) m6 (x6 _ _ b5 codeO_ne)
  have a6 := fz_upd (o := .lst [.ref f1, .ref f2, .ref f3, .ref f4, .ref f5, .ref f6]) m6 hf6
  have b6 := code_upd (o := .lst [.ref f1, .ref f2, .ref f3, .ref f4, .ref f5, .ref f6]) m6 hc6
  generalize upd J6 l (.lst [.ref f1, .ref f2, .ref f3, .ref f4, .ref f5, .ref f6]) = K6 at e6 t6 l6 a1 b1 a2 b2 a3 b3 a4 b4 a5 b5 a6 b6
  refine ⟨.ref l, rfl, .inl ⟨rfl, _, SqL.of l6⟩, t6, fun f7 c7 pm7 ct7 J7 x7 u7 n7 hf7 hc7 => ?_⟩
  have m7 := x7 _ _ l6 fun _ z => nomatch z
  refine ⟨l, _, _, rfl, rfl, m7, (by show 6 < sizeLine; decide), ?_⟩
  rw [show ([V.ref f1, V.ref f2, V.ref f3, V.ref f4, V.ref f5, V.ref f6] ++ [V.ref f7] : List V) = [.ref f1, .ref f2, .ref f3, .ref f4, .ref f5, .ref f6, .ref f7] from rfl]
  have e7 : ExtN H3 (upd J7 l (.lst [.ref f1, .ref f2, .ref f3, .ref f4, .ref f5, .ref f6, .ref f7])) := ext_new nl (e6.trans x7)
  have t7 : Tabs [(tb, qLam)] (upd J7 l (.lst [.ref f1, .ref f2, .ref f3, .ref f4, .ref f5, .ref f6, .ref f7])) := tabs_upd m7 u7
  have l7 : upd J7 l (.lst [.ref f1, .ref f2, .ref f3, .ref f4, .ref f5, .ref f6, .ref f7]) l = some (.lst [.ref f1, .ref f2, .ref f3, .ref f4, .ref f5, .ref f6, .ref f7]) := upd_same
  have a1 := fz_upd (o := .lst [.ref f1, .ref f2, .ref f3, .ref f4, .ref f5, .ref f6, .ref f7]) m7 (x7 _ _ a1 fun _ z => nomatch z)
  have b1 := code_upd (o := .lst [.ref f1, .ref f2, .ref f3, .ref f4, .ref f5, .ref f6, .ref f7]) m7 (x7 _ _ b1 codeO_ne)
  have a2 := fz_upd (o := .lst [.ref f1, .ref f2, .ref f3, .ref f4, .ref f5, .ref f6, .ref f7]) m7 (x7 _ _ a2 fun _ z => nomatch z)
  have b2 := code_upd (o := .lst [.ref f1, .ref f2, .ref f3, .ref f4, .ref f5, .ref f6, .ref f7]) m7 (x7 _ _ b2 codeO_ne)
  have a3 := fz_upd (o := .lst [.ref f1, .ref f2, .ref f3, .ref f4, .ref f5, .ref f6, .ref f7]) m7 (x7 _ _ a3 fun _ z => nomatch z)
  have b3 := code_upd (o := .lst [.ref f1, .ref f2, .ref f3, .ref f4, .ref f5, .ref f6, .ref f7]) m7 (x7 _ _ b3 codeO_ne)
  have a4 := fz_upd (o := .lst [.ref f1, .ref f2, .ref f3, .ref f4, .ref f5, .ref f6, .ref f7]) m7 (x7 _ _ a4 fun _ z => nomatch z)
  have b4 := code_upd (o := .lst [.ref f1, .ref f2, .ref f3, .ref f4, .ref f5, .ref f6, .ref f7]) m7 (x7 _ _ b4 codeO_ne)
  have a5 := fz_upd (o := .lst [.ref f1, .ref f2, .ref f3, .ref f4, .ref f5, .ref f6, .ref f7]) m7 (x7 _ _ a5 fun _ z => nomatch z)
  have b5 := code_upd (o := .lst [.ref f1, .ref f2, .ref f3, .ref f4, .ref f5, .ref f6, .ref f7]) m7 (x7 _ _ b5 codeO_ne)
  have a6 := fz_upd (o := .lst [.ref f1, .ref f2, .ref f3, .ref f4, .ref f5, .ref f6, .ref f7]) m7 (x7 _ _ a6 fun _ z => nomatch z)
  have b6 := code_upd (o := .lst [.ref f1, .ref f2, .ref f3, .ref f4, .ref f5, .ref f6, .ref f7]) m7 (x7 _ _ b6 codeO_ne)
  have a7 := fz_upd (o := .lst [.ref f1, .ref f2, .ref f3, .ref f4, .ref f5, .ref f6, .ref f7]) m7 hf7
  have b7 := code_upd (o := .lst [.ref f1, .ref f2, .ref f3, .ref f4, .ref f5, .ref f6, .ref f7]) m7 hc7
  generalize upd J7 l (.lst [.ref f1, .ref f2, .ref f3, .ref f4, .ref f5, .ref f6, .ref f7]) = K7 at e7 t7 l7 a1 b1 a2 b2 a3 b3 a4 b4 a5 b5 a6 b6 a7 b7
  have x1K : ExtN H1 K7 := xo.trans e7
  have hvK : NoPc K C K7 v := nopc_thru (thru_ext x1K) hv0
  have hgK : Pw C K7 gx gq := pw_thru (thru_ext x1K) hpw
  refine ⟨.ref l, rfl, l, rfl, ⟨_, SqL.of l7⟩, fun Hz z Da hD2 => ?_⟩
  have z : Froze (cellsFrom (s.heap.objs.size + 1) (defScope sLaw).names []) nLaw (defScope sLaw) [y0, y1, some (.ref l), z3, some (.ref bp), y5, some gx, some (wv m), y8, some v, some (.str (tx bs)), y11] K7 Hz := z
  have free : ∀ y, (defScope sLaw).names.lookup y = some .cell → ∃ c, (cellsFrom (s.heap.objs.size + 1) (defScope sLaw).names []).lookup y = some c := fun y h => cell_has h
  have th : Thru K7 Hz := thru_same z.same
  have hvz := nopc_thru th hvK
  have hgz := pw_thru th hgK
  have D1 : Door P w K mg base 8 NP Hz f1 := by
    have kk := kept_of (fr := ["_law_many", "_law_pace_here"]) (ws := [wv m, v]) (js := [7, 9]) z a1 b1 (fun y hy e => free _ (by revert y; decide +kernel)) (by decide +kernel) (by decide +kernel) rfl rfl
    refine door_of kk (nscope_by (by decide +kernel)) (fun _ _ => rfl) (fun A outer s H E hr2 => pe_call (E := E) Gt hr2 (by rfl) gT kT bT2 (.cons rO .nil) (passes_call (E := E) (takes_of rfl rfl rfl rfl) (fun _ _ _ _ h => h)) (pa_cons (pv 0) (pa_cons (pv 1) pa_nil))) (fun H2 E th2 hE => ?_)
    have hv2 := nopc_thru th2 hvz
    have hg2 := pw_thru th2 hgz
    exact ⟨wv m, rfl, v, rfl, wv m, v, .non, rfl, .inr ⟨m, rfl, by omega, .inl hv2, hE⟩⟩
  have D2 : Door P w K mg base 8 NP Hz f2 := by
    have kk := kept_of (fr := ["_law_many", "_law_good", "_law_pace_here"]) (ws := [wv m, gx, v]) (js := [7, 6, 9]) z a2 b2 (fun y hy e => free _ (by revert y; decide +kernel)) (by decide +kernel) (by decide +kernel) rfl rfl
    refine door_of kk (nscope_by (by decide +kernel)) (fun _ _ => rfl) (fun A outer s H E hr2 => pe_call (E := E) Gt hr2 (by rfl) gT kT bT3 .nil (passes_call (E := E) (takes_of rfl rfl rfl rfl) (fun _ _ _ _ h => h)) (pa_cons (pv 0) (pa_cons (pv 1) (pa_cons (pv 2) pa_nil)))) (fun H2 E th2 hE => ?_)
    have hv2 := nopc_thru th2 hvz
    have hg2 := pw_thru th2 hgz
    exact ⟨wv m, rfl, gx, rfl, v, rfl, wv m, gx, v, rfl, .inr ⟨m, rfl, by omega, .inr ⟨⟨gq, hg2⟩, hv2⟩, hE⟩⟩
  have D3 : Door P w K mg base 8 NP Hz f3 := by
    have kk := kept_of (fr := ["_law_many", "_law_pace_here"]) (ws := [wv m, v]) (js := [7, 9]) z a3 b3 (fun y hy e => free _ (by revert y; decide +kernel)) (by decide +kernel) (by decide +kernel) rfl rfl
    refine door_of kk (nscope_by (by decide +kernel)) (fun _ _ => rfl) (fun A outer s H E hr2 => pe_callN (E := E) Gh hr2 (by rfl) gH kH kbI (passes_call (E := E) (takes_of rfl rfl rfl rfl) (fun _ _ _ _ h => h)) (pa_cons (pe_op op_add pe_int (pv 0)) pa_nil) (pk_cons (pv 1) pk_nil)) (fun H2 E th2 hE => ?_)
    have hv2 := nopc_thru th2 hvz
    have hg2 := pw_thru th2 hgz
    exact ⟨wv m, rfl, 1, (m : Int), rfl, rfl, v, rfl, rfl, rfl, _, v, .non, rfl, .inr ⟨m + 1, up1, by omega, by omega, .inl hv2, hE⟩⟩
  have D4 : Door P w K mg base 8 NP Hz f4 := by
    have kk := kept_of (fr := ["_law_many", "_law_pace_here"]) (ws := [wv m, v]) (js := [7, 9]) z a4 b4 (fun y hy e => free _ (by revert y; decide +kernel)) (by decide +kernel) (by decide +kernel) rfl rfl
    refine door_of kk (nscope_by (by decide +kernel)) (fun _ _ => rfl) (fun A outer s H E hr2 => pe_callN (E := E) Gh hr2 (by rfl) gH kH kbO (passes_call (E := E) (takes_of rfl rfl rfl rfl) (fun _ _ _ _ h => h)) (pa_cons (pe_op op_add pe_int (pv 0)) pa_nil) (pk_cons (pv 1) pk_nil)) (fun H2 E th2 hE => ?_)
    have hv2 := nopc_thru th2 hvz
    have hg2 := pw_thru th2 hgz
    exact ⟨wv m, rfl, 1, (m : Int), rfl, rfl, v, rfl, rfl, rfl, _, .non, v, rfl, .inr ⟨m + 1, up1, by omega, by omega, .inr ⟨⟨1, .inl ⟨rfl, rfl⟩⟩, hv2⟩, hE⟩⟩
  have D5 : Door P w K mg base 8 NP Hz f5 := by
    have kk := kept_of (fr := ["_law_row_here", "_law_pace_here"]) (ws := [.str (tx bs), v]) (js := [10, 9]) z a5 b5 (fun y hy e => free _ (by revert y; decide +kernel)) (by decide +kernel) (by decide +kernel) rfl rfl
    refine door_of kk (nscope_by (by decide +kernel)) (fun _ _ => rfl) (fun A outer s H E hr2 => pe_call (E := E) Gr hr2 (by rfl) gR kR bR2 (.cons rO .nil) (passes_call (E := E) (takes_of rfl rfl rfl rfl) (fun _ _ _ _ h => h)) (pa_cons (pv 0) (pa_cons (pv 1) pa_nil))) (fun H2 E th2 hE => ?_)
    have hv2 := nopc_thru th2 hvz
    have hg2 := pw_thru th2 hgz
    exact ⟨.str (tx bs), rfl, v, rfl, .str (tx bs), v, .non, rfl, .inr ⟨bs, rfl, hR, .inl hv2, hE⟩⟩
  have D6 : Door P w K mg base 8 NP Hz f6 := by
    have kk := kept_of (fr := ["_law_row_here", "_law_good", "_law_pace_here"]) (ws := [.str (tx bs), gx, v]) (js := [10, 6, 9]) z a6 b6 (fun y hy e => free _ (by revert y; decide +kernel)) (by decide +kernel) (by decide +kernel) rfl rfl
    refine door_of kk (nscope_by (by decide +kernel)) (fun _ _ => rfl) (fun A outer s H E hr2 => pe_call (E := E) Gr hr2 (by rfl) gR kR bR3 .nil (passes_call (E := E) (takes_of rfl rfl rfl rfl) (fun _ _ _ _ h => h)) (pa_cons (pv 0) (pa_cons (pv 1) (pa_cons (pv 2) pa_nil)))) (fun H2 E th2 hE => ?_)
    have hv2 := nopc_thru th2 hvz
    have hg2 := pw_thru th2 hgz
    exact ⟨.str (tx bs), rfl, gx, rfl, v, rfl, .str (tx bs), gx, v, rfl, .inr ⟨bs, rfl, hR, .inr ⟨⟨gq, hg2⟩, hv2⟩, hE⟩⟩
  have D7 : Door P w K mg base 8 NP Hz f7 := by
    have kk := kept_of (fr := ["_law_row_here", "_law_pace_here"]) (ws := [.str (tx bs), v]) (js := [10, 9]) z a7 b7 (fun y hy e => free _ (by revert y; decide +kernel)) (by decide +kernel) (by decide +kernel) rfl rfl
    refine door_of kk (nscope_by (by decide +kernel)) (fun _ _ => rfl) (fun A outer s H E hr2 => pe_call (E := E) Gr hr2 (by rfl) gR kR bR3 .nil (passes_call (E := E) (takes_of rfl rfl rfl rfl) (fun _ _ _ _ h => h)) (pa_cons (pv 0) (pa_cons (pv 1) (pa_cons (pv 1) pa_nil)))) (fun H2 E th2 hE => ?_)
    have hv2 := nopc_thru th2 hvz
    have hg2 := pw_thru th2 hgz
    exact ⟨.str (tx bs), rfl, v, rfl, v, rfl, .str (tx bs), v, v, rfl, .inr ⟨bs, rfl, hR, .inl hv2, hE⟩⟩
  have lz := z.same _ _ l7
  have door : ∀ (j : Nat) (y : V), ([.ref f1, .ref f2, .ref f3, .ref f4, .ref f5, .ref f6, .ref f7] : List V)[j]? = some y → ∃ f, y = .ref f ∧ Door P w K mg base 8 NP Hz f := fun j y hy => by
    match j, hy with
    | 0, hy => cases hy; exact ⟨f1, rfl, D1⟩
    | 1, hy => cases hy; exact ⟨f2, rfl, D2⟩
    | 2, hy => cases hy; exact ⟨f3, rfl, D3⟩
    | 3, hy => cases hy; exact ⟨f4, rfl, D4⟩
    | 4, hy => cases hy; exact ⟨f5, rfl, D5⟩
    | 5, hy => cases hy; exact ⟨f6, rfl, D6⟩
    | 6, hy => cases hy; exact ⟨f7, rfl, D7⟩
  refine lc_list (K := K) (a := l) (xs := [.ref f1, .ref f2, .ref f3, .ref f4, .ref f5, .ref f6, .ref f7]) (fun j H4 => Same Hz H4 ∧ H4 Da = some (.lst [])) ⟨same_upd hD2, upd_same⟩ (fun j H4 _ ⟨sm, _⟩ => SqL.of (sm _ _ lz)) ?_ ?_
  · rintro j y H4 hy ⟨sm, eD⟩
    obtain ⟨f, rfl, dr⟩ := door j y hy
    refine ⟨rfl, .ref f, rfl, f, rfl, dr.ext (ExtN.of sm), fun H5 s5 => ⟨rfl, _, rfl, ?_⟩⟩
    rw [decide_eq_true (show V.int ((2 : Nat) : Int) = V.int 2 from rfl)]
    exact iteF ⟨sm.trans s5, s5 _ _ eD⟩
  · rintro H4 ⟨sm, eD⟩
    have eD' := thaw_at (frzC_same z sm) eD fun _ z => nomatch z
    have sT := same_thaw z sm
    refine ⟨Nat.zero_le _, fun pe npe => ?_⟩
    refine ⟨.list [], .list [], .lst (SqL.of ((same_upd npe) _ _ eD')) .nil, .lst (SqL.of upd_same) .nil, rfl, rfl, _, rfl, ?_⟩
    rw [show PyData.eqv (.list []) (.list []) = true from rfl]
    exact iteF ⟨_, _, _, rfl, x1K.trans (ExtN.of (sT.trans (same_upd npe))), (t7.ext sT).ext (same_upd npe)⟩
end
end Hop

set_option Elab.async false
set_option linter.all false
set_option maxRecDepth 100000
set_option exponentiation.threshold 200000
namespace Hop
open PySem L2 HopR NdefX LamX
open C8 (InsC call_isC)
section
variable {P : Program} {w : World} {K : PySem.W.Frag} {mg : Str → Option Value} {base : Heap} {C d : Addr} {es : Array DictEntry} {n : Nat} {HE NN NR NP : Addr}
theorem low_one {H : Hp} {x : V} (h : NoNumb K 0 40 H x) : NoNumb K 1 40 H x := h.imp id fun ⟨i, e, z⟩ => ⟨i, e, by omega⟩
/-! ### the loop over what is no number -/
set_option maxHeartbeats 8000000 in
theorem st_none {fL cL tb : Addr} {A : Around} {outer : List Env} {s : Shared} {H : Hp} {E : XK} {ft fh fr fcl : Addr} {gt gh gr gcl : FuncData} {dO : Value} (TB : TabB base mg cL tb) (Nc : Fn K mg "_law_class_of" sClass ["_law_call"] fcl gcl)
   (Gcl : FnOk P w K mg base CX0 9 fcl gcl ["_law_call"] (spClass P w K mg base 8 NN 0)) (Rf : Ref P w K mg base C NN NR NP ft fh fr gt gh gr dO)
   (hr : Room 9 (A.deeper (PyProof.Rows.envOfC "law" (defScope sLaw) s.heap.objs.size fL (.ref cL)))) :
   ∃ t, PS (cxOf CX0 P w K mg base nLaw "law" (defScope sLaw) fL (.ref cL) A outer s H E).nox ((defBody sLaw).getD 6 (.Pass ⟨0, 0, 0, 0⟩)) t ∧
     ∀ (D : Ends) (H1 : Hp) (y0 y1 y2 y3 y7 y8 y9 y10 y11 : Option V) (bp : Addr) (c : Int) (gx : V) (wb : List V), H1 bp = some (.lst wb) → wb.length = 12 → Tabs [(tb, qLam)] H1 →
       (∀ (z2 z3 z8 z9 : Option V) (H2 : Hp), ExtN H1 H2 → Tabs [(tb, qLam)] H2 → D.nx [y0, y1, z2, z3, some (.ref bp), some (.int c), some gx, y7, z8, z9, y10, y11] H2) →
       t D [y0, y1, y2, y3, some (.ref bp), some (.int c), some gx, y7, y8, y9, y10, y11] H1 := by
  obtain ⟨Gt, gT, kT, bT3, bT2, Gh, gH, kH, bH2, ⟨iI, kbI⟩, ⟨iO, kbO⟩, Gr, gR, kR, bR3, bR2, rO⟩ := Rf
  have nd := scLaw.nd
  have hu : ∀ p ∈ [(tb, qLam)], p.1 = tb → p.2 = qLam := fun p hp _ => by rw [List.mem_singleton.mp hp]
  refine ⟨_, ps_for PassesOwn.never rfl (pi_list (pe_lst (pa_cons pe_int (pa_cons (pe_un un_neg pe_int) (pa_cons pe_non (pa_cons pe_bl (pa_cons pe_str (pa_cons (pe_tup (pa_cons pe_int pa_nil)) (pa_cons (pe_lst pa_nil) (pa_cons pe_dnewK (pa_cons (pe_op op_add pe_int (pe_op op_mod (pv 5) (pe_op op_pow pe_int pe_int))) (pa_cons (pe_op op_sub pe_int (pe_op op_pow pe_int pe_int)) (pa_cons pe_bl (pa_cons (pe_lst (pa_cons pe_int pa_nil)) pa_nil)))))))))))))) (pg_name (i := 8) nd rfl (.inr rfl))
      (pss_one (ps_for PassesOwn.never rfl (pi_list (pe_lst (pa_cons (pv 6) (pa_cons (pe_ix ix_list (pv 4) (pe_op op_mod (pv 5) pe_int) (fun _ _ => rfl)) pa_nil)))) (pg_name (i := 9) nd rfl (.inr rfl))
        (pss_cons (ps_set (i := 2) nd rfl (.inl rfl) (pe_lst pa_nil))
        (pss_cons (ps_expr (pe_bm PySem.F.plainAttrs_list PySem.F.slot_list_append PySem.F.type_list_append mt_append (pv 2) (pa_cons (pe_lamF (T := [(tb, qLam)]) TB rfl (List.mem_cons_self ..) hu rfl (lamS_by (sc := defScope sLaw) (by decide +kernel))) pa_nil)))
        (pss_cons (ps_expr (pe_bm PySem.F.plainAttrs_list PySem.F.slot_list_append PySem.F.type_list_append mt_append (pv 2) (pa_cons (pe_lamF (T := [(tb, qLam)]) TB rfl (List.mem_cons_self ..) hu rfl (lamS_by (sc := defScope sLaw) (by decide +kernel))) pa_nil)))
        (pss_cons (ps_expr (pe_bm PySem.F.plainAttrs_list PySem.F.slot_list_append PySem.F.type_list_append mt_append (pv 2) (pa_cons (pe_lamF (T := [(tb, qLam)]) TB rfl (List.mem_cons_self ..) hu rfl (lamS_by (sc := defScope sLaw) (by decide +kernel))) pa_nil)))
        (pss_one (ps_for PassesOwn.never rfl (pi_list (pv 2)) (pg_name (i := 3) nd rfl (.inl rfl)) (pss_one (ps_if (pt_cmpR op_ne (pe_callF (E := E0) Gcl hr (fun _ => rfl) (by rfl) Nc.g Nc.F.kp Nc.b .nil (pa_cons (pv 3) pa_nil)) pe_int (nomark _)) (pss_one (ps_ret pe_bl)) pss_nil)))))))))), ?_⟩
  intro D H1 y0 y1 y2 y3 y7 y8 y9 y10 y11 bp c gx wb ebp hwb hT hD
  have p20 : (0 : Int) < 10 ^ 20 := by decide
  have f0 : 0 ≤ c % 10 ^ 20 := Int.emod_nonneg _ (by decide)
  have m0 := Int.emod_nonneg c (show (12 : Int) ≠ 0 by decide)
  have m12 := Int.emod_lt_of_pos c (show (0 : Int) < 12 by decide)
  obtain ⟨it, hit⟩ : ∃ it, atI wb (c % 12) = some it := by
    have hg : wb[(c % 12).toNat]? = some (wb[(c % 12).toNat]'(by omega)) := List.getElem?_eq_getElem (by omega)
    generalize wb[(c % 12).toNat]'(by omega) = it at hg
    refine ⟨it, ?_⟩
    rw [show c % 12 = (((c % 12).toNat : Nat) : Int) by omega]
    exact atI_nat hg
  refine ⟨1, rfl, (by show 1 ≤ sizeLine; decide), fun tC nC => ⟨Nat.zero_le _, fun lC nlC => fun dF nF => ⟨.int c, rfl, 10, 20, rfl, rfl, ⟨by decide, by decide, by decide⟩, c, 10 ^ 20, rfl, rfl, p20, 42, _, rfl, rfl, 10, 20, rfl, rfl, ⟨by decide, by decide, by decide⟩, 0, _, rfl, rfl, (by show 1 ≤ sizeLine; decide), fun l3 n3 => ⟨(by show 12 ≤ sizeLine; decide), fun lP nP => ?_⟩⟩⟩⟩
  have w4 := same_upd (o := .tup [.int 3]) nC
  have eC : upd H1 tC (.tup [.int 3]) tC = some (.tup [.int 3]) := upd_same
  generalize upd H1 tC (.tup [.int 3]) = G4 at w4 eC nlC nF n3 nP
  have w5 := same_upd (o := .lst []) nlC
  have elC : upd G4 lC (.lst []) lC = some (.lst []) := upd_same
  generalize upd G4 lC (.lst []) = G5 at w5 elC nF n3 nP
  have w6 := same_upd (o := .dK []) nF
  have eF : upd G5 dF (.dK []) dF = some (.dK []) := upd_same
  generalize upd G5 dF (.dK []) = G6 at w6 eF n3 nP
  have w7 := same_upd (o := .lst [.int 3]) n3
  have e37 : upd G6 l3 (.lst [.int 3]) l3 = some (.lst [.int 3]) := upd_same
  generalize upd G6 l3 (.lst [.int 3]) = G7 at w7 e37 nP
  have w8 := same_upd (o := .lst [.int 41, .int (-1), .non, .bl true, .str "3", .ref tC, .ref lC, .ref dF, .int (42 + c % 10 ^ 20), .int (0 - 10 ^ 20), .bl false, .ref l3]) nP
  have e8 : upd G7 lP (.lst [.int 41, .int (-1), .non, .bl true, .str "3", .ref tC, .ref lC, .ref dF, .int (42 + c % 10 ^ 20), .int (0 - 10 ^ 20), .bl false, .ref l3]) lP = some (.lst [.int 41, .int (-1), .non, .bl true, .str "3", .ref tC, .ref lC, .ref dF, .int (42 + c % 10 ^ 20), .int (0 - 10 ^ 20), .bl false, .ref l3]) := upd_same
  have sAll := w4.trans (w5.trans (w6.trans (w7.trans w8)))
  have allN : ∀ x ∈ ([.int 41, .int (-1), .non, .bl true, .str "3", .ref tC, .ref lC, .ref dF, .int (42 + c % 10 ^ 20), .int (0 - 10 ^ 20), .bl false, .ref l3] : List V), NoNumb K 0 40 (upd G7 lP (.lst [.int 41, .int (-1), .non, .bl true, .str "3", .ref tC, .ref lC, .ref dF, .int (42 + c % 10 ^ 20), .int (0 - 10 ^ 20), .bl false, .ref l3])) x := by
    intro x hx
    simp only [List.mem_cons, List.not_mem_nil, or_false] at hx
    rcases hx with rfl | rfl | rfl | rfl | rfl | rfl | rfl | rfl | rfl | rfl | rfl | rfl
    · exact .inr ⟨41, rfl, .inr (by decide)⟩
    · exact .inr ⟨-1, rfl, .inl (by decide)⟩
    · exact .inl odd_non
    · exact .inl odd_bl
    · exact .inl odd_str
    · exact .inl (odd_tup ((w5.trans (w6.trans (w7.trans w8))) _ _ eC))
    · exact .inl (odd_lst ((w6.trans (w7.trans w8)) _ _ elC))
    · exact .inl (odd_dK ((w7.trans w8) _ _ eF))
    · exact .inr ⟨42 + c % 10 ^ 20, rfl, .inr (by omega)⟩
    · exact .inr ⟨0 - 10 ^ 20, rfl, .inl (by decide)⟩
    · exact .inl odd_bl
    · exact .inl (odd_lst (w8 _ _ e37))
  refine ⟨lP, rfl, ⟨_, SqL.of e8⟩, ?_⟩
  refine for_list (K := K) (a := lP) (xs := [.int 41, .int (-1), .non, .bl true, .str "3", .ref tC, .ref lC, .ref dF, .int (42 + c % 10 ^ 20), .int (0 - 10 ^ 20), .bl false, .ref l3]) (fun i σ H3 => ∃ z2 z3 z8 z9, σ = [y0, y1, z2, z3, some (.ref bp), some (.int c), some gx, y7, z8, z9, y10, y11] ∧ ExtN (upd G7 lP (.lst [.int 41, .int (-1), .non, .bl true, .str "3", .ref tC, .ref lC, .ref dF, .int (42 + c % 10 ^ 20), .int (0 - 10 ^ 20), .bl false, .ref l3])) H3 ∧ Tabs [(tb, qLam)] H3) ⟨_, _, _, _, rfl, ExtN.refl _, hT.ext sAll⟩ (fun i σ H3 _ ⟨_, _, _, _, _, xo, _⟩ => SqL.of (ext_lst xo e8)) ?_ (fun σ H3 ⟨z2, z3, z8, z9, h, xo, tO⟩ => by rw [h]; exact hD z2 z3 z8 z9 H3 ((ExtN.of sAll).trans xo) tO)
  rintro i x σ HA hx ⟨z2, z3, z8, z9, rfl, xA, tA⟩
  have hxA : NoNumb K 0 40 HA x := nonumb_thru (thru_ext xA) (allN x (List.mem_of_getElem? hx))
  have ebpA : HA bp = some (.lst wb) := ext_lst ((ExtN.of sAll).trans xA) ebp
  refine ⟨gx, rfl, .ref bp, rfl, .int c, rfl, c, 12, rfl, rfl, (show (0 : Int) < 12 by decide), bp, wb, c % 12, it, rfl, rfl, SqL.of ebpA, hit, (by show 2 ≤ sizeLine; decide), fun lq nlq => ?_⟩
  have sq := same_upd (o := .lst [gx, it]) nlq
  have eq : upd HA lq (.lst [gx, it]) lq = some (.lst [gx, it]) := upd_same
  have hxB : NoNumb K 0 40 (upd HA lq (.lst [gx, it])) x := nonumb_thru (thru_same sq) hxA
  have tB := tA.ext sq
  refine ⟨lq, rfl, ⟨_, SqL.of eq⟩, ?_⟩
  have xB : ExtN (upd G7 lP (.lst [.int 41, .int (-1), .non, .bl true, .str "3", .ref tC, .ref lC, .ref dF, .int (42 + c % 10 ^ 20), .int (0 - 10 ^ 20), .bl false, .ref l3])) (upd HA lq (.lst [gx, it])) := xA.trans (ExtN.of sq)
  generalize upd HA lq (.lst [gx, it]) = HB at eq hxB tB xB
  refine for_list (K := K) (a := lq) (xs := [gx, it]) (fun i σ H3 => ∃ z2 z3 z9, σ = [y0, y1, z2, z3, some (.ref bp), some (.int c), some gx, y7, some x, z9, y10, y11] ∧ ExtN HB H3 ∧ Tabs [(tb, qLam)] H3) ⟨_, _, _, rfl, ExtN.refl _, tB⟩ (fun i σ H3 _ ⟨_, _, _, _, xo, _⟩ => SqL.of (ext_lst xo eq)) ?_ (fun σ H3 ⟨z2, z3, z9, h, xo, tO⟩ => ⟨z2, z3, _, z9, h, xB.trans xo, tO⟩)
  rintro i' v σ H3 hv ⟨z2, z3, z9, rfl, xo, tO⟩
  have hx3 : NoNumb K 0 40 H3 x := nonumb_thru (thru_ext xo) hxB
  refine ⟨Nat.zero_le _, fun l nl => ?_⟩
  have e0 : ExtN H3 (upd H3 l (.lst [])) := ExtN.of (same_upd nl)
  have t0 : Tabs [(tb, qLam)] (upd H3 l (.lst [])) := tO.ext (same_upd nl)
  have l0 : upd H3 l (.lst []) l = some (.lst []) := upd_same
  generalize upd H3 l (.lst []) = K0 at e0 t0 l0
  refine ⟨.ref l, rfl, .inl ⟨rfl, _, SqL.of l0⟩, t0, fun f1 c1 pm1 ct1 J1 x1 u1 nn1 hf1 hc1 => ?_⟩
  have m1 := x1 _ _ l0 fun _ z => nomatch z
  refine ⟨l, _, _, rfl, rfl, m1, (by show 0 < sizeLine; decide), ?_⟩
  rw [show ([] ++ [V.ref f1] : List V) = [.ref f1] from rfl]
  have e1 : ExtN H3 (upd J1 l (.lst [.ref f1])) := ext_new nl (e0.trans x1)
  have t1 : Tabs [(tb, qLam)] (upd J1 l (.lst [.ref f1])) := tabs_upd m1 u1
  have l1 : upd J1 l (.lst [.ref f1]) l = some (.lst [.ref f1]) := upd_same
  have a1 := fz_upd (o := .lst [.ref f1]) m1 hf1
  have b1 := code_upd (o := .lst [.ref f1]) m1 hc1
  generalize upd J1 l (.lst [.ref f1]) = K1 at e1 t1 l1 a1 b1
  refine ⟨.ref l, rfl, .inl ⟨rfl, _, SqL.of l1⟩, t1, fun f2 c2 pm2 ct2 J2 x2 u2 nn2 hf2 hc2 => ?_⟩
  have m2 := x2 _ _ l1 fun _ z => nomatch z
  refine ⟨l, _, _, rfl, rfl, m2, (by show 1 < sizeLine; decide), ?_⟩
  rw [show ([V.ref f1] ++ [V.ref f2] : List V) = [.ref f1, .ref f2] from rfl]
  have e2 : ExtN H3 (upd J2 l (.lst [.ref f1, .ref f2])) := ext_new nl (e1.trans x2)
  have t2 : Tabs [(tb, qLam)] (upd J2 l (.lst [.ref f1, .ref f2])) := tabs_upd m2 u2
  have l2 : upd J2 l (.lst [.ref f1, .ref f2]) l = some (.lst [.ref f1, .ref f2]) := upd_same
  have a1 := fz_upd (o := .lst [.ref f1, .ref f2]) m2 (x2 _ _ a1 fun _ z => nomatch z)
  have b1 := code_upd (o := .lst [.ref f1, .ref f2]) m2 (x2 _ _ b1 codeO_ne)
  have a2 := fz_upd (o := .lst [.ref f1, .ref f2]) m2 hf2
  have b2 := code_upd (o := .lst [.ref f1, .ref f2]) m2 hc2
  generalize upd J2 l (.lst [.ref f1, .ref f2]) = K2 at e2 t2 l2 a1 b1 a2 b2
  refine ⟨.ref l, rfl, .inl ⟨rfl, _, SqL.of l2⟩, t2, fun f3 c3 pm3 ct3 J3 x3 u3 nn3 hf3 hc3 => ?_⟩
  have m3 := x3 _ _ l2 fun _ z => nomatch z
  refine ⟨l, _, _, rfl, rfl, m3, (by show 2 < sizeLine; decide), ?_⟩
  rw [show ([V.ref f1, V.ref f2] ++ [V.ref f3] : List V) = [.ref f1, .ref f2, .ref f3] from rfl]
  have e3 : ExtN H3 (upd J3 l (.lst [.ref f1, .ref f2, .ref f3])) := ext_new nl (e2.trans x3)
  have t3 : Tabs [(tb, qLam)] (upd J3 l (.lst [.ref f1, .ref f2, .ref f3])) := tabs_upd m3 u3
  have l3 : upd J3 l (.lst [.ref f1, .ref f2, .ref f3]) l = some (.lst [.ref f1, .ref f2, .ref f3]) := upd_same
  have a1 := fz_upd (o := .lst [.ref f1, .ref f2, .ref f3]) m3 (x3 _ _ a1 fun _ z => nomatch z)
  have b1 := code_upd (o := .lst [.ref f1, .ref f2, .ref f3]) m3 (x3 _ _ b1 codeO_ne)
  have a2 := fz_upd (o := .lst [.ref f1, .ref f2, .ref f3]) m3 (x3 _ _ a2 fun _ z => nomatch z)
  have b2 := code_upd (o := .lst [.ref f1, .ref f2, .ref f3]) m3 (x3 _ _ b2 codeO_ne)
  have a3 := fz_upd (o := .lst [.ref f1, .ref f2, .ref f3]) m3 hf3
  have b3 := code_upd (o := .lst [.ref f1, .ref f2, .ref f3]) m3 hc3
  generalize upd J3 l (.lst [.ref f1, .ref f2, .ref f3]) = K3 at e3 t3 l3 a1 b1 a2 b2 a3 b3
  have hxK : NoNumb K 0 40 K3 x := nonumb_thru (thru_ext e3) hx3
  refine ⟨.ref l, rfl, l, rfl, ⟨_, SqL.of l3⟩, ?_⟩
  refine for_list (K := K) (a := l) (xs := [.ref f1, .ref f2, .ref f3]) (fun j σ H4 => ∃ z3, σ = [y0, y1, some (.ref l), z3, some (.ref bp), some (.int c), some gx, y7, some x, some v, y10, y11] ∧ Same K3 H4) ⟨_, rfl, Same.refl _⟩ (fun j σ H4 _ ⟨_, _, sm⟩ => SqL.of (sm _ _ l3)) ?_ ?_
  · rintro j y σ H4 hy ⟨z3', rfl, sm⟩
    have door : ∀ Hz, Froze (cellsFrom (s.heap.objs.size + 1) (defScope sLaw).names []) nLaw (defScope sLaw) [y0, y1, some (.ref l), some y, some (.ref bp), some (.int c), some gx, y7, some x, some v, y10, y11] H4 Hz → ∃ f, y = .ref f ∧ Door P w K mg base 8 NN Hz f := fun Hz z => by
      have free : ∀ y, (defScope sLaw).names.lookup y = some .cell → ∃ c, (cellsFrom (s.heap.objs.size + 1) (defScope sLaw).names []).lookup y = some c := fun y h => cell_has h
      have th : Thru K3 Hz := thru_same (sm.trans z.same)
      have hxz := nonumb_thru th hxK
      match j, hy with
      | 0, hy =>
        cases hy
        refine ⟨f1, rfl, ?_⟩
        have kk := kept_of (fr := ["_law_none", "_law_pace_here"]) (ws := [x, v]) (js := [8, 9]) z (sm _ _ a1) (sm _ _ b1) (fun y hy e => free _ (by revert y; decide +kernel)) (by decide +kernel) (by decide +kernel) rfl rfl
        refine door_of kk (nscope_by (by decide +kernel)) (fun _ _ => rfl) (fun A outer s H E hr2 => pe_call (E := E) Gt hr2 (by rfl) gT kT bT2 (.cons rO .nil) (passes_call (E := E) (takes_of rfl rfl rfl rfl) (fun _ _ _ _ h => h)) (pa_cons (pv 0) (pa_cons (pv 1) pa_nil))) (fun H2 E th2 hE => ?_)
        have hx2 := nonumb_thru th2 hxz
        exact ⟨x, rfl, v, rfl, x, v, .non, rfl, .inl ⟨hx2, hE⟩⟩
      | 1, hy =>
        cases hy
        refine ⟨f2, rfl, ?_⟩
        have kk := kept_of (fr := ["_law_none", "_law_pace_here"]) (ws := [x, v]) (js := [8, 9]) z (sm _ _ a2) (sm _ _ b2) (fun y hy e => free _ (by revert y; decide +kernel)) (by decide +kernel) (by decide +kernel) rfl rfl
        refine door_of kk (nscope_by (by decide +kernel)) (fun _ _ => rfl) (fun A outer s H E hr2 => pe_callN (E := E) Gh hr2 (by rfl) gH kH kbO (passes_call (E := E) (takes_of rfl rfl rfl rfl) (fun _ _ _ _ h => h)) (pa_cons (pv 0) pa_nil) (pk_cons (pv 1) pk_nil)) (fun H2 E th2 hE => ?_)
        have hx2 := nonumb_thru th2 hxz
        exact ⟨x, rfl, v, rfl, rfl, rfl, x, .non, v, rfl, .inl ⟨low_one hx2, hE⟩⟩
      | 2, hy =>
        cases hy
        refine ⟨f3, rfl, ?_⟩
        have kk := kept_of (fr := ["_law_pace_here"]) (ws := [v]) (js := [9]) z (sm _ _ a3) (sm _ _ b3) (fun y hy e => free _ (by revert y; decide +kernel)) (by decide +kernel) (by decide +kernel) rfl rfl
        refine door_of kk (nscope_by (by decide +kernel)) (fun _ _ => rfl) (fun A outer s H E hr2 => pe_call (E := E) Gh hr2 (by rfl) gH kH bH2 (.cons rO .nil) (passes_call (E := E) (takes_of rfl rfl rfl rfl) (fun _ _ _ _ h => h)) (pa_cons pe_int (pa_cons (pv 0) pa_nil))) (fun H2 E th2 hE => ?_)
        have hx2 := nonumb_thru th2 hxz
        exact ⟨v, rfl, .int 0, v, .non, rfl, .inl ⟨.inr ⟨0, rfl, .inl (by decide)⟩, hE⟩⟩
    refine ⟨y, rfl, fun Hz z => ?_⟩
    obtain ⟨f, rfl, dr⟩ := door Hz z
    refine ⟨f, rfl, dr, fun H5 s5 => ⟨rfl, _, rfl, ?_⟩⟩
    rw [decide_eq_true (show V.int ((0 : Nat) : Int) = V.int 0 from rfl)]
    exact iteF ⟨_, rfl, sm.trans (same_thaw z s5)⟩
  · rintro σ H4 ⟨z3', rfl, sm⟩
    exact ⟨_, _, _, rfl, xo.trans (e3.trans (ExtN.of sm)), t3.ext sm⟩
end
end Hop

set_option Elab.async false
set_option linter.all false
set_option maxRecDepth 100000
set_option exponentiation.threshold 200000
namespace Hop
open PySem L2 HopR NdefX LamX
open C8 (InsC call_isC)
abbrev sEq : Stmt := inClass (top 24) 7
abbrev sCellAt : Stmt := top 55
section
variable {P : Program} {w : World} {K : PySem.W.Frag} {mg : Str → Option Value} {base : Heap} {C d : Addr} {es : Array DictEntry} {n : Nat}
def spPEq (C : Addr) : Sp := fun vs H Q _ => ∃ a b q r, vs = [.ref a, .ref b] ∧ PA C H a q ∧ PA C H b r ∧ Q (.bl (decide (q = r))) H
theorem scEq : FnScope ["self", "other"] ["self", "other"] (defScope sEq) := ⟨rfl, rfl, rfl, by decide +kernel, rfl, by decide +kernel, by decide +kernel⟩
theorem ok_eq {f : Addr} {fd : FuncData} {k : Nat} (F : Fun K "__eq__" "Part.__eq__" sEq f fd) (T : TxtP K mg C) : FnOk P w K mg base CX0 (k + 1) f fd ["self", "other"] (spPEq C) := by
  refine F.ok scEq (fun vs H Q E h => ?_) (fun cdv A outer s H vs Q E hr h => ?_)
  · obtain ⟨a, b, q, r, rfl, _⟩ := h
    rfl
  · obtain ⟨a, b, q, r, rfl, ⟨dx, ha⟩, ⟨dy, hb⟩, h⟩ := h
    refine ⟨_, pss_one (ps_ret (pe_and (pe_callB (call_isC T.ins) (by rfl) T.isi (by decide +kernel) (pa_cons (pv 1) (pa_cons (pe_glob (v := .ref C) (by rfl) T.mgC rfl) pa_nil)))
      (pe_and (pe_cmpR op_eq (pe_fld (pv 0) rfl) (pe_fld (pv 1) rfl) (nomark _)) (pe_one (pe_cmpR op_eq (pe_fld (pv 0) rfl) (pe_fld (pv 1) rfl) (nomark _)))))), ?_⟩
    refine ⟨.ref b, rfl, b, dy, _, rfl, hb, true, rfl, ?_⟩
    refine ⟨.ref a, rfl, a, C, dx, _, _, rfl, ha, T.ins.cl, T.nT, pf_top q, .ref b, rfl, b, C, dy, _, _, rfl, hb, T.ins.cl, T.nT, pf_top r, rfl, _, rfl, ?_⟩
    by_cases e1 : q.num = r.num
    · rw [decide_eq_true (show V.int q.num = V.int r.num by rw [e1])]
      refine ⟨.ref a, rfl, a, C, dx, _, _, rfl, ha, T.ins.cl, T.nB, pf_bottom q, .ref b, rfl, b, C, dy, _, _, rfl, hb, T.ins.cl, T.nB, pf_bottom r, rfl, ?_⟩
      have e : decide (V.int (q.den : Int) = V.int (r.den : Int)) = decide (q = r) := by
        by_cases e2 : q.den = r.den
        · rw [decide_eq_true (show V.int (q.den : Int) = V.int (r.den : Int) by rw [e2]), decide_eq_true (Rat.ext e1 e2)]
        · rw [decide_eq_false fun z => e2 (by have := V.int.inj z; omega), decide_eq_false fun z => e2 (by rw [z])]
      show Q (.bl (decide (V.int (q.den : Int) = V.int (r.den : Int)))) H
      rw [e]
      exact h
    · rw [decide_eq_false fun z => e1 (V.int.inj z)]
      rw [decide_eq_false (show ¬ q = r from fun z => e1 (by rw [z]))] at h
      exact h
theorem scCell : FnScope ["_law_script", "_law_k"] ["_law_script", "_law_k"] (defScope sCellAt) := ⟨rfl, rfl, rfl, by decide +kernel, rfl, by decide +kernel, by decide +kernel⟩
theorem ok_cell {f : Addr} {fd : FuncData} {k : Nat} (F : Fun K "_law_cell_at" "_law_cell_at" sCellAt f fd) (mL : mg "len" = none) : FnOk P w K mg base CX0 (k + 1) f fd ["_law_script", "_law_k"] (spCellH K) := by
  refine F.ok scCell (fun vs H Q E h => ?_) (fun cdv A outer s H vs Q E hr h => ?_)
  · obtain ⟨a, ns, k, rfl, _⟩ := h
    rfl
  · obtain ⟨a, ns, k, rfl, hS, q⟩ := h
    refine ⟨_, pss_cons (ps_if (pt_cmpR op_lt (pv 1) (pe_callB call_len_seq (by rfl) mL PySem.boot_len (pa_cons (pv 0) pa_nil)) (nomark _)) (pss_one (ps_ret (pe_ix ix_list (pv 0) (pv 1) (fun _ _ => rfl)))) pss_nil) (pss_one (ps_ret pe_int)), ?_⟩
    refine ⟨_, rfl, .ref a, rfl, a, _, rfl, .inl hS, _, _, rfl, rfl, _, rfl, ite2 (fun e => ?_) (fun e => ?_)⟩
    · have e : (k : Int) < ((ns.map V.int).length : Int) := of_decide_eq_true e
      rw [List.length_map] at e
      have hk : k < ns.length := by omega
      exact ⟨.ref a, rfl, .int (k : Int), rfl, a, _, _, .int ns[k], rfl, rfl, hS, atI_nat (by rw [List.getElem?_map, List.getElem?_eq_getElem hk]; rfl), q _⟩
    · exact q 0

theorem part_mon {C : Addr} : ∀ (a b : Addr) (H H' : Hp), Ext H H' → (∃ q, PA C H a q ∧ PA C H b q) → ∃ q, PA C H' a q ∧ PA C H' b q := fun a b H H' e ⟨q, ⟨d1, h1⟩, d2, h2⟩ => ⟨q, ⟨d1, e _ _ h1⟩, d2, e _ _ h2⟩
theorem pa_ext {H H' : Hp} {a : Addr} {q : Rat} (e : ExtN H H') (h : PA C H a q) : PA C H' a q := let ⟨dx, h⟩ := h; ⟨dx, e _ _ h (fun _ z => nomatch z)⟩
theorem alike {H : Hp} {a b : Addr} {q : Rat} (h1 : PA C H a q) (h2 : PA C H b q) : DIns C (fun a b H => ∃ q, PA C H a q ∧ PA C H b q) (.ref a) (.ref b) H := by
  obtain ⟨d1, e1⟩ := h1
  obtain ⟨d2, e2⟩ := h2
  exact ⟨a, b, d1, d2, _, _, rfl, rfl, e1, e2, q, ⟨d1, e1⟩, d2, e2⟩
end
end Hop

set_option Elab.async false
set_option linter.all false
set_option maxRecDepth 100000
set_option exponentiation.threshold 200000
namespace Hop
open PySem L2 HopR NdefX LamX
open C8 (InsC call_isC)
section
variable {P : Program} {w : World} {K : PySem.W.Frag} {mg : Str → Option Value} {base : Heap} {C d : Addr} {es : Array DictEntry} {n : Nat} {HE NN NR NP c3 c4 c5 c6 c7 c8 c9 c10 : Addr}
variable {fi f1 f2 : Addr} {gi g1 g2 : FuncData} {d1 : Value}
variable {ft fh fr fw fe fcl : Addr} {gt gh gr gw ge gcl : FuncData} {dA dB dC dD dO : Value}
variable {xt xo : Addr} {yt yo : FuncData}
variable {fL cL tb : Addr} {ocL kVL dcL pmL ctL : Value} {odL anL : Option Addr} {slL : Array (Option Value)}
def spLaw (K : PySem.W.Frag) (T : List (Addr × Str)) : Sp := fun vs H Q _ => ∃ (a : Addr) (ns : List Int), vs = [.ref a] ∧ SqL K H a (ns.map V.int) ∧ ns.length ≤ 63 ∧ Tabs T H ∧ ∀ H', Q (.bl true) H'
structure LawD (K : PySem.W.Frag) (mg : Str → Option Value) : Prop where
  ce : ∃ r s, Fn K mg "_law_cell_at" sCellAt ["_law_script", "_law_k"] r s
  dr : ∃ r s, Fn K mg "_law_drawn" sDrawn ["_law_cell", "_law_sizes"] r s
  rw : ∃ r s, Fn K mg "_law_row" sLRow ["_law_cell", "_law_most"] r s
  pt : ∃ r s, Fn K mg "_law_part" sLPart ["_law_pace_here"] r s
  lo : ∃ r s, Fn K mg "_law_low" sLLow ["_law_top", "_law_bottom"] r s
  sm : ∃ r s, Fn K mg "_law_small_pace" sLSmall ["_law_cell"] r s
  np : ∃ r s, Fn K mg "_law_no_paces" sNoPcs ["_law_cell"] r s
  th : ∃ r s, Fn K mg "_law_things" sThings [] r s
theorem mono_ins : Mon (DIns C fun a b H => ∃ q, PA C H a q ∧ PA C H b q) := mon_ins part_mon
set_option maxHeartbeats 8000000 in
theorem ok_law (lkL : K.lookup fL = some ⟨ocL, odL, .func (PySem.W.fnOf "law" "law" (defArgs sLaw) (defBody sLaw) (defScope sLaw) .none kVL dcL pmL anL (.ref cL) ctL), slL⟩) (cdL : PySem.W.codeIn K (.ref cL) "law" = true)
    (L : LawD K mg) (Nc : Fn K mg "_law_class_of" sClass ["_law_call"] fcl gcl) (ND : TotDefs K mg C fi f1 f2 ft gi g1 g2 gt d1 dA dB) (NW : WtDefs K mg C fi f1 f2 fw gi g1 g2 gw d1 dC dD) (TD : ThrDefs K mg fh gh) (RD : RowDefs K mg fr gr) (M : OverDefs K mg C xt xo yt yo)
    (bT2 : Binds K gt ["many", "inn", "out"] [dO]) (bH2 : Binds K gh ["many", "inn", "out"] [dO]) (bR2 : Binds K gr ["row", "inn", "out"] [dO]) (rO : RelV .non dO)
    (kbI : ∃ i2, KBn K gh ["many", "inn", "out"] 1 ["inn"] (fun us ws => us ++ ws ++ i2) (fun vs zs => vs ++ zs ++ [.non])) (kbO : ∃ i2, KBn K gh ["many", "inn", "out"] 1 ["out"] (fun us ws => us ++ i2 ++ ws) (fun vs zs => vs ++ [.non] ++ zs))
    (EC : EqC K C fe) (Fe : Fun K "__eq__" "Part.__eq__" sEq fe ge) (be : Binds K ge ["self", "other"] []) (kpt : Kp K C) (T : TxtP K mg C) (TR : TxtR K w mg d es n) (T0 : TxtL mg) (ke : keysAre es) (Z : Ev K mg HE NN NR NP)
    (Y : HopR.Kinds K mg HE NN NR NP c3 c4 c5 c6 c7 c8 c9 c10) (R0 : Raised K NN HE NN NR NP c3 c4 c5 c6 c7 c8 c9 c10 0) (R1 : Raised K NR HE NN NR NP c3 c4 c5 c6 c7 c8 c9 c10 1) (R2 : Raised K NP HE NN NR NP c3 c4 c5 c6 c7 c8 c9 c10 2) (TB : TabB base mg cL tb) :
    FnOk P w K mg base CX0 10 fL (PySem.W.fnOf "law" "law" (defArgs sLaw) (defBody sLaw) (defScope sLaw) .none kVL dcL pmL anL (.ref cL) ctL) ["_law_script"] (spLaw K [(tb, qLam)]) := by
  obtain ⟨q1, p1, Rce⟩ := L.ce
  obtain ⟨q2, p2, Rdr⟩ := L.dr
  obtain ⟨q3, p3, Rrw⟩ := L.rw
  obtain ⟨q4, p4, Rpt⟩ := L.pt
  obtain ⟨q5, p5, Rlo⟩ := L.lo
  obtain ⟨q6, p6, Rsm⟩ := L.sm
  obtain ⟨q7, p7, Rnp⟩ := L.np
  obtain ⟨q8, p8, Rth⟩ := L.th
  have Gce : FnOk P w K mg base CX0 9 q1 p1 ["_law_script", "_law_k"] (spCellH K) := ok_cell Rce.F T.len
  have Gd : FnOk P w K mg base CX0 9 q2 p2 ["_law_cell", "_law_sizes"] (spDrawn K) := ok_drawn Rdr.F T.len T.range
  have Grw : FnOk P w K mg base CX0 9 q3 p3 ["_law_cell", "_law_most"] spRow30 := ok_lrow Rrw.F Rdr TR
  have Gpt : FnOk P w K mg base CX0 9 q4 p4 ["_law_pace_here"] (spLPart C) := ok_lpart Rpt.F ND.M T
  have Gsm : FnOk P w K mg base CX0 9 q6 p6 ["_law_cell"] (spPace 4) := ok_lsmall Rsm.F ⟨_, _, Rdr⟩ ⟨_, _, Rlo⟩ T
  have Gnp : FnOk P w K mg base CX0 9 q7 p7 ["_law_cell"] (spBadP K C) := ok_nopcs Rnp.F ND.M kpt T
  have Gth : FnOk P w K mg base CX0 9 q8 p8 [] (spThings K) := ok_things Rth.F
  have GT : FnOk P w K mg base CX0 9 ft gt ["many", "inn", "out"] (spTotal C) := ok_total ND T T0
  have GH : FnOk P w K mg base CX0 9 fh gh ["many", "inn", "out"] (spThrough C) := ok_through TD ND M T T0
  have GR : FnOk P w K mg base CX0 9 fr gr ["row", "inn", "out"] (spRowChance C) := ok_rowChance RD NW ND M T TR T0
  have Gt : FnOk P w K mg base (L2.CX P w) 7 ft gt ["many", "inn", "out"] (spNoTotal K C NN NP) := ok_nototal ND T Z
  have Gh : FnOk P w K mg base (L2.CX P w) 7 fh gh ["many", "inn", "out"] (spNoThrough K C NN NP) := ok_nothrough TD ND M T Z
  have Gr : FnOk P w K mg base (L2.CX P w) 7 fr gr ["row", "inn", "out"] (spNoChance K C NR NP) := ok_nochance RD NW ND M T TR T0 ke Z
  have G0 : FnOk P w K mg base CX0 9 fcl gcl ["_law_call"] (spClass P w K mg base 8 NN 0) := ok_class Nc.F Y R0 T.isi
  have G1 : FnOk P w K mg base CX0 9 fcl gcl ["_law_call"] (spClass P w K mg base 8 NR 1) := ok_class Nc.F Y R1 T.isi
  have G2 : FnOk P w K mg base CX0 9 fcl gcl ["_law_call"] (spClass P w K mg base 8 NP 2) := ok_class Nc.F Y R2 T.isi
  have GE : FnOk P w K mg base CX0 8 fe ge ["self", "other"] (spPEq C) := ok_eq Fe T
  have GQ : FnOk P w K mg base CX0 8 fe ge ["self", "other"] (spEq fun a b H => ∃ q, PA C H a q ∧ PA C H b q) := GE.imp fun vs H Q E ⟨a, b, e, ⟨q, h1, h2⟩, h⟩ => ⟨a, b, q, q, e, h1, h2, by
    rw [decide_eq_true rfl]
    exact h H Ext.rfl'⟩
  have Rf : Ref P w K mg base C NN NR NP ft fh fr gt gh gr dO := ⟨Gt, ND.g, ND.W.kp, ND.b3, bT2, Gh, TD.g, TD.W.kp, bH2, kbI, kbO, Gr, RD.g, RD.W.kp, RD.b3, bR2, rO⟩
  refine fn_of lkL cdL scLaw (fun vs H Q E h => ?_) (fun A outer s H vs Q E hr h => ?_)
  · obtain ⟨a, ns, rfl, _⟩ := h
    rfl
  · obtain ⟨a, ns, rfl, hS, hlen, hTab, qq⟩ := h
    have nd := scLaw.nd
    obtain ⟨t6, s6, h6⟩ := st_none (E := E) (H := H) (outer := outer) TB Nc G0 Rf hr
    obtain ⟨t7, s7, h7⟩ := st_bad (E := E) (H := H) (outer := outer) TB Nc G2 Rf hr
    obtain ⟨t8, s8, h8⟩ := st_things (E := E) (H := H) (outer := outer) TB Rth Nc Gth G1 Gr RD.g RD.W.kp RD.b3 bR2 rO hr
    refine ⟨_, PSs.nox (pss_cons (ps_set (i := 5) nd rfl (.inr rfl) (pe_call Gce hr (by rfl) Rce.g Rce.F.kp Rce.b .nil pass0 (pa_cons (pv 0) (pa_cons pe_int pa_nil))))
      (pss_cons (ps_set (i := 7) nd rfl (.inr rfl) (pe_ix ix_list (pe_call Gd hr (by rfl) Rdr.g Rdr.F.kp Rdr.b .nil pass0 (pa_cons (pe_op op_fdiv (pv 5) pe_int) (pa_cons (pe_lst (pa_cons pe_int pa_nil)) pa_nil))) pe_int (fun _ _ => rfl)))
      (pss_cons (ps_set (i := 10) nd rfl (.inr rfl) (pe_call Grw hr (by rfl) Rrw.g Rrw.F.kp Rrw.b .nil pass0 (pa_cons (pe_op op_fdiv (pv 5) pe_int) (pa_cons pe_int pa_nil))))
      (pss_cons (ps_set (i := 6) nd rfl (.inr rfl) (pe_call Gpt hr (by rfl) Rpt.g Rpt.F.kp Rpt.b .nil pass0 (pa_cons (pe_call Gsm hr (by rfl) Rsm.g Rsm.F.kp Rsm.b .nil pass0 (pa_cons (pe_op op_fdiv (pv 5) pe_int) pa_nil)) pa_nil)))
      (pss_cons (ps_set (i := 4) nd rfl (.inr rfl) (pe_call Gnp hr (by rfl) Rnp.g Rnp.F.kp Rnp.b .nil pass0 (pa_cons (pv 5) pa_nil)))
      (pss_cons (ps_set (i := 1) nd rfl (.inl rfl) (pe_lst (pa_cons (pe_call GT hr (by rfl) ND.g ND.W.kp bT2 (.cons rO .nil) pass0 (pa_cons (pv 7) (pa_cons (pv 6) pa_nil))) (pa_cons (pe_call GH hr (by rfl) TD.g TD.W.kp TD.b3 .nil pass0 (pa_cons (pe_op op_add pe_int (pv 7)) (pa_cons pe_non (pa_cons (pv 6) pa_nil)))) (pa_cons (pe_call GR hr (by rfl) RD.g RD.W.kp RD.b3 .nil pass0 (pa_cons (pv 10) (pa_cons (pv 6) (pa_cons (pv 6) pa_nil)))) pa_nil)))))
      (pss_cons s6 (pss_cons s7 (pss_cons s8
      (pss_one (ps_ret (pe_cmpR (op_eqG (rcG_list mono_ins (eqG_ins (E := E) GQ EC.eq EC.fn be pass0)) hr) (pe_lst (pa_cons (pe_call GT hr (by rfl) ND.g ND.W.kp bT2 (.cons rO .nil) pass0 (pa_cons (pv 7) (pa_cons (pv 6) pa_nil))) (pa_cons (pe_call GH hr (by rfl) TD.g TD.W.kp TD.b3 .nil pass0 (pa_cons (pe_op op_add pe_int (pv 7)) (pa_cons pe_non (pa_cons (pv 6) pa_nil)))) (pa_cons (pe_call GR hr (by rfl) RD.g RD.W.kp RD.b3 .nil pass0 (pa_cons (pv 10) (pa_cons (pv 6) (pa_cons (pv 6) pa_nil)))) pa_nil)))) (pv 1) (nomark _))))))))))))), ?_⟩
    refine ⟨.ref a, rfl, a, ns, 0, rfl, hS, fun c => ?_⟩
    refine ⟨.int c, rfl, c, 11, rfl, rfl, ⟨by decide, by decide⟩, (by show 1 ≤ sizeLine; decide), fun l2 n2 => ?_⟩
    refine ⟨c / 11, l2, [40], rfl, SqL.of upd_same, ?_, by show 1 ≤ 1000; decide, fun H5 p5 s5 n5 e5 => ?_⟩
    · intro z hz
      rw [List.mem_singleton.mp hz]
      exact ⟨by decide, by decide⟩
    obtain ⟨d0, ed, b0, b1⟩ : ∃ d0 : Int, draws (c / 11) 0 [40] = [d0] ∧ 0 ≤ d0 ∧ d0 < 40 := ⟨_, rfl, dval_ok (by decide)⟩
    rw [ed] at e5
    have sA : Same H H5 := (same_upd n2).trans s5
    refine ⟨p5, _, 0, .int d0, rfl, rfl, SqL.of e5, rfl, ?_⟩
    obtain ⟨m, rfl⟩ : ∃ m : Nat, d0 = (m : Int) := ⟨d0.toNat, by omega⟩
    have hm : m ≤ 39 := by omega
    refine ⟨.int c, rfl, c, 7, rfl, rfl, ⟨by decide, by decide⟩, c / 7, rfl, fun H6 bs s6' hR => ?_⟩
    refine ⟨.int c, rfl, c, 3, rfl, rfl, ⟨by decide, by decide⟩, c / 3, rfl, fun H7 v qv s7' hv => ⟨v, qv, rfl, hv.mono (by decide), fun H8 gx s8' hg8 => ?_⟩⟩
    refine ⟨.int c, rfl, c, rfl, fun H9 bp wb s9 n9 e9 hno hwl => ?_⟩
    have sB : Same H H9 := sA.trans (s6'.trans (s7'.trans (s8'.trans s9)))
    have hg : Pw C H9 gx qv := hg8.same s9
    clear s5 n5 e5 sA s6' s7' hv s8' hg8 s9
    have up1 : V.int (1 + (m : Int)) = wv (m + 1) := by
      show V.int (1 + (m : Int)) = V.int ((m + 1 : Nat) : Int)
      rw [show (1 : Int) + (m : Int) = ((m + 1 : Nat) : Int) by omega]
    refine ⟨wv m, rfl, gx, rfl, m, gx, .non, qv, 1, rfl, by omega, hg, .inl ⟨rfl, rfl⟩, fun _ Ha pa sa na wa => ?_⟩
    refine ⟨wv m, rfl, 1, (m : Int), rfl, rfl, gx, rfl, m + 1, .non, gx, 1, qv, (by rw [← up1]; rfl), by omega, by omega, .inl ⟨rfl, rfl⟩, hg.same sa, fun _ Hb pb sb nb wb' => ?_⟩
    have sab := sa.trans sb
    refine ⟨.str (tx bs), rfl, gx, rfl, gx, rfl, bs, gx, gx, qv, qv, rfl, hR, hg.same sab, hg.same sab, fun Hc pc sc nc wc => ⟨(by show 3 ≤ sizeLine; decide), fun lb nlb => ?_⟩⟩
    have sd := same_upd (o := .lst [.ref pa, .ref pb, .ref pc]) nlb
    have elb : upd Hc lb (.lst [.ref pa, .ref pb, .ref pc]) lb = some (.lst [.ref pa, .ref pb, .ref pc]) := upd_same
    have ea := wa.same ((sb.trans sc).trans sd)
    have eb := wb'.same (sc.trans sd)
    have ec := wc.same sd
    have s9d := sab.trans (sc.trans sd)
    generalize upd Hc lb (.lst [.ref pa, .ref pb, .ref pc]) = Hd at sd elb ea eb ec s9d
    have tD := hTab.ext (sB.trans s9d)
    have ebp := s9d _ _ e9
    have hnoD : ∀ x ∈ wb, NoPc K C Hd x := fun x hx => (hno x hx).same s9d
    have hgD := hg.same s9d
    refine h6 _ _ _ _ _ _ _ _ _ _ _ bp c gx wb ebp hwl tD fun z2 z3 z8 z9 K6 x6 t6' => ?_
    refine h7 _ _ _ _ _ _ _ _ _ _ bp gx qv m bs wb (ext_lst x6 ebp) (fun x hx => nopc_thru (thru_ext x6) (hnoD x hx)) (pw_thru (thru_ext x6) hgD) hm hR t6' fun w2 w3 w9 K7 x7 t7' => ?_
    have x67 := x6.trans x7
    refine h8 _ _ _ _ _ _ _ _ _ _ _ bp c gx qv wb (ext_lst x67 ebp) hwl (fun x hx => nopc_thru (thru_ext x67) (hnoD x hx)) (pw_thru (thru_ext x67) hgD) t7' fun u2 u3 u11 K8 x8 t8' => ?_
    have xx := x67.trans x8
    have hgK := pw_thru (thru_ext xx) hgD
    refine ⟨wv m, rfl, gx, rfl, m, gx, .non, qv, 1, rfl, by omega, hgK, .inl ⟨rfl, rfl⟩, fun _ Ha' pa' sa' na' wa2 => ?_⟩
    refine ⟨wv m, rfl, 1, (m : Int), rfl, rfl, gx, rfl, m + 1, .non, gx, 1, qv, (by rw [← up1]; rfl), by omega, by omega, .inl ⟨rfl, rfl⟩, hgK.same sa', fun _ Hb' pb' sb' nb' wb2 => ?_⟩
    have sab' := sa'.trans sb'
    refine ⟨.str (tx bs), rfl, gx, rfl, gx, rfl, bs, gx, gx, qv, qv, rfl, hR, hgK.same sab', hgK.same sab', fun Hc' pc' sc' nc' wc2 => ⟨(by show 3 ≤ sizeLine; decide), fun lb' nlb' => ?_⟩⟩
    have sd' := same_upd (o := .lst [.ref pa', .ref pb', .ref pc']) nlb'
    have se := sab'.trans (sc'.trans sd')
    refine ⟨.ref lb, rfl, ⟨lb', lb, _, _, rfl, rfl, upd_same, se _ _ (ext_lst xx elb), Prs.cons (alike (wa2.same ((sb'.trans sc').trans sd')) ((pa_ext xx ea).same se)) (Prs.cons (alike (wb2.same (sc'.trans sd')) ((pa_ext xx eb).same se)) (Prs.cons (alike (wc2.same sd') ((pa_ext xx ec).same se)) Prs.nil))⟩, fun H' _ => qq H'⟩
end
end Hop

set_option Elab.async false
set_option linter.all false
set_option maxRecDepth 100000
set_option maxHeartbeats 2000000
namespace Hop
open PySem L2 HopR NdefX LamX
open C8 (InsC call_isC)
theorem kit_tyC {K : PySem.W.Frag} {C : Addr} {T : String} (hd : PySem.W.hasDictIn K C = true) (ht : PySem.W.typeIn K (.ref C) = some (.type "type")) (h : PySem.W.subIn K (.type T) (.ref C) = some false) : PySem.W.kitOne K (.type T) (.ref C) = some false := by
  obtain ⟨cd, hc, _⟩ := PySem.W.any_some hd
  have e2 : ((PySem.W.clsIn K C).isSome && PySem.W.typeIn K (.ref C) == some (.type "type")) = true := by rw [hc, ht] <;> rfl
  unfold PySem.W.kitOne
  have e1 : ¬ ((Value.type T == Value.ref C) = true) := fun z => nomatch (beq_iff_eq.mp z)
  rw [if_neg e1]
  show (if ((PySem.W.clsIn K C).isSome && PySem.W.typeIn K (.ref C) == some (.type "type")) = true then PySem.W.subIn K (.type T) (.ref C) else none) = some false
  rw [if_pos e2]
  exact h
theorem vals_take1 {zs : List V} {ws : List Value} (h : Vals zs ws) : Vals (zs.take 1) (ws.take 1) := by
  cases h with
  | nil => exact .nil
  | cons r h => exact .cons r .nil
theorem vals_drop1 {zs : List V} {ws : List Value} (h : Vals zs ws) : Vals (zs.drop 1) (ws.drop 1) := by
  cases h with
  | nil => exact .nil
  | cons r h => exact h
theorem kwt_inn {K : PySem.W.Frag} {f : Addr} {g : FuncData} (F : FunD K "through" "through" (defArgs sThrough) (defBody sThrough) (defScope sThrough) [.non, .non] [] f g) : ∃ i2, KBn K g ["many", "inn", "out"] 1 ["inn"] (fun us ws => us ++ ws ++ i2) (fun vs zs => vs ++ zs ++ [.non]) := by
  obtain ⟨i2, k2⟩ := F.kbindsD (ps := ["many", "inn", "out"]) 1 ["inn"] (fun us its ws => us ++ ws ++ its.drop 1) (by simp) (fun r1 r2 r3 => (r1.append r3).append (vals_drop1 r2)) (fun T kV doc pm an cdv ct us its ws h1 h2 h3 => match us, its, ws, h1, h2, h3 with | [_], [_, _], [_], _, _, _ => ⟨_, rfl, rfl⟩)
  exact ⟨i2.drop 1, k2⟩
theorem kwt_out {K : PySem.W.Frag} {f : Addr} {g : FuncData} (F : FunD K "through" "through" (defArgs sThrough) (defBody sThrough) (defScope sThrough) [.non, .non] [] f g) : ∃ i2, KBn K g ["many", "inn", "out"] 1 ["out"] (fun us ws => us ++ i2 ++ ws) (fun vs zs => vs ++ [.non] ++ zs) := by
  obtain ⟨i2, k2⟩ := F.kbindsD (ps := ["many", "inn", "out"]) 1 ["out"] (fun us its ws => us ++ its.take 1 ++ ws) (by simp) (fun r1 r2 r3 => (r1.append (vals_take1 r2)).append r3) (fun T kV doc pm an cdv ct us its ws h1 h2 h3 => match us, its, ws, h1, h2, h3 with | [_], [_, _], [_], _, _, _ => ⟨_, rfl, rfl⟩)
  exact ⟨i2.take 1, k2⟩
/-! ### what the top has written -/
theorem all_mk {l : PySem.W.OpenLaw} {w : World} {K : PySem.W.Frag} {h : Heap} {mg : Str → Option Value} {fa : Addr} (X : K.In h) (G : h.Ns mainGlobals mg) (hfa : mg "law" = some (.ref fa)) (own : LamX.OwnTab K fa h)
    {f1 : Addr} {od1 an1 : Option Addr} {sl1 : Array (Option Value)} {oc1 kV1 dc1 pm1 cd1 ct1 : Value}
    {f0 : Addr} {od0 an0 : Option Addr} {sl0 : Array (Option Value)} {oc0 kV0 dc0 pm0 cd0 ct0 : Value}
    {f2 : Addr} {od2 an2 : Option Addr} {sl2 : Array (Option Value)} {oc2 kV2 dc2 pm2 cd2 ct2 : Value}
    {fu1 : Addr} {odu1 anu1 : Option Addr} {slu1 : Array (Option Value)} {ocu1 kVu1 dcu1 pmu1 cdu1 ctu1 : Value}
    {fz1 : Addr} {odz1 anz1 : Option Addr} {slz1 : Array (Option Value)} {ocz1 kVz1 dcz1 pmz1 cdz1 ctz1 : Value}
    {fR1 : Addr} {odR1 anR1 : Option Addr} {slR1 : Array (Option Value)} {ocR1 kVR1 dcR1 pmR1 cdR1 ctR1 : Value}
    {fR2 : Addr} {odR2 anR2 : Option Addr} {slR2 : Array (Option Value)} {ocR2 kVR2 dcR2 pmR2 cdR2 ctR2 : Value}
    {fP1 : Addr} {odP1 anP1 : Option Addr} {slP1 : Array (Option Value)} {ocP1 kVP1 dcP1 pmP1 cdP1 ctP1 : Value}
    {fP2 : Addr} {odP2 anP2 : Option Addr} {slP2 : Array (Option Value)} {ocP2 kVP2 dcP2 pmP2 cdP2 ctP2 : Value}
    {fW1 : Addr} {odW1 anW1 : Option Addr} {slW1 : Array (Option Value)} {ocW1 kVW1 dcW1 pmW1 cdW1 ctW1 : Value}
    {fW2 : Addr} {odW2 anW2 : Option Addr} {slW2 : Array (Option Value)} {ocW2 kVW2 dcW2 pmW2 cdW2 ctW2 : Value}
    {fB1 : Addr} {odB1 anB1 : Option Addr} {slB1 : Array (Option Value)} {ocB1 kVB1 dcB1 pmB1 cdB1 ctB1 : Value}
    {fF1 : Addr} {odF1 anF1 : Option Addr} {slF1 : Array (Option Value)} {ocF1 kVF1 dcF1 pmF1 cdF1 ctF1 : Value}
    {fE1 : Addr} {odE1 anE1 : Option Addr} {slE1 : Array (Option Value)} {ocE1 kVE1 dcE1 pmE1 cdE1 ctE1 : Value}
    {fS1 : Addr} {odS1 anS1 : Option Addr} {slS1 : Array (Option Value)} {ocS1 kVS1 dcS1 pmS1 cdS1 ctS1 : Value}
    {fO1 : Addr} {odO1 anO1 : Option Addr} {slO1 : Array (Option Value)} {ocO1 kVO1 dcO1 pmO1 cdO1 ctO1 : Value}
    {fA1 : Addr} {odA1 anA1 : Option Addr} {slA1 : Array (Option Value)} {ocA1 kVA1 dcA1 pmA1 cdA1 ctA1 : Value}
    {fT1 : Addr} {odT1 anT1 : Option Addr} {slT1 : Array (Option Value)} {ocT1 kVT1 dcT1 pmT1 cdT1 ctT1 : Value}
    {fw : Addr} {odw anw : Option Addr} {slw : Array (Option Value)} {ocw kVw dcw pmw cdw ctw : Value}
    {fr : Addr} {odr anr : Option Addr} {slr : Array (Option Value)} {ocr kVr dcr pmr cdr ctr : Value}
    {fq1 : Addr} {odq1 anq1 : Option Addr} {slq1 : Array (Option Value)} {ocq1 kVq1 dcq1 pmq1 cdq1 ctq1 : Value}
    {fq2 : Addr} {odq2 anq2 : Option Addr} {slq2 : Array (Option Value)} {ocq2 kVq2 dcq2 pmq2 cdq2 ctq2 : Value}
    {fq3 : Addr} {odq3 anq3 : Option Addr} {slq3 : Array (Option Value)} {ocq3 kVq3 dcq3 pmq3 cdq3 ctq3 : Value}
    {fe1 : Addr} {ode1 ane1 : Option Addr} {sle1 : Array (Option Value)} {oce1 kVe1 dce1 pme1 cde1 cte1 : Value}
    {fn1 : Addr} {odn1 ann1 : Option Addr} {sln1 : Array (Option Value)} {ocn1 kVn1 dcn1 pmn1 cdn1 ctn1 : Value}
    {fn2 : Addr} {odn2 ann2 : Option Addr} {sln2 : Array (Option Value)} {ocn2 kVn2 dcn2 pmn2 cdn2 ctn2 : Value}
    {fk1 : Addr} {odk1 ank1 : Option Addr} {slk1 : Array (Option Value)} {ock1 kVk1 dck1 pmk1 cdk1 ctk1 : Value}
    {fL : Addr} {odL anL : Option Addr} {slL : Array (Option Value)} {ocL kVL dcL pmL cdL ctL : Value}
    {tb0 : Tok}
    {tf0 : Tok}
    {tm0 : Tok}
    {tx0 : Tok}
    {d : Addr} {es : Array DictEntry} {n : Nat} {tvo tvp : Tok}
    {C : Addr}
    {fmt : Addr} {odmt anmt : Option Addr} {slmt : Array (Option Value)} {ocmt kVmt dcmt pmmt cdmt ctmt : Value}
    {fmx : Addr} {odmx anmx : Option Addr} {slmx : Array (Option Value)} {ocmx kVmx dcmx pmmx cdmx ctmx : Value}
    {fmo : Addr} {odmo anmo : Option Addr} {slmo : Array (Option Value)} {ocmo kVmo dcmo pmmo cdmo ctmo : Value}
    {nmC qC : Str} {NC0 : Addr} {bsC subC : List Value} {hdC abC : Bool} {snC : List Str} {colC : Option Bool} {ddC : Option Addr} {x0 x1 x2 x3 x5 : Option Value} {nwC : String}
    {fi Ti : Addr} {odi ani oTi : Option Addr} {sli sTi : Array (Option Value)} {oci kVi dci pmi cdi cti cTi : Value} {nTi : Nat}
    {tki0 : Tok}
    {fv1 Tv1 : Addr} {odv1 anv1 oTv1 : Option Addr} {slv1 sTv1 : Array (Option Value)} {ocv1 kVv1 dcv1 pmv1 cdv1 ctv1 cTv1 : Value} {nTv1 : Nat}
    {fv2 Tv2 : Addr} {odv2 anv2 oTv2 : Option Addr} {slv2 sTv2 : Array (Option Value)} {ocv2 kVv2 dcv2 pmv2 cdv2 ctv2 cTv2 : Value} {nTv2 : Nat}
    {fv3 Tv3 : Addr} {odv3 anv3 oTv3 : Option Addr} {slv3 sTv3 : Array (Option Value)} {ocv3 kVv3 dcv3 pmv3 cdv3 ctv3 cTv3 : Value} {nTv3 : Nat}
    {fv4 Tv4 : Addr} {odv4 anv4 oTv4 : Option Addr} {slv4 sTv4 : Array (Option Value)} {ocv4 kVv4 dcv4 pmv4 cdv4 ctv4 cTv4 : Value} {nTv4 : Nat}
    {HE NN NR NP NS NW NC NH NT NY NI NG : Addr}
    {cc tb : Addr} {ddc : Option Addr} {vsc : Array Value} {slc : Array (Option Value)} {fic : Str} {tfc tgc ttc : Tok} {flc txc : Int} {inc : Bool}
    (a1 : PySem.W.nsIn K mainGlobals "is_whole" = some (some (.ref f1))) (l1 : K.lookup f1 = some ⟨oc1, od1, .func (PySem.W.fnOf "is_whole" "is_whole" (defArgs sIsWhole) (defBody sIsWhole) (defScope sIsWhole) .none kV1 dc1 pm1 an1 cd1 ct1), sl1⟩) (c1 : PySem.W.codeIn K cd1 "is_whole" = true) (k1 : PySem.W.keepIn K (.ref f1) = true)
    (a0 : PySem.W.nsIn K mainGlobals "need_number" = some (some (.ref f0))) (l0 : K.lookup f0 = some ⟨oc0, od0, .func (PySem.W.fnOf "need_number" "need_number" (defArgs sNeedNum) (defBody sNeedNum) (defScope sNeedNum) .none kV0 dc0 pm0 an0 cd0 ct0), sl0⟩) (c0 : PySem.W.codeIn K cd0 "need_number" = true) (k0 : PySem.W.keepIn K (.ref f0) = true)
    (a2 : PySem.W.nsIn K mainGlobals "common_divisor" = some (some (.ref f2))) (l2 : K.lookup f2 = some ⟨oc2, od2, .func (PySem.W.fnOf "common_divisor" "common_divisor" (defArgs sDivisor) (defBody sDivisor) (defScope sDivisor) .none kV2 dc2 pm2 an2 cd2 ct2), sl2⟩) (c2 : PySem.W.codeIn K cd2 "common_divisor" = true) (k2 : PySem.W.keepIn K (.ref f2) = true)
    (au1 : PySem.W.nsIn K mainGlobals "power" = some (some (.ref fu1))) (lu1 : K.lookup fu1 = some ⟨ocu1, odu1, .func (PySem.W.fnOf "power" "power" (defArgs sPower) (defBody sPower) (defScope sPower) .none kVu1 dcu1 pmu1 anu1 cdu1 ctu1), slu1⟩) (cu1 : PySem.W.codeIn K cdu1 "power" = true) (ku1 : PySem.W.keepIn K (.ref fu1) = true)
    (az1 : PySem.W.nsIn K mainGlobals "lowest" = some (some (.ref fz1))) (lz1 : K.lookup fz1 = some ⟨ocz1, odz1, .func (PySem.W.fnOf "lowest" "lowest" (defArgs sLowest) (defBody sLowest) (defScope sLowest) .none kVz1 dcz1 pmz1 anz1 cdz1 ctz1), slz1⟩) (cz1 : PySem.W.codeIn K cdz1 "lowest" = true) (kz1 : PySem.W.keepIn K (.ref fz1) = true)
    (aR1 : PySem.W.nsIn K mainGlobals "is_row" = some (some (.ref fR1))) (lR1 : K.lookup fR1 = some ⟨ocR1, odR1, .func (PySem.W.fnOf "is_row" "is_row" (defArgs sIsRow) (defBody sIsRow) (defScope sIsRow) .none kVR1 dcR1 pmR1 anR1 cdR1 ctR1), slR1⟩) (cR1 : PySem.W.codeIn K cdR1 "is_row" = true) (kR1 : PySem.W.keepIn K (.ref fR1) = true)
    (aR2 : PySem.W.nsIn K mainGlobals "need_row" = some (some (.ref fR2))) (lR2 : K.lookup fR2 = some ⟨ocR2, odR2, .func (PySem.W.fnOf "need_row" "need_row" (defArgs sNeedRow) (defBody sNeedRow) (defScope sNeedRow) .none kVR2 dcR2 pmR2 anR2 cdR2 ctR2), slR2⟩) (cR2 : PySem.W.codeIn K cdR2 "need_row" = true) (kR2 : PySem.W.keepIn K (.ref fR2) = true)
    (aP1 : PySem.W.nsIn K mainGlobals "pace_from" = some (some (.ref fP1))) (lP1 : K.lookup fP1 = some ⟨ocP1, odP1, .func (PySem.W.fnOf "pace_from" "pace_from" (defArgs sPaceFrom) (defBody sPaceFrom) (defScope sPaceFrom) .none kVP1 dcP1 pmP1 anP1 cdP1 ctP1), slP1⟩) (cP1 : PySem.W.codeIn K cdP1 "pace_from" = true) (kP1 : PySem.W.keepIn K (.ref fP1) = true)
    (aP2 : PySem.W.nsIn K mainGlobals "paces_from" = some (some (.ref fP2))) (lP2 : K.lookup fP2 = some ⟨ocP2, odP2, .func (PySem.W.fnOf "paces_from" "paces_from" (defArgs sPacesFrom) (defBody sPacesFrom) (defScope sPacesFrom) .none kVP2 dcP2 pmP2 anP2 cdP2 ctP2), slP2⟩) (cP2 : PySem.W.codeIn K cdP2 "paces_from" = true) (kP2 : PySem.W.keepIn K (.ref fP2) = true)
    (aW1 : PySem.W.nsIn K mainGlobals "is_word" = some (some (.ref fW1))) (lW1 : K.lookup fW1 = some ⟨ocW1, odW1, .func (PySem.W.fnOf "is_word" "is_word" (defArgs sIsWord) (defBody sIsWord) (defScope sIsWord) .none kVW1 dcW1 pmW1 anW1 cdW1 ctW1), slW1⟩) (cW1 : PySem.W.codeIn K cdW1 "is_word" = true) (kW1 : PySem.W.keepIn K (.ref fW1) = true)
    (aW2 : PySem.W.nsIn K mainGlobals "need_word" = some (some (.ref fW2))) (lW2 : K.lookup fW2 = some ⟨ocW2, odW2, .func (PySem.W.fnOf "need_word" "need_word" (defArgs sNeedWord) (defBody sNeedWord) (defScope sNeedWord) .none kVW2 dcW2 pmW2 anW2 cdW2 ctW2), slW2⟩) (cW2 : PySem.W.codeIn K cdW2 "need_word" = true) (kW2 : PySem.W.keepIn K (.ref fW2) = true)
    (aB1 : PySem.W.nsIn K mainGlobals "with_bead" = some (some (.ref fB1))) (lB1 : K.lookup fB1 = some ⟨ocB1, odB1, .func (PySem.W.fnOf "with_bead" "with_bead" (defArgs sWithBead) (defBody sWithBead) (defScope sWithBead) .none kVB1 dcB1 pmB1 anB1 cdB1 ctB1), slB1⟩) (cB1 : PySem.W.codeIn K cdB1 "with_bead" = true) (kB1 : PySem.W.keepIn K (.ref fB1) = true)
    (aF1 : PySem.W.nsIn K mainGlobals "with_free" = some (some (.ref fF1))) (lF1 : K.lookup fF1 = some ⟨ocF1, odF1, .func (PySem.W.fnOf "with_free" "with_free" (defArgs sWithFree) (defBody sWithFree) (defScope sWithFree) .none kVF1 dcF1 pmF1 anF1 cdF1 ctF1), slF1⟩) (cF1 : PySem.W.codeIn K cdF1 "with_free" = true) (kF1 : PySem.W.keepIn K (.ref fF1) = true)
    (aE1 : PySem.W.nsIn K mainGlobals "ends_of" = some (some (.ref fE1))) (lE1 : K.lookup fE1 = some ⟨ocE1, odE1, .func (PySem.W.fnOf "ends_of" "ends_of" (defArgs sEndsOf) (defBody sEndsOf) (defScope sEndsOf) .none kVE1 dcE1 pmE1 anE1 cdE1 ctE1), slE1⟩) (cE1 : PySem.W.codeIn K cdE1 "ends_of" = true) (kE1 : PySem.W.keepIn K (.ref fE1) = true)
    (aS1 : PySem.W.nsIn K mainGlobals "share" = some (some (.ref fS1))) (lS1 : K.lookup fS1 = some ⟨ocS1, odS1, .func (PySem.W.fnOf "share" "share" (defArgs sShare) (defBody sShare) (defScope sShare) .none kVS1 dcS1 pmS1 anS1 cdS1 ctS1), slS1⟩) (cS1 : PySem.W.codeIn K cdS1 "share" = true) (kS1 : PySem.W.keepIn K (.ref fS1) = true)
    (aO1 : PySem.W.nsIn K mainGlobals "often_by_signs" = some (some (.ref fO1))) (lO1 : K.lookup fO1 = some ⟨ocO1, odO1, .func (PySem.W.fnOf "often_by_signs" "often_by_signs" (defArgs sOften) (defBody sOften) (defScope sOften) .none kVO1 dcO1 pmO1 anO1 cdO1 ctO1), slO1⟩) (cO1 : PySem.W.codeIn K cdO1 "often_by_signs" = true) (kO1 : PySem.W.keepIn K (.ref fO1) = true)
    (aA1 : PySem.W.nsIn K mainGlobals "all_ends" = some (some (.ref fA1))) (lA1 : K.lookup fA1 = some ⟨ocA1, odA1, .func (PySem.W.fnOf "all_ends" "all_ends" (defArgs sAllEnds) (defBody sAllEnds) (defScope sAllEnds) .none kVA1 dcA1 pmA1 anA1 cdA1 ctA1), slA1⟩) (cA1 : PySem.W.codeIn K cdA1 "all_ends" = true) (kA1 : PySem.W.keepIn K (.ref fA1) = true)
    (aT1 : PySem.W.nsIn K mainGlobals "top_of" = some (some (.ref fT1))) (lT1 : K.lookup fT1 = some ⟨ocT1, odT1, .func (PySem.W.fnOf "top_of" "top_of" (defArgs sTopOf) (defBody sTopOf) (defScope sTopOf) .none kVT1 dcT1 pmT1 anT1 cdT1 ctT1), slT1⟩) (cT1 : PySem.W.codeIn K cdT1 "top_of" = true) (kT1 : PySem.W.keepIn K (.ref fT1) = true)
    (aw : PySem.W.nsIn K mainGlobals "_law_drawn" = some (some (.ref fw))) (lw : K.lookup fw = some ⟨ocw, odw, .func (PySem.W.fnOf "_law_drawn" "_law_drawn" (defArgs sDrawn) (defBody sDrawn) (defScope sDrawn) .none kVw dcw pmw anw cdw ctw), slw⟩) (cw : PySem.W.codeIn K cdw "_law_drawn" = true) (kw : PySem.W.keepIn K (.ref fw) = true)
    (ar : PySem.W.nsIn K mainGlobals "_law_row" = some (some (.ref fr))) (lr : K.lookup fr = some ⟨ocr, odr, .func (PySem.W.fnOf "_law_row" "_law_row" (defArgs sLRow) (defBody sLRow) (defScope sLRow) .none kVr dcr pmr anr cdr ctr), slr⟩) (cr : PySem.W.codeIn K cdr "_law_row" = true) (kr : PySem.W.keepIn K (.ref fr) = true)
    (aq1 : PySem.W.nsIn K mainGlobals "_law_part" = some (some (.ref fq1))) (lq1 : K.lookup fq1 = some ⟨ocq1, odq1, .func (PySem.W.fnOf "_law_part" "_law_part" (defArgs sLPart) (defBody sLPart) (defScope sLPart) .none kVq1 dcq1 pmq1 anq1 cdq1 ctq1), slq1⟩) (cq1 : PySem.W.codeIn K cdq1 "_law_part" = true) (kq1 : PySem.W.keepIn K (.ref fq1) = true)
    (aq2 : PySem.W.nsIn K mainGlobals "_law_low" = some (some (.ref fq2))) (lq2 : K.lookup fq2 = some ⟨ocq2, odq2, .func (PySem.W.fnOf "_law_low" "_law_low" (defArgs sLLow) (defBody sLLow) (defScope sLLow) .none kVq2 dcq2 pmq2 anq2 cdq2 ctq2), slq2⟩) (cq2 : PySem.W.codeIn K cdq2 "_law_low" = true) (kq2 : PySem.W.keepIn K (.ref fq2) = true)
    (aq3 : PySem.W.nsIn K mainGlobals "_law_small_pace" = some (some (.ref fq3))) (lq3 : K.lookup fq3 = some ⟨ocq3, odq3, .func (PySem.W.fnOf "_law_small_pace" "_law_small_pace" (defArgs sLSmall) (defBody sLSmall) (defScope sLSmall) .none kVq3 dcq3 pmq3 anq3 cdq3 ctq3), slq3⟩) (cq3 : PySem.W.codeIn K cdq3 "_law_small_pace" = true) (kq3 : PySem.W.keepIn K (.ref fq3) = true)
    (ae1 : PySem.W.nsIn K mainGlobals "_law_cell_at" = some (some (.ref fe1))) (le1 : K.lookup fe1 = some ⟨oce1, ode1, .func (PySem.W.fnOf "_law_cell_at" "_law_cell_at" (defArgs sCellAt) (defBody sCellAt) (defScope sCellAt) .none kVe1 dce1 pme1 ane1 cde1 cte1), sle1⟩) (ce1 : PySem.W.codeIn K cde1 "_law_cell_at" = true) (ke1 : PySem.W.keepIn K (.ref fe1) = true)
    (an1 : PySem.W.nsIn K mainGlobals "_law_no_paces" = some (some (.ref fn1))) (ln1 : K.lookup fn1 = some ⟨ocn1, odn1, .func (PySem.W.fnOf "_law_no_paces" "_law_no_paces" (defArgs sNoPcs) (defBody sNoPcs) (defScope sNoPcs) .none kVn1 dcn1 pmn1 ann1 cdn1 ctn1), sln1⟩) (cn1 : PySem.W.codeIn K cdn1 "_law_no_paces" = true) (kn1 : PySem.W.keepIn K (.ref fn1) = true)
    (an2 : PySem.W.nsIn K mainGlobals "_law_things" = some (some (.ref fn2))) (ln2 : K.lookup fn2 = some ⟨ocn2, odn2, .func (PySem.W.fnOf "_law_things" "_law_things" (defArgs sThings) (defBody sThings) (defScope sThings) .none kVn2 dcn2 pmn2 ann2 cdn2 ctn2), sln2⟩) (cn2 : PySem.W.codeIn K cdn2 "_law_things" = true) (kn2 : PySem.W.keepIn K (.ref fn2) = true)
    (ak1 : PySem.W.nsIn K mainGlobals "_law_class_of" = some (some (.ref fk1))) (lk1 : K.lookup fk1 = some ⟨ock1, odk1, .func (PySem.W.fnOf "_law_class_of" "_law_class_of" (defArgs sClass) (defBody sClass) (defScope sClass) .none kVk1 dck1 pmk1 ank1 cdk1 ctk1), slk1⟩) (ck1 : PySem.W.codeIn K cdk1 "_law_class_of" = true) (kk1 : PySem.W.keepIn K (.ref fk1) = true)
    (aL : PySem.W.nsIn K mainGlobals "law" = some (some (.ref fL))) (lL : K.lookup fL = some ⟨ocL, odL, .func (PySem.W.fnOf "law" "law" (defArgs sLaw) (defBody sLaw) (defScope sLaw) .none kVL dcL pmL anL cdL ctL), slL⟩) (cL : PySem.W.codeIn K cdL "law" = true) (kL : PySem.W.keepIn K (.ref fL) = true)
    (z0 : PySem.W.nsIn K mainGlobals "len" = some none)
    (z1 : PySem.W.nsIn K mainGlobals "range" = some none)
    (z2 : PySem.W.nsIn K mainGlobals "abs" = some none)
    (z3 : PySem.W.nsIn K mainGlobals "isinstance" = some none)
    (z4 : PySem.W.nsIn K mainGlobals "int" = some none)
    (z5 : PySem.W.nsIn K mainGlobals "bool" = some none)
    (z6 : PySem.W.nsIn K mainGlobals "all" = some none)
    (z7 : PySem.W.nsIn K mainGlobals "str" = some none)
    (z8 : PySem.W.nsIn K mainGlobals "reversed" = some none)
    (z9 : PySem.W.nsIn K mainGlobals "sorted" = some none)
    (z10 : PySem.W.nsIn K mainGlobals "list" = some none)
    (z11 : PySem.W.nsIn K mainGlobals "repr" = some none)
    (z12 : PySem.W.nsIn K mainGlobals "sum" = some none)
    (z13 : PySem.W.nsIn K mainGlobals "zip" = some none)
    (z14 : PySem.W.nsIn K mainGlobals "enumerate" = some none)
    (z15 : PySem.W.nsIn K mainGlobals "ValueError" = some none)
    (gb0 : PySem.W.nsIn K mainGlobals "BEAD" = some (some (.str "o" tb0)))
    (gf0 : PySem.W.nsIn K mainGlobals "FREE" = some (some (.str "." tf0)))
    (gm0 : PySem.W.nsIn K mainGlobals "MOST_PLACES" = some (some (.int 30 tm0)))
    (gx0 : PySem.W.nsIn K mainGlobals "MOST_IN_TOTAL" = some (some (.int 40 tx0)))
    (gd : PySem.W.nsIn K mainGlobals "OTHER_SIGN" = some (some (.ref d)))
    (ld : K.lookup d = some ⟨.type "dict", none, .dict es n, #[]⟩)
    (kd : PySem.W.KeysLit w.params es.toList)
    (sd : (d == sysModules) = false)
    (keysOk : keysAre es)
    (vo : PySem.W.nsIn K d "o" = some (some (.str "." tvo)))
    (vp : PySem.W.nsIn K d "." = some (some (.str "o" tvp)))
    (gC : PySem.W.nsIn K mainGlobals "Part" = some (some (.ref C)))
    (C_pg : PySem.W.plainGet K C Str.empty = true)
    (C_hd : PySem.W.hasDictIn K C = true)
    (C_po : PySem.W.plainOver K C = true)
    (C_sa : PySem.W.findIn K (.ref C) "__setattr__" = some (some (.builtin "object.__setattr__")))
    (C_mk : PySem.W.makesIn K C = true)
    (C_kc : PySem.W.keepIn K (.ref C) = true)
    (C_ha : PySem.W.findIn K (.ref C) "__class__" = some (some (.builtin "object.__class__")))
    (C_hm : PySem.W.mroIn K C (.type "object") = some true)
    (q_hn : PySem.W.specialIn K (.builtin "object.__class__") "__get__" = some (some (.builtin "getset_descriptor.__get__")))
    (q_htk : PySem.W.takesIn K (.builtin "object.__class__") = some true)
    (C_n_top : PySem.W.findIn K (.ref C) "top" = some none)
    (C_n_bottom : PySem.W.findIn K (.ref C) "bottom" = some none)
    (mmt : PySem.W.findIn K (.ref C) "times" = some (some (.ref fmt)))
    (nmt : PySem.W.isFn K (.ref fmt) = true)
    (lmt : K.lookup fmt = some ⟨ocmt, odmt, .func (PySem.W.fnOf "times" "Part.times" (defArgs sTimes) (defBody sTimes) (defScope sTimes) .none kVmt dcmt pmmt anmt cdmt ctmt), slmt⟩)
    (cmt : PySem.W.codeIn K cdmt "Part.times" = true)
    (kmt : PySem.W.keepIn K (.ref fmt) = true)
    (mmx : PySem.W.findIn K (.ref C) "__eq__" = some (some (.ref fmx)))
    (nmx : PySem.W.isFn K (.ref fmx) = true)
    (lmx : K.lookup fmx = some ⟨ocmx, odmx, .func (PySem.W.fnOf "__eq__" "Part.__eq__" (defArgs sEq) (defBody sEq) (defScope sEq) .none kVmx dcmx pmmx anmx cdmx ctmx), slmx⟩)
    (cmx : PySem.W.codeIn K cdmx "Part.__eq__" = true)
    (kmx : PySem.W.keepIn K (.ref fmx) = true)
    (mmo : PySem.W.findIn K (.ref C) "over" = some (some (.ref fmo)))
    (nmo : PySem.W.isFn K (.ref fmo) = true)
    (lmo : K.lookup fmo = some ⟨ocmo, odmo, .func (PySem.W.fnOf "over" "Part.over" (defArgs sOver) (defBody sOver) (defScope sOver) .none kVmo dcmo pmmo anmo cdmo ctmo), slmo⟩)
    (cmo : PySem.W.codeIn K cdmo "Part.over" = true)
    (kmo : PySem.W.keepIn K (.ref fmo) = true)
    (eqK : K.lookup C = some (excClassObj nmC qC C NC0 bsC [.type "object"] hdC snC subC abC colC ddC x0 x1 x2 x3 x5 nwC))
    (eqO : PySem.W.nsOkIn K NC0 = true)
    (eqE : PySem.W.nsIn K NC0 "__eq__" = some (some (.ref fmx)))
    (eqN : PySem.W.nsIn K NC0 "__ne__" = some none)
    (ai : PySem.W.findIn K (.ref C) "__init__" = some (some (.ref fi)))
    (ni : PySem.W.isFn K (.ref fi) = true)
    (li : K.lookup fi = some ⟨oci, odi, .func (PySem.W.fnOf "__init__" "Part.__init__" (defArgs sInit) (defBody sInit) (defScope sInit) (.ref Ti) kVi dci pmi ani cdi cti), sli⟩)
    (ci : PySem.W.codeIn K cdi "Part.__init__" = true)
    (ki : PySem.W.keepIn K (.ref fi) = true)
    (di : K.lookup Ti = some ⟨cTi, oTi, .seq #[.int 1 tki0] nTi, sTi⟩)
    (av1 : PySem.W.nsIn K mainGlobals "weight" = some (some (.ref fv1)))
    (nv1 : PySem.W.isFn K (.ref fv1) = true)
    (lv1 : K.lookup fv1 = some ⟨ocv1, odv1, .func (PySem.W.fnOf "weight" "weight" (defArgs sWeight) (defBody sWeight) (defScope sWeight) (.ref Tv1) kVv1 dcv1 pmv1 anv1 cdv1 ctv1), slv1⟩)
    (cv1 : PySem.W.codeIn K cdv1 "weight" = true)
    (kv1 : PySem.W.keepIn K (.ref fv1) = true)
    (dv1 : K.lookup Tv1 = some ⟨cTv1, oTv1, .seq #[.none, .none] nTv1, sTv1⟩)
    (av2 : PySem.W.nsIn K mainGlobals "total" = some (some (.ref fv2)))
    (nv2 : PySem.W.isFn K (.ref fv2) = true)
    (lv2 : K.lookup fv2 = some ⟨ocv2, odv2, .func (PySem.W.fnOf "total" "total" (defArgs sTotal) (defBody sTotal) (defScope sTotal) (.ref Tv2) kVv2 dcv2 pmv2 anv2 cdv2 ctv2), slv2⟩)
    (cv2 : PySem.W.codeIn K cdv2 "total" = true)
    (kv2 : PySem.W.keepIn K (.ref fv2) = true)
    (dv2 : K.lookup Tv2 = some ⟨cTv2, oTv2, .seq #[.none, .none] nTv2, sTv2⟩)
    (av3 : PySem.W.nsIn K mainGlobals "through" = some (some (.ref fv3)))
    (nv3 : PySem.W.isFn K (.ref fv3) = true)
    (lv3 : K.lookup fv3 = some ⟨ocv3, odv3, .func (PySem.W.fnOf "through" "through" (defArgs sThrough) (defBody sThrough) (defScope sThrough) (.ref Tv3) kVv3 dcv3 pmv3 anv3 cdv3 ctv3), slv3⟩)
    (cv3 : PySem.W.codeIn K cdv3 "through" = true)
    (kv3 : PySem.W.keepIn K (.ref fv3) = true)
    (dv3 : K.lookup Tv3 = some ⟨cTv3, oTv3, .seq #[.none, .none] nTv3, sTv3⟩)
    (av4 : PySem.W.nsIn K mainGlobals "row_chance" = some (some (.ref fv4)))
    (nv4 : PySem.W.isFn K (.ref fv4) = true)
    (lv4 : K.lookup fv4 = some ⟨ocv4, odv4, .func (PySem.W.fnOf "row_chance" "row_chance" (defArgs sRowChance) (defBody sRowChance) (defScope sRowChance) (.ref Tv4) kVv4 dcv4 pmv4 anv4 cdv4 ctv4), slv4⟩)
    (cv4 : PySem.W.codeIn K cdv4 "row_chance" = true)
    (kv4 : PySem.W.keepIn K (.ref fv4) = true)
    (dv4 : K.lookup Tv4 = some ⟨cTv4, oTv4, .seq #[.none, .none] nTv4, sTv4⟩)
    (tyC : PySem.W.typeIn K (.ref C) = some (.type "type"))
    (kt_int : PySem.W.subIn K (.type "int") (.ref C) = some false)
    (kt_bool : PySem.W.subIn K (.type "bool") (.ref C) = some false)
    (kt_str : PySem.W.subIn K (.type "str") (.ref C) = some false)
    (kt_tuple : PySem.W.subIn K (.type "tuple") (.ref C) = some false)
    (kt_list : PySem.W.subIn K (.type "list") (.ref C) = some false)
    (kt_dict : PySem.W.subIn K (.type "dict") (.ref C) = some false)
    (g_HE : PySem.W.nsIn K mainGlobals "HopError" = some (some (.ref HE)))
    (g_NN : PySem.W.nsIn K mainGlobals "NoNumber" = some (some (.ref NN)))
    (g_NR : PySem.W.nsIn K mainGlobals "NoRow" = some (some (.ref NR)))
    (g_NP : PySem.W.nsIn K mainGlobals "NoPace" = some (some (.ref NP)))
    (g_NS : PySem.W.nsIn K mainGlobals "NoStep" = some (some (.ref NS)))
    (g_NW : PySem.W.nsIn K mainGlobals "NoWord" = some (some (.ref NW)))
    (g_NC : PySem.W.nsIn K mainGlobals "NoPlace" = some (some (.ref NC)))
    (g_NH : PySem.W.nsIn K mainGlobals "NoHeap" = some (some (.ref NH)))
    (g_NT : PySem.W.nsIn K mainGlobals "TooMany" = some (some (.ref NT)))
    (g_NY : PySem.W.nsIn K mainGlobals "NoWay" = some (some (.ref NY)))
    (g_NI : PySem.W.nsIn K mainGlobals "NoLines" = some (some (.ref NI)))
    (g_NG : PySem.W.nsIn K mainGlobals "NoRing" = some (some (.ref NG)))
    (d_HE : PySem.W.hasDictIn K HE = true)
    (t_HE : PySem.W.typeIn K (.ref HE) = some (.type "type"))
    (d_NN : PySem.W.hasDictIn K NN = true)
    (t_NN : PySem.W.typeIn K (.ref NN) = some (.type "type"))
    (d_NR : PySem.W.hasDictIn K NR = true)
    (t_NR : PySem.W.typeIn K (.ref NR) = some (.type "type"))
    (d_NP : PySem.W.hasDictIn K NP = true)
    (t_NP : PySem.W.typeIn K (.ref NP) = some (.type "type"))
    (d_NS : PySem.W.hasDictIn K NS = true)
    (t_NS : PySem.W.typeIn K (.ref NS) = some (.type "type"))
    (d_NW : PySem.W.hasDictIn K NW = true)
    (t_NW : PySem.W.typeIn K (.ref NW) = some (.type "type"))
    (d_NC : PySem.W.hasDictIn K NC = true)
    (t_NC : PySem.W.typeIn K (.ref NC) = some (.type "type"))
    (d_NH : PySem.W.hasDictIn K NH = true)
    (t_NH : PySem.W.typeIn K (.ref NH) = some (.type "type"))
    (d_NT : PySem.W.hasDictIn K NT = true)
    (t_NT : PySem.W.typeIn K (.ref NT) = some (.type "type"))
    (d_NY : PySem.W.hasDictIn K NY = true)
    (t_NY : PySem.W.typeIn K (.ref NY) = some (.type "type"))
    (d_NI : PySem.W.hasDictIn K NI = true)
    (t_NI : PySem.W.typeIn K (.ref NI) = some (.type "type"))
    (d_NG : PySem.W.hasDictIn K NG = true)
    (t_NG : PySem.W.typeIn K (.ref NG) = some (.type "type"))
    (b_HE : PySem.W.subIn K (.ref HE) (.type "BaseException") = some true)
    (b_NN : PySem.W.subIn K (.ref NN) (.type "BaseException") = some true)
    (b_NP : PySem.W.subIn K (.ref NP) (.type "BaseException") = some true)
    (b_NR : PySem.W.subIn K (.ref NR) (.type "BaseException") = some true)
    (x_NN : PySem.W.excIn K NN [.type "ValueError", .type "Exception", .type "BaseException", .type "object"] "ValueError.__new__" = true)
    (k_NN : PySem.W.keepIn K (.ref NN) = true)
    (ga_NN : PySem.W.findIn K (.ref NN) "__getattribute__" = some (some (.builtin "BaseException.__getattribute__")))
    (gt_NN : PySem.W.findIn K (.ref NN) "__getattr__" = some none)
    (cl_NN : PySem.W.findIn K (.ref NN) "__class__" = some (some (.builtin "object.__class__")))
    (mo_NN : PySem.W.mroIn K NN (.type "object") = some true)
    (x_NR : PySem.W.excIn K NR [.type "ValueError", .type "Exception", .type "BaseException", .type "object"] "ValueError.__new__" = true)
    (k_NR : PySem.W.keepIn K (.ref NR) = true)
    (ga_NR : PySem.W.findIn K (.ref NR) "__getattribute__" = some (some (.builtin "BaseException.__getattribute__")))
    (gt_NR : PySem.W.findIn K (.ref NR) "__getattr__" = some none)
    (cl_NR : PySem.W.findIn K (.ref NR) "__class__" = some (some (.builtin "object.__class__")))
    (mo_NR : PySem.W.mroIn K NR (.type "object") = some true)
    (x_NP : PySem.W.excIn K NP [.type "ValueError", .type "Exception", .type "BaseException", .type "object"] "ValueError.__new__" = true)
    (k_NP : PySem.W.keepIn K (.ref NP) = true)
    (ga_NP : PySem.W.findIn K (.ref NP) "__getattribute__" = some (some (.builtin "BaseException.__getattribute__")))
    (gt_NP : PySem.W.findIn K (.ref NP) "__getattr__" = some none)
    (cl_NP : PySem.W.findIn K (.ref NP) "__class__" = some (some (.builtin "object.__class__")))
    (mo_NP : PySem.W.mroIn K NP (.type "object") = some true)
    (v_NN : PySem.W.subIn K (.ref NN) (.type "ValueError") = some true)
    (s_NN_NR : PySem.W.subIn K (.ref NN) (.ref NR) = some false)
    (e_NN_NR : NN ≠ NR)
    (s_NN_NP : PySem.W.subIn K (.ref NN) (.ref NP) = some false)
    (e_NN_NP : NN ≠ NP)
    (s_NN_NS : PySem.W.subIn K (.ref NN) (.ref NS) = some false)
    (e_NN_NS : NN ≠ NS)
    (s_NN_NW : PySem.W.subIn K (.ref NN) (.ref NW) = some false)
    (e_NN_NW : NN ≠ NW)
    (s_NN_NC : PySem.W.subIn K (.ref NN) (.ref NC) = some false)
    (e_NN_NC : NN ≠ NC)
    (s_NN_NH : PySem.W.subIn K (.ref NN) (.ref NH) = some false)
    (e_NN_NH : NN ≠ NH)
    (s_NN_NT : PySem.W.subIn K (.ref NN) (.ref NT) = some false)
    (e_NN_NT : NN ≠ NT)
    (s_NN_NY : PySem.W.subIn K (.ref NN) (.ref NY) = some false)
    (e_NN_NY : NN ≠ NY)
    (s_NN_NI : PySem.W.subIn K (.ref NN) (.ref NI) = some false)
    (e_NN_NI : NN ≠ NI)
    (s_NN_NG : PySem.W.subIn K (.ref NN) (.ref NG) = some false)
    (e_NN_NG : NN ≠ NG)
    (s_NN_HE : PySem.W.subIn K (.ref NN) (.ref HE) = some true)
    (e_NN_HE : NN ≠ HE)
    (v_NR : PySem.W.subIn K (.ref NR) (.type "ValueError") = some true)
    (s_NR_NN : PySem.W.subIn K (.ref NR) (.ref NN) = some false)
    (e_NR_NN : NR ≠ NN)
    (s_NR_NP : PySem.W.subIn K (.ref NR) (.ref NP) = some false)
    (e_NR_NP : NR ≠ NP)
    (s_NR_NS : PySem.W.subIn K (.ref NR) (.ref NS) = some false)
    (e_NR_NS : NR ≠ NS)
    (s_NR_NW : PySem.W.subIn K (.ref NR) (.ref NW) = some false)
    (e_NR_NW : NR ≠ NW)
    (s_NR_NC : PySem.W.subIn K (.ref NR) (.ref NC) = some false)
    (e_NR_NC : NR ≠ NC)
    (s_NR_NH : PySem.W.subIn K (.ref NR) (.ref NH) = some false)
    (e_NR_NH : NR ≠ NH)
    (s_NR_NT : PySem.W.subIn K (.ref NR) (.ref NT) = some false)
    (e_NR_NT : NR ≠ NT)
    (s_NR_NY : PySem.W.subIn K (.ref NR) (.ref NY) = some false)
    (e_NR_NY : NR ≠ NY)
    (s_NR_NI : PySem.W.subIn K (.ref NR) (.ref NI) = some false)
    (e_NR_NI : NR ≠ NI)
    (s_NR_NG : PySem.W.subIn K (.ref NR) (.ref NG) = some false)
    (e_NR_NG : NR ≠ NG)
    (s_NR_HE : PySem.W.subIn K (.ref NR) (.ref HE) = some true)
    (e_NR_HE : NR ≠ HE)
    (v_NP : PySem.W.subIn K (.ref NP) (.type "ValueError") = some true)
    (s_NP_NN : PySem.W.subIn K (.ref NP) (.ref NN) = some false)
    (e_NP_NN : NP ≠ NN)
    (s_NP_NR : PySem.W.subIn K (.ref NP) (.ref NR) = some false)
    (e_NP_NR : NP ≠ NR)
    (s_NP_NS : PySem.W.subIn K (.ref NP) (.ref NS) = some false)
    (e_NP_NS : NP ≠ NS)
    (s_NP_NW : PySem.W.subIn K (.ref NP) (.ref NW) = some false)
    (e_NP_NW : NP ≠ NW)
    (s_NP_NC : PySem.W.subIn K (.ref NP) (.ref NC) = some false)
    (e_NP_NC : NP ≠ NC)
    (s_NP_NH : PySem.W.subIn K (.ref NP) (.ref NH) = some false)
    (e_NP_NH : NP ≠ NH)
    (s_NP_NT : PySem.W.subIn K (.ref NP) (.ref NT) = some false)
    (e_NP_NT : NP ≠ NT)
    (s_NP_NY : PySem.W.subIn K (.ref NP) (.ref NY) = some false)
    (e_NP_NY : NP ≠ NY)
    (s_NP_NI : PySem.W.subIn K (.ref NP) (.ref NI) = some false)
    (e_NP_NI : NP ≠ NI)
    (s_NP_NG : PySem.W.subIn K (.ref NP) (.ref NG) = some false)
    (e_NP_NG : NP ≠ NG)
    (s_NP_HE : PySem.W.subIn K (.ref NP) (.ref HE) = some true)
    (e_NP_HE : NP ≠ HE)
    (hcc : cdL = .ref cc)
    (lcc : K.lookup cc = some ⟨.type "code", ddc, .fields vsc, slc⟩)
    (v11 : vsc[11]? = some (.ref tb))
    (v11d : vsc.getD 11 .none = .ref tb)
    (v18 : vsc.getD 18 .none = .str fic tfc)
    (v7 : vsc.getD 7 .none = .int flc tgc)
    (v9 : vsc.getD 9 .none = .bool inc)
    (v10 : vsc.getD 10 .none = .int txc ttc)
    (nct : cc ≠ tb)
    (ntb : K.lookup tb = none)
    : LamX.LawAtS l w K CX0 10 63 "_law_script" mg fa h := by
  have e := hfa.symm.trans (PySem.W.mg_of X G aL)
  cases e
  subst hcc
  have F1 := fun_mk (st := sIsWhole) l1 c1 k1
  have b1 := F1.binds (ps := ["thing"]) fun _ _ _ _ _ _ us hl => match us, hl with | [_], _ => rfl
  have N1 := Fn.mk (ps := ["thing"]) F1 b1 (PySem.W.mg_of X G a1)
  have F0 := fun_mk (st := sNeedNum) l0 c0 k0
  have b0 := F0.binds (ps := ["thing", "least", "most"]) fun _ _ _ _ _ _ us hl => match us, hl with | [_, _, _], _ => rfl
  have N0 := Fn.mk (ps := ["thing", "least", "most"]) F0 b0 (PySem.W.mg_of X G a0)
  have F2 := fun_mk (st := sDivisor) l2 c2 k2
  have b2 := F2.binds (ps := ["one", "other"]) fun _ _ _ _ _ _ us hl => match us, hl with | [_, _], _ => rfl
  have N2 := Fn.mk (ps := ["one", "other"]) F2 b2 (PySem.W.mg_of X G a2)
  have Fu1 := fun_mk (st := sPower) lu1 cu1 ku1
  have bu1 := Fu1.binds (ps := ["number", "many"]) fun _ _ _ _ _ _ us hl => match us, hl with | [_, _], _ => rfl
  have Nu1 := Fn.mk (ps := ["number", "many"]) Fu1 bu1 (PySem.W.mg_of X G au1)
  have Fz1 := fun_mk (st := sLowest) lz1 cz1 kz1
  have bz1 := Fz1.binds (ps := ["top", "bottom"]) fun _ _ _ _ _ _ us hl => match us, hl with | [_, _], _ => rfl
  have Nz1 := Fn.mk (ps := ["top", "bottom"]) Fz1 bz1 (PySem.W.mg_of X G az1)
  have FR1 := fun_mk (st := sIsRow) lR1 cR1 kR1
  have bR1 := FR1.binds (ps := ["thing"]) fun _ _ _ _ _ _ us hl => match us, hl with | [_], _ => rfl
  have NR1 := Fn.mk (ps := ["thing"]) FR1 bR1 (PySem.W.mg_of X G aR1)
  have FR2 := fun_mk (st := sNeedRow) lR2 cR2 kR2
  have bR2 := FR2.binds (ps := ["thing"]) fun _ _ _ _ _ _ us hl => match us, hl with | [_], _ => rfl
  have NR2 := Fn.mk (ps := ["thing"]) FR2 bR2 (PySem.W.mg_of X G aR2)
  have FP1 := fun_mk (st := sPaceFrom) lP1 cP1 kP1
  have bP1 := FP1.binds (ps := ["thing"]) fun _ _ _ _ _ _ us hl => match us, hl with | [_], _ => rfl
  have NP1 := Fn.mk (ps := ["thing"]) FP1 bP1 (PySem.W.mg_of X G aP1)
  have FP2 := fun_mk (st := sPacesFrom) lP2 cP2 kP2
  have bP2 := FP2.binds (ps := ["inn", "out"]) fun _ _ _ _ _ _ us hl => match us, hl with | [_, _], _ => rfl
  have NP2 := Fn.mk (ps := ["inn", "out"]) FP2 bP2 (PySem.W.mg_of X G aP2)
  have FW1 := fun_mk (st := sIsWord) lW1 cW1 kW1
  have bW1 := FW1.binds (ps := ["thing"]) fun _ _ _ _ _ _ us hl => match us, hl with | [_], _ => rfl
  have NW1 := Fn.mk (ps := ["thing"]) FW1 bW1 (PySem.W.mg_of X G aW1)
  have FW2 := fun_mk (st := sNeedWord) lW2 cW2 kW2
  have bW2 := FW2.binds (ps := ["thing"]) fun _ _ _ _ _ _ us hl => match us, hl with | [_], _ => rfl
  have NW2 := Fn.mk (ps := ["thing"]) FW2 bW2 (PySem.W.mg_of X G aW2)
  have FB1 := fun_mk (st := sWithBead) lB1 cB1 kB1
  have bB1 := FB1.binds (ps := ["table"]) fun _ _ _ _ _ _ us hl => match us, hl with | [_], _ => rfl
  have NB1 := Fn.mk (ps := ["table"]) FB1 bB1 (PySem.W.mg_of X G aB1)
  have FF1 := fun_mk (st := sWithFree) lF1 cF1 kF1
  have bF1 := FF1.binds (ps := ["table"]) fun _ _ _ _ _ _ us hl => match us, hl with | [_], _ => rfl
  have NF1 := Fn.mk (ps := ["table"]) FF1 bF1 (PySem.W.mg_of X G aF1)
  have FE1 := fun_mk (st := sEndsOf) lE1 cE1 kE1
  have bE1 := FE1.binds (ps := ["word"]) fun _ _ _ _ _ _ us hl => match us, hl with | [_], _ => rfl
  have NE1 := Fn.mk (ps := ["word"]) FE1 bE1 (PySem.W.mg_of X G aE1)
  have FS1 := fun_mk (st := sShare) lS1 cS1 kS1
  have bS1 := FS1.binds (ps := ["pace", "many", "most"]) fun _ _ _ _ _ _ us hl => match us, hl with | [_, _, _], _ => rfl
  have NS1 := Fn.mk (ps := ["pace", "many", "most"]) FS1 bS1 (PySem.W.mg_of X G aS1)
  have FO1 := fun_mk (st := sOften) lO1 cO1 kO1
  have bO1 := FO1.binds (ps := ["many"]) fun _ _ _ _ _ _ us hl => match us, hl with | [_], _ => rfl
  have NO1 := Fn.mk (ps := ["many"]) FO1 bO1 (PySem.W.mg_of X G aO1)
  have FA1 := fun_mk (st := sAllEnds) lA1 cA1 kA1
  have bA1 := FA1.binds (ps := ["many"]) fun _ _ _ _ _ _ us hl => match us, hl with | [_], _ => rfl
  have NA1 := Fn.mk (ps := ["many"]) FA1 bA1 (PySem.W.mg_of X G aA1)
  have FT1 := fun_mk (st := sTopOf) lT1 cT1 kT1
  have bT1 := FT1.binds (ps := ["table", "many", "first", "last"]) fun _ _ _ _ _ _ us hl => match us, hl with | [_, _, _, _], _ => rfl
  have NT1 := Fn.mk (ps := ["table", "many", "first", "last"]) FT1 bT1 (PySem.W.mg_of X G aT1)
  have Fw := fun_mk (st := sDrawn) lw cw kw
  have bw := Fw.binds (ps := ["_law_cell", "_law_sizes"]) fun _ _ _ _ _ _ us hl => match us, hl with | [_, _], _ => rfl
  have Nw := Fn.mk (ps := ["_law_cell", "_law_sizes"]) Fw bw (PySem.W.mg_of X G aw)
  have Fr := fun_mk (st := sLRow) lr cr kr
  have br := Fr.binds (ps := ["_law_cell", "_law_most"]) fun _ _ _ _ _ _ us hl => match us, hl with | [_, _], _ => rfl
  have Nr := Fn.mk (ps := ["_law_cell", "_law_most"]) Fr br (PySem.W.mg_of X G ar)
  have Fq1 := fun_mk (st := sLPart) lq1 cq1 kq1
  have bq1 := Fq1.binds (ps := ["_law_pace_here"]) fun _ _ _ _ _ _ us hl => match us, hl with | [_], _ => rfl
  have Nq1 := Fn.mk (ps := ["_law_pace_here"]) Fq1 bq1 (PySem.W.mg_of X G aq1)
  have Fq2 := fun_mk (st := sLLow) lq2 cq2 kq2
  have bq2 := Fq2.binds (ps := ["_law_top", "_law_bottom"]) fun _ _ _ _ _ _ us hl => match us, hl with | [_, _], _ => rfl
  have Nq2 := Fn.mk (ps := ["_law_top", "_law_bottom"]) Fq2 bq2 (PySem.W.mg_of X G aq2)
  have Fq3 := fun_mk (st := sLSmall) lq3 cq3 kq3
  have bq3 := Fq3.binds (ps := ["_law_cell"]) fun _ _ _ _ _ _ us hl => match us, hl with | [_], _ => rfl
  have Nq3 := Fn.mk (ps := ["_law_cell"]) Fq3 bq3 (PySem.W.mg_of X G aq3)
  have Fe1 := fun_mk (st := sCellAt) le1 ce1 ke1
  have be1 := Fe1.binds (ps := ["_law_script", "_law_k"]) fun _ _ _ _ _ _ us hl => match us, hl with | [_, _], _ => rfl
  have Ne1 := Fn.mk (ps := ["_law_script", "_law_k"]) Fe1 be1 (PySem.W.mg_of X G ae1)
  have Fn1 := fun_mk (st := sNoPcs) ln1 cn1 kn1
  have bn1 := Fn1.binds (ps := ["_law_cell"]) fun _ _ _ _ _ _ us hl => match us, hl with | [_], _ => rfl
  have Nn1 := Fn.mk (ps := ["_law_cell"]) Fn1 bn1 (PySem.W.mg_of X G an1)
  have Fn2 := fun_mk (st := sThings) ln2 cn2 kn2
  have bn2 := Fn2.binds (ps := []) fun _ _ _ _ _ _ us hl => match us, hl with | [], _ => rfl
  have Nn2 := Fn.mk (ps := []) Fn2 bn2 (PySem.W.mg_of X G an2)
  have Fk1 := fun_mk (st := sClass) lk1 ck1 kk1
  have bk1 := Fk1.binds (ps := ["_law_call"]) fun _ _ _ _ _ _ us hl => match us, hl with | [_], _ => rfl
  have Nk1 := Fn.mk (ps := ["_law_call"]) Fk1 bk1 (PySem.W.mg_of X G ak1)
  have y0 := PySem.W.mg_none_of X G z0
  have y1 := PySem.W.mg_none_of X G z1
  have y2 := PySem.W.mg_none_of X G z2
  have y3 := PySem.W.mg_none_of X G z3
  have y4 := PySem.W.mg_none_of X G z4
  have y5 := PySem.W.mg_none_of X G z5
  have y6 := PySem.W.mg_none_of X G z6
  have y7 := PySem.W.mg_none_of X G z7
  have y8 := PySem.W.mg_none_of X G z8
  have y9 := PySem.W.mg_none_of X G z9
  have y10 := PySem.W.mg_none_of X G z10
  have y11 := PySem.W.mg_none_of X G z11
  have y12 := PySem.W.mg_none_of X G z12
  have y13 := PySem.W.mg_none_of X G z13
  have y14 := PySem.W.mg_none_of X G z14
  have y15 := PySem.W.mg_none_of X G z15
  have wb0 := PySem.W.mg_of X G gb0
  have wf0 := PySem.W.mg_of X G gf0
  have wm0 := PySem.W.mg_of X G gm0
  have wx0 := PySem.W.mg_of X G gx0
  have CLC : Cls K C := ⟨C_pg, C_hd, C_po, C_sa⟩
  have ICC : C8.InsC K C := ⟨CLC, C_ha, q_hn, q_htk, C_hm, kit_me⟩
  have Fmt := fun_mk (st := sTimes) lmt cmt kmt
  have bmt := Fmt.binds (ps := ["self", "other"]) fun _ _ _ _ _ _ us hl => match us, hl with | [_, _], _ => rfl
  have Fmx := fun_mk (st := sEq) lmx cmx kmx
  have bmx := Fmx.binds (ps := ["self", "other"]) fun _ _ _ _ _ _ us hl => match us, hl with | [_, _], _ => rfl
  have Fmo := fun_mk (st := sOver) lmo cmo kmo
  have bmo := Fmo.binds (ps := ["self", "other"]) fun _ _ _ _ _ _ us hl => match us, hl with | [_, _], _ => rfl
  have Fi : FunD K "__init__" "Part.__init__" (defArgs sInit) (defBody sInit) (defScope sInit) [.int 1] [] fi _ := ⟨⟨oci, odi, _, _, _, _, _, _, _, sli, rfl, li, ci, .inr ⟨by simp, Ti, _, [.int 1 tki0], nTi, rfl, di, rfl, .cons (⟨_, rfl⟩) .nil⟩, .inl rfl⟩, ki⟩
  obtain ⟨dsi3, rri3, bi3⟩ := Fi.binds1 (ps := ["self", "top", "bottom"]) 3 1 (by simp) rfl (fun T kV doc pm an cdv ct us its hl hi => match us, its, hl, hi with | [_, _, _], [_], _, _ => ⟨_, rfl, rfl⟩)
  obtain rfl : dsi3 = [] := by cases rri3; rfl
  obtain ⟨dsi2, rri2, bi2⟩ := Fi.binds1 (ps := ["self", "top", "bottom"]) 2 0 (by simp) rfl (fun T kV doc pm an cdv ct us its hl hi => match us, its, hl, hi with | [_, _], [_], _, _ => ⟨_, rfl, rfl⟩)
  obtain ⟨d1i, rfl, r1i⟩ : ∃ d1, dsi2 = [d1] ∧ RelV (.int 1) d1 := by
    cases rri2 with
    | cons r rr =>
      cases rr
      exact ⟨_, rfl, r⟩
  have Fv1 : FunD K "weight" "weight" (defArgs sWeight) (defBody sWeight) (defScope sWeight) [.non, .non] [] fv1 _ := ⟨⟨ocv1, odv1, _, _, _, _, _, _, _, slv1, rfl, lv1, cv1, .inr ⟨by simp, Tv1, _, [.none, .none], nTv1, rfl, dv1, rfl, .cons (rfl) (.cons (rfl) .nil)⟩, .inl rfl⟩, kv1⟩
  obtain ⟨dsv13, rrv13, bv13⟩ := Fv1.binds1 (ps := ["row", "inn", "out"]) 3 2 (by simp) rfl (fun T kV doc pm an cdv ct us its hl hi => match us, its, hl, hi with | [_, _, _], [_, _], _, _ => ⟨_, rfl, rfl⟩)
  obtain rfl : dsv13 = [] := by cases rrv13; rfl
  obtain ⟨dsv11, rrv11, bv11⟩ := Fv1.binds1 (ps := ["row", "inn", "out"]) 1 0 (by simp) rfl (fun T kV doc pm an cdv ct us its hl hi => match us, its, hl, hi with | [_], [_, _], _, _ => ⟨_, rfl, rfl⟩)
  have Fv2 : FunD K "total" "total" (defArgs sTotal) (defBody sTotal) (defScope sTotal) [.non, .non] [] fv2 _ := ⟨⟨ocv2, odv2, _, _, _, _, _, _, _, slv2, rfl, lv2, cv2, .inr ⟨by simp, Tv2, _, [.none, .none], nTv2, rfl, dv2, rfl, .cons (rfl) (.cons (rfl) .nil)⟩, .inl rfl⟩, kv2⟩
  obtain ⟨dsv23, rrv23, bv23⟩ := Fv2.binds1 (ps := ["many", "inn", "out"]) 3 2 (by simp) rfl (fun T kV doc pm an cdv ct us its hl hi => match us, its, hl, hi with | [_, _, _], [_, _], _, _ => ⟨_, rfl, rfl⟩)
  obtain rfl : dsv23 = [] := by cases rrv23; rfl
  obtain ⟨dsv22, rrv22, bv22⟩ := Fv2.binds1 (ps := ["many", "inn", "out"]) 2 1 (by simp) rfl (fun T kV doc pm an cdv ct us its hl hi => match us, its, hl, hi with | [_, _], [_, _], _, _ => ⟨_, rfl, rfl⟩)
  obtain ⟨d1v2, rfl, r1v2⟩ : ∃ d1, dsv22 = [d1] ∧ RelV (.non) d1 := by
    cases rrv22 with
    | cons r rr =>
      cases rr
      exact ⟨_, rfl, r⟩
  have Fv3 : FunD K "through" "through" (defArgs sThrough) (defBody sThrough) (defScope sThrough) [.non, .non] [] fv3 _ := ⟨⟨ocv3, odv3, _, _, _, _, _, _, _, slv3, rfl, lv3, cv3, .inr ⟨by simp, Tv3, _, [.none, .none], nTv3, rfl, dv3, rfl, .cons (rfl) (.cons (rfl) .nil)⟩, .inl rfl⟩, kv3⟩
  obtain ⟨dsv33, rrv33, bv33⟩ := Fv3.binds1 (ps := ["many", "inn", "out"]) 3 2 (by simp) rfl (fun T kV doc pm an cdv ct us its hl hi => match us, its, hl, hi with | [_, _, _], [_, _], _, _ => ⟨_, rfl, rfl⟩)
  obtain rfl : dsv33 = [] := by cases rrv33; rfl
  obtain ⟨dsv32, rrv32, bv32⟩ := Fv3.binds1 (ps := ["many", "inn", "out"]) 2 1 (by simp) rfl (fun T kV doc pm an cdv ct us its hl hi => match us, its, hl, hi with | [_, _], [_, _], _, _ => ⟨_, rfl, rfl⟩)
  obtain ⟨d1v3, rfl, r1v3⟩ : ∃ d1, dsv32 = [d1] ∧ RelV (.non) d1 := by
    cases rrv32 with
    | cons r rr =>
      cases rr
      exact ⟨_, rfl, r⟩
  have Fv4 : FunD K "row_chance" "row_chance" (defArgs sRowChance) (defBody sRowChance) (defScope sRowChance) [.non, .non] [] fv4 _ := ⟨⟨ocv4, odv4, _, _, _, _, _, _, _, slv4, rfl, lv4, cv4, .inr ⟨by simp, Tv4, _, [.none, .none], nTv4, rfl, dv4, rfl, .cons (rfl) (.cons (rfl) .nil)⟩, .inl rfl⟩, kv4⟩
  obtain ⟨dsv43, rrv43, bv43⟩ := Fv4.binds1 (ps := ["row", "inn", "out"]) 3 2 (by simp) rfl (fun T kV doc pm an cdv ct us its hl hi => match us, its, hl, hi with | [_, _, _], [_, _], _, _ => ⟨_, rfl, rfl⟩)
  obtain rfl : dsv43 = [] := by cases rrv43; rfl
  obtain ⟨dsv42, rrv42, bv42⟩ := Fv4.binds1 (ps := ["row", "inn", "out"]) 2 1 (by simp) rfl (fun T kV doc pm an cdv ct us its hl hi => match us, its, hl, hi with | [_, _], [_, _], _, _ => ⟨_, rfl, rfl⟩)
  obtain ⟨d1v4, rfl, r1v4⟩ : ∃ d1, dsv42 = [d1] ∧ RelV (.non) d1 := by
    cases rrv42 with
    | cons r rr =>
      cases rr
      exact ⟨_, rfl, r⟩
  obtain ⟨dA, dB, rfl, rA, rB⟩ : ∃ a b, dsv11 = [a, b] ∧ RelV .non a ∧ RelV .non b := by
    cases rrv11 with
    | cons r rr =>
      cases rr with
      | cons r' rr =>
        cases rr
        exact ⟨_, _, rfl, r, r'⟩
  obtain rfl : d1v2 = Value.none := r1v2
  obtain rfl : d1v3 = Value.none := r1v3
  obtain rfl : d1v4 = Value.none := r1v4
  have T : TxtP K mg C := ⟨y0, y1, y2, y3, y4, y5, ICC, C_n_top, C_n_bottom, PySem.W.mg_of X G gC⟩
  have TR : TxtR K w mg d es n := ⟨y0, y1, y6, y3, y7, y4, y5, y8, y9, y10, y11, ⟨_, wb0⟩, ⟨_, wf0⟩, ⟨_, wm0⟩, PySem.W.mg_of X G gd, ⟨ld, kd, sd⟩, ⟨_, vo⟩, ⟨_, vp⟩⟩
  have T0 : TxtL mg := ⟨y12, y1, y0, y13, y14, y8⟩
  have KP : Kp K C := ⟨kit_tyC C_hd tyC kt_int, kit_tyC C_hd tyC kt_bool, kit_tyC C_hd tyC kt_str, kit_tyC C_hd tyC kt_tuple, kit_tyC C_hd tyC kt_list, kit_tyC C_hd tyC kt_dict⟩
  have MK : Mks K mg C fi f1 f2 _ _ _ d1i := ⟨⟨C_mk, ai, ni, C_kc⟩, Fi, bi3, bi2, r1i, N1, N2⟩
  have EC : EqC K C fmx := ⟨mmx, nmx, _, _, _, _, _, _, _, _, _, _, _, _, _, _, _, _, eqK, eqO, eqE, eqN⟩
  have EN : EnDefs K mg := ⟨⟨_, _, NR1⟩, ⟨_, _, NW1⟩, ⟨_, _, NW2⟩, ⟨_, _, NB1⟩, ⟨_, _, NF1⟩⟩
  have WD : WtDefs K mg C fi f1 f2 fv1 _ _ _ _ d1i dA dB := ⟨MK, EN, ⟨_, _, NR2⟩, ⟨_, _, NP1⟩, ⟨_, _, NP2⟩, ⟨_, _, NE1⟩, ⟨_, _, NS1⟩, ⟨_, _, Nu1⟩, Fv1, bv13, bv11, rA, rB, PySem.W.mg_of X G av1⟩
  have TD : TotDefs K mg C fi f1 f2 fv2 _ _ _ _ d1i Value.none Value.none := ⟨MK, ⟨_, _, N0⟩, ⟨_, _, NP1⟩, ⟨_, _, NP2⟩, ⟨_, _, NO1⟩, ⟨_, _, NA1⟩, ⟨_, _, NT1⟩, ⟨_, _, NS1⟩, ⟨_, _, Nu1⟩, Fv2, bv23, PySem.W.mg_of X G av2, ⟨_, wx0⟩⟩
  have HD : ThrDefs K mg fv3 _ := ⟨Fv3, bv33, PySem.W.mg_of X G av3⟩
  have RD : RowDefs K mg fv4 _ := ⟨Fv4, bv43, PySem.W.mg_of X G av4⟩
  have MO : OverDefs K mg C fmt fmo _ _ := ⟨⟨_, _, Nz1⟩, Fmt, bmt, ⟨mmt, nmt, kmt⟩, Fmo, bmo, ⟨mmo, nmo, kmo⟩⟩
  have LW : LawD K mg := ⟨⟨_, _, Ne1⟩, ⟨_, _, Nw⟩, ⟨_, _, Nr⟩, ⟨_, _, Nq1⟩, ⟨_, _, Nq2⟩, ⟨_, _, Nq3⟩, ⟨_, _, Nn1⟩, ⟨_, _, Nn2⟩⟩
  have Z : Ev K mg HE NN NR NP := ⟨y15, PySem.W.mg_of X G g_NN, PySem.W.mg_of X G g_NR, PySem.W.mg_of X G g_NP, ⟨x_NN, k_NN, b_NN, t_NN, ⟨ga_NN, gt_NN, b_NN, d_NN, cl_NN, q_hn, q_htk, mo_NN⟩⟩, ⟨x_NR, k_NR, b_NR, t_NR, ⟨ga_NR, gt_NR, b_NR, d_NR, cl_NR, q_hn, q_htk, mo_NR⟩⟩, ⟨x_NP, k_NP, b_NP, t_NP, ⟨ga_NP, gt_NP, b_NP, d_NP, cl_NP, q_hn, q_htk, mo_NP⟩⟩⟩
  have Y : HopR.Kinds K mg HE NN NR NP NS NW NC NH NT NY NI NG := ⟨y15, PySem.W.mg_of X G g_HE, PySem.W.mg_of X G g_NN, PySem.W.mg_of X G g_NR, PySem.W.mg_of X G g_NP, PySem.W.mg_of X G g_NS, PySem.W.mg_of X G g_NW, PySem.W.mg_of X G g_NC, PySem.W.mg_of X G g_NH, PySem.W.mg_of X G g_NT, PySem.W.mg_of X G g_NY, PySem.W.mg_of X G g_NI, PySem.W.mg_of X G g_NG⟩
  have RA : Raised K NN HE NN NR NP NS NW NC NH NT NY NI NG 0 := ⟨by decide, (PySem.W.exm_ref b_HE d_HE t_HE s_NN_HE), ⟨ga_NN, gt_NN, b_NN, d_NN, cl_NN, q_hn, q_htk, mo_NN⟩, (kit_own e_NN_HE d_HE t_HE s_NN_HE), HopR.kit_blt (by decide +kernel) v_NN, kit_me, (kit_own e_NN_NR d_NR t_NR s_NN_NR), (kit_own e_NN_NP d_NP t_NP s_NN_NP), (kit_own e_NN_NS d_NS t_NS s_NN_NS), (kit_own e_NN_NW d_NW t_NW s_NN_NW), (kit_own e_NN_NC d_NC t_NC s_NN_NC), (kit_own e_NN_NH d_NH t_NH s_NN_NH), (kit_own e_NN_NT d_NT t_NT s_NN_NT), (kit_own e_NN_NY d_NY t_NY s_NN_NY), (kit_own e_NN_NI d_NI t_NI s_NN_NI), (kit_own e_NN_NG d_NG t_NG s_NN_NG)⟩
  have RB : Raised K NR HE NN NR NP NS NW NC NH NT NY NI NG 1 := ⟨by decide, (PySem.W.exm_ref b_HE d_HE t_HE s_NR_HE), ⟨ga_NR, gt_NR, b_NR, d_NR, cl_NR, q_hn, q_htk, mo_NR⟩, (kit_own e_NR_HE d_HE t_HE s_NR_HE), HopR.kit_blt (by decide +kernel) v_NR, (kit_own e_NR_NN d_NN t_NN s_NR_NN), kit_me, (kit_own e_NR_NP d_NP t_NP s_NR_NP), (kit_own e_NR_NS d_NS t_NS s_NR_NS), (kit_own e_NR_NW d_NW t_NW s_NR_NW), (kit_own e_NR_NC d_NC t_NC s_NR_NC), (kit_own e_NR_NH d_NH t_NH s_NR_NH), (kit_own e_NR_NT d_NT t_NT s_NR_NT), (kit_own e_NR_NY d_NY t_NY s_NR_NY), (kit_own e_NR_NI d_NI t_NI s_NR_NI), (kit_own e_NR_NG d_NG t_NG s_NR_NG)⟩
  have RC : Raised K NP HE NN NR NP NS NW NC NH NT NY NI NG 2 := ⟨by decide, (PySem.W.exm_ref b_HE d_HE t_HE s_NP_HE), ⟨ga_NP, gt_NP, b_NP, d_NP, cl_NP, q_hn, q_htk, mo_NP⟩, (kit_own e_NP_HE d_HE t_HE s_NP_HE), HopR.kit_blt (by decide +kernel) v_NP, (kit_own e_NP_NN d_NN t_NN s_NP_NN), (kit_own e_NP_NR d_NR t_NR s_NP_NR), kit_me, (kit_own e_NP_NS d_NS t_NS s_NP_NS), (kit_own e_NP_NW d_NW t_NW s_NP_NW), (kit_own e_NP_NC d_NC t_NC s_NP_NC), (kit_own e_NP_NH d_NH t_NH s_NP_NH), (kit_own e_NP_NT d_NT t_NT s_NP_NT), (kit_own e_NP_NY d_NY t_NY s_NP_NY), (kit_own e_NP_NI d_NI t_NI s_NP_NI), (kit_own e_NP_NG d_NG t_NG s_NP_NG)⟩
  refine ⟨PySem.W.fnOf "law" "law" (defArgs sLaw) (defBody sLaw) (defScope sLaw) .none kVL dcL pmL anL (.ref cc) ctL, [(cc, tb)], spLaw K [(tb, qLam)], fun p hp => ?_, fun p hp => ?_, fun p hp => ?_, fun s v => .of_eq rfl, fun H a ns hl _ ht hS => ⟨a, ns, rfl, hS, hl, tabs_one (ht _ List.mem_cons_self), fun _ => rfl⟩, fun base _ _ ht => ?_⟩
  · rw [List.mem_singleton.mp hp]
    exact own cc tb _ _ _ _ _ _ lL rfl rfl lcc v11
  · rw [List.mem_singleton.mp hp]
    exact ntb
  · rw [List.mem_singleton.mp hp]
    exact ⟨_, _, _, _, _, _, _, _, _, X _ _ lcc, rfl, rfl, v11, v11d, v18, v7, v9, v10, nct⟩
  · have TB : LamX.TabB base mg cc tb := ht _ List.mem_cons_self
    exact ok_law lL cL LW Nk1 TD WD HD RD MO bv22 bv32 bv42 rfl (kwt_inn Fv3) (kwt_out Fv3) EC Fmx bmx KP T TR T0 keysOk Z Y RA RB RC TB
end Hop
open PySem PySem.W PyProof.Rows in
set_option maxRecDepth 100000 in
set_option maxHeartbeats 0 in
theorem PySem.Challenge.cw_hopline_k60_totals_refused_holds : PySem.Challenge.rw_hopline_k60_totals_refused.Holds := by
  w_on; o_law; k_head; (case hw => w_witness2)
  k_fill
  refine LamX.walk_ofOwn (l := PySem.Challenge.rw_hopline_k60_totals_refused) (n := 63) (k := 10) (x := "_law_script") (CX := fun _ => L2.CX0) rfl (by decide) rfl ⟨rfl, by decide, by decide⟩ (by first | rfl | decide +kernel) (fun w h Y => PySem.W.km_in_of Y) ?F (fun _ _ _ _ _ h => h)
  case F =>
    intro w mg fa h Y KX G hmg own
    refine' Hop.all_mk KX G hmg own ?u_a1 ?u_l1 ?u_c1 ?u_k1 ?u_a0 ?u_l0 ?u_c0 ?u_k0 ?u_a2 ?u_l2 ?u_c2 ?u_k2 ?u_au1 ?u_lu1 ?u_cu1 ?u_ku1 ?u_az1 ?u_lz1 ?u_cz1 ?u_kz1 ?u_aR1 ?u_lR1 ?u_cR1 ?u_kR1 ?u_aR2 ?u_lR2 ?u_cR2 ?u_kR2 ?u_aP1 ?u_lP1 ?u_cP1 ?u_kP1 ?u_aP2 ?u_lP2 ?u_cP2 ?u_kP2 ?u_aW1 ?u_lW1 ?u_cW1 ?u_kW1 ?u_aW2 ?u_lW2 ?u_cW2 ?u_kW2 ?u_aB1 ?u_lB1 ?u_cB1 ?u_kB1 ?u_aF1 ?u_lF1 ?u_cF1 ?u_kF1 ?u_aE1 ?u_lE1 ?u_cE1 ?u_kE1 ?u_aS1 ?u_lS1 ?u_cS1 ?u_kS1 ?u_aO1 ?u_lO1 ?u_cO1 ?u_kO1 ?u_aA1 ?u_lA1 ?u_cA1 ?u_kA1 ?u_aT1 ?u_lT1 ?u_cT1 ?u_kT1 ?u_aw ?u_lw ?u_cw ?u_kw ?u_ar ?u_lr ?u_cr ?u_kr ?u_aq1 ?u_lq1 ?u_cq1 ?u_kq1 ?u_aq2 ?u_lq2 ?u_cq2 ?u_kq2 ?u_aq3 ?u_lq3 ?u_cq3 ?u_kq3 ?u_ae1 ?u_le1 ?u_ce1 ?u_ke1 ?u_an1 ?u_ln1 ?u_cn1 ?u_kn1 ?u_an2 ?u_ln2 ?u_cn2 ?u_kn2 ?u_ak1 ?u_lk1 ?u_ck1 ?u_kk1 ?u_aL ?u_lL ?u_cL ?u_kL ?u_z0 ?u_z1 ?u_z2 ?u_z3 ?u_z4 ?u_z5 ?u_z6 ?u_z7 ?u_z8 ?u_z9 ?u_z10 ?u_z11 ?u_z12 ?u_z13 ?u_z14 ?u_z15 ?u_gb0 ?u_gf0 ?u_gm0 ?u_gx0 ?u_gd ?u_ld ?u_kd ?u_sd ?u_keysOk ?u_vo ?u_vp ?u_gC ?u_C_pg ?u_C_hd ?u_C_po ?u_C_sa ?u_C_mk ?u_C_kc ?u_C_ha ?u_C_hm ?u_q_hn ?u_q_htk ?u_C_n_top ?u_C_n_bottom ?u_mmt ?u_nmt ?u_lmt ?u_cmt ?u_kmt ?u_mmx ?u_nmx ?u_lmx ?u_cmx ?u_kmx ?u_mmo ?u_nmo ?u_lmo ?u_cmo ?u_kmo ?u_eqK ?u_eqO ?u_eqE ?u_eqN ?u_ai ?u_ni ?u_li ?u_ci ?u_ki ?u_di ?u_av1 ?u_nv1 ?u_lv1 ?u_cv1 ?u_kv1 ?u_dv1 ?u_av2 ?u_nv2 ?u_lv2 ?u_cv2 ?u_kv2 ?u_dv2 ?u_av3 ?u_nv3 ?u_lv3 ?u_cv3 ?u_kv3 ?u_dv3 ?u_av4 ?u_nv4 ?u_lv4 ?u_cv4 ?u_kv4 ?u_dv4 ?u_tyC ?u_kt_int ?u_kt_bool ?u_kt_str ?u_kt_tuple ?u_kt_list ?u_kt_dict ?u_g_HE ?u_g_NN ?u_g_NR ?u_g_NP ?u_g_NS ?u_g_NW ?u_g_NC ?u_g_NH ?u_g_NT ?u_g_NY ?u_g_NI ?u_g_NG ?u_d_HE ?u_t_HE ?u_d_NN ?u_t_NN ?u_d_NR ?u_t_NR ?u_d_NP ?u_t_NP ?u_d_NS ?u_t_NS ?u_d_NW ?u_t_NW ?u_d_NC ?u_t_NC ?u_d_NH ?u_t_NH ?u_d_NT ?u_t_NT ?u_d_NY ?u_t_NY ?u_d_NI ?u_t_NI ?u_d_NG ?u_t_NG ?u_b_HE ?u_b_NN ?u_b_NP ?u_b_NR ?u_x_NN ?u_k_NN ?u_ga_NN ?u_gt_NN ?u_cl_NN ?u_mo_NN ?u_x_NR ?u_k_NR ?u_ga_NR ?u_gt_NR ?u_cl_NR ?u_mo_NR ?u_x_NP ?u_k_NP ?u_ga_NP ?u_gt_NP ?u_cl_NP ?u_mo_NP ?u_v_NN ?u_s_NN_NR ?u_e_NN_NR ?u_s_NN_NP ?u_e_NN_NP ?u_s_NN_NS ?u_e_NN_NS ?u_s_NN_NW ?u_e_NN_NW ?u_s_NN_NC ?u_e_NN_NC ?u_s_NN_NH ?u_e_NN_NH ?u_s_NN_NT ?u_e_NN_NT ?u_s_NN_NY ?u_e_NN_NY ?u_s_NN_NI ?u_e_NN_NI ?u_s_NN_NG ?u_e_NN_NG ?u_s_NN_HE ?u_e_NN_HE ?u_v_NR ?u_s_NR_NN ?u_e_NR_NN ?u_s_NR_NP ?u_e_NR_NP ?u_s_NR_NS ?u_e_NR_NS ?u_s_NR_NW ?u_e_NR_NW ?u_s_NR_NC ?u_e_NR_NC ?u_s_NR_NH ?u_e_NR_NH ?u_s_NR_NT ?u_e_NR_NT ?u_s_NR_NY ?u_e_NR_NY ?u_s_NR_NI ?u_e_NR_NI ?u_s_NR_NG ?u_e_NR_NG ?u_s_NR_HE ?u_e_NR_HE ?u_v_NP ?u_s_NP_NN ?u_e_NP_NN ?u_s_NP_NR ?u_e_NP_NR ?u_s_NP_NS ?u_e_NP_NS ?u_s_NP_NW ?u_e_NP_NW ?u_s_NP_NC ?u_e_NP_NC ?u_s_NP_NH ?u_e_NP_NH ?u_s_NP_NT ?u_e_NP_NT ?u_s_NP_NY ?u_e_NP_NY ?u_s_NP_NI ?u_e_NP_NI ?u_s_NP_NG ?u_e_NP_NG ?u_s_NP_HE ?u_e_NP_HE ?u_hcc ?u_lcc ?u_v11 ?u_v11d ?u_v18 ?u_v7 ?u_v9 ?u_v10 ?u_nct ?u_ntb
    (case u_a1 => k_is)
    (case u_l1 => k_is)
    (case u_c1 => k_is)
    (case u_k1 => k_is)
    (case u_a0 => k_is)
    (case u_l0 => k_is)
    (case u_c0 => k_is)
    (case u_k0 => k_is)
    (case u_a2 => k_is)
    (case u_l2 => k_is)
    (case u_c2 => k_is)
    (case u_k2 => k_is)
    (case u_au1 => k_is)
    (case u_lu1 => k_is)
    (case u_cu1 => k_is)
    (case u_ku1 => k_is)
    (case u_az1 => k_is)
    (case u_lz1 => k_is)
    (case u_cz1 => k_is)
    (case u_kz1 => k_is)
    (case u_aR1 => k_is)
    (case u_lR1 => k_is)
    (case u_cR1 => k_is)
    (case u_kR1 => k_is)
    (case u_aR2 => k_is)
    (case u_lR2 => k_is)
    (case u_cR2 => k_is)
    (case u_kR2 => k_is)
    (case u_aP1 => k_is)
    (case u_lP1 => k_is)
    (case u_cP1 => k_is)
    (case u_kP1 => k_is)
    (case u_aP2 => k_is)
    (case u_lP2 => k_is)
    (case u_cP2 => k_is)
    (case u_kP2 => k_is)
    (case u_aW1 => k_is)
    (case u_lW1 => k_is)
    (case u_cW1 => k_is)
    (case u_kW1 => k_is)
    (case u_aW2 => k_is)
    (case u_lW2 => k_is)
    (case u_cW2 => k_is)
    (case u_kW2 => k_is)
    (case u_aB1 => k_is)
    (case u_lB1 => k_is)
    (case u_cB1 => k_is)
    (case u_kB1 => k_is)
    (case u_aF1 => k_is)
    (case u_lF1 => k_is)
    (case u_cF1 => k_is)
    (case u_kF1 => k_is)
    (case u_aE1 => k_is)
    (case u_lE1 => k_is)
    (case u_cE1 => k_is)
    (case u_kE1 => k_is)
    (case u_aS1 => k_is)
    (case u_lS1 => k_is)
    (case u_cS1 => k_is)
    (case u_kS1 => k_is)
    (case u_aO1 => k_is)
    (case u_lO1 => k_is)
    (case u_cO1 => k_is)
    (case u_kO1 => k_is)
    (case u_aA1 => k_is)
    (case u_lA1 => k_is)
    (case u_cA1 => k_is)
    (case u_kA1 => k_is)
    (case u_aT1 => k_is)
    (case u_lT1 => k_is)
    (case u_cT1 => k_is)
    (case u_kT1 => k_is)
    (case u_aw => k_is)
    (case u_lw => k_is)
    (case u_cw => k_is)
    (case u_kw => k_is)
    (case u_ar => k_is)
    (case u_lr => k_is)
    (case u_cr => k_is)
    (case u_kr => k_is)
    (case u_aq1 => k_is)
    (case u_lq1 => k_is)
    (case u_cq1 => k_is)
    (case u_kq1 => k_is)
    (case u_aq2 => k_is)
    (case u_lq2 => k_is)
    (case u_cq2 => k_is)
    (case u_kq2 => k_is)
    (case u_aq3 => k_is)
    (case u_lq3 => k_is)
    (case u_cq3 => k_is)
    (case u_kq3 => k_is)
    (case u_ae1 => k_is)
    (case u_le1 => k_is)
    (case u_ce1 => k_is)
    (case u_ke1 => k_is)
    (case u_an1 => k_is)
    (case u_ln1 => k_is)
    (case u_cn1 => k_is)
    (case u_kn1 => k_is)
    (case u_an2 => k_is)
    (case u_ln2 => k_is)
    (case u_cn2 => k_is)
    (case u_kn2 => k_is)
    (case u_ak1 => k_is)
    (case u_lk1 => k_is)
    (case u_ck1 => k_is)
    (case u_kk1 => k_is)
    (case u_aL => k_is)
    (case u_lL => k_is)
    (case u_cL => k_is)
    (case u_kL => k_is)
    (case u_z0 => k_is)
    (case u_z1 => k_is)
    (case u_z2 => k_is)
    (case u_z3 => k_is)
    (case u_z4 => k_is)
    (case u_z5 => k_is)
    (case u_z6 => k_is)
    (case u_z7 => k_is)
    (case u_z8 => k_is)
    (case u_z9 => k_is)
    (case u_z10 => k_is)
    (case u_z11 => k_is)
    (case u_z12 => k_is)
    (case u_z13 => k_is)
    (case u_z14 => k_is)
    (case u_z15 => k_is)
    (case u_gb0 => k_is)
    (case u_gf0 => k_is)
    (case u_gm0 => k_is)
    (case u_gx0 => k_is)
    (case u_gd => k_is)
    (case u_ld => k_is)
    (case u_kd => k_keys)
    (case u_sd => decide)
    (case u_keysOk => rfl)
    (case u_vo => k_is)
    (case u_vp => k_is)
    (case u_gC => k_is)
    (case u_C_pg => k_is)
    (case u_C_hd => k_is)
    (case u_C_po => k_is)
    (case u_C_sa => k_is)
    (case u_C_mk => k_is)
    (case u_C_kc => k_is)
    (case u_C_ha => k_is)
    (case u_C_hm => k_is)
    (case u_q_hn => k_is)
    (case u_q_htk => k_is)
    (case u_C_n_top => k_is)
    (case u_C_n_bottom => k_is)
    (case u_mmt => k_is)
    (case u_nmt => k_is)
    (case u_lmt => k_is)
    (case u_cmt => k_is)
    (case u_kmt => k_is)
    (case u_mmx => k_is)
    (case u_nmx => k_is)
    (case u_lmx => k_is)
    (case u_cmx => k_is)
    (case u_kmx => k_is)
    (case u_mmo => k_is)
    (case u_nmo => k_is)
    (case u_lmo => k_is)
    (case u_cmo => k_is)
    (case u_kmo => k_is)
    (case u_eqK => k_is)
    (case u_eqO => first | kernel_rfl | decide +kernel | rfl)
    (case u_eqE => k_is)
    (case u_eqN => k_is)
    (case u_ai => k_is)
    (case u_ni => k_is)
    (case u_li => k_is)
    (case u_ci => k_is)
    (case u_ki => k_is)
    (case u_di => k_is)
    (case u_av1 => k_is)
    (case u_nv1 => k_is)
    (case u_lv1 => k_is)
    (case u_cv1 => k_is)
    (case u_kv1 => k_is)
    (case u_dv1 => k_is)
    (case u_av2 => k_is)
    (case u_nv2 => k_is)
    (case u_lv2 => k_is)
    (case u_cv2 => k_is)
    (case u_kv2 => k_is)
    (case u_dv2 => k_is)
    (case u_av3 => k_is)
    (case u_nv3 => k_is)
    (case u_lv3 => k_is)
    (case u_cv3 => k_is)
    (case u_kv3 => k_is)
    (case u_dv3 => k_is)
    (case u_av4 => k_is)
    (case u_nv4 => k_is)
    (case u_lv4 => k_is)
    (case u_cv4 => k_is)
    (case u_kv4 => k_is)
    (case u_dv4 => k_is)
    (case u_tyC => k_is)
    (case u_kt_int => first | kx_is | k_is | kernel_rfl | decide +kernel)
    (case u_kt_bool => first | kx_is | k_is | kernel_rfl | decide +kernel)
    (case u_kt_str => first | kx_is | k_is | kernel_rfl | decide +kernel)
    (case u_kt_tuple => first | kx_is | k_is | kernel_rfl | decide +kernel)
    (case u_kt_list => first | kx_is | k_is | kernel_rfl | decide +kernel)
    (case u_kt_dict => first | kx_is | k_is | kernel_rfl | decide +kernel)
    (case u_g_HE => k_is)
    (case u_g_NN => k_is)
    (case u_g_NR => k_is)
    (case u_g_NP => k_is)
    (case u_g_NS => k_is)
    (case u_g_NW => k_is)
    (case u_g_NC => k_is)
    (case u_g_NH => k_is)
    (case u_g_NT => k_is)
    (case u_g_NY => k_is)
    (case u_g_NI => k_is)
    (case u_g_NG => k_is)
    (case u_d_HE => k_is)
    (case u_t_HE => k_is)
    (case u_d_NN => k_is)
    (case u_t_NN => k_is)
    (case u_d_NR => k_is)
    (case u_t_NR => k_is)
    (case u_d_NP => k_is)
    (case u_t_NP => k_is)
    (case u_d_NS => k_is)
    (case u_t_NS => k_is)
    (case u_d_NW => k_is)
    (case u_t_NW => k_is)
    (case u_d_NC => k_is)
    (case u_t_NC => k_is)
    (case u_d_NH => k_is)
    (case u_t_NH => k_is)
    (case u_d_NT => k_is)
    (case u_t_NT => k_is)
    (case u_d_NY => k_is)
    (case u_t_NY => k_is)
    (case u_d_NI => k_is)
    (case u_t_NI => k_is)
    (case u_d_NG => k_is)
    (case u_t_NG => k_is)
    (case u_b_HE => k_is)
    (case u_b_NN => k_is)
    (case u_b_NP => k_is)
    (case u_b_NR => k_is)
    (case u_x_NN => k_exc)
    (case u_k_NN => k_is)
    (case u_ga_NN => k_is)
    (case u_gt_NN => k_is)
    (case u_cl_NN => k_is)
    (case u_mo_NN => k_is)
    (case u_x_NR => k_exc)
    (case u_k_NR => k_is)
    (case u_ga_NR => k_is)
    (case u_gt_NR => k_is)
    (case u_cl_NR => k_is)
    (case u_mo_NR => k_is)
    (case u_x_NP => k_exc)
    (case u_k_NP => k_is)
    (case u_ga_NP => k_is)
    (case u_gt_NP => k_is)
    (case u_cl_NP => k_is)
    (case u_mo_NP => k_is)
    (case u_v_NN => k_is)
    (case u_s_NN_NR => k_is)
    (case u_e_NN_NR => decide)
    (case u_s_NN_NP => k_is)
    (case u_e_NN_NP => decide)
    (case u_s_NN_NS => k_is)
    (case u_e_NN_NS => decide)
    (case u_s_NN_NW => k_is)
    (case u_e_NN_NW => decide)
    (case u_s_NN_NC => k_is)
    (case u_e_NN_NC => decide)
    (case u_s_NN_NH => k_is)
    (case u_e_NN_NH => decide)
    (case u_s_NN_NT => k_is)
    (case u_e_NN_NT => decide)
    (case u_s_NN_NY => k_is)
    (case u_e_NN_NY => decide)
    (case u_s_NN_NI => k_is)
    (case u_e_NN_NI => decide)
    (case u_s_NN_NG => k_is)
    (case u_e_NN_NG => decide)
    (case u_s_NN_HE => k_is)
    (case u_e_NN_HE => decide)
    (case u_v_NR => k_is)
    (case u_s_NR_NN => k_is)
    (case u_e_NR_NN => decide)
    (case u_s_NR_NP => k_is)
    (case u_e_NR_NP => decide)
    (case u_s_NR_NS => k_is)
    (case u_e_NR_NS => decide)
    (case u_s_NR_NW => k_is)
    (case u_e_NR_NW => decide)
    (case u_s_NR_NC => k_is)
    (case u_e_NR_NC => decide)
    (case u_s_NR_NH => k_is)
    (case u_e_NR_NH => decide)
    (case u_s_NR_NT => k_is)
    (case u_e_NR_NT => decide)
    (case u_s_NR_NY => k_is)
    (case u_e_NR_NY => decide)
    (case u_s_NR_NI => k_is)
    (case u_e_NR_NI => decide)
    (case u_s_NR_NG => k_is)
    (case u_e_NR_NG => decide)
    (case u_s_NR_HE => k_is)
    (case u_e_NR_HE => decide)
    (case u_v_NP => k_is)
    (case u_s_NP_NN => k_is)
    (case u_e_NP_NN => decide)
    (case u_s_NP_NR => k_is)
    (case u_e_NP_NR => decide)
    (case u_s_NP_NS => k_is)
    (case u_e_NP_NS => decide)
    (case u_s_NP_NW => k_is)
    (case u_e_NP_NW => decide)
    (case u_s_NP_NC => k_is)
    (case u_e_NP_NC => decide)
    (case u_s_NP_NH => k_is)
    (case u_e_NP_NH => decide)
    (case u_s_NP_NT => k_is)
    (case u_e_NP_NT => decide)
    (case u_s_NP_NY => k_is)
    (case u_e_NP_NY => decide)
    (case u_s_NP_NI => k_is)
    (case u_e_NP_NI => decide)
    (case u_s_NP_NG => k_is)
    (case u_e_NP_NG => decide)
    (case u_s_NP_HE => k_is)
    (case u_e_NP_HE => decide)
    (case u_hcc => rfl)
    (case u_lcc => k_is)
    (case u_v11 => rfl)
    (case u_v11d => rfl)
    (case u_v18 => rfl)
    (case u_v7 => rfl)
    (case u_v9 => rfl)
    (case u_v10 => rfl)
    (case u_nct => decide)
    (case u_ntb => first | k_is | kernel_rfl | decide +kernel | rfl)
