import PyProof.Rows.All
import Wide.All
import OpenK.AllK
import Wide.FinOn
import HandS.ForMost
import HandS.Wide
import HandS.Style
import HandS.RevTup
import HandS.Rev
import HandS.IsInst
import HandS.More
import HandS.Conv
import HandS.Defaults
import HandS.ForExc
import HandS.OwnEq
import HandS.Flow
import PyProof.ListStr
import HandS.Walk
import HandS.EndBits
import PyProof.ReprRoads
import PyProof.ReprLen
import HandS.Exc
import HandS.ExcIs
import HandS.TryOnly
import HandS.ExcOwn
import HandS.WordsExc
import PySem.Challenge.RW_hopline_k23_whole_whatever_is_shortened
import HandS.Codes
import HandS.Dict
import KE.DataAny
import HandS.FStr
import HandS.ForDict
import HandS.Iter
import KE.KExcInit
import HandS.ExcInit
import HandS.ExcField
import KE.KExcIs
import KE.KCallOwn
import HandS.SortKw
import HandS.SortInts
import KE.SortKeyHeap
import KE.KSortKey
import PyProof.ReprReads
import PyProof.PureStr
import PyProof.ReprNest
import PyProof.InstNe
import HandS.SortRule
import KE.KSortTupAny
import HandS.SortOrd
import PyProof.TupleOfStr
import KE.GoesZip
import KE.GoesMore
import PyProof.Draws
import PyProof.WalksT
import PyProof.Rows.StrFirst
import HandS.DictComp
import PyProof.EqAt
import KE.KExcLine

set_option Elab.async false
set_option linter.all false
set_option maxRecDepth 100000
namespace HopR
open PySem PySem.Spec PyProof.Rows L2
/-! rules of my own: texts -/
/-- the signs of a text, each a text -/
def sg (z : Str) : List Str := z.cps.toList.map fun c => ⟨#[c]⟩
theorem sg_len (z : Str) : (sg z).length = z.length := by
  unfold sg
  rw [List.length_map]
  rfl
theorem sg_get {z : Str} {i : Nat} {c : Nat} (h : z.cps[i]? = some c) : (sg z)[i]? = some ⟨#[c]⟩ := by
  unfold sg
  rw [List.getElem?_map, Array.getElem?_toList, h]
  rfl
theorem strsAre_of : ∀ (vs : List Value) (ys : List Str), vs.length = ys.length → (∀ (j : Nat) (v : Value), vs[j]? = some v → ∃ y t, ys[j]? = some y ∧ v = .str y t) → StrsAre vs ys
  | [], [], _, _ => .nil
  | v :: r, y :: q, hl, h => by
    obtain ⟨y', t, e1, e2⟩ := h 0 v rfl
    have e3 : y = y' := Option.some.inj e1
    subst e3 e2
    exact .cons y t (strsAre_of r q (by simpa using hl) fun j w hw => h (j + 1) w hw)
theorem signs_are {z : Str} {acc : Array Value} (h : ItemsOf (SignAt z) acc z.cps.size) : StrsAre acc.toList (sg z) := by
  refine strsAre_of _ _ (by rw [sg_len, Array.length_toList, h.1]; rfl) fun j v hv => ?_
  obtain ⟨c, u, hc, e⟩ := h.2 j v (by rw [← Array.getElem?_toList]; exact hv)
  exact ⟨⟨#[c]⟩, u, sg_get hc, e⟩
section
variable {X : Cx}
/-- sorted(text) -/
def rSortT : List V → Hp → VK → Prop := fun vs H Q => ∃ z : Str, vs = [.str z] ∧ z.length < 64 ∧ ∀ (ys : List Str) (p : Addr), ys.Perm (sg z) → sortedS ys = true → H p = none → Q (.ref p) (upd H p (.lst (ys.map V.str)))
theorem cr_sortT (hcm : X.calm = true) : CallR X (.builtin "sorted") rSortT := by
  intro pins s σ H xs us Q I r h
  obtain ⟨z, rfl, h64, q⟩ := h
  obtain ⟨u, rfl, t, rfl⟩ := vals1 r
  refine Calls.call_function_entry kind_sorted plain_sorted entry_sorted (args_sorted1 (.str z t)) ?_
  unfold Builtin.«sorted»
  refine wpAny_bind (m := checkCount "sorted" 1 1 [Value.str z t].length) (wpAny_pure ?_)
  have hz : z.cps.size < 64 := h64
  refine wpAny_bind (wpAny_collect_str (A := X.A.in1) (show X.A.in1.handled = none from I.ok.hd hcm) z t (fun s' acc hk hg hdr hos hit => ?_) (Nat.le_trans (Nat.le_of_lt hz) (by decide)))
  have hS := signs_are hit
  have es : s' = { s with heap := s'.heap, toks := s'.toks } := by
    cases s'
    cases s
    simp only at hg hdr hos
    subst hg hdr hos
    rfl
  have hal : acc.toList.length < 64 := by rw [Array.length_toList, hit.1]; exact hz
  refine wpAny_bind (wpAny_newList ?_ (Nat.le_trans (Nat.le_of_lt hal) (by decide)))
  have hoL : (s'.heap.push (seqObj "list" acc.toList.toArray 0)).get? s'.heap.objs.size = some (seqObj "list" acc.toList.toArray 0) := Heap.get?_push_size _ rfl
  refine wpAny_bind (wpAny_holding (wpAny_call_entry slot_list_sort ⟨_, hoL, rfl⟩ entry_list_sort (list_sort_treeK strKind_oneLt hoL hS.keysOf (fun v₁ v₂ rest e => keyKind_strs (by rw [← e]; exact hS)) hal fun st' hp hs => ⟨_, rfl, ?_⟩) (args_list_sort _)))
  obtain ⟨ys, g1, g2, g3⟩ := sorted_out_str hS hp hs
  obtain ⟨ep, he'⟩ := sortedHeap_at (vs := acc.toList) (out := (arrOf st').map (·.2)) hoL
  have I1 : Inv X pins σ H s' := by
    rw [es]
    exact I.kept hk
  have hlen : (ys.map V.str).length ≤ sizeLine := by
    rw [List.length_map, g2.length_eq, sg_len]
    exact Nat.le_trans (Nat.le_of_lt h64) (by decide)
  have hne : ∀ b o, s'.heap.get? b = some o → (sortedHeap (s'.heap.push (seqObj "list" acc.toList.toArray 0)) s'.heap.objs.size acc.toList ((arrOf st').map (·.2))).get? b = some o := fun b o e => by
    rw [sortedHeap_old (Nat.ne_of_lt (Heap.lt_size e)) (by rw [size_push']; exact Nat.lt_succ_of_lt (Heap.lt_size e))]
    exact Heap.get?_push_of_some _ e
  refine wpAny_pure ⟨_, rfl, .ref _, upd H s'.heap.objs.size (.lst (ys.map V.str)), I1.laid (t' := s'.toks) hne (Nat.le_refl _) ?_, rfl, q ys _ g2 g3 (I1.hok.fresh (Nat.le_refl _))⟩
  exact ⟨hlen, ((arrOf st').map (·.2)).toList, ep, vals_of_strs g1, by rw [Array.toArray_toList]; exact he'⟩
/-- list(text) -/
def rListT : List V → Hp → VK → Prop := fun vs H Q => ∃ z : Str, vs = [.str z] ∧ z.length ≤ sizeLine ∧ ∀ p : Addr, H p = none → Q (.ref p) (upd H p (.lst ((sg z).map V.str)))
theorem cr_listT (hcm : X.calm = true) : CallR X (.type "list") rListT := by
  intro pins s σ H xs us Q I r h
  obtain ⟨z, rfl, hz, q⟩ := h
  obtain ⟨u, rfl, t, rfl⟩ := vals1 r
  refine call_list_str (I.ok.hd hcm) z t (fun h' tk acc c' hk hS' hit => ?_) hz
  refine ⟨.ref _, upd H s.heap.objs.size (.lst ((sg z).map V.str)), I.laid hk (Nat.le_refl _) ?_, rfl, q _ (I.hok.fresh (Nat.le_refl _))⟩
  exact ⟨by rw [List.length_map, sg_len]; exact hz, acc.toList, c', vals_of_strs (signs_are hit), by rw [Array.toArray_toList]; exact hS'⟩
/-- text * n -/
def repS (z : Str) (n : Nat) : Str := ⟨((List.replicate n z.cps.toList).flatten).toArray⟩
theorem foldl_app : ∀ (n : Nat) (a b : Array Nat), ((List.replicate n a).foldl (· ++ ·) b).toList = b.toList ++ (List.replicate n a.toList).flatten
  | 0, a, b => by simp
  | n + 1, a, b => by
    rw [List.replicate_succ, List.foldl_cons, foldl_app n, List.replicate_succ, List.flatten_cons, Array.toList_append, List.append_assoc]
theorem repS_len (z : Str) (k : Nat) : (repS z k).length = z.length * k := by
  show ((List.replicate k z.cps.toList).flatten).toArray.size = z.cps.size * k
  rw [List.size_toArray, List.length_flatten, List.map_replicate, List.sum_replicate_nat, Array.length_toList, Nat.mul_comm]
def rRepS : R2 := fun x y H Q => ∃ (z : Str) (k : Nat), x = .str z ∧ y = .int (k : Int) ∧ z.length * k ≤ 1000000 ∧ k ≤ 1000000 ∧ Q (.str (repS z k)) H
theorem op_repS : OpR X (binaryOp .Mult) rRepS := by
  intro pins s σ H x y v u Q I rx ry h
  obtain ⟨z, k, rfl, rfl, hz, hk, q⟩ := h
  obtain ⟨t, rfl⟩ := rx
  obtain ⟨t', rfl⟩ := ry
  refine PySem.P.mul_str ?_ ?_ ?_ ?_
  · rw [decide_eq_false (by omega), decide_eq_false (by omega)]
    rfl
  · intro h1 _
    have h0 : (0 : Int) < (k : Int) := by omega
    have h2 : ((z.length * k : Nat) : Int) ≤ 2 ^ 63 - 1 := by omega
    rw [Int.natCast_mul] at h2
    have h3 := (Int.le_ediv_iff_mul_le h0).mpr h2
    omega
  · intro _ _
    unfold Builtin.Str.tooLong
    rw [Int.toNat_natCast, sizeLine_eq]
    exact decide_eq_false (by omega)
  · by_cases h1 : (k : Int) < 1
    · rw [if_pos h1]
      have e : repS z k = Str.empty := by
        have : k = 0 := by omega
        subst this
        rfl
      rw [e] at q
      exact ⟨by decide, .str _, H, I.tok _, ⟨_, rfl⟩, q⟩
    · rw [if_neg h1]
      by_cases h2 : ((k : Int) == 1 || z.length == 0) = true
      · rw [if_pos h2]
        have e : repS z k = z := by
          rw [Bool.or_eq_true] at h2
          rcases h2 with h2 | h2
          · have h3 : (k : Int) = 1 := by simpa using h2
            have h4 : k = 1 := by omega
            subst h4
            unfold repS
            simp
          · have h3 : z.length = 0 := by simpa using h2
            have h4 : z.cps = #[] := Array.eq_empty_of_size_eq_zero h3
            unfold repS
            cases z with | mk zc =>
            simp only at h4
            subst h4
            simp
        rw [e] at q
        exact ⟨.str z, H, I, ⟨t, rfl⟩, q⟩
      · rw [if_neg h2]
        have e : (⟨(List.replicate (k : Int).toNat z.cps).foldl (· ++ ·) #[]⟩ : Str) = repS z k := by
          unfold repS
          rw [Int.toNat_natCast, ← Array.toArray_toList (xs := (List.replicate k z.cps).foldl (· ++ ·) #[]), foldl_app]
          rfl
        rw [e]
        have hl : (repS z k).length ≤ sizeLine := by
          rw [repS_len, sizeLine_eq]
          omega
        exact ⟨hl, .str _, H, I.tok _, ⟨_, rfl⟩, q⟩
/-- text[::-1] -/
def revS (z : Str) : Str := ⟨z.cps.toList.reverse.toArray⟩
theorem revS_len (z : Str) : (revS z).length = z.length := by
  show z.cps.toList.reverse.toArray.size = z.cps.size
  rw [List.size_toArray, List.length_reverse, Array.length_toList]
theorem rev_pick (z : Str) : (⟨((PySem.Builtin.Str.strSliceIndices none none (-1) z.length).filterMap (z.cps[·]?)).toArray⟩ : Str) = revS z := by
  unfold revS
  have e : PySem.Builtin.Str.strSliceIndices none none (-1) z.length = (List.range z.length).reverse := by
    rw [← PySem.W.krv_range, ← PySem.W.krv_sliceRange]
    rfl
  have e2 := PySem.W.krv_all z.cps
  rw [e, List.filterMap_reverse]
  show (⟨((List.range z.cps.size).filterMap (z.cps[·]?)).reverse.toArray⟩ : Str) = _
  rw [e2]
def tRevS (te : TE) : TE := fun σ H Q => te σ H fun x H1 => ∃ z : Str, x = .str z ∧ z.length ≤ sizeLine ∧ Q (.str (revS z)) H1
theorem pe_revS {e : Expr} {te : TE} {k : Nat} {p1 p2 p3 pos : Pos} (he : PE X e te) : PE X (.Subscript e (.Slice none none (some (.UnaryOp .USub (.Constant (.int 1) k p1) p2)) p3) pos) (tRevS te) := by
  refine ⟨fun pins s σ H Q I h => Subscript_ (thn (he.run pins s σ H _ I h) fun v s1 ⟨x, H1, I1, r1, z, ex, hz, q⟩ => ?_)⟩
  subst ex
  obtain ⟨t, rfl⟩ := r1
  have hst : PO X (some (.UnaryOp .USub (.Constant (.int 1) k p1) p2)) (tPart (tUn (rU fun i => .int (-i)) (tC (.int 1)))) := po_some (pe_un un_neg pe_int)
  refine wpAny_Slice (thn (po_none.run pins s1 σ H1 (fun o K2 => o = none ∧ K2 = H1) I1 ⟨rfl, rfl⟩) fun vl s2 ⟨l, H2, I2, pl, el, e2⟩ => ?_)
  subst el e2
  refine thn (po_none.run pins s2 σ H2 (fun o K3 => o = none ∧ K3 = H2) I2 ⟨rfl, rfl⟩) fun vu s3 ⟨u, H3, I3, pu, eu, e3⟩ => ?_
  subst eu e3
  refine thn (hst.run pins s3 σ H3 (fun o K4 => o = some (-1) ∧ K4 = H3) I3 ⟨1, rfl, -1, rfl, rfl, rfl⟩) fun vs s4 ⟨o, H4, I4, ps, eo, e4⟩ => ?_
  subst eo e4
  obtain ⟨l, rfl, hl⟩ := IsPart.raw pl
  obtain ⟨u, rfl, hu⟩ := IsPart.raw pu
  obtain ⟨st, rfl, hst'⟩ := IsPart.raw ps
  have I5 : Inv X pins σ H4 { s4 with heap := s4.heap.push { cls := .type "slice", data := .fields #[partValue l, partValue u, partValue st] } } := I4.kept (t' := s4.toks) fun b ob qq => Heap.get?_push_of_some _ qq
  show wpAny (model X.prog X.w) X.A (subscriptTail e (.Slice none none (some (.UnaryOp .USub (.Constant (.int 1) k p1) p2)) p3) (.str z t) (.ref s4.heap.objs.size)) (EP X pins σ Q) X.xe { s4 with heap := s4.heap.push { cls := .type "slice", data := .fields #[partValue l, partValue u, partValue st] } }
  refine tail_any (ops := [.ref s4.heap.objs.size, .str z t]) (T := "str") (typeIs_str _ _ _) F.slot_str_getitem.lookup ?_ (by with_unfolding_all rfl)
  refine wpAny_getItem_str_slice (l := l) (u := u) (st := st) (Heap.IsSliceOf.new ..) (by rw [hst']; decide) ?_
  have em : sliceMade z t l u st = .str (revS z) := by
    unfold sliceMade slicePicked
    rw [hst', hl, hu]
    rw [if_neg (by simp)]
    rw [← rev_pick z]
    rfl
  rw [em]
  exact ⟨by rw [revS_len]; exact hz, .str _, H4, I5.tok _, ⟨_, rfl⟩, q⟩
end
end HopR

set_option Elab.async false
set_option linter.all false
set_option maxRecDepth 100000
namespace HopR
open PySem PySem.Spec PyProof.Rows L2
/-! rows as lists of truths -/
def cd (b : Bool) : Nat := if b then 111 else 46
def tx (bs : List Bool) : Str := ⟨(bs.map cd).toArray⟩
theorem cd_inj {a b : Bool} (h : cd a = cd b) : a = b := by
  cases a <;> cases b <;> first | rfl | (exact absurd h (by decide))
theorem map_cd_inj : ∀ {as bs : List Bool}, as.map cd = bs.map cd → as = bs
  | [], [], _ => rfl
  | [], _ :: _, h => by simp at h
  | _ :: _, [], h => by simp at h
  | a :: r, b :: q, h => by
    rw [List.map_cons, List.map_cons] at h
    injection h with h1 h2
    rw [cd_inj h1, map_cd_inj h2]
theorem tx_inj {as bs : List Bool} (h : tx as = tx bs) : as = bs := by
  unfold tx at h
  injection h with h
  exact map_cd_inj (by simpa using congrArg Array.toList h)
theorem tx_len (bs : List Bool) : (tx bs).length = bs.length := by
  show (bs.map cd).toArray.size = bs.length
  rw [List.size_toArray, List.length_map]
theorem tx_list (bs : List Bool) : (tx bs).cps.toList = bs.map cd := rfl
theorem tx_get {bs : List Bool} {i : Nat} {b : Bool} (h : bs[i]? = some b) : (tx bs).cps[i]? = some (cd b) := by
  show (bs.map cd).toArray[i]? = some (cd b)
  rw [List.getElem?_toArray, List.getElem?_map, h]
  rfl
theorem ext_str {a b : Str} (h : a.cps.toList = b.cps.toList) : a = b := by
  cases a with | mk x =>
  cases b with | mk y =>
  have e : x = y := Array.toList_inj.mp h
  rw [e]
theorem tx_app (as bs : List Bool) : tx as ++ tx bs = tx (as ++ bs) := by
  apply ext_str
  show ((as.map cd).toArray ++ (bs.map cd).toArray).toList = (as ++ bs).map cd
  rw [Array.toList_append, List.map_append]
theorem tx_rev (bs : List Bool) : revS (tx bs) = tx bs.reverse := by
  unfold revS tx
  simp
theorem tx_sg (bs : List Bool) : sg (tx bs) = bs.map fun b => tx [b] := by
  unfold sg
  rw [tx_list, List.map_map]
  rfl
theorem tx_o : ("o" : Str) = tx [true] := by decide +kernel
theorem tx_f : ("." : Str) = tx [false] := by decide +kernel
/-- a row walked sign by sign: a turn's sign is the text of that place's truth -/
theorem walk_tx {bs : List Bool} : Walk (Its (tx bs)) bs.length (fun _ => True) (fun i H v H' => H' = H ∧ ∃ b, bs[i]? = some b ∧ v = .str (tx [b])) := by
  have w := walk_str (z := tx bs)
  rw [show (tx bs).cps.size = bs.length from tx_len bs] at w
  refine w.mono (fun _ g => g) fun i H x H' hi _ y => ?_
  obtain ⟨e1, c, e2, e3⟩ := y
  have hb : bs[i]? = some bs[i] := List.getElem?_eq_getElem hi
  rw [tx_get hb] at e2
  cases e2
  exact ⟨e1, _, hb, e3⟩
def for_tx {bs : List Bool} {g : TG} {tb : TS} {D : Ends} {σ : L2.St} {H : Hp} (Pv : Nat → L2.St → Hp → Prop) (h0 : Pv 0 σ H)
    (hs : ∀ i b σ H, bs[i]? = some b → Pv i σ H → g (.str (tx [b])) σ H fun σ2 H2 => tb { D with nx := Pv (i + 1), ct := Pv (i + 1), bk := D.nx } σ2 H2) (hd : ∀ σ H, Pv bs.length σ H → D.nx σ H) :=
  for_it (walk_tx (bs := bs)) (g := g) (tb := tb) (D := D) (σ := σ) (H := H) Pv h0 (fun _ _ _ _ _ => trivial)
    (fun i x σ H H' _ p y => by
      obtain ⟨e1, b, hb, e2⟩ := y
      subst e1 e2
      exact hs i b σ _ hb p) hd
def lc_tx {bs : List Bool} {g : TG} {tt : TT} {te : TE} {vs : List Nat} {σ : L2.St} {H1 : Hp} {D : Addr} {Qd : Hp → Prop} (Pv : Nat → Hp → Prop) (h0 : Pv 0 (upd H1 D (.lst [])))
    (hs : ∀ i b H, bs[i]? = some b → Pv i H → g (.str (tx [b])) (wipe σ vs) H fun σ2 H2 => wipe σ2 vs = wipe σ vs ∧ tt σ2 H2 fun kept H3 =>
      if kept = true then (te σ2 H3 fun y H4 => ∃ acc, H4 D = some (.lst acc) ∧ acc.length < sizeLine ∧ Pv (i + 1) (upd H4 D (.lst (acc ++ [y])))) else Pv (i + 1) H3)
    (hd : ∀ H, Pv bs.length H → Qd H) :=
  lc_it (walk_tx (bs := bs)) (g := g) (tt := tt) (te := te) (vs := vs) (σ := σ) (H1 := H1) (D := D) (Qd := Qd) Pv h0 (fun _ _ _ _ => trivial)
    (fun i x H H' _ p y => by
      obtain ⟨e1, b, hb, e2⟩ := y
      subst e1 e2
      exact hs i b _ hb p) hd
end HopR

set_option Elab.async false
set_option linter.all false
set_option maxRecDepth 100000
namespace HopR
open PySem PySem.Spec PyProof.Rows L2 TL
theorem joinL_nil : ∀ ps : List (List Nat), joinL [] ps = ps.flatten
  | [] => rfl
  | [p] => by
    show p = p ++ []
    rw [List.append_nil]
  | p :: q :: r => by
    show p ++ ([] ++ joinL [] (q :: r)) = p ++ (q :: r).flatten
    rw [List.nil_append, joinL_nil (q :: r)]
theorem join0_list (ys : List Str) : (Txt.join "" ys).cps.toList = (ys.map fun y => y.cps.toList).flatten := by
  have e : Txt.join "" ys = Str.join "" ys := PySem.StrLaws.glued_eq_join "" ys
  rw [e]
  have h := tl_join "" ys
  have h2 : tl ("" : Str) = [] := by decide +kernel
  rw [h2, joinL_nil] at h
  exact h
theorem join_tx (bs : List Bool) : Txt.join "" (bs.map fun b => tx [b]) = tx bs := by
  apply ext_str
  rw [join0_list, List.map_map, tx_list]
  induction bs with
  | nil => rfl
  | cons b r ih =>
    rw [List.map_cons, List.flatten_cons, ih]
    rfl
theorem sum_ones : ∀ bs : List Bool, ((bs.map fun b => tx [b]).map (·.length)).sum = bs.length
  | [] => rfl
  | b :: r => by
    rw [List.map_cons, List.map_cons, List.sum_cons, sum_ones r, tx_len]
    show 1 + r.length = r.length + 1
    omega
theorem join_fits {bs : List Bool} (h : bs.length ≤ 1000) : ((bs.map fun b => tx [b]).map (·.length)).sum + (bs.map fun b => tx [b]).length * ("" : Str).length ≤ 16777216 := by
  have e : ("" : Str).length = 0 := by decide +kernel
  rw [sum_ones, e, Nat.mul_zero]
  omega
theorem cut_tx (bs : List Bool) (lo hi : Option Int) : cutS (tx bs) lo hi = tx ((bs.drop (HT.sIx bs.length 0 lo)).take (HT.sIx bs.length bs.length hi - HT.sIx bs.length 0 lo)) := by
  apply ext_str
  unfold cutS
  rw [tx_len, tx_list, tx_list, List.map_take, List.map_drop]
theorem cut_to (bs : List Bool) (k : Nat) : cutS (tx bs) none (some (k : Int)) = tx (bs.take k) := by
  rw [cut_tx, HT.sIx_none, HT.sIx_nat, List.drop_zero, Nat.sub_zero]
  by_cases h : k ≤ bs.length
  · rw [Nat.min_eq_left h]
  · rw [Nat.min_eq_right (by omega), List.take_length, List.take_of_length_le (by omega)]
theorem cut_from (bs : List Bool) (k : Nat) : cutS (tx bs) (some (k : Int)) none = tx (bs.drop k) := by
  rw [cut_tx, HT.sIx_none, HT.sIx_nat]
  by_cases h : k ≤ bs.length
  · rw [Nat.min_eq_left h, List.take_of_length_le (by rw [List.length_drop]; exact Nat.le_refl _)]
  · rw [Nat.min_eq_right (by omega), List.drop_length, List.drop_of_length_le (by omega), List.take_nil]
theorem cut_at (bs : List Bool) (k m : Nat) : cutS (tx bs) (some (k : Int)) (some ((k : Int) + (m : Int))) = tx ((bs.drop k).take m) := by
  have e : ((k : Int) + (m : Int)) = ((k + m : Nat) : Int) := by omega
  rw [e, cut_tx, HT.sIx_nat, HT.sIx_nat]
  by_cases h : k ≤ bs.length
  · rw [Nat.min_eq_left h]
    by_cases h2 : k + m ≤ bs.length
    · rw [Nat.min_eq_left h2, Nat.add_sub_cancel_left]
    · rw [Nat.min_eq_right (by omega), List.take_of_length_le (by rw [List.length_drop]; exact Nat.le_refl _), List.take_of_length_le (by rw [List.length_drop]; omega)]
  · rw [Nat.min_eq_right (by omega), Nat.min_eq_right (by omega), List.drop_length, List.drop_of_length_le (by omega), List.take_nil, List.take_nil]
theorem cut_mid (bs : List Bool) (h : 2 ≤ bs.length) : cutS (tx bs) (some 1) (some (-1)) = tx ((bs.drop 1).take (bs.length - 2)) := by
  rw [cut_tx]
  have e1 : HT.sIx bs.length 0 (some 1) = 1 := by
    rw [show (some (1 : Int)) = some ((1 : Nat) : Int) from rfl, HT.sIx_nat]
    omega
  have e2 : HT.sIx bs.length bs.length (some (-1)) = bs.length - 1 := by
    show (if (-1 : Int) < 0 then ((-1 : Int) + (bs.length : Int)).toNat else min (-1 : Int).toNat bs.length) = bs.length - 1
    rw [if_pos (by decide)]
    omega
  rw [e1, e2]
  congr 2
/-! ### rows: walls, changes, the mirror -/
def ends (bs : List Bool) : List Bool := true :: (bs ++ [false])
theorem ends_len (bs : List Bool) : (ends bs).length = bs.length + 2 := by
  unfold ends
  rw [List.length_cons, List.length_append]
  rfl
def opn (bs : List Bool) (k : Nat) : Bool := decide (((ends bs).drop k).take 2 = [true, false])
def walls (bs : List Bool) : List Nat := (List.range (bs.length + 1)).filter (opn bs)
def bhd (bs : List Bool) (k : Nat) : List Bool := (ends bs).take k ++ [false] ++ [true] ++ (ends bs).drop (k + 2)
def chg (bs : List Bool) (k : Nat) : List Bool := ((bhd bs k).drop 1).take ((bhd bs k).length - 2)
def mir (bs : List Bool) : List Bool := bs.reverse.map (!·)
def num (bs : List Bool) : Int := bs.foldl (fun n b => n * 2 + (if b then 1 else 0)) 0
theorem mem_walls {bs : List Bool} {k : Nat} : k ∈ walls bs ↔ k ≤ bs.length ∧ opn bs k = true := by
  unfold walls
  rw [List.mem_filter, List.mem_range, Nat.lt_succ_iff]
theorem mir_len (bs : List Bool) : (mir bs).length = bs.length := by
  unfold mir
  rw [List.length_map, List.length_reverse]
theorem walls_len (bs : List Bool) : (walls bs).length ≤ bs.length + 1 := by
  unfold walls
  exact Nat.le_trans (List.length_filter_le _ _) (by rw [List.length_range]; exact Nat.le_refl _)
theorem bhd_len {bs : List Bool} {k : Nat} (h : k ≤ bs.length) : (bhd bs k).length = bs.length + 2 := by
  unfold bhd
  rw [List.length_append, List.length_append, List.length_append, List.length_take, List.length_drop, ends_len]
  show min k (bs.length + 2) + 1 + 1 + (bs.length + 2 - (k + 2)) = bs.length + 2
  omega
theorem chg_len {bs : List Bool} {k : Nat} (h : k ≤ bs.length) : (chg bs k).length = bs.length := by
  unfold chg
  rw [List.length_take, List.length_drop, bhd_len h]
  omega
end HopR

set_option Elab.async false
set_option linter.all false
set_option maxRecDepth 100000
namespace HopR
open PySem PySem.Spec PyProof.Rows L2
/-! ### defs that are called where no repr is under way -/
/-- the promise sp of the def at f, kept wherever it is called while no repr is under way -/
structure FnOkG (P : Program) (w : World) (K : PySem.W.Frag) (mg : Str → Option Value) (base : Heap) (CX : CXT) (k : Nat) (f : Addr) (fd : FuncData) (ps : List Str) (sp : Sp) : Prop where
  arity : ∀ {vs H Q E}, sp vs H Q E → vs.length = ps.length
  calls : ∀ {A : Around} {outer : List Env} {s : Shared} {H : Hp} {args : Args} {us : List Value} {vs : List V} {Q : VK} {E : XK}, A.guards = some [] → Room k A → Env0 P w K mg base A outer s H →
    BindsTo s fd args (ps.zip us) → Vals vs us → sp vs H Q E → codeAny (model P w) A (.call (.ref f) args) (CR CX outer P w H s Q E) s
section
variable {P : Program} {w : World} {K : PySem.W.Frag} {mg : Str → Option Value} {base : Heap}
theorem FnOkG.of {CX : CXT} {k : Nat} {f : Addr} {fd : FuncData} {ps : List Str} {sp : Sp} (F : FnOk P w K mg base CX k f fd ps sp) : FnOkG P w K mg base CX k f fd ps sp where
  arity h := F.len _ _ _ _ h
  calls _ room e0 bind vals prom := F.run _ _ _ _ _ _ _ _ _ room e0 bind vals prom
/-- what the body's end says to the caller -/
theorem ends_say {CX : CXT} {N : List Str} {qual : Str} {scope : Scope} {f : Addr} {cdv : Value} {A : Around} {outer : List Env} {s : Shared} {H : Hp} {Q : VK} {E : XK} {fl : Flow} {s' : Shared}
    (h : SP (cxOf CX P w K mg base N qual scope f cdv A outer s H E) [] { nx := fun _ H' => Q .non H', rt := Q } fl s') :
    match fl with | .ret u => CE outer P w H s Q u s' | .next => CE outer P w H s Q Value.none s' | _ => False := by
  match fl, h with
  | .ret u, ⟨v, σ', H', J, rv, g⟩ => exact ⟨v, H', J.os, J.bare, J.base, J.hok, rv, g⟩
  | .next, ⟨σ', H', J, g⟩ => exact ⟨V.non, H', J.os, J.bare, J.base, J.hok, rfl, g⟩
  | .brk, ⟨_, _, _, g⟩ => exact g
  | .cont, ⟨_, _, _, g⟩ => exact g
theorem okG {x qual : Str} {st : Stmt} {f : Addr} {fd : FuncData} {N ps : List Str} {k : Nat} {sp : Sp} (F : Fun K x qual st f fd) (S : FnScope N ps (defScope st)) (len : ∀ vs H Q E, sp vs H Q E → vs.length = ps.length)
    (body : ∀ (cdv : Value) (A : Around) (outer : List Env) (s : Shared) (H : Hp) (vs : List V) (Q : VK) (E : XK), A.guards = some [] → Room k (A.deeper (envOfC qual (defScope st) s.heap.objs.size f cdv)) → sp vs H Q E →
      ∃ t, PSs (cxOf CX0 P w K mg base N qual (defScope st) f cdv A outer s H E).nox (defBody st) t ∧ t { nx := fun _ H' => Q .non H', rt := Q } (start N vs) H) : FnOkG P w K mg base CX0 (k + 1) f fd ps sp where
  arity h := len _ _ _ _ h
  calls {A outer s H args us vs Q E} free room e0 bind vals prom := by
    obtain ⟨_, _, _, _, _, _, cdv, _, _, rfl, lk, code⟩ := F.ex
    have old : ∀ b o, base.get? b = some o → s.heap.get? b = some o := fun b o e => (e0.bs b o e).1
    have here := e0.mod.kin.keeps old
    obtain ⟨t, pr, rd⟩ := body cdv A outer s H vs Q E free (room.deeper _) prom
    have kinds : ∀ y ∈ ps.zip us, (defScope st).names.lookup y.1 = some .local ∨ ((defScope st).names.lookup y.1 = some .cell ∧ ((cellsFrom (s.heap.objs.size + 1) (defScope st).names []).lookup y.1).isSome = true) := by
      intro y hy
      have hp : y.1 ∈ ps := by
        obtain ⟨y1, y2⟩ := y
        exact (List.of_mem_zip hy).1
      exact (S.par _ hp).imp id fun g => ⟨g, PySem.W.cellsFrom_some _ _ _ (.inl g)⟩
    refine codeAny_call_function room.depth (here _ _ lk) rfl S.co S.gen rfl (PySem.W.codeRec_of here code) (bind _ _ _ _ ?_)
    refine wpAny_newFunctionEnv_cells S.kind kinds fun _ e s1 x => ?_
    cases e
    refine ⟨(e0.mod.nolimit.keeps old).keeps x.toInCall.keep, codeAny_func ?_⟩
    have run := pr.nox.run [] s1 _ H _ (inv_start S room.hd e0 (len _ _ _ _ prom) vals x) rd
    refine wpAny_mono run (fun fl s' h => ?_) fun _ _ z => z
    have said := ends_say h
    cases fl with
    | ret _ => exact said
    | next => exact said
    | brk => exact said.elim
    | cont => exact said.elim
end
section
variable {X : Cx} {CX : CXT} {k : Nat} {f : Addr} {fd : FuncData} {ps : List Str} {sp : Sp} {ds : List Value} {dvs : List V} {E : XK}
theorem after_call {pins : List (Addr × Obj)} {σ : L2.St} {H : Hp} {s : Shared} {Q : VK} (hx : Passes CX X E) (I : Inv X pins σ H s) {r : Except Value Flow} {s' : Shared} (h : CR CX X.stack X.prog X.w H s Q E r s') :
    match r with | .ok (.ret u) => EP X pins σ Q u s' | .ok _ => False | .error e => X.xe e s' := by
  match r, h with
  | .error e, h => exact hx pins σ H s e s' I h
  | .ok (.ret u), h => exact I.after h
  | .ok .next, h => exact h
  | .ok .brk, h => exact h
  | .ok .cont, h => exact h
variable {x : Str} {p pos : Pos} {e : Expr} {es : List Expr} {t : TA}
/-- f(e, ..) at a place where no repr is under way -/
theorem pe_callG (F : FnOkG X.prog X.w X.K X.mg X.base CX k f fd ps sp) (hG : X.A.guards = some []) (hr : Room k X.A) (hg : Gl X x) (hm : X.mg x = some (.ref f)) (hk : PySem.W.keepIn X.K (.ref f) = true) (hb : Binds X.K fd ps ds) (hd : Vals dvs ds) (hx : Passes CX X E)
    (ha : PA X (e :: es) t) (hdb : (x == ("__debug__" : Str)) = false := by decide)
    (he : starEach (e :: es) X.env = (false, eval e X.env) :: starEach es X.env := by rfl) (hpl : (backTo pos (starEach es X.env)).any (·.1) = false := by rfl) :
    PE X (.Call (.Name x p) (e :: es) [] pos) (tCall sp dvs E t) := by
  constructor
  intro pins s σ H Q I h
  refine wpAny_Call_Name_kw (ld_glob I hg hm (PySem.W.callWith_K (h₀ := X.base) I.ok.mod.kin hk (thn (ha.run pos pins s σ H _ I h) ?_) he hpl) hdb)
  rintro us s1 ⟨vs, H1, I1, vals, prom⟩
  have all := vals.append hd
  have size : (us ++ ds).length = ps.length := all.length.symm.trans (F.arity prom)
  refine ⟨I1.kIn, wpAny_call (codeAny_mono (F.calls hG hr I1.env0 (hb s1 us I1.kIn size) all prom) fun r s' h => ?_)⟩
  have := after_call hx I1 h
  cases r with
  | error e => exact this
  | ok fl => cases fl <;> exact this
/-! ### repr of data -/
def rReprD (K : PySem.W.Frag) : List V → Hp → VK → Prop := fun vs H Q => ∃ (v : V) (d : PyData), vs = [v] ∧ Dp K H v d ∧ d.showable = true ∧ d.hasDict = false ∧ d.depth ≤ 64 ∧ d.shown.length ≤ sizeLine ∧ Q (.str d.shown) H
theorem cr_reprD (hG : X.A.guards = some []) (hu : X.A.units + 66 < cLine) : CallR X (.builtin "repr") (rReprD X.K) := by
  rintro pins s σ H _ us Q I r ⟨v, d, rfl, hd, hs, hn, hdep, hz, q⟩
  obtain ⟨u, rfl, rv⟩ := vals1 r
  obtain ⟨as, rd⟩ := Dp.reads I d v u hd rv
  cases hd with
  | non =>
    cases rv
    exact P.repr_of_none ⟨.str _, H, I.tok _, ⟨_, rfl⟩, q⟩
  | bl b =>
    cases rv
    exact P.repr_of_bool ⟨.str _, H, I.tok _, ⟨_, rfl⟩, q⟩
  | int i =>
    obtain ⟨t, rfl⟩ := rv
    have hb : i.natAbs.log2 < 1920 := of_decide_eq_true (by simpa only [PyData.showable] using hs)
    exact P.repr_of_int hb ⟨.str _, H, I.tok _, ⟨_, rfl⟩, by simpa only [PyData.shown] using q⟩
  | str x =>
    obtain ⟨t, rfl⟩ := rv
    exact P.repr_of_str ⟨.str _, H, I.tok _, ⟨_, rfl⟩, by simpa only [PyData.shown] using q⟩ (by simpa only [PyData.shown] using hz)
  | lst h1 h2 =>
    cases rv
    exact repr_of_reads' rd hs (fun e => absurd (hn.symm.trans e) (by decide)) hG (by omega) (fun _ _ e => e) (fun h' t tk hk => ⟨.str _, H, I.kept hk, ⟨_, rfl⟩, q⟩) hz
  | tup h1 h2 =>
    cases rv
    exact repr_of_reads' rd hs (fun e => absurd (hn.symm.trans e) (by decide)) hG (by omega) (fun _ _ e => e) (fun h' t tk hk => ⟨.str _, H, I.kept hk, ⟨_, rfl⟩, q⟩) hz
end
/-! ### the end -/
section
variable (K : PySem.W.Frag) (a : Addr) (vs : List Value) (ns : List Int)
/-- the script as the heap has it -/
abbrev scrO : Obj := { cls := .type "list", data := .seq vs.toArray }
/-- tracked is the script alone, locked, and not even that where the top wrote it -/
def scrH : Hp := fun b => if b = a ∧ K.lookup a = none then some (.frz (scrO vs) (.lst (ns.map V.int))) else none
theorem scrH_or (b : Addr) : scrH K a vs ns b = none ∨ (b = a ∧ K.lookup a = none ∧ scrH K a vs ns b = some (.frz (scrO vs) (.lst (ns.map V.int)))) := by
  unfold scrH
  by_cases h : b = a ∧ K.lookup a = none
  · exact .inr ⟨h.1, h.2, if_pos h⟩
  · exact .inl (if_neg h)
theorem scrH_only : Only (scrH K a vs ns) := fun b => (scrH_or K a vs ns b).imp id fun ⟨_, _, e⟩ => ⟨_, _, e⟩
end
section
variable {P : Program} {w : World} {K : PySem.W.Frag} {a : Addr} {vs : List Value} {ns : List Int} {h : Heap}
theorem scrH_sq (kin : K.In h) (at_ : h.get? a = some (scrO vs)) (hi : IntsAre vs ns) (few : ns.length ≤ sizeLine) : SqL K (scrH K a vs ns) a (ns.map V.int) := by
  cases hk : K.lookup a with
  | none => exact .inl (.inr ⟨scrO vs, if_pos ⟨rfl, hk⟩⟩)
  | some o =>
    obtain rfl : o = scrO vs := Option.some.inj ((kin a o hk).symm.trans at_)
    exact .inr ⟨_, vs.toArray, _, hk, rfl, rfl, rfl, by rw [List.size_toArray, hi.length]; exact few, by simpa using vals_ints hi⟩
theorem scrH_ok (at_ : h.get? a = some (scrO vs)) (hi : IntsAre vs ns) (few : ns.length ≤ sizeLine) : HOk P w (scrH K a vs ns) h := by
  intro b u e
  rcases scrH_or K a vs ns b with n | ⟨rfl, _, y⟩
  · exact absurd (n.symm.trans e) (by simp)
  · cases y.symm.trans e
    refine ⟨at_, ?_, vs, _, vals_ints hi, at_⟩
    rw [List.length_map]
    exact few
/-- what isn't the script, and what the top wrote, stands also where the tracked is hidden -/
theorem scrH_base (at_ : h.get? a = some (scrO vs)) {b : Addr} {o : Obj} (e : h.get? b = some o) (q : o ≠ scrO vs ∨ K.lookup b ≠ none) : (hidT h (scrH K a vs ns)).get? b = some o := by
  refine hidT_get e ((scrH_or K a vs ns b).resolve_right ?_)
  rintro ⟨rfl, n, _⟩
  exact q.elim (fun z => z (Option.some.inj (e.symm.trans at_))) fun z => z n
theorem scrH_ns (at_ : h.get? a = some (scrO vs)) {b : Addr} {m : Str → Option Value} : h.Ns b m → (hidT h (scrH K a vs ns)).Ns b m := by
  rintro ⟨o, es, ep, e, dd, r⟩
  refine ⟨o, es, ep, scrH_base at_ e (.inl ?_), dd, r⟩
  rintro rfl
  exact absurd dd (by simp)
end
/-- a law whose promise holds where no repr is under way: nothing is, where it is called -/
theorem walk_ofG {l : PySem.W.OpenLaw} {n k : Nat} {q : Program} {loose : List Str} {XP : (Str → Option Value) → Heap → Prop} {YP : World → Heap → Prop} {d : DefRec} {K : Params → PySem.W.Frag} {sp : World → Sp} {x : Str}
    (most : l.most = some n) (few : n ≤ sizeLine) (plain : d.params.defaults = []) (room : Room k callerA) (top : ∀ (w : World) (h : Heap), YP w h → (K w.params).In h)
    (F : ∀ (w : World) (mg : Str → Option Value) (fa : Addr) (h : Heap), (K w.params).In h → h.Ns mainGlobals mg → mg d.name = some (.ref fa) →
      ∃ fd : FuncData, (∀ (s : Shared) (u : Value), BindsTo s fd ⟨[u], []⟩ [(x, u)]) ∧ ∀ base : Heap, (K w.params).In base → base.Ns mainGlobals mg → FnOkG l.prog w (K w.params) mg base CX0 k fa fd [x] (sp w))
    (prom : ∀ (w : World) (H : Hp) (a : Addr) (ns : List Int), ns.length ≤ n → (∀ z ∈ ns, Builtin.Int.intBits z ≤ 1048576) → Only H → SqL (K w.params) H a (ns.map V.int) → sp w [.ref a] H (fun v _ => v = .bl true) fun _ _ _ => False) :
    PySem.W.WalkO q loose XP YP l.row.toRowW d [] (fun f vs => PySem.call f vs) := by
  apply Att.attach_callB most plain
  intro w s₀ s₁ mg mb fa o pm cd doc a vs ns G Y _ _ _ hmg at_ isI size bits gens
  have kin := top w _ Y
  obtain ⟨fd, bind, hF⟩ := F w mg fa _ kin G.T.g hmg
  have few' := Nat.le_trans size few
  have ok : HOk l.prog w (scrH (K w.params) a vs ns) s₁.heap := scrH_ok at_ isI few'
  have kin' : (K w.params).In (hidT s₁.heap (scrH (K w.params) a vs ns)) := fun b o e => scrH_base at_ (kin b o e) (.inr (by rw [e]; simp))
  have g' := scrH_ns (K := K w.params) (ns := ns) at_ G.T.g
  obtain ⟨mc, lim1, lim2⟩ := G.T.nolimit
  have e0 : Env0 l.prog w (K w.params) mg (hidT s₁.heap (scrH (K w.params) a vs ns)) callerA [] s₁ (scrH (K w.params) a vs ns) :=
    ⟨rfl, ⟨kin', g', ⟨mb, scrH_ns at_ G.T.b, G.T.builtins⟩, ⟨mc, scrH_ns at_ lim1, lim2⟩⟩, fun _ _ => of_hidT, Nat.le_of_eq (hidT_size _ _), trivial, (by intro _ z; cases z), ok, AllBare.of_eq gens⟩
  refine codeAny_mono ((hF _ kin' g').calls (us := [.ref a]) (vs := [.ref a]) rfl room e0 (bind s₁ (.ref a)) (.cons rfl .nil) (prom w _ a ns size bits (scrH_only (K w.params) a vs ns) (scrH_sq kin at_ isI few'))) fun r s' h => ?_
  match r, h with
  | .error e, h => exact h.elim
  | .ok .next, h => exact h.elim
  | .ok .brk, h => exact h.elim
  | .ok .cont, h => exact h.elim
  | .ok (.ret u), ⟨v, H', os, bare, un, ok', rel, is⟩ =>
    have is : v = .bl true := is
    subst is
    cases (show u = Value.bool true from rel)
    refine ⟨rfl, OldK.of_keep ?_, os, bare⟩
    intro b o e
    rcases scrH_or (K w.params) a vs ns b with z | ⟨rfl, _, z⟩
    · exact un.keep b o e z (fun m => nomatch m) (by simp)
    · cases at_.symm.trans e
      exact (ok' _ _ (un.frzs _ _ _ z)).1
end HopR

set_option Elab.async false
set_option linter.all false
set_option maxRecDepth 100000
namespace HopR
open PySem PySem.Spec PyProof.Rows L2
theorem hu66 {A : Around} {k : Nat} (hr : Room k A) : A.units + 66 < cLine := by
  have := hr.un
  omega
/-! ### f(k = v, ..), no value by its place -/
section
variable {X : Cx} {CX : CXT} {k : Nat} {f : Addr} {fd : FuncData} {ps ks : List Str} {sp : Sp} {E : XK} {x : Str} {p pos : Pos} {kws : List Keyword} {tk : TA}
def tCallKw (m : Nat) (sp : Sp) (gV : List V → List V) (E : XK) (tk : TA) : TE := fun σ H Q => tk σ H fun zs H2 => zs.length = m ∧ sp (gV zs) H2 Q E
theorem pe_callKw {g : List Value → List Value} {gV : List V → List V} (F : FnOk X.prog X.w X.K X.mg X.base CX k f fd ps sp) (hr : Room k X.A) (hg : Gl X x) (hm : X.mg x = some (.ref f)) (hk : PySem.W.keepIn X.K (.ref f) = true)
    (hb : ∀ (s : Shared) (ws : List Value), X.K.In s.heap → ws.length = ks.length → BindsTo s fd ⟨[], ks.zip ws⟩ (ps.zip (g ws))) (hrel : ∀ {zs : List V} {ws : List Value}, Vals zs ws → Vals (gV zs) (g ws)) (hx : Passes CX X E) (hkw : PK X kws tk)
    (hall : (backToKw pos (keywordEach kws X.env)).all (·.1.isSome) = true := by rfl) (hks : (backToKw pos (keywordEach kws X.env)).filterMap (·.1) = ks := by rfl) (hdb : (x == ("__debug__" : Str)) = false := by decide)
    (hpl : ((backTo pos (starEach [] X.env)).any (·.1) || (backToKw pos (keywordEach kws X.env)).any (·.1.isNone)) = false := by rfl) :
    PE X (.Call (.Name x p) [] kws pos) (tCallKw ks.length sp gV E tk) := by
  refine ⟨fun pins s σ H Q I h => wpAny_Call_Name_kw (ld_glob I hg hm ?_ hdb)⟩
  refine PySem.W.callWith_KW0 (h₀ := X.base) I.ok.mod.kin hk hall (thn (hkw.run pos pins s σ H _ I h) fun ws s2 ⟨zs, H2, I2, rz, l2, q2⟩ => ⟨I2.kIn, ?_⟩) hpl
  rw [hks]
  refine wpAny_call (codeAny_mono (F.run X.A X.stack s2 H2 ⟨[], ks.zip ws⟩ (g ws) (gV zs) Q E hr I2.env0 (hb s2 ws I2.kIn (rz.length.symm.trans l2)) (hrel rz) q2) fun r s' hq => ?_)
  match r, hq with
  | .error e, hq => exact hx pins σ H2 s2 e s' I2 hq
  | .ok (.ret u), hq => exact I2.after hq
  | .ok .next, hq => exact hq.elim
  | .ok .brk, hq => exact hq.elim
  | .ok .cont, hq => exact hq.elim
end
/-! ### lists of small numbers as data -/
def wv (k : Nat) : V := .int (k : Int)
def dw (k : Nat) : PyData := PyData.int (k : Int)
theorem dp_walls {K : PySem.W.Frag} {H : Hp} : ∀ ks : List Nat, DpAll K H (ks.map wv) (ks.map dw)
  | [] => .nil
  | k :: r => .cons (.int _) (dp_walls r)
theorem lay_dw : ∀ ks : List Nat, PyData.canLayAll0 (ks.map dw) = true
  | [] => rfl
  | k :: r => by
    rw [List.map_cons]
    simp only [PyData.canLayAll0, lay_dw r, Bool.and_true]
    rfl
theorem deep_dw : ∀ ks : List Nat, PyData.depthAll (ks.map dw) = 0
  | [] => rfl
  | k :: r => by
    rw [List.map_cons]
    simp only [PyData.depthAll, deep_dw r]
    rfl
theorem shaped_ints (ks : List Nat) : SeqAt.shaped (.list (ks.map dw)) = true := by
  unfold SeqAt.shaped
  rw [Bool.and_eq_true]
  refine ⟨?_, decide_eq_true ?_⟩
  · simp only [PyData.canLay0, lay_dw]
  · simp only [PyData.depth, deep_dw]
    decide
theorem show_dw : ∀ ks : List Nat, (∀ k ∈ ks, k ≤ 30) → PyData.showableAll (ks.map dw) = true
  | [], _ => rfl
  | k :: r, h => by
    have hk := h k (List.mem_cons_self ..)
    have e : PyData.showable (dw k) = true := by
      show decide ((k : Int).natAbs.log2 < 1920) = true
      refine decide_eq_true (Nat.lt_of_le_of_lt (Nat.log2_le_self _) ?_)
      show k < 1920
      omega
    rw [List.map_cons]
    simp only [PyData.showableAll, e, show_dw r fun q hq => h q (List.mem_cons_of_mem _ hq), Bool.and_true]
theorem nodict_dw : ∀ ks : List Nat, PyData.hasDictAll (ks.map dw) = false
  | [] => rfl
  | k :: r => by
    rw [List.map_cons]
    simp only [PyData.hasDictAll, nodict_dw r, Bool.or_false]
    rfl
theorem text30 : ∀ k < 31, (PyData.shown (dw k)).length ≤ 2 := by decide +kernel
theorem shown_len : ∀ ks : List Nat, (∀ k ∈ ks, k ≤ 30) → ((PyData.shownAll (ks.map dw)).map (·.length)).sum ≤ 2 * ks.length ∧ (PyData.shownAll (ks.map dw)).length = ks.length
  | [], _ => ⟨Nat.le_refl _, rfl⟩
  | k :: r, h => by
    obtain ⟨h1, h2⟩ := shown_len r fun q hq => h q (List.mem_cons_of_mem _ hq)
    have hk := text30 k (by have := h k (List.mem_cons_self ..); omega)
    rw [List.map_cons]
    simp only [PyData.shownAll, List.map_cons, List.sum_cons, List.length_cons]
    omega
theorem ints_show {ks : List Nat} (h : ∀ k ∈ ks, k ≤ 30) (hl : ks.length ≤ 1000) : (PyData.list (ks.map dw)).showable = true ∧ (PyData.list (ks.map dw)).hasDict = false ∧ (PyData.list (ks.map dw)).depth ≤ 64 ∧ (PyData.list (ks.map dw)).shown.length ≤ sizeLine := by
  obtain ⟨h1, h2⟩ := shown_len ks h
  refine ⟨?_, ?_, ?_, ?_⟩
  · simp only [PyData.showable, show_dw ks h]
  · simp only [PyData.hasDict, nodict_dw]
  · simp only [PyData.depth, deep_dw]
    decide
  · simp only [PyData.shown]
    have h3 := listText_len_le (PyData.shownAll (ks.map dw))
    rw [sizeLine_eq]
    omega
/-! ### the law's own words of walls and changes -/
theorem opn_eq {bs : List Bool} {k : Nat} (h : k ≤ bs.length) : opn bs k = ((decide (k = 0) || bs.getD (k - 1) false) && (decide (k = bs.length) || !bs.getD k true)) := by
  have hl := ends_len bs
  have e1 : (ends bs)[k]?.getD false = (decide (k = 0) || bs.getD (k - 1) false) := by
    unfold ends
    cases k with
    | zero => rfl
    | succ j =>
      rw [List.getElem?_cons_succ, List.getElem?_append_left (by omega), List.getD_eq_getElem?_getD]
      simp
  have e2 : (ends bs)[k + 1]?.getD true = (decide (k ≠ bs.length) && bs.getD k true) := by
    unfold ends
    rw [List.getElem?_cons_succ]
    by_cases hk : k = bs.length
    · subst hk
      rw [List.getElem?_append_right (Nat.le_refl _)]
      simp
    · rw [List.getElem?_append_left (by omega), List.getD_eq_getElem?_getD, decide_eq_true hk]
      rfl
  have e3 : opn bs k = (((ends bs)[k]?.getD false) && !((ends bs)[k + 1]?.getD true)) := by
    have g1 : (ends bs)[k]? = some (ends bs)[k] := List.getElem?_eq_getElem (by omega)
    have g2 : (ends bs)[k + 1]? = some (ends bs)[k + 1] := List.getElem?_eq_getElem (by omega)
    have g3 : ((ends bs).drop k).take 2 = [(ends bs)[k], (ends bs)[k + 1]] := by
      rw [List.drop_eq_getElem_cons (by omega), List.drop_eq_getElem_cons (by omega)]
      rfl
    unfold opn
    rw [g3, g1, g2]
    show decide ([(ends bs)[k], (ends bs)[k + 1]] = [true, false]) = ((ends bs)[k] && !(ends bs)[k + 1])
    cases (ends bs)[k] <;> cases (ends bs)[k + 1] <;> rfl
  rw [e3, e1, e2]
  by_cases hk : k = bs.length
  · simp [hk]
  · simp [hk]
def lbeh (bs : List Bool) (k : Nat) : List Bool := if k < bs.length then (if 0 < k then bs.set (k - 1) false else bs).set k true else (if 0 < k then bs.set (k - 1) false else bs)
theorem lbeh_len (bs : List Bool) (k : Nat) : (lbeh bs k).length = bs.length := by
  unfold lbeh
  split <;> split <;> simp
theorem chg_get {bs : List Bool} {k i : Nat} (h : k ≤ bs.length) (hi : i < bs.length) : (chg bs k)[i]? = some (if i + 1 = k then false else if i = k then true else bs[i]) := by
  have hl := ends_len bs
  have hb := bhd_len h
  have he : (ends bs)[i + 1]? = some bs[i] := by
    unfold ends
    rw [List.getElem?_cons_succ, List.getElem?_append_left hi, List.getElem?_eq_getElem hi]
  unfold chg
  rw [List.getElem?_take_of_lt (by rw [hb]; omega), List.getElem?_drop, Nat.add_comm 1 i]
  unfold bhd
  rw [List.append_assoc, List.append_assoc]
  by_cases h1 : i + 1 < k
  · rw [List.getElem?_append_left (by rw [List.length_take]; omega), List.getElem?_take_of_lt h1, he, if_neg (by omega), if_neg (by omega)]
  · rw [List.getElem?_append_right (by rw [List.length_take]; omega), List.length_take, Nat.min_eq_left (by omega)]
    by_cases h2 : i + 1 = k
    · rw [if_pos h2, h2, Nat.sub_self]
      rfl
    · rw [if_neg h2]
      by_cases h3 : i = k
      · rw [if_pos h3, show i + 1 - k = 1 by omega]
        rfl
      · rw [if_neg h3]
        obtain ⟨m, hm⟩ : ∃ m, i + 1 - k = m + 2 := ⟨i + 1 - k - 2, by omega⟩
        rw [hm]
        show ((ends bs).drop (k + 2))[m]? = some bs[i]
        rw [List.getElem?_drop, show k + 2 + m = i + 1 by omega, he]
theorem lbeh_eq {bs : List Bool} {k : Nat} (h : k ≤ bs.length) : lbeh bs k = chg bs k := by
  apply List.ext_getElem?
  intro i
  by_cases hi : i < bs.length
  · rw [chg_get h hi]
    unfold lbeh
    have g : bs[i]? = some bs[i] := List.getElem?_eq_getElem hi
    have inner : (if 0 < k then bs.set (k - 1) false else bs)[i]? = some (if i + 1 = k then false else bs[i]) := by
      by_cases hk : 0 < k
      · rw [if_pos hk, List.getElem?_set]
        by_cases e : k - 1 = i
        · rw [if_pos e, if_pos (by omega), if_pos (by omega)]
        · rw [if_neg e, if_neg (by omega), g]
      · rw [if_neg hk, if_neg (by omega), g]
    have il : (if 0 < k then bs.set (k - 1) false else bs).length = bs.length := by
      split <;> simp
    by_cases hk : k < bs.length
    · rw [if_pos hk, List.getElem?_set]
      by_cases e : k = i
      · rw [if_pos e, if_pos (by rw [il]; exact hk), if_neg (by omega), if_pos e.symm]
      · rw [if_neg e, inner]
        by_cases e2 : i + 1 = k
        · rw [if_pos e2, if_pos e2]
        · rw [if_neg e2, if_neg e2, if_neg (fun z => e z.symm)]
    · rw [if_neg hk, inner]
      by_cases e2 : i + 1 = k
      · rw [if_pos e2, if_pos e2]
      · rw [if_neg e2, if_neg e2, if_neg (by omega)]
  · rw [List.getElem?_eq_none (by rw [lbeh_len]; omega), List.getElem?_eq_none (by rw [chg_len h]; omega)]
end HopR

set_option Elab.async false
set_option linter.all false
set_option maxRecDepth 100000
namespace HopR
open PySem PySem.Spec PyProof.Rows L2
/-! ### an exception that is kept behind its suite -/
/-- the exception at a, of the class cls, its dict d, kept as a value -/
def ExH (cls : Value) (d : Option Addr) (a : Addr) : HO := .ext fun h => ∃ (oe : Obj) (vs : Array Value), h.get? a = some oe ∧ Zc cls d oe ∧ oe.data = .fields vs
theorem exH_ok {P : Program} {w : World} {H : Hp} {h : Heap} {a : Addr} {cls : Value} {d : Option Addr} {oe : Obj} {vs : Array Value} (e : h.get? a = some oe) (z : Zc cls d oe) (q : oe.data = .fields vs) : ObjOk P w H h a (ExH cls d a) :=
  ⟨⟨oe, vs, e, z, q⟩, ⟨oe, e⟩, fun _ _ ⟨o, v, q, r⟩ k => ⟨o, v, k o q, r⟩⟩
section
variable {X : Cx} {pins : List (Addr × Obj)} {σ σ0 : L2.St} {H H0 : Hp} {s sI : Shared} {a : Addr} {oe : Obj} {vs : Array Value} {o : HO}
/-- an object that came behind the entry is tracked from now on -/
theorem track (I : Inv X pins σ H s) (J : Inv X pins σ0 H0 sI) (hI : sI.heap.get? a = none) (hx : X.ex = []) (na : H a = none) (nL : a ≠ X.env.locals) (ha : s.heap.get? a = some oe) (hd : oe.data = .fields vs) (new : ObjOk X.prog X.w (upd H a o) s.heap a o) : Inv X pins σ (upd H a o) s := by
  have n0 : ∀ b u, X.s_0.heap.get? b = some u → b ≠ a := by
    intro b u e z
    subst z
    obtain ⟨u2, q⟩ := J.base.there b u e (by rw [hx]; exact fun z => nomatch z)
    rw [hI] at q
    cases q
  have nN : ∀ {b : Addr} {u : HO}, H b = some u → b ≠ a := fun e => ne_of_none e na
  have bs := I.base
  refine ⟨I.ok, I.os, I.bare, ⟨bs.keep, bs.slot, ?_, bs.there, ?_, ?_, ?_⟩, I.loc, I.cell, ?_, ?_, ?_, ?_, I.len⟩
  · intro b u e n q
    rw [upd_ne (n0 b u e)]
    exact bs.free b u e n q
  · intro b xs e
    have q := bs.tups b xs e
    rw [upd_ne (nN q)]
    exact q
  · intro b ob u e
    have q := bs.frzs b ob u e
    rw [upd_ne (nN q)]
    exact q
  · intro b ps e
    obtain ⟨m, q⟩ := bs.tbls b ps e
    exact ⟨m, by rw [upd_ne (nN q)]; exact q⟩
  · rw [upd_ne nL.symm]
    exact I.free
  · intro x c e
    have nc : c ≠ a := by
      intro z
      subst z
      obtain ⟨v, oc, e1, e2⟩ := I.cell x c e
      rw [ha] at e1
      cases e1
      rw [hd] at e2
      cases e2
    rw [upd_ne nc]
    exact I.freeC x c e
  · intro p hp
    have np : p.1 ≠ a := by
      intro z
      have q := (J.pin p hp).1
      rw [z, hI] at q
      cases q
    obtain ⟨e, n, r⟩ := I.pin p hp
    exact ⟨e, by rw [upd_ne np]; exact n, r⟩
  · intro b u e
    by_cases hb : b = a
    · subst hb
      rw [upd_same] at e
      cases e
      exact new
    · rw [upd_ne hb] at e
      refine (I.hok b u e).stay (fun c v _ q => q) (fun c q => ?_) (fun c xs q => ?_)
      · rw [upd_ne (nN q)]
        exact q
      · rw [upd_ne (nN q)]
        exact q
end
theorem fly_keeps {B h h' : Heap} {l : List Env} {a : Addr} {Z : Obj → Prop} (x : HandSPX.FlyingZ B l a Z h) (k : ∀ b o, h.get? b = some o → h'.get? b = some o) : HandSPX.FlyingZ B l a Z h' := by
  obtain ⟨x1, x2, x3, oe, vs, T, oT, ts, e1, e2, e3, e4, e5, e6, e7, e8, e9⟩ := x
  exact ⟨fun b o e => k b o (x1 b o e), x2, x3.of_keeps (fun b o e _ => ⟨o, k b o e, rfl⟩), oe, vs, T, oT, ts, k _ _ e1, e2, e3, e4, e5, e6, k _ _ e7, e8, e9⟩
/-- the clause's test takes the exceptions whose class has m -/
def Tests (X : Cx) (t : Expr) (m : Value → Prop) : Prop :=
  ∀ (a : Addr) (oe : Obj) (pn pins : List (Addr × Obj)) (σ : L2.St) (H : Hp) (s : Shared) (cls : Value) (Q : Value → Shared → Prop) (E : Value → Shared → Prop), Inv (X.suite a ((a, oe) :: pn)) pins σ H s → s.heap.get? a = some oe → oe.cls = cls → m cls →
    (∀ (c : Value) (h' : Heap), (∀ b o, s.heap.get? b = some o → h'.get? b = some o) → PySem.W.Looks (model X.prog X.w) h' (excMatches (.ref a) c) true → Q c { s with heap := h' }) → wpAny (model X.prog X.w) (X.A.mark (some (.ref a))) (eval t X.env) Q E s
theorem ld_nm {X : Cx} {x : Str} {c : Value} {pins : List (Addr × Obj)} {σ : L2.St} {H : Hp} {s : Shared} {Q : Value → Shared → Prop} {E : Value → Shared → Prop} {p : Pos} (I : Inv X pins σ H s) (hc : Names X x c) (q : Q c s) : wpAny (model X.prog X.w) X.A (eval (.Name x p) X.env) Q E s := by
  obtain ⟨g, nd, h | ⟨h1, h2, h3⟩⟩ := hc
  · exact ld_glob I g h q nd
  · exact ld_blt I g h1 h2 q h3 nd
theorem ty_looks {P : Program} {w : World} {h : Heap} {a : Addr} {oe : Obj} {cls : Value} (e : h.get? a = some oe) (c : oe.cls = cls) : PySem.W.Looks (model P w) h (typeOf (.ref a)) cls := by
  intro A Q E s k q
  exact wpAny_typeOf_ref (k _ _ e) (by rw [c]; exact q)
theorem tests_one {X : Cx} {x : Str} {c : Value} {p : Pos} (hc : Names X x c) : Tests X (.Name x p) fun cls => PySem.W.exmOne X.K cls c = some true := by
  intro a oe pn pins σ H s cls Q E I ha hcl hm k
  exact ld_nm (X := X.suite a ((a, oe) :: pn)) I hc (k c s.heap (fun _ _ z => z) (PySem.W.exm_one I.kIn (ty_looks ha hcl) hm))
theorem tests_two {X : Cx} {x1 x2 : Str} {c1 c2 : Value} {p1 p2 pos : Pos} {u} (h1 : Names X x1 c1) (h2 : Names X x2 c2) : Tests X (.Tuple [.Name x1 p1, .Name x2 p2] u pos) fun cls => PySem.W.exmAny X.K cls [c1, c2] = some true := by
  intro a oe pn pins σ H s cls Q E I ha hcl hm k
  refine wpAny_Tuple_spliced ?_
  refine Calls.spliced_cons (ld_nm (X := X.suite a ((a, oe) :: pn)) I h1 ?_)
  refine Calls.spliced_cons (ld_nm (X := X.suite a ((a, oe) :: pn)) I h2 (Calls.spliced_nil ⟨by show 2 ≤ sizeLine; decide, ?_⟩))
  have hk : ∀ b o, s.heap.get? b = some o → (s.heap.push { cls := .type "tuple", data := .seq [c1, c2].toArray }).get? b = some o := fun b o e => Heap.get?_push_of_some _ e
  refine k (.ref s.heap.objs.size) _ hk ?_
  exact PySem.W.exm_tup2 (fun b o e => hk b o (I.kIn b o e)) (ty_looks (hk _ _ ha) hcl) (Heap.get?_push_size _ rfl) hm
/-- what 'except .. as n: v = n' wishes of an exception of the body: it is taken, and kept in slot j; slot i, n's, is empty behind it -/
def wHeld (m : Value → Prop) (i j : Nat) (D : Ends) : WX := fun cls d σ H => m cls ∧ ∀ a, H a = none → D.nx (((σ.set i (some (.ref a))).set j (some (.ref a))).set i none) (upd H a (ExH cls d a))
section
variable {X : Cx} {n v : Str} {i j : Nat} {t : Expr} {m : Value → Prop} {body : List Stmt} {pos pos' p1 p2 p3 : Pos} {tb : WX → TS}
theorem ps_try_held (hs : X.stack = X.env :: X.outer) (hf : X.env.frame = some X.env.locals) (hN : X.N.Nodup) (hi : X.N[i]? = some n) (hj : X.N[j]? = some v) (hln : X.env.kindOf n = some .local) (hlv : X.env.kindOf v = some .local) (hx : X.ex = []) (ht : Tests X t m)
    (hb : ∀ (W : WX) (pn : List (Addr × Obj)) (xe : Value → Shared → Prop), Takes (X.tr pn xe) W → PassesOwn (model X.prog X.w) X.A X.env xe → PSs (X.tr pn xe) body (tb W))
    (hsu : ∀ (a : Addr) (oe : Obj) (pn : List (Addr × Obj)), PSs (X.suite a ((a, oe) :: pn)) [.Assign [.Name v p1] (.Name n p2) p3] (tAsg (tVar i) (gName j))) :
    PS X (.Try body [.ExceptHandler (some t) (some n) [.Assign [.Name v p1] (.Name n p2) p3] pos'] [] [] pos) (fun D σ H => tb (wHeld m i j D) D σ H) := by
  constructor
  intro pins s σ H D I h
  have ok := I.ok
  have frm : X.A.frames = some (X.env :: X.outer) := ok.frames.trans (congrArg some hs)
  have body_ := hb (wHeld m i j D) (X.pn ++ pins) (fun e s₁ => wpAny (model X.prog X.w) X.A (noteFrame e X.env) (fun _ s₂ => wpAny (model X.prog X.w) X.A (setFlight e none) (fun _ s₃ => wpAny (model X.prog X.w) X.A (handleBy e X.env [.ExceptHandler (some t) (some n) [.Assign [.Name v p1] (.Name n p2) p3] pos']) (SP X pins D) X.xe s₃) X.xe s₂) X.xe s₁) ?caught PassesOwn.looking
  · refine wpAny_Try_except (wpAny_mono (body_.run [] s σ H D (I.toTry _) h) ?_ fun _ _ z => z)
    intro f s1 hsp
    match f, hsp with
    | .next, ⟨σ', H', J', q⟩ => exact wpAny_execs_nil ⟨σ', H', J'.ofTry ok, q⟩
    | .brk, ⟨σ', H', J', q⟩ => exact ⟨σ', H', J'.ofTry ok, q⟩
    | .cont, ⟨σ', H', J', q⟩ => exact ⟨σ', H', J'.ofTry ok, q⟩
    | .ret u, ⟨v, σ', H', J', r, q⟩ => exact ⟨v, σ', H', J'.ofTry ok, r, q⟩
  case caught =>
    rintro u s' ⟨a, B, sI, pins', σ', H', cls, d, rfl, J', nb, up, sky, na, os, ag, hm, hk⟩
    have J : Inv X pins σ' H' sI := J'.ofTry ok
    have sk2 : Sky B (X.env :: X.outer) a (Zc cls d) X.env.locals s'.heap := hs ▸ sky
    show wpAny (model X.prog X.w) X.A (noteFrame (.ref a) X.env) _ _ _
    refine Sky.land Zc.steady frm hf sk2 fun h3 fl3 up3 => ?_
    have notF : ∀ {g : Heap}, HandSPX.FlyingZ B (X.env :: X.outer) a (Zc cls d) g → a ∉ frs (X.env :: X.outer) := by
      intro g fl hmem
      obtain ⟨o1, v1, e1, _, e3⟩ := fl.there
      obtain ⟨_, o2, e2, hn2⟩ := fl.2.2.1.mem hmem
      rw [e1] at e2
      cases e2
      exact hn2 _ e3
    have nfr := notF fl3
    have nL : a ≠ X.env.locals := by
      intro z
      exact nfr (List.mem_filterMap.mpr ⟨X.env, List.mem_cons_self, hf.trans (congrArg some z.symm)⟩)
    have nF : a ∉ X.fs := by
      intro z
      obtain ⟨e, he, q⟩ := List.mem_filterMap.mp z
      exact nfr (List.mem_filterMap.mpr ⟨e, List.mem_cons_of_mem _ he, q⟩)
    have nI : sI.heap.get? a = none := by
      cases e : sI.heap.get? a with
      | none => rfl
      | some o =>
        have q := nb a o e (by rw [hs]; exact nfr)
        rw [fl3.2.1] at q
        cases q
    obtain ⟨oe3, vs3, he3, hz3, hd3⟩ := fl3.there
    have J3 : Inv X pins σ' H' { s' with heap := h3 } := J.landed nb fl3.1 (up.trans up3) os ag
    refine wpAny_handleBy_cons (codeAny_handlers_test ?_) (fun q => nomatch q)
    refine ht a oe3 _ _ _ _ _ cls _ _ (J3.suite he3 hd3 na nL nF) he3 hz3.1 hm fun c h' kp lk => lk.here ?_
    refine codeAny_handlers_suite_as (HandSPX.lands_againZ (fly_keeps fl3 kp) fun h4 fl4 up4 => ?_)
    have upA : sI.heap.UpToSlots h4 := ((up.trans up3).trans (Heap.UpToSlots.of_keeps kp)).trans up4
    have J4 : Inv X pins σ' H' { s' with heap := h4 } := J.landed nb fl4.1 upA os ag
    obtain ⟨oe4, vs4, he4, hz4, hd4⟩ := fl4.there
    refine store_ok (X := X.suite a ((a, oe4) :: (X.pn ++ pins))) (v := .ref a) (J4.suite he4 hd4 na nL nF) hN hi (.inl hln) rfl (fun s5 S5 => ?_) (.inr hln)
    have hlen : i < σ'.length := by
      rw [J.len]
      exact (List.getElem?_eq_some_iff.mp hi).1
    refine wpAny_mono ((hsu a oe4 (X.pn ++ pins)).run [] s5 _ H' { nx := fun σ6 H6 => σ6 = (σ'.set i (some (.ref a))).set j (some (.ref a)) ∧ H6 = H', rt := fun _ _ => False } S5 ?_) (fun f s6 hsp => ?_) (fun _ _ z => False.elim z)
    · exact ⟨.ref a, by simp [hlen], rfl, rfl⟩
    match f, hsp with
    | .next, ⟨σ6, H6, S6, e6, e7⟩ =>
      subst e6 e7
      refine gone_ok (X := X.suite a ((a, oe4) :: (X.pn ++ pins))) S6 hN hi hln fun s7 S7 => ?_
      have ha7 := (S7.pin (a, oe4) (List.mem_append_left _ List.mem_cons_self)).1
      exact ⟨_, _, track (S7.unsuite ok) J nI hx na nL ha7 hd4 (exH_ok ha7 hz4 hd4), hk a na⟩
    | .brk, ⟨_, _, _, z⟩ => exact z.elim
    | .cont, ⟨_, _, _, z⟩ => exact z.elim
    | .ret u, ⟨_, _, _, _, _, z⟩ => exact z.elim
end
end HopR

set_option Elab.async false
set_option linter.all false
set_option maxRecDepth 100000
namespace HopR
open PySem PySem.Spec PyProof.Rows L2
/-! ### isinstance of a kept exception without a dict -/
section
variable {X : Cx}
theorem held_at {pins : List (Addr × Obj)} {σ : L2.St} {H : Hp} {s : Shared} {a D : Addr} (I : Inv X pins σ H s) (ha : H a = some (ExH (.ref D) none a)) : ∃ oe, PySem.W.InstAt s.heap a oe D none := by
  obtain ⟨⟨oe, vs, e, ⟨z1, z2⟩, q⟩, _, _⟩ := I.hok a _ ha
  obtain ⟨oc, od, oda, osl⟩ := oe
  dsimp only at z1 z2 q
  subst z1 z2 q
  exact ⟨_, e, rfl, rfl, trivial⟩
/-- isinstance(kept, c) -/
def rIsH (K : PySem.W.Frag) : List V → Hp → VK → Prop := fun xs H Q => ∃ (a D : Addr) (c : V) (cv : Value) (b : Bool), xs = [.ref a, c] ∧ H a = some (ExH (.ref D) none a) ∧ ExcC K D ∧ ClsV c cv ∧ PySem.W.kitOne K (.ref D) cv = some b ∧ Q (.bl b) H
theorem call_isH : CallR X (.builtin "isinstance") (rIsH X.K) := by
  rintro pins s σ H xs us Q I r ⟨a, D, c, cv, b, rfl, ha, C, kc, e, q⟩
  obtain ⟨u1, u2, rfl, r1, r2⟩ := vals2 r
  obtain rfl := kc.eq r2
  cases (show u1 = Value.ref a from r1)
  obtain ⟨oe, J⟩ := held_at I ha
  exact PySem.W.kia_one (PySem.W.handS_kitx_exc C.hg C.hk C.hs C.hd C.ha C.hn C.ht C.hm) I.kIn J e (fun z => nomatch z) fun tk => ⟨.bl b, H, I.tok tk, rfl, q⟩
/-- isinstance(kept, (c1, c2, ..)) -/
def rIsHT (K : PySem.W.Frag) : List V → Hp → VK → Prop := fun xs H Q => ∃ (a D tp : Addr) (cs : List V) (ws : List Value) (b : Bool), xs = [.ref a, .ref tp] ∧ H a = some (ExH (.ref D) none a) ∧ ExcC K D ∧ H tp = some (.tup cs) ∧ Paired ClsV cs ws ∧ PySem.W.kitAny K (.ref D) ws = some b ∧ Q (.bl b) H
theorem call_isHT : CallR X (.builtin "isinstance") (rIsHT X.K) := by
  rintro pins s σ H xs us Q I r ⟨a, D, tp, cs, ws, b, rfl, ha, C, ht, kc, e, q⟩
  obtain ⟨u1, u2, rfl, r1, r2⟩ := vals2 r
  cases (show u1 = Value.ref a from r1)
  cases (show u2 = Value.ref tp from r2)
  obtain ⟨oe, J⟩ := held_at I ha
  have hT : ObjOk X.prog X.w H s.heap tp (.tup cs) := I.hok tp _ ht
  obtain ⟨_, its, rv, ⟨oc, od, dt, osl⟩, g1, g2, n, g3⟩ := hT
  obtain rfl := ClsV.all kc rv
  simp only at g2 g3
  subst g2 g3
  exact PySem.W.kia_tup (PySem.W.handS_kitx_exc C.hg C.hk C.hs C.hd C.ha C.hn C.ht C.hm) I.kIn J g1 e (fun z => nomatch z) fun tk => ⟨.bl b, H, I.tok tk, rfl, q⟩
end
/-! ### things that are whole numbers or not -/
/-- x is of a built-in type that is no whole number's -/
def Odd (K : PySem.W.Frag) (H : Hp) (x : V) : Prop := ∃ t bI, TyX K H x t ∧ PySem.W.kitOne K t (.type "int") = some bI ∧ (bI = true → PySem.W.kitOne K t (.type "bool") = some true)
theorem odd_non {K : PySem.W.Frag} {H : Hp} : Odd K H .non := ⟨_, false, .base .non, kit_ty (by decide +kernel), fun z => nomatch z⟩
theorem odd_bl {K : PySem.W.Frag} {H : Hp} {b : Bool} : Odd K H (.bl b) := ⟨_, true, .base (.bl b), kit_ty (by decide +kernel), fun _ => kit_ty (by decide +kernel)⟩
theorem odd_str {K : PySem.W.Frag} {H : Hp} {z : Str} : Odd K H (.str z) := ⟨_, false, .base (.str z), kit_ty (by decide +kernel), fun z => nomatch z⟩
theorem odd_lst {K : PySem.W.Frag} {H : Hp} {a : Addr} {xs : List V} (e : H a = some (.lst xs)) : Odd K H (.ref a) := ⟨_, false, .base (.lst e), kit_ty (by decide +kernel), fun z => nomatch z⟩
theorem odd_tup {K : PySem.W.Frag} {H : Hp} {a : Addr} {xs : List V} (e : H a = some (.tup xs)) : Odd K H (.ref a) := ⟨_, false, .base (.tup e), kit_ty (by decide +kernel), fun z => nomatch z⟩
theorem odd_dK {K : PySem.W.Frag} {H : Hp} {a : Addr} {xs : List (Key × V)} (e : H a = some (.dK xs)) : Odd K H (.ref a) := ⟨_, false, .base (.dK e), kit_ty (by decide +kernel), fun z => nomatch z⟩
end HopR

set_option Elab.async false
set_option linter.all false
set_option maxRecDepth 100000
namespace HopR
open PySem L2
theorem same_upd {H : Hp} {p : Addr} {o : HO} (h : H p = none) : Same H (upd H p o) := fun b x e => by
  rw [upd_ne (ne_of_none e h)]
  exact e
theorem same_new {H H1 : Hp} {p : Addr} {o : HO} (h : H p = none) (s : Same H H1) : Same H (upd H1 p o) := fun b x e => by
  rw [upd_ne (ne_of_none e h)]
  exact s _ _ e
/-- a def of the text, its binding, where its name leads -/
structure Fn (K : PySem.W.Frag) (mg : Str → Option Value) (x : Str) (st : Stmt) (ps : List Str) (f : Addr) (fd : FuncData) : Prop where
  F : Fun K x x st f fd
  b : Binds K fd ps []
  g : mg x = some (.ref f)
end HopR

set_option Elab.async false
set_option linter.all false
set_option maxRecDepth 100000
namespace HopR
open PySem L2
/-! ### classes of refusals -/
theorem kit_own {K : PySem.W.Frag} {D C : Addr} {b : Bool} (ne : D ≠ C) (hd : PySem.W.hasDictIn K C = true) (ht : PySem.W.typeIn K (.ref C) = some (.type "type")) (h : PySem.W.subIn K (.ref D) (.ref C) = some b) : PySem.W.kitOne K (.ref D) (.ref C) = some b := by
  obtain ⟨cd, hc, _⟩ := PySem.W.any_some hd
  have e1 : ((Value.ref D == Value.ref C) = true) = False := by
    rw [eq_iff_iff]
    exact ⟨fun z => ne (Value.ref.inj (beq_iff_eq.mp z)), False.elim⟩
  have e2 : ((PySem.W.clsIn K C).isSome && PySem.W.typeIn K (.ref C) == some (.type "type")) = true := by rw [hc, ht] <;> rfl
  unfold PySem.W.kitOne
  rw [if_neg (by rw [e1]; exact id)]
  show (if ((PySem.W.clsIn K C).isSome && PySem.W.typeIn K (.ref C) == some (.type "type")) = true then PySem.W.subIn K (.ref D) (.ref C) else none) = some b
  rw [if_pos e2]
  exact h
theorem kit_me {K : PySem.W.Frag} {D : Addr} : PySem.W.kitOne K (.ref D) (.ref D) = some true := by
  unfold PySem.W.kitOne
  rw [if_pos (by simp)]
theorem kit_blt {K : PySem.W.Frag} {D : Addr} {T : String} {b : Bool} (m : PySem.W.kitMeta T = true) (h : PySem.W.subIn K (.ref D) (.type T) = some b) : PySem.W.kitOne K (.ref D) (.type T) = some b := by
  have e1 : ¬ ((Value.ref D == Value.type T) = true) := fun z => nomatch (beq_iff_eq.mp z)
  unfold PySem.W.kitOne
  rw [if_neg e1]
  show (if PySem.W.kitMeta T = true then PySem.W.subIn K (.ref D) (.type T) else none) = some b
  rw [if_pos m]
  exact h
theorem kitAny_cons {K : PySem.W.Frag} {t c : Value} {r : List Value} (h : PySem.W.kitOne K t c = some false) (q : PySem.W.kitAny K t r = some false) : PySem.W.kitAny K t (c :: r) = some false := by
  simp only [PySem.W.kitAny, h, q]
theorem kitAny_nil {K : PySem.W.Frag} {t : Value} : PySem.W.kitAny K t [] = some false := by simp only [PySem.W.kitAny]
theorem exmAny2 {K : PySem.W.Frag} {t c1 c2 : Value} {b1 b2 : Bool} (h1 : PySem.W.exmOne K t c1 = some b1) (h2 : PySem.W.exmOne K t c2 = some b2) : PySem.W.exmAny K t [c1, c2] = some (b1 || b2) := by
  simp only [PySem.W.exmAny, h1, h2, Bool.or_false]
/-- an own exception class, as its instances are made and asked -/
structure Xc (K : PySem.W.Frag) (D : Addr) (bm : List Value) (nw : String) : Prop where
  x : PySem.W.excIn K D bm nw = true
  k : PySem.W.keepIn K (.ref D) = true
  be : PySem.W.subIn K (.ref D) (.type "BaseException") = some true
  ty : PySem.W.typeIn K (.ref D) = some (.type "type")
  c : ExcC K D
abbrev bmV : List Value := [.type "ValueError", .type "Exception", .type "BaseException", .type "object"]
abbrev bmZ : List Value := [.type "ZeroDivisionError", .type "ArithmeticError", .type "Exception", .type "BaseException", .type "object"]
/-! ### things by their kind -/
theorem tyx_same {K : PySem.W.Frag} {H H' : Hp} {x : V} {t : Value} (s : Same H H') (ty : TyX K H x t) : TyX K H' x t := by
  cases ty with
  | base h =>
    cases h with
    | non => exact .base .non
    | bl x => exact .base (.bl x)
    | int i => exact .base (.int i)
    | str x => exact .base (.str x)
    | flt x => exact .base (.flt x)
    | lst e => exact .base (.lst (s _ _ e))
    | frz e => exact .base (.frz (s _ _ e))
    | tup e => exact .base (.tup (s _ _ e))
    | dK e => exact .base (.dK (s _ _ e))
    | dT e => exact .base (.dT (s _ _ e))
    | ins e a b c d f => exact .base (.ins (s _ _ e) a b c d f)
  | byt b => exact .byt b
  | set e => exact .set (s _ _ e)
  | kList e c => exact .kList e c
  | kTuple e c => exact .kTuple e c
  | kDict e c => exact .kDict e c
  | fTuple e => exact .fTuple (s _ _ e)
  | fDict e => exact .fDict (s _ _ e)
theorem odd_same {K : PySem.W.Frag} {H H' : Hp} {x : V} (s : Same H H') (h : Odd K H x) : Odd K H' x := by
  obtain ⟨t, b, ty, k⟩ := h
  exact ⟨t, b, tyx_same s ty, k⟩
/-- x is no text -/
def NoTxt (K : PySem.W.Frag) (H : Hp) (x : V) : Prop := ∃ t, TyX K H x t ∧ PySem.W.kitOne K t (.type "str") = some false
theorem notxt_non {K : PySem.W.Frag} {H : Hp} : NoTxt K H .non := ⟨_, .base .non, kit_ty (by decide +kernel)⟩
theorem notxt_bl {K : PySem.W.Frag} {H : Hp} {b : Bool} : NoTxt K H (.bl b) := ⟨_, .base (.bl b), kit_ty (by decide +kernel)⟩
theorem notxt_int {K : PySem.W.Frag} {H : Hp} {i : Int} : NoTxt K H (.int i) := ⟨_, .base (.int i), kit_ty (by decide +kernel)⟩
theorem notxt_lst {K : PySem.W.Frag} {H : Hp} {a : Addr} {xs : List V} (e : H a = some (.lst xs)) : NoTxt K H (.ref a) := ⟨_, .base (.lst e), kit_ty (by decide +kernel)⟩
theorem notxt_tup {K : PySem.W.Frag} {H : Hp} {a : Addr} {xs : List V} (e : H a = some (.tup xs)) : NoTxt K H (.ref a) := ⟨_, .base (.tup e), kit_ty (by decide +kernel)⟩
theorem notxt_dK {K : PySem.W.Frag} {H : Hp} {a : Addr} {xs : List (Key × V)} (e : H a = some (.dK xs)) : NoTxt K H (.ref a) := ⟨_, .base (.dK e), kit_ty (by decide +kernel)⟩
theorem notxt_same {K : PySem.W.Frag} {H H' : Hp} {x : V} (s : Same H H') (h : NoTxt K H x) : NoTxt K H' x := by
  obtain ⟨t, ty, k⟩ := h
  exact ⟨t, tyx_same s ty, k⟩
/-! ### signs in the written dict of both signs -/
/-- the sign is a bead or a free place -/
def okc (c : Nat) : Bool := decide (c = 111) || decide (c = 46)
theorem okc_cd (b : Bool) : okc (cd b) = true := by cases b <;> rfl
def keyText : Value → Option Str
  | .str s _ => some s
  | _ => none
theorem keyText_str {v : Value} {s : Str} (h : keyText v = some s) : ∃ t, v = .str s t := by
  cases v <;> simp [keyText] at h
  exact ⟨_, by rw [h]⟩
def keysAre (es : Array DictEntry) : Prop := es.toList.map (fun e => keyText e.key) = [some ("o" : Str), some ("." : Str)]
theorem sign_in {K : PySem.W.Frag} {d : Addr} {es : Array DictEntry} {n : Nat} (l : K.lookup d = some ⟨.type "dict", none, .dict es n, #[]⟩) (hk : keysAre es) (c : Nat) : ∃ r, PySem.W.nsIn K d ⟨#[c]⟩ = some r ∧ r.isSome = okc c := by
  unfold keysAre at hk
  obtain ⟨e1, e2, hes⟩ : ∃ e1 e2, es.toList = [e1, e2] := by
    have hl := congrArg List.length hk
    rw [List.length_map] at hl
    match h : es.toList, hl with
    | [e1, e2], _ => exact ⟨e1, e2, rfl⟩
  rw [hes] at hk
  obtain ⟨t1, k1⟩ := keyText_str (List.cons.inj hk).1
  obtain ⟨t2, k2⟩ := keyText_str (List.cons.inj (List.cons.inj hk).2).1
  have i1 : e1.key.isStr ⟨#[c]⟩ = decide (c = 111) := by
    rw [k1]
    by_cases h : c = 111
    · subst h
      show (("o" : Str) == ⟨#[111]⟩) = true
      decide +kernel
    · rw [decide_eq_false h]
      have : ¬ (("o" : Str) = ⟨#[c]⟩) := fun z => by
        have z2 := congrArg (fun q : Str => q.cps.toList) z
        have z3 : [111] = [c] := z2
        exact h (List.cons.inj z3).1.symm
      simp [Value.isStr, this]
  have i2 : e2.key.isStr ⟨#[c]⟩ = decide (c = 46) := by
    rw [k2]
    by_cases h : c = 46
    · subst h
      show (("." : Str) == ⟨#[46]⟩) = true
      decide +kernel
    · rw [decide_eq_false h]
      have : ¬ (("." : Str) = ⟨#[c]⟩) := fun z => by
        have z2 := congrArg (fun q : Str => q.cps.toList) z
        have z3 : [46] = [c] := z2
        exact h (List.cons.inj z3).1.symm
      simp [Value.isStr, this]
  have r1 : e1.refKey = false := by unfold DictEntry.refKey; rw [k1]
  have r2 : e2.refKey = false := by unfold DictEntry.refKey; rw [k2]
  unfold PySem.W.nsIn
  rw [l]
  simp only [hes, List.find?, i1, i2, List.any_cons, r1, r2, List.any_nil, Bool.or_false]
  unfold okc
  by_cases h1 : c = 111
  · simp [h1]
  · by_cases h2 : c = 46
    · simp [h2]
    · simp [h1, h2]
/-- x is no row: no text, or one that is too short, too long, or has another sign -/
def NotRow (K : PySem.W.Frag) (H : Hp) (x : V) : Prop := NoTxt K H x ∨ ∃ z : Str, x = .str z ∧ z.length ≤ 10000 ∧ (z.length = 0 ∨ 30 < z.length ∨ ∃ c ∈ z.cps.toList, okc c = false)
def NotWord (K : PySem.W.Frag) (H : Hp) (x : V) : Prop := NoTxt K H x ∨ ∃ z : Str, x = .str z ∧ z.length ≤ 10000 ∧ (30 < z.length ∨ ∃ c ∈ z.cps.toList, okc c = false)
theorem notrow_same {K : PySem.W.Frag} {H H' : Hp} {x : V} (s : Same H H') (h : NotRow K H x) : NotRow K H' x := h.imp (notxt_same s) id
theorem notword_same {K : PySem.W.Frag} {H H' : Hp} {x : V} (s : Same H H') (h : NotWord K H x) : NotWord K H' x := h.imp (notxt_same s) id
theorem notword_row {K : PySem.W.Frag} {H : Hp} {x : V} (h : NotWord K H x) : NotRow K H x := h.imp id fun ⟨z, e, l, q⟩ => ⟨z, e, l, .inr q⟩
end HopR

set_option Elab.async false
set_option linter.all false
set_option maxRecDepth 100000
namespace HopR
open PySem L2
/-! ### words: where they can be shortened, and to what -/
def shp (bs : List Bool) (i : Nat) : Bool := decide ((bs.drop i).take 2 = [true, false])
def plc (bs : List Bool) : List Nat := (List.range bs.length).filter (shp bs)
def shA (bs : List Bool) (k : Nat) : List Bool := bs.take (k + 1) ++ bs.drop (k + 2)
def shB (bs : List Bool) (k : Nat) : List Bool := bs.take k ++ bs.drop (k + 1)
theorem shp_split {bs : List Bool} {i : Nat} (h : shp bs i = true) : bs = bs.take i ++ true :: false :: bs.drop (i + 2) ∧ i + 2 ≤ bs.length := by
  have h := of_decide_eq_true h
  have e : bs.drop i = [true, false] ++ (bs.drop i).drop 2 := by
    conv => lhs; rw [← List.take_append_drop 2 (bs.drop i), h]
  rw [List.drop_drop] at e
  have hl := congrArg List.length e
  rw [List.length_drop, List.length_append, List.length_drop] at hl
  have hl2 : bs.length - i = 2 + (bs.length - (i + 2)) := hl
  refine ⟨?_, by omega⟩
  conv => lhs; rw [← List.take_append_drop i bs, e]
  rfl
theorem plc_shp {bs : List Bool} {k : Nat} (h : k ∈ plc bs) : shp bs k = true ∧ k < bs.length := ⟨(List.mem_filter.mp h).2, List.mem_range.mp (List.mem_filter.mp h).1⟩
theorem plc_few (bs : List Bool) : (plc bs).length ≤ bs.length := by
  refine Nat.le_trans (List.length_filter_le _ _) ?_
  rw [List.length_range]
  exact Nat.le_refl _
theorem shA_len {bs : List Bool} {k : Nat} (h : k + 2 ≤ bs.length) : (shA bs k).length + 1 = bs.length := by
  unfold shA
  rw [List.length_append, List.length_take, List.length_drop]
  omega
theorem shB_len {bs : List Bool} {k : Nat} (h : k + 2 ≤ bs.length) : (shB bs k).length + 1 = bs.length := by
  unfold shB
  rw [List.length_append, List.length_take, List.length_drop]
  omega
theorem shA_eq {bs : List Bool} {k : Nat} (h : k ∈ plc bs) : shA bs k = bs.take k ++ [true] ++ bs.drop (k + 2) := by
  obtain ⟨e, hl⟩ := shp_split (plc_shp h).1
  unfold shA
  have e2 : bs.take (k + 1) = bs.take k ++ [true] := by
    rw [List.take_add_one]
    congr 1
    rw [e, List.getElem?_append_right (by rw [List.length_take]; omega), List.length_take, show k - min k bs.length = 0 by omega]
    rfl
  rw [e2]
theorem shB_eq {bs : List Bool} {k : Nat} (h : k ∈ plc bs) : shB bs k = bs.take k ++ [false] ++ bs.drop (k + 2) := by
  obtain ⟨e, hl⟩ := shp_split (plc_shp h).1
  unfold shB
  rw [List.append_assoc]
  congr 1
  have e3 : bs.drop (k + 1) = false :: bs.drop (k + 2) := by
    have h1 : k + 1 < bs.length := by omega
    rw [List.drop_eq_getElem_cons h1]
    congr 1
    have h2 : bs[k + 1]? = some false := by
      rw [e, List.getElem?_append_right (by rw [List.length_take]; omega), List.length_take, show k + 1 - min k bs.length = 1 by omega]
      rfl
    rw [List.getElem?_eq_getElem h1] at h2
    exact Option.some.inj h2
  rw [e3]
  rfl
/-! ### words and other things -/
def isRowB (z : Str) : Bool := decide (1 ≤ z.length) && (decide (z.length ≤ 30) && z.cps.toList.all okc)
def isWordB (z : Str) : Bool := decide (z.length ≤ 30) && z.cps.toList.all okc
/-- whether x is a row -/
def RowB (K : PySem.W.Frag) (H : Hp) (x : V) (b : Bool) : Prop := (NoTxt K H x ∧ b = false) ∨ ∃ z : Str, x = .str z ∧ z.length ≤ 10000 ∧ b = isRowB z
/-- whether x is a word -/
def WordB (K : PySem.W.Frag) (H : Hp) (x : V) (b : Bool) : Prop := (NoTxt K H x ∧ b = false) ∨ ∃ z : Str, x = .str z ∧ z.length ≤ 10000 ∧ b = isWordB z
theorem wordB_same {K : PySem.W.Frag} {H H' : Hp} {x : V} {b : Bool} (s : Same H H') (h : WordB K H x b) : WordB K H' x b := h.imp (fun ⟨q, e⟩ => ⟨notxt_same s q, e⟩) id
theorem rowB_same {K : PySem.W.Frag} {H H' : Hp} {x : V} {b : Bool} (s : Same H H') (h : RowB K H x b) : RowB K H' x b := h.imp (fun ⟨q, e⟩ => ⟨notxt_same s q, e⟩) id
theorem okc_tx (bs : List Bool) : (tx bs).cps.toList.all okc = true := by
  rw [tx_list, List.all_map, List.all_eq_true]
  exact fun b _ => okc_cd b
theorem isWord_tx {bs : List Bool} (h : bs.length ≤ 30) : isWordB (tx bs) = true := by
  unfold isWordB
  rw [okc_tx, tx_len, decide_eq_true h]
  rfl
theorem isRow_tx {bs : List Bool} (h1 : 1 ≤ bs.length) (h : bs.length ≤ 30) : isRowB (tx bs) = true := by
  unfold isRowB
  rw [okc_tx, tx_len, decide_eq_true h, decide_eq_true h1]
  rfl
theorem len0 {z : Str} (h : z.length = 0) : z = "" := by
  apply ext_str
  have : z.cps = #[] := Array.eq_empty_of_size_eq_zero h
  rw [this]
  rfl
/-- as the program tells it: a row, or the text without signs -/
theorem isWord_or (z : Str) : isWordB z = (isRowB z || decide (z = "")) := by
  unfold isWordB isRowB
  by_cases h : z.length = 0
  · rw [len0 h]
    decide +kernel
  · have ne : ¬ z = "" := fun e => h (by rw [e]; decide +kernel)
    rw [decide_eq_false ne, decide_eq_true (show 1 ≤ z.length by omega)]
    simp
/-- a spot at which the word of bs can't be shortened -/
def BadSpot (K : PySem.W.Frag) (H : Hp) (y : V) (ks : List Nat) : Prop := Odd K H y ∨ ∃ i : Int, y = .int i ∧ ∀ k ∈ ks, i ≠ (k : Int)
theorem badspot_same {K : PySem.W.Frag} {H H' : Hp} {y : V} {ks : List Nat} (s : Same H H') (h : BadSpot K H y ks) : BadSpot K H' y ks := h.imp (odd_same s) id
theorem inV_in {ks : List Nat} {k : Nat} (h : k ∈ ks) : inV (wv k) (ks.map wv) = true := by
  unfold inV
  rw [List.any_eq_true]
  exact ⟨wv k, List.mem_map_of_mem h, by unfold wv eqV; simp⟩
theorem inV_no {ks : List Nat} {i : Int} (h : ∀ k ∈ ks, i ≠ (k : Int)) : inV (.int i) (ks.map wv) = false := by
  unfold inV
  rw [List.any_eq_false]
  intro x hx
  obtain ⟨k, hk, rfl⟩ := List.mem_map.mp hx
  unfold wv eqV
  simp
  have := h k hk
  omega
theorem flat_ks (ks : List Nat) : (ks.map wv).all flatV = true := by
  rw [List.all_eq_true]
  intro x hx
  obtain ⟨k, _, rfl⟩ := List.mem_map.mp hx
  rfl
theorem fit {m : Nat} (h : m ≤ 10000) : m ≤ sizeLine := Nat.le_trans h (by decide)
theorem fit' {m : Nat} (h : m ≤ 10000) : m < sizeLine := Nat.lt_of_le_of_lt h (by decide)
theorem tx_fit {bs : List Bool} (h : bs.length ≤ 10000) : (tx bs).length ≤ sizeLine := by
  rw [tx_len]
  exact fit h
theorem tx_nil : ("" : Str) = tx [] := by decide +kernel
theorem dec_str {a b : Str} {p : Prop} [Decidable p] (h : a = b ↔ p) : decide (V.str a = V.str b) = decide p := by
  by_cases q : p
  · rw [decide_eq_true q, decide_eq_true (by rw [h.mpr q])]
  · rw [decide_eq_false q, decide_eq_false fun z => q (h.mp (V.str.inj z))]
end HopR

set_option Elab.async false
set_option linter.all false
set_option maxRecDepth 100000
namespace Hop
open PySem L2 HopR
def top (i : Nat) : Stmt := PySem.Challenge.pw_hopline_k23_whole_whatever_is_shortened.main.body.getD i (.Pass ⟨0, 0, 0, 0⟩)
abbrev sIsWhole : Stmt := top 5
abbrev sIsRow : Stmt := top 11
abbrev sIsWord : Stmt := top 13
abbrev sNeedWord : Stmt := top 14
abbrev sPlaces : Stmt := top 15
abbrev sShort : Stmt := top 16
/-! ### what stands at the top -/
structure Txt (K : PySem.W.Frag) (w : World) (mg : Str → Option Value) (d : Addr) (es : Array DictEntry) (n : Nat) : Prop where
  len : mg "len" = none
  range : mg "range" = none
  all : mg "all" = none
  isi : mg "isinstance" = none
  str : mg "str" = none
  int : mg "int" = none
  bool : mg "bool" = none
  sorted : mg "sorted" = none
  list : mg "list" = none
  tuple : mg "tuple" = none
  repr : mg "repr" = none
  any : mg "any" = none
  dict : mg "dict" = none
  ms : ∃ t, mg "MOST_SIGNS" = some (.int 12 t)
  bead : ∃ t, mg "BEAD" = some (.str "o" t)
  free : ∃ t, mg "FREE" = some (.str "." t)
  most : ∃ t, mg "MOST_PLACES" = some (.int 30 t)
  os : mg "OTHER_SIGN" = some (.ref d)
  D : KDict K w d es n
  keys : keysAre es
structure Er (K : PySem.W.Frag) (mg : Str → Option Value) (NW NP : Addr) : Prop where
  gNW : mg "NoWord" = some (.ref NW)
  gNP : mg "NoPlace" = some (.ref NP)
  W : Xc K NW bmV "ValueError.__new__"
  P : Xc K NP bmV "ValueError.__new__"
/-- a text in a written dict -/
def rInKd (K : PySem.W.Frag) (d : Addr) : R2 := fun x y H Q => ∃ (z : Str) (r : Option Value), x = .str z ∧ y = .ref d ∧ PySem.W.nsIn K d z = some r ∧ Q (.bl r.isSome) H
theorem op_inKd {X : Cx} {d : Addr} {es : Array DictEntry} {n : Nat} (D : KDict X.K X.w d es n) : OpR X (compareOp .In) (rInKd X.K d) := op_in_kd D
section
variable {P : Program} {w : World} {K : PySem.W.Frag} {mg : Str → Option Value} {base : Heap} {d : Addr} {es : Array DictEntry} {n : Nat}
/-! ### is_whole -/
def spWh (K : PySem.W.Frag) : Sp := fun vs H Q _ => ∃ x, vs = [x] ∧ ((∃ i : Int, x = .int i ∧ Q (.bl true) H) ∨ (Odd K H x ∧ Q (.bl false) H))
theorem scWhole : FnScope ["thing"] ["thing"] (defScope sIsWhole) := ⟨rfl, rfl, rfl, by decide +kernel, rfl, by decide +kernel, by decide +kernel⟩
theorem ok_whole {f : Addr} {fd : FuncData} {k : Nat} (F : Fun K "is_whole" "is_whole" sIsWhole f fd) (T : Txt K w mg d es n) : FnOk P w K mg base CX0 (k + 1) f fd ["thing"] (spWh K) := by
  refine F.ok scWhole (fun vs H Q E h => ?_) (fun cdv A outer s H vs Q E hr h => ?_)
  · obtain ⟨i, rfl, _⟩ := h
    rfl
  · obtain ⟨x, rfl, h⟩ := h
    refine ⟨_, pss_one (ps_ret (pe_and (pe_callB call_isi (by rfl) T.isi (by decide +kernel) (pa_cons (pv 0) (pa_cons (pe_bltn (v := .ty "int") (by rfl) T.int (by decide +kernel) rfl) pa_nil)))
      (pe_one (pe_not (pe_callB call_isi (by rfl) T.isi (by decide +kernel) (pa_cons (pv 0) (pa_cons (pe_bltn (v := .ty "bool") (by rfl) T.bool (by decide +kernel) rfl) pa_nil))))))), ?_⟩
    rcases h with ⟨i, rfl, q⟩ | ⟨⟨t, bI, ty, k1, k2⟩, q⟩
    · refine ⟨.int i, rfl, .int i, .ty "int", .type "int", .type "int", true, rfl, .ty _, .base (.int _), kit_ty (by decide +kernel), true, rfl, ?_⟩
      exact ⟨.int i, rfl, .int i, .ty "bool", .type "int", .type "bool", false, rfl, .ty _, .base (.int _), kit_ty (by decide +kernel), false, rfl, q⟩
    · refine ⟨x, rfl, x, .ty "int", t, .type "int", bI, rfl, .ty _, ty, k1, bI, rfl, ?_⟩
      cases bI with
      | false => exact q
      | true => exact ⟨x, rfl, x, .ty "bool", t, .type "bool", true, rfl, .ty _, ty, k2 rfl, true, rfl, q⟩
/-! ### is_row -/
def spIsRow (K : PySem.W.Frag) : Sp := fun vs H Q _ => ∃ x b, vs = [x] ∧ RowB K H x b ∧ ∀ H', Same H H' → Q (.bl b) H'
theorem scIsRow : FnScope ["thing", "sign"] ["thing"] (defScope sIsRow) := ⟨rfl, rfl, rfl, by decide +kernel, rfl, by decide +kernel, by decide +kernel⟩
theorem ok_isrow {f : Addr} {fd : FuncData} {k : Nat} (F : Fun K "is_row" "is_row" sIsRow f fd) (T : Txt K w mg d es n) : FnOk P w K mg base CX0 (k + 1) f fd ["thing"] (spIsRow K) := by
  refine F.ok scIsRow (fun vs H Q E h => ?_) (fun cdv A outer s H vs Q E hr h => ?_)
  · obtain ⟨x, b, rfl, _⟩ := h
    rfl
  · obtain ⟨x, b, rfl, hb, q⟩ := h
    have nd := scIsRow.nd
    obtain ⟨tm, gm⟩ := T.most
    refine ⟨_, pss_cons (ps_if (PW.pt (pw_or (pt_not (pt_val (pe_callB call_isi (by rfl) T.isi (by decide +kernel) (pa_cons (pv 0) (pa_cons (pe_bltn (v := .ty "str") (by rfl) T.str (by decide +kernel) rfl) pa_nil)))))
          (pw_or (pt_cmpR op_lt (pe_callB call_len_str (by rfl) T.len PySem.boot_len (pa_cons (pv 0) pa_nil)) pe_int (nomark _))
          (pw_or1 (pt_cmpR op_gt (pe_callB call_len_str (by rfl) T.len PySem.boot_len (pa_cons (pv 0) pa_nil)) (pe_glob (v := .int 30) (by rfl) gm ⟨_, rfl⟩) (nomark _))))))
        (pss_one (ps_ret pe_bl)) pss_nil)
      (pss_one (ps_ret (pe_callB (cr_all rfl) (by rfl) T.all (by decide +kernel) (pa_cons
        (pe_lc (own := [("sign", 1)]) (g := gName 1) (tt := tYes) (te := tOp (rInKd K d) (tVar 1) (tC (.ref d))) rfl nd (pi_str (pv 0)) (blkOk_by (own := [("sign", 1)]) (N := ["thing", "sign"]) (sc := defScope sIsRow) (by decide +kernel))
          (fun _ _ _ _ _ => pg_name (i := 1) nd rfl (Or.inl rfl)) (fun _ _ _ _ _ => pts_nil)
          (fun _ _ _ _ _ => pe_cmpR (op_inKd T.D) (pv 1) (pe_glob (v := .ref d) (by rfl) T.os rfl) (by rfl)))
        pa_nil)))), ?_⟩
    rcases hb with ⟨⟨t, ty, kt⟩, rfl⟩ | ⟨z, rfl, hz, rfl⟩
    · exact ⟨x, rfl, x, .ty "str", t, .type "str", false, rfl, .ty _, ty, kt, false, rfl, q H (Same.refl _)⟩
    · refine ⟨.str z, rfl, .str z, .ty "str", .type "str", .type "str", true, rfl, .ty _, .base (.str _), kit_ty (by decide +kernel), true, rfl, iteF ?_⟩
      refine ⟨.str z, rfl, z, rfl, fit hz, _, _, rfl, rfl, _, rfl, ?_⟩
      by_cases h1 : z.length < 1
      · rw [decide_eq_true (show (z.length : Int) < 1 by omega)]
        have e : isRowB z = false := by
          unfold isRowB
          rw [decide_eq_false (by omega)]
          rfl
        rw [e] at q
        exact q H (Same.refl _)
      rw [decide_eq_false (show ¬ (z.length : Int) < 1 by omega)]
      refine iteF ⟨.str z, rfl, z, rfl, fit hz, _, _, rfl, rfl, _, rfl, ?_⟩
      by_cases h2 : 30 < z.length
      · rw [decide_eq_true (show (z.length : Int) > 30 by omega)]
        have e : isRowB z = false := by
          unfold isRowB
          rw [decide_eq_false (show ¬ z.length ≤ 30 by omega)]
          simp
        rw [e] at q
        exact q H (Same.refl _)
      rw [decide_eq_false (show ¬ (z.length : Int) > 30 by omega)]
      refine iteF ⟨.str z, rfl, z, rfl, fun D hD => ?_⟩
      refine lc_it walk_str (fun i H3 => Same H H3 ∧ H3 D = some (.lst (((z.cps.toList.take i).map okc).map V.bl))) ⟨same_upd hD, upd_same⟩ (fun _ _ _ _ => trivial) ?_ ?_
      · rintro i x H3 H' hi ⟨sm, eD⟩ ⟨rfl, c, hc, rfl⟩
        obtain ⟨r, e1, e2⟩ := sign_in T.D.at_ T.keys c
        refine ⟨rfl, .str ⟨#[c]⟩, rfl, ⟨#[c]⟩, r, rfl, rfl, e1, _, eD, ?_, same_new hD sm, ?_⟩
        · rw [List.length_map, List.length_map]
          refine fit' (Nat.le_trans (List.length_take_le _ _) ?_)
          have : i < z.length := hi
          omega
        · rw [upd_same, e2, List.take_add_one, Array.getElem?_toList, hc, List.map_append, List.map_append]
          rfl
      · rintro H3 ⟨sm, eD⟩
        refine ⟨D, (z.cps.toList.map okc), rfl, SqL.of ?_, ?_⟩
        · rw [eD, List.take_of_length_le (by rw [Array.length_toList]; exact Nat.le_refl _)]
        · have e : (z.cps.toList.map okc).all id = isRowB z := by
            unfold isRowB
            rw [decide_eq_true (show 1 ≤ z.length by omega), decide_eq_true (show z.length ≤ 30 by omega), List.all_map]
            rfl
          rw [e]
          exact q H3 sm
end
end Hop

set_option Elab.async false
set_option linter.all false
set_option maxRecDepth 100000
namespace Hop
open PySem L2 HopR
section
variable {P : Program} {w : World} {K : PySem.W.Frag} {mg : Str → Option Value} {base : Heap} {d : Addr} {es : Array DictEntry} {n : Nat} {NW NP : Addr}
/-! ### is_word, need_word -/
def spIsWord (K : PySem.W.Frag) : Sp := fun vs H Q _ => ∃ x b, vs = [x] ∧ WordB K H x b ∧ ∀ H', Same H H' → Q (.bl b) H'
theorem scIsWord : FnScope ["thing"] ["thing"] (defScope sIsWord) := ⟨rfl, rfl, rfl, by decide +kernel, rfl, by decide +kernel, by decide +kernel⟩
theorem ok_isword {f f1 : Addr} {fd fd1 : FuncData} {k : Nat} (F : Fun K "is_word" "is_word" sIsWord f fd) (N1 : Fn K mg "is_row" sIsRow ["thing"] f1 fd1) (T : Txt K w mg d es n) : FnOk P w K mg base CX0 (k + 2) f fd ["thing"] (spIsWord K) := by
  have G1 : FnOk P w K mg base CX0 (k + 1) f1 fd1 ["thing"] (spIsRow K) := ok_isrow N1.F T
  refine F.ok scIsWord (fun vs H Q E h => ?_) (fun cdv A outer s H vs Q E hr h => ?_)
  · obtain ⟨x, b, rfl, _⟩ := h
    rfl
  · obtain ⟨x, b, rfl, hb, q⟩ := h
    refine ⟨_, pss_one (ps_ret (pe_or (pe_call G1 hr (by rfl) N1.g N1.F.kp N1.b .nil pass0 (pa_cons (pv 0) pa_nil))
      (pe_one (pe_and (pe_callB call_isi (by rfl) T.isi (by decide +kernel) (pa_cons (pv 0) (pa_cons (pe_bltn (v := .ty "str") (by rfl) T.str (by decide +kernel) rfl) pa_nil))) (pe_one (pe_cmpR op_eq (pv 0) pe_str (nomark _))))))), ?_⟩
    rcases hb with ⟨hn, rfl⟩ | ⟨z, rfl, hz, rfl⟩
    · obtain ⟨t, ty, kt⟩ := hn
      refine ⟨x, rfl, x, false, rfl, .inl ⟨⟨t, ty, kt⟩, rfl⟩, fun H1 s1 => ⟨false, rfl, ?_⟩⟩
      exact ⟨x, rfl, x, .ty "str", t, .type "str", false, rfl, .ty _, tyx_same s1 ty, kt, false, rfl, q H1 s1⟩
    · refine ⟨.str z, rfl, .str z, isRowB z, rfl, .inr ⟨z, rfl, hz, rfl⟩, fun H1 s1 => ⟨isRowB z, rfl, ?_⟩⟩
      rw [isWord_or] at q
      cases hR : isRowB z with
      | true =>
        rw [hR] at q
        exact q H1 s1
      | false =>
        rw [hR, Bool.false_or] at q
        refine ⟨.str z, rfl, .str z, .ty "str", .type "str", .type "str", true, rfl, .ty _, .base (.str _), kit_ty (by decide +kernel), true, rfl, ?_⟩
        refine ⟨.str z, rfl, rfl, ?_⟩
        rw [dec_str (p := z = "") Iff.rfl]
        exact q H1 s1
def spNeed (K : PySem.W.Frag) (NW : Addr) : Sp := fun vs H Q E => ∃ x b, vs = [x] ∧ WordB K H x b ∧ (b = true → ∀ H', Same H H' → Q .non H') ∧ (b = false → ∀ H', Same H H' → E (.ref NW) none H')
theorem scNeed : FnScope ["thing"] ["thing"] (defScope sNeedWord) := ⟨rfl, rfl, rfl, by decide +kernel, rfl, by decide +kernel, by decide +kernel⟩
theorem ok_need {f f1 f2 : Addr} {fd fd1 fd2 : FuncData} {k : Nat} (F : Fun K "need_word" "need_word" sNeedWord f fd) (N1 : Fn K mg "is_row" sIsRow ["thing"] f1 fd1) (N2 : Fn K mg "is_word" sIsWord ["thing"] f2 fd2) (T : Txt K w mg d es n) (Z : Er K mg NW NP) :
    FnOk P w K mg base (L2.CX P w) (k + 3) f fd ["thing"] (spNeed K NW) := by
  have G2 : FnOk P w K mg base CX0 (k + 2) f2 fd2 ["thing"] (spIsWord K) := ok_isword N2.F N1 T
  refine F.okX scNeed (fun vs H Q E h => ?_) (fun cdv A outer s H vs Q E hr h => ?_)
  · obtain ⟨x, b, rfl, _⟩ := h
    rfl
  · obtain ⟨x, b, rfl, hb, q1, q2⟩ := h
    refine ⟨_, pss_one (ps_if (pt_not (pt_val (pe_call G2 hr (by rfl) N2.g N2.F.kp N2.b .nil pass0 (pa_cons (pv 0) pa_nil))))
      (pss_one (ps_raise rfl (takes_of rfl rfl rfl rfl) (pmk_own PySem.F.excBase_ValueError Z.W.x Z.gNW Z.W.k (raises_own Z.W.be Z.W.ty) rfl))) pss_nil), ?_⟩
    refine ⟨x, rfl, x, b, rfl, hb, fun H1 s1 => ⟨b, rfl, ?_⟩⟩
    cases b with
    | true => exact q1 rfl H1 s1
    | false => exact q2 rfl H1 s1
/-! ### places_in -/
def spPlaces (K : PySem.W.Frag) (NW : Addr) : Sp := fun vs H Q E => ∃ x, vs = [x] ∧ ((∃ bs : List Bool, x = .str (tx bs) ∧ bs.length ≤ 30 ∧ ∀ H' p, Same H H' → H p = none → H' p = some (.lst ((plc bs).map wv)) → Q (.ref p) H') ∨ (WordB K H x false ∧ ∀ H', Same H H' → E (.ref NW) none H'))
theorem scPlaces : FnScope ["word", "place"] ["word"] (defScope sPlaces) := ⟨rfl, rfl, rfl, by decide +kernel, rfl, by decide +kernel, by decide +kernel⟩
theorem ok_places {f f1 f2 f3 : Addr} {fd fd1 fd2 fd3 : FuncData} {k : Nat} (F : Fun K "places_in" "places_in" sPlaces f fd) (N1 : Fn K mg "is_row" sIsRow ["thing"] f1 fd1) (N2 : Fn K mg "is_word" sIsWord ["thing"] f2 fd2) (N3 : Fn K mg "need_word" sNeedWord ["thing"] f3 fd3)
    (T : Txt K w mg d es n) (Z : Er K mg NW NP) : FnOk P w K mg base (L2.CX P w) (k + 4) f fd ["word"] (spPlaces K NW) := by
  have G3 : FnOk P w K mg base (L2.CX P w) (k + 3) f3 fd3 ["thing"] (spNeed K NW) := ok_need N3.F N1 N2 T Z
  refine F.okX scPlaces (fun vs H Q E h => ?_) (fun cdv A outer s H vs Q E hr h => ?_)
  · obtain ⟨x, rfl, _⟩ := h
    rfl
  · obtain ⟨x, rfl, h⟩ := h
    have nd := scPlaces.nd
    obtain ⟨tb, gb⟩ := T.bead
    obtain ⟨tf, gf⟩ := T.free
    refine ⟨_, pss_cons (ps_expr (pe_call G3 hr (by rfl) N3.g N3.F.kp N3.b .nil (passes_call (E := E) (takes_of rfl rfl rfl rfl) (fun _ _ _ _ h => h)) (pa_cons (pv 0) pa_nil)))
      (pss_one (ps_ret (pe_lc (own := [("place", 1)]) (g := gName 1) rfl nd (pi_range1 (by rfl) T.range (pa_cons (pe_callB call_len_str (by rfl) T.len PySem.boot_len (pa_cons (pv 0) pa_nil)) pa_nil))
        (blkOk_by (own := [("place", 1)]) (N := ["word", "place"]) (sc := defScope sPlaces) (by decide +kernel))
        (fun _ _ _ _ _ => pg_name (i := 1) nd rfl (Or.inl rfl))
        (fun _ _ _ _ _ => pts_one (pt_cmpR op_eq (pe_slice sl_str (pv 0) (po_some (pv 1)) (po_some (pe_op op_add (pv 1) pe_int))) (pe_op op_add_str (pe_glob (v := .str "o") (by rfl) gb ⟨_, rfl⟩) (pe_glob (v := .str ".") (by rfl) gf ⟨_, rfl⟩)) (nomark _)))
        (fun _ _ _ _ _ => pv 1)))), ?_⟩
    rcases h with ⟨bs, rfl, h30, q⟩ | ⟨hw, q⟩
    · have hz : (tx bs).length ≤ sizeLine := tx_fit (by omega)
      refine ⟨.str (tx bs), rfl, .str (tx bs), true, rfl, .inr ⟨tx bs, rfl, by rw [tx_len]; omega, (isWord_tx h30).symm⟩, fun _ H1 s1 => ?_, fun z => nomatch z⟩
      refine ⟨.str (tx bs), rfl, tx bs, rfl, hz, _, rfl, by omega, (by rw [tx_len]; omega), fun D hD => ?_⟩
      have en : (((tx bs).length : Int)).toNat = bs.length := by
        rw [tx_len]
        omega
      rw [en]
      refine lc_range (lo := 0) (n := bs.length) (fun i H3 => Same H H3 ∧ H3 D = some (.lst (((List.range i).filter (shp bs)).map wv))) ⟨same_new (s1.free hD) s1, upd_same⟩ ?_ ?_
      · rintro i H3 hi ⟨sm, eD⟩
        rw [Int.zero_add]
        have hlt : (((List.range i).filter (shp bs)).map wv).length < sizeLine := by
          rw [List.length_map]
          refine fit' (Nat.le_trans (List.length_filter_le _ _) ?_)
          rw [List.length_range]
          omega
        refine ⟨rfl, .str (tx bs), rfl, .int (i : Int), rfl, _, rfl, .int (i : Int), rfl, _, _, rfl, rfl, _, rfl, tx bs, rfl, hz, "o", ".", rfl, rfl, by decide, rfl, _, rfl, ?_⟩
        have e : decide (V.str (cutS (tx bs) (some (i : Int)) (some ((i : Int) + 2))) = V.str ("o" ++ ".")) = shp bs i := by
          have e1 := cut_at bs i 2
          rw [show (((2 : Nat) : Int)) = 2 from rfl] at e1
          rw [e1, tx_o, tx_f, tx_app]
          exact dec_str ⟨fun z => tx_inj z, fun z => congrArg tx z⟩
        rw [e]
        have er : (List.range (i + 1)).filter (shp bs) = (List.range i).filter (shp bs) ++ (if shp bs i then [i] else []) := by
          rw [List.range_succ, List.filter_append]
          congr 1
          cases h : shp bs i with
          | true => simp [h]
          | false => simp [h]
        cases h : shp bs i with
        | true =>
          rw [h] at er
          refine ⟨.int (i : Int), rfl, _, eD, hlt, same_new (s1.free hD) sm, ?_⟩
          rw [upd_same, er, List.map_append]
          rfl
        | false =>
          rw [h] at er
          refine ⟨sm, ?_⟩
          rw [er, eD]
          simp
      · rintro H3 ⟨sm, eD⟩
        exact q H3 D sm (s1.free hD) eD
    · exact ⟨x, rfl, x, false, rfl, hw, (fun z => nomatch z), fun _ H1 s1 => q H1 s1⟩
/-! ### shortened -/
def spShort (K : PySem.W.Frag) (NW NP : Addr) : Sp := fun vs H Q E => ∃ x y, vs = [x, y] ∧
  ((∃ (bs : List Bool) (k : Nat), x = .str (tx bs) ∧ y = wv k ∧ bs.length ≤ 30 ∧ k ∈ plc bs ∧ ∀ H' p, Same H H' → H p = none → H' p = some (.tup [.str (tx (shA bs k)), .str (tx (shB bs k))]) → Q (.ref p) H') ∨
   (∃ bs : List Bool, x = .str (tx bs) ∧ bs.length ≤ 30 ∧ BadSpot K H y (plc bs) ∧ ∀ H', Same H H' → E (.ref NP) none H') ∨ (WordB K H x false ∧ ∀ H', Same H H' → E (.ref NW) none H'))
theorem scShort : FnScope ["word", "place", "places"] ["word", "place"] (defScope sShort) := ⟨rfl, rfl, rfl, by decide +kernel, rfl, by decide +kernel, by decide +kernel⟩
theorem ok_short {f f1 f2 f3 f4 f5 : Addr} {fd fd1 fd2 fd3 fd4 fd5 : FuncData} {k : Nat} (F : Fun K "shortened" "shortened" sShort f fd) (N1 : Fn K mg "is_row" sIsRow ["thing"] f1 fd1) (N2 : Fn K mg "is_word" sIsWord ["thing"] f2 fd2) (N3 : Fn K mg "need_word" sNeedWord ["thing"] f3 fd3)
    (N4 : Fn K mg "places_in" sPlaces ["word"] f4 fd4) (N5 : Fn K mg "is_whole" sIsWhole ["thing"] f5 fd5) (T : Txt K w mg d es n) (Z : Er K mg NW NP) : FnOk P w K mg base (L2.CX P w) (k + 5) f fd ["word", "place"] (spShort K NW NP) := by
  have G4 : FnOk P w K mg base (L2.CX P w) (k + 4) f4 fd4 ["word"] (spPlaces K NW) := ok_places N4.F N1 N2 N3 T Z
  have G5 : FnOk P w K mg base CX0 (k + 4) f5 fd5 ["thing"] (spWh K) := ok_whole N5.F T
  refine F.okX scShort (fun vs H Q E h => ?_) (fun cdv A outer s H vs Q E hr h => ?_)
  · obtain ⟨x, y, rfl, _⟩ := h
    rfl
  · obtain ⟨x, y, rfl, h⟩ := h
    have nd := scShort.nd
    refine ⟨_, pss_cons (ps_set (i := 2) nd rfl (.inl rfl) (pe_call G4 hr (by rfl) N4.g N4.F.kp N4.b .nil (passes_call (E := E) (takes_of rfl rfl rfl rfl) (fun _ _ _ _ h => h)) (pa_cons (pv 0) pa_nil)))
      (pss_cons (ps_if (PW.pt (pw_or (pt_not (pt_val (pe_call G5 hr (by rfl) N5.g N5.F.kp N5.b .nil pass0 (pa_cons (pv 1) pa_nil)))) (pw_or1 (pt_cmpR op_notIn_seq (pv 1) (pv 2) (by rfl)))))
        (pss_one (ps_raise rfl (takes_of rfl rfl rfl rfl) (pmk_own PySem.F.excBase_ValueError Z.P.x Z.gNP Z.P.k (raises_own Z.P.be Z.P.ty) rfl))) pss_nil)
      (pss_one (ps_ret (pe_tup (pa_cons (pe_op op_add_str (pe_slice sl_str (pv 0) po_none (po_some (pe_op op_add (pv 1) pe_int))) (pe_slice sl_str (pv 0) (po_some (pe_op op_add (pv 1) pe_int)) po_none))
        (pa_cons (pe_op op_add_str (pe_slice sl_str (pv 0) po_none (po_some (pv 1))) (pe_slice sl_str (pv 0) (po_some (pe_op op_add (pv 1) pe_int)) po_none)) pa_nil)))))), ?_⟩
    rcases h with ⟨bs, j, rfl, rfl, h30, hj, q⟩ | ⟨bs, rfl, h30, hb, q⟩ | ⟨hw, q⟩
    · have hz : (tx bs).length ≤ sizeLine := tx_fit (by omega)
      refine ⟨.str (tx bs), rfl, .str (tx bs), rfl, .inl ⟨bs, rfl, h30, fun H1 p s1 np ep => ?_⟩⟩
      refine ⟨wv j, rfl, wv j, rfl, .inl ⟨(j : Int), rfl, true, rfl, iteF ⟨wv j, rfl, .ref p, rfl, p, _, rfl, .inl (SqL.of ep), rfl, flat_ks _, _, rfl, ?_⟩⟩⟩
      rw [inV_in hj]
      have c1 : (j : Int) + 1 = ((j + 1 : Nat) : Int) := by omega
      have c2 : (j : Int) + 2 = ((j + 2 : Nat) : Int) := by omega
      refine iteF ⟨.str (tx bs), rfl, wv j, rfl, _, _, rfl, rfl, _, rfl, tx bs, rfl, hz, .str (tx bs), rfl, wv j, rfl, _, _, rfl, rfl, _, rfl, tx bs, rfl, hz, _, _, rfl, rfl, ?_, ?_⟩
      · rw [c1, c2, cut_to, cut_from, tx_len, tx_len, List.length_take, List.length_drop]
        exact fit (by omega)
      refine ⟨.str (tx bs), rfl, wv j, rfl, _, rfl, tx bs, rfl, hz, .str (tx bs), rfl, wv j, rfl, _, _, rfl, rfl, _, rfl, tx bs, rfl, hz, _, _, rfl, rfl, ?_, (by show 2 ≤ sizeLine; decide), fun t nt => ?_⟩
      · rw [c1, cut_to, cut_from, tx_len, tx_len, List.length_take, List.length_drop]
        exact fit (by omega)
      rw [c1, c2, cut_to, cut_to, cut_from, cut_from, tx_app, tx_app]
      exact q _ t (same_new (s1.free nt) s1) (s1.free nt) upd_same
    · refine ⟨.str (tx bs), rfl, .str (tx bs), rfl, .inl ⟨bs, rfl, h30, fun H1 p s1 np ep => ?_⟩⟩
      rcases badspot_same s1 hb with o | ⟨i, rfl, ne⟩
      · exact ⟨y, rfl, y, rfl, .inr ⟨o, false, rfl, q H1 s1⟩⟩
      · refine ⟨.int i, rfl, .int i, rfl, .inl ⟨i, rfl, true, rfl, iteF ⟨.int i, rfl, .ref p, rfl, p, _, rfl, .inl (SqL.of ep), rfl, flat_ks _, _, rfl, ?_⟩⟩⟩
        rw [inV_no ne]
        exact q H1 s1
    · exact ⟨x, rfl, x, rfl, .inr ⟨hw, fun H1 s1 => q H1 s1⟩⟩
end
end Hop

set_option Elab.async false
set_option linter.all false
set_option maxRecDepth 100000
namespace HopR
open PySem L2
/-! ### the draws -/
def dval (left : Int) (k : Nat) (z : Int) : Int :=
  if (1000000000000000000 : Int) ≤ left then left % z
  else
    let small := left % 1000000000000000000
    let one := (small + 7 * (k : Int) + 1) * (48271 + 2 * (k : Int) * (k : Int)) % 2147483647
    let two := (small / 3 + 11 * (k : Int) + 5) * (39373 + 6 * (k : Int)) % 2147483629
    (one * two + one / 64) % z
def dleft (left : Int) (z : Int) : Int := if (1000000000000000000 : Int) ≤ left then left / z else left
def draws : Int → Nat → List Int → List Int
  | _, _, [] => []
  | left, k, z :: r => dval left k z :: draws (dleft left z) (k + 1) r
theorem draws_len : ∀ (zs : List Int) (c : Int) (k : Nat), (draws c k zs).length = zs.length
  | [], _, _ => rfl
  | z :: r, c, k => by
    show (draws (dleft c z) (k + 1) r).length + 1 = r.length + 1
    rw [draws_len r]
theorem dval_ok {c : Int} {k : Nat} {z : Int} (h : 0 < z) : 0 ≤ dval c k z ∧ dval c k z < z := by
  unfold dval
  split
  · exact ⟨Int.emod_nonneg _ (by omega), Int.emod_lt_of_pos _ h⟩
  · exact ⟨Int.emod_nonneg _ (by omega), Int.emod_lt_of_pos _ h⟩
theorem draws_ok : ∀ (zs : List Int) (c : Int) (k : Nat), (∀ z ∈ zs, 0 < z) → ∀ (i : Nat) (d z : Int), (draws c k zs)[i]? = some d → zs[i]? = some z → 0 ≤ d ∧ d < z
  | [], _, _, _, i, d, z, _, h => by simp at h
  | y :: r, c, k, hp, 0, d, z, h1, h2 => by
    have e1 : dval c k y = d := Option.some.inj h1
    have e2 : y = z := Option.some.inj h2
    subst e1 e2
    exact dval_ok (hp y (List.mem_cons_self ..))
  | y :: r, c, k, hp, i + 1, d, z, h1, h2 => draws_ok r _ _ (fun q hq => hp q (List.mem_cons_of_mem _ hq)) i d z h1 h2
/-- the size of a draw is one that is reckoned with -/
def SizeOk (z : Int) : Prop := 0 < z ∧ z < 18446744073709551616
def bits (cs : List Int) : List Bool := cs.map fun c => decide (c = 1)
theorem signs_rows : ∀ (ys : List Str), (∀ y ∈ ys, ∃ b, y = tx [b]) → ∃ bs : List Bool, ys = bs.map fun b => tx [b]
  | [], _ => ⟨[], rfl⟩
  | y :: r, h => by
    obtain ⟨b, e⟩ := h y (List.mem_cons_self ..)
    obtain ⟨bs, e2⟩ := signs_rows r fun z hz => h z (List.mem_cons_of_mem _ hz)
    exact ⟨b :: bs, by rw [e, e2]; rfl⟩
theorem dot_o (c : Int) (h0 : 0 ≤ c) (h2 : c < 2) : atI (".o" : Str).cps.toList c = some (cd (decide (c = 1))) := by
  have e : (".o" : Str).cps.toList = [46, 111] := by decide +kernel
  rw [e]
  rcases (show c = 0 ∨ c = 1 by omega) with rfl | rfl
  · decide
  · decide
/-- a row -/
def Row (bs : List Bool) : Prop := 1 ≤ bs.length ∧ bs.length ≤ 30
theorem row_size {bs : List Bool} (h : Row bs) : (tx bs).length ≤ sizeLine := tx_fit (Nat.le_trans h.2 (by decide))
theorem flat_rep {α : Type} (x : α) : ∀ m : Nat, (List.replicate m [x]).flatten = List.replicate m x
  | 0 => rfl
  | m + 1 => by
    rw [List.replicate_succ, List.flatten_cons, flat_rep x m]
    rfl
theorem rep_of (m : Nat) : repS "o." m = tx (List.replicate m [true, false]).flatten := by
  unfold repS tx
  have e : ("o." : Str).cps.toList = [true, false].map cd := by decide +kernel
  rw [e, List.map_flatten, List.map_replicate]
theorem rep_of_len (m : Nat) : (List.replicate m [true, false]).flatten.length = 2 * m := by
  rw [List.length_flatten, List.map_replicate, List.sum_replicate_nat]
  show m * 2 = 2 * m
  omega
def spDrawn (K : PySem.W.Frag) : Sp := fun vs H Q _ => ∃ (c : Int) (a : Addr) (zs : List Int), vs = [.int c, .ref a] ∧ SqL K H a (zs.map V.int) ∧ (∀ z ∈ zs, SizeOk z) ∧ zs.length ≤ 1000 ∧
  ∀ H' p, Same H H' → H p = none → H' p = some (.lst ((draws c 0 zs).map V.int)) → Q (.ref p) H'
def spCellH (K : PySem.W.Frag) : Sp := fun vs H Q _ => ∃ (a : Addr) (ns : List Int) (k : Nat), vs = [.ref a, .int (k : Int)] ∧ SqL K H a (ns.map V.int) ∧ ∀ c : Int, Q (.int c) H
def spLRow : Sp := fun vs H Q _ => ∃ (c : Int) (M : Nat), vs = [.int c, .int (M : Int)] ∧ 1 ≤ M ∧ M ≤ 30 ∧ ∀ H' bs, Same H H' → 1 ≤ bs.length → bs.length ≤ M → Q (.str (tx bs)) H'
end HopR

set_option Elab.async false
set_option linter.all false
set_option maxRecDepth 100000
namespace Hop
open PySem L2 HopR
abbrev sCellAt : Stmt := top 26
abbrev sDrawn : Stmt := top 27
abbrev sLRow : Stmt := top 28
/-! ### the draws, a cell, a row -/
section
variable {P : Program} {w : World} {K : PySem.W.Frag} {mg : Str → Option Value} {base : Heap}
theorem scDrawn : FnScope ["_law_cell", "_law_sizes", "_law_found", "_law_left", "_law_k", "_law_small", "_law_one", "_law_two"] ["_law_cell", "_law_sizes"] (defScope sDrawn) := ⟨rfl, rfl, rfl, by decide +kernel, rfl, by decide +kernel, by decide +kernel⟩
theorem ok_drawn {f : Addr} {fd : FuncData} {k : Nat} (F : Fun K "_law_drawn" "_law_drawn" sDrawn f fd) (mL : mg "len" = none) (mR : mg "range" = none) : FnOk P w K mg base CX0 (k + 1) f fd ["_law_cell", "_law_sizes"] (spDrawn K) := by
  refine F.ok scDrawn (fun vs H Q E h => ?_) (fun cdv A outer s H vs Q E hr h => ?_)
  · obtain ⟨c, a, zs, rfl, _⟩ := h
    rfl
  · obtain ⟨c, a, zs, rfl, hS, hz, hlen, q⟩ := h
    have nd := scDrawn.nd
    refine ⟨_, pss_cons (ps_set (i := 2) nd rfl (.inl rfl) (pe_lst pa_nil))
      (pss_cons (ps_set (i := 3) nd rfl (.inl rfl) (pv 0))
      (pss_cons (ps_for PassesOwn.never rfl (pi_range1 (by rfl) mR (pa_cons (pe_callB call_len_seq (by rfl) mL PySem.boot_len (pa_cons (pv 1) pa_nil)) pa_nil)) (pg_name (i := 4) nd rfl (.inl rfl))
        (pss_one (ps_if (pt_cmpR op_ge (pv 3) (pe_op op_pow pe_int pe_int) (nomark _))
          (pss_cons (ps_expr (pe_bm PySem.F.plainAttrs_list PySem.F.slot_list_append PySem.F.type_list_append mt_append (pv 2) (pa_cons (pe_op op_mod (pv 3) (pe_ix ix_list (pv 1) (pv 4) (fun _ _ => rfl))) pa_nil)))
            (pss_one (ps_set (i := 3) nd rfl (.inl rfl) (pe_op op_fdivW (pv 3) (pe_ix ix_list (pv 1) (pv 4) (fun _ _ => rfl))))))
          (pss_cons (ps_set (i := 5) nd rfl (.inl rfl) (pe_op op_mod (pv 3) (pe_op op_pow pe_int pe_int)))
          (pss_cons (ps_set (i := 6) nd rfl (.inl rfl) (pe_op op_mod (pe_op op_mul (pe_op op_add (pe_op op_add (pv 5) (pe_op op_mul pe_int (pv 4))) pe_int) (pe_op op_add pe_int (pe_op op_mul (pe_op op_mul pe_int (pv 4)) (pv 4)))) pe_int))
          (pss_cons (ps_set (i := 7) nd rfl (.inl rfl) (pe_op op_mod (pe_op op_mul (pe_op op_add (pe_op op_add (pe_op op_fdiv (pv 5) pe_int) (pe_op op_mul pe_int (pv 4))) pe_int) (pe_op op_add pe_int (pe_op op_mul pe_int (pv 4)))) pe_int))
          (pss_one (ps_expr (pe_bm PySem.F.plainAttrs_list PySem.F.slot_list_append PySem.F.type_list_append mt_append (pv 2) (pa_cons (pe_op op_mod (pe_op op_add (pe_op op_mul (pv 6) (pv 7)) (pe_op op_fdiv (pv 6) pe_int)) (pe_ix ix_list (pv 1) (pv 4) (fun _ _ => rfl))) pa_nil))))))))))
      (pss_one (ps_ret (pv 2))))), ?_⟩
    -- found = []; left = cell
    refine ⟨Nat.zero_le _, fun o no => ?_⟩
    have s1 : Same H (upd H o (.lst [])) := same_upd no
    refine ⟨.int c, rfl, .ref a, rfl, a, zs.map V.int, rfl, .inl (s1.seq hS), ((zs.map V.int).length : Int), rfl, by omega, (by rw [List.length_map]; omega), ?_⟩
    refine for_range (lo := 0) (n := zs.length) (fun i σ H3 => ∃ (l : Int) (y4 y5 y6 y7 : Option V) (ds : List Int), σ = [some (.int c), some (.ref a), some (.ref o), some (.int l), y4, y5, y6, y7] ∧
        Same H H3 ∧ H3 o = some (.lst (ds.map V.int)) ∧ ds.length = i ∧ ds ++ draws l i (zs.drop i) = draws c 0 zs)
      ⟨c, none, none, none, none, [], rfl, s1, upd_same, rfl, by simp⟩ ?_ ?_ |> (fun h => by rw [List.length_map]; exact h)
    · rintro i σ H3 hi ⟨l, y4, y5, y6, y7, ds, rfl, sm, eo, el, ed⟩
      have hA : SqL K H3 a (zs.map V.int) := sm.seq hS
      have hz1 := hz zs[i] (List.getElem_mem hi)
      have gz : zs[i]? = some zs[i] := List.getElem?_eq_getElem hi
      have g : atI (zs.map V.int) (i : Int) = some (.int zs[i]) := atI_nat (by rw [List.getElem?_map, gz]; rfl)
      have hd : zs.drop i = zs[i] :: zs.drop (i + 1) := List.drop_eq_getElem_cons hi
      rw [hd] at ed
      have ed' : (ds ++ [dval l i zs[i]]) ++ draws (dleft l zs[i]) (i + 1) (zs.drop (i + 1)) = draws c 0 zs := by
        rw [List.append_assoc]
        exact ed
      have small : (ds.map V.int).length < sizeLine := by
        rw [List.length_map]
        exact small1000 (by omega)
      rw [Int.zero_add]
      refine ⟨.int l, rfl, 10, 18, rfl, rfl, ⟨by decide, by decide, by decide⟩, l, 10 ^ 18, rfl, rfl, _, rfl, ite2 (fun e => ?_) (fun e => ?_)⟩
      · have e : (1000000000000000000 : Int) ≤ l := of_decide_eq_true e
        refine ⟨.ref o, rfl, .inl ⟨rfl, _, SqL.of eo⟩, .int l, rfl, .ref a, rfl, .int (i : Int), rfl, a, _, _, _, rfl, rfl, hA, g, l, zs[i], rfl, rfl, hz1.1, o, _, _, rfl, rfl, eo, small, ?_⟩
        have e1 : dval l i zs[i] = l % zs[i] := by
          unfold dval
          rw [if_pos e]
        have e2 : dleft l zs[i] = l / zs[i] := by
          unfold dleft
          rw [if_pos e]
        have sm2 : Same H (upd H3 o (.lst (ds.map V.int ++ [.int (l % zs[i])]))) := same_new no sm
        refine ⟨.int l, rfl, .ref a, rfl, .int (i : Int), rfl, a, _, _, _, rfl, rfl, sm2.seq hS, g, l, zs[i], rfl, rfl, wide_div hz1.1 (b := 64) (by have := hz1.2; have := hz1.1; omega) (by decide) (by decide), ?_⟩
        refine ⟨_, _, _, _, _, ds ++ [dval l i zs[i]], rfl, sm2, ?_, ?_, ?_⟩
        · rw [upd_same, e1, List.map_append]
          rfl
        · rw [List.length_append, el]
          rfl
        · rw [← e2]
          exact ed'
      · have e : ¬ (1000000000000000000 : Int) ≤ l := fun z => e (decide_eq_true z)
        have e2 : dleft l zs[i] = l := by
          unfold dleft
          rw [if_neg e]
        have hi1000 : (i : Int) < 1000 := by omega
        have s0 : 0 ≤ l % 1000000000000000000 := Int.emod_nonneg _ (by decide)
        have s9 : l % 1000000000000000000 < 1000000000000000000 := Int.emod_lt_of_pos _ (by decide)
        refine ⟨.int l, rfl, 10, 18, rfl, rfl, ⟨by decide, by decide, by decide⟩, l, 10 ^ 18, rfl, rfl, (show (0 : Int) < 10 ^ 18 by decide), ?_⟩
        refine ⟨_, rfl, .int (i : Int), rfl, 7, i, rfl, rfl, .inl ⟨by decide, by decide⟩, _, _, rfl, rfl, _, _, rfl, rfl, .int (i : Int), rfl, 2, i, rfl, rfl, .inl ⟨by decide, by decide⟩, .int (i : Int), rfl, _, _, rfl, rfl, .inl ⟨by omega, by omega⟩, _, _, rfl, rfl, _, _, rfl, rfl,
          .inl ⟨by show -(2 ^ 64) < l % 1000000000000000000 + 7 * (i : Int) + 1; omega, by show l % 1000000000000000000 + 7 * (i : Int) + 1 < 2 ^ 64; omega⟩, _, _, rfl, rfl, (show (0 : Int) < 2147483647 by decide), ?_⟩
        refine ⟨_, rfl, _, _, rfl, rfl, ⟨by decide, by decide⟩, .int (i : Int), rfl, 11, i, rfl, rfl, .inl ⟨by decide, by decide⟩, _, _, rfl, rfl, _, _, rfl, rfl, .int (i : Int), rfl, 6, i, rfl, rfl, .inl ⟨by decide, by decide⟩, _, _, rfl, rfl, _, _, rfl, rfl,
          .inl ⟨by show -(2 ^ 64) < l % 1000000000000000000 / 3 + 11 * (i : Int) + 5; omega, by show l % 1000000000000000000 / 3 + 11 * (i : Int) + 5 < 2 ^ 64; omega⟩, _, _, rfl, rfl, (show (0 : Int) < 2147483629 by decide), ?_⟩
        have o0 := Int.emod_nonneg ((l % 1000000000000000000 + 7 * (i : Int) + 1) * (48271 + 2 * (i : Int) * (i : Int))) (show (2147483647 : Int) ≠ 0 by decide)
        have o9 := Int.emod_lt_of_pos ((l % 1000000000000000000 + 7 * (i : Int) + 1) * (48271 + 2 * (i : Int) * (i : Int))) (show (0 : Int) < 2147483647 by decide)
        refine ⟨.ref o, rfl, .inl ⟨rfl, _, SqL.of eo⟩, _, rfl, _, rfl, _, _, rfl, rfl, .inl ⟨Int.lt_of_lt_of_le (by decide) o0, Int.lt_trans o9 (by decide)⟩, _, rfl, _, _, rfl, rfl, ⟨by decide, by decide⟩, _, _, rfl, rfl, .ref a, rfl, .int (i : Int), rfl, a, _, _, _, rfl, rfl, hA, g, _, zs[i], rfl, rfl, hz1.1, o, _, _, rfl, rfl, eo, small, ?_⟩
        have e1 : dval l i zs[i] = ((l % 1000000000000000000 + 7 * (i : Int) + 1) * (48271 + 2 * (i : Int) * (i : Int)) % 2147483647 * ((l % 1000000000000000000 / 3 + 11 * (i : Int) + 5) * (39373 + 6 * (i : Int)) % 2147483629) + (l % 1000000000000000000 + 7 * (i : Int) + 1) * (48271 + 2 * (i : Int) * (i : Int)) % 2147483647 / 64) % zs[i] := by
          unfold dval
          rw [if_neg e]
        refine ⟨_, _, _, _, _, ds ++ [dval l i zs[i]], rfl, same_new no sm, ?_, ?_, ?_⟩
        · rw [upd_same, e1, List.map_append]
          rfl
        · rw [List.length_append, el]
          rfl
        · rw [e2] at ed'
          exact ed'
    · rintro σ H3 ⟨l, y4, y5, y6, y7, ds, rfl, sm, eo, el, ed⟩
      rw [List.drop_length] at ed
      have ed : ds = draws c 0 zs := by
        rw [← ed]
        show ds = ds ++ []
        rw [List.append_nil]
      subst ed
      exact ⟨.ref o, rfl, q H3 o sm no eo⟩

/-! ### _law_cell_at -/
theorem scCell : FnScope ["_law_script", "_law_k"] ["_law_script", "_law_k"] (defScope sCellAt) := ⟨rfl, rfl, rfl, by decide +kernel, rfl, by decide +kernel, by decide +kernel⟩
theorem ok_cell {f : Addr} {fd : FuncData} {k : Nat} (F : Fun K "_law_cell_at" "_law_cell_at" sCellAt f fd) (mL : mg "len" = none) : FnOk P w K mg base CX0 (k + 1) f fd ["_law_script", "_law_k"] (spCellH K) := by
  refine F.ok scCell (fun vs H Q E h => ?_) (fun cdv A outer s H vs Q E hr h => ?_)
  · obtain ⟨a, ns, k, rfl, _⟩ := h
    rfl
  · obtain ⟨a, ns, k, rfl, hS, q⟩ := h
    refine ⟨_, pss_cons (ps_if (pt_cmpR op_lt (pv 1) (pe_callB call_len_seq (by rfl) mL PySem.boot_len (pa_cons (pv 0) pa_nil)) (nomark _)) (pss_one (ps_ret (pe_ix ix_list (pv 0) (pv 1) (fun _ _ => rfl)))) pss_nil) (pss_one (ps_ret pe_int)), ?_⟩
    refine ⟨_, rfl, .ref a, rfl, a, _, rfl, .inl hS, _, _, rfl, rfl, _, rfl, ite2 (fun e => ?_) (fun e => ?_)⟩
    · have e : (k : Int) < ((ns.map V.int).length : Int) := of_decide_eq_true e
      rw [List.length_map] at e
      have hk : k < ns.length := by omega
      exact ⟨.ref a, rfl, .int (k : Int), rfl, a, _, _, .int ns[k], rfl, rfl, hS, atI_nat (by rw [List.getElem?_map, List.getElem?_eq_getElem hk]; rfl), q _⟩
    · exact q 0
theorem scLRow : FnScope ["_law_cell", "_law_most", "_law_draws", "_law_row_here", "_law_draw"] ["_law_cell", "_law_most"] (defScope sLRow) := ⟨rfl, rfl, rfl, by decide +kernel, rfl, by decide +kernel, by decide +kernel⟩
theorem ok_lrow {f f1 : Addr} {fd fd1 : FuncData} {k : Nat} (F : Fun K "_law_row" "_law_row" sLRow f fd) (N1 : Fn K mg "_law_drawn" sDrawn ["_law_cell", "_law_sizes"] f1 fd1) (mL : mg "len" = none) (mR : mg "range" = none) (mS : mg "sorted" = none) : FnOk P w K mg base CX0 (k + 2) f fd ["_law_cell", "_law_most"] spLRow := by
  have G1 : FnOk P w K mg base CX0 (k + 1) f1 fd1 ["_law_cell", "_law_sizes"] (spDrawn K) := ok_drawn N1.F mL mR
  refine F.ok scLRow (fun vs H Q E h => ?_) (fun cdv A outer s H vs Q E hr h => ?_)
  · obtain ⟨c, M, rfl, _⟩ := h
    rfl
  · obtain ⟨c, M, rfl, hM1, hM, q⟩ := h
    have nd := scLRow.nd
    refine ⟨_, pss_cons (ps_set (i := 2) nd rfl (.inl rfl) (pe_call G1 hr (by rfl) N1.g N1.F.kp N1.b .nil pass0 (pa_cons (pv 0) (pa_cons (pe_op op_cat (pe_lst (pa_cons pe_int (pa_cons (pv 1) pa_nil))) (pe_op op_rep (pe_lst (pa_cons pe_int pa_nil)) (pv 1))) pa_nil))))
      (pss_cons (ps_set (i := 3) nd rfl (.inl rfl) (pe_join pe_str (pe_lc (own := [("_law_draw", 4)]) (g := gName 4) (tt := tYes) rfl nd (pi_list (pe_slice sl_list (pv 2) (po_some pe_int) (po_some (pe_op op_add pe_int (pe_ix ix_list (pv 2) pe_int (fun _ _ => rfl))))))
        (blkOk_by (own := [("_law_draw", 4)]) (N := ["_law_cell", "_law_most", "_law_draws", "_law_row_here", "_law_draw"]) (sc := defScope sLRow) (by decide +kernel))
        (fun _ _ _ _ _ => pg_name (i := 4) nd rfl (Or.inl rfl)) (fun _ _ _ _ _ => pts_nil) (fun _ _ _ _ _ => pe_ix ix_str pe_str (pv 4) (fun _ _ => rfl)))))
      (pss_cons (ps_if (pt_cmpR op_eq (pe_ix ix_list (pv 2) pe_int (fun _ _ => rfl)) pe_int (nomark _)) (pss_one (ps_ret (pe_join pe_str (pe_revL (pe_callB (cr_sortT rfl) (by rfl) mS (by decide +kernel) (pa_cons (pv 3) pa_nil)))))) pss_nil)
      (pss_cons (ps_if (pt_cmpR op_eq (pe_ix ix_list (pv 2) pe_int (fun _ _ => rfl)) pe_int (nomark _)) (pss_one (ps_ret (pe_slice sl_str (pe_op op_repS pe_str (pv 1)) po_none (po_some (pe_callB call_len_str (by rfl) mL PySem.boot_len (pa_cons (pv 3) pa_nil)))))) pss_nil)
      (pss_one (ps_ret (pv 3)))))), ?_⟩
    -- the sizes
    refine ⟨.int c, rfl, .int (M : Int), rfl, (by show 2 ≤ sizeLine; decide), fun l1 n1 => ⟨(by show 1 ≤ sizeLine; decide), fun l2 n2 => ?_⟩⟩
    refine ⟨.int (M : Int), rfl, l2, (M : Int), [.int 2], rfl, rfl, upd_same, by omega, by omega, (by rw [Int.toNat_natCast]; exact fit (by show 1 * M ≤ 10000; omega)), fun l3 n3 => ?_⟩
    rw [Int.toNat_natCast, flat_rep]
    have m2 := (same_upd n1).free n2
    have nl12 : l1 ≠ l2 := fun e => by
      rw [← e, upd_same] at n2
      cases n2
    have s2 : Same H (upd (upd H l1 (.lst [.int 6, .int (M : Int)])) l2 (.lst [.int 2])) := same_new m2 (same_upd n1)
    have m3 := s2.free n3
    have nl13 : l1 ≠ l3 := fun e => by
      rw [← e, upd_ne nl12, upd_same] at n3
      cases n3
    refine ⟨l1, l3, [.int 6, .int (M : Int)], _, rfl, rfl, ?_, upd_same, (by rw [List.length_replicate]; exact fit (by show 2 + M ≤ 10000; omega)), fun l4 n4 => ?_⟩
    · rw [upd_ne nl13, upd_ne nl12, upd_same]
    have s3 := same_new (o := .lst (List.replicate M (V.int 2))) m3 s2
    have m4 := s3.free n4
    have hsz : [V.int 6, .int (M : Int)] ++ List.replicate M (V.int 2) = ([6, (M : Int)] ++ List.replicate M 2).map V.int := by
      rw [List.map_append, List.map_replicate]
      rfl
    rw [hsz]
    have hsl : ([6, (M : Int)] ++ List.replicate M 2).length = M + 2 := by
      rw [List.length_append, List.length_replicate]
      show 2 + M = M + 2
      omega
    refine ⟨c, l4, [6, (M : Int)] ++ List.replicate M 2, rfl, SqL.of upd_same, ?_, by rw [hsl]; omega, fun H1 p s4 np ep => ?_⟩
    · intro z hz
      rcases List.mem_append.mp hz with h | h
      · rcases List.mem_cons.mp h with rfl | h
        · exact ⟨by decide, by decide⟩
        · rcases List.mem_cons.mp h with rfl | h
          · exact ⟨by omega, by omega⟩
          · cases h
      · rw [(List.mem_replicate.mp h).2]
        exact ⟨by decide, by decide⟩
    have sH1 : Same H H1 := (same_new m4 s3).trans s4
    generalize hds : draws c 0 ([6, (M : Int)] ++ List.replicate M 2) = ds at ep
    have hpos : ∀ z ∈ ([6, (M : Int)] ++ List.replicate M 2 : List Int), 0 < z := by
      intro z hz
      rcases List.mem_append.mp hz with h | h
      · rcases List.mem_cons.mp h with rfl | h
        · decide
        · obtain rfl := List.mem_singleton.mp h
          omega
      · rw [(List.mem_replicate.mp h).2]
        decide
    have hlen : ds.length = M + 2 := by
      rw [← hds, draws_len, hsl]
    have hok : ∀ (i : Nat) (x z : Int), ds[i]? = some x → ([6, (M : Int)] ++ List.replicate M 2 : List Int)[i]? = some z → 0 ≤ x ∧ x < z := by
      rw [← hds]
      exact draws_ok _ c 0 hpos
    obtain ⟨d0, e0⟩ : ∃ x, ds[0]? = some x := ⟨ds[0], List.getElem?_eq_getElem (by omega)⟩
    obtain ⟨d1, e1⟩ : ∃ x, ds[1]? = some x := ⟨ds[1], List.getElem?_eq_getElem (by omega)⟩
    have b1 := hok 1 d1 (M : Int) e1 rfl
    obtain ⟨m, rfl⟩ : ∃ m : Nat, d1 = (m : Int) := ⟨d1.toNat, by omega⟩
    have hcs : ∀ x ∈ (ds.drop 2).take (m + 1), 0 ≤ x ∧ x < 2 := fun x hx => by
      obtain ⟨j, hj⟩ := List.getElem?_of_mem (List.mem_of_mem_take hx)
      rw [List.getElem?_drop] at hj
      have hj2 : 2 + j < ds.length := (List.getElem?_eq_some_iff.mp hj).1
      refine hok (2 + j) x 2 hj ?_
      rw [List.getElem?_append_right (by show 2 ≤ 2 + j; omega), List.getElem?_replicate]
      show (if 2 + j - 2 < M then some (2 : Int) else none) = some 2
      rw [if_pos (by omega)]
    have hcl : ((ds.drop 2).take (m + 1)).length = m + 1 := by
      rw [List.length_take, List.length_drop, hlen]
      omega
    generalize hcd : (ds.drop 2).take (m + 1) = cs at hcs hcl
    have ecut : cutV (ds.map V.int) (some 2) (some (3 + (m : Int))) = cs.map V.int := by
      unfold cutV
      rw [show (some (2 : Int)) = some ((2 : Nat) : Int) from rfl, show (3 + (m : Int)) = ((3 + m : Nat) : Int) by omega, HT.sIx_nat, HT.sIx_nat, List.length_map, hlen, ← hcd, List.map_take, List.map_drop]
      have i1 : min 2 (M + 2) = 2 := by omega
      have i2 : min (3 + m) (M + 2) - 2 = m + 1 := by omega
      rw [i1, i2]
    have g1 : atI (ds.map V.int) 1 = some (.int (m : Int)) := atI_nat (j := 1) (by rw [List.getElem?_map, e1]; rfl)
    have g0 : atI (ds.map V.int) 0 = some (.int d0) := atI_nat (j := 0) (by rw [List.getElem?_map, e0]; rfl)
    have hbl : (bits cs).length = m + 1 := by
      unfold bits
      rw [List.length_map, hcl]
    have hRow : Row (bits cs) := by
      unfold Row
      rw [hbl]
      omega
    refine ⟨⟨_, rfl⟩, .ref p, rfl, 2, rfl, .ref p, rfl, p, _, 1, .int (m : Int), rfl, rfl, SqL.of ep, g1, 3, (m : Int), rfl, rfl, _, rfl, p, _, rfl, SqL.of ep, fun q1 nq1 => ?_⟩
    rw [ecut]
    have sq1 : Same H (upd H1 q1 (.lst (cs.map V.int))) := same_new (sH1.free nq1) sH1
    have npq : p ≠ q1 := ne_of_none ep nq1
    refine ⟨q1, rfl, ⟨_, SqL.of upd_same⟩, fun D hD => ?_⟩
    have nDq : q1 ≠ D := fun e => by
      rw [← e, upd_same] at hD
      cases hD
    have nDp : p ≠ D := fun e => by
      rw [← e, upd_ne npq, ep] at hD
      cases hD
    have hDH := sq1.free hD
    refine lc_list (K := K) (a := q1) (xs := cs.map V.int) (fun i H3 => Same H H3 ∧ H3 q1 = some (.lst (cs.map V.int)) ∧ H3 p = some (.lst (ds.map V.int)) ∧ H3 D = some (.lst (((bits (cs.take i)).map fun b => tx [b]).map V.str)))
      ⟨same_new hDH sq1, by rw [upd_ne nDq, upd_same], by rw [upd_ne nDp, upd_ne npq]; exact ep, upd_same⟩ (fun i H3 _ h => SqL.of h.2.1) ?_ ?_
    · rintro i x H3 hx ⟨sm, eq1, epp, eD⟩
      rw [List.getElem?_map] at hx
      obtain ⟨u, hu, rfl⟩ := Option.map_eq_some_iff.mp hx
      have hb := hcs u (List.mem_of_getElem? hu)
      refine ⟨rfl, .int u, rfl, ".o", u, _, rfl, rfl, (by decide), dot_o u hb.1 hb.2, _, eD, ?_, same_new hDH sm, ?_, ?_, ?_⟩
      · rw [List.length_map, List.length_map]
        unfold bits
        rw [List.length_map]
        exact small1000 (Nat.le_trans (List.length_take_le _ _) (by have := (List.getElem?_eq_some_iff.mp hu).1; omega))
      · rw [upd_ne nDq]
        exact eq1
      · rw [upd_ne nDp]
        exact epp
      · unfold bits
        rw [upd_same, List.take_add_one, hu, List.map_append, List.map_append, List.map_append]
        rfl
    · rintro H3 ⟨sm, eq1, epp, eD⟩
      rw [List.length_map, List.take_length] at eD
      refine ⟨"", D, _, rfl, rfl, .inl (SqL.of eD), join_fits (by have := hRow.2; omega), ?_⟩
      rw [join_tx]
      -- which kind
      refine ⟨.ref p, rfl, p, _, 0, _, rfl, rfl, SqL.of epp, g0, rfl, _, rfl, ite2 (fun _ => ?_) (fun _ => ?_)⟩
      · have h64 : (tx (bits cs)).length < 64 := by
          rw [tx_len]
          have := hRow.2
          omega
        refine ⟨⟨_, rfl⟩, .str (tx (bits cs)), rfl, tx (bits cs), rfl, h64, fun ys p1 hperm _ np1 => ⟨p1, _, rfl, SqL.of upd_same, fun p2 np2 => ?_⟩⟩
        rw [← List.map_reverse]
        obtain ⟨bs2, e2⟩ := signs_rows ys.reverse fun y hy => by
          have h1 := hperm.mem_iff.mp (List.mem_reverse.mp hy)
          rw [tx_sg] at h1
          obtain ⟨b, _, e⟩ := List.mem_map.mp h1
          exact ⟨b, e.symm⟩
        have hl2 : bs2.length = (bits cs).length := by
          have := congrArg List.length e2
          rw [List.length_reverse, hperm.length_eq, sg_len, tx_len, List.length_map] at this
          exact this.symm
        rw [e2]
        have hR2 : Row bs2 := by
          unfold Row
          rw [hl2]
          exact hRow
        refine ⟨"", p2, _, rfl, rfl, .inl (SqL.of upd_same), join_fits (by have := hR2.2; omega), ?_⟩
        rw [join_tx]
        have sp1 := same_new (o := .lst (ys.map V.str)) (sm.free np1) sm
        exact q _ _ (same_new (sp1.free np2) sp1) hR2.1 (by rw [hl2, hbl]; omega)
      · refine ⟨.ref p, rfl, p, _, 0, _, rfl, rfl, SqL.of epp, g0, rfl, _, rfl, ite2 (fun _ => ?_) (fun _ => ?_)⟩
        · have hrl := rep_of_len M
          refine ⟨.int (M : Int), rfl, "o.", M, rfl, rfl, (by rw [show ("o." : Str).length = 2 by decide +kernel]; omega), by omega, .str (tx (bits cs)), rfl, tx (bits cs), rfl, row_size hRow, _, rfl, _, rfl, ?_, ?_⟩
          · rw [rep_of]
            exact tx_fit (by omega)
          · rw [rep_of, cut_to, tx_len]
            refine q _ _ sm ?_ ?_
            · rw [List.length_take]
              omega
            · rw [List.length_take]
              omega
        · exact ⟨_, rfl, q _ _ sm hRow.1 (by omega)⟩
end
end Hop

set_option Elab.async false
set_option linter.all false
set_option maxRecDepth 100000
namespace HopR
open PySem PySem.Spec PyProof.Rows L2
/-! ### numbers: // by any number but 0 -/
def CDivWN (_ j : Int) : Prop := j ≠ 0 ∧ j.natAbs.log2 < 9000
theorem op_fdivWN {X : Cx} : OpR X (binaryOp .FloorDiv) (rI CDivWN fun i j => .int (i.fdiv j)) := opI fun i j _ _ _ _ _ hc q => floordiv_int hc.1 q (.inl (PyProof.noPylong_of_log2 hc.2))
theorem gcd_fmod (a b : Int) : Int.gcd b (a.fmod b) = Int.gcd a b := by
  rw [Int.fmod_def, Int.mul_comm, Int.gcd_sub_mul_right_right, Int.gcd_comm]
theorem fmod_less (a : Int) {b : Int} (h : b ≠ 0) : (a.fmod b).natAbs < b.natAbs := by
  have h1 := Int.emod_nonneg a h
  have h2 := Int.emod_lt a h
  rw [Int.fmod_eq_emod]
  by_cases h3 : 0 ≤ b ∨ b ∣ a
  · rw [if_pos h3]
    omega
  · rw [if_neg h3]
    have h4 : a % b ≠ 0 := fun e => h3 (.inr (Int.dvd_of_emod_eq_zero e))
    have h5 : b < 0 := by
      refine Int.not_le.mp fun e => h3 (.inl e)
    omega
/-! ### fractions -/
theorem low_num {t b : Int} (h : b ≠ 0) : (t.fdiv (if b < 0 then -(Int.gcd t b : Int) else (Int.gcd t b : Int))) = (Rat.divInt t b).num := by
  have hd : ((Int.gcd t b : Nat) : Int) ∣ t := Int.gcd_dvd_left ..
  rw [Rat.num_divInt, Int.gcd_comm b t]
  by_cases hb : b < 0
  · rw [if_pos hb, Int.fdiv_eq_ediv_of_dvd (by rw [Int.neg_dvd]; exact hd), Int.ediv_neg, Int.sign_eq_neg_one_of_neg hb, Int.neg_one_mul, Int.neg_ediv_of_dvd hd]
  · have hb2 : 0 < b := by omega
    rw [if_neg hb, Int.fdiv_eq_ediv_of_dvd hd, Int.sign_eq_one_of_pos hb2, Int.one_mul]
theorem low_den {t b : Int} (h : b ≠ 0) : (b.fdiv (if b < 0 then -(Int.gcd t b : Int) else (Int.gcd t b : Int))) = ((Rat.divInt t b).den : Int) := by
  have hd : ((Int.gcd t b : Nat) : Int) ∣ b := Int.gcd_dvd_right ..
  rw [Rat.den_divInt, if_neg h, Int.gcd_comm b t]
  rw [Int.natCast_ediv]
  by_cases hb : b < 0
  · rw [if_pos hb, Int.fdiv_eq_ediv_of_dvd (by rw [Int.neg_dvd]; exact hd), Int.ediv_neg, Int.ofNat_natAbs_of_nonpos (by omega), Int.neg_ediv_of_dvd hd]
  · rw [if_neg hb, Int.fdiv_eq_ediv_of_dvd hd, Int.natAbs_of_nonneg (by omega)]
theorem gcd_pos {t b : Int} (h : b ≠ 0) : 0 < Int.gcd t b := Int.gcd_pos_of_ne_zero_right _ h
/-- both numbers of the fraction are below 2 ^ n -/
def Sz (n : Nat) (q : Rat) : Prop := q.num.natAbs < 2 ^ n ∧ q.den < 2 ^ n
theorem Sz.mono {n m : Nat} {q : Rat} (h : Sz n q) (hm : n ≤ m) : Sz m q := ⟨Nat.lt_of_lt_of_le h.1 (Nat.pow_le_pow_right (by decide) hm), Nat.lt_of_lt_of_le h.2 (Nat.pow_le_pow_right (by decide) hm)⟩
theorem sz_divInt {t b : Int} {n : Nat} (h : b ≠ 0) (ht : t.natAbs < 2 ^ n) (hb : b.natAbs < 2 ^ n) : Sz n (Rat.divInt t b) := by
  have g := gcd_pos (t := t) h
  constructor
  · rw [Rat.num_divInt]
    refine Nat.lt_of_le_of_lt (Int.natAbs_ediv_le_natAbs _ _) ?_
    rw [Int.natAbs_mul]
    rcases Int.lt_or_gt_of_ne h with h | h
    · rw [Int.sign_eq_neg_one_of_neg h]; simpa using ht
    · rw [Int.sign_eq_one_of_pos h]; simpa using ht
  · rw [Rat.den_divInt, if_neg h]
    exact Nat.lt_of_le_of_lt (Nat.div_le_self _ _) hb
theorem den_ne (q : Rat) : ((q.den : Nat) : Int) ≠ 0 := by
  have := q.den_nz
  omega
theorem pos_two (n : Nat) : 0 < 2 ^ n := Nat.pow_pos (by decide)
theorem two_lt {a b : Nat} {n : Nat} (ha : a < 2 ^ n) (hb : b < 2 ^ n) : a + b < 2 ^ (n + 1) := by
  rw [Nat.pow_succ]
  omega
theorem add_eq (q r : Rat) : q + r = Rat.divInt (q.num * r.den + r.num * q.den) ((q.den : Int) * (r.den : Int)) := by
  conv => lhs; rw [← Rat.num_divInt_den q, ← Rat.num_divInt_den r]
  exact Rat.divInt_add_divInt _ _ (den_ne q) (den_ne r)
theorem sub_eq (q r : Rat) : q - r = Rat.divInt (q.num * r.den - r.num * q.den) ((q.den : Int) * (r.den : Int)) := by
  conv => lhs; rw [← Rat.num_divInt_den q, ← Rat.num_divInt_den r]
  exact Rat.divInt_sub_divInt _ _ (den_ne q) (den_ne r)
theorem mul_eq (q r : Rat) : q * r = Rat.divInt (q.num * r.num) ((q.den : Int) * (r.den : Int)) := by
  conv => lhs; rw [← Rat.num_divInt_den q, ← Rat.num_divInt_den r]
  exact Rat.divInt_mul_divInt _ _
theorem div_eq (q r : Rat) : q / r = Rat.divInt (q.num * r.den) ((q.den : Int) * r.num) := by
  rw [Rat.div_def]
  conv => lhs; rw [← Rat.num_divInt_den q, ← Rat.num_divInt_den r]
  rw [Rat.inv_divInt]
  exact Rat.divInt_mul_divInt _ _
end HopR

set_option Elab.async false
set_option linter.all false
set_option maxRecDepth 100000
namespace HopR
open PySem PySem.Spec PyProof.Rows L2
/-! ### products, divided out crosswise -/
theorem mul_num (q r : Rat) : (q.num.fdiv (Int.gcd q.num (r.den : Int) : Int)) * (r.num.fdiv (Int.gcd r.num (q.den : Int) : Int)) = (q * r).num := by
  have h1 : ((Int.gcd q.num (r.den : Int) : Nat) : Int) ∣ q.num := Int.gcd_dvd_left ..
  have h2 : ((Int.gcd r.num (q.den : Int) : Nat) : Int) ∣ r.num := Int.gcd_dvd_left ..
  rw [Int.fdiv_eq_ediv_of_dvd h1, Int.fdiv_eq_ediv_of_dvd h2]
  show _ = (Rat.mul q r).num
  unfold Rat.mul
  rfl
theorem mul_den (q r : Rat) : ((q.den : Int).fdiv (Int.gcd r.num (q.den : Int) : Int)) * ((r.den : Int).fdiv (Int.gcd q.num (r.den : Int) : Int)) = ((q * r).den : Int) := by
  have h1 : ((Int.gcd q.num (r.den : Int) : Nat) : Int) ∣ (r.den : Int) := Int.gcd_dvd_right ..
  have h2 : ((Int.gcd r.num (q.den : Int) : Nat) : Int) ∣ (q.den : Int) := Int.gcd_dvd_right ..
  rw [Int.fdiv_eq_ediv_of_dvd h1, Int.fdiv_eq_ediv_of_dvd h2]
  show _ = ((Rat.mul q r).den : Int)
  unfold Rat.mul
  rfl
end HopR

set_option Elab.async false
set_option linter.all false
set_option maxRecDepth 100000
namespace HopR
open PySem L2
/-! ### fractions above nought -/
theorem num_pos {q : Rat} (h : 0 < q) : 0 < q.num := by
  have h1 : 0 ≤ q.num := Rat.num_nonneg.mpr (by grind)
  have h2 : q.num ≠ 0 := fun e => by
    have : q = 0 := Rat.num_eq_zero.mp e
    rw [this] at h
    exact absurd h (by decide)
  omega
theorem pos_num {q : Rat} (h : 0 < q.num) : 0 < q := by
  have h1 : 0 ≤ q := Rat.num_nonneg.mp (by omega)
  have h2 : q ≠ 0 := fun e => by
    rw [e] at h
    exact absurd h (by decide)
  grind
theorem add_above {x y : Rat} (h : 0 ≤ y) (h2 : 0 < x) : 0 < y + x := by grind
theorem le_above {x : Rat} (h : 0 < x) : 0 ≤ x := by grind
theorem div_ne {q r : Rat} (h : 0 < q) (h2 : 0 < r) : q / r ≠ 0 := by
  rw [Rat.div_def]
  intro e
  rcases Rat.mul_eq_zero.mp e with e | e
  · rw [e] at h
    exact absurd h (by decide)
  · have h3 : r = 0 := by rw [← Rat.inv_inv r, e, Rat.inv_zero]
    rw [h3] at h2
    exact absurd h2 (by decide)
theorem ne_above {x : Rat} (h : 0 < x) : x ≠ 0 := fun e => by
  rw [e] at h
  exact absurd h (by decide)
theorem nat_low (n : Nat) : (0 : Rat) ≤ ((n : Int) : Rat) := by exact_mod_cast Nat.zero_le n
theorem nat_above {n : Nat} (h : 0 < n) : (0 : Rat) < ((n : Int) : Rat) := by exact_mod_cast h
theorem rat_int (t : Int) : Rat.divInt t 1 = (t : Rat) := by
  rw [Rat.divInt_eq_div]
  show (t : Rat) / ((1 : Int) : Rat) = (t : Rat)
  rw [Rat.div_def]
  have e : ((1 : Int) : Rat)⁻¹ = 1 := by decide +kernel
  rw [e, Rat.mul_one]
theorem sz_int {n k : Nat} (h : n < 2 ^ k) (hk : 1 ≤ k) : Sz k ((n : Int) : Rat) := by
  refine ⟨h, ?_⟩
  show 1 < 2 ^ k
  exact Nat.one_lt_two_pow (by omega)
theorem sz_add {n m : Nat} {q r : Rat} (h1 : Sz n q) (h2 : Sz m r) : Sz (n + m + 1) (q + r) := by
  rw [add_eq]
  have b1 : (q.num * r.den).natAbs < 2 ^ (n + m) := by
    rw [Int.natAbs_mul, Nat.pow_add]
    exact Nat.mul_lt_mul'' h1.1 h2.2
  have b2 : (r.num * q.den).natAbs < 2 ^ (n + m) := by
    rw [Int.natAbs_mul, Nat.add_comm, Nat.pow_add]
    exact Nat.mul_lt_mul'' h2.1 h1.2
  refine sz_divInt (Int.mul_ne_zero (den_ne q) (den_ne r)) ?_ ?_
  · exact Nat.lt_of_le_of_lt (Int.natAbs_add_le _ _) (two_lt b1 b2)
  · rw [Int.natAbs_mul]
    have h3 : q.den * r.den < 2 ^ (n + m) := by
      rw [Nat.pow_add]
      exact Nat.mul_lt_mul'' h1.2 h2.2
    exact Nat.lt_of_lt_of_le h3 (Nat.pow_le_pow_right (by decide) (by omega))
theorem sz_mul {n m : Nat} {q r : Rat} (h1 : Sz n q) (h2 : Sz m r) : Sz (n + m) (q * r) := by
  rw [mul_eq]
  refine sz_divInt (Int.mul_ne_zero (den_ne q) (den_ne r)) ?_ ?_
  · rw [Int.natAbs_mul, Nat.pow_add]
    exact Nat.mul_lt_mul'' h1.1 h2.1
  · rw [Int.natAbs_mul, Nat.pow_add]
    exact Nat.mul_lt_mul'' h1.2 h2.2
theorem sz_inv {n : Nat} {r : Rat} (h : Sz n r) (h0 : r ≠ 0) : Sz n r⁻¹ := by
  rw [Rat.inv_def]
  exact sz_divInt (fun e => h0 (Rat.num_eq_zero.mp e)) h.2 h.1
theorem sz_div {n m : Nat} {q r : Rat} (h1 : Sz n q) (h2 : Sz m r) (h0 : r ≠ 0) : Sz (n + m) (q / r) := by
  rw [Rat.div_def]
  exact sz_mul h1 (sz_inv h2 h0)
/-! ### walls -/
theorem two_in {l : List Nat} {a b : Nat} (ha : a ∈ l) (hb : b ∈ l) (h : a ≠ b) : 2 ≤ l.length := by
  match l, ha, hb with
  | [x], ha, hb =>
    have h1 := List.mem_singleton.mp ha
    have h2 := List.mem_singleton.mp hb
    omega
  | _ :: _ :: _, _, _ => simp
theorem one_in {l : List Nat} {a : Nat} (ha : a ∈ l) : 1 ≤ l.length := by
  match l, ha with
  | _ :: _, _ => simp
end HopR

set_option Elab.async false
set_option linter.all false
set_option maxRecDepth 100000
namespace HopW
/-! ### weights of words -/
/-- a line's numbers, each with g of its place -/
def lp (g : Nat → Rat) : List Nat → Rat
  | [] => 0
  | m :: l => (m : Rat) * g 0 + lp (fun b => g (b + 1)) l
def tp (x : Rat) (g : Nat → Rat) : List (List Nat) → Rat
  | [] => 0
  | l :: t => lp g l + x * tp x g t
def sfx : List Nat → List Nat
  | [] => []
  | m :: l => (m + l.sum) :: sfx l
def go (s : Nat) : List (List Nat) → List (List Nat)
  | [] => [[s]]
  | l :: t => (s :: sfx l.tail) :: go l.sum t
def sg (h : Nat → Rat) : Nat → Rat
  | 0 => 0
  | b + 1 => h 0 + sg (fun j => h (j + 1)) b
def fg (x : Rat) (g : Nat → Rat) : Nat → Rat := fun b => x * g 0 + sg (fun j => g (j + 1)) b
def stT (T : List (List Nat)) (b : Bool) : List (List Nat) := if b then T.map (0 :: ·) else go 0 T
def gf (x : Rat) : List Bool → (Nat → Rat) → (Nat → Rat)
  | [], g => g
  | true :: w, g => fun b => gf x w g (b + 1)
  | false :: w, g => fg x (gf x w g)
theorem cast_add (a b : Nat) : ((a + b : Nat) : Rat) = (a : Rat) + (b : Rat) := by exact_mod_cast rfl
theorem lp_lin (c : Rat) (h : Nat → Rat) : ∀ l : List Nat, lp (fun b => c + h b) l = c * (l.sum : Rat) + lp h l := by
  intro l
  induction l generalizing h with
  | nil => show (0 : Rat) = c * ((0 : Nat) : Rat) + 0; grind
  | cons m l ih =>
    show (m : Rat) * (c + h 0) + lp (fun b => c + h (b + 1)) l = c * ((m :: l).sum : Rat) + ((m : Rat) * h 0 + lp (fun b => h (b + 1)) l)
    rw [ih (fun b => h (b + 1)), List.sum_cons, cast_add]
    grind
theorem lp_sfx (h : Nat → Rat) (m : Nat) : ∀ l : List Nat, lp (sg h) (m :: l) = lp h (sfx l) := by
  intro l
  induction l generalizing h m with
  | nil => show (m : Rat) * 0 + 0 = 0; grind
  | cons m' l ih =>
    show (m : Rat) * 0 + lp (fun b => h 0 + sg (fun j => h (j + 1)) b) (m' :: l) = ((m' + l.sum : Nat) : Rat) * h 0 + lp (fun b => h (b + 1)) (sfx l)
    rw [lp_lin, ih, List.sum_cons]
    grind
theorem lp_fg (x : Rat) (g : Nat → Rat) (l : List Nat) : lp (fg x g) l = x * ((l.sum : Rat) * g 0) + lp (fun b => g (b + 1)) (sfx l.tail) := by
  unfold fg
  rw [lp_lin]
  cases l with
  | nil => show x * g 0 * ((0 : Nat) : Rat) + 0 = x * (((0 : Nat) : Rat) * g 0) + 0; grind
  | cons m l =>
    rw [lp_sfx, List.tail_cons]
    grind
theorem tp_go (x : Rat) (g : Nat → Rat) : ∀ (T : List (List Nat)) (s : Nat), tp x g (go s T) = (s : Rat) * g 0 + tp x (fg x g) T := by
  intro T
  induction T with
  | nil =>
    intro s
    show ((s : Rat) * g 0 + 0) + x * 0 = (s : Rat) * g 0 + 0
    grind
  | cons l t ih =>
    intro s
    show ((s : Rat) * g 0 + lp (fun b => g (b + 1)) (sfx l.tail)) + x * tp x g (go l.sum t) = (s : Rat) * g 0 + (lp (fg x g) l + x * tp x (fg x g) t)
    rw [ih, lp_fg]
    grind
theorem tp_bead (x : Rat) (g : Nat → Rat) : ∀ T : List (List Nat), tp x g (T.map (0 :: ·)) = tp x (fun b => g (b + 1)) T := by
  intro T
  induction T with
  | nil => rfl
  | cons l t ih =>
    show (((0 : Nat) : Rat) * g 0 + lp (fun b => g (b + 1)) l) + x * tp x g (t.map (0 :: ·)) = lp (fun b => g (b + 1)) l + x * tp x (fun b => g (b + 1)) t
    rw [ih]
    grind
theorem tp_st (x : Rat) (g : Nat → Rat) (T : List (List Nat)) (b : Bool) : tp x g (stT T b) = tp x (gf x [b] g) T := by
  cases b with
  | true => exact tp_bead x g T
  | false =>
    show tp x g (go 0 T) = tp x (fg x g) T
    rw [tp_go]
    show ((0 : Nat) : Rat) * g 0 + tp x (fg x g) T = _
    grind
theorem gf_app (x : Rat) (g : Nat → Rat) : ∀ u v : List Bool, gf x (u ++ v) g = gf x u (gf x v g)
  | [], _ => rfl
  | true :: u, v => by
    show (fun b => gf x (u ++ v) g (b + 1)) = fun b => gf x u (gf x v g) (b + 1)
    rw [gf_app x g u v]
  | false :: u, v => by
    show fg x (gf x (u ++ v) g) = fg x (gf x u (gf x v g))
    rw [gf_app x g u v]
theorem tp_fold (x : Rat) (g : Nat → Rat) : ∀ (w : List Bool) (T : List (List Nat)), tp x g (w.foldl stT T) = tp x (gf x w g) T := by
  intro w
  induction w with
  | nil => intro T; rfl
  | cons b w ih =>
    intro T
    show tp x g (w.foldl stT (stT T b)) = _
    rw [ih, tp_st]
    show tp x (gf x [b] (gf x w g)) T = _
    rw [← gf_app]
    rfl
def tbl (w : List Bool) : List (List Nat) := w.foldl stT [[1]]
/-- the weight of a word: x for each free place left, y for each bead -/
def wt (x y : Rat) (w : List Bool) : Rat := gf x w (fun b => y ^ b) 0
theorem wt_tbl (x y : Rat) (w : List Bool) : tp x (fun b => y ^ b) (tbl w) = wt x y w := by
  unfold tbl wt
  rw [tp_fold]
  show (((1 : Nat) : Rat) * gf x w (fun b => y ^ b) 0 + 0) + x * 0 = _
  grind
/-! ### what the weights keep -/
theorem sg_add (h k : Nat → Rat) : ∀ b, sg (fun j => h j + k j) b = sg h b + sg k b := by
  intro b
  induction b generalizing h k with
  | zero => show (0 : Rat) = 0 + 0; grind
  | succ b ih =>
    show h 0 + k 0 + sg (fun j => h (j + 1) + k (j + 1)) b = (h 0 + sg (fun j => h (j + 1)) b) + (k 0 + sg (fun j => k (j + 1)) b)
    rw [ih]
    grind
theorem sg_mul (c : Rat) (h : Nat → Rat) : ∀ b, sg (fun j => c * h j) b = c * sg h b := by
  intro b
  induction b generalizing h with
  | zero => show (0 : Rat) = c * 0; grind
  | succ b ih =>
    show c * h 0 + sg (fun j => c * h (j + 1)) b = c * (h 0 + sg (fun j => h (j + 1)) b)
    rw [ih]
    grind
theorem gf_add (x : Rat) (h k : Nat → Rat) : ∀ (w : List Bool) (b : Nat), gf x w (fun j => h j + k j) b = gf x w h b + gf x w k b := by
  intro w
  induction w with
  | nil => intro b; rfl
  | cons s w ih =>
    intro b
    cases s with
    | true => exact ih (b + 1)
    | false =>
      show x * gf x w (fun j => h j + k j) 0 + sg (fun j => gf x w (fun j => h j + k j) (j + 1)) b = (x * gf x w h 0 + sg (fun j => gf x w h (j + 1)) b) + (x * gf x w k 0 + sg (fun j => gf x w k (j + 1)) b)
      rw [ih 0, show (fun j => gf x w (fun j => h j + k j) (j + 1)) = fun j => gf x w h (j + 1) + gf x w k (j + 1) from funext fun j => ih (j + 1), sg_add]
      grind
theorem gf_mul (x c : Rat) (h : Nat → Rat) : ∀ (w : List Bool) (b : Nat), gf x w (fun j => c * h j) b = c * gf x w h b := by
  intro w
  induction w with
  | nil => intro b; rfl
  | cons s w ih =>
    intro b
    cases s with
    | true => exact ih (b + 1)
    | false =>
      show x * gf x w (fun j => c * h j) 0 + sg (fun j => gf x w (fun j => c * h j) (j + 1)) b = c * (x * gf x w h 0 + sg (fun j => gf x w h (j + 1)) b)
      rw [ih 0, show (fun j => gf x w (fun j => c * h j) (j + 1)) = fun j => c * gf x w h (j + 1) from funext fun j => ih (j + 1), sg_mul]
      grind
theorem sg_last (h : Nat → Rat) : ∀ b, sg h (b + 1) = sg h b + h b := by
  intro b
  induction b generalizing h with
  | zero => show h 0 + 0 = 0 + h 0; grind
  | succ b ih =>
    show h 0 + sg (fun j => h (j + 1)) (b + 1) = (h 0 + sg (fun j => h (j + 1)) b) + h (b + 1)
    rw [ih]
    grind
/-- a bead that comes out is gone, or the free place is -/
theorem wt_of (x y : Rat) (u v : List Bool) : wt x y (u ++ true :: false :: v) = wt x y (u ++ true :: v) + wt x y (u ++ false :: v) := by
  unfold wt
  rw [gf_app, gf_app, gf_app, ← gf_add]
  congr 1
  funext b
  show x * gf x v (fun b => y ^ b) 0 + sg (fun j => gf x v (fun b => y ^ b) (j + 1)) (b + 1) = gf x v (fun b => y ^ b) (b + 1) + (x * gf x v (fun b => y ^ b) 0 + sg (fun j => gf x v (fun b => y ^ b) (j + 1)) b)
  rw [sg_last]
  grind
theorem wt_free (x y : Rat) (v : List Bool) : wt x y (false :: v) = x * wt x y v := by
  show x * gf x v (fun b => y ^ b) 0 + 0 = x * gf x v (fun b => y ^ b) 0
  grind
theorem wt_bead (x y : Rat) (v : List Bool) : wt x y (v ++ [true]) = y * wt x y v := by
  unfold wt
  rw [gf_app, ← gf_mul]
  congr 1
  funext b
  show y ^ (b + 1) = y * y ^ b
  rw [Rat.pow_succ, Rat.mul_comm]
theorem sg_pow {x y : Rat} (h : x * y = x + y) : ∀ b, x + sg (fun j => y ^ (j + 1)) b = x * y ^ b := by
  intro b
  induction b with
  | zero => show x + 0 = x * y ^ 0; rw [Rat.pow_zero]; grind
  | succ b ih =>
    rw [sg_last, Rat.pow_succ]
    have e : x * (y ^ b * y) = y ^ b * (x * y) := by grind
    rw [e, h]
    grind
theorem gf_one {x y : Rat} (h : x * y = x + y) : ∀ (w : List Bool) (b : Nat), gf x w (fun b => y ^ b) b = x ^ (w.count false) * y ^ (w.count true) * y ^ b := by
  intro w
  induction w with
  | nil => intro b; show y ^ b = x ^ 0 * y ^ 0 * y ^ b; rw [Rat.pow_zero, Rat.pow_zero]; grind
  | cons s w ih =>
    intro b
    cases s with
    | true =>
      show gf x w (fun b => y ^ b) (b + 1) = _
      rw [ih, List.count_cons_of_ne (by decide), List.count_cons_self, Rat.pow_succ, Rat.pow_succ]
      grind
    | false =>
      show x * gf x w (fun b => y ^ b) 0 + sg (fun j => gf x w (fun b => y ^ b) (j + 1)) b = _
      rw [ih, show (fun j => gf x w (fun b => y ^ b) (j + 1)) = fun j => (x ^ (w.count false) * y ^ (w.count true)) * y ^ (j + 1) from funext fun j => ih (j + 1), sg_mul, List.count_cons_self, List.count_cons_of_ne (by decide), Rat.pow_succ, Rat.pow_zero]
      have e := sg_pow h b
      grind
theorem wt_one {x y : Rat} (h : x * y = x + y) (w : List Bool) : wt x y w = x ^ (w.count false) * y ^ (w.count true) := by
  unfold wt
  rw [gf_one h, Rat.pow_zero]
  grind
/-! ### all heaps counted -/
def sn (h : Nat → Nat) : Nat → Nat
  | 0 => 0
  | b + 1 => h 0 + sn (fun j => h (j + 1)) b
def gn : List Bool → Nat → Nat
  | [], _ => 1
  | true :: w, b => gn w (b + 1)
  | false :: w, b => sn (gn w) (b + 1)
theorem sn_sg (h : Nat → Nat) : ∀ b, ((sn h b : Nat) : Rat) = sg (fun j => (h j : Rat)) b := by
  intro b
  induction b generalizing h with
  | zero => rfl
  | succ b ih =>
    show ((h 0 + sn (fun j => h (j + 1)) b : Nat) : Rat) = (h 0 : Rat) + sg (fun j => (h (j + 1) : Rat)) b
    rw [cast_add, ih]
theorem gn_gf : ∀ (w : List Bool) (b : Nat), ((gn w b : Nat) : Rat) = gf 1 w (fun b => 1 ^ b) b := by
  intro w
  induction w with
  | nil =>
    intro b
    show ((1 : Nat) : Rat) = 1 ^ b
    induction b with
    | zero => rfl
    | succ b ih => rw [Rat.pow_succ, ← ih, Rat.mul_one]
  | cons s w ih =>
    intro b
    cases s with
    | true => exact ih (b + 1)
    | false =>
      show ((sn (gn w) (b + 1) : Nat) : Rat) = 1 * gf 1 w (fun b => 1 ^ b) 0 + sg (fun j => gf 1 w (fun b => 1 ^ b) (j + 1)) b
      rw [sn_sg]
      show (gn w 0 : Rat) + sg (fun j => (gn w (j + 1) : Rat)) b = _
      rw [ih 0, show (fun j => (gn w (j + 1) : Rat)) = fun j => gf 1 w (fun b => 1 ^ b) (j + 1) from funext fun j => ih (j + 1)]
      grind
theorem gn_wt (w : List Bool) : ((gn w 0 : Nat) : Rat) = wt 1 1 w := gn_gf w 0
end HopW

set_option Elab.async false
set_option linter.all false
set_option maxRecDepth 100000
namespace HopW
open L2
/-! ### a dict that counts -/
section
variable {α κ : Type} [DecidableEq α] [DecidableEq κ]
def zv (ι : α → κ) (l : List (α × Int)) : List (κ × V) := l.map fun p => (ι p.1, .int p.2)
def gz (k : α) : List (α × Int) → Int
  | [] => 0
  | (j, v) :: l => if j = k then v else gz k l
def pz (k : α) (c : Int) : List (α × Int) → List (α × Int)
  | [] => [(k, c)]
  | (j, v) :: l => if j = k then (j, v + c) :: l else (j, v) :: pz k c l
def ds (φ : α → Rat) : List (α × Int) → Rat
  | [] => 0
  | (j, v) :: l => (v : Rat) * φ j + ds φ l
/-- the keys are told once each -/
def Once (l : List (α × Int)) : Prop := (l.map (·.1)).Nodup
theorem val_zv {ι : α → κ} (inj : ∀ a b, ι a = ι b → a = b) (k : α) : ∀ l : List (α × Int), (valV (zv ι l) (ι k)).getD (.int 0) = .int (gz k l)
  | [] => rfl
  | (j, v) :: l => by
    show (valV ((ι j, V.int v) :: zv ι l) (ι k)).getD (.int 0) = .int (if j = k then v else gz k l)
    by_cases e : j = k
    · rw [if_pos e, valV_pos (by rw [e])]; rfl
    · rw [if_neg e, valV_neg (fun z => e (inj _ _ z))]
      exact val_zv inj k l
theorem val_in {ι : α → κ} (inj : ∀ a b, ι a = ι b → a = b) {k : α} : ∀ {l : List (α × Int)} {i : Nat} {c : Int}, Once l → l[i]? = some (k, c) → valV (zv ι l) (ι k) = some (.int c)
  | (j, v) :: l, 0, c, _, h => by
    obtain ⟨rfl, rfl⟩ := Prod.mk.inj (Option.some.inj h)
    exact valV_pos rfl
  | (j, v) :: l, i + 1, c, o, h => by
    have o' : (j :: l.map (·.1)).Nodup := o
    have h' : l[i]? = some (k, c) := h
    obtain ⟨n1, n2⟩ := List.nodup_cons.mp o'
    have m : k ∈ l.map (·.1) := List.mem_map.mpr ⟨(k, c), List.mem_of_getElem? h', rfl⟩
    refine (valV_neg (fun z => n1 ?_)).trans (val_in inj (i := i) n2 h')
    rw [inj _ _ (show ι j = ι k from z)]; exact m
theorem no_key {ι : α → κ} (inj : ∀ a b, ι a = ι b → a = b) {k : α} : ∀ {l : List (α × Int)}, k ∉ l.map (·.1) → valV (zv ι l) (ι k) = none ∧ ∀ x, (zv ι l).map (fun kv => if kv.1 = ι k then (kv.1, x) else kv) = zv ι l
  | [], _ => ⟨rfl, fun _ => rfl⟩
  | (j, v) :: l, h => by
    have h' : k ∉ j :: l.map (·.1) := h
    have n1 : ¬ ι j = ι k := fun z => h' (by rw [inj _ _ z]; exact List.mem_cons_self ..)
    obtain ⟨a, b⟩ := no_key inj (l := l) (fun m => h' (List.mem_cons_of_mem _ m))
    refine ⟨(valV_neg n1).trans a, fun x => ?_⟩
    show (if ι j = ι k then (ι j, x) else (ι j, V.int v)) :: (zv ι l).map _ = (ι j, V.int v) :: zv ι l
    rw [if_neg n1, b x]
theorem any_zv {ι : α → κ} (k : α) (l : List (α × Int)) : ((zv ι l).any fun kv => decide (kv.1 = ι k)) = (valV (zv ι l) (ι k)).isSome := valV_any (ι k) _
theorem put_zv {ι : α → κ} (inj : ∀ a b, ι a = ι b → a = b) (k : α) (c : Int) : ∀ {l : List (α × Int)}, Once l → putK (zv ι l) (ι k) (.int (gz k l + c)) = zv ι (pz k c l)
  | [], _ => by
    rw [putK_new _ (show valV (zv ι ([] : List (α × Int))) (ι k) = none from rfl)]
    show [(ι k, V.int (0 + c))] = [(ι k, V.int c)]
    rw [Int.zero_add]
  | (j, v) :: l, o => by
    have o' : (j :: l.map (·.1)).Nodup := o
    obtain ⟨n1, n2⟩ := List.nodup_cons.mp o'
    by_cases e : j = k
    · subst e
      show putK ((ι j, V.int v) :: zv ι l) (ι j) (.int ((if j = j then v else gz j l) + c)) = zv ι (if j = j then (j, v + c) :: l else _)
      rw [if_pos rfl, if_pos rfl]
      have q := (no_key inj n1).2 (.int (v + c))
      unfold putK
      rw [if_pos (by simp)]
      show (if ι j = ι j then (ι j, V.int (v + c)) else _) :: (zv ι l).map _ = (ι j, V.int (v + c)) :: zv ι l
      rw [if_pos rfl, q]
    · have n3 : ¬ ι j = ι k := fun z => e (inj _ _ z)
      have ih := put_zv inj k c n2
      show putK ((ι j, V.int v) :: zv ι l) (ι k) (.int ((if j = k then v else gz k l) + c)) = zv ι (if j = k then _ else (j, v) :: pz k c l)
      rw [if_neg e, if_neg e]
      show _ = (ι j, V.int v) :: zv ι (pz k c l)
      rw [← ih]
      generalize V.int (gz k l + c) = x
      unfold putK
      rw [List.any_cons, show decide ((ι j, V.int v).1 = ι k) = false from decide_eq_false n3, Bool.false_or, List.map_cons, if_neg n3]
      by_cases t : ((zv ι l).any fun kv => decide (kv.1 = ι k)) = true
      · rw [if_pos t, if_pos t]
      · rw [if_neg t, if_neg t]; rfl
theorem ds_pz (φ : α → Rat) (k : α) (c : Int) : ∀ l : List (α × Int), ds φ (pz k c l) = ds φ l + (c : Rat) * φ k
  | [] => by show (c : Rat) * φ k + 0 = 0 + (c : Rat) * φ k; grind
  | (j, v) :: l => by
    unfold pz
    split
    · rename_i e; subst e
      show ((v + c : Int) : Rat) * φ j + ds φ l = (v : Rat) * φ j + ds φ l + (c : Rat) * φ j
      rw [Rat.intCast_add]; grind
    · show (v : Rat) * φ j + ds φ (pz k c l) = (v : Rat) * φ j + ds φ l + (c : Rat) * φ k
      rw [ds_pz φ k c l]; grind
theorem keys_pz {k x : α} {c : Int} : ∀ {l : List (α × Int)}, x ∈ (pz k c l).map (·.1) → x = k ∨ x ∈ l.map (·.1)
  | [], h => .inl (by simpa [pz] using h)
  | (j, v) :: l, h => by
    unfold pz at h
    split at h
    · exact .inr h
    · rcases List.mem_cons.mp h with e | m
      · exact .inr (by rw [e]; exact List.mem_cons_self ..)
      · rcases keys_pz m with e | m
        · exact .inl e
        · exact .inr (List.mem_cons_of_mem _ m)
theorem once_pz {k : α} {c : Int} : ∀ {l : List (α × Int)}, Once l → Once (pz k c l)
  | [], _ => by simp [Once, pz]
  | (j, v) :: l, o => by
    have o' : (j :: l.map (·.1)).Nodup := o
    obtain ⟨n1, n2⟩ := List.nodup_cons.mp o'
    unfold pz
    split
    · exact o
    · rename_i e
      exact List.nodup_cons.mpr ⟨fun m => (keys_pz m).elim e n1, once_pz n2⟩
theorem len_pz (k : α) (c : Int) : ∀ l : List (α × Int), (pz k c l).length ≤ l.length + 1
  | [] => Nat.le_refl _
  | (j, v) :: l => by
    unfold pz
    split
    · exact Nat.le_succ _
    · exact Nat.succ_le_succ (len_pz k c l)
theorem ds_app (φ : α → Rat) : ∀ l m : List (α × Int), ds φ (l ++ m) = ds φ l + ds φ m
  | [], m => by show ds φ m = 0 + ds φ m; grind
  | (j, v) :: l, m => by show (v : Rat) * φ j + ds φ (l ++ m) = (v : Rat) * φ j + ds φ l + ds φ m; rw [ds_app φ l m]; grind
theorem ds_take {φ : α → Rat} {l : List (α × Int)} {i : Nat} {k : α} {c : Int} (h : l[i]? = some (k, c)) : ds φ (l.take (i + 1)) = ds φ (l.take i) + (c : Rat) * φ k := by
  rw [List.take_succ, h, ds_app]
  show ds φ (l.take i) + ((c : Rat) * φ k + 0) = _
  grind
end
/-! ### a word without a bead before a free place -/
theorem wt_rest (x y : Rat) (f b : Nat) : wt x y (List.replicate f false ++ List.replicate b true) = x ^ f * y ^ b := by
  induction f with
  | zero =>
    induction b with
    | zero => simp [wt, gf]
    | succ b ih =>
      rw [List.replicate_succ', ← List.append_assoc, wt_bead, ih]
      grind
  | succ f ih =>
    rw [List.replicate_succ, List.cons_append, wt_free, ih]
    grind
end HopW

set_option Elab.async false
set_option linter.all false
set_option maxRecDepth 100000
namespace HopR
open PySem L2
/-! ### data that can be shown -/
structure Okd (d : PyData) (k N : Nat) : Prop where
  sh : d.showable = true
  nd : d.hasDict = false
  dp : d.depth ≤ k
  ls : d.leavesShort 13 = true
  wt : d.weight ≤ N
structure Okds (ds : List PyData) (k N : Nat) : Prop where
  sh : PyData.showableAll ds = true
  nd : PyData.hasDictAll ds = false
  dp : PyData.depthAll ds ≤ k
  ls : PyData.leavesShortAll 13 ds = true
  wt : PyData.weightAll ds ≤ N
theorem Okds.nil {k : Nat} : Okds [] k 0 := ⟨rfl, rfl, Nat.zero_le _, rfl, Nat.le_refl _⟩
theorem Okds.cons {d : PyData} {ds : List PyData} {k N M : Nat} (a : Okd d k N) (b : Okds ds k M) : Okds (d :: ds) k (N + 1 + M) where
  sh := by simp only [PyData.showableAll, a.sh, b.sh, Bool.and_true]
  nd := by simp only [PyData.hasDictAll, a.nd, b.nd, Bool.or_false]
  dp := by
    simp only [PyData.depthAll]
    exact Nat.max_le.mpr ⟨a.dp, b.dp⟩
  ls := by simp only [PyData.leavesShortAll, a.ls, b.ls, Bool.and_true]
  wt := by
    simp only [PyData.weightAll]
    have := a.wt
    have := b.wt
    omega
theorem Okds.list {ds : List PyData} {k N : Nat} (a : Okds ds k N) : Okd (.list ds) (k + 1) N :=
  ⟨by simp only [PyData.showable, a.sh], by simp only [PyData.hasDict, a.nd], by simp only [PyData.depth]; exact Nat.succ_le_succ a.dp, by simp only [PyData.leavesShort, a.ls], by simp only [PyData.weight]; exact a.wt⟩
theorem Okds.tuple {ds : List PyData} {k N : Nat} (a : Okds ds k N) : Okd (.tuple ds) (k + 1) N :=
  ⟨by simp only [PyData.showable, a.sh], by simp only [PyData.hasDict, a.nd], by simp only [PyData.depth]; exact Nat.succ_le_succ a.dp, by simp only [PyData.leavesShort, a.ls], by simp only [PyData.weight]; exact a.wt⟩
theorem Okd.int {i : Int} {k : Nat} (h : i.natAbs < 1000000000000) : Okd (.int i) k 41 := by
  have hl : i.natAbs.log2 < 40 ∨ i.natAbs = 0 := by
    by_cases h0 : i.natAbs = 0
    · exact .inr h0
    · exact .inl ((Nat.log2_lt h0).mpr (by omega))
  have hl : i.natAbs.log2 < 40 := hl.elim id fun e => by
    rw [e]
    decide
  refine ⟨decide_eq_true (by omega), rfl, Nat.zero_le _, ?_, ?_⟩
  · simp only [PyData.leavesShort]
    exact decide_eq_true (PyData.shown_int_le h)
  · simp only [PyData.weight]
    split <;> omega
theorem Okd.bool {b : Bool} {k : Nat} : Okd (.bool b) k 0 := ⟨rfl, rfl, Nat.zero_le _, rfl, Nat.le_refl _⟩
theorem Okd.none {k : Nat} : Okd .none k 0 := ⟨rfl, rfl, Nat.zero_le _, rfl, Nat.le_refl _⟩
theorem Okd.tx {bs : List Bool} {k : Nat} : Okd (.str (tx bs)) k bs.length := by
  refine ⟨rfl, rfl, Nat.zero_le _, ?_, ?_⟩
  · simp only [PyData.leavesShort]
    rw [tx_list, List.all_map, List.all_eq_true]
    intro b _
    cases b <;> decide
  · simp only [PyData.weight]
    exact Nat.le_of_eq (tx_len bs)
theorem Okds.ints : ∀ {ks : List Nat} {k : Nat}, (∀ j ∈ ks, j < 1000000000000) → Okds (ks.map dw) k (42 * ks.length)
  | [], k, _ => Okds.nil
  | a :: r, k, h => by
    have h1 : Okd (dw a) k 41 := Okd.int (i := (a : Int)) (h a (List.mem_cons_self ..))
    have h2 : Okds (r.map dw) k (42 * r.length) := Okds.ints fun j hj => h j (List.mem_cons_of_mem _ hj)
    have := Okds.cons h1 h2
    rw [List.length_cons, show 42 * (r.length + 1) = 41 + 1 + 42 * r.length by omega]
    exact this
theorem Okd.mono {d : PyData} {k k' N N' : Nat} (a : Okd d k N) (hk : k ≤ k') (hN : N ≤ N') : Okd d k' N' := ⟨a.sh, a.nd, Nat.le_trans a.dp hk, a.ls, Nat.le_trans a.wt hN⟩
theorem Okd.fits {d : PyData} {k N : Nat} (a : Okd d k N) (hN : N ≤ 1048576) : d.shown.length ≤ sizeLine := PyData.shown_fits (B := 13) (by decide) (by decide) a.ls (Nat.le_trans a.wt hN)
end HopR

set_option Elab.async false
set_option linter.all false
set_option maxRecDepth 100000
/-! ### any(a list of data); a sum of words: what shortening makes of it -/
namespace HopR
open PySem PySem.Spec PyProof.Rows L2
section
variable {X : Cx}
/-- any(xs) of data -/
def rAnyD (K : PySem.W.Frag) : List V → Hp → VK → Prop := fun vs H Q => ∃ (a : Addr) (ds : List PyData), vs = [V.ref a] ∧ Dp K H (.ref a) (.list ds) ∧ PyData.plainAll ds = true ∧ (∀ x ∈ ds, x.fits63) ∧ Q (.bl (ds.any PyData.truthy)) H
theorem cr_anyD (hc : X.calm = true) : CallR X (.builtin "any") (rAnyD X.K) := by
  rintro pins s σ H _ us Q I r ⟨a, ds, rfl, hd, hp, hf, q⟩
  obtain rfl := Vals.ref1 r
  obtain ⟨as, rd⟩ := Dp.reads I (.list ds) (.ref a) (.ref a) hd rfl
  cases rd with
  | list h1 h2 h3 h4 =>
    exact PySem.W.any_list_data (I.ok.hd hc) ⟨_, h1, h2, _, h3⟩ h4 hp hf fun h' tk hk => ⟨.bl _, H, I.kept hk, rfl, q⟩
end
end HopR
namespace HopW
open PySem L2 HopR
/-! ### sums of words -/
abbrev Tal := List (List Bool × Int)
def ιw (v : List Bool) : Key := .inr (tx v)
theorem ιw_inj (u v : List Bool) (h : ιw u = ιw v) : u = v := tx_inj (Sum.inr.inj h)
def dz (k : List Bool) (T : Tal) : Tal := T.filter fun p => decide (p.1 ≠ k)
theorem drop_zv (k : List Bool) : ∀ T : Tal, dropK (zv ιw T) (ιw k) = zv ιw (dz k T)
  | [] => rfl
  | (j, c) :: T => by
    have ih := drop_zv k T
    unfold dropK zv dz at *
    rw [List.map_cons, List.filter_cons, List.filter_cons]
    by_cases e : j = k
    · subst e
      rw [if_neg (by simp), if_neg (by simp)]
      exact ih
    · rw [if_pos (by simpa using fun h => e (ιw_inj _ _ h)), if_pos (by simpa using e), List.map_cons, ih]
theorem once_dz {k : List Bool} {T : Tal} (o : Once T) : Once (dz k T) := List.Nodup.sublist (List.Sublist.map _ List.filter_sublist) o
theorem mem_dz {k : List Bool} {T : Tal} {p : List Bool × Int} (h : p ∈ dz k T) : p ∈ T := (List.mem_filter.mp h).1
/-- the sum's weight: a word counts twice what one with a sign less counts -/
def tot : Tal → Int
  | [] => 0
  | (j, v) :: l => v * 2 ^ j.length + tot l
theorem tot_pz (k : List Bool) (c : Int) : ∀ l : Tal, tot (pz k c l) = tot l + c * 2 ^ k.length
  | [] => by show c * 2 ^ k.length + 0 = 0 + c * 2 ^ k.length; omega
  | (j, v) :: l => by
    unfold pz
    split
    · rename_i e
      subst e
      show (v + c) * 2 ^ j.length + tot l = v * 2 ^ j.length + tot l + c * 2 ^ j.length
      rw [Int.add_mul]
      omega
    · show v * 2 ^ j.length + tot (pz k c l) = v * 2 ^ j.length + tot l + c * 2 ^ k.length
      rw [tot_pz k c l]
      omega
theorem dz_no {k : List Bool} : ∀ {T : Tal}, k ∉ T.map (·.1) → dz k T = T ∧ gz k T = 0
  | [], _ => ⟨rfl, rfl⟩
  | (j, v) :: l, h => by
    have h' : k ∉ j :: l.map (·.1) := h
    have n1 : ¬ j = k := fun e => h' (by rw [e]; exact List.mem_cons_self ..)
    obtain ⟨a, b⟩ := dz_no (T := l) fun m => h' (List.mem_cons_of_mem _ m)
    refine ⟨?_, ?_⟩
    · unfold dz at *
      rw [List.filter_cons, if_pos (by simpa using n1), a]
    · show (if j = k then v else gz k l) = 0
      rw [if_neg n1, b]
theorem tot_dz {k : List Bool} : ∀ {T : Tal}, Once T → tot (dz k T) + gz k T * 2 ^ k.length = tot T
  | [], _ => by show 0 + 0 * 2 ^ k.length = 0; omega
  | (j, v) :: l, o => by
    have o' : (j :: l.map (·.1)).Nodup := o
    obtain ⟨n1, n2⟩ := List.nodup_cons.mp o'
    by_cases e : j = k
    · subst e
      obtain ⟨a, _⟩ := dz_no n1
      have e1 : dz j ((j, v) :: l) = l := by
        unfold dz at *
        rw [List.filter_cons, if_neg (by simp), a]
      have e2 : gz j ((j, v) :: l) = v := by
        show (if j = j then v else gz j l) = v
        rw [if_pos rfl]
      rw [e1, e2]
      show tot l + v * 2 ^ j.length = v * 2 ^ j.length + tot l
      omega
    · have e1 : dz k ((j, v) :: l) = (j, v) :: dz k l := by
        unfold dz
        rw [List.filter_cons, if_pos (by simpa using e)]
      have e2 : gz k ((j, v) :: l) = gz k l := by
        show (if j = k then v else gz k l) = gz k l
        rw [if_neg e]
      rw [e1, e2]
      show v * 2 ^ j.length + tot (dz k l) + gz k l * 2 ^ k.length = v * 2 ^ j.length + tot l
      have := tot_dz (k := k) n2
      omega
theorem gz_pos {k : List Bool} : ∀ {T : Tal}, (∀ p ∈ T, 1 ≤ p.2) → k ∈ T.map (·.1) → (k, gz k T) ∈ T
  | (j, v) :: l, h, m => by
    by_cases e : j = k
    · subst e
      have e2 : gz j ((j, v) :: l) = v := by
        show (if j = j then v else gz j l) = v
        rw [if_pos rfl]
      rw [e2]
      exact List.mem_cons_self ..
    · have e2 : gz k ((j, v) :: l) = gz k l := by
        show (if j = k then v else gz k l) = gz k l
        rw [if_neg e]
      rw [e2]
      have m' : k ∈ j :: l.map (·.1) := m
      rcases List.mem_cons.mp m' with z | z
      · exact absurd z.symm e
      · exact List.mem_cons_of_mem _ (gz_pos (fun p hp => h p (List.mem_cons_of_mem _ hp)) z)
theorem mem_pz {k : List Bool} {c : Int} {p : List Bool × Int} : ∀ {l : Tal}, p ∈ pz k c l → p ∈ l ∨ p = (k, c) ∨ ∃ v, (k, v) ∈ l ∧ p = (k, v + c)
  | [], h => .inr (.inl (by simpa [pz] using h))
  | (j, v) :: l, h => by
    unfold pz at h
    split at h
    · rename_i e
      subst e
      rcases List.mem_cons.mp h with e | m
      · exact .inr (.inr ⟨v, List.mem_cons_self .., e⟩)
      · exact .inl (List.mem_cons_of_mem _ m)
    · rcases List.mem_cons.mp h with e | m
      · exact .inl (by rw [e]; exact List.mem_cons_self ..)
      · rcases mem_pz m with m | e | ⟨u, m, e⟩
        · exact .inl (List.mem_cons_of_mem _ m)
        · exact .inr (.inl e)
        · exact .inr (.inr ⟨u, List.mem_cons_of_mem _ m, e⟩)
/-- a sum of words of at most 12 signs -/
structure TO (T : Tal) : Prop where
  once : Once T
  each : ∀ p ∈ T, 1 ≤ p.2 ∧ p.1.length ≤ 12
  few : tot T ≤ 4096
theorem pow_pos2 (n : Nat) : (1 : Int) ≤ 2 ^ n := by
  have h : (1 : Nat) ≤ 2 ^ n := Nat.one_le_two_pow
  have : ((1 : Nat) : Int) ≤ ((2 ^ n : Nat) : Int) := Int.ofNat_le.mpr h
  simpa using this
theorem tot_ge : ∀ {T : Tal}, (∀ p ∈ T, 1 ≤ p.2) → (T.length : Int) ≤ tot T ∧ ∀ p ∈ T, p.2 ≤ tot T
  | [], _ => ⟨by show (0 : Int) ≤ 0; omega, fun _ h => nomatch h⟩
  | (j, v) :: l, h => by
    obtain ⟨a, b⟩ := tot_ge (T := l) fun p hp => h p (List.mem_cons_of_mem _ hp)
    have hv : 1 ≤ v := h (j, v) (List.mem_cons_self ..)
    have h2 := pow_pos2 j.length
    have h3 : v * 1 ≤ v * 2 ^ j.length := Int.mul_le_mul_of_nonneg_left h2 (by omega)
    have e : tot ((j, v) :: l) = v * 2 ^ j.length + tot l := rfl
    have e2 : (((j, v) :: l).length : Int) = (l.length : Int) + 1 := by rw [List.length_cons]; omega
    refine ⟨by rw [e, e2]; omega, fun p hp => ?_⟩
    rcases List.mem_cons.mp hp with rfl | hp
    · show v ≤ _
      rw [e]
      omega
    · have := b p hp
      rw [e]
      omega
theorem TO.len {T : Tal} (t : TO T) : T.length ≤ 4096 := by
  have := (tot_ge fun p hp => (t.each p hp).1).1
  have := t.few
  omega
theorem TO.le {T : Tal} (t : TO T) : ∀ p ∈ T, 1 ≤ p.2 ∧ p.2 ≤ 4096 ∧ p.1.length ≤ 12 := fun p hp => by
  have := (tot_ge fun p hp => (t.each p hp).1).2 p hp
  have := t.few
  have := t.each p hp
  omega
def stp (T : Tal) (u : List Bool) (k : Nat) : Tal := pz (shB u k) (gz u T) (pz (shA u k) (gz u T) (dz u T))
theorem plc_two {bs : List Bool} {k : Nat} (h : k ∈ plc bs) : k + 2 ≤ bs.length := (shp_split (plc_shp h).1).2
theorem TO.one {bs : List Bool} (h : bs.length ≤ 12) : TO [(bs, 1)] := by
  refine ⟨by simp [Once], fun p hp => ?_, ?_⟩
  · obtain rfl := List.mem_singleton.mp hp
    exact ⟨Int.le_refl _, h⟩
  · show 1 * 2 ^ bs.length + 0 ≤ (4096 : Int)
    have h1 : (2 : Nat) ^ bs.length ≤ 2 ^ 12 := Nat.pow_le_pow_right (by decide) h
    have h2 : ((2 ^ bs.length : Nat) : Int) ≤ ((2 ^ 12 : Nat) : Int) := Int.ofNat_le.mpr h1
    have h3 : ((2 ^ bs.length : Nat) : Int) = (2 : Int) ^ bs.length := by simp
    rw [h3] at h2
    have h4 : ((2 ^ 12 : Nat) : Int) = 4096 := by decide
    omega
theorem TO.step {T : Tal} {u : List Bool} {k : Nat} (t : TO T) (hu : u ∈ T.map (·.1)) (hk : k ∈ plc u) : TO (stp T u k) := by
  have m := gz_pos (fun p hp => (t.each p hp).1) hu
  have c := t.each _ m
  have h2 := plc_two hk
  have la := shA_len h2
  have lb := shB_len h2
  refine ⟨once_pz (once_pz (once_dz t.once)), fun p hp => ?_, ?_⟩
  · have hd : ∀ p ∈ dz u T, 1 ≤ p.2 ∧ p.1.length ≤ 12 := fun p hp => t.each p (mem_dz hp)
    have c1 : 1 ≤ gz u T := c.1
    have c2 : u.length ≤ 12 := c.2
    have hq : ∀ p ∈ pz (shA u k) (gz u T) (dz u T), 1 ≤ p.2 ∧ p.1.length ≤ 12 := fun p hp => by
      rcases mem_pz hp with m | rfl | ⟨v, m, rfl⟩
      · exact hd p m
      · exact ⟨c1, by show (shA u k).length ≤ 12; omega⟩
      · have := hd _ m
        exact ⟨by show 1 ≤ v + gz u T; have : 1 ≤ v := this.1; omega, this.2⟩
    rcases mem_pz hp with m | rfl | ⟨v, m, rfl⟩
    · exact hq p m
    · exact ⟨c1, by show (shB u k).length ≤ 12; omega⟩
    · have := hq _ m
      exact ⟨by show 1 ≤ v + gz u T; have : 1 ≤ v := this.1; omega, this.2⟩
  · unfold stp
    rw [tot_pz, tot_pz]
    have e := tot_dz (k := u) t.once
    have ea : u.length = (shA u k).length + 1 := la.symm
    have eb : (shB u k).length = (shA u k).length := by omega
    rw [eb]
    rw [ea, Int.pow_succ] at e
    generalize (2 : Int) ^ (shA u k).length = y at *
    have e3 : gz u T * (y * 2) = gz u T * y + gz u T * y := by rw [← Int.mul_assoc]; omega
    have := t.few
    omega
/-- a text's number -/
def cz (z : Str) : Tal → Int
  | [] => 0
  | (j, v) :: l => if tx j = z then v else cz z l
theorem cz_val {z : Str} : ∀ {T : Tal}, z ∈ T.map (fun p => tx p.1) → valV (zv ιw T) (.inr z) = some (.int (cz z T))
  | (j, v) :: l, h => by
    by_cases e : tx j = z
    · subst e
      show valV ((ιw j, V.int v) :: zv ιw l) (.inr (tx j)) = some (.int (if tx j = tx j then v else cz (tx j) l))
      rw [if_pos rfl]
      exact valV_pos (p := (ιw j, V.int v)) rfl
    · show valV ((ιw j, V.int v) :: zv ιw l) (.inr z) = some (.int (if tx j = z then v else cz z l))
      rw [if_neg e, valV_neg fun h => e (Sum.inr.inj h)]
      have h' : z ∈ tx j :: l.map (fun p => tx p.1) := h
      rcases List.mem_cons.mp h' with q | q
      · exact absurd q.symm e
      · exact cz_val q
theorem cz_mem {z : Str} : ∀ {T : Tal}, z ∈ T.map (fun p => tx p.1) → ∃ u, z = tx u ∧ (u, cz z T) ∈ T
  | (j, v) :: l, h => by
    by_cases e : tx j = z
    · subst e
      refine ⟨j, rfl, ?_⟩
      show (j, if tx j = tx j then v else cz (tx j) l) ∈ _
      rw [if_pos rfl]
      exact List.mem_cons_self ..
    · have h' : z ∈ tx j :: l.map (fun p => tx p.1) := h
      rcases List.mem_cons.mp h' with q | q
      · exact absurd q.symm e
      · obtain ⟨u, a, b⟩ := cz_mem q
        refine ⟨u, a, ?_⟩
        show (u, if tx j = z then v else cz z l) ∈ _
        rw [if_neg e]
        exact List.mem_cons_of_mem _ b
theorem keys_zv (T : Tal) : (zv ιw T).map (·.1) = (T.map fun p => tx p.1).map Sum.inr := by
  unfold zv
  rw [List.map_map, List.map_map]
  rfl
def ktx (T : Tal) : List Str := T.map fun p => tx p.1
end HopW

set_option Elab.async false
set_option linter.all false
set_option maxRecDepth 100000
namespace Hop
open PySem L2 HopR HopW
abbrev sOrder : Stmt := top 22
abbrev sWritten : Stmt := top 23
abbrev sSInit : Stmt := inClass (top 24) 0
abbrev sSShort : Stmt := inClass (top 24) 1
abbrev sSFin : Stmt := inClass (top 24) 3
abbrev sSWords : Stmt := inClass (top 24) 4
abbrev sSLen : Stmt := inClass (top 24) 6
abbrev sSStr : Stmt := inClass (top 24) 7
theorem cz_no {z : Str} : ∀ {B : Tal}, z ∉ ktx B → valV (zv ιw B) (.inr z) = none
  | [], _ => rfl
  | (j, c) :: l, h => by
    have h' : z ∉ tx j :: ktx l := h
    have n1 : ¬ ιw j = .inr z := fun e => h' (by rw [← Sum.inr.inj e]; exact List.mem_cons_self ..)
    exact (valV_neg (p := (ιw j, V.int c)) n1).trans (cz_no fun m => h' (List.mem_cons_of_mem _ m))
structure TxtS (K : PySem.W.Frag) (S : Addr) : Prop where
  cl : Cls K S
  no : NoAttr K S "often"
structure SK (S : Addr) (H : Hp) (v p : Addr) (B : Tal) : Prop where
  ob : ∃ dx, H v = some (.ins S dx [("often", .ref p)])
  di : H p = some (.dK (zv ιw B))
theorem SK.same {S : Addr} {H H' : Hp} {v p : Addr} {B : Tal} (h : SK S H v p B) (s : Same H H') : SK S H' v p B := ⟨let ⟨dx, e⟩ := h.ob; ⟨dx, s _ _ e⟩, s _ _ h.di⟩
section
variable {P : Program} {w : World} {K : PySem.W.Frag} {mg : Str → Option Value} {base : Heap} {d : Addr} {es : Array DictEntry} {n : Nat} {NW NP S : Addr}
/-! ### written -/
def nmW (z : Str) : Str := if z = "" then "-" else z
def wri (z : Str) (c : Int) : Str := if c = 1 then nmW z else Str.empty ++ toString c ++ " " ++ nmW z
def spWri : Sp := fun vs H Q _ => ∃ (z : Str) (c : Int), vs = [.str z, .int c] ∧ z.length ≤ 12 ∧ 1 ≤ c ∧ c ≤ 4096 ∧ Q (.str (wri z c)) H
theorem scWri : FnScope ["word", "many", "name"] ["word", "many"] (defScope sWritten) := ⟨rfl, rfl, rfl, by decide +kernel, rfl, by decide +kernel, by decide +kernel⟩
theorem toS_len {c : Int} (h1 : 1 ≤ c) (h2 : c ≤ 4096) : (toString c : Str).length ≤ 13 := PyData.shown_int_le (i := c) (by omega)
theorem nmW_len {z : Str} (h : z.length ≤ 12) : (nmW z).length ≤ 12 := by
  unfold nmW
  split
  · decide
  · exact h
theorem log_few {c : Int} (h1 : 1 ≤ c) (h2 : c ≤ 4096) : c.natAbs.log2 < 1920 := by
  have : c.natAbs.log2 < 13 := (Nat.log2_lt (by omega)).mpr (by omega)
  omega
theorem ok_wri {f : Addr} {fd : FuncData} {k : Nat} (F : Fun K "written" "written" sWritten f fd) : FnOk P w K mg base CX0 (k + 1) f fd ["word", "many"] spWri := by
  refine F.ok scWri (fun vs H Q E h => ?_) (fun cdv A outer s H vs Q E hr h => ?_)
  · obtain ⟨z, c, rfl, _⟩ := h
    rfl
  · obtain ⟨z, c, rfl, hz, c1, c2, q⟩ := h
    have nd := scWri.nd
    refine ⟨_, pss_cons (ps_set (i := 2) nd rfl (.inl rfl) (pe_ifExp (pt_cmpR op_eq (pv 0) pe_str (nomark _)) pe_str (pv 0)))
      (pss_one (ps_ret (pe_ifExp (pt_cmpR op_eq (pv 1) pe_int (nomark _)) (pv 2) (pe_joined (PJ.cons (pe_fmt (pv 1)) (PJ.cons pe_str (PJ.cons (pe_fmt (pv 2)) PJ.nil))))))), ?_⟩
    refine ⟨.str z, rfl, rfl, _, rfl, ?_⟩
    have st2 : (V.str z = V.str "") ↔ z = "" := ⟨fun h => by injection h, fun h => by rw [h]⟩
    have st3 : (V.int c = V.int 1) ↔ c = 1 := ⟨fun h => by injection h, fun h => by rw [h]⟩
    have l1 := toS_len c1 c2
    have l2 := nmW_len hz
    have fin : ∀ σ : L2.St, σ[1]? = some (some (.int c)) → σ[2]? = some (some (.str (nmW z))) →
        tRet (tIf (tTest (tOp rEq (tVar 1) (tC (V.int 1)))) (tVar 2) fun σ H Q => tJs [tFmt (tVar 1), tC (V.str " "), tFmt (tVar 2)] Str.empty σ H fun out H1 => Q (V.str out) H1) { nx := fun x H' => Q V.non H', rt := Q } σ H := fun σ g1 g2 => by
      refine ⟨.int c, g1, rfl, _, rfl, ?_⟩
      unfold wri at q
      by_cases e : c = 1
      · rw [if_pos e] at q
        rw [decide_eq_true (st3.mpr e)]
        exact ⟨_, g2, q⟩
      · rw [if_neg e] at q
        rw [decide_eq_false fun h => e (st3.mp h)]
        refine ⟨.int c, g1, .inr ⟨c, rfl, log_few c1 c2, _, rfl, ?_, " ", rfl, ?_, .str (nmW z), g2, .inl ⟨_, rfl, ?_, _, rfl, ?_, q⟩⟩⟩
        · rw [strLen_append]
          exact fit (by show 0 + _ ≤ 10000; omega)
        · rw [strLen_append, strLen_append]
          exact fit (by show 0 + _ + 1 ≤ 10000; omega)
        · exact fit (by omega)
        · rw [strLen_append, strLen_append, strLen_append]
          exact fit (by show 0 + _ + 1 + _ ≤ 10000; omega)
    by_cases e : z = ""
    · rw [decide_eq_true (st2.mpr e)]
      exact iteT (fin _ rfl (by unfold nmW; rw [if_pos e]; rfl))
    · rw [decide_eq_false fun h => e (st2.mp h)]
      exact iteF ⟨.str z, rfl, fin _ rfl (by unfold nmW; rw [if_neg e]; rfl)⟩
/-! ### Sum.__init__ -/
/-- all but v stays -/
def spSInit (K : PySem.W.Frag) (S NW : Addr) : Sp := fun vs H Q E => ∃ (v dx : Addr) (x : V), vs = [.ref v, x] ∧ H v = some (.ins S dx []) ∧
  ((∃ bs : List Bool, x = .str (tx bs) ∧ bs.length ≤ 12 ∧ ∀ H' p, H p = none → (∀ a o, a ≠ v → H a = some o → H' a = some o) → SK S H' v p [(bs, 1)] → Q .non H') ∨
   ((WordB K H x false ∨ ∃ bs : List Bool, x = .str (tx bs) ∧ bs.length ≤ 30 ∧ 12 < bs.length) ∧ ∀ H', Same H H' → E (.ref NW) none H'))
theorem scSInit : FnScope ["self", "word"] ["self", "word"] (defScope sSInit) := ⟨rfl, rfl, rfl, by decide +kernel, rfl, by decide +kernel, by decide +kernel⟩
theorem ok_sinit {f f1 f2 : Addr} {fd fd1 fd2 : FuncData} {k : Nat} (F : Fun K "__init__" "Sum.__init__" sSInit f fd) (N1 : Fn K mg "is_row" sIsRow ["thing"] f1 fd1) (N2 : Fn K mg "is_word" sIsWord ["thing"] f2 fd2)
    (T : Txt K w mg d es n) (Z : Er K mg NW NP) (TS : TxtS K S) : FnOk P w K mg base (L2.CX P w) (k + 4) f fd ["self", "word"] (spSInit K S NW) := by
  have G2 : FnOk P w K mg base CX0 (k + 3) f2 fd2 ["thing"] (spIsWord K) := ok_isword (k := k + 1) N2.F N1 T
  refine F.okX scSInit (fun vs H Q E h => ?_) (fun cdv A outer s H vs Q E hr h => ?_)
  · obtain ⟨v, dx, x, rfl, _⟩ := h
    rfl
  · obtain ⟨v, dx, x, rfl, ev, h⟩ := h
    have nd := scSInit.nd
    obtain ⟨tm, gm⟩ := T.ms
    refine ⟨_, pss_cons (ps_if (PW.pt (pw_or (pt_not (pt_val (pe_call G2 hr (by rfl) N2.g N2.F.kp N2.b .nil pass0 (pa_cons (pv 1) pa_nil)))) (pw_or1 (pt_cmpR op_gt (pe_callB call_len_str (by rfl) T.len PySem.boot_len (pa_cons (pv 1) pa_nil)) (pe_glob (v := .int 12) (by rfl) gm ⟨_, rfl⟩) (nomark _)))))
        (pss_one (ps_raise rfl (takes_of rfl rfl rfl rfl) (pmk_own PySem.F.excBase_ValueError Z.W.x Z.gNW Z.W.k (raises_own Z.W.be Z.W.ty) rfl))) pss_nil)
      (pss_one (ps_fld (pv 0) (pe_disp (pps_cons (pv 1) pe_int pps_nil) rfl rfl (by simp) (by decide)) rfl)), ?_⟩
    rcases h with ⟨bs, rfl, h12, q⟩ | ⟨hw | ⟨bs, rfl, h30, h13⟩, q⟩
    · have hz : (tx bs).length ≤ sizeLine := tx_fit (by omega)
      refine ⟨.str (tx bs), rfl, .str (tx bs), true, rfl, .inr ⟨tx bs, rfl, by rw [tx_len]; omega, (isWord_tx (by omega)).symm⟩, fun H1 s1 => ?_⟩
      have ng : ¬ (12 : Int) < ((tx bs).length : Int) := by rw [tx_len]; omega
      refine ⟨true, rfl, iteF ⟨.str (tx bs), rfl, tx bs, rfl, hz, _, _, rfl, rfl, _, rfl, ?_⟩⟩
      rw [decide_eq_false ng]
      refine iteF fun p np => ⟨.str (tx bs), rfl, upd_same, [(ιw bs, V.int 1)], rfl, (by show 1 ≤ 15; decide), ?_⟩
      have npv : v ≠ p := fun e => by
        rw [← e, s1 _ _ ev] at np
        cases np
      have ev2 : upd (upd H1 p (.dK [])) p (.dK (mergeK [] [(ιw bs, V.int 1)])) v = some (.ins S dx []) := by
        rw [upd_upd, upd_ne npv]
        exact s1 _ _ ev
      refine ⟨.ref v, rfl, v, S, dx, [], rfl, ev2, TS.cl, TS.no, by decide, ?_⟩
      refine q _ p (s1.free np) (fun a o na ea => ?_) ⟨⟨dx, upd_same⟩, ?_⟩
      · rw [upd_ne na, upd_upd, upd_ne (fun e => by rw [← e, s1 _ _ ea] at np; cases np)]
        exact s1 _ _ ea
      · rw [upd_ne npv.symm, upd_same]
        rfl
    · refine ⟨x, rfl, x, false, rfl, hw, fun H1 s1 => ⟨false, rfl, iteT (q H1 s1)⟩⟩
    · have hz : (tx bs).length ≤ sizeLine := tx_fit (by omega)
      refine ⟨.str (tx bs), rfl, .str (tx bs), true, rfl, .inr ⟨tx bs, rfl, by rw [tx_len]; omega, (isWord_tx (by omega)).symm⟩, fun H1 s1 => ?_⟩
      have ng : (12 : Int) < ((tx bs).length : Int) := by rw [tx_len]; omega
      refine ⟨true, rfl, iteF ⟨.str (tx bs), rfl, tx bs, rfl, hz, _, _, rfl, rfl, _, rfl, ?_⟩⟩
      rw [decide_eq_true ng]
      exact iteT (q H1 s1)
/-! ### Sum.shorten -/
def spSShort (K : PySem.W.Frag) (S NW NP : Addr) : Sp := fun vs H Q E => ∃ (v p : Addr) (B : Tal) (x y : V), vs = [.ref v, x, y] ∧ SK S H v p B ∧ TO B ∧
  ((∃ (u : List Bool) (k : Nat), x = .str (tx u) ∧ y = wv k ∧ u ∈ B.map (·.1) ∧ k ∈ plc u ∧ ∀ H', (∀ a o, a ≠ p → H a = some o → H' a = some o) → H' p = some (.dK (zv ιw (stp B u k))) → Q .non H') ∨
   ((WordB K H x false ∨ ∃ z : Str, x = .str z ∧ z.length ≤ 30 ∧ isWordB z = true ∧ z ∉ ktx B) ∧ ∀ H', Same H H' → E (.ref NW) none H') ∨
   ((∃ u : List Bool, x = .str (tx u) ∧ u ∈ B.map (·.1) ∧ BadSpot K H y (plc u)) ∧ ∀ H', Same H H' → E (.ref NP) none H'))
abbrev nSShort : List Str := ["self", "word", "place", "shorter", "many", "each"]
theorem scSShort : FnScope nSShort ["self", "word", "place"] (defScope sSShort) := ⟨rfl, rfl, rfl, by decide +kernel, rfl, by decide +kernel, by decide +kernel⟩
theorem ok_sshort {f f1 f2 f3 f4 f5 f6 : Addr} {fd fd1 fd2 fd3 fd4 fd5 fd6 : FuncData} {k : Nat} (F : Fun K "shorten" "Sum.shorten" sSShort f fd) (N1 : Fn K mg "is_row" sIsRow ["thing"] f1 fd1) (N2 : Fn K mg "is_word" sIsWord ["thing"] f2 fd2)
    (N3 : Fn K mg "need_word" sNeedWord ["thing"] f3 fd3) (N4 : Fn K mg "places_in" sPlaces ["word"] f4 fd4) (N5 : Fn K mg "is_whole" sIsWhole ["thing"] f5 fd5) (N6 : Fn K mg "shortened" sShort ["word", "place"] f6 fd6)
    (T : Txt K w mg d es n) (Z : Er K mg NW NP) (TS : TxtS K S) : FnOk P w K mg base (L2.CX P w) (k + 6) f fd ["self", "word", "place"] (spSShort K S NW NP) := by
  have G2 : FnOk P w K mg base CX0 (k + 5) f2 fd2 ["thing"] (spIsWord K) := ok_isword (k := k + 3) N2.F N1 T
  have G6 : FnOk P w K mg base (L2.CX P w) (k + 5) f6 fd6 ["word", "place"] (spShort K NW NP) := ok_short N6.F N1 N2 N3 N4 N5 T Z
  refine F.okX scSShort (fun vs H Q E h => ?_) (fun cdv A outer s H vs Q E hr h => ?_)
  · obtain ⟨v, p, B, x, y, rfl, _⟩ := h
    rfl
  · obtain ⟨v, p, B, x, y, rfl, sk, to, h⟩ := h
    have nd := scSShort.nd
    have hu : (A.deeper (PyProof.Rows.envOfC "Sum.shorten" (defScope sSShort) s.heap.objs.size f cdv)).units + 1 < cLine := by have := hr.units; omega
    refine ⟨_, pss_cons (ps_if (PW.pt (pw_or (pt_not (pt_val (pe_call G2 hr (by rfl) N2.g N2.F.kp N2.b .nil pass0 (pa_cons (pv 1) pa_nil)))) (pw_or1 (pt_cmp (pc_dnotin hu (pv 1) (pe_fld (pv 0) rfl)) rfl))))
        (pss_one (ps_raise rfl (takes_of rfl rfl rfl rfl) (pmk_own PySem.F.excBase_ValueError Z.W.x Z.gNW Z.W.k (raises_own Z.W.be Z.W.ty) rfl))) pss_nil)
      (pss_cons (ps_set (i := 3) nd rfl (.inl rfl) (pe_call G6 hr (by rfl) N6.g N6.F.kp N6.b .nil (passes_call (E := E) (takes_of rfl rfl rfl rfl) (fun _ _ _ _ h => h)) (pa_cons (pv 1) (pa_cons (pv 2) pa_nil))))
      (pss_cons (ps_set (i := 4) nd rfl (.inl rfl) (pe_dpop1 (pe_fld (pv 0) rfl) (pv 1) ⟨rfl, rfl, rfl, rfl⟩))
      (pss_one (ps_for (passes_of rfl) rfl (pi_tup (pv 3)) (pg_name (i := 5) nd rfl (.inl rfl))
        (pss_one (ps_dput hu (pe_fld (pv 0) rfl) (pv 5) (pe_op op_add (pe_dget2 hu (pe_fld (pv 0) rfl) (pv 5) pe_int ⟨rfl, rfl, rfl, rfl⟩) (pv 4)) rfl)))))), ?_⟩
    obtain ⟨⟨dx, e1⟩, e2⟩ := sk
    have kval : ∀ {u : List Bool}, u ∈ B.map (·.1) → valV (zv ιw B) (ιw u) = some (.int (gz u B)) := fun {u} hu1 => by
      have mem : tx u ∈ B.map (fun p => tx p.1) := by
        obtain ⟨p0, hp0, rfl⟩ := List.mem_map.mp hu1
        exact List.mem_map.mpr ⟨p0, hp0, rfl⟩
      have hv : valV (zv ιw B) (ιw u) = some (.int (cz (tx u) B)) := cz_val mem
      have hg := val_zv ιw_inj u B
      rw [hv] at hg
      rw [hv]
      exact congrArg some hg
    rcases h with ⟨u, j, rfl, rfl, hu1, hj, q⟩ | ⟨hw, q⟩ | ⟨⟨u, rfl, hu1, hb⟩, q⟩
    · have mu := gz_pos (fun p hp => (to.each p hp).1) hu1
      have h12 : u.length ≤ 12 := (to.each _ mu).2
      have hval := kval hu1
      refine ⟨.str (tx u), rfl, .str (tx u), true, rfl, .inr ⟨tx u, rfl, by rw [tx_len]; omega, (isWord_tx (by omega)).symm⟩, fun H1 s1 => ⟨true, rfl, iteF ?_⟩⟩
      refine ⟨.str (tx u), rfl, .ref v, rfl, v, S, dx, _, _, rfl, s1 _ _ e1, TS.cl, TS.no, rfl, p, _, rfl, DGet.k (k := ιw u) (s1 _ _ e2), _, rfl, ?_⟩
      rw [hval]
      refine iteF ⟨.str (tx u), rfl, wv j, rfl, .str (tx u), wv j, rfl, .inl ⟨u, j, rfl, rfl, by omega, hj, fun H2 t s2 nt et => ?_⟩⟩
      have s12 := s1.trans s2
      refine ⟨.ref v, rfl, v, S, dx, _, _, rfl, s12 _ _ e1, TS.cl, TS.no, rfl, p, rfl, .inl ⟨_, .inl (s12 _ _ e2)⟩, .str (tx u), rfl, _, ιw u, .int (gz u B), s12 _ _ e2, rfl, hval, ?_⟩
      rw [drop_zv]
      have ntp : t ≠ p := fun e => by
        rw [e, s12 _ _ e2] at et
        cases et
      have nvp : v ≠ p := fun e => by
        rw [e, e2] at e1
        cases e1
      refine ⟨.ref t, rfl, t, rfl, ⟨_, SqT.of (by rw [upd_ne ntp]; exact et)⟩, ?_⟩
      refine for_tup (K := K) (a := t) (xs := [.str (tx (shA u j)), .str (tx (shB u j))]) (fun i σ H' => (∃ y5, σ = [some (.ref v), some (.str (tx u)), some (wv j), some (.ref t), some (.int (gz u B)), y5]) ∧ (∀ a o, a ≠ p → H2 a = some o → H' a = some o) ∧
        H' p = some (.dK (zv ιw (([shA u j, shB u j].take i).foldl (fun l w => pz w (gz u B) l) (dz u B))))) ⟨⟨_, rfl⟩, fun a o na e => by rw [upd_ne na]; exact e, upd_same⟩ (fun i σ H' _ h => SqT.of (h.2.1 t _ ntp et)) ?_ ?_
      · rintro i x σ H' hx ⟨⟨y5, rfl⟩, kp, ed⟩
        obtain ⟨b, hb, rfl⟩ : ∃ b, [shA u j, shB u j][i]? = some b ∧ x = .str (tx b) := by
          match i, hx with
          | 0, h => exact ⟨_, rfl, (Option.some.inj h).symm⟩
          | 1, h => exact ⟨_, rfl, (Option.some.inj h).symm⟩
        have et1 : [shA u j, shB u j].take (i + 1) = [shA u j, shB u j].take i ++ [b] := by rw [List.take_add_one, hb]; rfl
        have oL : ∀ (ws : List (List Bool)) (L : Tal), Once L → Once (ws.foldl (fun l w => pz w (gz u B) l) L) ∧ (ws.foldl (fun l w => pz w (gz u B) l) L).length ≤ L.length + ws.length := fun ws => by
          induction ws with
          | nil => exact fun L o => ⟨o, Nat.le_refl _⟩
          | cons a r ih =>
            intro L o
            obtain ⟨h1, h2⟩ := ih (pz a (gz u B) L) (once_pz o)
            have h3 := len_pz a (gz u B) L
            refine ⟨h1, Nat.le_trans h2 ?_⟩
            rw [List.length_cons]
            omega
        obtain ⟨oL, lL⟩ := oL ([shA u j, shB u j].take i) (dz u B) (once_dz to.once)
        have l1 : (dz u B).length ≤ 4096 := Nat.le_trans (List.length_filter_le _ _) to.len
        have l2 : ([shA u j, shB u j].take i).length ≤ 2 := List.length_take_le' _ _
        have e3 := kp v _ nvp (s12 _ _ e1)
        generalize hL : ([shA u j, shB u j].take i).foldl (fun l w => pz w (gz u B) l) (dz u B) = L at ed oL lL
        refine ⟨.ref v, rfl, v, S, dx, _, _, rfl, e3, TS.cl, TS.no, rfl, p, rfl, .inl ⟨_, .inl ed⟩, .str (tx b), rfl, _, DGet.k (k := ιw b) ed, ?_⟩
        rw [val_zv ιw_inj b L]
        refine ⟨.int (gz u B), rfl, _, _, rfl, rfl, .ref v, rfl, v, S, dx, _, _, rfl, e3, TS.cl, TS.no, rfl, .str (tx b), rfl, p, _, rfl, DPut.k (k := ιw b) ed (by rw [zv, List.length_map]; exact fit' (by omega)), ⟨_, rfl⟩, fun a o na e => by rw [upd_ne na]; exact kp a o na e, ?_⟩
        rw [upd_same, put_zv ιw_inj b (gz u B) oL, et1, List.foldl_append, hL]
        rfl
      · rintro σ H' ⟨_, kp, ed⟩
        exact q H' (fun a o na e => kp a o na (s12 _ _ e)) ed
    · rcases hw with hw | ⟨z, rfl, hz, hwz, hnk⟩
      · exact ⟨x, rfl, x, false, rfl, hw, fun H1 s1 => ⟨false, rfl, iteT (q H1 s1)⟩⟩
      · refine ⟨.str z, rfl, .str z, true, rfl, .inr ⟨z, rfl, by omega, hwz.symm⟩, fun H1 s1 => ⟨true, rfl, iteF ?_⟩⟩
        refine ⟨.str z, rfl, .ref v, rfl, v, S, dx, _, _, rfl, s1 _ _ e1, TS.cl, TS.no, rfl, p, _, rfl, DGet.k (k := .inr z) (s1 _ _ e2), _, rfl, ?_⟩
        have hval : valV (zv ιw B) (.inr z) = none := cz_no hnk
        rw [hval]
        exact iteT (q H1 s1)
    · have mu := gz_pos (fun p hp => (to.each p hp).1) hu1
      have h12 : u.length ≤ 12 := (to.each _ mu).2
      have hval := kval hu1
      refine ⟨.str (tx u), rfl, .str (tx u), true, rfl, .inr ⟨tx u, rfl, by rw [tx_len]; omega, (isWord_tx (by omega)).symm⟩, fun H1 s1 => ⟨true, rfl, iteF ?_⟩⟩
      refine ⟨.str (tx u), rfl, .ref v, rfl, v, S, dx, _, _, rfl, s1 _ _ e1, TS.cl, TS.no, rfl, p, _, rfl, DGet.k (k := ιw u) (s1 _ _ e2), _, rfl, ?_⟩
      rw [hval]
      exact iteF ⟨.str (tx u), rfl, y, rfl, .str (tx u), y, rfl, .inr (.inl ⟨u, rfl, by omega, badspot_same s1 hb, fun H2 s2 => q H2 (s1.trans s2)⟩)⟩
end
end Hop

set_option Elab.async false
set_option linter.all false
set_option maxRecDepth 100000
set_option maxHeartbeats 4000000
namespace HopR
open PySem PySem.Spec PyProof.Rows L2
/-! ### a refusal over IndexError that keeps what was handed in: class N(IndexError), its __init__ says IndexError.__init__(self, text), then self.f = x -/
abbrev bmI : List Value := [.type "IndexError", .type "LookupError", .type "Exception", .type "BaseException", .type "object"]
/-- what is written of the class at C, whose __init__ is at fI, its field f -/
structure Kept (K : PySem.W.Frag) (C fI : Addr) (f : Str) : Prop where
  new : PySem.W.excInitIn K C bmI "IndexError.__new__" = true
  over : PySem.W.excOver K C bmI = true
  ini : PySem.W.findIn K (.ref C) "__init__" = some (some (.ref fI))
  fn : PySem.W.typeIn K (.ref fI) = some (.type "function")
  sa : PySem.W.findIn K (.ref C) "__setattr__" = some (some (.builtin "object.__setattr__"))
  taker : PySem.W.takerIn K C f = some none
  none_ : PySem.W.findIn K (.ref C) f = some none
  keep : PySem.W.keepIn K (.ref C) = true
  ty : PySem.W.typeIn K (.ref C) = some (.type "type")
  xf : XfC K C
theorem type_ie : typeOf (.type "IndexError") = pure (.type "type") := by kernel_rfl
/-- a dict laid for an exception, then named in it, then filled -/
theorem laid_dict {H : Hp} {a d : Addr} {o1 o2 o3 : HO} (n : d ≠ a) : upd (upd (upd H d o1) a o2) d o3 = upd (upd H d o3) a o2 := by
  funext b
  by_cases h1 : b = d
  · subst h1
    rw [upd_same, upd_ne n, upd_same]
  · rw [upd_ne h1]
    by_cases h2 : b = a
    · subst h2
      rw [upd_same, upd_same]
    · rw [upd_ne h2, upd_ne h2, upd_ne h1, upd_ne h1]
theorem gone_dict {H : Hp} {a d : Addr} {o1 o2 o3 o4 : HO} (n : d ≠ a) (na : H a = none) : upd (del (upd (upd (upd H a o1) d o2) a o3) a) d o4 = upd H d o4 := by
  funext b
  by_cases h1 : b = d
  · subst h1
    rw [upd_same, upd_same]
  · rw [upd_ne h1, upd_ne h1]
    by_cases h2 : b = a
    · subst h2
      rw [del_same, na]
    · rw [del_ne h2, upd_ne h2, upd_ne h1, upd_ne h2]
section
variable {X : Cx} {C fI a : Addr} {f : Str}
/-- self.f = y, on an exception without a dict -/
theorem keep_it {pins : List (Addr × Obj)} {σ : L2.St} {H : Hp} {s : Shared} {A : Around} {y : V} {u : Value} {Q : Unit → Shared → Prop} {E : Value → Shared → Prop} (T : Kept X.K C fI f) (I : Inv X pins σ H s) (ha : H a = some (exo a C none)) (r : RelV y u)
    (k : ∀ d s', H d = none → d ≠ a → Inv X pins σ (upd (upd H d (exd d [(f, y)])) a (exo a C (some d))) s' → Q () s') : wpAny (model X.prog X.w) A (setAttr (.ref a) f u) Q E s := by
  obtain ⟨t0, at0⟩ := exo_at I.hok ha
  obtain ⟨cd, c1, c2⟩ := PySem.W.any_some T.xf.hdC
  obtain ⟨hp, g, dr, tk, os⟩ := s
  have lt : a < hp.objs.size := Heap.lt_size at0
  have ne : hp.objs.size ≠ a := Nat.ne_of_gt lt
  refine PySem.W.set_plain (od := none) I.kIn ⟨at0, rfl, rfl, trivial⟩ T.sa ?_
  refine PySem.W.osa_openX (od := none) PySem.F.store_IndexError I.kIn ⟨at0, rfl, rfl, trivial⟩ T.over T.taker fun _ => ?_
  refine wpAny_bind (wpAny_pure (wpAny_bind (PySem.W.instanceDict_exc at0 (PySem.W.looks_clsIn I.kIn c1) c2 ?_)))
  refine HandSPX.store_in_new ?_ ?_
  · exact ⟨_, #[], _, (Heap.get?_update_other _ _ ne.symm).trans (Heap.get?_push_size _ rfl), rfl, fun e he => absurd he (by simp), fun _ => rfl⟩
  · intro h' tk' ns sb
    have I1 : Inv X pins σ (upd H hp.objs.size (exd hp.objs.size [])) ⟨hp.push (PySem.W.dictOf [] 0), g, dr, tk, os⟩ :=
      I.laid (a := hp.objs.size) (o := exd hp.objs.size []) (t' := tk) (fun b o q => Heap.get?_push_of_some _ q) (Nat.le_refl _) (exd_ok (mA := fun _ => none) (Heap.Ns1.of_empty ⟨_, #[], _, Heap.get?_push_size _ rfl, rfl, fun e he => absurd he (by simp), fun _ => rfl⟩) fun _ => True.intro)
    have a1 : (hp.push (PySem.W.dictOf [] 0)).get? a = some _ := Heap.get?_push_of_some _ at0
    have a2 := Heap.get?_update_self (fun o : Obj => { o with dict := some hp.objs.size }) a1 rfl
    have I2 := I1.write (x := a) (e := a) (o := exo a C (some hp.objs.size)) (t' := tk) (h' := (hp.push (PySem.W.dictOf [] 0)).update a fun o => { o with dict := some hp.objs.size }) (by rw [upd_ne ne.symm, ha]; exact True.intro) (.inl rfl)
      (fun b o hb q => (Heap.get?_update_other _ _ (Ne.symm hb)).trans q) ⟨_, a2⟩ (exo_ok a2)
    have d3 : ∃ o, h'.get? hp.objs.size = some o := by
      obtain ⟨o, _, _, q, _⟩ := ns
      exact ⟨o, q⟩
    have I3 := I2.write (x := hp.objs.size) (e := hp.objs.size) (o := exd hp.objs.size [(f, y)]) (t' := tk') (h' := h') (by rw [upd_ne ne, upd_same]; exact True.intro) (.inl rfl)
      (fun b o hb q => (sb.2 b hb).trans q) d3 (exd_ok ns (relO_put (fs := []) r fun g => True.intro))
    rw [laid_dict ne] at I3
    exact k _ _ (I.hok.fresh (Nat.le_refl _)) ne I3
/-- IndexError.__init__(self, ..): nothing of it is told -/
theorem init_ie {pins : List (Addr × Obj)} {σ : L2.St} {H : Hp} {s : Shared} {A : Around} {us : List Value} {Q : Value → Shared → Prop} {E : Value → Shared → Prop} (T : Kept X.K C fI f) (I : Inv X pins σ H s) (ha : H a = some (exo a C none)) (hl : us.length ≤ sizeLine)
    (k : ∀ s', Inv X pins σ H s' → Q .none s') : wpAny (model X.prog X.w) A (call (.builtin "IndexError.__init__") (.ref a :: us)) Q E s := by
  obtain ⟨nm, N, qn, bs, bm, hdct, sn, sub, ab, col, dd, k0, k1, k2, k3, k5, at1, cont⟩ := PySem.W.excInit_of I.kIn T.new
  obtain ⟨t0, at0⟩ := exo_at I.hok ha
  obtain ⟨hp, g, dr, tk, os⟩ := s
  refine wpAny_call (HandSPX.init_base PySem.F.excBase_IndexError cont at1 at0 hl ?_)
  intro h' t1 kp at2
  have same : upd H a (exo a C none) = H := by
    funext b
    by_cases hb : b = a
    · rw [hb, upd_same, ha]
    · rw [upd_ne hb]
  have J := I.write (x := a) (e := a) (o := exo a C none) (t' := tk) (h' := h') (by rw [ha]; exact True.intro) (.inl rfl) kp ⟨_, at2⟩ (exo_ok at2)
  rw [same] at J
  exact k _ J
variable {e o : Expr} {es : List Expr} {te to : TE} {ta : TA} {p p1 p2 p' pos : Pos}
/-- what is asked of IndexError.__init__(self, ..) -/
def tIeI (K : PySem.W.Frag) (f : Str) (ta : TA) : TE := fun σ H Q => ta σ H fun vs H1 => ∃ (a C fI : Addr) (ws : List V), vs = .ref a :: ws ∧ ws.length ≤ 1000 ∧ Kept K C fI f ∧ H1 a = some (exo a C none) ∧ Q .non H1
theorem pe_ieinit {pl : Sem Bool} (f : Str) (hg : Gl X "IndexError") (hm : X.mg "IndexError" = none) (vV : PySem.W.findCls X.K (.type "IndexError") (.type "type") "__init__" = some (.val (.builtin "IndexError.__init__"))) (ha : PA X (e :: es) ta)
    (hc : eval (.Call (.Attribute (.Name "IndexError" p1) "__init__" p2) (e :: es) [] pos) X.env = (do
      let ov ← eval (.Name "IndexError" p1) X.env
      standAt p2.atName
      let (m, first) ← holding [ov] (getMethod ov "__init__" pl)
      callWith pos m first (backTo pos (starEach (e :: es) X.env)) (backToKw pos (keywordEach [] X.env))) := by rfl)
    (he : starEach (e :: es) X.env = (false, eval e X.env) :: starEach es X.env := by rfl) (hpl : (backTo pos (starEach es X.env)).any (·.1) = false := by rfl) :
    PE X (.Call (.Attribute (.Name "IndexError" p1) "__init__" p2) (e :: es) [] pos) (tIeI X.K f ta) := by
  constructor
  intro pins s σ H Q I h
  obtain ⟨m, fr⟩ := I.fr
  refine PySem.W.methodCall_KW (ld_blt I hg hm PyProof.Rows.Boot.«IndexError» (PySem.W.method_type fr I.ok.mod.kin type_ie (by decide +kernel) vV (by decide +kernel) ?_) (by decide) (by decide)) hc
  show wpAny (model X.prog X.w) X.A (callWith pos (Value.builtin "IndexError.__init__") [] (backTo pos (starEach (e :: es) X.env)) []) _ _ _
  refine PyProof.Rows.callWith_method1 (thn (ha.run pos pins _ σ H _ (I.tok _) h) ?_) he hpl
  rintro us s1 ⟨vs, H1, J, r, a, C, fI, ws, rfl, hl, T, at1, q⟩
  cases r with
  | cons ra rr =>
    cases (show _ = Value.ref a from ra)
    refine init_ie T J at1 ?_ fun s' J' => ⟨.non, H1, J', rfl, q⟩
    have := Paired.length rr
    rw [sizeLine_eq]
    omega
/-- self.f = e -/
def tKeep (K : PySem.W.Frag) (f : Str) (to te : TE) : TS := fun D σ H => te σ H fun y H1 => to σ H1 fun x H2 => ∃ a C fI : Addr, x = .ref a ∧ Kept K C fI f ∧ H2 a = some (exo a C none) ∧ ∀ d, H2 d = none → d ≠ a → D.nx σ (upd (upd H2 d (exd d [(f, y)])) a (exo a C (some d)))
theorem ps_keep (ho : PE X o to) (he : PE X e te) (hs : swapsWith e (some (.Attribute o f p')) pos.line X.env = pure false := by rfl) : PS X (.Assign [.Attribute o f p'] e pos) (tKeep X.K f to te) := by
  constructor
  intro pins s σ H D I h
  refine plainObj_wpAny_Assign_Attribute (thn (he.run pins s σ H _ I h) ?_) hs
  rintro v s1 ⟨y, H1, I1, r1, q1⟩
  refine thn (ho.run pins s1 σ H1 _ I1 q1) ?_
  rintro u s2 ⟨x, H2, I2, r2, a, C, fI, rfl, T, ha, q⟩
  cases (show u = Value.ref a from r2)
  exact keep_it T I2 ha r1 fun d s' n ne J => ⟨σ, _, J, q d n ne⟩
/-- what __init__ does -/
def spKeepI (C : Addr) (f : Str) : Sp := fun vs H Q _ => ∃ (a : Addr) (y : V), vs = [.ref a, y] ∧ H a = some (exo a C none) ∧ ∀ d, H d = none → d ≠ a → Q .non (upd (upd H d (exd d [(f, y)])) a (exo a C (some d)))
/-- N(e): the refusal with its field, the dict at d new -/
def tMkK (C : Addr) (f : Str) (ta : TA) : L2.St → Hp → XK → Prop := fun σ H Q => ta σ H fun vs H1 => ∃ y, vs = [y] ∧ ∀ d, H1 d = none → Q (.ref C) (some d) (upd H1 d (.xd [(f, y)]))
theorem pmk_keep {x : Str} {k : Nat} {fd : FuncData} {ps : List Str} (T : Kept X.K C fI f) (F1 : FnOk X.prog X.w X.K X.mg X.base CX0 k fI fd ps (spKeepI C f)) (hr : Room (k + 1) X.A) (hb : Binds X.K fd ps []) (hg : Gl X x) (hm : X.mg x = some (.ref C)) (ha : PA X [e] ta)
    (hdb : (x == ("__debug__" : Str)) = false := by decide) (he : starEach (e :: []) X.env = (false, eval e X.env) :: starEach [] X.env := by rfl) (hpl : (backTo pos (starEach [] X.env)).any (·.1) = false := by rfl) :
    PMk X (.Call (.Name x p) [e] [] pos) (tMkK C f ta) := by
  intro pins s0 σ H0 Q I0 h0
  refine wpAny_Call_Name_kw (ld_glob I0 hg hm ?_ hdb)
  refine PySem.W.callWith_K (h₀ := X.base) I0.ok.mod.kin T.keep (thn (ha.run pos pins s0 σ H0 _ I0 h0) ?_) he hpl
  rintro us s ⟨vs, H, I, r, y, rfl, q⟩
  refine ⟨I.kIn, ?_⟩
  obtain ⟨nm, N, qn, bs, bm, hdct, sn, sub, ab, col, dd, k0, k1, k2, k3, k5, at1, cont⟩ := PySem.W.excInit_of I.kIn T.new
  obtain ⟨hp, g, dr, tk, os⟩ := s
  have na : H (hp.objs.size + 1) = none := I.hok.fresh (Nat.le_succ _)
  have old : ∀ b u, hp.get? b = some u → ((hp.push (PySem.W.kdv_tup us)).push (HandSPX.excO C hp.objs.size)).get? b = some u := fun b u q => Heap.get?_push_of_some _ (Heap.get?_push_of_some _ q)
  have at2 : ((hp.push (PySem.W.kdv_tup us)).push (HandSPX.excO C hp.objs.size)).get? (hp.objs.size + 1) = some (HandSPX.excO C hp.objs.size) := by heap_get
  have J : Inv X pins σ (upd H (hp.objs.size + 1) (exo (hp.objs.size + 1) C none)) ⟨(hp.push (PySem.W.kdv_tup us)).push (HandSPX.excO C hp.objs.size), g, dr, tk, os⟩ := I.laid (t' := tk) old (Nat.le_succ _) (exo_ok at2)
  have rr : Vals [V.ref (hp.objs.size + 1), y] (Value.ref (hp.objs.size + 1) :: us) := .cons rfl r
  have sp : spKeepI C f [V.ref (hp.objs.size + 1), y] (upd H (hp.objs.size + 1) (exo (hp.objs.size + 1) C none)) (fun v H2 => v = .non ∧ ∃ d, H d = none ∧ d ≠ hp.objs.size + 1 ∧ H2 = upd (upd (upd H (hp.objs.size + 1) (exo (hp.objs.size + 1) C none)) d (exd d [(f, y)])) (hp.objs.size + 1) (exo (hp.objs.size + 1) C (some d))) (fun _ _ _ => False) :=
    ⟨_, y, rfl, upd_same, fun d nd ne => ⟨rfl, d, by rw [upd_ne ne] at nd; exact nd, ne, rfl⟩⟩
  have hl : (Value.ref (hp.objs.size + 1) :: us).length = ps.length := rr.length.symm.trans (F1.len _ _ _ _ sp)
  have bi := hb _ (Value.ref (hp.objs.size + 1) :: us) J.kIn (by rw [List.append_nil]; exact hl)
  rw [List.append_nil] at bi
  have lu : us.length ≤ sizeLine := by
    rw [← Paired.length r]
    show 1 ≤ sizeLine
    decide
  refine wpAny_call (HandSPX.call_own PySem.F.excBase_IndexError cont at1 (PySem.W.looks_findIn I.kIn T.ini) (fun self => PySem.W.bind_fn I.kIn self T.fn) lu
    (codeAny_mono (F1.run _ X.stack _ _ ⟨Value.ref (hp.objs.size + 1) :: us, []⟩ _ _ _ _ (hr.make C us []) (J.env0.make C us []) bi rr sp) ?_))
  intro res s' z
  match res, z with
  | .error er, z =>
    have no : Passes CX0 X (fun _ _ _ => False) := fun _ _ _ _ _ _ _ h => h.elim
    exact no pins σ _ _ er s' J z
  | .ok (.ret u), z =>
    obtain ⟨v, H2, os2, bare2, un2, hok2, rv, rfl, d, nd, ne, rfl⟩ := z
    obtain ⟨hz, gz, dz, tz, oz⟩ := s'
    refine ⟨rv, mk_end (d := d) (fs := [(f, y)]) (raises_own T.xf.exC T.ty) I (Nat.le_succ _) old un2 hok2 os2 bare2 upd_same (by rw [upd_ne ne, upd_same]) nd ?_⟩
    rw [gone_dict ne na]
    exact q d nd
  | .ok .next, z => exact z.elim
  | .ok .brk, z => exact z.elim
  | .ok .cont, z => exact z.elim
end
end HopR

set_option Elab.async false
set_option linter.all false
set_option maxRecDepth 100000
set_option maxHeartbeats 4000000
namespace HopR
open PySem PySem.Spec PyProof.Rows L2
/-! ### a kept refusal that has a field -/
section
variable {X : Cx}
/-- what H says of a kept exception of the class at D with the fields fs -/
def Fld (H : Hp) (a D : Addr) (fs : List (Str × V)) : Prop := ∃ d, H a = some (ExH (.ref D) (some d) a) ∧ H d = some (.xd fs)
theorem fld_at {pins : List (Addr × Obj)} {σ : L2.St} {H : Hp} {s : Shared} {a D : Addr} {fs : List (Str × V)} (I : Inv X pins σ H s) (hf : Fld H a D fs) : ∃ oe od, PySem.W.InstAt s.heap a oe D (some od) ∧ ∀ n v, fs.lookup n = some v → ∃ u, PySem.W.lookIn n od = some (some u) ∧ RelV v u := by
  obtain ⟨d, h1, h2⟩ := hf
  obtain ⟨⟨oe, vs, e, ⟨z1, z2⟩, q⟩, _, _⟩ := I.hok a _ h1
  have ok : ObjOk X.prog X.w H s.heap d (.xd fs) := I.hok d _ h2
  obtain ⟨mA, ns, rel⟩ := ok
  obtain ⟨od, at2, look⟩ := lookIn_ns ns
  refine ⟨oe, od, ⟨e, z1, ?_, by rw [z2]; exact at2⟩, fun n v l => ?_⟩
  · unfold PySem.W.notCls
    rw [q]
  · have r := rel n
    rw [l] at r
    obtain ⟨u, hu, ru⟩ := RelO.some_of r
    exact ⟨u, by rw [look, hu], ru⟩
theorem kit_fld {K : PySem.W.Frag} {a D : Addr} {oe : Obj} {od : Option Obj} (C : ExcC K D) : PySem.W.KitX K (.ref a) (.ref D) (fun h => PySem.W.InstAt h a oe D od) :=
  PySem.W.kitx_exc (by obtain ⟨cd, hc, _⟩ := PySem.W.any_some C.hd; rw [hc]; rfl) C.hg C.hk C.hs C.ha C.hn C.ht C.hm
/-- isinstance(kept, c) -/
def rIsF (K : PySem.W.Frag) : List V → Hp → VK → Prop := fun xs H Q => ∃ (a D : Addr) (fs : List (Str × V)) (c : V) (cv : Value) (b : Bool), xs = [.ref a, c] ∧ Fld H a D fs ∧ ExcC K D ∧ ClsV c cv ∧ PySem.W.kitOne K (.ref D) cv = some b ∧ Q (.bl b) H
theorem call_isF : CallR X (.builtin "isinstance") (rIsF X.K) := by
  rintro pins s σ H xs us Q I r ⟨a, D, fs, c, cv, b, rfl, hf, C, kc, e, q⟩
  obtain ⟨u1, u2, rfl, r1, r2⟩ := vals2 r
  obtain rfl := kc.eq r2
  cases (show u1 = Value.ref a from r1)
  obtain ⟨oe, od, J, _⟩ := fld_at I hf
  exact PySem.W.kia_one (kit_fld C) I.kIn J e (fun z => nomatch z) fun tk => ⟨.bl b, H, I.tok tk, rfl, q⟩
/-- isinstance(kept, (c1, c2, ..)) -/
def rIsFT (K : PySem.W.Frag) : List V → Hp → VK → Prop := fun xs H Q => ∃ (a D tp : Addr) (fs : List (Str × V)) (cs : List V) (ws : List Value) (b : Bool), xs = [.ref a, .ref tp] ∧ Fld H a D fs ∧ ExcC K D ∧ H tp = some (.tup cs) ∧ Paired ClsV cs ws ∧ PySem.W.kitAny K (.ref D) ws = some b ∧ Q (.bl b) H
theorem call_isFT : CallR X (.builtin "isinstance") (rIsFT X.K) := by
  rintro pins s σ H xs us Q I r ⟨a, D, tp, fs, cs, ws, b, rfl, hf, C, ht, kc, e, q⟩
  obtain ⟨u1, u2, rfl, r1, r2⟩ := vals2 r
  cases (show u1 = Value.ref a from r1)
  cases (show u2 = Value.ref tp from r2)
  obtain ⟨oe, od, J, _⟩ := fld_at I hf
  have hT : ObjOk X.prog X.w H s.heap tp (.tup cs) := I.hok tp _ ht
  obtain ⟨_, its, rv, ⟨oc, odd, dt, osl⟩, g1, g2, n, g3⟩ := hT
  obtain rfl := ClsV.all kc rv
  simp only at g2 g3
  subst g2 g3
  exact PySem.W.kia_tup (kit_fld C) I.kIn J g1 e (fun z => nomatch z) fun tk => ⟨.bl b, H, I.tok tk, rfl, q⟩
/-- kept.n -/
def tFldH (K : PySem.W.Frag) (n : Str) (te : TE) : TE := fun σ H Q => te σ H fun x H1 => ∃ (a D : Addr) (fs : List (Str × V)) (v : V), x = .ref a ∧ Fld H1 a D fs ∧ XfC K D ∧ PySem.W.findIn K (.ref D) n = some none ∧ fs.lookup n = some v ∧ Q v H1
theorem pe_fldH {e : Expr} {te : TE} {pos : Pos} {n : Str} (he : PE X e te) (hb : attributeBase e n X.env (eval e X.env) = eval e X.env := by rfl) : PE X (.Attribute e n pos) (tFldH X.K n te) := by
  constructor
  intro pins s σ H Q I h
  refine attr_of hb (thn (he.run pins s σ H _ I h) ?_)
  rintro u s1 ⟨x, H1, I1, rx, a, D, fs, v, rfl, hf, T, no, l, q⟩
  cases (show u = Value.ref a from rx)
  obtain ⟨oe, od, J, look⟩ := fld_at I1 hf
  obtain ⟨w, e1, e2⟩ := look n v l
  exact HandSPX.exc_get I1.kIn J T.ga T.gg T.exC (PySem.W.findObj_own T.hdC no rfl e1) (handed_of e2) ⟨v, H1, I1.tok _, e2, q⟩
end
end HopR

set_option Elab.async false
set_option linter.all false
set_option maxRecDepth 100000
namespace HopR
open PySem PySem.Spec PyProof.Rows L2
/-! ### what repr tells, of data and of the empty dict -/
section
variable {X : Cx}
def rReprE : List V → Hp → VK → Prop := fun vs H Q => ∃ a : Addr, vs = [.ref a] ∧ H a = some (.dK []) ∧ Q (.str (PyData.shown (.dict []))) H
theorem cr_reprE (hG : X.A.guards = some []) (hu : X.A.units + 66 < cLine) : CallR X (.builtin "repr") rReprE := by
  rintro pins s σ H _ us Q I r ⟨a, rfl, ha, q⟩
  obtain ⟨u, rfl, rv⟩ := vals1 r
  cases (show u = Value.ref a from rv)
  obtain ⟨_, hsys, vs, kv, o, es, ep, at1, at2, at3, at4, at5, at6⟩ := (show ObjOk X.prog X.w H s.heap a (.dK []) from I.hok a _ ha)
  cases kv
  have e0 : es.toList = [] := by
    generalize es.toList = l at at5
    cases at5
    rfl
  have rd : Reads s.heap (.ref a) (.dict []) (a :: [] ++ []) := Reads.dict at1 at2.1 at3 (by rw [e0]; exact .nil) (by rw [e0]; exact .nil)
  refine repr_of_reads' rd (by decide) (fun _ hm => ?_) hG (by show X.A.units + (1 + 1) < cLine; omega) (fun _ _ e => e) (fun h' t tk hk => ⟨.str _, H, I.kept hk, ⟨_, rfl⟩, q⟩) (by decide +kernel)
  have : sysModules = a := by simpa using hm
  rw [this] at hsys
  simp at hsys
/-- repr(y): data, or {} -/
def rReprA (K : PySem.W.Frag) : List V → Hp → VK → Prop := fun vs H Q => rReprD K vs H Q ∨ rReprE vs H Q
theorem cr_reprA (hG : X.A.guards = some []) (hu : X.A.units + 66 < cLine) : CallR X (.builtin "repr") (rReprA X.K) := by
  intro pins s σ H xs us Q I r h
  rcases h with h | h
  · exact cr_reprD hG hu pins s σ H xs us Q I r h
  · exact cr_reprE hG hu pins s σ H xs us Q I r h
end
/-- repr tells z of y, now and later -/
def ShownA (K : PySem.W.Frag) (H : Hp) (y : V) (z : Str) : Prop := ∀ H', Same H H' → ∀ Q : VK, Q (.str z) H' → rReprA K [y] H' Q
theorem shownA_same {K : PySem.W.Frag} {H H' : Hp} {y : V} {z : Str} (s : Same H H') (h : ShownA K H y z) : ShownA K H' y z := fun H2 s2 => h H2 (s.trans s2)
theorem shownA_of {K : PySem.W.Frag} {H : Hp} {y : V} {d : PyData} (h1 : ∀ H', Same H H' → Dp K H' y d) (h2 : d.showable = true) (h3 : d.hasDict = false) (h4 : d.depth ≤ 64) (h5 : d.shown.length ≤ sizeLine) : ∃ z, ShownA K H y z := ⟨d.shown, fun H' s Q q => .inl ⟨y, d, rfl, h1 H' s, h2, h3, h4, h5, q⟩⟩
theorem shownA_non {K : PySem.W.Frag} {H : Hp} : ∃ z, ShownA K H .non z := shownA_of (d := .none) (fun _ _ => .non) rfl rfl (by decide) (by decide +kernel)
theorem shownA_bl {K : PySem.W.Frag} {H : Hp} {b : Bool} : ∃ z, ShownA K H (.bl b) z := shownA_of (d := .bool b) (fun _ _ => .bl b) rfl rfl (by show 0 ≤ 64; decide) (by cases b <;> decide +kernel)
theorem shownA_0 {K : PySem.W.Frag} {H : Hp} : ∃ z, ShownA K H (.str "0") z := shownA_of (d := .str "0") (fun _ _ => .str "0") rfl rfl (by show 0 ≤ 64; decide) (by decide +kernel)
theorem shownA_int {K : PySem.W.Frag} {H : Hp} {i : Int} (h : i.natAbs < 1000000000000) : ∃ z, ShownA K H (.int i) z := by
  have o : Okd (.int i) 0 41 := Okd.int h
  exact shownA_of (d := .int i) (fun _ _ => .int i) o.sh o.nd (Nat.le_trans o.dp (by decide)) (o.fits (by decide))
theorem shownA_30 {K : PySem.W.Frag} {H : Hp} : ∃ z, ShownA K H (.int 1000000000000000000000000000000) z := shownA_of (d := .int _) (fun _ _ => .int _) (by decide +kernel) rfl (by show 0 ≤ 64; decide) (by decide +kernel)
theorem shownA_lst {K : PySem.W.Frag} {H : Hp} {p : Addr} {k : Nat} (h : k < 1000) (e : H p = some (.lst [wv k])) : ∃ z, ShownA K H (.ref p) z := by
  have o : Okd (.list ([k].map dw)) 1 (42 * 1) := (Okds.ints (ks := [k]) (k := 0) fun j hj => by
    obtain rfl := List.mem_singleton.mp hj
    omega).list
  exact shownA_of (d := .list ([k].map dw)) (fun H' s => .lst (SqL.of (s _ _ e)) (dp_walls [k])) o.sh o.nd (Nat.le_trans o.dp (by decide)) (o.fits (by decide))
theorem shownA_tup {K : PySem.W.Frag} {H : Hp} {p : Addr} {k : Nat} (h : k < 1000) (e : H p = some (.tup [wv k])) : ∃ z, ShownA K H (.ref p) z := by
  have o : Okd (.tuple ([k].map dw)) 1 (42 * 1) := (Okds.ints (ks := [k]) (k := 0) fun j hj => by
    obtain rfl := List.mem_singleton.mp hj
    omega).tuple
  exact shownA_of (d := .tuple ([k].map dw)) (fun H' s => .tup (SqT.of (s _ _ e)) (dp_walls [k])) o.sh o.nd (Nat.le_trans o.dp (by decide)) (o.fits (by decide))
theorem shownA_dK {K : PySem.W.Frag} {H : Hp} {p : Addr} (e : H p = some (.dK [])) : ∃ z, ShownA K H (.ref p) z := ⟨_, fun H' s Q q => .inr ⟨p, rfl, s _ _ e, q⟩⟩
end HopR

set_option Elab.async false
set_option linter.all false
set_option maxRecDepth 100000
namespace HopR
open PySem PySem.Spec PyProof.Rows L2
/-! ### C(e, ..) in a try, where __init__ may raise -/
def tMakeS (C : Addr) (sp : Sp) (E : L2.St → XK) (t : TA) : TE := fun σ H Q => t σ H fun vs H1 => ∀ x dx, H1 x = none → H1 dx = none → dx ≠ x → sp (.ref x :: vs) (upd (upd H1 dx (.own x)) x (.ins C dx [])) (fun v H2 => v = .non ∧ Q (.ref x) H2) (E σ)
section
variable {X : Cx} {CX : CXT} {k : Nat} {f C : Addr} {fd : FuncData} {ps : List Str} {sp : Sp} {E : L2.St → XK} {x : Str} {p pos : Pos} {e : Expr} {es : List Expr} {t : TA}
theorem pe_makeS (M : Mk X.K C f) (F : FnOk X.prog X.w X.K X.mg X.base CX k f fd ps sp) (hr : Room (k + 1) X.A) (hg : Gl X x) (hm : X.mg x = some (.ref C)) (hb : Binds X.K fd ps []) (hx : ∀ σ, PassesAt CX X σ (E σ))
    (ha : PA X (e :: es) t) (hdb : (x == ("__debug__" : Str)) = false := by decide) (he : starEach (e :: es) X.env = (false, eval e X.env) :: starEach es X.env := by rfl) (hpl : (backTo pos (starEach es X.env)).any (·.1) = false := by rfl) :
    PE X (.Call (.Name x p) (e :: es) [] pos) (tMakeS C sp E t) := by
  constructor
  intro pins s0 σ H0 Q I0 h0
  refine wpAny_Call_Name_kw (ld_glob I0 hg hm ?_ hdb)
  refine PySem.W.callWith_K (h₀ := X.base) I0.ok.mod.kin M.kp ?_ he hpl
  refine thn (ha.run pos pins s0 σ H0 _ I0 h0) ?_
  rintro us s ⟨vs, H, I, r, h⟩
  refine ⟨I.kIn, ?_⟩
  have hq := h (s.heap.objs.size + 1) s.heap.objs.size (I.hok.fresh (Nat.le_succ _)) (I.hok.fresh (Nat.le_refl _)) (Nat.ne_of_lt (Nat.lt_succ_self _))
  have J := Inv.made (C := C) I
  have r2 : Vals (V.ref (s.heap.objs.size + 1) :: vs) (Value.ref (s.heap.objs.size + 1) :: us) := .cons rfl r
  have hl : (Value.ref (s.heap.objs.size + 1) :: us).length = ps.length := r2.length.symm.trans (F.len _ _ _ _ hq)
  have hbi := hb _ (Value.ref (s.heap.objs.size + 1) :: us) J.kIn (by rw [List.append_nil]; exact hl)
  rw [List.append_nil] at hbi
  have run := F.run _ X.stack _ _ ⟨Value.ref (s.heap.objs.size + 1) :: us, []⟩ _ _ _ (E σ) (hr.make C us []) (J.env0.make C us []) hbi r2 hq
  refine wpAny_call (make_map (f := f) I.kIn M.makes M.init (beq_iff_eq.mp M.fn) (codeAny_mono run ?_))
  intro r s' hq'
  match r, hq' with
  | .error e, hq' => exact hx σ pins _ _ e s' J hq'
  | .ok (.ret u), hq' =>
    obtain ⟨v, H', I3, rv, ev, q3⟩ := J.after hq'
    subst ev
    exact ⟨rv, V.ref (s.heap.objs.size + 1), H', I3, rfl, q3⟩
  | .ok .next, hq' => exact hq'.elim
  | .ok .brk, hq' => exact hq'.elim
  | .ok .cont, hq' => exact hq'.elim
end
end HopR

set_option Elab.async false
set_option linter.all false
set_option maxRecDepth 100000
namespace HopR
open PySem PySem.Spec PyProof.Rows L2
/-! ### len, str and repr of objects of an own class; an attribute as a target -/
section
variable {X : Cx} {CX : CXT} {n : Nat} {C f : Addr} {fd : FuncData} {ps : List Str} {sp : Sp} {E : XK}
/-- a def called by a built-in that runs in the same frames -/
theorem call_at {A : Around} {pins : List (Addr × Obj)} {σ : L2.St} {H : Hp} {s : Shared} {Q : VK} {us : List Value} {vs : List V} (F : FnOk X.prog X.w X.K X.mg X.base CX n f fd ps sp) (room : Room n A) (frames : A.frames = X.A.frames) (bind : Binds X.K fd ps []) (lets : Passes CX X E)
    (I : Inv X pins σ H s) (vals : Vals vs us) (prom : sp vs H Q E) : wpAny (model X.prog X.w) A (call (.ref f) us) (EP X pins σ Q) X.xe s := by
  have I0 := I.env0
  have here : Env0 X.prog X.w X.K X.mg X.base A X.stack s H := { frames := frames.trans I0.frames, mod := I0.mod, bs := I0.bs, bsz := I0.bsz, funs := I0.funs, frf := I0.frf, hok := I0.hok, bare := I0.bare }
  have size := vals.length.symm.trans (F.len _ _ _ _ prom)
  have bound := bind s us I.kIn (by rw [List.append_nil]; exact size)
  rw [List.append_nil] at bound
  refine wpAny_call (codeAny_mono (F.run A X.stack s H ⟨us, []⟩ us vs Q E room here bound vals prom) fun r s' h => ?_)
  have said := after_call lets I h
  cases r with
  | error e => exact said
  | ok fl => cases fl <;> exact said
/-- one object of the class, and what its method promises of it -/
def rOwn1 (C : Addr) (sp : Sp) (E : XK) (R : V → Hp → VK → Prop) : List V → Hp → VK → Prop := fun xs H Q => ∃ a dx fs, xs = [.ref a] ∧ H a = some (.ins C dx fs) ∧ sp [.ref a] H (fun v H' => R v H' Q) E
def isLen : V → Hp → VK → Prop := fun v H Q => ∃ i : Int, v = .int i ∧ (0 ≤ i ∧ i < 2 ^ 63) ∧ Q (.int i) H
def isTxt : V → Hp → VK → Prop := fun v H Q => ∃ z : Str, v = .str z ∧ Q (.str z) H
/-- len(o) -/
theorem cr_lenOwn (len : PySem.W.findIn X.K (.ref C) "__len__" = some (some (.ref f))) (fn : PySem.W.isFn X.K (.ref f) = true) (F : FnOk X.prog X.w X.K X.mg X.base CX n f fd ps sp) (room : Room (n + 1) X.A) (bind : Binds X.K fd ps []) (lets : Passes CX X E) :
    CallR X (.builtin "len") (rOwn1 C sp E isLen) := by
  rintro pins s σ H _ us Q I r ⟨a, dx, fs, rfl, ha, prom⟩
  obtain ⟨u, rfl, rv⟩ := vals1 r
  cases rv
  obtain ⟨_, J, _⟩ := ins_get I.hok ha
  obtain ⟨od, J, _⟩ := J.look
  obtain ⟨m, F0⟩ := I.fr
  refine PySem.W.len_K F0 I.ok.mod.kin J len fn (thn (call_at F room.in1 rfl bind lets I (us := [.ref a]) (vs := [.ref a]) (.cons rfl .nil) prom) ?_)
  rintro w s' ⟨z, H', I', rz, i, rfl, hi, q⟩
  obtain ⟨t, rfl⟩ := rz
  exact ⟨hi, .int i, H', I'.tok _, ⟨_, rfl⟩, q⟩
/-- str(o) -/
theorem cr_strOwn (str : PySem.W.findIn X.K (.ref C) "__str__" = some (some (.ref f))) (fn : PySem.W.isFn X.K (.ref f) = true) (F : FnOk X.prog X.w X.K X.mg X.base CX n f fd ps sp) (room : Room (n + 2) X.A) (bind : Binds X.K fd ps []) (lets : Passes CX X E) :
    CallR X (.type "str") (rOwn1 C sp E isTxt) := by
  rintro pins s σ H _ us Q I r ⟨a, dx, fs, rfl, ha, prom⟩
  obtain ⟨u, rfl, rv⟩ := vals1 r
  cases rv
  obtain ⟨_, J, _⟩ := ins_get I.hok ha
  obtain ⟨od, J, _⟩ := J.look
  have un := room.un
  refine PySem.W.kso_call (by show X.A.units + 1 + 1 < cLine; omega) I.kIn J str fn (thn (call_at F room.in1.in1 rfl bind lets I (us := [.ref a]) (vs := [.ref a]) (.cons rfl .nil) prom) ?_)
  rintro w s' ⟨z, H', I', rz, y, rfl, q⟩
  obtain ⟨t, rfl⟩ := rz
  exact ⟨.str y, H', I', ⟨_, rfl⟩, q⟩
/-- repr(o) -/
theorem cr_reprOwn (rep : PySem.W.findIn X.K (.ref C) "__repr__" = some (some (.ref f))) (fn : PySem.W.isFn X.K (.ref f) = true) (F : FnOk X.prog X.w X.K X.mg X.base CX n f fd ps sp) (room : Room (n + 1) X.A) (bind : Binds X.K fd ps []) (lets : Passes CX X E) :
    CallR X (.builtin "repr") (rOwn1 C sp E isTxt) := by
  rintro pins s σ H _ us Q I r ⟨a, dx, fs, rfl, ha, prom⟩
  obtain ⟨u, rfl, rv⟩ := vals1 r
  cases rv
  obtain ⟨_, J, _⟩ := ins_get I.hok ha
  obtain ⟨od, J, _⟩ := J.look
  obtain ⟨m, F0⟩ := I.fr
  have un := room.un
  refine PySem.W.repr_K (by show X.A.units + 1 < cLine; omega) F0 I.ok.mod.kin J rep fn (thn (call_at F room.in1 rfl bind lets I (us := [.ref a]) (vs := [.ref a]) (.cons rfl .nil) prom) ?_)
  rintro w s' ⟨z, H', I', rz, y, rfl, q⟩
  obtain ⟨t, rfl⟩ := rz
  exact ⟨.str y, H', I', ⟨_, rfl⟩, q⟩
end
section
variable {X : Cx}
/-- o.f as a target: the field is put -/
def gFld (K : PySem.W.Frag) (to : TE) (f : Str) : TG := fun v σ H Q => to σ H fun o H1 => ∃ a C dx fs, o = .ref a ∧ H1 a = some (.ins C dx fs) ∧ Cls K C ∧ NoAttr K C f ∧ fs.length < 1000 ∧ Q σ (upd H1 a (.ins C dx (putF f v fs)))
theorem pg_fld {o : Expr} {to : TE} {f : Str} {pos : Pos} (ho : PE X o to) : PG X (.Attribute o f pos) (gFld X.K to f) := by
  constructor
  intro pins s σ H v u Q I r h
  rw [assign_Attribute]
  refine wpAny_bind (wpAny_holding (thn (ho.run pins s σ H _ I h) ?_))
  rintro ov s1 ⟨x, H1, I1, rx, a, C, dx, fs, rfl, ea, c, na, few, q⟩
  cases rx
  refine wpAny_bind (wpAny_standAt (wpAny_bind (wpAny_holding (setattr_ok I1 ea c na few r fun s2 I2 => ?_))))
  exact wpAny_release ⟨σ, _, I2, q⟩
end
end HopR

set_option Elab.async false
set_option linter.all false
set_option maxRecDepth 100000
namespace HopR
open PySem PySem.Spec PyProof.Rows L2
/-! ### o.m(e, ..) in a try, where the method may raise: the wish may speak of the names' values -/
def tMethT (C : Addr) (m : Str) (sp : Sp) (E : L2.St → XK) (to : TE) (t : TA) : TE := fun σ H Q => to σ H fun x H1 => ∃ a dx fs, x = .ref a ∧ H1 a = some (.ins C dx fs) ∧ fs.lookup m = none ∧ t σ H1 fun vs H2 => sp (.ref a :: vs) H2 Q (E σ)
section
variable {X : Cx} {CX : CXT} {k : Nat} {f C : Addr} {fd : FuncData} {ps : List Str} {sp : Sp} {E : L2.St → XK} {m : Str} {apos pos : Pos} {o e : Expr} {es : List Expr} {to : TE} {t : TA}
theorem pe_methT {pl : Sem Bool} (ho : PE X o to) (c : Cls X.K C) (hm : Meth X.K C m f) (F : FnOk X.prog X.w X.K X.mg X.base CX k f fd ps sp) (hr : Room k X.A) (hb : Binds X.K fd ps []) (hx : ∀ σ, PassesAt CX X σ (E σ)) (ha : PA X (e :: es) t)
    (h1 : starEach (e :: es) X.env = (false, eval e X.env) :: starEach es X.env := by rfl) (h2 : (backTo pos (starEach es X.env)).any (·.1) = false := by rfl)
    (h3 : eval (.Call (.Attribute o m apos) (e :: es) [] pos) X.env = (do
      let ov ← eval o X.env
      standAt apos.atName
      let (g, first) ← holding [ov] (getMethod ov m pl)
      callWith pos g first (backTo pos (starEach (e :: es) X.env)) (backToKw pos (keywordEach [] X.env))) := by rfl) :
    PE X (.Call (.Attribute o m apos) (e :: es) [] pos) (tMethT C m sp E to t) := by
  constructor
  intro pins s0 σ H0 Q I0 h0
  refine PySem.W.methodCall_KW (pl := pl) (thn (ho.run pins s0 σ H0 _ I0 h0) ?_) h3
  rintro u s1 ⟨x, H1, I1, rx, a, dx, fs, rfl, ea, no, q⟩
  cases (show u = Value.ref a from rx)
  refine getmeth_ok I1 ea c hm no ?_
  refine PySem.W.callWith_K (first := [.ref a]) (h₀ := X.base) I0.ok.mod.kin hm.kp (thn (ha.run pos pins s1 σ H1 _ I1 q) ?_) h1 h2
  rintro us s ⟨vs, H, I, r, prom⟩
  refine ⟨I.kIn, ?_⟩
  have vals : Vals (V.ref a :: vs) (Value.ref a :: us) := .cons rfl r
  have len : (Value.ref a :: us).length = ps.length := vals.length.symm.trans (F.len _ _ _ _ prom)
  have bound := hb s (Value.ref a :: us) I.kIn (by rw [List.append_nil]; exact len)
  rw [List.append_nil] at bound
  refine wpAny_call (codeAny_mono (F.run X.A X.stack s H ⟨Value.ref a :: us, []⟩ _ _ Q (E σ) hr I.env0 bound vals prom) ?_)
  intro res s' z
  match res, z with
  | .error er, z => exact hx σ pins _ _ er s' I z
  | .ok (.ret _), z => exact I.after z
  | .ok .next, z => exact z.elim
  | .ok .brk, z => exact z.elim
  | .ok .cont, z => exact z.elim
end
end HopR

set_option Elab.async false
set_option linter.all false
set_option maxRecDepth 100000
namespace HopR
open PySem L2
/-- a list of draws by its places -/
theorem draws2 {c z0 z1 : Int} (h0 : 0 < z0) (h1 : 0 < z1) : ∃ d0 d1 : Int, draws c 0 [z0, z1] = [d0, d1] ∧ (0 ≤ d0 ∧ d0 < z0) ∧ (0 ≤ d1 ∧ d1 < z1) := by
  have hl := draws_len [z0, z1] c 0
  match hd : draws c 0 [z0, z1], hl with
  | [d0, d1], _ =>
    have hp : ∀ z ∈ [z0, z1], 0 < z := by
      intro z hz
      simp only [List.mem_cons, List.not_mem_nil, or_false] at hz
      rcases hz with rfl | rfl
      · exact h0
      · exact h1
    exact ⟨d0, d1, rfl, draws_ok _ c 0 hp 0 d0 z0 (by rw [hd]; rfl) rfl, draws_ok _ c 0 hp 1 d1 z1 (by rw [hd]; rfl) rfl⟩
end HopR

set_option Elab.async false
set_option linter.all false
set_option maxRecDepth 100000
namespace HopR
open PySem L2
/-! ### texts by their codes -/
def rt (cs : List Nat) : Str := ⟨cs.toArray⟩
def one (c : Nat) : Str := ⟨#[c]⟩
theorem rt_list (cs : List Nat) : (rt cs).cps.toList = cs := by simp [rt]
theorem rt_len (cs : List Nat) : (rt cs).length = cs.length := by
  show cs.toArray.size = cs.length
  simp
theorem rt_of (z : Str) : rt z.cps.toList = z := ext_str (rt_list _)
theorem rt_inj {a b : List Nat} (h : rt a = rt b) : a = b := by
  have := congrArg (fun q : Str => q.cps.toList) h
  simpa only [rt_list] using this
theorem rt_app (a b : List Nat) : rt a ++ rt b = rt (a ++ b) := by
  apply ext_str
  rw [rt_list]
  show ((rt a).cps ++ (rt b).cps).toList = a ++ b
  rw [Array.toList_append, rt_list, rt_list]
theorem rt_fit {cs : List Nat} (h : cs.length ≤ 10000) : (rt cs).length ≤ sizeLine := by
  rw [rt_len]
  exact fit h
theorem sg_rt (cs : List Nat) : sg (rt cs) = cs.map one := by
  unfold sg
  rw [rt_list]
  rfl
theorem join_rt (cs : List Nat) : Txt.join "" (cs.map one) = rt cs := by
  apply ext_str
  rw [join0_list, List.map_map, rt_list]
  induction cs with
  | nil => rfl
  | cons b r ih =>
    rw [List.map_cons, List.flatten_cons, ih]
    rfl
theorem ones_sum : ∀ cs : List Nat, ((cs.map one).map (·.length)).sum = cs.length
  | [] => rfl
  | c :: r => by
    rw [List.map_cons, List.map_cons, List.sum_cons, ones_sum r]
    show 1 + r.length = r.length + 1
    omega
theorem join_rt_fits {cs : List Nat} (h : cs.length ≤ 1000) : ((cs.map one).map (·.length)).sum + (cs.map one).length * ("" : Str).length ≤ 16777216 := by
  have e : ("" : Str).length = 0 := by decide +kernel
  rw [ones_sum, e, Nat.mul_zero]
  omega
theorem cut_rt (cs : List Nat) (lo hi : Option Int) : cutS (rt cs) lo hi = rt ((cs.drop (HT.sIx cs.length 0 lo)).take (HT.sIx cs.length cs.length hi - HT.sIx cs.length 0 lo)) := by
  apply ext_str
  unfold cutS
  rw [rt_len, rt_list, rt_list]
theorem cut_rt_to (cs : List Nat) (k : Nat) : cutS (rt cs) none (some (k : Int)) = rt (cs.take k) := by
  rw [cut_rt, HT.sIx_none, HT.sIx_nat, List.drop_zero, Nat.sub_zero]
  by_cases h : k ≤ cs.length
  · rw [Nat.min_eq_left h]
  · rw [Nat.min_eq_right (by omega), List.take_length, List.take_of_length_le (by omega)]
theorem cut_rt_from (cs : List Nat) (k : Nat) : cutS (rt cs) (some (k : Int)) none = rt (cs.drop k) := by
  rw [cut_rt, HT.sIx_none, HT.sIx_nat]
  by_cases h : k ≤ cs.length
  · rw [Nat.min_eq_left h, List.take_of_length_le (by rw [List.length_drop]; exact Nat.le_refl _)]
  · rw [Nat.min_eq_right (by omega), List.drop_length, List.drop_of_length_le (by omega), List.take_nil]
theorem one_inj {a b : Nat} (h : one a = one b) : a = b := by
  have := congrArg (fun q : Str => q.cps.toList) h
  exact (List.cons.inj this).1
theorem one_eq (a b : Nat) : (one a == one b) = decide (a = b) := by
  by_cases h : a = b
  · subst h
    simp
  · rw [decide_eq_false h]
    have : ¬ (one a = one b) := fun z => h (one_inj z)
    simp [this]
/-! ### signs in a written dict -/
theorem find_key (c : Nat) : ∀ (ts : List Nat) (L : List DictEntry), L.map (fun e => keyText e.key) = ts.map (fun q => some (one q)) → (L.find? (·.key.isStr (one c))).isSome = decide (c ∈ ts) ∧ L.any (·.refKey) = false
  | [], [], _ => ⟨by simp, rfl⟩
  | [], e :: r, h => by simp at h
  | q :: ts, [], h => by simp at h
  | q :: ts, e :: r, h => by
    rw [List.map_cons, List.map_cons] at h
    obtain ⟨h1, h2⟩ := List.cons.inj h
    obtain ⟨t, hk⟩ := keyText_str h1
    obtain ⟨i1, i2⟩ := find_key c ts r h2
    have e1 : e.key.isStr (one c) = decide (q = c) := by
      rw [hk]
      exact one_eq q c
    refine ⟨?_, ?_⟩
    · rw [List.find?_cons, e1]
      by_cases hq : q = c
      · rw [decide_eq_true hq]
        simp [hq]
      · rw [decide_eq_false hq]
        show (r.find? (·.key.isStr (one c))).isSome = _
        rw [i1]
        have : ¬ c = q := fun z => hq z.symm
        simp [this]
    · rw [List.any_cons, i2, Bool.or_false]
      unfold DictEntry.refKey
      rw [hk]
theorem key_in {K : PySem.W.Frag} {d : Addr} {es : Array DictEntry} {n : Nat} {ts : List Nat} (l : K.lookup d = some ⟨.type "dict", none, .dict es n, #[]⟩) (hk : es.toList.map (fun e => keyText e.key) = ts.map (fun q => some (one q))) (c : Nat) :
    ∃ r, PySem.W.nsIn K d (one c) = some r ∧ r.isSome = decide (c ∈ ts) := by
  obtain ⟨h1, h2⟩ := find_key c ts es.toList hk
  unfold PySem.W.nsIn
  rw [l]
  simp only
  cases hf : es.toList.find? (·.key.isStr (one c)) with
  | some e =>
    rw [hf] at h1
    exact ⟨_, rfl, h1⟩
  | none =>
    rw [hf] at h1
    simp only [h2]
    exact ⟨_, rfl, h1⟩
/-! ### rings -/
def okr (c : Nat) : Bool := decide (c ∈ [97, 98, 46])
def isRingB (z : Str) : Bool := decide (2 ≤ z.length) && (decide (z.length ≤ 12) && z.cps.toList.all okr)
/-- whether x is a ring -/
def RingB (K : PySem.W.Frag) (H : Hp) (x : V) (b : Bool) : Prop := (NoTxt K H x ∧ b = false) ∨ ∃ z : Str, x = .str z ∧ z.length ≤ 10000 ∧ b = isRingB z
theorem ringB_same {K : PySem.W.Frag} {H H' : Hp} {x : V} {b : Bool} (s : Same H H') (h : RingB K H x b) : RingB K H' x b := h.imp (fun ⟨q, e⟩ => ⟨notxt_same s q, e⟩) id
/-- a ring by its codes -/
structure Rg (cs : List Nat) : Prop where
  lo : 2 ≤ cs.length
  hi : cs.length ≤ 12
  ok : ∀ c ∈ cs, c ∈ [97, 98, 46]
theorem Rg.isB {cs : List Nat} (h : Rg cs) : isRingB (rt cs) = true := by
  unfold isRingB
  rw [rt_len, rt_list, decide_eq_true h.lo, decide_eq_true h.hi]
  show cs.all okr = true
  rw [List.all_eq_true]
  exact fun c hc => decide_eq_true (h.ok c hc)
/-- how far above the others a sign stands -/
def rk (c : Nat) : Nat := if c = 97 then 2 else if c = 98 then 1 else 0
def nxt (cs : List Nat) (i : Nat) : Nat := (i + 1) % cs.length
theorem nxt_lt {cs : List Nat} (h : Rg cs) (i : Nat) : nxt cs i < cs.length := Nat.mod_lt _ (Nat.lt_of_lt_of_le (by decide) h.lo)
/-- the signs at a place and at the next one exchanged -/
def swp (cs : List Nat) (i : Nat) : List Nat := (cs.set i (cs.getD (nxt cs i) 0)).set (nxt cs i) (cs.getD i 0)
theorem swp_len (cs : List Nat) (i : Nat) : (swp cs i).length = cs.length := by
  unfold swp
  rw [List.length_set, List.length_set]
def ups (cs : List Nat) (i : Nat) : Bool := decide (rk (cs.getD (nxt cs i) 0) < rk (cs.getD i 0))
def rchg (cs : List Nat) (m : Nat) : List Nat := (List.range m).filter (ups cs)
theorem rchg_succ (cs : List Nat) (i : Nat) : rchg cs (i + 1) = rchg cs i ++ (if ups cs i then [i] else []) := by
  unfold rchg
  rw [List.range_succ, List.filter_append]
  congr 1
  cases h : ups cs i with
  | true => simp [h]
  | false => simp [h]
theorem rchg_few (cs : List Nat) (m : Nat) : (rchg cs m).length ≤ m := by
  refine Nat.le_trans (List.length_filter_le _ _) ?_
  rw [List.length_range]
  exact Nat.le_refl _
/-- the data of the changes -/
def dchg (cs : List Nat) (ks : List Nat) : List PyData := ks.map fun (k : Nat) => PyData.tuple [.int (k : Int), .str (rt (swp cs k))]
/-- a list of tuples (place, ring) -/
def Tups (H : Hp) (cs : List Nat) : List Nat → List V → Prop
  | [], vs => vs = []
  | k :: r, vs => ∃ p vr, vs = .ref p :: vr ∧ H p = some (.tup [.int (k : Int), .str (rt (swp cs k))]) ∧ Tups H cs r vr
theorem tups_same {H H' : Hp} {cs : List Nat} (s : Same H H') : ∀ {ks : List Nat} {vs : List V}, Tups H cs ks vs → Tups H' cs ks vs
  | [], _, h => h
  | k :: r, _, ⟨p, vr, e, h1, h2⟩ => ⟨p, vr, e, s _ _ h1, tups_same s h2⟩
theorem tups_add {H : Hp} {cs : List Nat} {k : Nat} {p : Addr} (h1 : H p = some (.tup [.int (k : Int), .str (rt (swp cs k))])) : ∀ {ks : List Nat} {vs : List V}, Tups H cs ks vs → Tups H cs (ks ++ [k]) (vs ++ [.ref p])
  | [], _, h => by
    cases h
    exact ⟨p, [], rfl, h1, rfl⟩
  | q :: r, _, ⟨p', vr, e, h2, h3⟩ => ⟨p', vr ++ [.ref p], by rw [e]; rfl, h2, tups_add h1 h3⟩
theorem tups_upd {H : Hp} {cs : List Nat} {D : Addr} {xs : List V} {o : HO} (hD : H D = some (.lst xs)) : ∀ {ks : List Nat} {vs : List V}, Tups H cs ks vs → Tups (upd H D o) cs ks vs
  | [], _, h => h
  | k :: r, _, ⟨p, vr, e, h1, h2⟩ => ⟨p, vr, e, by
      rw [upd_ne (fun z => by rw [z, hD] at h1; cases h1)]
      exact h1, tups_upd hD h2⟩
theorem tups_len {H : Hp} {cs : List Nat} : ∀ {ks : List Nat} {vs : List V}, Tups H cs ks vs → vs.length = ks.length
  | [], _, h => by
    cases h
    rfl
  | k :: r, _, ⟨p, vr, e, _, h2⟩ => by
    rw [e, List.length_cons, List.length_cons, tups_len h2]
theorem tups_dp {K : PySem.W.Frag} {H : Hp} {cs : List Nat} : ∀ {ks : List Nat} {vs : List V}, Tups H cs ks vs → DpAll K H vs (dchg cs ks)
  | [], _, h => by
    cases h
    exact .nil
  | k :: r, _, ⟨p, vr, e, h1, h2⟩ => by
    rw [e]
    exact .cons (.tup (SqT.of h1) (.cons (.int _) (.cons (.str _) .nil))) (tups_dp h2)
theorem getD_small {cs : List Nat} (h : Rg cs) (i : Nat) : cs.getD i 0 < 1114112 := by
  rw [List.getD_eq_getElem?_getD]
  cases e : cs[i]? with
  | none => show 0 < 1114112; decide
  | some c =>
    have := h.ok c (List.mem_of_getElem? e)
    simp only [List.mem_cons, List.not_mem_nil, or_false] at this
    show c < 1114112
    omega
theorem strOk_swp {cs : List Nat} (h : Rg cs) (i : Nat) : PyData.strOk (rt (swp cs i)) = true := by
  unfold PyData.strOk
  rw [← Array.all_toList, rt_list, List.all_eq_true]
  intro c hc
  refine decide_eq_true ?_
  unfold swp at hc
  rcases List.mem_or_eq_of_mem_set hc with h1 | rfl
  · rcases List.mem_or_eq_of_mem_set h1 with h2 | rfl
    · have := h.ok c h2
      simp only [List.mem_cons, List.not_mem_nil, or_false] at this
      omega
    · exact getD_small h _
  · exact getD_small h _
theorem lay_dchg {cs : List Nat} (h : Rg cs) : ∀ ks : List Nat, PyData.canLayAll0 (dchg cs ks) = true
  | [] => rfl
  | k :: r => by
    show PyData.canLayAll0 (.tuple [.int (k : Int), .str (rt (swp cs k))] :: dchg cs r) = true
    simp only [PyData.canLayAll0, lay_dchg h r, Bool.and_true, PyData.canLay0, strOk_swp h]
theorem deep_dchg (cs : List Nat) : ∀ ks : List Nat, PyData.depthAll (dchg cs ks) ≤ 1
  | [] => by show 0 ≤ 1; decide
  | k :: r => by
    show PyData.depthAll (.tuple [.int (k : Int), .str (rt (swp cs k))] :: dchg cs r) ≤ 1
    have := deep_dchg cs r
    simp only [PyData.depthAll, PyData.depth]
    omega
theorem shaped_dchg {cs : List Nat} (h : Rg cs) (ks : List Nat) : SeqAt.shaped (.list (dchg cs ks)) = true := by
  unfold SeqAt.shaped
  rw [Bool.and_eq_true]
  refine ⟨?_, decide_eq_true ?_⟩
  · simp only [PyData.canLay0, lay_dchg h]
  · have := deep_dchg cs ks
    simp only [PyData.depth]
    omega
theorem eqv_dchg {cs : List Nat} (h : Rg cs) (ks : List Nat) : PyData.eqv (.list (dchg cs ks)) (.list (dchg cs ks)) = true := PySem.SeqAt.eqv_refl _ (by simp only [PyData.canLay0, lay_dchg h])
end HopR

set_option Elab.async false
set_option linter.all false
set_option maxRecDepth 100000
namespace HopR
open PySem PySem.Spec PyProof.Rows L2
/-! ### sorted(texts, reverse=True): the same texts, in some order -/
def ltS (v u : Value) : Bool := decide ((strOf v).cps.toList < (strOf u).cps.toList)
theorem swo_txt : SrtO.Swo ltS where
  asym x y h := decide_eq_false (List.lt_asymm (of_decide_eq_true h))
  tr x y z h1 h2 := by
    have a := List.not_lt.mp (of_decide_eq_false h1)
    have b := List.not_lt.mp (of_decide_eq_false h2)
    exact decide_eq_false (List.not_lt.mpr (List.le_trans a b))
section
variable {prog : Program} {w : World} {A : Around} {s : Shared}
theorem texts_sortable {l : Addr} {vs : List Value} {ss : List Str} (are : StrsAre vs ss) (two : 2 ≤ vs.length) : SrtO.SortableO prog w A s l vs ltS := by
  intro h' _
  refine ⟨oneType', fun Q E q => ?_, fun x y hx hy => ?_⟩
  · obtain ⟨a, b, r, rfl⟩ : ∃ a b r, vs = a :: b :: r := by
      match vs, two with
      | a :: b :: r, _ => exact ⟨a, b, r, rfl⟩
    rw [keyKind_strs are]
    exact wpAny_pure q
  · obtain ⟨a, t, ea⟩ := are.all _ hx
    obtain ⟨b, u, eb⟩ := are.all _ hy
    show wpAny (model prog w) A (keyLt' oneType' x.1 y.1) (fun r s' => s' = _ ∧ r = ltS x.1 y.1) (fun _ _ => False) _
    rw [ea, eb, keyLt'_oneType]
    exact oneLt_str ⟨rfl, rfl⟩
end
section
variable {X : Cx}
def rSortTR (K : PySem.W.Frag) : List V → List V → Hp → VK → Prop := fun vs zs H Q => ∃ (a : Addr) (xs : List Str), vs = [.ref a] ∧ zs = [.bl true] ∧ SqL K H a (xs.map V.str) ∧ ∀ (ys : List Str) (p : Addr), ys.Perm xs → H p = none → Q (.ref p) (upd H p (.lst (ys.map V.str)))
theorem strs_of_vals : ∀ {xs : List Str} {us : List Value}, Vals (xs.map V.str) us → StrsAre us xs
  | [], _, h => by
    cases h
    exact .nil
  | x :: r, _, h => by
    cases h with
    | cons a b =>
      obtain ⟨t, rfl⟩ := a
      exact .cons x t (strs_of_vals b)
theorem cr_sortTR : CallRK X (.builtin "sorted") [Str.ofString "reverse"] (rSortTR X.K) := by
  rintro pins s σ H _ _ us ws Q I r rz ⟨a, xs, rfl, rfl, hs, q⟩
  obtain rfl := Vals.ref1 r
  obtain ⟨w1, rfl, e1⟩ := vals1 rz
  obtain rfl : w1 = Value.bool true := e1
  obtain ⟨its, rv, hl, hz⟩ := I.list hs
  have are := strs_of_vals rv
  refine SrtR.sorted_ordK (b := true) (fun _ => rfl) (args_sorted_rev _ _) (fun _ => args_list_sort_rev _ _) swo_txt hl.isList (by rw [← rv.length]; exact hz) (fun two _ _ _ _ => texts_sortable are two) fun out _ stb => ?_
  have pm : out.reverse.Perm its := out.reverse_perm.trans (stb.perm.trans its.reverse_perm)
  have are' : StrsAre out.reverse (out.reverse.map strOf) := strsAre_map _ fun v hv => are.all v (pm.mem_iff.mp hv)
  have pm' : (out.reverse.map strOf).Perm xs := by
    have := pm.map strOf
    rw [are.strs] at this
    exact this
  obtain ⟨ep, at_⟩ := sortedAll_at s.heap its (if true = true then out.toArray.reverse else out.toArray)
  have hlen : ((out.reverse.map strOf).map V.str).length ≤ sizeLine := by
    rw [List.length_map, pm'.length_eq]
    rw [List.length_map] at hz
    exact hz
  refine ⟨.ref (s.heap.objs.size + 1), upd H (s.heap.objs.size + 1) (.lst ((out.reverse.map strOf).map V.str)), I.laid (t' := s.toks) (fun _ _ => sortedAll_old) (Nat.le_succ _) ⟨hlen, out.reverse, ep, vals_of_strs are', ?_⟩, rfl, q _ _ pm' (I.hok.fresh (Nat.le_succ _))⟩
  rw [at_]
  simp
end
end HopR

set_option Elab.async false
set_option linter.all false
set_option maxRecDepth 100000
namespace HopR
open PySem PySem.Spec PyProof.Rows L2
/-! ### sorted(a dict of texts): its keys in some order, however many -/
section
variable {prog : Program} {w : World} {A : Around} {s : Shared}
theorem texts_total {l : Addr} {vs : List Value} {ss : List Str} (are : StrsAre vs ss) (two : 2 ≤ vs.length) : Srt.Sortable prog w A s l vs := by
  intro h' _
  refine ⟨oneType', fun Q E q => ?_, fun x y hx hy => ?_⟩
  · obtain ⟨a, b, r, rfl⟩ : ∃ a b r, vs = a :: b :: r := by
      match vs, two with
      | a :: b :: r, _ => exact ⟨a, b, r, rfl⟩
    rw [keyKind_strs are]
    exact wpAny_pure q
  · obtain ⟨a, t, ea⟩ := are.all _ hx
    obtain ⟨b, u, eb⟩ := are.all _ hy
    rw [ea, eb, keyLt'_oneType]
    exact ⟨_, oneLt_str ⟨rfl, rfl⟩⟩
end
theorem strs_map : ∀ {vs : List Value} {ss : List Str}, StrsAre vs ss → Vals (ss.map V.str) vs
  | _, _, .nil => .nil
  | _, _, .cons x t r => .cons ⟨t, rfl⟩ (strs_map r)
def rSortedDW : List V → Hp → VK → Prop := fun xs H Q => ∃ (a : Addr) (kvs : List (Key × V)) (ks : List Str), xs = [.ref a] ∧ H a = some (.dK kvs) ∧ kvs.map (·.1) = ks.map Sum.inr ∧ ∀ (ys : List Str) (p : Addr), ys.Perm ks → H p = none → Q (.ref p) (upd H p (.lst (ys.map V.str)))
theorem cr_sortedDW {X : Cx} (calm : X.calm = true) : CallR X (.builtin "sorted") rSortedDW := by
  rintro pins s σ H _ us Q I r ⟨a, kvs, ks, rfl, ed, hk, q⟩
  obtain rfl := Vals.ref1 r
  obtain ⟨big, lo, vs, rel, dd⟩ := dk_of I.hok ed
  obtain ⟨ep, at_⟩ := dd.dictAt
  have keys : vs.map (·.1) = ks.map Sum.inr := rel.keys.symm.trans hk
  have len : vs.length = ks.length := by simpa using congrArg List.length keys
  have fits : vs.length ≤ sizeLine := by rw [← rel.length]; exact big
  refine Calls.call_function_entry kind_sorted plain_sorted entry_sorted (args_sorted1 _) ?_
  unfold Builtin.«sorted»
  refine wpAny_bind (m := checkCount "sorted" 1 1 _) (wpAny_pure ?_)
  refine wpAny_bind (PySem.W.kdu_collect (A := X.A.in1) (PySem.W.kdl_dict (knd := mixKind X.prog X.w) (kvs := vs) (ep := ep) lo) (I.ok.hd calm) at_ fits fun h1 tk acc old got => ?_)
  have la : acc.toList.length = ks.length := by rw [Array.length_toList, got.1, len]
  have are : StrsAre acc.toList ks := strs_at la fun j v e => by
    obtain ⟨k, x, e1, e2⟩ := got.2 j v (by rw [← Array.getElem?_toList]; exact e)
    have e3 : (ks.map Sum.inr)[j]? = some k := by rw [← keys, List.getElem?_map, e1]; rfl
    rw [List.getElem?_map] at e3
    obtain ⟨y, e4, rfl⟩ := Option.map_eq_some_iff.mp e3
    obtain ⟨t, ev⟩ := Value.isStrOf_shape (x := y) (v := v) e2
    exact ⟨y, t, e4, ev⟩
  have J : Inv X pins σ H { s with heap := h1, toks := tk } := I.kept old
  refine wpAny_bind (wpAny_newList ?_ (by rw [la, ← len]; exact fits))
  have here : (h1.push (seqObj "list" acc.toList.toArray 0)).get? h1.objs.size = some (seqObj "list" acc.toList.toArray 0) := Heap.get?_push_size _ rfl
  show wpAny _ _ _ _ _ { s with heap := h1.push (seqObj "list" acc.toList.toArray 0), toks := tk }
  refine wpAny_bind (wpAny_holding (wpAny_call_entry slot_list_sort ⟨_, here, rfl⟩ entry_list_sort (Srt.list_sort_any (s := { s with heap := h1.push (seqObj "list" acc.toList.toArray 0), toks := tk }) here (by rw [la, ← len]; exact fits) (fun two => texts_total are two) fun out po => ⟨_, rfl, ?_⟩) (args_list_sort _)))
  have are2 : StrsAre out (out.map strOf) := strsAre_map _ fun v hv => are.all v (po.mem_iff.mp hv)
  have po2 : (out.map strOf).Perm ks := by
    have := po.map strOf
    rw [are.strs] at this
    exact this
  obtain ⟨e', at2⟩ := sortedHeap_at (vs := acc.toList) (out := out.toArray) here
  refine wpAny_pure ⟨_, rfl, .ref h1.objs.size, upd H h1.objs.size (.lst ((out.map strOf).map V.str)), J.laid (t' := tk) (fun b u e => ?_) (Nat.le_refl _)
    (show ObjOk X.prog X.w _ _ _ (.lst ((out.map strOf).map V.str)) from ⟨by rw [List.length_map, po2.length_eq, ← len]; exact fits, out, e', strs_map are2, at2⟩), rfl, q _ _ po2 (J.hok.fresh (Nat.le_refl _))⟩
  have lt : b < h1.objs.size := Heap.lt_size e
  rw [sortedHeap_old (Nat.ne_of_lt lt) (by rw [size_push']; exact Nat.lt_succ_of_lt lt)]
  exact Heap.get?_push_of_some _ e
end HopR

set_option Elab.async false
set_option linter.all false
set_option maxRecDepth 100000
/-! ### a def that tells (len(x), x) of a text, run to its exact end -/
namespace HopR
open PySem PySem.Spec PyProof.Rows L2
section
variable {X : Cx}
theorem raw_var {E : Value → Shared → Prop} {pins : List (Addr × Obj)} {σ : L2.St} {H : Hp} {s : Shared} {i : Nat} {x : Str} {v : V} {pos : Pos} {Q : Value → Shared → Prop} (I : Inv X pins σ H s) (hN : X.N[i]? = some x) (hv : Vis X.env.scope x) (e : σ[i]? = some (some v)) (h : ∀ u, RelV v u → Q u s)
    (hd : (x == ("__debug__" : Str)) = false := by decide) (hcd : (x == ("__classdict__" : Str)) = false := by decide) : wpAny (model X.prog X.w) X.A (eval (.Name x pos) X.env) Q E s := by
  obtain ⟨m, hn, hl⟩ := I.loc
  obtain ⟨u, r, l⟩ := hl i x v hN e hv
  rcases l with ⟨hk, hm⟩ | ⟨hk, c, hc, hcell⟩
  · exact wpAny_Name (wpAny_loadName_local I.ok.kind hk hn hm (h u r)) hd
  · rcases hk with hk | hk
    · exact wpAny_Name (wpAny_loadName_cell I.ok.kind hk hc hcell (h u r)) hd
    · exact wpAny_Name (wpAny_loadName_free I.ok.kind hk hc hcell (h u r) hcd) hd
/-- the expression (len(word), word) -/
def pairE (p1 p2 p3 p4 p5 : Pos) : Expr := .Tuple [.Call (.Name "len" p1) [.Name "word" p2] [] p3, .Name "word" p4] 0 p5
theorem raw_pair {pins : List (Addr × Obj)} {σ : L2.St} {H : Hp} {s : Shared} {z : Str} {p1 p2 p3 p4 p5 : Pos} {Q : Value → Shared → Prop} {E : Value → Shared → Prop} (I : Inv X pins σ H s) (hN : X.N[0]? = some ("word" : Str)) (hv : Vis X.env.scope ("word" : Str)) (e : σ[0]? = some (some (.str z)))
    (hg : Gl X ("len" : Str)) (mL : X.mg ("len" : Str) = none) (hz : z.length ≤ sizeLine)
    (h : ∀ (a b : Tok) (tk : Nat), Q (.ref s.heap.objs.size) { s with heap := s.heap.push { cls := .type "tuple", data := .seq [Value.int z.length a, .str z b].toArray }, toks := tk }) :
    wpAny (model X.prog X.w) X.A (eval (pairE p1 p2 p3 p4 p5) X.env) Q E s := by
  have un := line63
  have fit : ¬ (z.length : Int) ≥ 2 ^ 63 := by omega
  unfold pairE
  refine wpAny_Tuple_spliced ?_
  show wpAny _ _ (spliced ((false, eval (.Call (.Name "len" p1) [.Name "word" p2] [] p3) X.env) :: (false, eval (.Name "word" p4) X.env) :: [])) _ _ s
  refine Calls.spliced_cons ?_
  refine wpAny_Call_Name_kw (ld_blt I hg mL PySem.boot_len ?_)
  refine PyProof.Rows.callWith_builtin1 ?_ rfl rfl
  show wpAny _ _ (spliced ((false, eval (.Name "word" p2) X.env) :: [])) _ _ s
  refine Calls.spliced_cons (raw_var I hN hv e fun u r => ?_)
  obtain ⟨t, rfl⟩ := r
  refine Calls.spliced_nil (len_str fit ?_)
  have I2 : Inv X pins σ H { s with toks := s.toks + 1 + 1 } := I.tok _
  refine Calls.spliced_cons (raw_var I2 hN hv e fun u r => ?_)
  obtain ⟨t2, rfl⟩ := r
  exact Calls.spliced_nil ⟨Nat.le_trans (Nat.succ_le_succ (Nat.succ_le_succ (Nat.zero_le _))) (Nat.le_refl _), h _ _ _⟩
end
theorem order_run {P : Program} {w : World} {K : PySem.W.Frag} {mg : Str → Option Value} {base : Heap} {f : Addr} {fd : FuncData} {x : Str} {st : Stmt} {p1 p2 p3 p4 p5 p6 : Pos} {A : Around} {outer : List Env} {s : Shared} {H : Hp} {z : Str} {t : Tok}
    (F : Fun K x x st f fd) (S : FnScope [("word" : Str)] [("word" : Str)] (defScope st)) (hb : defBody st = [.Return (some (pairE p1 p2 p3 p4 p5)) p6]) (hv : (defScope st).names.lookup ("word" : Str) = some NameKind.local) (hl : (defScope st).names.lookup ("len" : Str) = some NameKind.globalImplicit) (mL : mg ("len" : Str) = none) (bind : Binds K fd [("word" : Str)] [])
    (hr : Room 1 A) (e0 : Env0 P w K mg base A outer s H) (hz : z.length ≤ sizeLine) :
    codeAny (model P w) A (.call (.ref f) ⟨[.str z t], []⟩) (wants (PySem.W.KeyPure (.tuple [.int z.length, .str z]) s) (fun _ _ => False)) s := by
  obtain ⟨oc, od, kV, doc, pm, an, cdv, ct, osl, rfl, lk, hcd⟩ := F.ex
  have KX : K.In s.heap := e0.mod.kin.keeps fun b o e => (e0.bs b o e).1
  have lim : s.heap.NoLimit := e0.mod.nolimit.keeps fun b o e => (e0.bs b o e).1
  have hkind : ∀ y ∈ ([("word" : Str)] : List Str).zip [Value.str z t], (defScope st).names.lookup y.1 = some NameKind.local ∨ ((defScope st).names.lookup y.1 = some NameKind.cell ∧ ((cellsFrom (s.heap.objs.size + 1) (defScope st).names []).lookup y.1).isSome = true) := fun y hy => by
    rw [List.mem_singleton.mp hy]
    exact .inl hv
  refine codeAny_call_function hr.depth (KX _ _ lk) rfl S.co S.gen rfl (PySem.W.codeRec_of KX hcd) (bind s [.str z t] KX rfl _ _ _ _ ?_)
  refine wpAny_newFunctionEnv_cells S.kind hkind fun env he s1 y => ?_
  subst he
  refine ⟨lim.keeps y.toInCall.keep, codeAny_func ?_⟩
  have I : Inv (cxOf CX0 P w K mg base [("word" : Str)] x (defScope st) f cdv A outer s H E0) [] (start [("word" : Str)] [V.str z]) H s1 := inv_start S hr.hd e0 rfl (.cons ⟨t, rfl⟩ .nil) y
  obtain ⟨h1, tk, e1, keep⟩ := y.done
  rw [hb]
  show wpAny (model P w) (cxOf CX0 P w K mg base [("word" : Str)] x (defScope st) f cdv A outer s H E0).A (execs [.Return (some (pairE p1 p2 p3 p4 p5)) p6] (cxOf CX0 P w K mg base [("word" : Str)] x (defScope st) f cdv A outer s H E0).env) _ _ s1
  refine wpAny_execs_cons (wpAny_Return_some (raw_pair I rfl (.inl hv) rfl (by exact hl) mL hz fun a b tk' => ?_))
  refine ⟨_, tk', by rw [e1], fun b o e => ?_, .tuple (as := []) (Heap.get?_push_size _ rfl) rfl rfl (.cons (.int _ _) (.cons (.str _ _) .nil))⟩
  rw [e1] at *
  exact Heap.get?_push_of_some _ (keep b o e)
end HopR

set_option Elab.async false
set_option linter.all false
set_option maxRecDepth 100000
/-! ### sorted(a dict of texts, key=def that tells (len(x), x)), and sorted(a list of such tuples): the very same order -/
namespace HopR
open PySem PySem.Spec PyProof.Rows L2
def kof (z : Str) : PyData := .tuple [.int z.length, .str z]
def lsort (ks : List Str) : List Str := ks.mergeSort (PySem.W.dataLe false kof)
theorem lsort_perm (ks : List Str) : (lsort ks).Perm ks := List.mergeSort_perm ..
theorem kof_alike (ks : List Str) : PySem.W.AllAlike (ks.map kof) := PySem.W.AllAlike.of fun _ _ => rfl
theorem kof_sortable (ks : List Str) : PySem.W.Sortable (ks.map kof) := .inl fun d hd => by
  obtain ⟨z, _, rfl⟩ := List.mem_map.mp hd
  exact ⟨_, _, rfl⟩
theorem kof_depth (z : Str) : (kof z).depth ≤ 8 := by
  simp [kof, PyData.depth, PyData.depthAll]
theorem each_strs : ∀ {vs : List Value} {ks : List Str}, StrsAre vs ks → PySem.W.EachIs (fun (v : Value) (z : Str) => ∃ t, v = Value.str z t) vs ks
  | _, _, .nil => .nil
  | _, _, .cons x t r => .cons ⟨t, rfl⟩ (each_strs r)
theorem vals_each : ∀ {vs : List Value} {ks : List Str}, PySem.W.EachIs (fun (v : Value) (z : Str) => ∃ t, v = Value.str z t) vs ks → Vals (ks.map V.str) vs
  | _, _, .nil => .nil
  | _, _, .cons ⟨t, e⟩ r => .cons ⟨t, e⟩ (vals_each r)
def rSortedDK (fa : Addr) : List V → List V → Hp → VK → Prop := fun xs zs H Q => ∃ (a : Addr) (kvs : List (Key × V)) (ks : List Str), xs = [.ref a] ∧ zs = [.ref fa] ∧ H a = some (.dK kvs) ∧ kvs.map (·.1) = ks.map Sum.inr ∧ (∀ z ∈ ks, z.length ≤ sizeLine) ∧ ∀ p, H p = none → Q (.ref p) (upd H p (.lst ((lsort ks).map V.str)))
theorem cr_sortedDK {X : Cx} {fa : Addr} {fd : FuncData} {nm : Str} {st : Stmt} {p1 p2 p3 p4 p5 p6 : Pos} (calm : X.calm = true) (hr : Room 4 X.A)
    (F : Fun X.K nm nm st fa fd) (S : FnScope [("word" : Str)] [("word" : Str)] (defScope st)) (hb : defBody st = [.Return (some (pairE p1 p2 p3 p4 p5)) p6]) (hv : (defScope st).names.lookup ("word" : Str) = some NameKind.local) (hl : (defScope st).names.lookup ("len" : Str) = some NameKind.globalImplicit) (mL : X.mg ("len" : Str) = none) (bind : Binds X.K fd [("word" : Str)] []) :
    CallRK X (.builtin "sorted") [Str.ofString "key"] (rSortedDK fa) := by
  rintro pins s σ H _ _ us ws Q I r rz ⟨a, kvs, ks, rfl, rfl, ed, hk, hz, q⟩
  obtain rfl := Vals.ref1 r
  obtain rfl := Vals.ref1 rz
  obtain ⟨big, lo, vs, rel, dd⟩ := dk_of I.hok ed
  obtain ⟨ep, at_⟩ := dd.dictAt
  have keys : vs.map (·.1) = ks.map Sum.inr := rel.keys.symm.trans hk
  have len : vs.length = ks.length := by simpa using congrArg List.length keys
  have fits : vs.length ≤ sizeLine := by rw [← rel.length]; exact big
  have un := hr.units
  refine call_function_entry_kw kind_sorted plain_sorted entry_sorted (ksk_s1 _ _) ?_
  unfold Builtin.«sorted»
  refine wpAny_bind (m := checkCount "sorted" 1 1 _) (wpAny_pure ?_)
  refine wpAny_bind (PySem.W.kdu_collect (A := X.A.in1) (PySem.W.kdl_dict (knd := mixKind X.prog X.w) (kvs := vs) (ep := ep) lo) (I.ok.hd calm) at_ fits fun h1 tk acc old got => ?_)
  have la : acc.toList.length = ks.length := by rw [Array.length_toList, got.1, len]
  have are : StrsAre acc.toList ks := strs_at la fun j v e => by
    obtain ⟨k, x, e1, e2⟩ := got.2 j v (by rw [← Array.getElem?_toList]; exact e)
    have e3 : (ks.map Sum.inr)[j]? = some k := by rw [← keys, List.getElem?_map, e1]; rfl
    rw [List.getElem?_map] at e3
    obtain ⟨y, e4, rfl⟩ := Option.map_eq_some_iff.mp e3
    obtain ⟨t, ev⟩ := Value.isStrOf_shape (x := y) (v := v) e2
    exact ⟨y, t, e4, ev⟩
  have J : Inv X pins σ H { s with heap := h1, toks := tk } := I.kept old
  refine wpAny_bind (wpAny_newList ?_ (by rw [la, ← len]; exact fits))
  have here : (h1.push (seqObj "list" acc.toList.toArray 0)).get? h1.objs.size = some (seqObj "list" acc.toList.toArray 0) := Heap.get?_push_size _ rfl
  show wpAny _ _ _ _ _ { s with heap := h1.push (seqObj "list" acc.toList.toArray 0), toks := tk }
  refine wpAny_bind (wpAny_holding (PySem.W.list_sort_key_data (s := { s with heap := h1.push (seqObj "list" acc.toList.toArray 0), toks := tk }) (b := false) kof here (each_strs are) (kof_alike ks) (kof_sortable ks) (by rw [← len]; exact fits)
    (fun z _ => by have := kof_depth z; show X.A.units + 1 + 1 + (kof z).depth < cLine; omega) (ksk_l1 _ _) (ksk_t1 _ _) (fun v z hR hzm h tk' kp => ?_) fun out c h' tk' kp hD hlen ei => ?_))
  · obtain ⟨t, rfl⟩ := hR
    have I2 : Inv X pins σ H { s with heap := h, toks := tk' } := Inv.kept (s := { s with heap := h1, toks := tk }) J fun b o e => kp b o (Nat.ne_of_lt (Heap.lt_size e)) (Heap.get?_push_of_some _ e)
    exact wpAny_call (order_run F S hb hv hl mL bind (hr.mono (by decide)).in1.in1 I2.env0.in1.in1 (hz z hzm))
  · refine wpAny_pure ⟨_, rfl, .ref h1.objs.size, upd H h1.objs.size (.lst ((lsort ks).map V.str)), J.laid (t' := tk') (fun b u e => kp b u (Nat.ne_of_lt (Heap.lt_size e)) (Heap.get?_push_of_some _ e)) (Nat.le_refl _)
      (show ObjOk X.prog X.w _ _ _ (.lst ((lsort ks).map V.str)) from ⟨by rw [List.length_map, (lsort_perm ks).length_eq, ← len]; exact fits, out, c, vals_each ei, hD⟩), rfl, q _ (J.hok.fresh (Nat.le_refl _))⟩
/-! ### sorted(list of tuples (len(x), x)) -/
def LT (H : Hp) (ps : List Addr) (ks : List Str) : Prop := PySem.W.EachIs (fun (p : Addr) (z : Str) => H p = some (.tup [.int z.length, .str z])) ps ks
theorem LT.same {H H' : Hp} (s : Same H H') : ∀ {ps ks}, LT H ps ks → LT H' ps ks
  | _, _, .nil => .nil
  | _, _, .cons e r => .cons (s _ _ e) (LT.same s r)
theorem LT.len {H : Hp} {ps ks} (h : LT H ps ks) : ps.length = ks.length := PySem.W.EachIs.length h
theorem lt_vals {H : Hp} : ∀ {ps : List Addr} {ks : List Str} {vs : List Value}, LT H ps ks → Vals (ps.map V.ref) vs → PySem.W.EachIs (fun (v : Value) (z : Str) => ∃ p, v = .ref p ∧ H p = some (.tup [.int z.length, .str z])) vs ks
  | _, _, _, .nil, .nil => .nil
  | _, _, _, .cons e r, .cons rv rr => .cons ⟨_, rv, e⟩ (lt_vals r rr)
theorem lt_back {H : Hp} : ∀ {vs : List Value} {ks : List Str}, PySem.W.EachIs (fun (v : Value) (z : Str) => ∃ p, v = .ref p ∧ H p = some (.tup [.int z.length, .str z])) vs ks → ∃ ps, LT H ps ks ∧ Vals (ps.map V.ref) vs
  | _, _, .nil => ⟨[], .nil, .nil⟩
  | _, _, .cons ⟨p, e, h⟩ r => by
    obtain ⟨ps, a, b⟩ := lt_back r
    exact ⟨p :: ps, .cons h a, .cons e b⟩
def rSortedLT : List V → Hp → VK → Prop := fun xs H Q => ∃ (a : Addr) (ps : List Addr) (ks : List Str), xs = [.ref a] ∧ H a = some (.lst (ps.map V.ref)) ∧ LT H ps ks ∧ ∀ (qs : List Addr) (p : Addr), LT H qs (lsort ks) → H p = none → Q (.ref p) (upd H p (.lst (qs.map V.ref)))
theorem cr_sortedLT {X : Cx} (hr : Room 4 X.A) : CallR X (.builtin "sorted") rSortedLT := by
  rintro pins s σ H _ us Q I r ⟨a, ps, ks, rfl, ha, hl, q⟩
  obtain rfl := Vals.ref1 r
  obtain ⟨hz, its, n, rv, hob⟩ := I.hok a _ ha
  have un := hr.units
  have ea := lt_vals hl rv
  have lks : ks.length ≤ sizeLine := by
    rw [← hl.len]
    simpa using hz
  have er : PySem.W.EachIs (fun (v : Value) (z : Str) => ∃ as, Reads s.heap v (kof z) as) its ks := ea.mono fun v z hh => by
    obtain ⟨p, e, h⟩ := hh
    subst e
    obtain ⟨_, its2, r2, o, ho, hc, n2, hd⟩ := I.hok _ _ h
    obtain ⟨u1, u2, rfl, ri, rj⟩ := vals2 r2
    obtain ⟨t1, rfl⟩ := ri
    obtain ⟨t2, rfl⟩ := rj
    exact ⟨_, .tuple ho hc hd (.cons (.int _ _) (.cons (.str _ _) .nil))⟩
  refine PySem.W.sorted_data (enc := kof) (vs := its) ⟨_, hob, rfl, _, rfl⟩ ea er (kof_alike ks) (kof_sortable ks) lks (fun z _ => by have := kof_depth z; omega) fun out hlen ei => ?_
  obtain ⟨qs, lq, vq⟩ := lt_back ei
  obtain ⟨ep, he'⟩ := PyProof.Rows.sortedAll_at s.heap its out.toArray
  have lq' : (qs.map V.ref).length ≤ sizeLine := by
    have e1 : (ks.mergeSort (PySem.W.dataLe false kof)).length = ks.length := (lsort_perm ks).length_eq
    rw [List.length_map, lq.len, e1]
    exact lks
  exact ⟨.ref _, upd H (s.heap.objs.size + 1) (.lst (qs.map V.ref)), I.laid (t' := s.toks) (fun _ _ => PyProof.Rows.sortedAll_old) (Nat.le_succ _) ⟨lq', out, ep, vq, he'⟩, rfl, q _ _ lq (I.hok.fresh (Nat.le_succ _))⟩
end HopR

set_option Elab.async false
set_option linter.all false
set_option maxRecDepth 100000
namespace Hop
open PySem L2 HopR HopW
theorem passX {P : Program} {w : World} {X : Cx} : Passes (L2.CX P w) X E0 := fun _ _ _ _ _ _ _ h => by
  obtain ⟨_, _, _, _, _, _, _, _, _, _, _, _, h⟩ := h
  exact h.elim
section
variable {P : Program} {w : World} {K : PySem.W.Frag} {mg : Str → Option Value} {base : Heap} {d : Addr} {es : Array DictEntry} {n : Nat} {NW NP S : Addr}
/-! ### Sum.__len__ -/
def spSLen (S : Addr) : Sp := fun vs H Q _ => ∃ (v p : Addr) (B : Tal), vs = [.ref v] ∧ SK S H v p B ∧ Q (.int (B.length : Int)) H
theorem scSLen : FnScope ["self"] ["self"] (defScope sSLen) := ⟨rfl, rfl, rfl, by decide +kernel, rfl, by decide +kernel, by decide +kernel⟩
theorem ok_slen {f : Addr} {fd : FuncData} {k : Nat} (F : Fun K "__len__" "Sum.__len__" sSLen f fd) (T : Txt K w mg d es n) (TS : TxtS K S) : FnOk P w K mg base CX0 (k + 1) f fd ["self"] (spSLen S) := by
  refine F.ok scSLen (fun vs H Q E h => ?_) (fun cdv A outer s H vs Q E hr h => ?_)
  · obtain ⟨v, p, B, rfl, _⟩ := h
    rfl
  · obtain ⟨v, p, B, rfl, ⟨⟨dx, e1⟩, e2⟩, q⟩ := h
    refine ⟨_, pss_one (ps_ret (pe_callB call_lenD (by rfl) T.len PySem.boot_len (pa_cons (pe_fld (pv 0) rfl) pa_nil))), ?_⟩
    refine ⟨.ref v, rfl, v, S, dx, _, _, rfl, e1, TS.cl, TS.no, rfl, p, _, rfl, e2, ?_⟩
    rw [zv, List.length_map]
    exact q
/-! ### Sum.words -/
/-- what words() tells: tuples -/
def WL (H : Hp) (B : Tal) (ps : List Addr) (zs : List Str) : Prop := PySem.W.EachIs (fun (p : Addr) (z : Str) => H p = some (.tup [.str z, .int (cz z B)])) ps zs
theorem WL.same {H H' : Hp} {B : Tal} (s : Same H H') : ∀ {ps zs}, WL H B ps zs → WL H' B ps zs
  | _, _, .nil => .nil
  | _, _, .cons e r => .cons (s _ _ e) (WL.same s r)
theorem WL.tup {H H' : Hp} {B : Tal} (s : ∀ a xs, H a = some (.tup xs) → H' a = some (.tup xs)) : ∀ {ps zs}, WL H B ps zs → WL H' B ps zs
  | _, _, .nil => .nil
  | _, _, .cons e r => .cons (s _ _ e) (WL.tup s r)
theorem WL.len {H : Hp} {B : Tal} {ps zs} (h : WL H B ps zs) : ps.length = zs.length := PySem.W.EachIs.length h
theorem WL.snoc {H : Hp} {B : Tal} : ∀ {ps zs p z}, WL H B ps zs → H p = some (.tup [.str z, .int (cz z B)]) → WL H B (ps ++ [p]) (zs ++ [z])
  | _, _, _, _, .nil, e => .cons e .nil
  | _, _, _, _, .cons a r, e => .cons a (WL.snoc r e)
theorem WL.at_ {H : Hp} {B : Tal} : ∀ {ps : List Addr} {zs : List Str}, WL H B ps zs → ∀ {j : Nat} {p : Addr}, ps[j]? = some p → ∃ z, zs[j]? = some z ∧ H p = some (.tup [.str z, .int (cz z B)])
  | _, _, .cons a r, 0, p, h => ⟨_, rfl, by obtain rfl := Option.some.inj h; exact a⟩
  | _, _, .cons a r, j + 1, p, h => WL.at_ r (by simpa using h)
def ordB (B : Tal) : List Str := lsort (ktx B)
theorem ordB_mem {B : Tal} {z : Str} : z ∈ ordB B ↔ z ∈ ktx B := (lsort_perm _).mem_iff
theorem ordB_len (B : Tal) : (ordB B).length = B.length := by
  unfold ordB
  rw [(lsort_perm _).length_eq]
  exact List.length_map ..
theorem ordB_few {B : Tal} (to : TO B) {z : Str} (h : z ∈ ordB B) : ∃ u, z = tx u ∧ u.length ≤ 12 ∧ 1 ≤ cz z B ∧ cz z B ≤ 4096 := by
  obtain ⟨u, e, m⟩ := cz_mem (ordB_mem.mp h)
  have := to.le _ m
  exact ⟨u, e, this.2.2, this.1, this.2.1⟩
def spSWords (S : Addr) : Sp := fun vs H Q _ => ∃ (v p : Addr) (B : Tal), vs = [.ref v] ∧ SK S H v p B ∧ TO B ∧ ∀ H' l ps, Same H H' → H l = none → H' l = some (.lst (ps.map V.ref)) → (∀ q ∈ ps, H q = none) → WL H' B ps (ordB B) → Q (.ref l) H'
abbrev nSWords : List Str := ["self", "word"]
theorem scSWords : FnScope nSWords ["self"] (defScope sSWords) := ⟨rfl, rfl, rfl, by decide +kernel, rfl, by decide +kernel, by decide +kernel⟩
theorem scOrder : FnScope [("word" : Str)] [("word" : Str)] (defScope sOrder) := ⟨rfl, rfl, rfl, by decide +kernel, rfl, by decide +kernel, by decide +kernel⟩
theorem ok_swords {f fo : Addr} {fd go : FuncData} {k : Nat} (F : Fun K "words" "Sum.words" sSWords f fd) (No : Fn K mg "order_of" sOrder ["word"] fo go) (T : Txt K w mg d es n) (TS : TxtS K S) : FnOk P w K mg base CX0 (k + 5) f fd ["self"] (spSWords S) := by
  refine F.ok scSWords (fun vs H Q E h => ?_) (fun cdv A outer s H vs Q E hr h => ?_)
  · obtain ⟨v, p, B, rfl, _⟩ := h
    rfl
  · obtain ⟨v, p, B, rfl, ⟨⟨dx, e1⟩, e2⟩, to, q⟩ := h
    have nd := scSWords.nd
    have hu : (A.deeper (PyProof.Rows.envOfC "Sum.words" (defScope sSWords) s.heap.objs.size f cdv)).units + 1 < cLine := by have := hr.units; omega
    refine ⟨_, pss_one (ps_ret (pe_lc (own := [("word", 1)]) (g := gName 1) (tt := tYes) rfl nd
      (pi_list (pe_callBK (cr_sortedDK rfl (hr.mono (by omega)) No.F scOrder rfl rfl rfl T.len No.b) (by rfl) T.sorted (by decide +kernel) (pa_cons (pe_fld (pv 0) rfl) pa_nil) (pk_cons (pe_glob (v := .ref fo) (by rfl) No.g rfl) pk_nil)))
      (blkOk_by (own := [("word", 1)]) (N := nSWords) (sc := defScope sSWords) (by decide +kernel))
      (fun _ _ _ _ _ => pg_name (i := 1) nd rfl (Or.inl rfl)) (fun _ _ _ _ _ => pts_nil)
      (fun _ _ _ _ _ => pe_tup (pa_cons (pv 1) (pa_cons (pe_dget hu (show PE _ _ (tFld K (tVar 0) "often") from pe_fld (pv 0) rfl) (pv 1) (fun _ _ => rfl)) pa_nil))))), ?_⟩
    have hz : ∀ z ∈ ktx B, z.length ≤ sizeLine := fun z hz => by
      obtain ⟨p0, hp0, rfl⟩ := List.mem_map.mp hz
      have := (to.le _ hp0).2.2
      exact tx_fit (by omega)
    have lB := ordB_len B
    have few := to.len
    refine ⟨.ref v, rfl, v, S, dx, _, _, rfl, e1, TS.cl, TS.no, rfl, p, zv ιw B, ktx B, rfl, rfl, e2, keys_zv B, hz, fun l0 nl0 => ⟨l0, rfl, ⟨_, SqL.of upd_same⟩, fun D nD => ?_⟩⟩
    have s0 : Same H (upd H l0 (.lst ((lsort (ktx B)).map V.str))) := same_upd nl0
    have el0 : upd H l0 (.lst ((lsort (ktx B)).map V.str)) l0 = some (.lst ((ordB B).map V.str)) := upd_same
    generalize upd H l0 (.lst ((lsort (ktx B)).map V.str)) = H1 at s0 el0 nD
    refine lc_list (K := K) (a := l0) (xs := (ordB B).map V.str) (fun j H3 => Same H1 H3 ∧ ∃ ps : List Addr, H3 D = some (.lst (ps.map V.ref)) ∧ (∀ q ∈ ps, H q = none) ∧ WL H3 B ps ((ordB B).take j)) ⟨same_upd nD, [], upd_same, (fun _ h => nomatch h), .nil⟩ (fun j H3 _ h => SqL.of (h.1 _ _ el0)) ?_ ?_
    · rintro j x H3 hx ⟨sm, ps, eD, nps, wl⟩
      rw [List.getElem?_map] at hx
      obtain ⟨z, ez, rfl⟩ := Option.map_eq_some_iff.mp hx
      have mz := ordB_mem.mp (List.mem_of_getElem? ez)
      have s3 := s0.trans sm
      refine ⟨rfl, .str z, rfl, .ref v, rfl, v, S, dx, _, _, rfl, s3 _ _ e1, TS.cl, TS.no, rfl, .str z, rfl, p, .int (cz z B), rfl, .inl ⟨_, .inr z, .inl (s3 _ _ e2), rfl, (cz_val mz).symm⟩, (by show 2 ≤ sizeLine; decide), fun t nt => ?_⟩
      have nDt : D ≠ t := fun e => by
        rw [← e, eD] at nt
        cases nt
      have s4 : Same H3 (upd H3 t (.tup [.str z, .int (cz z B)])) := same_upd nt
      have lj : ps.length ≤ 4096 := by
        rw [wl.len, List.length_take]
        omega
      refine ⟨_, by rw [upd_ne nDt]; exact eD, by rw [List.length_map]; exact fit' (by omega), same_new nD (sm.trans s4), ps ++ [t], by rw [upd_same, List.map_append]; rfl, fun q hq => ?_, ?_⟩
      · rcases List.mem_append.mp hq with h | h
        · exact nps q h
        · obtain rfl := List.mem_singleton.mp h
          exact s3.free nt
      · rw [List.take_add_one, ez]
        refine WL.snoc (wl.tup fun a xs e => ?_) ?_
        · rw [upd_ne (fun h => by rw [h, eD] at e; cases e), upd_ne (fun h => by rw [h, nt] at e; cases e)]
          exact e
        · rw [upd_ne nDt.symm, upd_same]
    · rintro H3 ⟨sm, ps, eD, nps, wl⟩
      rw [List.length_map, List.take_length] at wl
      exact q H3 D ps (s0.trans sm) (s0.free nD) eD nps wl
/-! ### Sum.__str__ -/
def strB (B : Tal) : Str := Txt.join " + " ((ordB B).map fun z => wri z (cz z B))
def spSStr (S : Addr) : Sp := fun vs H Q _ => ∃ (v p : Addr) (B : Tal), vs = [.ref v] ∧ SK S H v p B ∧ TO B ∧ ∀ H', Same H H' → Q (.str (strB B)) H'
abbrev nSStr : List Str := ["self", "word", "many"]
theorem scSStr : FnScope nSStr ["self"] (defScope sSStr) := ⟨rfl, rfl, rfl, by decide +kernel, rfl, by decide +kernel, by decide +kernel⟩
theorem wri_len {z : Str} {c : Int} (h : z.length ≤ 12) (h1 : 1 ≤ c) (h2 : c ≤ 4096) : (wri z c).length ≤ 30 := by
  have l1 := toS_len h1 h2
  have l2 := nmW_len h
  unfold wri
  split
  · omega
  · rw [strLen_append, strLen_append, strLen_append]
    show 0 + _ + 1 + _ ≤ 30
    omega
theorem sum_le30 {α : Type} {f : α → Nat} : ∀ {l : List α}, (∀ x ∈ l, f x ≤ 30) → (l.map f).sum ≤ 30 * l.length
  | [], _ => Nat.le_refl _
  | a :: r, h => by
    have := h a (List.mem_cons_self ..)
    have := sum_le30 (l := r) fun x hx => h x (List.mem_cons_of_mem _ hx)
    rw [List.map_cons, List.sum_cons, List.length_cons]
    omega
theorem join_few {B : Tal} (to : TO B) : (((ordB B).map fun z => wri z (cz z B)).map (·.length)).sum + ((ordB B).map fun z => wri z (cz z B)).length * (" + " : Str).length ≤ 16777216 := by
  have h := sum_le30 (f := fun z => (wri z (cz z B)).length) (l := ordB B) fun z hz => by
    obtain ⟨u, rfl, hu, c1, c2⟩ := ordB_few to hz
    exact wri_len (by rw [tx_len]; exact hu) c1 c2
  rw [List.map_map, List.length_map]
  have e : (" + " : Str).length = 3 := by decide
  have l := ordB_len B
  have f := to.len
  rw [e]
  show ((ordB B).map fun z => (wri z (cz z B)).length).sum + _ ≤ _
  omega
theorem ok_sstr {f f1 f2 fo : Addr} {fd g1 g2 go : FuncData} {k : Nat} (F : Fun K "__str__" "Sum.__str__" sSStr f fd) (F1 : Fun K "words" "Sum.words" sSWords f1 g1) (b1 : Binds K g1 ["self"] []) (m1 : Meth K S "words" f1) (N2 : Fn K mg "written" sWritten ["word", "many"] f2 g2) (No : Fn K mg "order_of" sOrder ["word"] fo go) (T : Txt K w mg d es n) (TS : TxtS K S) : FnOk P w K mg base CX0 (k + 6) f fd ["self"] (spSStr S) := by
  have G1 : FnOk P w K mg base CX0 (k + 5) f1 g1 ["self"] (spSWords S) := ok_swords F1 No T TS
  have G2 : FnOk P w K mg base CX0 (k + 5) f2 g2 ["word", "many"] spWri := ok_wri N2.F
  refine F.ok scSStr (fun vs H Q E h => ?_) (fun cdv A outer s H vs Q E hr h => ?_)
  · obtain ⟨v, p, B, rfl, _⟩ := h
    rfl
  · obtain ⟨v, p, B, rfl, sk, to, q⟩ := h
    have nd := scSStr.nd
    refine ⟨_, pss_one (ps_ret (pe_join pe_str (pe_lc (own := [("word", 1), ("many", 2)]) (g := gTup K 2 (gCons (gName 1) (gCons (gName 2) gNil))) (tt := tYes) rfl nd (pi_list (pe_meth0 (pv 0) TS.cl m1 G1 hr b1 .nil pass0))
      (blkOk_by (own := [("word", 1), ("many", 2)]) (N := nSStr) (sc := defScope sSStr) (by decide +kernel))
      (fun _ _ _ _ _ => pg_tup (by rfl) (pgs_cons (pg_name (i := 1) nd rfl (.inl rfl)) (pgs_cons (pg_name (i := 2) nd rfl (.inl rfl)) pgs_nil))) (fun _ _ _ _ _ => pts_nil)
      (fun _ _ _ _ _ => pe_call G2 hr (by rfl) N2.g N2.F.kp N2.b .nil pass0 (pa_cons (pv 1) (pa_cons (pv 2) pa_nil)))))), ?_⟩
    obtain ⟨dx, e1⟩ := sk.ob
    have lB := ordB_len B
    have few := to.len
    refine ⟨⟨_, rfl⟩, .ref v, rfl, v, dx, _, rfl, e1, rfl, v, p, B, rfl, sk, to, fun H1 l ps s1 nl el nps wl => ⟨l, rfl, ⟨_, SqL.of el⟩, fun D nD => ?_⟩⟩
    refine lc_list (K := K) (a := l) (xs := ps.map V.ref) (fun j H3 => Same H1 H3 ∧ H3 D = some (.lst ((((ordB B).take j).map fun z => wri z (cz z B)).map V.str))) ⟨same_upd nD, upd_same⟩ (fun j H3 _ h => SqL.of (h.1 _ _ el)) ?_ ?_
    · rintro j x H3 hx ⟨sm, eD⟩
      rw [List.getElem?_map] at hx
      obtain ⟨t, ht, rfl⟩ := Option.map_eq_some_iff.mp hx
      obtain ⟨z, hz, et⟩ := wl.at_ ht
      obtain ⟨u, eu, hu, c1, c2⟩ := ordB_few to (List.mem_of_getElem? hz)
      have lz : z.length ≤ 12 := by rw [eu, tx_len]; exact hu
      refine ⟨t, _, rfl, SqT.of (sm _ _ et), rfl, _, _, rfl, _, _, rfl, rfl, rfl, .str z, rfl, .int (cz z B), rfl, z, cz z B, rfl, lz, c1, c2, _, eD, ?_, same_new nD sm, ?_⟩
      · rw [List.length_map, List.length_map, List.length_take]
        exact fit' (by omega)
      · rw [upd_same, List.take_add_one, hz, List.map_append, List.map_append]
        rfl
    · rintro H3 ⟨sm, eD⟩
      rw [List.length_map, wl.len, List.take_length] at eD
      exact ⟨" + ", D, _, rfl, rfl, .inl (SqL.of eD), join_few to, q H3 (s1.trans sm)⟩
/-! ### Sum.is_finished -/
theorem back_same {H H6 : Hp} {p : Addr} {o : Obj} {u : HO} (e : H p = some u) (s : Same (upd H p (.frz o u)) H6) : Same H (upd H6 p u) := fun x v h => by
  by_cases hx : x = p
  · subst hx
    rw [upd_same, ← h, e]
  · rw [upd_ne hx]
    exact s x v (by rw [upd_ne hx]; exact h)
theorem zv_at {B : Tal} {i : Nat} {k : Key} {v : V} (h : (zv ιw B)[i]? = some (k, v)) : ∃ a c, B[i]? = some (a, c) ∧ k = ιw a ∧ v = .int c := by
  have h' : (B.map fun p => (ιw p.1, V.int p.2))[i]? = some (k, v) := h
  rw [List.getElem?_map] at h'
  obtain ⟨⟨a, c⟩, e, q⟩ := Option.map_eq_some_iff.mp h'
  obtain ⟨rfl, rfl⟩ := Prod.mk.inj q
  exact ⟨a, c, e, rfl, rfl⟩
theorem each_app {α β : Type} {R : α → β → Prop} : ∀ {as : List α} {bs : List β} {a : α} {b : β}, PySem.W.EachIs R as bs → R a b → PySem.W.EachIs R (as ++ [a]) (bs ++ [b])
  | _, _, _, _, .nil, r => .cons r .nil
  | _, _, _, _, .cons h t, r => .cons h (each_app t r)
theorem dp_lists {K : PySem.W.Frag} {H : Hp} : ∀ {ls : List Addr} {B : Tal}, PySem.W.EachIs (fun (l : Addr) (b : List Bool × Int) => H l = some (.lst ((plc b.1).map wv))) ls B → DpAll K H (ls.map V.ref) (B.map fun b => .list ((plc b.1).map dw))
  | _, _, .nil => .nil
  | _, _, .cons e r => .cons (.lst (SqL.of e) (dp_walls _)) (dp_lists r)
theorem plain_ints : ∀ ks : List Nat, PyData.plainAll (ks.map dw) = true
  | [] => rfl
  | a :: r => by
    show (PyData.plain (dw a) && PyData.plainAll (r.map dw)) = true
    rw [plain_ints r]
    rfl
theorem plain_lists : ∀ B : Tal, PyData.plainAll (B.map fun b => .list ((plc b.1).map dw)) = true
  | [] => rfl
  | a :: r => by
    show (PyData.plainAll ((plc a.1).map dw) && PyData.plainAll (r.map _)) = true
    rw [plain_lists r, plain_ints]
    rfl
theorem any_lists (B : Tal) : (B.map fun b => PyData.list ((plc b.1).map dw)).any PyData.truthy = B.any fun p => !(plc p.1).isEmpty := by
  rw [List.any_map]
  congr 1
  funext b
  show (!((plc b.1).map dw).isEmpty) = _
  rw [List.isEmpty_map]
def finB (B : Tal) : Bool := !(B.any fun p => !(plc p.1).isEmpty)
def spSFin (S : Addr) : Sp := fun vs H Q _ => ∃ (v p : Addr) (B : Tal), vs = [.ref v] ∧ SK S H v p B ∧ TO B ∧ ∀ H', Same H H' → Q (.bl (finB B)) H'
abbrev nSFin : List Str := ["self", "word"]
theorem scSFin : FnScope nSFin ["self"] (defScope sSFin) := ⟨rfl, rfl, rfl, by decide +kernel, rfl, by decide +kernel, by decide +kernel⟩
theorem ok_sfin {f f1 f2 f3 f4 : Addr} {fd fd1 fd2 fd3 fd4 : FuncData} {k : Nat} (F : Fun K "is_finished" "Sum.is_finished" sSFin f fd) (N1 : Fn K mg "is_row" sIsRow ["thing"] f1 fd1) (N2 : Fn K mg "is_word" sIsWord ["thing"] f2 fd2)
    (N3 : Fn K mg "need_word" sNeedWord ["thing"] f3 fd3) (N4 : Fn K mg "places_in" sPlaces ["word"] f4 fd4) (T : Txt K w mg d es n) (Z : Er K mg NW NP) (TS : TxtS K S) : FnOk P w K mg base CX0 (k + 5) f fd ["self"] (spSFin S) := by
  have G4 : FnOk P w K mg base (L2.CX P w) (k + 4) f4 fd4 ["word"] (spPlaces K NW) := ok_places N4.F N1 N2 N3 T Z
  refine F.ok scSFin (fun vs H Q E h => ?_) (fun cdv A outer s H vs Q E hr h => ?_)
  · obtain ⟨v, p, B, rfl, _⟩ := h
    rfl
  · obtain ⟨v, p, B, rfl, ⟨⟨dx, e1⟩, e2⟩, to, q⟩ := h
    have nd := scSFin.nd
    refine ⟨_, pss_one (ps_ret (pe_not (pe_callB (cr_anyD rfl) (by rfl) T.any (by decide +kernel) (pa_cons (pe_lock (pe_lc (own := [("word", 1)]) (g := gName 1) (tt := tYes) rfl nd (pi_keys (pe_fld (pv 0) rfl))
      (blkOk_by (own := [("word", 1)]) (N := nSFin) (sc := defScope sSFin) (by decide +kernel))
      (fun _ _ _ _ _ => pg_name (i := 1) nd rfl (Or.inl rfl)) (fun _ _ _ _ _ => pts_nil)
      (fun _ _ _ _ _ => pe_call G4 hr (by rfl) N4.g N4.F.kp N4.b .nil passX (pa_cons (pv 1) pa_nil)))) pa_nil)))), ?_⟩
    have nvp : v ≠ p := fun e => by
      rw [e, e2] at e1
      cases e1
    refine ⟨p, .dK (zv ιw B), e2, trivial, fun od => ?_⟩
    have ef : upd H p (.frz od (.dK (zv ιw B))) p = some (.frz od (.dK (zv ιw B))) := upd_same
    have ev : upd H p (.frz od (.dK (zv ιw B))) v = some (.ins S dx [("often", .ref p)]) := by rw [upd_ne nvp]; exact e1
    have back : ∀ {H6 : Hp}, Same (upd H p (.frz od (.dK (zv ιw B)))) H6 → Same H (upd H6 p (.dK (zv ιw B))) := fun s => back_same e2 s
    generalize upd H p (.frz od (.dK (zv ιw B))) = H1 at ef ev back
    have few := to.len
    refine ⟨.ref v, rfl, v, S, dx, _, _, rfl, ev, TS.cl, TS.no, rfl, p, od, rfl, .inl ⟨zv ιw B, ef, fun D nD => ?_⟩⟩
    refine lc_it walk_keys (fun j H6 => Same H1 H6 ∧ ∃ ls : List Addr, H6 D = some (.lst (ls.map V.ref)) ∧ PySem.W.EachIs (fun (l : Addr) (b : List Bool × Int) => l ≠ D ∧ H6 l = some (.lst ((plc b.1).map wv))) ls (B.take j)) ⟨same_upd nD, [], upd_same, .nil⟩ (fun j H6 _ h => h.1 _ _ ef) ?_ ?_
    · rintro j v0 H6 H6b hj ⟨s6, ls, eD, g6⟩ ⟨rfl, k0, c0, hk, rfl⟩
      obtain ⟨u, c, hu, rfl, rfl⟩ := zv_at hk
      have hu12 := (to.le _ (List.mem_of_getElem? hu)).2.2
      have hu12 : u.length ≤ 12 := hu12
      have ll : ls.length ≤ 4096 := by
        rw [g6.length, List.length_take]
        omega
      refine ⟨rfl, .str (tx u), rfl, .str (tx u), rfl, .inl ⟨u, rfl, by omega, fun H7 l s7 nl el => ⟨_, s7 _ _ eD, by rw [List.length_map]; exact fit' (by omega), same_new nD (s6.trans s7), ls ++ [l], by rw [upd_same, List.map_append]; rfl, ?_⟩⟩⟩
      have nlD : l ≠ D := fun e => by
        rw [e, eD] at nl
        cases nl
      rw [List.take_add_one, hu]
      exact each_app (g6.mono fun a b h => ⟨h.1, by rw [upd_ne h.1]; exact s7 _ _ h.2⟩) ⟨nlD, by rw [upd_ne nlD]; exact el⟩
    · rintro H6 ⟨s6, ls, eD, g6⟩
      rw [zv, List.length_map, List.take_length] at g6
      refine ⟨s6 _ _ ef, ?_⟩
      have nDp : D ≠ p := fun e => by
        rw [e, s6 _ _ ef] at eD
        cases eD
      have s8 := back s6
      have eD8 : upd H6 p (.dK (zv ιw B)) D = some (.lst (ls.map V.ref)) := by rw [upd_ne nDp]; exact eD
      have g8 := g6.mono (R' := fun (l : Addr) (b : List Bool × Int) => upd H6 p (.dK (zv ιw B)) l = some (.lst ((plc b.1).map wv))) fun l b h => by
        have nlp : l ≠ p := fun e => by
          have h2 := h.2
          rw [e, s6 _ _ ef] at h2
          cases h2
        rw [upd_ne nlp]
        exact h.2
      generalize upd H6 p (.dK (zv ιw B)) = H8 at s8 eD8 g8
      refine ⟨D, B.map fun b => .list ((plc b.1).map dw), rfl, .lst (SqL.of eD8) (dp_lists g8), plain_lists B, fun x hx => ?_, _, rfl, ?_⟩
      · obtain ⟨b, hb, rfl⟩ := List.mem_map.mp hx
        have h1 := plc_few b.1
        have h2 := (to.le _ hb).2.2
        show ((((plc b.1).map dw).length : Nat) : Int) < 2 ^ 63
        rw [List.length_map]
        omega
      · rw [any_lists]
        exact q H8 s8
end
end Hop

set_option Elab.async false
set_option linter.all false
set_option maxRecDepth 100000
/-! ### sorted(a list of texts), however many -/
namespace HopR
open PySem PySem.Spec PyProof.Rows L2
def tsort (ks : List Str) : List Str := ks.mergeSort (PySem.W.dataLe false PyData.str)
theorem tsort_perm (ks : List Str) : (tsort ks).Perm ks := List.mergeSort_perm ..
theorem each_of_vals : ∀ {ks : List Str} {vs : List Value}, Vals (ks.map V.str) vs → PySem.W.EachIs (fun (v : Value) (z : Str) => ∃ t, v = Value.str z t) vs ks
  | [], _, r => by cases r; exact .nil
  | z :: ks, _, r => by
    rw [List.map_cons] at r
    cases r with
    | cons h t => exact .cons h (each_of_vals t)
def rSortedTx : List V → Hp → VK → Prop := fun xs H Q => ∃ (a : Addr) (ks : List Str), xs = [.ref a] ∧ H a = some (.lst (ks.map V.str)) ∧ ∀ (p : Addr), H p = none → Q (.ref p) (upd H p (.lst ((tsort ks).map V.str)))
theorem cr_sortedTx {X : Cx} (hr : Room 4 X.A) : CallR X (.builtin "sorted") rSortedTx := by
  rintro pins s σ H _ us Q I r ⟨a, ks, rfl, ha, q⟩
  obtain rfl := Vals.ref1 r
  obtain ⟨hz, its, n, rv, hob⟩ := I.hok a _ ha
  have un := hr.units
  have ea := each_of_vals rv
  have lks : ks.length ≤ sizeLine := by simpa using hz
  have er : PySem.W.EachIs (fun (v : Value) (z : Str) => ∃ as, Reads s.heap v (PyData.str z) as) its ks := ea.mono fun v z hh => by
    obtain ⟨t, e⟩ := hh
    subst e
    exact ⟨_, .str _ _⟩
  refine PySem.W.sorted_data (enc := PyData.str) (vs := its) ⟨_, hob, rfl, _, rfl⟩ ea er (PySem.W.AllAlike.of fun _ _ => rfl) (.inr fun d hd => ?_) lks (fun z _ => by show X.A.units + 2 + 0 < cLine; omega) fun out hlen ei => ?_
  · obtain ⟨z, _, rfl⟩ := List.mem_map.mp hd
    refine ⟨fun h => ?_, fun _ h => ?_⟩ <;> cases h
  · obtain ⟨ep, he'⟩ := PyProof.Rows.sortedAll_at s.heap its out.toArray
    have lq' : ((tsort ks).map V.str).length ≤ sizeLine := by
      rw [List.length_map, (tsort_perm ks).length_eq]
      exact lks
    exact ⟨.ref _, upd H (s.heap.objs.size + 1) (.lst ((tsort ks).map V.str)), I.laid (t' := s.toks) (fun _ _ => PyProof.Rows.sortedAll_old) (Nat.le_succ _) ⟨lq', out, ep, vals_each ei, he'⟩, rfl, q _ (I.hok.fresh (Nat.le_succ _))⟩
end HopR

set_option Elab.async false
set_option linter.all false
set_option maxRecDepth 100000
/-! ### what repr tells of texts of signs, numbers, lists and tuples, told back -/
namespace HopR
open PySem PySem.Builtin PySem.Builtin.Str
def cs (x : Str) : List Nat := x.cps.toList
theorem cs_app (x y : Str) : cs (x ++ y) = cs x ++ cs y := Array.toList_append
theorem cs_inj {x y : Str} (h : cs x = cs y) : x = y := by
  cases x; cases y
  exact congrArg Str.mk (Array.toList_inj.mp h)
def dig (n : Nat) : List Nat := (Nat.toDigits 10 n).map Char.toNat
theorem dig_digit {n c : Nat} (h : c ∈ dig n) : 48 ≤ c ∧ c ≤ 57 := by
  obtain ⟨a, ha, rfl⟩ := List.mem_map.mp h
  have := Nat.isDigit_of_mem_toDigits (by decide) (by decide) ha
  simp only [Char.isDigit, Bool.and_eq_true, decide_eq_true_eq] at this
  exact ⟨this.1, this.2⟩
theorem dig_ne (n : Nat) : dig n ≠ [] := fun h => Nat.toDigits_ne_nil (List.map_eq_nil_iff.mp h)
theorem dig_inj {m n : Nat} (h : dig m = dig n) : m = n := by
  have e : Nat.toDigits 10 m = Nat.toDigits 10 n := by
    refine List.map_inj_right (f := Char.toNat) (fun a b h => ?_) |>.mp h
    exact Char.ext (UInt32.toNat_inj.mp h)
  have := congrArg (fun l => Nat.ofDigitChars 10 l 0) e
  simpa [Nat.ofDigitChars_ten_toDigits] using this
def numC : Int → List Nat
  | .ofNat n => dig n
  | .negSucc n => 45 :: dig (n + 1)
theorem cs_of (s : String) : cs (Str.ofString s) = s.toList.map Char.toNat := by
  unfold cs
  rw [Str.ofString_eq_toList]
theorem cs_int (i : Int) : cs (Str.ofString (toString i)) = numC i := by
  rw [cs_of]
  cases i with
  | ofNat n =>
    show (toString n).toList.map Char.toNat = dig n
    rw [Nat.toString_eq_ofList_toDigits]
    simp [dig]
  | negSucc n =>
    show ("-" ++ toString (n + 1)).toList.map Char.toNat = 45 :: dig (n + 1)
    rw [Nat.toString_eq_ofList_toDigits]
    simp [dig]
/-- what follows a number is no digit -/
def nd (r : List Nat) : Prop := ∀ c t, r = c :: t → ¬ (48 ≤ c ∧ c ≤ 57)
theorem digs_split : ∀ {xs ys r r' : List Nat}, (∀ c ∈ xs, 48 ≤ c ∧ c ≤ 57) → (∀ c ∈ ys, 48 ≤ c ∧ c ≤ 57) → nd r → nd r' → xs ++ r = ys ++ r' → xs = ys ∧ r = r'
  | [], [], _, _, _, _, _, _, h => ⟨rfl, h⟩
  | [], y :: ys, r, r', _, hy, hr, _, h => absurd (hy y (List.mem_cons_self ..)) (hr y _ h)
  | x :: xs, [], r, r', hx, _, _, hr, h => absurd (hx x (List.mem_cons_self ..)) (hr x _ h.symm)
  | x :: xs, y :: ys, r, r', hx, hy, a, b, h => by
    rw [List.cons_append, List.cons_append] at h
    injection h with h1 h2
    subst h1
    obtain ⟨e, f⟩ := digs_split (fun c hc => hx c (List.mem_cons_of_mem _ hc)) (fun c hc => hy c (List.mem_cons_of_mem _ hc)) a b h2
    exact ⟨by rw [e], f⟩
theorem numC_split {i j : Int} {r r' : List Nat} (hr : nd r) (hr' : nd r') (h : numC i ++ r = numC j ++ r') : i = j ∧ r = r' := by
  have dg : ∀ n, ∀ c ∈ dig n, 48 ≤ c ∧ c ≤ 57 := fun n c hc => dig_digit hc
  have hd : ∀ n (x : Nat) t, dig n ++ t = 45 :: x :: [] ++ t → True := fun _ _ _ _ => trivial
  match i, j, h with
  | .ofNat m, .ofNat n, h =>
    obtain ⟨e, f⟩ := digs_split (dg m) (dg n) hr hr' h
    exact ⟨congrArg _ (dig_inj e), f⟩
  | .negSucc m, .negSucc n, h =>
    have h : dig (m + 1) ++ r = dig (n + 1) ++ r' := (List.cons.inj h).2
    obtain ⟨e, f⟩ := digs_split (dg _) (dg _) hr hr' h
    have := dig_inj e
    exact ⟨congrArg Int.negSucc (by omega), f⟩
  | .ofNat m, .negSucc n, h =>
    cases e : dig m with
    | nil => exact absurd e (dig_ne m)
    | cons a t =>
      have h : dig m ++ r = 45 :: (dig (n + 1) ++ r') := h
      rw [e, List.cons_append] at h
      have h1 := (List.cons.inj h).1
      have h2 := dg m a (by rw [e]; exact List.mem_cons_self ..)
      omega
  | .negSucc m, .ofNat n, h =>
    cases e : dig n with
    | nil => exact absurd e (dig_ne n)
    | cons a t =>
      have h : 45 :: (dig (m + 1) ++ r) = dig n ++ r' := h
      rw [e, List.cons_append] at h
      have h1 := (List.cons.inj h).1
      have h2 := dg n a (by rw [e]; exact List.mem_cons_self ..)
      omega
/-! texts -/
def sgs (x : Str) : Bool := (cs x).all fun c => c == 111 || c == 46
theorem sgs_tx (bs : List Bool) : sgs (tx bs) = true := by
  unfold sgs cs
  rw [tx_list, List.all_map, List.all_eq_true]
  intro b _
  cases b <;> decide
theorem sgs_at {x : Str} (h : sgs x = true) : ∀ c ∈ cs x, c = 111 ∨ c = 46 := fun c hc => by
  have := List.all_eq_true.mp h c hc
  simpa using this
theorem cs_repr {x : Str} (h : sgs x = true) : cs (reprText x) = 39 :: (cs x ++ [39]) := by
  have hx := sgs_at h
  have hq : reprQuote x = 39 := by
    unfold reprQuote
    have : x.cps.contains 39 = false := by
      rw [← Bool.not_eq_true, Array.contains_iff_exists_mem_beq]
      rintro ⟨c, hc, e⟩
      have e := beq_iff_eq.mp e
      have := hx c (by unfold cs; exact Array.mem_toList_iff.mpr hc)
      omega
    rw [this]
    rfl
  have hf : ∀ (l : List Nat) (acc : Array Nat), (∀ c ∈ l, c = 111 ∨ c = 46) → (l.foldl (fun out c => out ++ (reprChar 39 c).toArray) acc).toList = acc.toList ++ l := fun l => by
    induction l with
    | nil => exact fun acc _ => (List.append_nil _).symm
    | cons c r ih =>
      intro acc hl
      have e : reprChar 39 c = [c] := by
        rcases hl c (List.mem_cons_self ..) with rfl | rfl <;> decide
      rw [List.foldl_cons, ih _ fun a ha => hl a (List.mem_cons_of_mem _ ha), e, Array.toList_append]
      simp
  unfold reprText cs
  rw [hq, Array.toList_push, ← Array.foldl_toList, hf x.cps.toList _ hx]
  rfl
theorem sg_split : ∀ {xs ys r r' : List Nat}, (∀ c ∈ xs, c = 111 ∨ c = 46) → (∀ c ∈ ys, c = 111 ∨ c = 46) → xs ++ 39 :: r = ys ++ 39 :: r' → xs = ys ∧ r = r'
  | [], [], _, _, _, _, h => ⟨rfl, (List.cons.inj h).2⟩
  | [], y :: ys, r, r', _, hy, h => by
    have h1 := (List.cons.inj h).1
    have := hy y (List.mem_cons_self ..)
    omega
  | x :: xs, [], r, r', hx, _, h => by
    have h1 := (List.cons.inj h).1
    have := hx x (List.mem_cons_self ..)
    omega
  | x :: xs, y :: ys, r, r', hx, hy, h => by
    rw [List.cons_append, List.cons_append] at h
    injection h with h1 h2
    subst h1
    obtain ⟨e, f⟩ := sg_split (fun c hc => hx c (List.mem_cons_of_mem _ hc)) (fun c hc => hy c (List.mem_cons_of_mem _ hc)) h2
    exact ⟨by rw [e], f⟩
/-! lists, tuples -/
def pre : List (List Nat) → List Nat
  | [] => []
  | x :: r => 44 :: 32 :: (x ++ pre r)
def bod : List (List Nat) → List Nat
  | [] => []
  | x :: r => x ++ pre r
theorem cs_comma : cs (Str.ofString ", ") = [44, 32] := by decide +kernel
theorem cs_from : ∀ (ts : List Str) (k : Nat) (acc : Str), cs (textFrom k acc ts) = cs acc ++ (if k = 0 then bod (ts.map cs) else pre (ts.map cs))
  | [], k, acc => by
    show cs acc = cs acc ++ _
    by_cases h : k = 0
    · rw [if_pos h]; exact (List.append_nil _).symm
    · rw [if_neg h]; exact (List.append_nil _).symm
  | t :: r, 0, acc => by
    have ih := cs_from r 1 (acc ++ (if 0 > 0 then ", " else "" : String) ++ t)
    show cs (textFrom 1 (acc ++ (if 0 > 0 then ", " else "" : String) ++ t) r) = _
    rw [ih, cs_app, cs_app, if_neg (by decide), if_neg (by decide), if_pos rfl]
    have e : cs (Str.ofString "") = [] := by decide +kernel
    rw [e]
    show _ = cs acc ++ (cs t ++ pre (r.map cs))
    simp
  | t :: r, k + 1, acc => by
    have ih := cs_from r (k + 2) (acc ++ (if k + 1 > 0 then ", " else "" : String) ++ t)
    show cs (textFrom (k + 2) (acc ++ (if k + 1 > 0 then ", " else "" : String) ++ t) r) = _
    rw [ih, cs_app, cs_app, if_pos (Nat.succ_pos k), if_neg (by omega), if_neg (by omega), cs_comma]
    show _ = cs acc ++ (44 :: 32 :: (cs t ++ pre (r.map cs)))
    simp
theorem cs_list (ts : List Str) : cs (listText ts) = 91 :: (bod (ts.map cs) ++ [93]) := by
  unfold listText
  rw [cs_app, cs_from, if_pos rfl]
  have e : cs (Str.ofString "[") = [91] := by decide +kernel
  have f : cs (Str.ofString "]") = [93] := by decide +kernel
  rw [e, f]
  simp
theorem cs_join : ∀ ts : List Str, cs (Str.join ", " ts) = bod (ts.map cs)
  | [] => by decide +kernel
  | [x] => (List.append_nil _).symm
  | x :: y :: r => by
    show cs (x ++ Str.ofString ", " ++ Str.join ", " (y :: r)) = cs x ++ (44 :: 32 :: (cs y ++ pre (r.map cs)))
    rw [cs_app, cs_app, cs_comma, cs_join (y :: r)]
    show _ = cs x ++ (44 :: 32 :: bod ((y :: r).map cs))
    simp
def clo (n : Nat) : List Nat := if n = 1 then [44, 41] else [41]
theorem cs_tuple (ts : List Str) : cs (tupleText ts) = 40 :: (bod (ts.map cs) ++ clo ts.length) := by
  unfold tupleText clo
  rw [cs_app, cs_app, cs_join]
  have e : cs (Str.ofString "(") = [40] := by decide +kernel
  have f : cs (Str.ofString ",)") = [44, 41] := by decide +kernel
  have g : cs (Str.ofString ")") = [41] := by decide +kernel
  rw [e]
  by_cases h : ts.length = 1
  · rw [if_pos h, if_pos (by simpa using h), f]
    simp
  · rw [if_neg h, if_neg (by simpa using h), g]
    simp
mutual
/-- texts of signs, numbers, lists and tuples of these -/
def Rp : PyData → Bool
  | .int _ => true
  | .str x => sgs x
  | .list xs => RpAll xs
  | .tuple xs => RpAll xs
  | _ => false
def RpAll : List PyData → Bool
  | [] => true
  | x :: r => Rp x && RpAll r
end
theorem shownAll_len : ∀ xs : List PyData, (PyData.shownAll xs).length = xs.length
  | [] => rfl
  | x :: r => by
    show (PyData.shownAll r).length + 1 = r.length + 1
    rw [shownAll_len r]
/-- the first sign -/
def fst (d : PyData) (c : Nat) : Prop := match d with
  | .int _ => c = 45 ∨ (48 ≤ c ∧ c ≤ 57)
  | .str _ => c = 39
  | .list _ => c = 91
  | .tuple _ => c = 40
  | _ => False
theorem hd_of {d : PyData} (h : Rp d = true) : ∃ c t, cs d.shown = c :: t ∧ fst d c := by
  match d, h with
  | .int i, _ =>
    show ∃ c t, cs (Str.ofString (toString i)) = c :: t ∧ _
    rw [cs_int]
    cases i with
    | ofNat n =>
      show ∃ c t, dig n = c :: t ∧ _
      cases e : dig n with
      | nil => exact absurd e (dig_ne n)
      | cons a t => exact ⟨a, t, rfl, .inr (dig_digit (n := n) (by rw [e]; exact List.mem_cons_self ..))⟩
    | negSucc n => exact ⟨45, _, rfl, .inl rfl⟩
  | .str x, h =>
    have h : sgs x = true := by simpa [Rp] using h
    show ∃ c t, cs (reprText x) = c :: t ∧ _
    rw [cs_repr h]
    exact ⟨39, _, rfl, rfl⟩
  | .list xs, _ =>
    show ∃ c t, cs (listText (PyData.shownAll xs)) = c :: t ∧ _
    rw [cs_list]
    exact ⟨91, _, rfl, rfl⟩
  | .tuple xs, _ =>
    show ∃ c t, cs (tupleText (PyData.shownAll xs)) = c :: t ∧ _
    rw [cs_tuple]
    exact ⟨40, _, rfl, rfl⟩
  | .none, h => simp [Rp] at h
  | .bool _, h => simp [Rp] at h
  | .dict _, h => simp [Rp] at h
theorem nd_pre {xs : List (List Nat)} {z : Nat} {r : List Nat} (hz : z = 93 ∨ z = 41 ∨ z = 44) : nd (pre xs ++ z :: r) := fun c t h => by
  cases xs with
  | nil =>
    have := (List.cons.inj h).1
    omega
  | cons x s =>
    have := (List.cons.inj h).1
    omega
theorem fst_ne {d : PyData} {c : Nat} (h : fst d c) : c ≠ 93 ∧ c ≠ 41 := by
  cases d <;> simp only [fst] at h <;> omega
theorem nd_clo (xs : List (List Nat)) (n : Nat) (r : List Nat) : nd (pre xs ++ (clo n ++ r)) := by
  unfold clo
  split
  · exact nd_pre (z := 44) (r := 41 :: r) (by omega)
  · exact nd_pre (z := 41) (r := r) (by omega)
mutual
theorem shown_split : ∀ (d e : PyData) (r r' : List Nat), Rp d = true → Rp e = true → nd r → nd r' → cs d.shown ++ r = cs e.shown ++ r' → d = e ∧ r = r'
  | d, e, r, r', hd, he, hr, hr', h => by
    obtain ⟨c, t, e1, f1⟩ := hd_of hd
    obtain ⟨c', t', e2, f2⟩ := hd_of he
    have ec : c = c' := by
      rw [e1, e2] at h
      exact (List.cons.inj h).1
    subst ec
    match d, e, hd, he, f1, f2, h with
    | .int i, .int j, _, _, _, _, h =>
      have h : cs (Str.ofString (toString i)) ++ r = cs (Str.ofString (toString j)) ++ r' := h
      rw [cs_int, cs_int] at h
      obtain ⟨a, b⟩ := numC_split hr hr' h
      exact ⟨by rw [a], b⟩
    | .str x, .str y, hd, he, _, _, h =>
      have hx : sgs x = true := by simpa [Rp] using hd
      have hy : sgs y = true := by simpa [Rp] using he
      have h : cs (reprText x) ++ r = cs (reprText y) ++ r' := h
      rw [cs_repr hx, cs_repr hy] at h
      have h : (cs x ++ [39]) ++ r = (cs y ++ [39]) ++ r' := (List.cons.inj h).2
      rw [List.append_assoc, List.append_assoc] at h
      obtain ⟨a, b⟩ := sg_split (sgs_at hx) (sgs_at hy) h
      exact ⟨by rw [cs_inj a], b⟩
    | .list [], .list [], _, _, _, _, h =>
      have h : cs (listText []) ++ r = cs (listText []) ++ r' := h
      exact ⟨rfl, List.append_cancel_left h⟩
    | .list [], .list (y :: ys), _, he, _, _, h =>
      have h : cs (listText []) ++ r = cs (listText (PyData.shownAll (y :: ys))) ++ r' := h
      simp only [Rp, RpAll, Bool.and_eq_true] at he
      obtain ⟨c, t, e, f⟩ := hd_of he.1
      rw [cs_list, cs_list] at h
      have h : 93 :: r = (cs y.shown ++ pre ((PyData.shownAll ys).map cs)) ++ [93] ++ r' := (List.cons.inj h).2
      rw [e] at h
      have := (List.cons.inj h).1
      have := fst_ne f
      omega
    | .list (x :: xs), .list [], hd, _, _, _, h =>
      have h : cs (listText (PyData.shownAll (x :: xs))) ++ r = cs (listText []) ++ r' := h
      simp only [Rp, RpAll, Bool.and_eq_true] at hd
      obtain ⟨c, t, e, f⟩ := hd_of hd.1
      rw [cs_list, cs_list] at h
      have h : (cs x.shown ++ pre ((PyData.shownAll xs).map cs)) ++ [93] ++ r = 93 :: r' := (List.cons.inj h).2
      rw [e] at h
      have := (List.cons.inj h).1
      have := fst_ne f
      omega
    | .list (x :: xs), .list (y :: ys), hd, he, _, _, h =>
      have h : cs (listText (PyData.shownAll (x :: xs))) ++ r = cs (listText (PyData.shownAll (y :: ys))) ++ r' := h
      simp only [Rp, RpAll, Bool.and_eq_true] at hd he
      rw [cs_list, cs_list] at h
      have h : (cs x.shown ++ pre ((PyData.shownAll xs).map cs)) ++ [93] ++ r = (cs y.shown ++ pre ((PyData.shownAll ys).map cs)) ++ [93] ++ r' := (List.cons.inj h).2
      rw [List.append_assoc, List.append_assoc, List.append_assoc, List.append_assoc] at h
      obtain ⟨a, b⟩ := shown_split x y _ _ hd.1 he.1 (nd_pre (by omega)) (nd_pre (by omega)) h
      obtain ⟨a2, b2⟩ := pre_split xs ys 93 r r' (.inl rfl) hd.2 he.2 b
      exact ⟨by rw [a, a2], b2⟩
    | .tuple [], .tuple [], _, _, _, _, h =>
      have h : cs (tupleText []) ++ r = cs (tupleText []) ++ r' := h
      exact ⟨rfl, List.append_cancel_left h⟩
    | .tuple [], .tuple (y :: ys), _, he, _, _, h =>
      have h : cs (tupleText []) ++ r = cs (tupleText (PyData.shownAll (y :: ys))) ++ r' := h
      simp only [Rp, RpAll, Bool.and_eq_true] at he
      obtain ⟨c, t, e, f⟩ := hd_of he.1
      rw [cs_tuple, cs_tuple] at h
      have h : 41 :: r = (cs y.shown ++ pre ((PyData.shownAll ys).map cs)) ++ clo (PyData.shownAll (y :: ys)).length ++ r' := (List.cons.inj h).2
      rw [e] at h
      have := (List.cons.inj h).1
      have := fst_ne f
      omega
    | .tuple (x :: xs), .tuple [], hd, _, _, _, h =>
      have h : cs (tupleText (PyData.shownAll (x :: xs))) ++ r = cs (tupleText []) ++ r' := h
      simp only [Rp, RpAll, Bool.and_eq_true] at hd
      obtain ⟨c, t, e, f⟩ := hd_of hd.1
      rw [cs_tuple, cs_tuple] at h
      have h : (cs x.shown ++ pre ((PyData.shownAll xs).map cs)) ++ clo (PyData.shownAll (x :: xs)).length ++ r = 41 :: r' := (List.cons.inj h).2
      rw [e] at h
      have := (List.cons.inj h).1
      have := fst_ne f
      omega
    | .tuple (x :: xs), .tuple (y :: ys), hd, he, _, _, h =>
      have h : cs (tupleText (PyData.shownAll (x :: xs))) ++ r = cs (tupleText (PyData.shownAll (y :: ys))) ++ r' := h
      simp only [Rp, RpAll, Bool.and_eq_true] at hd he
      rw [cs_tuple, cs_tuple] at h
      have h : (cs x.shown ++ pre ((PyData.shownAll xs).map cs)) ++ clo ((PyData.shownAll xs).length + 1) ++ r = (cs y.shown ++ pre ((PyData.shownAll ys).map cs)) ++ clo ((PyData.shownAll ys).length + 1) ++ r' := (List.cons.inj h).2
      rw [List.append_assoc, List.append_assoc, List.append_assoc, List.append_assoc, shownAll_len, shownAll_len] at h
      obtain ⟨a, b⟩ := shown_split x y _ _ hd.1 he.1 (nd_clo _ _ _) (nd_clo _ _ _) h
      match xs, ys, hd, he, b with
      | [], [], _, _, b =>
        have b : 44 :: 41 :: r = 44 :: 41 :: r' := b
        exact ⟨by rw [a], (List.cons.inj (List.cons.inj b).2).2⟩
      | [], y2 :: ys, _, _, b =>
        have b : 44 :: 41 :: r = 44 :: 32 :: ((cs y2.shown ++ pre ((PyData.shownAll ys).map cs)) ++ (clo (ys.length + 2) ++ r')) := b
        have := (List.cons.inj (List.cons.inj b).2).1
        omega
      | x2 :: xs, [], _, _, b =>
        have b : 44 :: 32 :: ((cs x2.shown ++ pre ((PyData.shownAll xs).map cs)) ++ (clo (xs.length + 2) ++ r)) = 44 :: 41 :: r' := b
        have := (List.cons.inj (List.cons.inj b).2).1
        omega
      | x2 :: xs, y2 :: ys, hd, he, b =>
        have b : pre ((PyData.shownAll (x2 :: xs)).map cs) ++ 41 :: r = pre ((PyData.shownAll (y2 :: ys)).map cs) ++ 41 :: r' := b
        obtain ⟨a2, b2⟩ := pre_split (x2 :: xs) (y2 :: ys) 41 r r' (.inr rfl) hd.2 he.2 b
        exact ⟨by rw [a, a2], b2⟩
    | .int _, .str _, _, _, f1, f2, _ => simp only [fst] at f1 f2; omega
    | .int _, .list _, _, _, f1, f2, _ => simp only [fst] at f1 f2; omega
    | .int _, .tuple _, _, _, f1, f2, _ => simp only [fst] at f1 f2; omega
    | .str _, .int _, _, _, f1, f2, _ => simp only [fst] at f1 f2; omega
    | .str _, .list _, _, _, f1, f2, _ => simp only [fst] at f1 f2; omega
    | .str _, .tuple _, _, _, f1, f2, _ => simp only [fst] at f1 f2; omega
    | .list _, .int _, _, _, f1, f2, _ => simp only [fst] at f1 f2; omega
    | .list _, .str _, _, _, f1, f2, _ => simp only [fst] at f1 f2; omega
    | .list _, .tuple _, _, _, f1, f2, _ => simp only [fst] at f1 f2; omega
    | .tuple _, .int _, _, _, f1, f2, _ => simp only [fst] at f1 f2; omega
    | .tuple _, .str _, _, _, f1, f2, _ => simp only [fst] at f1 f2; omega
    | .tuple _, .list _, _, _, f1, f2, _ => simp only [fst] at f1 f2; omega
theorem pre_split : ∀ (ds es : List PyData) (z : Nat) (r r' : List Nat), (z = 93 ∨ z = 41) → RpAll ds = true → RpAll es = true → pre ((PyData.shownAll ds).map cs) ++ z :: r = pre ((PyData.shownAll es).map cs) ++ z :: r' → ds = es ∧ r = r'
  | [], [], _, _, _, _, _, _, h => ⟨rfl, (List.cons.inj h).2⟩
  | [], e :: es, z, _, _, hz, _, _, h => by
    have := (List.cons.inj h).1
    omega
  | d :: ds, [], z, _, _, hz, _, _, h => by
    have := (List.cons.inj h).1
    omega
  | d :: ds, e :: es, z, r, r', hz, hd, he, h => by
    simp only [RpAll, Bool.and_eq_true] at hd he
    have h : 44 :: 32 :: (cs d.shown ++ pre ((PyData.shownAll ds).map cs)) ++ z :: r = 44 :: 32 :: (cs e.shown ++ pre ((PyData.shownAll es).map cs)) ++ z :: r' := h
    have h := (List.cons.inj (List.cons.inj h).2).2
    rw [List.append_eq, List.append_eq, List.append_assoc, List.append_assoc] at h
    obtain ⟨a, b⟩ := shown_split d e _ _ hd.1 he.1 (nd_pre (by omega)) (nd_pre (by omega)) h
    obtain ⟨a2, b2⟩ := pre_split ds es z r r' hz hd.2 he.2 b
    exact ⟨by rw [a, a2], b2⟩
end
theorem shown_inj {d e : PyData} (hd : Rp d = true) (he : Rp e = true) (h : d.shown = e.shown) : d = e :=
  (shown_split d e [] [] hd he (fun _ _ h => nomatch h) (fun _ _ h => nomatch h) (by rw [h])).1
end HopR

set_option Elab.async false
set_option linter.all false
set_option maxRecDepth 100000
/-! ### dicts of numbers: ==; the order of words is the same for the same words -/
namespace HopR
open PySem PySem.Spec PyProof.Rows L2
section
variable {κ : Type} [DecidableEq κ]
theorem hits_int {A : Around} {s : Shared} {ls : List (κ × V)} {vb : List (κ × Value)} (rb : KV ls vb) (hb : ∀ p ∈ ls, ∃ i : Int, p.2 = .int i) {ks : List (κ × V)} {va : List (κ × Value)} (ra : KV ks va) :
    (∀ p ∈ ks, ∃ i : Int, p.2 = .int i) → PySem.W.KeqHits A s vb va (ks.all fun p => decide (valV ls p.1 = some p.2)) := by
  unfold KV at ra
  induction ra with
  | nil => intro _; exact .nil
  | @cons p q ps qs h t ih =>
    intro hp
    obtain ⟨h1, h2⟩ := h
    obtain ⟨i, ei⟩ := hp p List.mem_cons_self
    obtain ⟨k, v⟩ := q
    have h1' : p.1 = k := h1
    have rr := rb.val p.1
    rw [h1'] at rr
    rw [List.all_cons]
    rw [h1']
    cases e : valV ls k with
    | none =>
      rw [e] at rr
      have hn : valueAt vb k = none := by
        cases h : valueAt vb k with
        | none => rfl
        | some y => rw [h] at rr; exact rr.elim
      have : decide ((none : Option V) = some p.2) = false := by simp
      rw [this, Bool.false_and]
      exact .miss hn
    | some z =>
      rw [e] at rr
      obtain ⟨y, hy, ry⟩ := rr.some_of
      obtain ⟨kv, hkv, ez⟩ := Option.map_eq_some_iff.mp (show (ls.find? fun kv => decide (kv.1 = k)).map (·.2) = some z from e)
      obtain ⟨j, ej⟩ := hb kv (List.mem_of_find?_eq_some hkv)
      rw [ez] at ej
      subst ej
      rw [ei] at h2 ⊢
      obtain ⟨t1, rfl⟩ := h2
      obtain ⟨t2, rfl⟩ := ry
      have ee : decide (some (V.int j) = some (V.int i)) = (i == j) := by
        rw [Bool.beq_eq_decide_eq]
        exact decide_eq_decide.mpr ⟨fun h => by injection h with h; injection h with h; exact h.symm, fun h => by rw [h]⟩
      rw [ee]
      exact .hit hy (SeqAt.EqAt.int_int i t1 j t2) (ih fun p' hm => hp p' (List.mem_cons_of_mem _ hm))
end
def eqD (ks ls : List (Key × V)) : Bool := ks.length == ls.length && ks.all fun p => decide (valV ls p.1 = some p.2)
def rEqDI : R2 := fun x y H Q => ∃ a b ks ls, x = .ref a ∧ y = .ref b ∧ H a = some (.dK ks) ∧ H b = some (.dK ls) ∧ (∀ p ∈ ks, ∃ i : Int, p.2 = .int i) ∧ (∀ p ∈ ls, ∃ i : Int, p.2 = .int i) ∧ Q (.bl (eqD ks ls)) H
theorem op_eqDI {X : Cx} (hu : X.A.units < cLine) : OpR X (compareOp .Eq) rEqDI := by
  intro pins s σ H x y v u Q I rx ry h
  obtain ⟨a, b, ks, ls, rfl, rfl, ea, eb, hk, hl, q⟩ := h
  obtain rfl : v = Value.ref a := rx
  obtain rfl : u = Value.ref b := ry
  obtain ⟨_, ya, va, ra, da⟩ := (show ObjOk X.prog X.w H s.heap a (.dK ks) from I.hok a _ ea)
  obtain ⟨_, yb, vb, rb, db⟩ := (show ObjOk X.prog X.w H s.heap b (.dK ls) from I.hok b _ eb)
  exact PySem.W.keq_eq (knd := mixKind X.prog X.w) ya yb da db hu (fun _ => hits_int rb hl ra hk) (fin_bl I q (by unfold eqD; rw [ra.length, rb.length]))
/-! the order -/
theorem le_kof (z y : Str) : PySem.W.dataLe false kof z y = decide (z.length < y.length ∨ (z.length = y.length ∧ cs z ≤ cs y)) := by
  rw [PySem.W.dataLe_eq]
  show (!PySem.W.dataLt (kof y) (kof z)) = _
  unfold kof
  rw [PySem.W.dataLt_pair (by simp [PySem.W.alike]) (by simp [PySem.W.alike]), PySem.W.dataLt_int, PySem.W.dataLt_str]
  simp only [PyData.eqv, beq_iff_eq]
  by_cases h1 : (y.length : Int) = (z.length : Int)
  · have h1' : z.length = y.length := by omega
    by_cases h2 : y = z
    · subst h2
      simp
    · rw [if_pos h1, if_neg h2]
      have e : (!decide (y.cps.toList < z.cps.toList)) = decide (cs z ≤ cs y) := PySem.W.not_lt_str _ _
      rw [e]
      exact decide_eq_decide.mpr ⟨fun h => .inr ⟨h1', h⟩, fun h => h.elim (fun h => by omega) (·.2)⟩
  · rw [if_neg h1]
    by_cases h3 : (y.length : Int) < (z.length : Int)
    · rw [decide_eq_true h3, decide_eq_false (by omega)]
      rfl
    · rw [decide_eq_false h3, decide_eq_true (.inl (by omega))]
      rfl
theorem lsort_eq {ks ms : List Str} (p : ks.Perm ms) : lsort ks = lsort ms := by
  have trans : ∀ a b c : Str, PySem.W.dataLe false kof a b = true → PySem.W.dataLe false kof b c = true → PySem.W.dataLe false kof a c = true := fun a b c h1 h2 => by
    rw [le_kof] at *
    have h1 := of_decide_eq_true h1
    have h2 := of_decide_eq_true h2
    refine decide_eq_true ?_
    rcases h1 with h1 | ⟨h1, h1'⟩ <;> rcases h2 with h2 | ⟨h2, h2'⟩
    · exact .inl (by omega)
    · exact .inl (by omega)
    · exact .inl (by omega)
    · exact .inr ⟨by omega, List.le_trans h1' h2'⟩
  have total : ∀ a b : Str, (PySem.W.dataLe false kof a b || PySem.W.dataLe false kof b a) = true := fun a b => by
    rw [le_kof, le_kof, Bool.or_eq_true, decide_eq_true_eq, decide_eq_true_eq]
    rcases Nat.lt_trichotomy a.length b.length with h | h | h
    · exact .inl (.inl h)
    · rcases List.le_total (cs a) (cs b) with g | g
      · exact .inl (.inr ⟨h, g⟩)
      · exact .inr (.inr ⟨h.symm, g⟩)
    · exact .inr (.inl h)
  refine List.Perm.eq_of_pairwise (le := fun a b => PySem.W.dataLe false kof a b = true) ?_ (List.pairwise_mergeSort trans total ks) (List.pairwise_mergeSort trans total ms) (((lsort_perm ks).trans p).trans (lsort_perm ms).symm)
  intro a b _ _ h1 h2
  rw [le_kof] at h1 h2
  have h1 := of_decide_eq_true h1
  have h2 := of_decide_eq_true h2
  rcases h1 with h1 | ⟨h1, h1'⟩ <;> rcases h2 with h2 | ⟨h2, h2'⟩ <;> first | omega | exact cs_inj (List.le_antisymm h1' h2')
end HopR

set_option Elab.async false
set_option linter.all false
set_option maxRecDepth 100000
namespace Hop
open PySem L2 HopR HopW
abbrev sSFinish : Stmt := inClass (top 24) 2
abbrev sSEq : Stmt := inClass (top 24) 5
abbrev sLSt : Stmt := top 29
theorem tx_of2 : ("o." : Str) = tx [true, false] := by decide +kernel
section
variable {P : Program} {w : World} {K : PySem.W.Frag} {mg : Str → Option Value} {base : Heap} {d : Addr} {es : Array DictEntry} {n : Nat} {NW NP S : Addr}
/-! ### what words() tells, as data -/
def dW (B : Tal) (z : Str) : PyData := .tuple [.str z, .int (cz z B)]
def dB (B : Tal) : PyData := .list ((ordB B).map (dW B))
theorem dp_WL {H : Hp} {B : Tal} : ∀ {ps : List Addr} {zs : List Str}, WL H B ps zs → DpAll K H (ps.map V.ref) (zs.map (dW B))
  | _, _, .nil => .nil
  | _, _, .cons e r => .cons (.tup (SqT.of e) (.cons (.str _) (.cons (.int _) .nil))) (dp_WL r)
theorem okds_W {B : Tal} : ∀ {zs : List Str}, (∀ z ∈ zs, ∃ u, z = tx u ∧ u.length ≤ 12 ∧ 1 ≤ cz z B ∧ cz z B ≤ 4096) → Okds (zs.map (dW B)) 1 (57 * zs.length)
  | [], _ => Okds.nil
  | z :: r, h => by
    obtain ⟨u, e, hu, c1, c2⟩ := h z (List.mem_cons_self ..)
    have h1 : Okd (.int (cz z B)) 0 41 := Okd.int (by omega)
    have h0 : Okd (.str z) 0 12 := by
      rw [e]
      exact (Okd.tx (bs := u)).mono (Nat.le_refl _) hu
    have h2 : Okd (dW B z) 1 56 := ((Okds.cons h0 (Okds.cons h1 Okds.nil)).tuple).mono (Nat.le_refl _) (by omega)
    have h3 : Okds (r.map (dW B)) 1 (57 * r.length) := okds_W fun y hy => h y (List.mem_cons_of_mem _ hy)
    have := Okds.cons h2 h3
    rw [List.length_cons, show 57 * (r.length + 1) = 56 + 1 + 57 * r.length by omega]
    exact this
theorem okd_B {B : Tal} (to : TO B) : Okd (dB B) 2 240000 := by
  have h := (okds_W (B := B) (zs := ordB B) fun z hz => ordB_few to hz).list
  have l := ordB_len B
  have f := to.len
  exact h.mono (Nat.le_refl _) (by omega)
theorem strOk_tx (bs : List Bool) : PyData.strOk (tx bs) = true := by
  unfold PyData.strOk
  unfold tx
  rw [List.all_toArray, List.all_map, List.all_eq_true]
  intro b _
  cases b <;> rfl
theorem eqv_none (ds : List PyData) : PyData.eqv (.list ds) (.list []) = ds.isEmpty := by
  cases ds <;> simp [PyData.eqv, PyData.eqvAll]
theorem shaped_nil : SeqAt.shaped (.list []) = true := by decide +kernel
/-! ### _law_steps -/
def Stp (H : Hp) (B : Tal) (ts : List Addr) : Prop := ∀ t ∈ ts, ∃ u k, H t = some (.tup [.str (tx u), wv k]) ∧ u ∈ B.map (·.1) ∧ k ∈ plc u
theorem Stp.tup {H H' : Hp} {B : Tal} {ts : List Addr} (h : Stp H B ts) (s : ∀ a xs, H a = some (.tup xs) → H' a = some (.tup xs)) : Stp H' B ts := fun t ht => by
  obtain ⟨u, k, e, a, b⟩ := h t ht
  exact ⟨u, k, s _ _ e, a, b⟩
def spLSt : Sp := fun vs H Q _ => ∃ (l : Addr) (ps : List Addr) (B : Tal), vs = [.ref l] ∧ H l = some (.lst (ps.map V.ref)) ∧ WL H B ps (ordB B) ∧ TO B ∧ ∀ H' p ts, Same H H' → H p = none → H' p = some (.lst (ts.map V.ref)) → Stp H' B ts → (ts = [] → ∀ p ∈ B, plc p.1 = []) → Q (.ref p) H'
abbrev nLSt : List Str := ["_law_words", "_law_found", "_law_one", "_law_many", "_law_at"]
theorem scLSt : FnScope nLSt ["_law_words"] (defScope sLSt) := ⟨rfl, rfl, rfl, by decide +kernel, rfl, by decide +kernel, by decide +kernel⟩
theorem big {m : Nat} (h : m ≤ 100000) : m < sizeLine := by
  rw [sizeLine_eq]
  omega
theorem ok_lst {f : Addr} {fd : FuncData} {k : Nat} (F : Fun K "_law_steps" "_law_steps" sLSt f fd) (T : Txt K w mg d es n) : FnOk P w K mg base CX0 (k + 1) f fd ["_law_words"] spLSt := by
  refine F.ok scLSt (fun vs H Q E h => ?_) (fun cdv A outer s H vs Q E hr h => ?_)
  · obtain ⟨l, ps, B, rfl, _⟩ := h
    rfl
  · obtain ⟨l, ps, B, rfl, el, wl, to, q⟩ := h
    have nd := scLSt.nd
    refine ⟨_, pss_cons (ps_set (i := 1) nd rfl (.inl rfl) (pe_lst pa_nil))
      (pss_cons (ps_for PassesOwn.never rfl (pi_list (pv 0)) (pg_tup (by rfl) (pgs_cons (pg_name (i := 2) nd rfl (.inr rfl)) (pgs_cons (pg_name (i := 3) nd rfl (.inl rfl)) pgs_nil)))
        (pss_one (ps_set (i := 1) nd rfl (.inl rfl) (pe_op op_cat (pv 1) (pe_lc (own := [("_law_at", 4)]) (g := gName 4) rfl nd (pi_range1 (by rfl) T.range (pa_cons (pe_callB call_len_str (by rfl) T.len PySem.boot_len (pa_cons (pv 2) pa_nil)) pa_nil))
          (blkOk_by (own := [("_law_at", 4)]) (N := nLSt) (sc := defScope sLSt) (by decide +kernel))
          (fun _ _ _ _ _ => pg_name (i := 4) nd rfl (Or.inl rfl))
          (fun _ _ _ _ _ => pts_one (pt_cmpR op_eq (pe_slice sl_str (pv 2) (po_some (pv 4)) (po_some (pe_op op_add (pv 4) pe_int))) pe_str (nomark _)))
          (fun _ _ _ _ _ => pe_tup (pa_cons (pv 2) (pa_cons (pv 4) pa_nil))))))))
      (pss_one (ps_ret (pv 1)))), ?_⟩
    have lB := ordB_len B
    have few := to.len
    refine ⟨Nat.zero_le _, fun l1 nl1 => ?_⟩
    have s1 : Same H (upd H l1 (.lst [])) := same_upd nl1
    have e1 : upd H l1 (.lst []) l1 = some (.lst []) := upd_same
    generalize upd H l1 (.lst []) = H1 at s1 e1
    refine ⟨.ref l, rfl, l, rfl, ⟨_, SqL.of (s1 _ _ el)⟩, ?_⟩
    refine for_list (K := K) (a := l) (xs := ps.map V.ref) (fun i σ H' => (∃ p y2 y3 y4 ts, σ = [some (.ref l), some (.ref p), y2, y3, y4] ∧ H p = none ∧ H' p = some (.lst (ts.map V.ref)) ∧ ts.length ≤ 12 * i ∧ Stp H' B ts ∧ (ts = [] → ∀ z ∈ (ordB B).take i, ∀ u, z = tx u → plc u = [])) ∧ Same H H') ⟨⟨l1, _, _, _, [], rfl, nl1, e1, Nat.zero_le _, (fun _ h => nomatch h), fun _ z hz => by simp at hz⟩, s1⟩ (fun i σ H' _ h => SqL.of (h.2 _ _ el)) ?_ ?_
    · rintro i x σ H' hx ⟨⟨p, y2, y3, y4, ts, rfl, np, ep, lts, hts, hem⟩, sm⟩
      rw [List.getElem?_map] at hx
      obtain ⟨t, ht, rfl⟩ := Option.map_eq_some_iff.mp hx
      obtain ⟨z, hz, et⟩ := wl.at_ ht
      obtain ⟨u, rfl, mu⟩ := cz_mem (ordB_mem.mp (List.mem_of_getElem? hz))
      have hu12 := (to.le _ mu).2.2
      have hu12 : u.length ≤ 12 := hu12
      have hi : i < 4096 := by
        have h1 := (List.getElem?_eq_some_iff.mp ht).1
        have h2 := wl.len
        omega
      have hzl : (tx u).length ≤ sizeLine := tx_fit (by omega)
      refine ⟨t, _, rfl, SqT.of (sm _ _ et), rfl, _, _, rfl, _, _, rfl, rfl, .ref p, rfl, .str (tx u), rfl, tx u, rfl, hzl, _, rfl, by omega, (by rw [tx_len]; omega), fun D hD => ?_⟩
      have en : (((tx u).length : Int)).toNat = u.length := by
        rw [tx_len]
        omega
      rw [en]
      refine lc_range (lo := 0) (n := u.length) (fun j H3 => Same H' H3 ∧ ∃ ts2 : List Addr, H3 D = some (.lst (ts2.map V.ref)) ∧ ts2.length ≤ j ∧ Stp H3 B ts2 ∧ (ts2 = [] → ∀ m, m < j → shp u m = false)) ⟨same_upd hD, [], upd_same, Nat.le_refl _, (fun _ h => nomatch h), fun _ m h => absurd h (Nat.not_lt_zero _)⟩ ?_ ?_
      · rintro j H3 hj ⟨s3, ts2, eD, l2, h2, hz2⟩
        rw [Int.zero_add]
        refine ⟨rfl, .str (tx u), rfl, .int (j : Int), rfl, _, rfl, .int (j : Int), rfl, _, _, rfl, rfl, _, rfl, tx u, rfl, hzl, rfl, _, rfl, ?_⟩
        have e : decide (V.str (cutS (tx u) (some (j : Int)) (some ((j : Int) + 2))) = V.str "o.") = shp u j := by
          have e1 := cut_at u j 2
          rw [show (((2 : Nat) : Int)) = 2 from rfl] at e1
          rw [e1, tx_of2]
          exact dec_str ⟨fun z => tx_inj z, fun z => congrArg tx z⟩
        rw [e]
        cases h : shp u j with
        | true =>
          refine ⟨.str (tx u), rfl, .int (j : Int), rfl, (by show 2 ≤ sizeLine; decide), fun t2 nt => ?_⟩
          have nDt : D ≠ t2 := fun e => by
            rw [← e, eD] at nt
            cases nt
          refine ⟨_, by rw [upd_ne nDt]; exact eD, by rw [List.length_map]; exact fit' (by omega), same_new hD (s3.trans (same_upd nt)), ts2 ++ [t2], by rw [upd_same, List.map_append]; rfl, by rw [List.length_append]; show _ + 1 ≤ _; omega, fun a ha => ?_, fun h => absurd h (by simp)⟩
          rcases List.mem_append.mp ha with ha | ha
          · obtain ⟨u', k', e', m1, m2⟩ := h2 a ha
            exact ⟨u', k', by rw [upd_ne (fun h => by rw [h, eD] at e'; cases e'), upd_ne (fun h => by rw [h, nt] at e'; cases e')]; exact e', m1, m2⟩
          · obtain rfl := List.mem_singleton.mp ha
            exact ⟨u, j, by rw [upd_ne nDt.symm, upd_same]; rfl, List.mem_map.mpr ⟨_, mu, rfl⟩, List.mem_filter.mpr ⟨List.mem_range.mpr hj, h⟩⟩
        | false =>
          refine ⟨s3, ts2, eD, by omega, h2, fun e m hm => ?_⟩
          rcases Nat.lt_or_eq_of_le (Nat.le_of_lt_succ hm) with h' | h'
          · exact hz2 e m h'
          · rw [h']
            exact h
      · rintro H3 ⟨s3, ts2, eD, l2, h2, hz2⟩
        refine ⟨p, D, _, _, rfl, rfl, s3 _ _ ep, eD, ?_, fun p2 np2 => ?_⟩
        · rw [List.length_map, List.length_map]
          exact Nat.le_of_lt (big (by omega))
        have sH := sm.trans s3
        refine ⟨⟨p2, _, _, _, ts ++ ts2, rfl, sH.free np2, by rw [upd_same, List.map_append], by rw [List.length_append]; omega, fun a ha => ?_, fun e z' hz' u' ez => ?_⟩, same_new (sH.free np2) sH⟩
        have mv : ∀ a xs, H3 a = some (.tup xs) → upd H3 p2 (.lst (ts.map V.ref ++ ts2.map V.ref)) a = some (.tup xs) := fun a xs e => by
          rw [upd_ne (fun h => by rw [h, np2] at e; cases e)]
          exact e
        rcases List.mem_append.mp ha with ha | ha
        · obtain ⟨u', k', e', m⟩ := hts a ha
          exact ⟨u', k', mv _ _ (s3 _ _ e'), m⟩
        · obtain ⟨u', k', e', m⟩ := h2 a ha
          exact ⟨u', k', mv _ _ e', m⟩
        obtain ⟨e1, e2⟩ := List.append_eq_nil_iff.mp e
        rw [List.take_add_one, hz] at hz'
        rcases List.mem_append.mp hz' with hz' | hz'
        · exact hem e1 z' hz' u' ez
        · have hz' : z' ∈ [tx u] := hz'
          obtain rfl := List.mem_singleton.mp hz'
          have := tx_inj ez
          subst this
          exact List.filter_eq_nil_iff.mpr fun m hm => by
            rw [hz2 e2 m (List.mem_range.mp hm)]
            decide
    · rintro σ H' ⟨⟨p, y2, y3, y4, ts, rfl, np, ep, lts, hts, hem⟩, sm⟩
      exact ⟨.ref p, rfl, q H' p ts sm np ep hts fun e pr hp => hem e (tx pr.1) (by rw [List.length_map, wl.len, List.take_length]; exact ordB_mem.mpr (List.mem_map.mpr ⟨pr, hp, rfl⟩)) _ rfl⟩
end
def dU (x : List Bool × Nat) : PyData := .tuple [.str (tx x.1), .int (x.2 : Int)]
theorem stp_data {K : PySem.W.Frag} {H : Hp} {B : Tal} : ∀ {ts : List Addr}, Stp H B ts → ∃ us : List (List Bool × Nat), us.length = ts.length ∧ DpAll K H (ts.map V.ref) (us.map dU)
  | [], _ => ⟨[], rfl, .nil⟩
  | t :: r, h => by
    obtain ⟨u, k, e, _⟩ := h t (List.mem_cons_self ..)
    obtain ⟨us, l, dp⟩ := stp_data (K := K) (ts := r) fun a ha => h a (List.mem_cons_of_mem _ ha)
    exact ⟨(u, k) :: us, by rw [List.length_cons, List.length_cons, l], .cons (.tup (SqT.of e) (.cons (.str _) (.cons (.int _) .nil))) dp⟩
theorem shaped_us (us : List (List Bool × Nat)) : SeqAt.shaped (.list (us.map dU)) = true := by
  have h1 : PyData.canLayAll0 (us.map dU) = true := by
    induction us with
    | nil => rfl
    | cons a r ih => simp only [List.map_cons, dU, PyData.canLayAll0, PyData.canLay0, strOk_tx, ih, Bool.and_self]
  have h2 : PyData.depthAll (us.map dU) ≤ 1 := by
    clear h1
    induction us with
    | nil => exact Nat.zero_le _
    | cons a r ih =>
      simp only [List.map_cons, dU, PyData.depthAll, PyData.depth] at ih ⊢
      omega
  unfold SeqAt.shaped
  simp only [PyData.canLay0, PyData.depth, h1, Bool.true_and]
  exact decide_eq_true (by omega)
end Hop

set_option Elab.async false
set_option linter.all false
set_option maxRecDepth 100000
namespace Hop
open PySem L2 HopR HopW
/-! ### when two sums are alike -/
def eqB (B B' : Tal) : Bool := eqD (zv ιw B) (zv ιw B')
theorem val_mem {B : Tal} (o : Once B) {u : List Bool} {c : Int} : valV (zv ιw B) (ιw u) = some (.int c) ↔ (u, c) ∈ B := by
  constructor
  · intro h
    obtain ⟨kv, hkv, e⟩ := Option.map_eq_some_iff.mp (show ((zv ιw B).find? fun kv => decide (kv.1 = ιw u)).map (·.2) = some (V.int c) from h)
    have m := List.mem_of_find?_eq_some hkv
    have q : kv.1 = ιw u := of_decide_eq_true (List.find?_some (p := fun kv : Key × V => decide (kv.1 = ιw u)) hkv)
    obtain ⟨⟨a, d⟩, ha, rfl⟩ := List.mem_map.mp m
    have e1 : a = u := ιw_inj _ _ q
    have e2 : d = c := by injection e
    rw [← e1, ← e2]
    exact ha
  · intro h
    obtain ⟨i, hi⟩ := List.getElem?_of_mem h
    exact val_in ιw_inj o hi
theorem eqB_iff {B B' : Tal} (o' : Once B') : eqB B B' = true ↔ B.length = B'.length ∧ ∀ p ∈ B, p ∈ B' := by
  unfold eqB eqD
  rw [Bool.and_eq_true, beq_iff_eq, List.all_eq_true]
  have l1 : (zv ιw B).length = B.length := List.length_map ..
  have l2 : (zv ιw B').length = B'.length := List.length_map ..
  rw [l1, l2]
  refine and_congr_right fun _ => ⟨fun h p hp => ?_, fun h q hq => ?_⟩
  · have := of_decide_eq_true (h (ιw p.1, V.int p.2) (List.mem_map.mpr ⟨p, hp, rfl⟩))
    exact (val_mem o').mp this
  · obtain ⟨p, hp, rfl⟩ := List.mem_map.mp hq
    exact decide_eq_true ((val_mem o').mpr (h p hp))
theorem back_sub {α : Type} [DecidableEq α] : ∀ {l m : List α}, l.Nodup → (∀ a ∈ l, a ∈ m) → m.length ≤ l.length → ∀ a ∈ m, a ∈ l
  | [], m, _, _, h, a, ha => by
    have : m = [] := List.length_eq_zero_iff.mp (Nat.le_zero.mp h)
    rw [this] at ha
    cases ha
  | x :: l, m, nd, sub, len, a, ha => by
    obtain ⟨n1, n2⟩ := List.nodup_cons.mp nd
    by_cases e : a = x
    · rw [e]
      exact List.mem_cons_self ..
    · have hx := sub x (List.mem_cons_self ..)
      have hl := List.length_erase_of_mem hx
      have hm : 0 < m.length := List.length_pos_of_mem hx
      refine List.mem_cons_of_mem _ (back_sub (m := m.erase x) n2 (fun b hb => ?_) ?_ a ?_)
      · exact (List.mem_erase_of_ne fun h => n1 (by rw [← h]; exact hb)).mpr (sub b (List.mem_cons_of_mem _ hb))
      · rw [hl]
        rw [List.length_cons] at len
        omega
      · exact (List.mem_erase_of_ne e).mpr ha
theorem once_nodup {B : Tal} (o : Once B) : B.Nodup := List.Pairwise.of_map (·.1) (fun a b h e => h (by rw [e])) o
theorem cz_of {B : Tal} (o : Once B) {u : List Bool} {c : Int} (h : (u, c) ∈ B) : cz (tx u) B = c := by
  have h1 : valV (zv ιw B) (ιw u) = some (.int (cz (tx u) B)) := cz_val (List.mem_map.mpr ⟨_, h, rfl⟩)
  rw [(val_mem o).mpr h] at h1
  injection h1 with h1
  injection h1 with h1
  exact h1.symm
theorem map_dW {B B' : Tal} : ∀ {zs ws : List Str}, zs.map (dW B) = ws.map (dW B') → zs = ws ∧ ∀ z ∈ zs, cz z B = cz z B'
  | [], [], _ => ⟨rfl, fun _ h => nomatch h⟩
  | [], _ :: _, h => nomatch h
  | _ :: _, [], h => nomatch h
  | z :: zs, y :: ws, h => by
    rw [List.map_cons, List.map_cons] at h
    injection h with h1 h2
    have h1 : PyData.tuple [.str z, .int (cz z B)] = PyData.tuple [.str y, .int (cz y B')] := h1
    injection h1 with h1
    injection h1 with a b
    injection a with a
    injection b with b _
    injection b with b
    obtain ⟨e, f⟩ := map_dW h2
    refine ⟨by rw [a, e], fun x hx => ?_⟩
    rcases List.mem_cons.mp hx with rfl | hx
    · rw [b, a]
    · exact f x hx
theorem eqB_dB {B B' : Tal} (to : TO B) (to' : TO B') : eqB B B' = true ↔ dB B = dB B' := by
  rw [eqB_iff to'.once]
  constructor
  · rintro ⟨hl, hs⟩
    have hb := back_sub (once_nodup to.once) hs (Nat.le_of_eq hl.symm)
    have hk : ∀ {B : Tal}, TO B → (ktx B).Nodup := fun {B} t => by
      have e : ktx B = (B.map (·.1)).map tx := by
        unfold ktx
        rw [List.map_map]
        rfl
      rw [e]
      exact List.Pairwise.map tx (fun a b h e => h (tx_inj e)) t.once
    have hp : (ktx B).Perm (ktx B') := (List.perm_ext_iff_of_nodup (hk to) (hk to')).mpr fun z => by
      constructor
      · intro h
        obtain ⟨p, hp, rfl⟩ := List.mem_map.mp h
        exact List.mem_map.mpr ⟨p, hs p hp, rfl⟩
      · intro h
        obtain ⟨p, hp, rfl⟩ := List.mem_map.mp h
        exact List.mem_map.mpr ⟨p, hb p hp, rfl⟩
    have ho : ordB B = ordB B' := lsort_eq hp
    unfold dB
    rw [← ho]
    refine congrArg PyData.list (List.map_congr_left fun z hz => ?_)
    obtain ⟨u, rfl, m⟩ := cz_mem (ordB_mem.mp hz)
    unfold dW
    rw [cz_of to'.once (hs _ m)]
  · intro h
    unfold dB at h
    injection h with h
    obtain ⟨e, f⟩ := map_dW h
    refine ⟨by rw [← ordB_len B, ← ordB_len B', e], fun p hp => ?_⟩
    have hz : tx p.1 ∈ ordB B := ordB_mem.mpr (List.mem_map.mpr ⟨p, hp, rfl⟩)
    have hz' : tx p.1 ∈ ktx B' := ordB_mem.mp (e ▸ hz)
    obtain ⟨u, e1, m⟩ := cz_mem hz'
    have e2 := tx_inj e1
    have e3 := f _ hz
    rw [cz_of (c := p.2) to.once hp] at e3
    rw [← e2, ← e3] at m
    exact m
theorem rp_W {B : Tal} : ∀ {zs : List Str}, (∀ z ∈ zs, sgs z = true) → RpAll (zs.map (dW B)) = true
  | [], _ => by simp [RpAll]
  | z :: r, h => by
    simp only [List.map_cons, dW, RpAll, Rp, h z (List.mem_cons_self ..), Bool.true_and, Bool.and_true]
    exact rp_W fun y hy => h y (List.mem_cons_of_mem _ hy)
theorem rp_B {B : Tal} (to : TO B) : Rp (dB B) = true := by
  unfold dB
  rw [Rp]
  exact rp_W fun z hz => by
    obtain ⟨u, rfl, _⟩ := ordB_few to hz
    exact sgs_tx u
/-- repr tells whether two sums are alike -/
theorem same_shown {B B' : Tal} (to : TO B) (to' : TO B') : decide (V.str (dB B).shown = V.str (dB B').shown) = eqB B B' := by
  by_cases h : eqB B B' = true
  · rw [h, (eqB_dB to to').mp h, decide_eq_true rfl]
  · rw [Bool.not_eq_true] at h
    rw [h]
    refine decide_eq_false fun e => ?_
    injection e with e
    rw [(eqB_dB to to').mpr (shown_inj (rp_B to) (rp_B to') e)] at h
    cases h
theorem eqB_comm {B B' : Tal} (to : TO B) (to' : TO B') : eqB B B' = eqB B' B := by
  rw [Bool.eq_iff_iff, eqB_dB to to', eqB_dB to' to]
  exact eq_comm
theorem eqB_self {B : Tal} (to : TO B) : eqB B B = true := (eqB_dB to to).mpr rfl
/-! ### each shortening makes the sum lighter -/
def t3 : Tal → Int
  | [] => 0
  | (j, v) :: l => v * 3 ^ j.length + t3 l
theorem t3_pz (k : List Bool) (c : Int) : ∀ l : Tal, t3 (pz k c l) = t3 l + c * 3 ^ k.length
  | [] => by show c * 3 ^ k.length + 0 = 0 + c * 3 ^ k.length; omega
  | (j, v) :: l => by
    unfold pz
    split
    · rename_i e
      subst e
      show (v + c) * 3 ^ j.length + t3 l = v * 3 ^ j.length + t3 l + c * 3 ^ j.length
      rw [Int.add_mul]
      omega
    · show v * 3 ^ j.length + t3 (pz k c l) = v * 3 ^ j.length + t3 l + c * 3 ^ k.length
      rw [t3_pz k c l]
      omega
theorem t3_dz {k : List Bool} : ∀ {T : Tal}, Once T → t3 (dz k T) + gz k T * 3 ^ k.length = t3 T
  | [], _ => by show 0 + 0 * 3 ^ k.length = 0; omega
  | (j, v) :: l, o => by
    have o' : (j :: l.map (·.1)).Nodup := o
    obtain ⟨n1, n2⟩ := List.nodup_cons.mp o'
    by_cases e : j = k
    · subst e
      obtain ⟨a, _⟩ := dz_no n1
      have e1 : dz j ((j, v) :: l) = l := by
        unfold dz at *
        rw [List.filter_cons, if_neg (by simp), a]
      have e2 : gz j ((j, v) :: l) = v := by
        show (if j = j then v else gz j l) = v
        rw [if_pos rfl]
      rw [e1, e2]
      show t3 l + v * 3 ^ j.length = v * 3 ^ j.length + t3 l
      omega
    · have e1 : dz k ((j, v) :: l) = (j, v) :: dz k l := by
        unfold dz
        rw [List.filter_cons, if_pos (by simpa using e)]
      have e2 : gz k ((j, v) :: l) = gz k l := by
        show (if j = k then v else gz k l) = gz k l
        rw [if_neg e]
      rw [e1, e2]
      show v * 3 ^ j.length + t3 (dz k l) + gz k l * 3 ^ k.length = v * 3 ^ j.length + t3 l
      have := t3_dz (k := k) n2
      omega
theorem pow_pos3 (n : Nat) : (1 : Int) ≤ 3 ^ n := by
  have h : (1 : Nat) ≤ 3 ^ n := Nat.one_le_pow _ _ (by decide)
  have : ((1 : Nat) : Int) ≤ ((3 ^ n : Nat) : Int) := Int.ofNat_le.mpr h
  simpa using this
theorem t3_nn : ∀ {T : Tal}, (∀ p ∈ T, 1 ≤ p.2) → 0 ≤ t3 T
  | [], _ => Int.le_refl _
  | (j, v) :: l, h => by
    have h1 := t3_nn (T := l) fun p hp => h p (List.mem_cons_of_mem _ hp)
    have hv : 1 ≤ v := h (j, v) (List.mem_cons_self ..)
    have h2 := pow_pos3 j.length
    have h3 : 0 ≤ v * 3 ^ j.length := Int.mul_nonneg (by omega) (by omega)
    show 0 ≤ v * 3 ^ j.length + t3 l
    omega
theorem t3_stp {T : Tal} {u : List Bool} {k : Nat} (t : TO T) (hu : u ∈ T.map (·.1)) (hk : k ∈ plc u) : t3 (stp T u k) < t3 T := by
  have m := gz_pos (fun p hp => (t.each p hp).1) hu
  have c : 1 ≤ gz u T := (t.each _ m).1
  have h2 := plc_two hk
  have la := shA_len h2
  have lb := shB_len h2
  unfold stp
  rw [t3_pz, t3_pz]
  have e := t3_dz (k := u) t.once
  have ea : u.length = (shA u k).length + 1 := la.symm
  have eb : (shB u k).length = (shA u k).length := by omega
  rw [eb]
  rw [ea, Int.pow_succ] at e
  have hy := pow_pos3 (shA u k).length
  generalize (3 : Int) ^ (shA u k).length = y at *
  have e3 : gz u T * (y * 3) = gz u T * y + gz u T * y + gz u T * y := by rw [← Int.mul_assoc]; omega
  have hp : 1 ≤ gz u T * y := by
    have := Int.mul_le_mul c hy (by omega) (by omega)
    omega
  omega
theorem keys_pz2 {k x : List Bool} {c : Int} : ∀ {l : Tal}, x ∈ l.map (·.1) → x ∈ (pz k c l).map (·.1)
  | (j, v) :: l, h => by
    unfold pz
    split
    · exact h
    · have h' : x ∈ j :: l.map (·.1) := h
      rcases List.mem_cons.mp h' with e | m
      · rw [e]
        exact List.mem_cons_self ..
      · exact List.mem_cons_of_mem _ (keys_pz2 m)
theorem keys_stp {T : Tal} {u x : List Bool} {k : Nat} (h : x ∈ T.map (·.1)) (ne : x ≠ u) : x ∈ (stp T u k).map (·.1) := by
  refine keys_pz2 (keys_pz2 ?_)
  obtain ⟨p, hp, rfl⟩ := List.mem_map.mp h
  exact List.mem_map.mpr ⟨p, List.mem_filter.mpr ⟨hp, by simpa using ne⟩, rfl⟩
end Hop

set_option Elab.async false
set_option linter.all false
set_option maxRecDepth 100000
namespace HopW
open L2
theorem all_pz {α : Type} [DecidableEq α] {R : α → Prop} {k : α} {c : Int} (hk : R k) (hc : 0 ≤ c) : ∀ {l : List (α × Int)}, (∀ p ∈ l, R p.1 ∧ 0 ≤ p.2) → ∀ p ∈ pz k c l, R p.1 ∧ 0 ≤ p.2
  | [], _, p, m => by
    obtain rfl := List.mem_singleton.mp m
    exact ⟨hk, hc⟩
  | (j, v) :: l, h, p, m => by
    have h0 := h _ (List.mem_cons_self ..)
    have h1 : ∀ p ∈ l, R p.1 ∧ 0 ≤ p.2 := fun p m => h p (List.mem_cons_of_mem _ m)
    unfold pz at m
    split at m
    · rcases List.mem_cons.mp m with rfl | m
      · exact ⟨h0.1, Int.add_nonneg h0.2 hc⟩
      · exact h1 p m
    · rcases List.mem_cons.mp m with rfl | m
      · exact h0
      · exact all_pz hk hc h1 p m
/-- what a dict of words, or of ends, keeps -/
structure Tl {α : Type} (R : α → Prop) (M : Nat) (l : List (α × Int)) : Prop where
  o : (l.map (·.1)).Nodup
  a : ∀ p ∈ l, R p.1 ∧ 0 ≤ p.2
  n : l.length ≤ M
theorem Tl.nil {α : Type} {R : α → Prop} {M : Nat} : Tl R M ([] : List (α × Int)) := ⟨List.nodup_nil, by simp, Nat.zero_le _⟩
theorem Tl.put {α : Type} [DecidableEq α] {R : α → Prop} {M : Nat} {l : List (α × Int)} {k : α} {c : Int} (t : Tl R M l) (hk : R k) (hc : 0 ≤ c) : Tl R (M + 1) (pz k c l) :=
  ⟨once_pz t.o, all_pz hk hc t.a, Nat.le_trans (len_pz k c l) (Nat.succ_le_succ t.n)⟩
theorem Tl.up {α : Type} {R : α → Prop} {M N : Nat} {l : List (α × Int)} (t : Tl R M l) (h : M ≤ N) : Tl R N l := ⟨t.o, t.a, Nat.le_trans t.n h⟩
theorem Tl.at {α : Type} {R : α → Prop} {M : Nat} {l : List (α × Int)} (t : Tl R M l) {i : Nat} {k : α} {c : Int} (h : l[i]? = some (k, c)) : R k ∧ 0 ≤ c := t.a _ (List.mem_of_getElem? h)
/-- one turn over a word: an end is told -/
theorem ds_end {x y : Rat} {f b : Nat} {c : Int} {T : List (List Bool × Int)} {i : Nat} (h : T[i]? = some (List.replicate f false ++ List.replicate b true, c)) (G : List ((Nat × Nat) × Int)) {Z : Rat} {L : List (List Bool × Int)}
    (e : ds (wt x y) L + ds (fun e => x ^ e.1 * y ^ e.2) G = ds (wt x y) (T.take i) + Z) : ds (wt x y) L + ds (fun e => x ^ e.1 * y ^ e.2) (pz (f, b) c G) = ds (wt x y) (T.take (i + 1)) + Z := by
  rw [ds_pz, ds_take h, wt_rest]
  show _ + (_ + (c : Rat) * (x ^ f * y ^ b)) = _
  grind
/-- two shorter words are told -/
theorem ds_two {x y : Rat} {u v : List Bool} {c : Int} {T : List (List Bool × Int)} {i : Nat} (h : T[i]? = some (u ++ true :: false :: v, c)) {Z g : Rat} {L : List (List Bool × Int)}
    (e : ds (wt x y) L + g = ds (wt x y) (T.take i) + Z) : ds (wt x y) (pz (u ++ false :: v) c (pz (u ++ true :: v) c L)) + g = ds (wt x y) (T.take (i + 1)) + Z := by
  rw [ds_pz, ds_pz, ds_take h, wt_of]
  grind
end HopW

set_option Elab.async false
set_option linter.all false
set_option maxRecDepth 100000
namespace HopW
open L2
/-! ### ends, weighed by any function of both their numbers -/
def stF (F : Nat → Nat → Rat) : Nat → Nat → Rat := fun a b => F (a + 1) 0 + sg (fun j => F a (j + 1)) b
def gF : List Bool → (Nat → Nat → Rat) → (Nat → Nat → Rat)
  | [], F => F
  | true :: w, F => fun a b => gF w F a (b + 1)
  | false :: w, F => stF (gF w F)
def tF (F : Nat → Nat → Rat) : List (List Nat) → Rat
  | [] => 0
  | l :: t => lp (F 0) l + tF (fun a => F (a + 1)) t
theorem lp_stF (F : Nat → Nat → Rat) (l : List Nat) : lp (stF F 0) l = (l.sum : Rat) * F 1 0 + lp (fun b => F 0 (b + 1)) (sfx l.tail) := by
  show lp (fun b => F 1 0 + sg (fun j => F 0 (j + 1)) b) l = _
  rw [lp_lin]
  cases l with
  | nil => show F 1 0 * ((0 : Nat) : Rat) + 0 = ((0 : Nat) : Rat) * F 1 0 + 0; grind
  | cons m l =>
    rw [lp_sfx, List.tail_cons]
    grind
theorem tF_go : ∀ (T : List (List Nat)) (F : Nat → Nat → Rat) (s : Nat), tF F (go s T) = (s : Rat) * F 0 0 + tF (stF F) T := by
  intro T
  induction T with
  | nil =>
    intro F s
    show ((s : Rat) * F 0 0 + 0) + 0 = (s : Rat) * F 0 0 + 0
    grind
  | cons l t ih =>
    intro F s
    show ((s : Rat) * F 0 0 + lp (fun b => F 0 (b + 1)) (sfx l.tail)) + tF (fun a => F (a + 1)) (go l.sum t) = (s : Rat) * F 0 0 + (lp (stF F 0) l + tF (fun a => stF F (a + 1)) t)
    rw [ih, lp_stF]
    show _ + ((l.sum : Rat) * F 1 0 + tF (stF (fun a => F (a + 1))) t) = _
    have e : (fun a => stF F (a + 1)) = stF (fun a => F (a + 1)) := rfl
    rw [e]
    grind
theorem tF_bead : ∀ (T : List (List Nat)) (F : Nat → Nat → Rat), tF F (T.map (0 :: ·)) = tF (fun a b => F a (b + 1)) T := by
  intro T
  induction T with
  | nil => intro F; rfl
  | cons l t ih =>
    intro F
    show (((0 : Nat) : Rat) * F 0 0 + lp (fun b => F 0 (b + 1)) l) + tF (fun a => F (a + 1)) (t.map (0 :: ·)) = lp (fun b => F 0 (b + 1)) l + tF (fun a b => F (a + 1) (b + 1)) t
    rw [ih]
    grind
theorem tF_st (F : Nat → Nat → Rat) (T : List (List Nat)) (b : Bool) : tF F (stT T b) = tF (gF [b] F) T := by
  cases b with
  | true => exact tF_bead T F
  | false =>
    show tF F (go 0 T) = tF (stF F) T
    rw [tF_go]
    show ((0 : Nat) : Rat) * F 0 0 + tF (stF F) T = _
    grind
theorem gF_app (F : Nat → Nat → Rat) : ∀ u v : List Bool, gF (u ++ v) F = gF u (gF v F)
  | [], _ => rfl
  | true :: u, v => by
    show (fun a b => gF (u ++ v) F a (b + 1)) = fun a b => gF u (gF v F) a (b + 1)
    rw [gF_app F u v]
  | false :: u, v => by
    show stF (gF (u ++ v) F) = stF (gF u (gF v F))
    rw [gF_app F u v]
theorem tF_fold (F : Nat → Nat → Rat) : ∀ (w : List Bool) (T : List (List Nat)), tF F (w.foldl stT T) = tF (gF w F) T := by
  intro w
  induction w with
  | nil => intro T; rfl
  | cons b w ih =>
    intro T
    show tF F (w.foldl stT (stT T b)) = _
    rw [ih, tF_st]
    show tF (gF [b] (gF w F)) T = _
    rw [← gF_app]
    rfl
def wF (F : Nat → Nat → Rat) (w : List Bool) : Rat := gF w F 0 0
theorem wF_tbl (F : Nat → Nat → Rat) (w : List Bool) : tF F (tbl w) = wF F w := by
  unfold tbl wF
  rw [tF_fold]
  show (((1 : Nat) : Rat) * gF w F 0 0 + 0) + 0 = _
  grind
theorem gF_add (F G : Nat → Nat → Rat) : ∀ (w : List Bool) (a b : Nat), gF w (fun i j => F i j + G i j) a b = gF w F a b + gF w G a b := by
  intro w
  induction w with
  | nil => intro a b; rfl
  | cons s w ih =>
    intro a b
    cases s with
    | true => exact ih a (b + 1)
    | false =>
      show gF w (fun i j => F i j + G i j) (a + 1) 0 + sg (fun j => gF w (fun i j => F i j + G i j) a (j + 1)) b = (gF w F (a + 1) 0 + sg (fun j => gF w F a (j + 1)) b) + (gF w G (a + 1) 0 + sg (fun j => gF w G a (j + 1)) b)
      rw [ih (a + 1) 0, show (fun j => gF w (fun i j => F i j + G i j) a (j + 1)) = fun j => gF w F a (j + 1) + gF w G a (j + 1) from funext fun j => ih a (j + 1), sg_add]
      grind
/-- a bead that comes out is gone, or the free place is -/
theorem wF_of (F : Nat → Nat → Rat) (u v : List Bool) : wF F (u ++ true :: false :: v) = wF F (u ++ true :: v) + wF F (u ++ false :: v) := by
  unfold wF
  rw [gF_app, gF_app, gF_app, ← gF_add]
  congr 1
  funext a b
  show gF v F (a + 1) 0 + sg (fun j => gF v F a (j + 1)) (b + 1) = gF v F a (b + 1) + (gF v F (a + 1) 0 + sg (fun j => gF v F a (j + 1)) b)
  rw [sg_last]
  grind
theorem gF_up (F : Nat → Nat → Rat) : ∀ (w : List Bool) (a b : Nat), gF w F (a + 1) b = gF w (fun i => F (i + 1)) a b := by
  intro w
  induction w with
  | nil => intro a b; rfl
  | cons s w ih =>
    intro a b
    cases s with
    | true => exact ih a (b + 1)
    | false =>
      show gF w F (a + 1 + 1) 0 + sg (fun j => gF w F (a + 1) (j + 1)) b = gF w (fun i => F (i + 1)) (a + 1) 0 + sg (fun j => gF w (fun i => F (i + 1)) a (j + 1)) b
      rw [ih (a + 1) 0, show (fun j => gF w F (a + 1) (j + 1)) = fun j => gF w (fun i => F (i + 1)) a (j + 1) from funext fun j => ih a (j + 1)]
theorem wF_free (F : Nat → Nat → Rat) (v : List Bool) : wF F (false :: v) = wF (fun i => F (i + 1)) v := by
  show gF v F 1 0 + 0 = gF v (fun i => F (i + 1)) 0 0
  rw [gF_up]
  grind
theorem wF_bead (F : Nat → Nat → Rat) (v : List Bool) : wF F (v ++ [true]) = wF (fun i j => F i (j + 1)) v := by
  unfold wF
  rw [gF_app]
  rfl
theorem wF_rest (F : Nat → Nat → Rat) (f b : Nat) : wF F (List.replicate f false ++ List.replicate b true) = F f b := by
  induction f generalizing F with
  | zero =>
    induction b generalizing F with
    | zero => rfl
    | succ b ih => rw [List.replicate_succ', ← List.append_assoc, wF_bead, ih]
  | succ f ih => rw [List.replicate_succ, List.cons_append, wF_free, ih]
theorem wF_frees (F : Nat → Nat → Rat) (v : List Bool) : ∀ k : Nat, wF F (List.replicate k false ++ v) = wF (fun i j => F (i + k) j) v := by
  intro k
  induction k generalizing F with
  | zero => rfl
  | succ k ih =>
    rw [List.replicate_succ, List.cons_append, wF_free, ih]
    congr 1
theorem wF_beads (F : Nat → Nat → Rat) (v : List Bool) : ∀ k : Nat, wF F (v ++ List.replicate k true) = wF (fun i j => F i (j + k)) v := by
  intro k
  induction k generalizing F with
  | zero => rw [List.replicate_zero, List.append_nil]; rfl
  | succ k ih =>
    rw [List.replicate_succ', ← List.append_assoc, wF_bead, ih]
    congr 1
/-- not too many ends -/
theorem two_add (m : Nat) : ∀ n : Nat, (2 : Rat) ^ (m + n) = 2 ^ m * 2 ^ n
  | 0 => by rw [Nat.add_zero, Rat.pow_zero, Rat.mul_one]
  | n + 1 => by rw [← Nat.add_assoc, Rat.pow_succ, Rat.pow_succ, two_add m n, Rat.mul_assoc]
theorem sg_two (c : Rat) (h : Nat → Rat) (hc : 0 ≤ c) : ∀ b : Nat, (∀ j, h j ≤ c * 2 ^ (j + 1)) → sg h b + c ≤ c * 2 ^ (b + 1) := by
  intro b
  induction b with
  | zero => intro _; show 0 + c ≤ c * 2 ^ 1; grind
  | succ b ih =>
    intro hh
    have h1 := ih hh
    have h2 := hh b
    rw [sg_last, Rat.pow_succ (n := b + 1)]
    grind
theorem gF_one : ∀ (w : List Bool) (a b : Nat), gF w (fun _ _ => 1) a b ≤ 2 ^ (w.length + b) := by
  intro w
  induction w with
  | nil =>
    intro a b
    show (1 : Rat) ≤ 2 ^ (0 + b)
    rw [Nat.zero_add]
    induction b with
    | zero => rw [Rat.pow_zero]; grind
    | succ b ih => rw [Rat.pow_succ]; grind
  | cons s w ih =>
    intro a b
    cases s with
    | true =>
      have := ih a (b + 1)
      show gF w (fun _ _ => 1) a (b + 1) ≤ 2 ^ (w.length + 1 + b)
      rw [show w.length + 1 + b = w.length + (b + 1) by omega]
      exact this
    | false =>
      have h0 := ih (a + 1) 0
      have p0 : (0 : Rat) ≤ 2 ^ w.length := Rat.le_of_lt (Rat.pow_pos (by decide))
      have h1 := sg_two (2 ^ w.length) (fun j => gF w (fun _ _ => 1) a (j + 1)) p0 b (fun j => by
        rw [← two_add]
        exact ih a (j + 1))
      rw [← two_add] at h1
      show gF w (fun _ _ => 1) (a + 1) 0 + sg (fun j => gF w (fun _ _ => 1) a (j + 1)) b ≤ 2 ^ (w.length + 1 + b)
      rw [show w.length + 1 + b = w.length + (b + 1) by omega]
      rw [Nat.add_zero] at h0
      grind
theorem wF_one (w : List Bool) : wF (fun _ _ => 1) w ≤ 2 ^ w.length := gF_one w 0 0
end HopW

set_option Elab.async false
set_option linter.all false
set_option maxRecDepth 100000
namespace HopW
/-! ### lists of ends: the ends of a table, sorted, and alone so -/
abbrev En := (Nat × Nat) × Int
def lt2 (p q : Nat × Nat) : Prop := p.1 < q.1 ∨ p.1 = q.1 ∧ p.2 < q.2
def Sd (l : List En) : Prop := l.Pairwise (fun a b => lt2 a.1 b.1) ∧ ∀ e ∈ l, 0 < e.2
theorem lt2_irr (p : Nat × Nat) : ¬ lt2 p p := by unfold lt2; omega
theorem lt2_tri (p q : Nat × Nat) : lt2 p q ∨ p = q ∨ lt2 q p := by
  obtain ⟨a, b⟩ := p
  obtain ⟨c, d⟩ := q
  unfold lt2
  simp only [Prod.mk.injEq]
  omega
theorem Sd.tail {e : En} {l : List En} (h : Sd (e :: l)) : Sd l := ⟨(List.pairwise_cons.mp h.1).2, fun x m => h.2 x (List.mem_cons_of_mem _ m)⟩
theorem Sd.head {e : En} {l : List En} (h : Sd (e :: l)) : 0 < e.2 ∧ ∀ x ∈ l, lt2 e.1 x.1 := ⟨h.2 e (List.mem_cons_self ..), (List.pairwise_cons.mp h.1).1⟩
def at1 (k : Nat × Nat) : Nat × Nat → Rat := fun e => if e = k then 1 else 0
theorem ds_off {k : Nat × Nat} : ∀ {l : List En}, (∀ x ∈ l, x.1 ≠ k) → ds (at1 k) l = 0
  | [], _ => rfl
  | (j, v) :: l, h => by
    show (v : Rat) * at1 k j + ds (at1 k) l = 0
    rw [ds_off (l := l) (fun x m => h x (List.mem_cons_of_mem _ m)), show at1 k j = 0 from if_neg (h (j, v) (List.mem_cons_self ..))]
    grind
theorem ds_head {e : En} {l : List En} (h : Sd (e :: l)) : ds (at1 e.1) (e :: l) = (e.2 : Rat) := by
  show (e.2 : Rat) * at1 e.1 e.1 + ds (at1 e.1) l = _
  rw [ds_off (l := l) (fun x m z => lt2_irr _ (by have := h.head.2 x m; rw [z] at this; exact this)), show at1 e.1 e.1 = 1 from if_pos rfl]
  grind
theorem ds_less {k : Nat × Nat} {e : En} {l : List En} (h : Sd (e :: l)) (hk : lt2 k e.1) : ds (at1 k) (e :: l) = 0 := ds_off fun x m z => by
  rcases List.mem_cons.mp m with rfl | m
  · rw [z] at hk; exact lt2_irr _ hk
  · have h2 := h.head.2 x m
    rw [z] at h2
    unfold lt2 at hk h2
    omega
theorem pos_cast {c : Int} (h : 0 < c) : ((c : Int) : Rat) ≠ 0 := fun e => by
  have := Rat.intCast_eq_zero_iff.mp e
  omega
/-- two such lists that weigh alike are the same -/
theorem sd_same : ∀ {l m : List En}, Sd l → Sd m → (∀ φ : Nat × Nat → Rat, ds φ l = ds φ m) → l = m
  | [], [], _, _, _ => rfl
  | [], e :: m, _, h, w => by
    have := w (at1 e.1)
    rw [ds_head h] at this
    exact absurd this.symm (pos_cast h.head.1)
  | e :: l, [], h, _, w => by
    have := w (at1 e.1)
    rw [ds_head h] at this
    exact absurd this (pos_cast h.head.1)
  | e :: l, e' :: m, h, h', w => by
    rcases lt2_tri e.1 e'.1 with c | c | c
    · have := w (at1 e.1)
      rw [ds_head h, ds_less h' c] at this
      exact absurd this (pos_cast h.head.1)
    · have w1 := w (at1 e.1)
      rw [ds_head h, c, ds_head h'] at w1
      have c2 : e.2 = e'.2 := Rat.intCast_inj.mp w1
      have ee : e = e' := Prod.ext c c2
      subst ee
      congr 1
      refine sd_same h.tail h'.tail fun φ => ?_
      have := w φ
      have this : (e.2 : Rat) * φ e.1 + ds φ l = (e.2 : Rat) * φ e.1 + ds φ m := this
      grind
    · have := w (at1 e'.1)
      rw [ds_head h', ds_less h c] at this
      exact absurd this.symm (pos_cast h'.head.1)
/-! ### the ends of a table -/
def enL (f b : Nat) : List Nat → List En
  | [] => []
  | m :: l => (if 0 < m then [((f, b), (m : Int))] else []) ++ enL f (b + 1) l
def enT (f : Nat) : List (List Nat) → List En
  | [] => []
  | l :: t => enL f 0 l ++ enT (f + 1) t
def φF (F : Nat → Nat → Rat) : Nat × Nat → Rat := fun e => F e.1 e.2
theorem ds_if (φ : Nat × Nat → Rat) (k : Nat × Nat) (m : Nat) : ds φ (if 0 < m then [(k, (m : Int))] else []) = (m : Rat) * φ k := by
  by_cases h : 0 < m
  · rw [if_pos h]
    show ((m : Int) : Rat) * φ k + 0 = _
    rw [Rat.intCast_natCast]; grind
  · rw [if_neg h, show m = 0 by omega]
    show (0 : Rat) = ((0 : Nat) : Rat) * φ k
    grind
theorem ds_enL (F : Nat → Nat → Rat) (f : Nat) : ∀ (l : List Nat) (b : Nat), ds (φF F) (enL f b l) = lp (fun j => F f (b + j)) l
  | [], _ => rfl
  | m :: l, b => by
    show ds (φF F) ((if 0 < m then [((f, b), (m : Int))] else []) ++ enL f (b + 1) l) = (m : Rat) * F f (b + 0) + lp (fun j => F f (b + (j + 1))) l
    rw [ds_app, ds_if, ds_enL F f l (b + 1), show (fun j => F f (b + 1 + j)) = fun j => F f (b + (j + 1)) from funext fun j => by rw [Nat.add_assoc, Nat.add_comm 1 j]]
    rfl
theorem ds_enT (F : Nat → Nat → Rat) : ∀ (T : List (List Nat)) (f : Nat), ds (φF F) (enT f T) = tF (fun a => F (f + a)) T
  | [], _ => rfl
  | l :: t, f => by
    show ds (φF F) (enL f 0 l ++ enT (f + 1) t) = lp (F (f + 0)) l + tF (fun a => F (f + (a + 1))) t
    rw [ds_app, ds_enL, ds_enT F t (f + 1), show (fun a => F (f + 1 + a)) = fun a => F (f + (a + 1)) from funext fun j => by rw [Nat.add_assoc, Nat.add_comm 1 j]]
    simp only [Nat.zero_add, Nat.add_zero]
theorem enL_mem {f : Nat} {e : En} : ∀ {l : List Nat} {b : Nat}, e ∈ enL f b l → e.1.1 = f ∧ b ≤ e.1.2 ∧ 0 < e.2
  | [], _, h => absurd h (by simp [enL])
  | m :: l, b, h => by
    rcases List.mem_append.mp h with h | h
    · by_cases hm : 0 < m
      · rw [if_pos hm] at h
        obtain rfl := List.mem_singleton.mp h
        exact ⟨rfl, Nat.le_refl _, by show (0 : Int) < (m : Int); omega⟩
      · rw [if_neg hm] at h
        exact absurd h (by simp)
    · obtain ⟨h1, h2, h3⟩ := enL_mem h
      exact ⟨h1, by omega, h3⟩
theorem enL_sd (f : Nat) : ∀ (l : List Nat) (b : Nat), (enL f b l).Pairwise (fun a b => lt2 a.1 b.1)
  | [], _ => List.Pairwise.nil
  | m :: l, b => by
    refine List.pairwise_append.mpr ⟨?_, enL_sd f l (b + 1), fun x hx y hy => ?_⟩
    · by_cases hm : 0 < m
      · rw [if_pos hm]; exact List.pairwise_singleton _ _
      · rw [if_neg hm]; exact List.Pairwise.nil
    · obtain ⟨y1, y2, _⟩ := enL_mem hy
      by_cases hm : 0 < m
      · rw [if_pos hm] at hx
        obtain rfl := List.mem_singleton.mp hx
        exact .inr ⟨y1.symm, by show b < _; omega⟩
      · rw [if_neg hm] at hx
        exact absurd hx (by simp)
theorem enT_mem {e : En} : ∀ {T : List (List Nat)} {f : Nat}, e ∈ enT f T → f ≤ e.1.1 ∧ 0 < e.2
  | [], _, h => absurd h (by simp [enT])
  | l :: t, f, h => by
    rcases List.mem_append.mp h with h | h
    · obtain ⟨h1, _, h3⟩ := enL_mem h
      exact ⟨by omega, h3⟩
    · obtain ⟨h1, h3⟩ := enT_mem h
      exact ⟨by omega, h3⟩
theorem enT_sd : ∀ (T : List (List Nat)) (f : Nat), (enT f T).Pairwise (fun a b => lt2 a.1 b.1)
  | [], _ => List.Pairwise.nil
  | l :: t, f => List.pairwise_append.mpr ⟨enL_sd f l 0, enT_sd t (f + 1), fun x hx y hy => .inl (by
      have := (enL_mem hx).1
      have := (enT_mem hy).1
      omega)⟩
/-- the ends of a word, sorted -/
def eN (w : List Bool) : List En := enT 0 (tbl w)
theorem eN_sd (w : List Bool) : Sd (eN w) := ⟨enT_sd _ _, fun e h => (enT_mem h).2⟩
theorem eN_ds (F : Nat → Nat → Rat) (w : List Bool) : ds (φF F) (eN w) = wF F w := by
  unfold eN
  rw [ds_enT, ← wF_tbl]
  congr 1
  funext a
  rw [Nat.zero_add]
theorem eN_is {l : List En} {w : List Bool} (h : Sd l) (hw : ∀ F : Nat → Nat → Rat, ds (φF F) l = wF F w) : l = eN w :=
  sd_same h (eN_sd w) fun φ => by
    have := hw (fun a b => φ (a, b))
    rw [← eN_ds] at this
    exact this
theorem le_ds {φ : Nat × Nat → Rat} (h1 : ∀ k, φ k = 1) : ∀ {l : List En}, (∀ e ∈ l, 0 < e.2) → 0 ≤ ds φ l ∧ ∀ e ∈ l, (e.2 : Rat) ≤ ds φ l
  | [], _ => ⟨Rat.le_refl, by simp⟩
  | (j, v) :: l, h => by
    obtain ⟨i1, i2⟩ := le_ds h1 (l := l) (fun x m => h x (List.mem_cons_of_mem _ m))
    have hv : (0 : Rat) ≤ (v : Rat) := by
      have : 0 < v := h (j, v) (List.mem_cons_self ..)
      exact Rat.intCast_nonneg.mpr (by omega)
    have e : ds φ ((j, v) :: l) = (v : Rat) + ds φ l := by
      show (v : Rat) * φ j + ds φ l = _
      rw [h1]; grind
    rw [e]
    refine ⟨by grind, fun x m => ?_⟩
    rcases List.mem_cons.mp m with rfl | m
    · show (v : Rat) ≤ _; grind
    · have := i2 x m; grind
theorem eN_most {w : List Bool} {e : En} (h : e ∈ eN w) : 0 < e.2 ∧ e.2.natAbs ≤ 2 ^ w.length := by
  have p := (eN_sd w).2 e h
  refine ⟨p, ?_⟩
  have h1 := (le_ds (φ := φF fun _ _ => 1) (fun _ => rfl) (eN_sd w).2).2 e h
  rw [eN_ds] at h1
  have h2 := Rat.le_trans h1 (wF_one w)
  have h3 : (e.2 : Rat) ≤ (((2 : Int) ^ w.length : Int) : Rat) := by
    rw [Rat.intCast_pow]; exact h2
  have h4 : e.2 ≤ (2 : Int) ^ w.length := Rat.intCast_le_intCast.mp h3
  have h5 : ((2 ^ w.length : Nat) : Int) = (2 : Int) ^ w.length := by simp
  omega
end HopW

set_option Elab.async false
set_option linter.all false
set_option maxRecDepth 100000
namespace HopW
/-! ### what a sorted list of ends is -/
def le3 (p q : En) : Prop := p.1.1 < q.1.1 ∨ p.1.1 = q.1.1 ∧ (p.1.2 < q.1.2 ∨ p.1.2 = q.1.2 ∧ p.2 ≤ q.2)
theorem sd_of : ∀ {l : List En}, l.Pairwise le3 → (l.map (·.1)).Nodup → (∀ e ∈ l, 0 < e.2) → Sd l
  | [], _, _, _ => ⟨.nil, by simp⟩
  | e :: l, h, n, p => by
    have h' := List.pairwise_cons.mp h
    have n' : (e.1 :: l.map (·.1)).Nodup := n
    have n2 := List.nodup_cons.mp n'
    have ih := sd_of h'.2 n2.2 (fun x m => p x (List.mem_cons_of_mem _ m))
    refine ⟨List.pairwise_cons.mpr ⟨fun x m => ?_, ih.1⟩, p⟩
    have h3 := h'.1 x m
    have ne : e.1 ≠ x.1 := fun z => n2.1 (List.mem_map.mpr ⟨x, m, z.symm⟩)
    obtain ⟨⟨a, b⟩, c⟩ := e
    obtain ⟨⟨a', b'⟩, c'⟩ := x
    have h3 : a < a' ∨ a = a' ∧ (b < b' ∨ b = b' ∧ c ≤ c') := h3
    show a < a' ∨ a = a' ∧ b < b'
    have ne : ¬ (a = a' ∧ b = b') := fun z => ne (by rw [z.1, z.2])
    omega
theorem all_pz1 {α : Type} [DecidableEq α] {R : α → Prop} {k : α} {c : Int} (hk : R k) (hc : 0 < c) : ∀ {l : List (α × Int)}, (∀ p ∈ l, R p.1 ∧ 0 < p.2) → ∀ p ∈ pz k c l, R p.1 ∧ 0 < p.2
  | [], _, p, m => by
    obtain rfl := List.mem_singleton.mp m
    exact ⟨hk, hc⟩
  | (j, v) :: l, h, p, m => by
    have h0 := h _ (List.mem_cons_self ..)
    have h1 : ∀ p ∈ l, R p.1 ∧ 0 < p.2 := fun p m => h p (List.mem_cons_of_mem _ m)
    have h0' : 0 < v := h0.2
    unfold pz at m
    split at m
    · rcases List.mem_cons.mp m with rfl | m
      · exact ⟨h0.1, by show 0 < v + c; omega⟩
      · exact h1 p m
    · rcases List.mem_cons.mp m with rfl | m
      · exact h0
      · exact all_pz1 hk hc h1 p m
/-- what a dict of words, or of ends, keeps: none told nought times -/
structure Tp {α : Type} (R : α → Prop) (M : Nat) (l : List (α × Int)) : Prop where
  o : (l.map (·.1)).Nodup
  a : ∀ p ∈ l, R p.1 ∧ 0 < p.2
  n : l.length ≤ M
theorem Tp.nil {α : Type} {R : α → Prop} {M : Nat} : Tp R M ([] : List (α × Int)) := ⟨List.nodup_nil, by simp, Nat.zero_le _⟩
theorem Tp.put {α : Type} [DecidableEq α] {R : α → Prop} {M : Nat} {l : List (α × Int)} {k : α} {c : Int} (t : Tp R M l) (hk : R k) (hc : 0 < c) : Tp R (M + 1) (pz k c l) :=
  ⟨once_pz t.o, all_pz1 hk hc t.a, Nat.le_trans (len_pz k c l) (Nat.succ_le_succ t.n)⟩
theorem Tp.up {α : Type} {R : α → Prop} {M N : Nat} {l : List (α × Int)} (t : Tp R M l) (h : M ≤ N) : Tp R N l := ⟨t.o, t.a, Nat.le_trans t.n h⟩
theorem Tp.at {α : Type} {R : α → Prop} {M : Nat} {l : List (α × Int)} (t : Tp R M l) {i : Nat} {k : α} {c : Int} (h : l[i]? = some (k, c)) : R k ∧ 0 < c := t.a _ (List.mem_of_getElem? h)
/-- one turn over a word: an end is told -/
theorem dsF_end {F : Nat → Nat → Rat} {f b : Nat} {c : Int} {T : List (List Bool × Int)} {i : Nat} (h : T[i]? = some (List.replicate f false ++ List.replicate b true, c)) (G : List En) {Z : Rat} {L : List (List Bool × Int)}
    (e : ds (wF F) L + ds (φF F) G = ds (wF F) (T.take i) + Z) : ds (wF F) L + ds (φF F) (pz (f, b) c G) = ds (wF F) (T.take (i + 1)) + Z := by
  rw [ds_pz, ds_take h, wF_rest]
  show _ + (_ + (c : Rat) * F f b) = _
  grind
/-- two shorter words are told -/
theorem dsF_two {F : Nat → Nat → Rat} {u v : List Bool} {c : Int} {T : List (List Bool × Int)} {i : Nat} (h : T[i]? = some (u ++ true :: false :: v, c)) {Z g : Rat} {L : List (List Bool × Int)}
    (e : ds (wF F) L + g = ds (wF F) (T.take i) + Z) : ds (wF F) (pz (u ++ false :: v) c (pz (u ++ true :: v) c L)) + g = ds (wF F) (T.take (i + 1)) + Z := by
  rw [ds_pz, ds_pz, ds_take h, wF_of]
  grind
theorem ds_permF {α : Type} (φ : α → Rat) {l m : List (α × Int)} (p : l.Perm m) : ds φ l = ds φ m := by
  induction p with
  | nil => rfl
  | cons x _ ih =>
    show (x.2 : Rat) * φ x.1 + ds φ _ = (x.2 : Rat) * φ x.1 + ds φ _
    rw [ih]
  | swap x y l =>
    show (y.2 : Rat) * φ y.1 + ((x.2 : Rat) * φ x.1 + ds φ l) = (x.2 : Rat) * φ x.1 + ((y.2 : Rat) * φ y.1 + ds φ l)
    grind
  | trans _ _ a b => exact a.trans b
theorem tp_sorted {R : Nat × Nat → Prop} {M : Nat} {l m : List En} (t : Tp R M l) (p : m.Perm l) (h : m.Pairwise le3) : Sd m :=
  sd_of h ((p.map (·.1)).nodup_iff.mpr t.o) (fun e he => (t.a e (p.mem_iff.mp he)).2)
/-! ### great words: so many beads ahead of so many free places -/
def Wb (F : Nat → Nat → Rat) (i j : Nat) : Rat := wF F (List.replicate i true ++ List.replicate j false)
theorem Wb_of (F : Nat → Nat → Rat) (i j : Nat) : Wb F (i + 1) (j + 1) = Wb F (i + 1) j + Wb F i (j + 1) := by
  unfold Wb
  have h := wF_of F (List.replicate i true) (List.replicate j false)
  rw [List.replicate_succ' (n := i), List.replicate_succ (n := j), List.append_assoc, List.append_assoc]
  exact h
theorem Wb_none (F : Nat → Nat → Rat) (j : Nat) : Wb F 0 j = F j 0 := by
  have h := wF_rest F j 0
  rw [List.replicate_zero, List.append_nil] at h
  exact h
theorem Wb_all (F : Nat → Nat → Rat) (i : Nat) : Wb F i 0 = F 0 i := by
  have h := wF_rest F 0 i
  unfold Wb
  rw [List.replicate_zero, List.append_nil]
  exact h
def sR (c : Nat → Rat) : Nat → Rat
  | 0 => 0
  | n + 1 => sR c n + c n
theorem sR_same {c d : Nat → Rat} : ∀ {n : Nat}, (∀ j, j < n → c j = d j) → sR c n = sR d n
  | 0, _ => rfl
  | n + 1, h => by
    show sR c n + c n = sR d n + d n
    rw [sR_same (fun j hj => h j (by omega)), h n (by omega)]
theorem sR_one {c d : Nat → Rat} {k : Nat} {z : Rat} : ∀ {n : Nat}, k < n → (∀ j, j ≠ k → d j = c j) → d k = c k + z → sR d n = sR c n + z
  | 0, h, _, _ => absurd h (by omega)
  | n + 1, h, h1, h2 => by
    show sR d n + d n = sR c n + c n + z
    by_cases e : k = n
    · subst e
      rw [sR_same (c := d) (d := c) (fun j hj => h1 j (by omega)), h2]
      grind
    · rw [sR_one (n := n) (by omega) h1 h2, h1 n (fun z => e z.symm)]
      grind
def rw1 (F : Nat → Nat → Rat) (M : Nat → Nat → Int) (i : Nat) : Nat → Rat := sR fun j => (M i j : Rat) * Wb F i j
/-- what is still to be looked at: all lines below s (fr places each), and m places of line s -/
def XM (F : Nat → Nat → Rat) (fr : Nat) (M : Nat → Nat → Int) (s m : Nat) : Rat := sR (fun i => rw1 F M i fr) s + rw1 F M s m
def addc (M : Nat → Nat → Int) (i0 j0 : Nat) (v : Int) : Nat → Nat → Int := fun i j => if i = i0 ∧ j = j0 then M i j + v else M i j
theorem rw1_off {F : Nat → Nat → Rat} {M : Nat → Nat → Int} {i0 j0 i m : Nat} {v : Int} (h : i ≠ i0 ∨ m ≤ j0) : rw1 F (addc M i0 j0 v) i m = rw1 F M i m := by
  refine sR_same fun j hj => ?_
  rw [show addc M i0 j0 v i j = M i j from if_neg (by omega)]
theorem rw1_on {F : Nat → Nat → Rat} {M : Nat → Nat → Int} {i0 j0 m : Nat} {v : Int} (h : j0 < m) : rw1 F (addc M i0 j0 v) i0 m = rw1 F M i0 m + (v : Rat) * Wb F i0 j0 := by
  refine sR_one h (fun j hj => ?_) ?_
  · rw [show addc M i0 j0 v i0 j = M i0 j from if_neg (by omega)]
  · rw [show addc M i0 j0 v i0 j0 = M i0 j0 + v from if_pos ⟨rfl, rfl⟩, Rat.intCast_add]
    grind
theorem XM_in {F : Nat → Nat → Rat} {fr : Nat} {M : Nat → Nat → Int} {s m j0 : Nat} {v : Int} (h : j0 < m) : XM F fr (addc M s j0 v) s m = XM F fr M s m + (v : Rat) * Wb F s j0 := by
  unfold XM
  rw [rw1_on h, sR_same (d := fun i => rw1 F M i fr) (fun i hi => rw1_off (.inl (by omega)))]
  grind
theorem XM_below {F : Nat → Nat → Rat} {fr : Nat} {M : Nat → Nat → Int} {s m j0 : Nat} {v : Int} (h : j0 < fr) : XM F fr (addc M s j0 v) (s + 1) m = XM F fr M (s + 1) m + (v : Rat) * Wb F s j0 := by
  unfold XM
  rw [rw1_off (i := s + 1) (.inl (by omega)), sR_one (c := fun i => rw1 F M i fr) (k := s) (z := (v : Rat) * Wb F s j0) (by omega) (fun i hi => rw1_off (.inl hi)) (rw1_on h)]
  grind
theorem XM_less (F : Nat → Nat → Rat) (fr : Nat) (M : Nat → Nat → Int) (s m : Nat) : XM F fr M s (m + 1) = XM F fr M s m + (M s m : Rat) * Wb F s m := by
  show sR (fun i => rw1 F M i fr) s + (rw1 F M s m + (M s m : Rat) * Wb F s m) = sR (fun i => rw1 F M i fr) s + rw1 F M s m + _
  grind
theorem XM_line (F : Nat → Nat → Rat) (fr : Nat) (M : Nat → Nat → Int) (s : Nat) : XM F fr M (s + 1) 0 = XM F fr M s fr := by
  show sR (fun i => rw1 F M i fr) s + rw1 F M s fr + 0 = sR (fun i => rw1 F M i fr) s + rw1 F M s fr
  grind
theorem XM_zero (F : Nat → Nat → Rat) (fr : Nat) (M : Nat → Nat → Int) : XM F fr M 0 0 = 0 := by
  show (0 : Rat) + 0 = 0
  grind
/-- a turn within: one way on each hand -/
theorem XM_turn {F : Nat → Nat → Rat} {fr : Nat} {M : Nat → Nat → Int} {s m : Nat} (h : m + 1 < fr) : XM F fr (addc (addc M (s + 1) m (M (s + 1) (m + 1))) s (m + 1) (M (s + 1) (m + 1))) (s + 1) (m + 1) = XM F fr M (s + 1) (m + 1 + 1) := by
  rw [XM_below h, XM_in (by omega), XM_less F fr M (s + 1) (m + 1), Wb_of]
  grind
theorem zero_sum {F : Nat → Nat → Rat} {i n : Nat} : rw1 F (fun _ _ => 0) i n = 0 := by
  unfold rw1
  induction n with
  | zero => rfl
  | succ n ih =>
    show sR _ n + ((0 : Int) : Rat) * Wb F i n = 0
    rw [ih]
    have : ((0 : Int) : Rat) = 0 := rfl
    grind
theorem zero_all {F : Nat → Nat → Rat} {fr s : Nat} : sR (fun i => rw1 F (fun _ _ => 0) i fr) s = 0 := by
  induction s with
  | zero => rfl
  | succ n ih =>
    show sR _ n + rw1 F (fun _ _ => 0) n fr = 0
    rw [ih, zero_sum]
    grind
theorem XM_start (F : Nat → Nat → Rat) (B f : Nat) : XM F (f + 1) (addc (fun _ _ => 0) B f 1) B (f + 1) = Wb F B f := by
  rw [XM_in (Nat.lt_succ_self f)]
  unfold XM
  rw [zero_sum, zero_all]
  have : ((1 : Int) : Rat) = 1 := rfl
  grind
theorem addc_nn {M : Nat → Nat → Int} (h : ∀ i j, 0 ≤ M i j) {i0 j0 : Nat} {v : Int} (hv : 0 ≤ v) : ∀ i j, 0 ≤ addc M i0 j0 v i j := fun i j => by
  unfold addc
  have := h i j
  split <;> omega
/-- ends moved on: free places ahead, beads behind -/
def mv (p q : Nat) (e : En) : En := ((e.1.1 + p, e.1.2 + q), e.2)
theorem ds_mv (F : Nat → Nat → Rat) (p q : Nat) : ∀ G : List En, ds (φF F) (G.map (mv p q)) = ds (φF fun i j => F (i + p) (j + q)) G
  | [] => rfl
  | e :: G => by
    show (e.2 : Rat) * F (e.1.1 + p) (e.1.2 + q) + ds (φF F) (G.map (mv p q)) = (e.2 : Rat) * F (e.1.1 + p) (e.1.2 + q) + ds _ G
    rw [ds_mv F p q G]
theorem once_mv {p q : Nat} : ∀ {G : List En}, (G.map (·.1)).Nodup → ((G.map (mv p q)).map (·.1)).Nodup
  | [], _ => List.nodup_nil
  | e :: G, h => by
    have h' : (e.1 :: G.map (·.1)).Nodup := h
    obtain ⟨n1, n2⟩ := List.nodup_cons.mp h'
    refine List.nodup_cons.mpr ⟨fun m => n1 ?_, once_mv n2⟩
    obtain ⟨x, mx, ex⟩ := List.mem_map.mp m
    obtain ⟨y, my, rfl⟩ := List.mem_map.mp mx
    refine List.mem_map.mpr ⟨y, my, ?_⟩
    have e1 : y.1.1 + p = e.1.1 + p := congrArg Prod.fst ex
    have e2 : y.1.2 + q = e.1.2 + q := congrArg Prod.snd ex
    exact Prod.ext (by omega) (by omega)
/-- the word of p free places, i beads, j free places, q beads -/
def gw (p i j q : Nat) : List Bool := List.replicate p false ++ (List.replicate i true ++ List.replicate j false) ++ List.replicate q true
theorem wF_gw (F : Nat → Nat → Rat) (p i j q : Nat) : wF F (gw p i j q) = Wb (fun a b => F (a + p) (b + q)) i j := by
  unfold gw
  rw [wF_beads, wF_frees]
  rfl
end HopW

set_option Elab.async false
set_option linter.all false
set_option maxRecDepth 100000
/-! Heaps of a row: a course in any order fills one. -/
namespace HopH
abbrev T3 := Nat × Nat × Bool
/-- of the letters S the tuples R are a heap -/
structure Heaped (bs : List Bool) (S : List Nat) (R : List T3) : Prop where
  inn : ∀ b f s, (b, f, s) ∈ R → b ∈ S ∧ f ∈ S ∧ b < f ∧ bs[b]? = some true ∧ bs[f]? = some false
  nd : (R.map fun e => (e.1, e.2.1)).Nodup
  has : ∀ b f, b ∈ S → f ∈ S → b < f → bs[b]? = some true → bs[f]? = some false → ((∃ s, (b, f, s) ∈ R) ↔ ∀ k ∈ S, b < k → k < f → (k, f, true) ∉ R ∧ (b, k, false) ∉ R)
theorem pair_mem {R : List T3} {b f : Nat} : (b, f) ∈ R.map (fun e : T3 => (e.1, e.2.1)) ↔ ∃ s, (b, f, s) ∈ R := by
  rw [List.mem_map]
  constructor
  · rintro ⟨⟨b', f', s⟩, m, e⟩
    cases e
    exact ⟨s, m⟩
  · rintro ⟨s, m⟩
    exact ⟨_, m, rfl⟩
theorem heaped_nil {bs : List Bool} {S : List Nat} (h : ∀ b f, b ∈ S → f ∈ S → b < f → bs[b]? = some true → bs[f]? = some false → False) : Heaped bs S [] :=
  ⟨fun _ _ _ m => absurd m (by simp), by simp, fun b f hb hf l h1 h2 => (h b f hb hf l h1 h2).elim⟩
theorem Heaped.perm {bs : List Bool} {S : List Nat} {R R' : List T3} (h : Heaped bs S R) (p : R.Perm R') : Heaped bs S R' := by
  refine ⟨fun b f s m => h.inn b f s (p.mem_iff.mpr m), (p.map _).nodup_iff.mp h.nd, fun b f hb hf l h1 h2 => ?_⟩
  have e := h.has b f hb hf l h1 h2
  constructor
  · rintro ⟨s, m⟩ k hk k1 k2
    have := e.mp ⟨s, p.mem_iff.mpr m⟩ k hk k1 k2
    exact ⟨fun z => this.1 (p.mem_iff.mpr z), fun z => this.2 (p.mem_iff.mpr z)⟩
  · intro q
    obtain ⟨s, m⟩ := e.mpr fun k hk k1 k2 => ⟨fun z => (q k hk k1 k2).1 (p.mem_iff.mp z), fun z => (q k hk k1 k2).2 (p.mem_iff.mp z)⟩
    exact ⟨s, p.mem_iff.mp m⟩
theorem bad {o : Option Bool} (h1 : o = some true) (h2 : o = some false) : False := by rw [h1] at h2; cases h2
/-- a step at b, f that leaves the free place out -/
theorem heaped_free {bs : List Bool} {S S' : List Nat} {R : List T3} {b f : Nat} (hb : b ∈ S) (hf : f ∈ S) (bf : b < f) (adj : ∀ k ∈ S, b < k → k < f → False) (h1 : bs[b]? = some true) (h2 : bs[f]? = some false)
    (hS : ∀ x, x ∈ S' ↔ x ∈ S ∧ x ≠ f) (h : Heaped bs S' R) : Heaped bs S ((b, f, true) :: R) := by
  have nf : ∀ x s, (x, f, s) ∉ R := fun x s m => ((hS f).mp (h.inn _ _ _ m).2.1).2 rfl
  refine ⟨fun b1 f1 s m => ?_, ?_, fun b1 f1 hb1 hf1 l k1 k2 => ?_⟩
  · rcases List.mem_cons.mp m with e | m
    · cases e; exact ⟨hb, hf, bf, h1, h2⟩
    · obtain ⟨a, c, d⟩ := h.inn _ _ _ m
      exact ⟨((hS _).mp a).1, ((hS _).mp c).1, d⟩
  · rw [List.map_cons, List.nodup_cons]
    exact ⟨fun m => by obtain ⟨s, m⟩ := pair_mem.mp m; exact nf _ _ m, h.nd⟩
  · by_cases ef : f1 = f
    · subst ef
      by_cases eb : b1 = b
      · subst eb
        exact ⟨fun _ k hk z1 z2 => (adj k hk z1 z2).elim, fun _ => ⟨true, List.mem_cons_self ..⟩⟩
      · have lb : b1 < b := by
          rcases Nat.lt_trichotomy b1 b with z | z | z
          · exact z
          · exact absurd z eb
          · exact (adj b1 hb1 z l).elim
        constructor
        · rintro ⟨s, m⟩
          rcases List.mem_cons.mp m with e | m
          · cases e; exact absurd rfl eb
          · exact (nf _ _ m).elim
        · intro q
          exact ((q b hb lb bf).1 (List.mem_cons_self ..)).elim
    · have nb : b1 ≠ f := fun e => by rw [e] at k1; exact bad k1 h2
      have e := h.has b1 f1 ((hS _).mpr ⟨hb1, nb⟩) ((hS _).mpr ⟨hf1, ef⟩) l k1 k2
      have i1 : ∀ x s, (x, f1, s) ∈ (b, f, true) :: R ↔ (x, f1, s) ∈ R := fun x s => by
        constructor
        · intro m
          rcases List.mem_cons.mp m with e | m
          · cases e; exact absurd rfl ef
          · exact m
        · exact List.mem_cons_of_mem _
      have i2 : ∀ k, (b1, k, false) ∈ (b, f, true) :: R ↔ (b1, k, false) ∈ R := fun k => by
        constructor
        · intro m
          rcases List.mem_cons.mp m with e | m
          · cases e
          · exact m
        · exact List.mem_cons_of_mem _
      constructor
      · rintro ⟨s, m⟩ k hk z1 z2
        rw [i1, i2]
        by_cases ek : k = f
        · subst ek
          refine ⟨fun z => ?_, nf _ _⟩
          exact bad (h.inn _ _ _ z).2.2.2.1 h2
        · exact e.mp ⟨s, (i1 _ _).mp m⟩ k ((hS _).mpr ⟨hk, ek⟩) z1 z2
      · intro q
        obtain ⟨s, m⟩ := e.mpr fun k hk z1 z2 => by
          have := q k ((hS _).mp hk).1 z1 z2
          rw [i1, i2] at this
          exact this
        exact ⟨s, (i1 _ _).mpr m⟩
/-- a step at b, f that leaves the bead out -/
theorem heaped_bead {bs : List Bool} {S S' : List Nat} {R : List T3} {b f : Nat} (hb : b ∈ S) (hf : f ∈ S) (bf : b < f) (adj : ∀ k ∈ S, b < k → k < f → False) (h1 : bs[b]? = some true) (h2 : bs[f]? = some false)
    (hS : ∀ x, x ∈ S' ↔ x ∈ S ∧ x ≠ b) (h : Heaped bs S' R) : Heaped bs S ((b, f, false) :: R) := by
  have nb : ∀ x s, (b, x, s) ∉ R := fun x s m => ((hS b).mp (h.inn _ _ _ m).1).2 rfl
  refine ⟨fun b1 f1 s m => ?_, ?_, fun b1 f1 hb1 hf1 l k1 k2 => ?_⟩
  · rcases List.mem_cons.mp m with e | m
    · cases e; exact ⟨hb, hf, bf, h1, h2⟩
    · obtain ⟨a, c, d⟩ := h.inn _ _ _ m
      exact ⟨((hS _).mp a).1, ((hS _).mp c).1, d⟩
  · rw [List.map_cons, List.nodup_cons]
    exact ⟨fun m => by obtain ⟨s, m⟩ := pair_mem.mp m; exact nb _ _ m, h.nd⟩
  · by_cases eb : b1 = b
    · subst eb
      by_cases ef : f1 = f
      · subst ef
        exact ⟨fun _ k hk z1 z2 => (adj k hk z1 z2).elim, fun _ => ⟨false, List.mem_cons_self ..⟩⟩
      · have lf : f < f1 := by
          rcases Nat.lt_trichotomy f f1 with z | z | z
          · exact z
          · exact absurd z.symm ef
          · exact (adj f1 hf1 l z).elim
        constructor
        · rintro ⟨s, m⟩
          rcases List.mem_cons.mp m with e | m
          · cases e; exact absurd rfl ef
          · exact (nb _ _ m).elim
        · intro q
          exact ((q f hf bf lf).2 (List.mem_cons_self ..)).elim
    · have nf : f1 ≠ b := fun e => by rw [e] at k2; exact bad h1 k2
      have e := h.has b1 f1 ((hS _).mpr ⟨hb1, eb⟩) ((hS _).mpr ⟨hf1, nf⟩) l k1 k2
      have i1 : ∀ x s, (b1, x, s) ∈ (b, f, false) :: R ↔ (b1, x, s) ∈ R := fun x s => by
        constructor
        · intro m
          rcases List.mem_cons.mp m with e | m
          · cases e; exact absurd rfl eb
          · exact m
        · exact List.mem_cons_of_mem _
      have i2 : ∀ k, (k, f1, true) ∈ (b, f, false) :: R ↔ (k, f1, true) ∈ R := fun k => by
        constructor
        · intro m
          rcases List.mem_cons.mp m with e | m
          · cases e
          · exact m
        · exact List.mem_cons_of_mem _
      constructor
      · rintro ⟨s, m⟩ k hk z1 z2
        rw [i1, i2]
        by_cases ek : k = b
        · subst ek
          refine ⟨nb _ _, fun z => ?_⟩
          exact bad h1 (h.inn _ _ _ z).2.2.2.2
        · exact e.mp ⟨s, (i1 _ _).mp m⟩ k ((hS _).mpr ⟨hk, ek⟩) z1 z2
      · intro q
        obtain ⟨s, m⟩ := e.mpr fun k hk z1 z2 => by
          have := q k ((hS _).mp hk).1 z1 z2
          rw [i1, i2] at this
          exact this
        exact ⟨s, (i1 _ _).mpr m⟩
/-! ### which cells have a sign -/
theorem one_o {bs : List Bool} {S : List Nat} {R : List T3} (h : Heaped bs S R) {b1 b2 f : Nat} (m1 : (b1, f, true) ∈ R) (m2 : (b2, f, true) ∈ R) : b1 = b2 := by
  have go : ∀ {x y : Nat}, (x, f, true) ∈ R → (y, f, true) ∈ R → ¬ x < y := fun {x y} mx my l => by
    obtain ⟨a, b, c, d, e⟩ := h.inn _ _ _ mx
    obtain ⟨a', b', c', d', e'⟩ := h.inn _ _ _ my
    exact ((h.has x f a b c d e).mp ⟨_, mx⟩ y a' l c').1 my
  have := go m1 m2
  have := go m2 m1
  omega
theorem one_dot {bs : List Bool} {S : List Nat} {R : List T3} (h : Heaped bs S R) {b f1 f2 : Nat} (m1 : (b, f1, false) ∈ R) (m2 : (b, f2, false) ∈ R) : f1 = f2 := by
  have go : ∀ {x y : Nat}, (b, x, false) ∈ R → (b, y, false) ∈ R → ¬ x < y := fun {x y} mx my l => by
    obtain ⟨a, c, d, e, g⟩ := h.inn _ _ _ mx
    obtain ⟨a', c', d', e', g'⟩ := h.inn _ _ _ my
    exact ((h.has b y a' c' d' e' g').mp ⟨_, my⟩ x c d l).2 mx
  have := go m1 m2
  have := go m2 m1
  omega
/-- a cell has a sign just where no nearer one uses the bead or the free place up -/
theorem signed_iff {bs : List Bool} {S : List Nat} {R : List T3} (h : Heaped bs S R) {b f : Nat} (hb : b ∈ S) (hf : f ∈ S) (l : b < f) (h1 : bs[b]? = some true) (h2 : bs[f]? = some false) :
    (∃ s, (b, f, s) ∈ R) ↔ (∀ k, (k, f, true) ∈ R → k ≤ b) ∧ (∀ k, (b, k, false) ∈ R → f ≤ k) := by
  rw [h.has b f hb hf l h1 h2]
  constructor
  · intro q
    refine ⟨fun k m => ?_, fun k m => ?_⟩
    · obtain ⟨a, _, c, _⟩ := h.inn _ _ _ m
      by_cases z : k ≤ b
      · exact z
      · exact ((q k a (by omega) c).1 m).elim
    · obtain ⟨_, a, c, _⟩ := h.inn _ _ _ m
      by_cases z : f ≤ k
      · exact z
      · exact ((q k a c (by omega)).2 m).elim
  · rintro ⟨q1, q2⟩ k hk z1 z2
    exact ⟨fun m => by have := q1 k m; omega, fun m => by have := q2 k m; omega⟩
/-- what is left: free places ahead of beads -/
theorem left_apart {bs : List Bool} {S : List Nat} {R : List T3} (h : Heaped bs S R) {b f : Nat} (hb : b ∈ S) (hf : f ∈ S) (h1 : bs[b]? = some true) (h2 : bs[f]? = some false) (lb : ∀ k, (b, k, false) ∉ R) (lf : ∀ k, (k, f, true) ∉ R) : f < b := by
  rcases Nat.lt_trichotomy f b with z | z | z
  · exact z
  · rw [z] at h2; exact (bad h1 h2).elim
  · obtain ⟨s, m⟩ := (signed_iff h hb hf z h1 h2).mpr ⟨fun k m => (lf k m).elim, fun k m => (lb k m).elim⟩
    cases s with
    | true => exact (lf _ m).elim
    | false => exact (lb _ m).elim
/-! ### sorted lists with the same members are one -/
theorem same_sorted {α : Type} {lt : α → α → Prop} (irr : ∀ x, ¬ lt x x) (asym : ∀ x y, lt x y → lt y x → False) : ∀ {l m : List α}, l.Pairwise lt → m.Pairwise lt → (∀ x, x ∈ l ↔ x ∈ m) → l = m
  | [], [], _, _, _ => rfl
  | [], y :: m, _, _, h => absurd ((h y).mpr (List.mem_cons_self ..)) (by simp)
  | x :: l, [], _, _, h => absurd ((h x).mp (List.mem_cons_self ..)) (by simp)
  | x :: l, y :: m, hl, hm, h => by
    obtain ⟨hx, hl'⟩ := List.pairwise_cons.mp hl
    obtain ⟨hy, hm'⟩ := List.pairwise_cons.mp hm
    have e : x = y := by
      rcases List.mem_cons.mp ((h x).mp (List.mem_cons_self ..)) with e | e
      · exact e
      · rcases List.mem_cons.mp ((h y).mpr (List.mem_cons_self ..)) with e' | e'
        · exact e'.symm
        · exact (asym _ _ (hx _ e') (hy _ e)).elim
    subst e
    refine congrArg (x :: ·) (same_sorted irr asym hl' hm' fun z => ?_)
    constructor
    · intro mz
      rcases List.mem_cons.mp ((h z).mp (List.mem_cons_of_mem _ mz)) with e | e
      · subst e; exact (irr _ (hx _ mz)).elim
      · exact e
    · intro mz
      rcases List.mem_cons.mp ((h z).mpr (List.mem_cons_of_mem _ mz)) with e | e
      · subst e; exact (irr _ (hy _ mz)).elim
      · exact e
/-! ### the cells of a row, and those that are due -/
def beadsOf (bs : List Bool) : List Nat := (List.range bs.length).filter fun p => bs[p]? == some true
def freesOf (bs : List Bool) : List Nat := (List.range bs.length).filter fun p => bs[p]? == some false
def cellsN (bs : List Bool) : List (Nat × Nat) := (beadsOf bs).flatMap fun b => ((freesOf bs).filter fun f => decide (b < f)).map fun f => (b, f)
abbrev I3 := Int × Int × Bool
def ci (c : Nat × Nat) : Int × Int := ((c.1 : Int), (c.2 : Int))
def c3 (e : T3) : I3 := ((e.1 : Int), (e.2.1 : Int), e.2.2)
def pr3 (e : I3) : Int × Int := (e.1, e.2.1)
/-- the nearest bead of a free place: the last one of the list that uses it up -/
def nbI (ts : List I3) (f : Int) : Option Int := (ts.filter fun e => decide (e.2.1 = f) && e.2.2).getLast?.map (·.1)
/-- the nearest free place of a bead: the first one of the list that uses it up -/
def nfI (ts : List I3) (b : Int) : Option Int := (ts.filter fun e => decide (e.1 = b) && !e.2.2).head?.map (·.2.1)
def dueI (ts : List I3) (c : Nat × Nat) : Bool := decide ((nbI ts (c.2 : Int)).getD (c.1 : Int) ≤ (c.1 : Int)) && decide ((c.2 : Int) ≤ (nfI ts (c.1 : Int)).getD (c.2 : Int))
def dueCells (bs : List Bool) (ts : List I3) : List (Int × Int) := ((cellsN bs).filter (dueI ts)).map ci
def isHeapB (bs : List Bool) (ts : List I3) : Bool := decide (ts.map pr3 = dueCells bs ts)
theorem mem_beads {bs : List Bool} {p : Nat} : p ∈ beadsOf bs ↔ bs[p]? = some true := by
  unfold beadsOf
  rw [List.mem_filter, List.mem_range, beq_iff_eq]
  exact ⟨fun h => h.2, fun h => ⟨(List.getElem?_eq_some_iff.mp h).1, h⟩⟩
theorem mem_frees {bs : List Bool} {p : Nat} : p ∈ freesOf bs ↔ bs[p]? = some false := by
  unfold freesOf
  rw [List.mem_filter, List.mem_range, beq_iff_eq]
  exact ⟨fun h => h.2, fun h => ⟨(List.getElem?_eq_some_iff.mp h).1, h⟩⟩
theorem mem_cells {bs : List Bool} {b f : Nat} : (b, f) ∈ cellsN bs ↔ bs[b]? = some true ∧ bs[f]? = some false ∧ b < f := by
  unfold cellsN
  rw [List.mem_flatMap]
  constructor
  · rintro ⟨x, hx, m⟩
    obtain ⟨y, hy, e⟩ := List.mem_map.mp m
    cases e
    obtain ⟨h1, h2⟩ := List.mem_filter.mp hy
    exact ⟨mem_beads.mp hx, mem_frees.mp h1, of_decide_eq_true h2⟩
  · rintro ⟨h1, h2, h3⟩
    exact ⟨b, mem_beads.mpr h1, List.mem_map.mpr ⟨f, List.mem_filter.mpr ⟨mem_frees.mpr h2, decide_eq_true h3⟩, rfl⟩⟩
def ltN (a b : Nat × Nat) : Prop := a.1 < b.1 ∨ a.1 = b.1 ∧ a.2 < b.2
def ltP2 (a b : Int × Int) : Prop := a.1 < b.1 ∨ a.1 = b.1 ∧ a.2 < b.2
theorem range_lt (n : Nat) : (List.range n).Pairwise (· < ·) := List.pairwise_lt_range
theorem flat_lt (g : Nat → List Nat) : ∀ l : List Nat, l.Pairwise (· < ·) → (∀ b, (g b).Pairwise (· < ·)) → (l.flatMap fun b => (g b).map fun f => (b, f)).Pairwise ltN
  | [], _, _ => by simp
  | b :: l, h, hg => by
    obtain ⟨h1, h2⟩ := List.pairwise_cons.mp h
    rw [List.flatMap_cons, List.pairwise_append]
    refine ⟨List.pairwise_map.mpr ((hg b).imp fun h => .inr ⟨rfl, h⟩), flat_lt g l h2 hg, ?_⟩
    intro x hx y hy
    obtain ⟨f, _, rfl⟩ := List.mem_map.mp hx
    obtain ⟨b', hb', m⟩ := List.mem_flatMap.mp hy
    obtain ⟨f', _, rfl⟩ := List.mem_map.mp m
    exact .inl (h1 _ hb')
theorem cells_sorted (bs : List Bool) : (cellsN bs).Pairwise ltN :=
  flat_lt (fun b => (freesOf bs).filter fun f => decide (b < f)) _ ((range_lt _).filter _) fun b => ((range_lt _).filter _).filter _
theorem due_sorted (bs : List Bool) (ts : List I3) : (dueCells bs ts).Pairwise ltP2 := by
  unfold dueCells
  refine List.pairwise_map.mpr (((cells_sorted bs).filter _).imp fun h => ?_)
  rcases h with h | ⟨h1, h2⟩
  · exact .inl (show _ < _ by show ((_ : Nat) : Int) < ((_ : Nat) : Int); omega)
  · exact .inr ⟨by show ((_ : Nat) : Int) = ((_ : Nat) : Int); omega, by show ((_ : Nat) : Int) < ((_ : Nat) : Int); omega⟩
theorem last_mem {α : Type} {l : List α} {x : α} (h : l.getLast? = some x) : x ∈ l := List.mem_of_getLast? h
theorem head_mem {α : Type} {l : List α} {x : α} (h : l.head? = some x) : x ∈ l := List.mem_of_head? h
/-- of a heap: due is what has a sign -/
theorem due_iff {bs : List Bool} {S : List Nat} {R : List T3} (h : Heaped bs S R) {ts : List I3} (p : ts.Perm (R.map c3)) {b f : Nat} (hb : b ∈ S) (hf : f ∈ S) (l : b < f) (h1 : bs[b]? = some true) (h2 : bs[f]? = some false) : dueI ts (b, f) = true ↔ ∃ s, (b, f, s) ∈ R := by
  have mem : ∀ x y s, ((x, y, s) : I3) ∈ ts ↔ ∃ x' y' : Nat, x = x' ∧ y = y' ∧ (x', y', s) ∈ R := fun x y s => by
    rw [p.mem_iff, List.mem_map]
    constructor
    · rintro ⟨⟨x', y', s'⟩, m, e⟩
      cases e
      exact ⟨x', y', rfl, rfl, m⟩
    · rintro ⟨x', y', rfl, rfl, m⟩
      exact ⟨_, m, rfl⟩
  rw [signed_iff h hb hf l h1 h2]
  unfold dueI
  rw [Bool.and_eq_true, decide_eq_true_eq, decide_eq_true_eq]
  have a : ((nbI ts (f : Int)).getD (b : Int) ≤ (b : Int)) ↔ ∀ k, (k, f, true) ∈ R → k ≤ b := by
    unfold nbI
    cases e : (ts.filter fun e => decide (e.2.1 = (f : Int)) && e.2.2).getLast? with
    | none =>
      have em := List.getLast?_eq_none_iff.mp e
      refine ⟨fun _ k m => ?_, fun _ => Int.le_refl _⟩
      have : ((k : Int), (f : Int), true) ∈ ts.filter fun e => decide (e.2.1 = (f : Int)) && e.2.2 := List.mem_filter.mpr ⟨(mem _ _ _).mpr ⟨k, f, rfl, rfl, m⟩, by simp⟩
      rw [em] at this
      exact absurd this (by simp)
    | some x =>
      obtain ⟨m, q⟩ := List.mem_filter.mp (last_mem e)
      obtain ⟨x1, x2, x3⟩ := x
      have q1 : x2 = (f : Int) ∧ x3 = true := by simpa using q
      obtain ⟨rfl, rfl⟩ := q1
      obtain ⟨k0, f0, rfl, e2, m0⟩ := (mem _ _ _).mp m
      have : f0 = f := by omega
      subst this
      show ((k0 : Nat) : Int) ≤ (b : Int) ↔ _
      constructor
      · intro le k mk
        rw [one_o h mk m0]
        omega
      · intro q
        have := q _ m0
        omega
  have c : ((f : Int) ≤ (nfI ts (b : Int)).getD (f : Int)) ↔ ∀ k, (b, k, false) ∈ R → f ≤ k := by
    unfold nfI
    cases e : (ts.filter fun e => decide (e.1 = (b : Int)) && !e.2.2).head? with
    | none =>
      have em := List.head?_eq_none_iff.mp e
      refine ⟨fun _ k m => ?_, fun _ => Int.le_refl _⟩
      have : ((b : Int), (k : Int), false) ∈ ts.filter fun e => decide (e.1 = (b : Int)) && !e.2.2 := List.mem_filter.mpr ⟨(mem _ _ _).mpr ⟨b, k, rfl, rfl, m⟩, by simp⟩
      rw [em] at this
      exact absurd this (by simp)
    | some x =>
      obtain ⟨m, q⟩ := List.mem_filter.mp (head_mem e)
      obtain ⟨x1, x2, x3⟩ := x
      have q1 : x1 = (b : Int) ∧ x3 = false := by simpa using q
      obtain ⟨rfl, rfl⟩ := q1
      obtain ⟨b0, k0, e1, rfl, m0⟩ := (mem _ _ _).mp m
      have : b0 = b := by omega
      subst this
      show (f : Int) ≤ ((k0 : Nat) : Int) ↔ _
      constructor
      · intro le k mk
        rw [one_dot h mk m0]
        omega
      · intro q
        have := q _ m0
        omega
  rw [a, c]
/-- a heap, sorted, is what the program lets by -/
theorem heap_ok {bs : List Bool} {R : List T3} (h : Heaped bs (List.range bs.length) R) {ts : List I3} (p : ts.Perm (R.map c3)) (so : (ts.map pr3).Pairwise ltP2) : ts.map pr3 = dueCells bs ts := by
  refine same_sorted (lt := ltP2) (fun x h => ?_) (fun x y h1 h2 => ?_) so (due_sorted bs ts) fun ⟨x, y⟩ => ?_
  · unfold ltP2 at h; omega
  · unfold ltP2 at h1 h2; omega
  · unfold dueCells
    rw [List.mem_map, List.mem_map]
    constructor
    · rintro ⟨e, m, q⟩
      obtain ⟨⟨b, f, s⟩, mR, rfl⟩ := List.mem_map.mp (p.mem_iff.mp m)
      cases q
      obtain ⟨hb, hf, l, h1, h2⟩ := h.inn _ _ _ mR
      exact ⟨(b, f), List.mem_filter.mpr ⟨mem_cells.mpr ⟨h1, h2, l⟩, (due_iff h p hb hf l h1 h2).mpr ⟨s, mR⟩⟩, rfl⟩
    · rintro ⟨⟨b, f⟩, m, q⟩
      cases q
      obtain ⟨mc, md⟩ := List.mem_filter.mp m
      obtain ⟨h1, h2, l⟩ := mem_cells.mp mc
      obtain ⟨s, mR⟩ := (due_iff h p (List.mem_range.mpr (List.getElem?_eq_some_iff.mp h1).1) (List.mem_range.mpr (List.getElem?_eq_some_iff.mp h2).1) l h1 h2).mp md
      exact ⟨c3 (b, f, s), p.mem_iff.mpr (List.mem_map.mpr ⟨_, mR, rfl⟩), rfl⟩
/-- sorted by all three, no cell twice: sorted by cells -/
theorem pairs_lt {R : List T3} (nd : (R.map fun e => (e.1, e.2.1)).Nodup) {ts : List I3} (p : ts.Perm (R.map c3)) (so : ts.Pairwise fun x y => ¬ ltP2 (pr3 y) (pr3 x)) : (ts.map pr3).Pairwise ltP2 := by
  have nd2 : (ts.map pr3).Nodup := by
    rw [(p.map pr3).nodup_iff, List.map_map, show pr3 ∘ c3 = ci ∘ (fun e : T3 => (e.1, e.2.1)) from rfl, ← List.map_map]
    refine List.Pairwise.map _ ?_ nd
    rintro ⟨a, b⟩ ⟨a', b'⟩ ne e
    unfold ci at e
    injection e with e1 e2
    have e1 : (a : Int) = (a' : Int) := e1
    have e2 : (b : Int) = (b' : Int) := e2
    exact ne (by rw [Int.ofNat.inj e1, Int.ofNat.inj e2])
  have so2 : (ts.map pr3).Pairwise fun x y => ¬ ltP2 y x := List.pairwise_map.mpr so
  refine (List.Pairwise.and nd2 so2).imp ?_
  rintro ⟨a, b⟩ ⟨a', b'⟩ ⟨ne, n⟩
  unfold ltP2 at n ⊢
  have n' : ¬ (a' < a ∨ a' = a ∧ b' < b) := n
  show a < a' ∨ a = a' ∧ b < b'
  rcases Int.lt_trichotomy a a' with z | z | z
  · exact .inl z
  · subst z
    rcases Int.lt_trichotomy b b' with z | z | z
    · exact .inr ⟨rfl, z⟩
    · subst z; exact absurd rfl ne
    · exact absurd (.inr ⟨rfl, z⟩) n'
  · exact absurd (.inl z) n'
end HopH

set_option Elab.async false
set_option linter.all false
set_option maxRecDepth 100000
namespace HopR
open PySem PySem.Spec PyProof.Rows L2
/-! ### repr of a list that holds own objects beside data -/
section
variable {X : Cx}
/-- what repr tells of an item of the list at L, n defs deep, now and later -/
def Itm (X : Cx) (n : Nat) (L : Addr) (H : Hp) (x : V) (t : Str) : Prop :=
  ∀ (pins : List (Addr × Obj)) (σ : L2.St) (H1 : Hp) (s : Shared) (u : Value) (base : Nat) (A : Around) (g : List Code) (Q : Str → Shared → Prop), Same H H1 → Inv X pins σ H1 s → RelV x u → base + t.length ≤ sizeLine →
    Room n A → A.frames = X.A.frames → A.guards = some g → (∀ b, b ≠ L → Clear g b) → (∀ s' H2, Inv X pins σ H2 s' → Same H1 H2 → Q t s') → wpAny (model X.prog X.w) A (pyReprUnder base u) Q X.xe s
theorem vals_has {p : Addr} : ∀ {xs : List V} {us : List Value}, Vals xs us → V.ref p ∈ xs → Value.ref p ∈ us
  | _, _, .cons (a := x) (b := y) r t, h => by
    rcases List.mem_cons.mp h with e | h
    · rw [← e] at r
      cases (show y = Value.ref p from r)
      exact List.mem_cons_self ..
    · exact List.mem_cons_of_mem _ (vals_has t h)
theorem all_read {h : Heap} {v : Value} : ∀ {us : List Value} {ds : List PyData} {as : List Addr}, ReadsAll h us ds as → v ∈ us → ∃ d as', Reads h v d as'
  | _, _, _, .cons r t, hm => by
    rcases List.mem_cons.mp hm with e | hm
    · rw [e]
      exact ⟨_, _, r⟩
    · exact all_read t hm
/-- an own object is no datum -/
theorem no_datum {pins : List (Addr × Obj)} {σ : L2.St} {H : Hp} {s : Shared} {p C dx : Addr} {fs : List (Str × V)} (I : Inv X pins σ H s) (hp : H p = some (.ins C dx fs)) {d : PyData} {as : List Addr} : ¬ Reads s.heap (.ref p) d as := by
  obtain ⟨_, J, _⟩ := ins_get I.hok hp
  obtain ⟨od, J, _⟩ := J.look
  have h1 := J.at_
  have h2 := J.cls
  intro r
  cases r with
  | list a b _ _ =>
    rw [h1] at a
    cases a
    rw [h2] at b
    cases b
  | tuple a b _ _ =>
    rw [h1] at a
    cases a
    rw [h2] at b
    cases b
  | dict a b _ _ _ =>
    rw [h1] at a
    cases a
    rw [h2] at b
    cases b
/-- nor is a list that holds one -/
theorem no_datumL {pins : List (Addr × Obj)} {σ : L2.St} {H : Hp} {s : Shared} {L p C dx : Addr} {xs : List V} {fs : List (Str × V)} (I : Inv X pins σ H s) (hL : H L = some (.lst xs)) (hm : V.ref p ∈ xs) (hp : H p = some (.ins C dx fs)) {d : PyData} {as : List Addr} : ¬ Reads s.heap (.ref L) d as := by
  obtain ⟨its, rv, ⟨o, k, ho, hc, hs, hd⟩, _⟩ := I.list (SqL.of hL)
  have hi := vals_has rv hm
  intro r
  cases r with
  | list a _ c e =>
    rw [ho] at a
    cases a
    rw [hd] at c
    cases c
    obtain ⟨d', as', r'⟩ := all_read e (by simpa using hi)
    exact no_datum I hp r'
  | tuple a b _ _ =>
    rw [ho] at a
    cases a
    rw [hc] at b
    exact absurd (Value.type.inj b) (by decide)
  | dict a b _ _ _ =>
    rw [ho] at a
    cases a
    rw [hc] at b
    exact absurd (Value.type.inj b) (by decide)
theorem itm_data {n : Nat} {L : Addr} {H : Hp} {x : V} {d : PyData} (hd : ∀ H1, Same H H1 → Dp X.K H1 x d) (hs : d.showable = true) (hn : d.hasDict = false) (hdep : d.depth ≤ 64) (hz : d.shown.length ≤ sizeLine)
    (hL : ∀ pins σ H1 s, Same H H1 → Inv X pins σ H1 s → ∀ e as, ¬ Reads s.heap (.ref L) e as) : Itm X n L H x d.shown := by
  intro pins σ H1 s u base A g Q sm I ru hb room fr hg hcl hQ
  obtain ⟨as, rd⟩ := Dp.reads I d x u (hd H1 sm) ru
  obtain ⟨bs, few, tells⟩ := ReprK.of_reads (prog := X.prog) (w := X.w) rd hs (fun e => absurd (hn.symm.trans e) (by decide)) hz
  refine tells base hb A g X.xe s Q hg (fun b hb' => hcl b fun e => ?_) (by have := room.un; omega) (fun _ _ e => e) (fun h' tk hk => hQ _ H1 (I.kept hk) (Same.refl _))
  obtain ⟨d', as', r', _⟩ := few b hb'
  rw [e] at r'
  exact hL _ _ _ _ sm I _ _ r'
/-- a special method found in an own class, called by `last` -/
theorem special_own {M : Model} {A : Around} {E : Value → Shared → Prop} {s : Shared} {K : PySem.W.Frag} {x C f : Addr} {ox : Obj} {od : Option Obj} {name : Str} {last : Value → List Value → Sem Value} {Q : Option Value → Shared → Prop} (kin : K.In s.heap) (J : PySem.W.InstAt s.heap x ox C od)
    (has : PySem.W.findIn K (.ref C) name = some (some (.ref f))) (fn : PySem.W.isFn K (.ref f) = true) (run : wpAny M A (last (.ref f) [.ref x]) (fun v => Q (some v)) E s) : wpAny M A (callSpecialIfBoundBy? last (.ref x) name) Q E s := by
  have tell : wpAny M A (do let v ← last (.ref f) [.ref x]; pure (some v)) Q E s := wpAny_bind (wpAny_mono run (fun _ _ h => wpAny_pure h) fun _ _ h => h)
  have bound := PySem.W.bind_fn (M := M) kin (.ref x) (beq_iff_eq.mp fn)
  unfold callSpecialIfBoundBy? bindSpecialIfBound?
  refine wpAny_holding (wpAny_bind (wpAny_bind (wpAny_bind (J.type.here ((PySem.W.looks_findIn kin has).here (wpAny_bind (wpAny_askSetting (wpAny_ite ?_))))))))
  split
  · exact wpAny_bind (bound.here (wpAny_pure tell))
  · exact wpAny_tryCatch (wpAny_bind (bound.here (wpAny_pure tell)))
theorem itm_own {CX : CXT} {k n : Nat} {L a C dx f : Addr} {H : Hp} {fs : List (Str × V)} {fd : FuncData} {ps : List Str} {sp : Sp} {E : XK} {t : Str} (ha : H a = some (.ins C dx fs)) (rep : PySem.W.findIn X.K (.ref C) "__repr__" = some (some (.ref f))) (fn : PySem.W.isFn X.K (.ref f) = true)
    (F : FnOk X.prog X.w X.K X.mg X.base CX k f fd ps sp) (kn : k ≤ n) (bind : Binds X.K fd ps []) (lets : Passes CX X E) (prom : ∀ H1, Same H H1 → sp [.ref a] H1 (fun v H2 => v = .str t ∧ Same H1 H2) E) : Itm X n L H (.ref a) t := by
  intro pins σ H1 s u base A g Q sm I ru hb room fr hg hcl hQ
  cases (show u = Value.ref a from ru)
  obtain ⟨_, J, _⟩ := ins_get I.hok (sm _ _ ha)
  obtain ⟨od, J, _⟩ := J.look
  have un := room.un
  refine wpAny_pyReprUnder_ref (by omega) ?_
  unfold pyReprObjUnder pyReprObjBy
  refine wpAny_bind (wpAny_cRoomFor (by omega) (wpAny_bind (wpAny_bind (J.type.here ((PySem.W.looks_findIn I.kIn rep).here ?_)))))
  show wpAny _ _ (if (some (Value.ref f)).isNone = true then _ else _) _ _ _
  rw [if_neg (by simp)]
  refine wpAny_bind (special_own I.kIn J rep fn (thn (call_at F (room.mono kn) fr bind lets I (us := [.ref a]) (vs := [.ref a]) (.cons rfl .nil) (prom H1 sm)) ?_))
  rintro v s' ⟨z, H', I', rz, rfl, sm'⟩
  obtain ⟨tk, rfl⟩ := rz
  exact wpAny_bind (wpAny_isInstance (T := "str") (b := true) rfl isSubtype_str_str (wpAny_pure ⟨_, _, rfl, hQ s' H' I' sm'⟩))
theorem vals_at : ∀ {xs : List V} {us : List Value}, Vals xs us → ∀ (i : Nat) x u, xs[i]? = some x → us[i]? = some u → RelV x u
  | _, _, .cons r t, 0, x, u, h1, h2 => by
    cases h1
    cases h2
    exact r
  | _, _, .cons r t, i + 1, x, u, h1, h2 => vals_at t i x u h1 h2
theorem texts_of : ∀ {ts : List Str} {us : List Value}, Vals (ts.map V.str) us → ∃ l : List (Str × Tok), us = strValues l ∧ l.map (·.1) = ts
  | [], _, h => by
    cases h
    exact ⟨[], rfl, rfl⟩
  | t :: ts, _, h => by
    cases h with
    | cons r h =>
      obtain ⟨k, rfl⟩ := r
      obtain ⟨l, rfl, e⟩ := texts_of h
      exact ⟨(t, k) :: l, rfl, by rw [List.map_cons, e]⟩
theorem room_loop {k : Nat} {A : Around} (r : Room (k + 1) A) (args : Args) : Room k (A.under (.builtin "list.__repr__.loop" args)) :=
  ⟨r.hd, by
    have := r.dp
    have e : (A.under (.builtin "list.__repr__.loop" args)).depth ≤ A.depth + 1 := by
      first | exact Nat.le_refl _ | (simp [Around.under, Code.weight, Code.isCreation, Code.isGuard, Code.isCaller, Code.frames, Code.isFrame, guardIds])
    omega, by
    have := r.un
    rw [units_under_list_loop]
    omega⟩
theorem frames_loop {A : Around} (args : Args) : (A.under (.builtin "list.__repr__.loop" args)).frames = A.frames := by
  first | rfl | simp [Around.under, Code.envs, Code.isFrame, pushEnvs]
/-- all turns of the list's repr, the texts so far at P -/
theorem turns {A : Around} {n : Nat} {L P : Addr} {H : Hp} {xs : List V} {ts : List Str} {R : Result → Shared → Prop} (hg : A.guards = some []) (room : Room (n + 1) A) (fr : A.frames = X.A.frames) (hP : H P = none) (hL : H L = some (.lst xs)) (len : ts.length = xs.length)
    (tell : ∀ (i : Nat) x t, xs[i]? = some x → ts[i]? = some t → Itm X n L H x t) (fits : (listText ts).length ≤ sizeLine) (bad : ∀ e s', X.xe e s' → R (.error e) s') {pins : List (Addr × Obj)} {σ : L2.St}
    (good : ∀ s' H2 u, Inv X pins σ H2 s' → Same H H2 → R (.ok (.ret (.str (listText ts) u))) s') :
    ∀ (k i : Nat) (H1 : Hp) (s : Shared), xs.length - i = k → i ≤ xs.length → Inv X pins σ H1 s → Same H H1 → H1 P = some (.lst ((ts.take i).map V.str)) →
      codeAny (model X.prog X.w) A (.builtin "list.__repr__.loop" ⟨[.ref L, rawInt i, .ref P, rawInt ((piled (ts.take i) : Nat) : Int)], []⟩) R s := by
  have few := textFrom_len ts 0 "["
  have whole : (listText ts).length = (textFrom 0 "[" ts).length + 1 := by
    show (textFrom 0 "[" ts ++ "]").length = _
    rw [strLen_append]
    rfl
  intro k
  induction k with
  | zero =>
    intro i H1 s hk hi I sm eP
    obtain ⟨its, rv, ⟨o, m, ho, _, _, hd⟩, _⟩ := I.list (SqL.of (sm _ _ hL))
    obtain ⟨its2, rv2, ⟨o2, m2, ho2, _, _, hd2⟩, _⟩ := I.list (SqL.of eP)
    obtain ⟨l, el, e1⟩ := texts_of rv2
    have none_ : its.toArray[i]? = none := by
      have := rv.length
      simp
      omega
    rw [List.take_of_length_le (by omega)] at e1
    refine codeAny_builtin F.entry_list_repr_loop ?_
    show wpAny _ _ (Builtin.«list.__repr__.loop» ⟨[.ref L, .int i 0, .ref P, .int ((piled (ts.take i) : Nat) : Int) 0], []⟩) _ _ s
    rw [repr_loop_tree]
    refine wpAny_bind (wpAny_listItems ho hd ?_)
    rw [Int.toNat_natCast]
    simp only [none_]
    unfold reprEnd
    refine wpAny_bind (wpAny_listItems ho2 hd2 ?_)
    rw [show its2.toArray.toList = strValues l from el, repr_fold, e1]
    exact wpAny_bind (wpAny_pure (wpAny_bind (wpAny_mkStr (wpAny_pure (good _ H1 _ (I.tok _) sm)) fits)))
  | succ k ih =>
    intro i H1 s hk hi I sm eP
    have hlt : i < xs.length := by omega
    obtain ⟨its, rv, ⟨o, m, ho, _, _, hd⟩, _⟩ := I.list (SqL.of (sm _ _ hL))
    have hli := rv.length
    obtain ⟨t, ht⟩ : ∃ t, ts[i]? = some t := ⟨ts[i]'(by omega), List.getElem?_eq_getElem _⟩
    obtain ⟨x, hx⟩ : ∃ x, xs[i]? = some x := ⟨xs[i], List.getElem?_eq_getElem hlt⟩
    have here : its.toArray[i]? = some (its[i]'(by omega)) := by simp
    have rel : RelV x (its[i]'(by omega)) := vals_at rv i _ _ hx (List.getElem?_eq_getElem _)
    have p1 := piled_take_succ ht
    have p2 := piled_take_le ts (i + 1)
    have p3 := piled_le_listText ts
    refine codeAny_builtin F.entry_list_repr_loop ?_
    show wpAny _ _ (Builtin.«list.__repr__.loop» ⟨[.ref L, .int i 0, .ref P, .int ((piled (ts.take i) : Nat) : Int) 0], []⟩) _ _ s
    rw [repr_loop_tree]
    refine wpAny_bind (wpAny_listItems ho hd ?_)
    rw [Int.toNat_natCast]
    simp only [here]
    rw [Int.toNat_natCast]
    refine wpAny_bind (wpAny_holding (wpAny_mono (tell i x t hx ht pins σ H1 s _ (piled (ts.take i) + 1) _ _ _ sm I rel (by omega) (room_loop room _) ((frames_loop _).trans fr) (guards_under_guard (isGuard_list_loop _) hg) (fun b hb => (Clear.nil b).cons (a := L) fun e => hb e.symm) ?_) (fun _ _ h => h) bad))
    intro s' H2 I2 sm2
    refine wpAny_bind (wpAny_mkStr ?_ (Nat.le_trans (few.2.1 t (List.mem_of_getElem? ht)) (by omega)))
    refine wpAny_bind ?_
    show wpAny _ _ (updateSeq P _) _ _ _
    have eP2 := sm2 _ _ eP
    obtain ⟨hz2, its2, n2, rv2, e2⟩ := (show ObjOk X.prog X.w H2 s'.heap P (.lst ((ts.take i).map V.str)) from I2.hok P _ eP2)
    have hl2 := rv2.length
    have hl3 : ((ts.take i).map V.str).length = i := by
      rw [List.length_map, List.length_take]
      omega
    have few1 := few.1
    rw [if_neg (Nat.lt_irrefl 0)] at few1
    refine wpAny_updateSeq e2 rfl (wpAny_pure ⟨F.quiet_list_repr_loop _, ?_⟩) (by rw [List.size_toArray]; omega) (by rw [Array.size_push, List.size_toArray]; omega)
    have i1 : ((i : Int) + 1) = ((i + 1 : Nat) : Int) := by omega
    have i2 : piled (ts.take i) + (t.length + 2) = piled (ts.take (i + 1)) := by omega
    rw [i1, i2]
    have et : (ts.take (i + 1)).map V.str = (ts.take i).map V.str ++ [V.str t] := by
      rw [List.take_add_one, ht, List.map_append]
      rfl
    refine ih (i + 1) (upd H2 P (.lst ((ts.take (i + 1)).map V.str))) _ (by omega) hlt (I2.write (e := P) (by rw [eP2]; trivial) (.inl rfl) (fun b u hb q => (Heap.get?_update_other _ _ (Ne.symm hb)).trans q) ⟨_, Heap.get?_update_self _ e2 rfl⟩ ⟨?_, its2 ++ [.str t s'.toks], n2 + 1, ?_, ?_⟩) (same_new hP (sm.trans sm2)) upd_same
    · rw [et, List.length_append, hl3]
      show i + 1 ≤ sizeLine
      omega
    · rw [et]
      exact rv2.append (.cons ⟨_, rfl⟩ .nil)
    · refine (Heap.get?_update_self _ e2 rfl).trans ?_
      simp [Obj.mapSeq]
/-- repr(xs), xs no empty list, of data and of own objects -/
def rReprL (X : Cx) (n : Nat) : List V → Hp → VK → Prop := fun vs H Q => ∃ (L : Addr) (x : V) (xs : List V) (ts : List Str), vs = [.ref L] ∧ H L = some (.lst (x :: xs)) ∧ ts.length = (x :: xs).length ∧ (∀ (i : Nat) y t, (x :: xs)[i]? = some y → ts[i]? = some t → Itm X n L H y t) ∧
  (listText ts).length ≤ sizeLine ∧ ∀ H', Same H H' → Q (.str (listText ts)) H'
theorem cr_reprL {n : Nat} (hG : X.A.guards = some []) (room : Room (n + 3) X.A) : CallR X (.builtin "repr") (rReprL X n) := by
  rintro pins s σ H _ us Q I r ⟨L, x, xs, ts, rfl, hL, len, tell, fits, q⟩
  obtain ⟨u, rfl, rv⟩ := vals1 r
  cases (show u = Value.ref L from rv)
  obtain ⟨its, rv2, ⟨o, m, ho, hc, _, hd⟩, _⟩ := I.list (SqL.of hL)
  have un := room.un
  have type : s.TypeIs (.ref L) "list" := ⟨o, ho, hc⟩
  have nP : H s.heap.objs.size = none := I.hok.fresh (Nat.le_refl _)
  cases rv2 with
  | cons r1 r2 =>
    refine call_repr_slot (by omega) type F.slot_list_repr.toG ?_
    refine wpAny_call (codeAny_call_builtin F.slot_list_repr.plain F.entry_list_repr (F.slot_list_repr.check _ _ _ _ _ _ _ _ type (F.args_list_repr_1 _) ?_))
    refine wpAny_list_repr_head (A := X.A.in1.in1) hG (fun _ _ _ h => nomatch h) ho hd ?_
    refine wpAny_bind (m := newList []) (wpAny_newObj_type (wpAny_pure ⟨F.quiet_list_repr_loop _, ?_⟩))
    refine turns (A := X.A.in1) (n := n) hG (Room.mono (k := n + 2) (j := n + 1) room.in1 (Nat.le_succ _)) rfl nP hL len tell fits ?bad (pins := pins) (σ := σ) ?good _ 0 (upd H s.heap.objs.size (.lst [])) _ rfl (Nat.zero_le _) (I.laid (t' := s.toks) (fun b o e => Heap.get?_push_of_some _ e) (Nat.le_refl _) ⟨Nat.zero_le _, [], 0, .nil, Heap.get?_push_size _ rfl⟩) (same_upd nP) upd_same
    case bad => exact fun e s' h => h
    case good => exact fun s' H2 u I2 sm => ⟨_, _, rfl, .str _, H2, I2, ⟨_, rfl⟩, q H2 sm⟩
end
end HopR

set_option Elab.async false
set_option linter.all false
set_option maxRecDepth 100000
namespace HopR
open PySem PySem.Spec PyProof.Rows L2
/-! ### == and != by an own __eq__ of a class of the text, whose own names hold no __ne__ -/
structure EqC (K : PySem.W.Frag) (C f : Addr) : Prop where
  eq : PySem.W.findIn K (.ref C) "__eq__" = some (some (.ref f))
  fn : PySem.W.isFn K (.ref f) = true
  own : ∃ nm q N bs hd sn sub ab col dd k0 k1 k2 k3 k5 nw, K.lookup C = some (excClassObj nm q C N bs [.type "object"] hd sn sub ab col dd k0 k1 k2 k3 k5 nw) ∧ PySem.W.nsOkIn K N = true ∧ PySem.W.nsIn K N "__eq__" = some (some (.ref f)) ∧ PySem.W.nsIn K N "__ne__" = some none
theorem name_here {K : PySem.W.Frag} {h : Heap} {N : Addr} {mg : Str → Option Value} {x : Str} {v : Value} (kin : K.In h) (names : h.Ns N mg) (e : PySem.W.nsIn K N x = some (some v)) : mg x = some v := by
  rcases names with ⟨o, es, ep, at_, data, -, find⟩
  rw [← find]
  revert e
  unfold PySem.W.nsIn
  cases look : K.lookup N with
  | none => exact fun e => nomatch e
  | some ob =>
    obtain rfl : ob = o := Option.some.inj ((kin _ _ look).symm.trans at_)
    obtain ⟨cls, dict, dat, slots⟩ := ob
    obtain rfl : dat = .dict es ep := data
    intro e
    unfold nsFind findBy
    rw [← Array.find?_toList]
    cases hit : es.toList.find? (·.key.isStr x) with
    | none =>
      simp only [hit] at e
      split at e <;> cases e
    | some en =>
      simp only [hit] at e
      cases e
      rfl
theorem fn_here {K : PySem.W.Frag} {h : Heap} {f : Addr} (kin : K.In h) (fn : PySem.W.isFn K (.ref f) = true) : ∃ o, h.get? f = some o ∧ o.cls = .type "function" := by
  have e : (K.lookup f).map (·.cls) = some (Value.type "function") := beq_iff_eq.mp fn
  obtain ⟨o, look, cls⟩ := Option.map_eq_some_iff.mp e
  exact ⟨o, kin _ _ look, cls⟩
theorem EqC.here {K : PySem.W.Frag} {h : Heap} {C f a : Addr} {o : Obj} (c : EqC K C f) (kin : K.In h) (at_ : h.get? a = some o) (cls : o.cls = .ref C) : h.OwnEqNoNe a C f "object" [.type "object"] := by
  obtain ⟨nm, q, N, bs, hd, sn, sub, ab, col, dd, k0, k1, k2, k3, k5, nw, look, ok, heq, hne⟩ := c.own
  obtain ⟨of, hf, hc⟩ := fn_here kin c.fn
  have names : h.Ns N (h.nsMap N) := .of_isNs (PySem.W.isNs_of_in kin ok)
  exact ⟨o, of, nm, q, N, bs, hd, sn, sub, ab, col, dd, k0, k1, k2, k3, k5, nw, h.nsMap N, _, at_, cls, kin _ _ look, names, name_here kin names heq, hf, hc, PySem.F.cmp_object.mro, PySem.F.cmp_object.eq.lookup, PySem.W.nsMap_none_of_in kin ok hne⟩
section
variable {X : Cx} {CX : CXT} {n : Nat} {C f : Addr} {fd : FuncData} {ps : List Str} {sp : Sp} {E : XK}
/-- two instances of the class; what its __eq__ promises of them, a truth -/
def rOwn (C : Addr) (sp : Sp) (E : XK) (neg : Bool) : R2 := fun x y H Q => ∃ a b dx dy fs gs, x = .ref a ∧ y = .ref b ∧ H a = some (.ins C dx fs) ∧ H b = some (.ins C dy gs) ∧ sp [.ref a, .ref b] H (fun v H' => ∃ k : Bool, v = .bl k ∧ Q (.bl (k ^^ neg)) H') E
theorem two_refs {a b : Addr} : Vals [V.ref a, V.ref b] [Value.ref a, Value.ref b] := .cons rfl (.cons rfl .nil)
theorem op_eqOwn (c : EqC X.K C f) (F : FnOk X.prog X.w X.K X.mg X.base CX n f fd ps sp) (room : Room n X.A) (bind : Binds X.K fd ps []) (lets : Passes CX X E) : OpR X (compareOp .Eq) (rOwn C sp E false) := by
  rintro pins s σ H _ _ v u Q I rx ry ⟨a, b, dx, dy, fs, gs, rfl, rfl, ha, hb, prom⟩
  cases rx; cases ry
  obtain ⟨_, J, _⟩ := ins_get I.hok ha
  obtain ⟨_, J', _⟩ := ins_get I.hok hb
  obtain ⟨_, J, _⟩ := J.look
  obtain ⟨_, J', _⟩ := J'.look
  obtain ⟨m, F0⟩ := I.fr
  refine PySem.W.cmp_K (op := .Eq) (tb := .ref C) room.units0 F0 I.ok.mod.kin J J'.type (by simp [PySem.W.notFirst]) c.eq c.fn (thn (call_at F room rfl bind lets I two_refs prom) ?_)
  rintro w s' ⟨z, H', I', rz, k, rfl, q⟩
  cases rz
  refine ⟨.bl k, H', I', rfl, ?_⟩
  rw [Bool.xor_false] at q
  exact q
theorem op_neOwn (c : EqC X.K C f) (F : FnOk X.prog X.w X.K X.mg X.base CX n f fd ps sp) (room : Room (n + 1) X.A) (bind : Binds X.K fd ps []) (lets : Passes CX X E) : OpR X (compareOp .NotEq) (rOwn C sp E true) := by
  rintro pins ⟨hp, g, d, t, os⟩ σ H _ _ v u Q I rx ry ⟨a, b, dx, dy, fs, gs, rfl, rfl, ha, hb, prom⟩
  cases rx; cases ry
  obtain ⟨_, J, _⟩ := ins_get I.hok ha
  obtain ⟨_, J', _⟩ := ins_get I.hok hb
  obtain ⟨_, J, _⟩ := J.look
  obtain ⟨_, J', _⟩ := J'.look
  have un := room.un
  refine compareOp_ne_ownEq PySem.F.cmp_object (c.here I.kIn J.at_ J.cls) J'.at_ J'.cls (by omega) (thn (call_at (A := X.A.in1) F room.in1 rfl bind lets I two_refs prom) ?_)
  rintro w s' ⟨z, H', I', rz, k, rfl, q⟩
  cases rz
  refine ⟨k, rfl, .bl (!k), H', I', rfl, ?_⟩
  rw [Bool.xor_true] at q
  exact q
end
end HopR

set_option Elab.async false
set_option linter.all false
set_option maxRecDepth 100000
namespace HopR
open PySem PySem.Spec PyProof.Rows L2
/-! ### {o!r} in an f-string, o of an own class -/
section
variable {X : Cx} {CX : CXT} {n : Nat} {C f : Addr} {fd : FuncData} {ps : List Str} {sp : Sp} {E : XK} {e : Expr} {te : TE} {pos : Pos}
def tFmtO (C : Addr) (sp : Sp) (E : XK) (te : TE) : TE := fun σ H Q => te σ H fun x H1 => ∃ a dx fs, x = .ref a ∧ H1 a = some (.ins C dx fs) ∧ sp [.ref a] H1 (fun v H' => ∃ z : Str, v = .str z ∧ z.length ≤ sizeLine ∧ Q (.str z) H') E
theorem pe_fmtO (rep : PySem.W.findIn X.K (.ref C) "__repr__" = some (some (.ref f))) (fn : PySem.W.isFn X.K (.ref f) = true) (F : FnOk X.prog X.w X.K X.mg X.base CX n f fd ps sp) (room : Room (n + 1) X.A) (bind : Binds X.K fd ps []) (lets : Passes CX X E) (he : PE X e te) :
    PE X (.FormattedValue e 114 none pos) (tFmtO C sp E te) := by
  constructor
  intro pins s σ H Q I h
  refine wpAny_FormattedValue_repr (thn (he.run pins s σ H _ I h) ?_)
  rintro u s1 ⟨_, H1, I1, ru, a, dx, fs, rfl, ha, prom⟩
  cases (show u = Value.ref a from ru)
  obtain ⟨_, J, _⟩ := ins_get I1.hok ha
  obtain ⟨od, J, _⟩ := J.look
  have un := room.un
  rw [pyReprObj_eq_pyReprObjBy]
  unfold pyReprObjBy
  refine wpAny_bind (wpAny_cRoomFor (by omega) (wpAny_bind (wpAny_bind (J.type.here ((PySem.W.looks_findIn I1.kIn rep).here ?_)))))
  show wpAny _ _ (if (some (Value.ref f)).isNone = true then _ else _) _ _ _
  rw [if_neg (by simp)]
  refine wpAny_bind (special_own I1.kIn J rep fn (thn (call_at F (room.mono (Nat.le_succ n)) rfl bind lets I1 (us := [.ref a]) (vs := [.ref a]) (.cons rfl .nil) prom) ?_))
  rintro v s' ⟨_, H', I', rz, z, rfl, hz, q⟩
  obtain ⟨tk, rfl⟩ := rz
  refine wpAny_bind (wpAny_isInstance (T := "str") (b := true) rfl isSubtype_str_str (wpAny_pure ?_))
  exact wpAny_formatField_str ⟨.str z, H', I', ⟨_, rfl⟩, q⟩ ⟨.str z, H', I'.tok _, ⟨_, rfl⟩, q⟩ hz
/-- o == p by the class's own __eq__, told by its two facts alone -/
theorem op_eqTwo (eq : PySem.W.findIn X.K (.ref C) "__eq__" = some (some (.ref f))) (fn : PySem.W.isFn X.K (.ref f) = true) (F : FnOk X.prog X.w X.K X.mg X.base CX n f fd ps sp) (room : Room n X.A) (bind : Binds X.K fd ps []) (lets : Passes CX X E) : OpR X (compareOp .Eq) (rOwn C sp E false) := by
  rintro pins s σ H _ _ v u Q I rx ry ⟨a, b, dx, dy, fs, gs, rfl, rfl, ha, hb, prom⟩
  cases rx; cases ry
  obtain ⟨_, J, _⟩ := ins_get I.hok ha
  obtain ⟨_, J', _⟩ := ins_get I.hok hb
  obtain ⟨_, J, _⟩ := J.look
  obtain ⟨_, J', _⟩ := J'.look
  obtain ⟨m, F0⟩ := I.fr
  refine PySem.W.cmp_K (op := .Eq) (tb := .ref C) room.units0 F0 I.ok.mod.kin J J'.type (by simp [PySem.W.notFirst]) eq fn (thn (call_at F room rfl bind lets I two_refs prom) ?_)
  rintro w s' ⟨z, H', I', rz, k, rfl, q⟩
  cases rz
  rw [Bool.xor_false] at q
  exact ⟨.bl k, H', I', rfl, q⟩
end
/-! ### lists of new tuples -/
def TupH {α : Type} (H : Hp) (f : α → List V) : List α → List V → Prop
  | [], vs => vs = []
  | a :: r, vs => ∃ p vr, vs = .ref p :: vr ∧ H p = some (.tup (f a)) ∧ TupH H f r vr
section
variable {α : Type} {H H' : Hp} {f : α → List V}
theorem tupH_same (s : Same H H') : ∀ {as : List α} {vs : List V}, TupH H f as vs → TupH H' f as vs
  | [], _, h => h
  | _ :: _, _, ⟨p, vr, e, h1, h2⟩ => ⟨p, vr, e, s _ _ h1, tupH_same s h2⟩
theorem tupH_upd {D : Addr} {xs : List V} {o : HO} (hD : H D = some (.lst xs)) : ∀ {as : List α} {vs : List V}, TupH H f as vs → TupH (upd H D o) f as vs
  | [], _, h => h
  | _ :: _, _, ⟨p, vr, e, h1, h2⟩ => ⟨p, vr, e, by
      rw [upd_ne (fun z => by rw [z, hD] at h1; cases h1)]
      exact h1, tupH_upd hD h2⟩
theorem tupH_add {a : α} {p : Addr} (h1 : H p = some (.tup (f a))) : ∀ {as : List α} {vs : List V}, TupH H f as vs → TupH H f (as ++ [a]) (vs ++ [.ref p])
  | [], _, h => by
    cases h
    exact ⟨p, [], rfl, h1, rfl⟩
  | _ :: _, _, ⟨p', vr, e, h2, h3⟩ => ⟨p', vr ++ [.ref p], by rw [e]; rfl, h2, tupH_add h1 h3⟩
theorem tupH_len : ∀ {as : List α} {vs : List V}, TupH H f as vs → vs.length = as.length
  | [], _, h => by
    cases h
    rfl
  | _ :: _, _, ⟨_, vr, e, _, h2⟩ => by rw [e, List.length_cons, List.length_cons, tupH_len h2]
theorem tupH_at : ∀ {as : List α} {vs : List V} {k : Nat} {a : α}, TupH H f as vs → as[k]? = some a → ∃ p, vs[k]? = some (.ref p) ∧ H p = some (.tup (f a))
  | [], _, k, a, h, e => by simp at e
  | b :: r, _, 0, a, ⟨p, vr, ev, h1, h2⟩, e => by
    have : b = a := Option.some.inj e
    subst this
    exact ⟨p, by rw [ev]; rfl, h1⟩
  | b :: r, _, k + 1, a, ⟨p, vr, ev, h1, h2⟩, e => by
    obtain ⟨p', e1, e2⟩ := tupH_at (k := k) h2 e
    exact ⟨p', by rw [ev]; exact e1, e2⟩
end
end HopR

set_option Elab.async false
set_option linter.all false
set_option maxRecDepth 100000
namespace HopT
open PySem PySem.Spec PyProof.Rows L2
/-! ### sorted(tuples of ints, of any lengths but nought): the same tuples in some order -/
section
variable {prog : Program} {w : World} {A : Around} {E : Value → Shared → Prop} {s : Shared}
def Whole (u : Value) : Prop := ∃ (x : Int) (t : Tok), u = .int x t
def Begun (h : Heap) (v : Value) : Prop := ∃ a o f us n, v = .ref a ∧ h.get? a = some o ∧ o.cls = .type "tuple" ∧ o.data = .seq (f :: us).toArray n ∧ ∀ u ∈ f :: us, Whole u
/-- two rows of ints are always told apart or alike -/
theorem apart {b z : Bool} : ∀ (l : List (Value × Value)) (i : Nat), (∀ p ∈ l, Whole p.1 ∧ Whole p.2) → ∃ c : Bool, ∀ Q : Bool → Shared → Prop, Q c s → PySem.W.KatLex prog w A b z Q l i s
  | [], _, _ => ⟨z, fun _ q => PySem.W.kat_nil q⟩
  | (_, _) :: l, i, hl => by
    obtain ⟨⟨x, t, rfl⟩, ⟨y, u, rfl⟩⟩ := hl _ (List.mem_cons_self ..)
    obtain ⟨c, hc⟩ := apart l (i + 1) (fun p m => hl p (List.mem_cons_of_mem _ m))
    by_cases same : x = y
    · exact ⟨c, fun Q q => PySem.W.kat_cons (SeqAt.EqAt.int_int x t y u prog w _ _ (PySem.W.kat_go (fun _ => PySem.W.kat_yes (hc Q q)) (fun no => by simp [same] at no)))⟩
    · exact ⟨decide (x < y), fun Q q => PySem.W.kat_cons (SeqAt.EqAt.int_int x t y u prog w _ _ (PySem.W.kat_go (fun yes => absurd (by simpa using yes) same) (fun _ => PySem.W.kat_no (TS.oneLt_ints _ q))))⟩
theorem heads {h : Heap} : ∀ vs : List Value, (∀ v ∈ vs, Begun h v) → ∃ fs : List Value, PySem.W.KatTups h vs fs ∧ fs.length = vs.length ∧ ∀ f ∈ fs, Whole f
  | [], _ => ⟨[], .nil, rfl, by simp⟩
  | v :: vs, hv => by
    obtain ⟨fs, k, l, z⟩ := heads vs (fun u m => hv u (List.mem_cons_of_mem _ m))
    obtain ⟨a, o, f, us, n, rfl, g, c, d, i⟩ := hv v (List.mem_cons_self ..)
    refine ⟨f :: fs, .cons g c d (by simp) k, by simp [l], ?_⟩
    intro x m
    cases m with
    | head => exact i f (List.mem_cons_self ..)
    | tail _ m => exact z x m
theorem can_sort {a : Addr} {vs : List Value} (some' : vs ≠ []) (hv : ∀ v ∈ vs, Begun s.heap v) (na : ∀ o, s.heap.get? a = some o → o.cls ≠ .type "tuple") : Srt.Sortable prog w A s a vs := fun h' keep => by
  have hv' : ∀ v ∈ vs, Begun h' v := fun v m => by
    obtain ⟨b, o, f, us, n, e, g, c, r⟩ := hv v m
    exact ⟨b, o, f, us, n, e, keep b o (by rintro rfl; exact na o g c) g, c, r⟩
  obtain ⟨fs, k, l, z⟩ := heads vs hv'
  have p : 0 < fs.length := by rw [l]; exact List.length_pos_iff.mpr some'
  have nt : (Value.type "int" != Value.type "tuple") = true := by first | decide +kernel | rfl
  refine ⟨tuples' true, fun Q E q => PySem.W.kat_kind (T := .type "int") k p (fun f m => ?_) rfl (nt ▸ q), fun x y hx hy => ?_⟩
  · obtain ⟨i, t, rfl⟩ := z f m
    exact .now
  · obtain ⟨a1, o1, f1, us1, n1, e1, g1, c1, d1, i1⟩ := hv' _ hx
    obtain ⟨a2, o2, f2, us2, n2, e2, g2, c2, d2, i2⟩ := hv' _ hy
    obtain ⟨c, hc⟩ := apart (prog := prog) (w := w) (A := A) (s := { s with heap := h' }) (b := true) (z := decide ((f1 :: us1).toArray.size < (f2 :: us2).toArray.size)) ((f1 :: us1).zip (f2 :: us2)) 0 (fun p m => ⟨i1 _ (List.of_mem_zip m).1, i2 _ (List.of_mem_zip m).2⟩)
    rw [e1, e2]
    exact ⟨c, PySem.W.kat_lt g1 d1 g2 d2 (hc _ ⟨rfl, rfl⟩)⟩
end
def rSortedZ (K : PySem.W.Frag) : List V → Hp → VK → Prop := fun vs H Q => ∃ (a : Addr) (ts : List Addr), vs = [.ref a] ∧ SqL K H a (ts.map V.ref) ∧ (∀ t ∈ ts, ∃ (n : Int) (ns : List Int), H t = some (.tup ((n :: ns).map V.int))) ∧
  ∀ (ys : List Addr) p, ys.Perm ts → H p = none → Q (.ref p) (upd H p (.lst (ys.map V.ref)))
theorem refs_are : ∀ {ts : List Addr} {us : List Value}, Vals (ts.map V.ref) us → us = ts.map Value.ref
  | [], _, .nil => rfl
  | _ :: _, _, .cons r t => by cases r; rw [refs_are t]; rfl
theorem are_refs : ∀ ts : List Addr, Vals (ts.map V.ref) (ts.map Value.ref)
  | [] => .nil
  | _ :: ts => .cons rfl (are_refs ts)
theorem perm_refs {out : List Value} {ts : List Addr} (h : out.Perm (ts.map Value.ref)) : ∃ ys : List Addr, out = ys.map Value.ref ∧ ys.Perm ts := by
  let f : Value → Addr := fun v => match v with | .ref a => a | _ => 0
  have e : ∀ l : List Addr, (l.map Value.ref).map f = l := fun l => by induction l with
    | nil => rfl
    | cons x l ih => rw [List.map_cons, List.map_cons, ih]
  refine ⟨out.map f, ?_, by have := h.map f; rwa [e] at this⟩
  rw [List.map_map]
  refine (List.map_id out).symm.trans (List.map_congr_left fun v m => ?_)
  obtain ⟨a, _, rfl⟩ := List.mem_map.mp (h.mem_iff.mp m)
  rfl
theorem cr_sortedZ {X : Cx} : CallR X (.builtin "sorted") (rSortedZ X.K) := by
  rintro pins s σ H vs us Q I r ⟨a, ts, rfl, hs, ht, q⟩
  obtain ⟨its, rv, isl, big⟩ := I.list hs
  obtain rfl := refs_are rv
  rw [Vals.ref1 r]
  have beg : ∀ v ∈ ts.map Value.ref, Begun s.heap v := by
    intro v m
    obtain ⟨t, mt, rfl⟩ := List.mem_map.mp m
    obtain ⟨n, ns, e⟩ := ht t mt
    obtain ⟨_, vs', r', o, g, c, k, d⟩ := I.hok _ _ e
    have wh := SrtO.ints_mem r'.ints
    cases r' with
    | cons r0 rs => exact ⟨t, o, _, _, k, rfl, g, c, d, wh⟩
  refine Srt.sorted_any isl.isList (by simpa using big) (fun two h1 b hb kk => can_sort (by rintro e; rw [e] at two; simp at two) (fun v m => ?_) (fun o g => ?_)) (fun out po => ?_)
  · obtain ⟨t, o, f, us, n, e, g, rest⟩ := beg v m
    exact ⟨t, o, f, us, n, e, (kk _ _ g).2, rest⟩
  · obtain rfl := Option.some.inj (g.symm.trans hb)
    exact fun c => absurd (Value.type.inj c) (by decide)
  · obtain ⟨ys, rfl, py⟩ := perm_refs po
    obtain ⟨k, at'⟩ := sortedAll_at s.heap (ts.map Value.ref) (ys.map Value.ref).toArray
    have len : (ys.map V.ref).length ≤ sizeLine := by rw [List.length_map, py.length_eq]; simpa using big
    exact ⟨.ref _, upd H (s.heap.objs.size + 1) (.lst (ys.map V.ref)), I.laid (t' := s.toks) (fun _ _ => sortedAll_old) (Nat.le_succ _) ⟨len, _, k, are_refs ys, at'⟩, rfl, q ys _ py (I.hok.fresh (Nat.le_succ _))⟩
end HopT

set_option Elab.async false
set_option linter.all false
set_option maxRecDepth 100000
namespace HopT
open PySem PySem.Spec PyProof.Rows L2
/-! ### sorted(tuples of ints and texts, alike in their kinds): in order, however many -/
def ltK : Key → Key → Bool
  | .inl x, .inl y => decide (x < y)
  | .inr s, .inr t => decide (s.cps.toList < t.cps.toList)
  | .inl _, .inr _ => true
  | .inr _, .inl _ => false
def lexK : List Key → List Key → Bool
  | [], [] => false
  | [], _ :: _ => true
  | _ :: _, [] => false
  | a :: l, b :: m => if a = b then lexK l m else ltK a b
theorem str_ext {s t : Str} (h : s.cps.toList = t.cps.toList) : s = t := by
  cases s; cases t
  exact congrArg Str.mk (Array.toList_inj.mp h)
theorem ltK_irr (a : Key) : ltK a a = false := by
  cases a with
  | inl x => exact decide_eq_false (Int.lt_irrefl _)
  | inr s => exact decide_eq_false (List.lt_irrefl _)
theorem ltK_asym (a b : Key) (h : ltK a b = true) : ltK b a = false := by
  cases a <;> cases b
  · exact decide_eq_false (by have := of_decide_eq_true h; omega)
  · rfl
  · cases h
  · exact decide_eq_false (fun z => List.lt_asymm (of_decide_eq_true h) z)
theorem ltK_tri (a b : Key) (h1 : ltK a b = false) (h2 : ltK b a = false) : a = b := by
  cases a <;> cases b
  · have := of_decide_eq_false h1; have := of_decide_eq_false h2; congr 1; omega
  · cases h1
  · cases h2
  · exact congrArg Sum.inr (str_ext (List.le_antisymm (of_decide_eq_false h2) (of_decide_eq_false h1)))
theorem ltK_tr (a b c : Key) (h1 : ltK b a = false) (h2 : ltK c b = false) : ltK c a = false := by
  cases a <;> cases b <;> cases c <;> first | cases h1; done | cases h2; done | rfl | skip
  · exact decide_eq_false (by have := of_decide_eq_false h1; have := of_decide_eq_false h2; omega)
  · exact decide_eq_false (List.le_trans (of_decide_eq_false h1) (of_decide_eq_false h2))
theorem lexK_asym : ∀ l m : List Key, lexK l m = true → lexK m l = false
  | [], [], h => by cases h
  | [], _ :: _, _ => rfl
  | _ :: _, [], h => by cases h
  | a :: l, b :: m, h => by
    unfold lexK at h ⊢
    by_cases e : a = b
    · rw [if_pos e] at h; rw [if_pos e.symm]; exact lexK_asym l m h
    · rw [if_neg e] at h; rw [if_neg (Ne.symm e)]; exact ltK_asym _ _ h
theorem lexK_tr : ∀ l m k : List Key, lexK m l = false → lexK k m = false → lexK k l = false
  | [], [], k, _, h => h
  | [], _ :: _, [], _, h => by cases h
  | [], _ :: _, _ :: _, _, _ => rfl
  | _ :: _, [], _, h, _ => by cases h
  | _ :: _, _ :: _, [], _, h => by cases h
  | a :: l, b :: m, c :: k, h1, h2 => by
    unfold lexK at h1 h2 ⊢
    by_cases e1 : b = a
    · subst e1
      rw [if_pos rfl] at h1
      by_cases e2 : c = b
      · rw [if_pos e2] at h2 ⊢; exact lexK_tr l m k h1 h2
      · rw [if_neg e2] at h2 ⊢; exact h2
    · rw [if_neg e1] at h1
      by_cases e2 : c = b
      · subst e2; rw [if_neg e1]; exact h1
      · rw [if_neg e2] at h2
        have h3 := ltK_tr _ _ _ h1 h2
        by_cases e3 : c = a
        · subst e3
          exact absurd (ltK_tri _ _ h2 h1) (fun z => e2 z)
        · rw [if_neg e3]; exact h3
theorem swo_lexK {α : Type} (k : α → List Key) : SrtO.Swo fun x y => lexK (k x) (k y) := ⟨fun x y => lexK_asym _ _, fun x y z => lexK_tr _ _ _⟩
def kindK : Key → Bool
  | .inl _ => true
  | .inr _ => false
section
variable {prog : Program} {w : World} {A : Around} {E : Value → Shared → Prop} {s : Shared}
def KeysAre (ks : List Key) (us : List Value) : Prop := Vals (ks.map kV) us
theorem lex_run {b : Bool} : ∀ {ks ms : List Key} {us vs : List Value} (i : Nat), KeysAre ks us → KeysAre ms vs → ks.map kindK = ms.map kindK → ∀ Q : Bool → Shared → Prop, Q (lexK ks ms) s → PySem.W.KatLex prog w A b false Q (us.zip vs) i s
  | [], [], _, _, _, .nil, .nil, _, _, q => PySem.W.kat_nil q
  | [], _ :: _, _, _, _, _, _, h, _, _ => by simp at h
  | _ :: _, [], _, _, _, _, _, h, _, _ => by simp at h
  | .inl x :: ks, .inr y :: ms, _, _, _, _, _, h, _, _ => by simp [kindK] at h
  | .inr x :: ks, .inl y :: ms, _, _, _, _, _, h, _, _ => by simp [kindK] at h
  | .inl x :: ks, .inl y :: ms, _, _, i, .cons r1 t1, .cons r2 t2, h, Q, q => by
    obtain ⟨t, rfl⟩ := r1
    obtain ⟨u, rfl⟩ := r2
    have h' : ks.map kindK = ms.map kindK := (List.cons.inj h).2
    unfold lexK at q
    refine PySem.W.kat_cons (SeqAt.EqAt.int_int x t y u prog w _ _ (PySem.W.kat_go (fun e1 => ?_) (fun e1 => ?_)))
    · have e : x = y := by simpa using e1
      rw [if_pos (congrArg Sum.inl e)] at q
      exact PySem.W.kat_yes (lex_run (i + 1) t1 t2 h' Q q)
    · have e : ¬ x = y := by simpa using e1
      rw [if_neg (fun z => e (Sum.inl.inj z))] at q
      exact PySem.W.kat_no (oneLt_any_int q)
  | .inr x :: ks, .inr y :: ms, _, _, i, .cons r1 t1, .cons r2 t2, h, Q, q => by
    obtain ⟨t, rfl⟩ := r1
    obtain ⟨u, rfl⟩ := r2
    have h' : ks.map kindK = ms.map kindK := (List.cons.inj h).2
    unfold lexK at q
    refine PySem.W.kat_cons (SeqAt.EqAt.str_str x t y u prog w _ _ (PySem.W.kat_go (fun e1 => ?_) (fun e1 => ?_)))
    · have e : x = y := by simpa using e1
      rw [if_pos (congrArg Sum.inr e)] at q
      exact PySem.W.kat_yes (lex_run (i + 1) t1 t2 h' Q q)
    · have e : ¬ x = y := by simpa using e1
      rw [if_neg (fun z => e (Sum.inr.inj z))] at q
      exact PySem.W.kat_no (oneLt_any_str q)
/-- at v a tuple of the keys ks -/
def TupK (h : Heap) (v : Value) (ks : List Key) : Prop := ∃ a o us n, v = .ref a ∧ h.get? a = some o ∧ o.cls = .type "tuple" ∧ o.data = .seq us.toArray n ∧ KeysAre ks us
theorem TupK.keeps {h h' : Heap} {v : Value} {ks : List Key} (x : TupK h v ks) (k : ∀ b o, h.get? b = some o → o.cls = .type "tuple" → h'.get? b = some o) : TupK h' v ks := by
  obtain ⟨a, o, us, n, e, g, c, r⟩ := x
  exact ⟨a, o, us, n, e, k _ _ g c, c, r⟩
theorem tup_heads {h : Heap} {k : Value → List Key} {c : Bool} {κs : List Bool} : ∀ vs : List Value, (∀ v ∈ vs, TupK h v (k v) ∧ (k v).map kindK = c :: κs) → ∃ fs : List Value, PySem.W.KatTups h vs fs ∧ fs.length = vs.length ∧ ∀ f ∈ fs, if c then ∃ i t, f = .int i t else ∃ x t, f = .str x t
  | [], _ => ⟨[], .nil, rfl, by simp⟩
  | v :: vs, hv => by
    obtain ⟨fs, kt, l, z⟩ := tup_heads vs (fun u m => hv u (List.mem_cons_of_mem _ m))
    obtain ⟨⟨a, o, us, n, e, g, cl, d, ka⟩, hk⟩ := hv v (List.mem_cons_self ..)
    generalize k v = kv at hk ka
    cases kv with
    | nil => simp at hk
    | cons x ks =>
      obtain ⟨f, us', rfl, r, t⟩ : ∃ f us', us = f :: us' ∧ RelV (kV x) f ∧ Vals (ks.map kV) us' := by
        cases ka with
        | cons r t => exact ⟨_, _, rfl, r, t⟩
      refine ⟨f :: fs, ?_, by simp [l], ?_⟩
      · rw [e]; exact .cons g cl d (by simp) kt
      · intro y m
        rcases List.mem_cons.mp m with rfl | m
        · have hx : kindK x = c := (List.cons.inj hk).1
          cases x with
          | inl i => obtain ⟨t, e⟩ := r; have : c = true := hx.symm; rw [this]; exact ⟨i, t, e⟩
          | inr i => obtain ⟨t, e⟩ := r; have : c = false := hx.symm; rw [this]; exact ⟨i, t, e⟩
        · exact z y m
theorem tups_sortable {a : Addr} {vs : List Value} {k : Value → List Key} {c : Bool} {κs : List Bool} (h0 : 0 < vs.length) (hp : ∀ v ∈ vs, TupK s.heap v (k v) ∧ (k v).map kindK = c :: κs) (ha : ∀ o, s.heap.get? a = some o → o.cls ≠ .type "tuple") : SrtO.SortableO prog w A s a vs fun v u => lexK (k v) (k u) := by
  intro h' keep
  have hp' : ∀ v ∈ vs, TupK h' v (k v) ∧ (k v).map kindK = c :: κs := fun v hm => ⟨(hp v hm).1.keeps fun b o e cl => keep b o (fun z => by subst z; exact ha o e cl) e, (hp v hm).2⟩
  obtain ⟨fs, h1, h2, h3⟩ := tup_heads vs hp'
  refine ⟨tuples' true, fun Q E hq => ?_, ?_⟩
  · cases c with
    | true =>
      have nt : (Value.type "int" != Value.type "tuple") = true := by first | decide +kernel | rfl
      refine PySem.W.kat_kind (T := .type "int") h1 (by omega) (fun f hm => ?_) (by rfl) (nt ▸ hq)
      obtain ⟨x, t, rfl⟩ := h3 f hm
      exact PySem.W.Looks.now
    | false =>
      have nt : (Value.type "str" != Value.type "tuple") = true := by first | decide +kernel | rfl
      refine PySem.W.kat_kind (T := .type "str") h1 (by omega) (fun f hm => ?_) (by rfl) (nt ▸ hq)
      obtain ⟨x, t, rfl⟩ := h3 f hm
      exact PySem.W.Looks.now
  · intro p q hm hm'
    obtain ⟨⟨a1, o1, us1, n1, e1, g1, c1, d1, k1⟩, z1⟩ := hp' _ hm
    obtain ⟨⟨a2, o2, us2, n2, e2, g2, c2, d2, k2⟩, z2⟩ := hp' _ hm'
    show wpAny (model prog w) A (keyLt' (tuples' true) p.1 q.1) (fun r s' => s' = _ ∧ r = lexK (k p.1) (k q.1)) (fun _ _ => False) _
    rw [show keyLt' (tuples' true) p.1 q.1 = keyLt' (tuples' true) (.ref a1) (.ref a2) by rw [e1, e2]]
    refine PySem.W.kat_lt g1 d1 g2 d2 ?_
    have len : us1.length = us2.length := by
      have l1 := Vals.length k1
      have l2 := Vals.length k2
      have l3 := congrArg List.length (z1.trans z2.symm)
      rw [List.length_map] at l1 l2
      rw [List.length_map, List.length_map] at l3
      omega
    have ef : decide (us1.toArray.size < us2.toArray.size) = false := by
      rw [List.size_toArray, List.size_toArray]
      exact decide_eq_false (by omega)
    rw [ef]
    exact lex_run 0 k1 k2 (z1.trans z2.symm) _ ⟨rfl, rfl⟩
end
abbrev ltV (k : V → List Key) (x y : V) : Bool := lexK (k x) (k y)
/-- sorted(xs), xs a list of tuples of ints and texts, alike in their kinds -/
def rSortedTK (K : PySem.W.Frag) : List V → Hp → VK → Prop := fun vs H Q => ∃ (a : Addr) (xs : List V) (k : V → List Key) (c : Bool) (κs : List Bool), vs = [V.ref a] ∧ SqL K H a xs ∧ (∀ x ∈ xs, ∃ t, x = V.ref t ∧ H t = some (.tup ((k x).map kV)) ∧ (k x).map kindK = c :: κs) ∧
  ∀ ys p, SrtO.Srtd (ltV k) ys → ys.Perm xs → H p = none → Q (.ref p) (upd H p (.lst ys))
theorem cr_sortedTK {X : Cx} : CallR X (.builtin "sorted") (rSortedTK X.K) := by
  intro pins s σ H vs us Q I r h
  obtain ⟨a, xs, k, c, κs, rfl, hs, hx, q⟩ := h
  obtain ⟨its, rv, hl, hz⟩ := I.list hs
  rw [Vals.ref1 r]
  obtain ⟨e1, e2⟩ := refs_back rv fun x m => by
    obtain ⟨t, e, _⟩ := hx x m
    exact ⟨t, e⟩
  have tk : ∀ v ∈ its, TupK s.heap v (k (backV v)) ∧ (k (backV v)).map kindK = c :: κs := fun v hv => by
    obtain ⟨t, rfl⟩ := e2 v hv
    have hm : V.ref t ∈ xs := by rw [e1]; exact List.mem_map.mpr ⟨_, hv, rfl⟩
    obtain ⟨t', e, ht, hk⟩ := hx _ hm
    cases e
    obtain ⟨_, its2, r2, o, ho, hc, n, hd⟩ := I.hok _ _ ht
    exact ⟨⟨t, o, its2, n, rfl, ho, hc, hd, r2⟩, hk⟩
  refine SrtO.sorted_ord (swo_lexK fun v => k (backV v)) hl.isList (by rw [← rv.length]; exact hz) (fun h2 h₁ b hb kk => ?_) fun out hso hst => ?_
  · refine tups_sortable (s := { s with heap := h₁ }) (by omega) (fun v hm => ⟨(tk v hm).1.keeps fun b o e _ => (kk b o e).2, (tk v hm).2⟩) fun o e => ?_
    obtain rfl := Option.some.inj (e.symm.trans hb)
    exact fun c => absurd (Value.type.inj c) (by decide)
  · have h3 : ∀ u ∈ out, ∃ a, u = Value.ref a := fun u hu => e2 u (hst.perm.mem_iff.mp hu)
    have pm : (out.map backV).Perm xs := by rw [e1]; exact hst.perm.map backV
    obtain ⟨n, hn⟩ := sortedAll_at s.heap its out.toArray
    refine ⟨.ref _, upd H (s.heap.objs.size + 1) (.lst (out.map backV)), I.laid (t' := s.toks) (fun _ _ => sortedAll_old) (Nat.le_succ _) ⟨?_, out, n, vals_back h3, hn⟩, rfl, q _ _ (SrtO.srtd_map hso) pm (I.hok.fresh (Nat.le_succ _))⟩
    rw [pm.length_eq]
    exact hz
end HopT

set_option Elab.async false
set_option linter.all false
set_option maxRecDepth 100000
namespace HopT
open PySem PySem.Spec PyProof.Rows L2
/-! ### sorted(tuples of three ints), any number of them: rising -/
abbrev T3 := Int × Int × Int
def lexT (p q : T3) : Bool := if p.1 = q.1 then (if p.2.1 = q.2.1 then decide (p.2.2 < q.2.2) else decide (p.2.1 < q.2.1)) else decide (p.1 < q.1)
theorem lexT_iff {p q : T3} : lexT p q = true ↔ p.1 < q.1 ∨ (p.1 = q.1 ∧ (p.2.1 < q.2.1 ∨ (p.2.1 = q.2.1 ∧ p.2.2 < q.2.2))) := by
  unfold lexT
  by_cases e : p.1 = q.1
  · rw [if_pos e]
    by_cases e2 : p.2.1 = q.2.1
    · rw [if_pos e2, decide_eq_true_eq]; omega
    · rw [if_neg e2, decide_eq_true_eq]; omega
  · rw [if_neg e, decide_eq_true_eq]; omega
theorem lexT_no {p q : T3} : lexT p q = false ↔ ¬ (p.1 < q.1 ∨ (p.1 = q.1 ∧ (p.2.1 < q.2.1 ∨ (p.2.1 = q.2.1 ∧ p.2.2 < q.2.2)))) := by
  rw [← lexT_iff]
  cases lexT p q <;> simp
theorem swo_lexT (k : Value → T3) : SrtO.Swo fun v u => lexT (k v) (k u) := by
  refine ⟨fun x y h => ?_, fun x y z h1 h2 => ?_⟩
  · have a := lexT_iff.mp h
    refine lexT_no.mpr ?_
    omega
  · have a := lexT_no.mp h1
    have b := lexT_no.mp h2
    refine lexT_no.mpr ?_
    omega
def IsTrip (h : Heap) (v : Value) (x y z : Int) : Prop := ∃ a o t u r n, v = .ref a ∧ h.get? a = some o ∧ o.cls = .type "tuple" ∧ o.data = .seq [Value.int x t, Value.int y u, Value.int z r].toArray n
section
variable {prog : Program} {w : World} {A : Around} {E : Value → Shared → Prop} {s : Shared}
theorem trip_cmp {vs : List Value} {k : Value → T3} (hp : ∀ v ∈ vs, IsTrip s.heap v (k v).1 (k v).2.1 (k v).2.2) : SrtO.Cmp prog w A s (tuples' true) (fun p => p.1 ∈ vs) (SrtO.lt2 fun v u => lexT (k v) (k u)) := by
  intro p q hm hm'
  have h1 := hp _ hm
  have h2 := hp _ hm'
  show wpAny (model prog w) A (keyLt' (tuples' true) p.1 q.1) (fun r s' => s' = s ∧ r = lexT (k p.1) (k q.1)) (fun _ _ => False) s
  unfold lexT
  generalize (k p.1).1 = x at h1 ⊢
  generalize (k p.1).2.1 = y at h1 ⊢
  generalize (k p.1).2.2 = z at h1 ⊢
  generalize (k q.1).1 = x' at h2 ⊢
  generalize (k q.1).2.1 = y' at h2 ⊢
  generalize (k q.1).2.2 = z' at h2 ⊢
  obtain ⟨a, o, t, u, r, n, e, ho, hc, hd⟩ := h1
  obtain ⟨a', o', t', u', r', n', e', ho', hc', hd'⟩ := h2
  rw [e, e']
  refine PySem.W.kat_lt ho hd ho' hd' ?_
  show PySem.W.KatLex prog w A true (decide (3 < 3)) _ [(.int x t, .int x' t'), (.int y u, .int y' u'), (.int z r, .int z' r')] 0 s
  refine PySem.W.kat_cons (SeqAt.EqAt.int_int x t x' t' prog w _ _ ?_)
  refine PySem.W.kat_go (fun e1 => ?_) (fun e1 => ?_)
  · have ex : x = x' := by simpa using e1
    refine PySem.W.kat_yes (PySem.W.kat_cons (SeqAt.EqAt.int_int y u y' u' prog w _ _ ?_))
    refine PySem.W.kat_go (fun e2 => ?_) (fun e2 => ?_)
    · have ey : y = y' := by simpa using e2
      refine PySem.W.kat_yes (PySem.W.kat_cons (SeqAt.EqAt.int_int z r z' r' prog w _ _ ?_))
      refine PySem.W.kat_go (fun e3 => ?_) (fun e3 => ?_)
      · have ez : z = z' := by simpa using e3
        have e4 : (if x = x' then (if y = y' then decide (z < z') else decide (y < y')) else decide (x < x')) = false := by
          rw [if_pos ex, if_pos ey, ez]
          exact decide_eq_false (Int.lt_irrefl _)
        exact PySem.W.kat_yes (PySem.W.kat_nil ⟨rfl, e4.symm⟩)
      · have e4 : (if x = x' then (if y = y' then decide (z < z') else decide (y < y')) else decide (x < x')) = decide (z < z') := by rw [if_pos ex, if_pos ey]
        refine PySem.W.kat_no (TS.oneLt_ints _ ?_)
        exact (show s = s ∧ decide (z < z') = _ from ⟨rfl, e4.symm⟩)
    · have ey : ¬ y = y' := by simpa using e2
      have e4 : (if x = x' then (if y = y' then decide (z < z') else decide (y < y')) else decide (x < x')) = decide (y < y') := by rw [if_pos ex, if_neg ey]
      refine PySem.W.kat_no (TS.oneLt_ints _ ?_)
      exact (show s = s ∧ decide (y < y') = _ from ⟨rfl, e4.symm⟩)
  · have ex : ¬ x = x' := by simpa using e1
    have e4 : (if x = x' then (if y = y' then decide (z < z') else decide (y < y')) else decide (x < x')) = decide (x < x') := if_neg ex
    exact PySem.W.kat_no (TS.oneLt_ints _ (show s = s ∧ decide (x < x') = _ from ⟨rfl, e4.symm⟩))
theorem trips_sortableO {a : Addr} {vs : List Value} {k : Value → T3} (some' : vs ≠ []) (hp : ∀ v ∈ vs, IsTrip s.heap v (k v).1 (k v).2.1 (k v).2.2) (na : ∀ o, s.heap.get? a = some o → o.cls ≠ .type "tuple") : SrtO.SortableO prog w A s a vs fun v u => lexT (k v) (k u) := by
  intro h' keep
  have hp' : ∀ v ∈ vs, IsTrip h' v (k v).1 (k v).2.1 (k v).2.2 := fun v hm => by
    obtain ⟨b, o, t, u, r, n, e, ho, hc, hd⟩ := hp v hm
    exact ⟨b, o, t, u, r, n, e, keep b o (by rintro rfl; exact na o ho hc) ho, hc, hd⟩
  have hv' : ∀ v ∈ vs, Begun h' v := fun v hm => by
    obtain ⟨b, o, t, u, r, n, e, ho, hc, hd⟩ := hp' v hm
    refine ⟨b, o, _, _, n, e, ho, hc, hd, fun x hx => ?_⟩
    rcases List.mem_cons.mp hx with rfl | hx
    · exact ⟨_, _, rfl⟩
    rcases List.mem_cons.mp hx with rfl | hx
    · exact ⟨_, _, rfl⟩
    obtain rfl := List.mem_singleton.mp hx
    exact ⟨_, _, rfl⟩
  obtain ⟨fs, kt, l, z⟩ := heads vs hv'
  have p : 0 < fs.length := by rw [l]; exact List.length_pos_iff.mpr some'
  have nt : (Value.type "int" != Value.type "tuple") = true := by first | decide +kernel | rfl
  refine ⟨tuples' true, fun Q E q => PySem.W.kat_kind (T := .type "int") kt p (fun f m => ?_) rfl (nt ▸ q), trip_cmp hp'⟩
  obtain ⟨i, t, rfl⟩ := z f m
  exact .now
end
def rSortedQ (K : PySem.W.Frag) : List V → Hp → VK → Prop := fun vs H Q => ∃ (a : Addr) (ts : List Addr) (k : Addr → T3), vs = [.ref a] ∧ SqL K H a (ts.map V.ref) ∧ (∀ t ∈ ts, H t = some (.tup [.int (k t).1, .int (k t).2.1, .int (k t).2.2])) ∧
  ∀ (ys : List Addr) p, ys.Perm ts → ys.Pairwise (fun x y => lexT (k y) (k x) = false) → H p = none → Q (.ref p) (upd H p (.lst (ys.map V.ref)))
theorem cr_sortedQ {X : Cx} : CallR X (.builtin "sorted") (rSortedQ X.K) := by
  rintro pins s σ H vs us Q I r ⟨a, ts, k, rfl, hs, ht, q⟩
  obtain ⟨its, rv, isl, big⟩ := I.list hs
  obtain rfl := refs_are rv
  rw [Vals.ref1 r]
  let kv : Value → T3 := fun v => match v with | .ref a => k a | _ => (0, 0, 0)
  have beg : ∀ v ∈ ts.map Value.ref, IsTrip s.heap v (kv v).1 (kv v).2.1 (kv v).2.2 := by
    intro v m
    obtain ⟨t, mt, rfl⟩ := List.mem_map.mp m
    obtain ⟨_, vs', r', o, g, c, n, d⟩ := I.hok _ _ (ht t mt)
    cases r' with
    | cons r0 rs =>
      cases rs with
      | cons r1 rs =>
        cases rs with
        | cons r2 rs =>
          cases rs
          obtain ⟨t0, rfl⟩ := r0
          obtain ⟨t1, rfl⟩ := r1
          obtain ⟨t2, rfl⟩ := r2
          exact ⟨t, o, t0, t1, t2, n, rfl, g, c, d⟩
  refine SrtO.sorted_ord (swo_lexT kv) isl.isList (by simpa using big) (fun two h1 b hb kk => trips_sortableO (by rintro e; rw [e] at two; simp at two) (fun v m => ?_) (fun o g => ?_)) (fun out so st => ?_)
  · obtain ⟨b', o, t, u, r, n, e, g, rest⟩ := beg v m
    exact ⟨b', o, t, u, r, n, e, (kk _ _ g).2, rest⟩
  · obtain rfl := Option.some.inj (g.symm.trans hb)
    exact fun c => absurd (Value.type.inj c) (by decide)
  · obtain ⟨ys, rfl, py⟩ := perm_refs st.perm
    obtain ⟨kk, at'⟩ := sortedAll_at s.heap (ts.map Value.ref) (ys.map Value.ref).toArray
    have len : (ys.map V.ref).length ≤ sizeLine := by rw [List.length_map, py.length_eq]; simpa using big
    have so' : ys.Pairwise (fun x y => lexT (k y) (k x) = false) := List.pairwise_map.mp so
    exact ⟨.ref _, upd H (s.heap.objs.size + 1) (.lst (ys.map V.ref)), I.laid (t' := s.toks) (fun _ _ => sortedAll_old) (Nat.le_succ _) ⟨len, _, kk, are_refs ys, at'⟩, rfl, q ys _ py so' (I.hok.fresh (Nat.le_succ _))⟩
end HopT

set_option Elab.async false
set_option linter.all false
set_option maxRecDepth 100000
namespace HopR
open PySem PySem.Spec PyProof.Rows L2
section
variable {X : Cx}
/-- tuple(text) -/
def rTupT : List V → Hp → VK → Prop := fun vs H Q => ∃ z : Str, vs = [.str z] ∧ z.length ≤ sizeLine ∧ ∀ p : Addr, H p = none → Q (.ref p) (upd H p (.tup ((sg z).map V.str)))
theorem cr_tupT (hcm : X.calm = true) : CallR X (.type "tuple") rTupT := by
  rintro pins s σ H _ us Q I r ⟨z, rfl, hz, q⟩
  obtain ⟨_, rfl, t, rfl⟩ := vals1 r
  refine call_tuple_str (I.ok.hd hcm) z t (fun h' tk acc old items => ?_) hz
  have after : Inv X pins σ H { s with heap := h', toks := tk } := I.kept old
  refine ⟨.ref h'.objs.size, _, after.laid (t' := tk) (fun b o e => Heap.get?_push_of_some _ e) (Nat.le_refl _) ?_, rfl, q _ (after.hok.fresh (Nat.le_refl _))⟩
  refine ⟨by rw [List.length_map, sg_len]; exact hz, acc.toList, vals_of_strs (signs_are items), ?_⟩
  rw [Array.toArray_toList]
  exact IsTup.new _ _
end
/-! ### lists of whole numbers as data -/
def dis (zs : List Int) : List PyData := zs.map PyData.int
theorem dp_ints {K : PySem.W.Frag} {H : Hp} : ∀ zs : List Int, DpAll K H (zs.map V.int) (dis zs)
  | [] => .nil
  | z :: r => .cons (.int z) (dp_ints r)
theorem lay_ints : ∀ zs : List Int, PyData.canLayAll0 (dis zs) = true
  | [] => rfl
  | z :: r => by
    show PyData.canLayAll0 (.int z :: dis r) = true
    simp only [PyData.canLayAll0, lay_ints r, Bool.and_true]
    rfl
theorem deep_ints : ∀ zs : List Int, PyData.depthAll (dis zs) = 0
  | [] => rfl
  | z :: r => by
    show PyData.depthAll (.int z :: dis r) = 0
    simp only [PyData.depthAll, deep_ints r]
    rfl
theorem shaped_zs (zs : List Int) : SeqAt.shaped (.list (dis zs)) = true := by
  unfold SeqAt.shaped
  rw [Bool.and_eq_true]
  refine ⟨?_, decide_eq_true ?_⟩
  · simp only [PyData.canLay0, lay_ints]
  · simp only [PyData.depth, deep_ints]
    decide
theorem cut_ints (ns : List Int) (hi : Int) (hl : ns.length ≤ 63) : ∃ zs : List Int, cutV (ns.map V.int) none (some hi) = zs.map V.int ∧ zs.length ≤ 63 := by
  unfold cutV
  refine ⟨(ns.drop (HT.sIx (ns.map V.int).length 0 none)).take (HT.sIx (ns.map V.int).length (ns.map V.int).length (some hi) - HT.sIx (ns.map V.int).length 0 none), by rw [List.map_take, List.map_drop], ?_⟩
  rw [List.length_take, List.length_drop]
  omega
end HopR

set_option Elab.async false
set_option linter.all false
set_option maxRecDepth 100000
namespace HopR
open PySem PySem.Spec PyProof.Rows L2
/-! ### walks that hand out new tuples -/
/-- n turns; at each a new tuple of items that Y tells -/
def ItTup (n : Nat) (Y : Nat → List V → Prop) : It :=
  ⟨fun i _ => i < n, fun i H v H' => ∃ T xs, v = .ref T ∧ H T = none ∧ H' = upd H T (.tup xs) ∧ Y i xs, fun i _ => n ≤ i⟩
theorem turn_tup {P : Program} {w : World} {K : PySem.W.Frag} {elts : List Expr} {kk : Nat} {tpos : Pos} {it : Addr} {fp wr : List Addr} {n : Nat} {Pt : Nat → Array Value → Prop} {St : Nat → Heap → Prop} {Mid : Nat → Addr → Heap → Prop} {Y : Nat → List V → Prop}
    (mem : it ∈ fp) (obj : ∀ i h, St i h → ∀ b ∈ fp, ∃ o, h.get? b = some o ∧ ∀ v, o.data ≠ .cell v) (W : ∀ A : Around, A.handled = none → WalksT P w A it fp wr n Pt St Mid)
    (tells : ∀ i vals, Pt i vals → ∃ xs, xs.length ≤ sizeLine ∧ Vals xs vals.toList ∧ Y i xs) (self : ∀ (A : Around) (i : Nat) (s : Shared) (Q : Value → Shared → Prop) (E : Value → Shared → Prop), St i s.heap → Q (.ref it) s → wpAny (model P w) A (pyIter (.ref it)) Q E s)
    (W0 : WalksT P w callerA it fp wr n Pt St Mid) :
    Turn P w K (.Tuple elts kk tpos) (ItTup n Y) fp it (fun i h => i ≤ n ∧ St i h) where
  mem := mem
  obj i h st := obj i h st.2
  keep i h h' st k := ⟨st.1, W0.frame i h h' st.2 k⟩
  item := by
    intro X hP hw hK calm i pins s σ H E I free st go
    subst hP hw hK
    have V := W X.A (I.ok.hd calm)
    refine V.item i s _ E go st.2 fun T vals h1 tk told new tup mid old => ⟨.ref T, rfl, ?_⟩
    refine V.go elts kk tpos i T _ _ E mid fun h2 st2 old2 => ?_
    obtain ⟨xs, few, are, y⟩ := tells i vals told
    have out := V.apart i T h1 mid
    obtain ⟨o, ho, hr⟩ := tup
    have tup2 : h2.IsTuple T vals := ⟨o, old2 T o out ho, hr⟩
    have ok : ObjOk X.prog X.w (upd H T (.tup xs)) h2 T (.tup xs) := ⟨few, vals.toList, are, by rw [Array.toArray_toList]; exact tup2⟩
    have J : Inv X pins σ (upd H T (.tup xs)) { s with heap := h2, toks := tk } := I.turnedNew (ch := fp) (fun b ob nb q => old2 b ob (fun z => nb (V.sub b z)) (old b ob (fun z => nb (V.sub b z)) q)) free new ok
    refine ⟨.ref T, _, J, rfl, ⟨T, xs, rfl, I.hok.fresh new, rfl, y⟩, ⟨go, st2⟩, fun b hb => ?_⟩
    obtain ⟨ob, q, _⟩ := obj i s.heap st.2 b hb
    rw [upd_ne (Nat.ne_of_lt (Nat.lt_of_lt_of_le (Heap.lt_size q) new))]
    exact (free b hb).1
  done := by
    intro X hP hw hK calm i pins s σ H E I free st stop
    subst hP hw hK
    have V := W X.A (I.ok.hd calm)
    obtain rfl : i = n := Nat.le_antisymm st.1 stop
    exact V.done s _ E st.2 fun h1 tk old => ⟨rfl, I.turnedL (ch := fp) (fun b o nb q => old b o (fun z => nb (V.sub b z)) q) free⟩
  self A i s Q E st q := self A i s Q E st.2 q
/-- a loop over such a walk -/
theorem walk_tup {n : Nat} {Y : Nat → List V → Prop} : Walk (ItTup n Y) n (fun _ => True) (fun i H v H' => ∃ T xs, v = .ref T ∧ H T = none ∧ H' = upd H T (.tup xs) ∧ Y i xs) :=
  ⟨fun _ _ lt _ => lt, fun _ _ => Nat.le_refl _, fun _ _ _ _ _ _ y => y⟩
/-! ### zip(text, text) -/
theorem draws_txt {prog : Program} {w : World} {A : Around} (hh : A.handled = none) (it : Addr) (x : Str) (t : Tok) :
    Draws prog w A it [it] x.cps.size (fun i v => ∃ c u, x.cps[i]? = some c ∧ v = .str ⟨#[c]⟩ u) (fun i h => h.IsStrIter it (strIterType x) x t i) := by
  unfold strIterType
  split
  · exact .strAscii hh it x t
  · exact .strWide hh it x t
/-- the signs of both texts, place by place -/
def ZipY (x y : Str) (i : Nat) (vs : List V) : Prop := ∃ c e, x.cps[i]? = some c ∧ y.cps[i]? = some e ∧ vs = [.str ⟨#[c]⟩, .str ⟨#[e]⟩]
def iZipS (ta : TA) : TI := fun σ H R => ta σ H fun vs H1 => ∃ x y : Str, vs = [.str x, .str y] ∧ R (ItTup (min x.cps.size y.cps.size) (ZipY x y)) H1
theorem pi_zipS {X : Cx} {e e2 : Expr} {ta : TA} {p pos tpos : Pos} {elts : List Expr} {kk : Nat} (hg : Gl X "zip") (hm : X.mg "zip" = none) (ha : PA X [e, e2] ta)
    (hs : starEach [e, e2] X.env = (false, eval e X.env) :: starEach [e2] X.env := by rfl) (hpl : (backTo pos (starEach [e2] X.env)).any (·.1) = false := by rfl) :
    PI X (.Tuple elts kk tpos) (.Call (.Name "zip" p) [e, e2] [] pos) (iZipS ta) := by
  constructor
  intro pins s σ H R I h
  refine Call_ (ld_blt I hg hm boot_zip (callWith_type1 (thn (ha.run pos pins s σ H _ I h) ?_) hs hpl))
  rintro us s1 ⟨_, H1, J, rel, x, y, rfl, q⟩
  obtain ⟨_, _, rfl, ⟨t, rfl⟩, u, rfl⟩ := vals2 rel
  refine zip_begins2 (begins_text x t) (begins_text y u) trivial trivial fun h' isz pin pout at1 at2 _ old => wpAny_pyIter_zip isz ?_
  have sep : ZipSep2 (s1.heap.objs.size + 4) (s1.heap.objs.size + 2) (s1.heap.objs.size + 3) s1.heap.objs.size (s1.heap.objs.size + 1) [s1.heap.objs.size] [s1.heap.objs.size + 1] := by
    constructor <;> simp
  have W : ∀ A : Around, A.handled = none → WalksT X.prog X.w A (s1.heap.objs.size + 4) _ _ _ _ _ _ := fun A hh => WalksT.zipD2 sep (draws_txt (A := A.in1) hh s1.heap.objs.size x t) (draws_txt (A := A.in1) hh (s1.heap.objs.size + 1) y u)
  refine ⟨s1.heap.objs.size + 4, _, _, _, H1, rfl, J.kept (t' := s1.toks) old, turn_tup (Y := ZipY x y) (by simp) ?_ W ?_ ?_ (W callerA rfl), ⟨Nat.zero_le _, isz, pin, ⟨_, _, pout⟩, ⟨_, at1, rfl, rfl⟩, ⟨_, at2, rfl, rfl⟩⟩, ?_, q⟩
  · rintro i h ⟨hz, h1, ⟨_, _, h2⟩, ⟨o1, g1, _, d1⟩, ⟨o2, g2, _, d2⟩⟩ b hb
    have hb : b = s1.heap.objs.size + 4 ∨ b = s1.heap.objs.size + 2 ∨ b = s1.heap.objs.size + 3 ∨ b = s1.heap.objs.size ∨ b = s1.heap.objs.size + 1 := by simpa using hb
    rcases hb with rfl | rfl | rfl | rfl | rfl
    · exact ⟨_, hz, fun v q => nomatch q⟩
    · exact ⟨_, h1, fun v q => nomatch q⟩
    · exact ⟨_, h2, fun v q => nomatch q⟩
    · exact ⟨o1, g1, fun v q => by rw [d1] at q; cases q⟩
    · exact ⟨o2, g2, fun v q => by rw [d2] at q; cases q⟩
  · rintro i vals ⟨_, _, ⟨c, t1, hc, rfl⟩, ⟨e, t2, he, rfl⟩, rfl⟩
    exact ⟨[.str ⟨#[c]⟩, .str ⟨#[e]⟩], by show 2 ≤ sizeLine; decide, .cons ⟨t1, rfl⟩ (.cons ⟨t2, rfl⟩ .nil), c, e, hc, he, rfl⟩
  · exact fun A i s Q E st q => wpAny_pyIter_zip st.1 q
  · intro b hb
    have hb : b = s1.heap.objs.size + 4 ∨ b = s1.heap.objs.size + 2 ∨ b = s1.heap.objs.size + 3 ∨ b = s1.heap.objs.size ∨ b = s1.heap.objs.size + 1 := by simpa using hb
    have le : s1.heap.objs.size ≤ b := by
      rcases hb with rfl | rfl | rfl | rfl | rfl
      · exact Nat.le_add_right _ _
      · exact Nat.le_add_right _ _
      · exact Nat.le_add_right _ _
      · exact Nat.le_refl _
      · exact Nat.le_add_right _ _
    exact J.fpOk le (J.hok.fresh le)
end HopR

set_option Elab.async false
set_option linter.all false
set_option maxRecDepth 100000
namespace HopR
open PySem L2
/-! ### a row beneath a row -/
def ust (u l : Bool) : Int := (if u then 1 else 0) - (if l then 0 else 1)
def bn : Int → List Bool → List Bool → Bool
  | o, u :: us, l :: ls => if o + ust u l < 0 then false else bn (o + ust u l) us ls
  | o, _, _ => decide (o = 0)
theorem bn_nil (o : Int) (ls : List Bool) : bn o [] ls = decide (o = 0) := by
  cases ls <;> rfl
theorem bn_cons (o : Int) (u l : Bool) (us ls : List Bool) : bn o (u :: us) (l :: ls) = if o + ust u l < 0 then false else bn (o + ust u l) us ls := rfl
def rise (b : Bool) : Int := if b then 1 else -1
theorem rise_two (u l : Bool) : rise u + rise l = 2 * ust u l := by cases u <;> cases l <;> rfl
/-- as the law looks -/
def lb : Int → List Bool → List Nat → Bool
  | h, u :: us, c :: cs => if okc c = false then false else if h + rise u + rise (decide (c = 111)) < 0 then false else lb (h + rise u + rise (decide (c = 111))) us cs
  | h, _, _ => decide (h = 0)
def bls (cs : List Nat) : List Bool := cs.map fun c => decide (c = 111)
theorem lb_eq : ∀ (us : List Bool) (cs : List Nat) (o : Int), us.length = cs.length → lb (2 * o) us cs = (cs.all okc && bn o us (bls cs))
  | [], [], o, _ => by
    show decide (2 * o = 0) = (true && decide (o = 0))
    by_cases h : o = 0
    · rw [decide_eq_true h, decide_eq_true (by omega)]; rfl
    · rw [decide_eq_false h, decide_eq_false (by omega)]; rfl
  | [], c :: cs, o, h => by simp at h
  | u :: us, [], o, h => by simp at h
  | u :: us, c :: cs, o, h => by
    have hl : us.length = cs.length := by simpa using h
    show (if okc c = false then false else if 2 * o + rise u + rise (decide (c = 111)) < 0 then false else lb (2 * o + rise u + rise (decide (c = 111))) us cs) = ((okc c && cs.all okc) && (if o + ust u (decide (c = 111)) < 0 then false else bn (o + ust u (decide (c = 111))) us (bls cs)))
    cases hc : okc c with
    | false => rfl
    | true =>
      rw [if_neg (by decide)]
      have e := rise_two u (decide (c = 111))
      have e2 : 2 * o + rise u + rise (decide (c = 111)) = 2 * (o + ust u (decide (c = 111))) := by omega
      rw [e2, lb_eq us cs _ hl, Bool.true_and]
      by_cases hn : o + ust u (decide (c = 111)) < 0
      · rw [if_pos hn, if_pos (by omega), Bool.and_false]
      · rw [if_neg hn, if_neg (by omega)]
/-- whether x is beneath the row of bs -/
def bnB (bs : List Bool) (cs : List Nat) : Bool := decide (cs.length = bs.length) && (cs.all okc && bn 0 bs (bls cs))
def BnB (K : PySem.W.Frag) (H : Hp) (bs : List Bool) (x : V) (b : Bool) : Prop := (NoTxt K H x ∧ b = false) ∨ ∃ cs : List Nat, x = .str (rt cs) ∧ cs.length ≤ 10000 ∧ b = bnB bs cs
theorem bnB_same {K : PySem.W.Frag} {H H' : Hp} {bs : List Bool} {x : V} {b : Bool} (s : Same H H') (h : BnB K H bs x b) : BnB K H' bs x b := h.imp (fun ⟨q, e⟩ => ⟨notxt_same s q, e⟩) id
theorem tx_rt (bs : List Bool) : tx bs = rt (bs.map cd) := ext_str (by rw [tx_list, rt_list])
theorem bls_tx (bs : List Bool) : bls (bs.map cd) = bs := by
  unfold bls
  rw [List.map_map]
  conv => rhs; rw [← List.map_id bs]
  congr 1
  funext b
  cases b <;> rfl
theorem okc_map (bs : List Bool) : (bs.map cd).all okc = true := by
  rw [List.all_map, List.all_eq_true]
  exact fun b _ => okc_cd b
theorem okc_row {cs : List Nat} (h : cs.all okc = true) : rt cs = tx (bls cs) := by
  rw [tx_rt]
  congr 1
  unfold bls
  rw [List.map_map]
  conv => lhs; rw [← List.map_id cs]
  apply List.map_congr_left
  intro c hc
  have := List.all_eq_true.mp h c hc
  unfold okc at this
  simp only [Bool.or_eq_true, decide_eq_true_eq] at this
  rcases this with rfl | rfl <;> rfl
theorem bnB_tx (bs ls : List Bool) : bnB bs (ls.map cd) = (decide (ls.length = bs.length) && bn 0 bs ls) := by
  unfold bnB
  rw [List.length_map, okc_map, bls_tx, Bool.true_and]
end HopR

set_option Elab.async false
set_option linter.all false
set_option maxRecDepth 100000
namespace HopR
open PySem L2
/-! ### how many ways lead on from each height -/
def geti (L : List Int) (i : Int) : Int := if 0 ≤ i ∧ i < (L.length : Int) then L.getD i.toNat 0 else 0
def own (b : Bool) (L : List Int) : List Int := (List.range L.length).map fun h : Nat => geti L ((h : Int) + (rise b - 1)) + geti L ((h : Int) + (rise b + 1))
def tab (L0 : List Int) : List Bool → List (List Int)
  | [] => [L0]
  | b :: bs => own b ((tab L0 bs).headD []) :: tab L0 bs
theorem own_len (b : Bool) (L : List Int) : (own b L).length = L.length := by
  unfold own
  rw [List.length_map, List.length_range]
theorem own_at {b : Bool} {L : List Int} {h : Nat} (hh : h < L.length) : geti (own b L) (h : Int) = geti L ((h : Int) + (rise b - 1)) + geti L ((h : Int) + (rise b + 1)) := by
  conv => lhs; unfold geti
  rw [if_pos ⟨by omega, by rw [own_len]; omega⟩]
  unfold own
  rw [Int.toNat_natCast, List.getD_eq_getElem?_getD, List.getElem?_map, List.getElem?_range hh]
  rfl
/-- the table from the row's beginning on -/
def hd (L0 : List Int) (bs : List Bool) : List Int := (tab L0 bs).headD []
theorem tab_hd (L0 : List Int) (bs : List Bool) : ∃ r, tab L0 bs = hd L0 bs :: r := by
  cases bs with
  | nil => exact ⟨[], rfl⟩
  | cons b r => exact ⟨tab L0 r, rfl⟩
theorem hd_cons (L0 : List Int) (b : Bool) (bs : List Bool) : hd L0 (b :: bs) = own b (hd L0 bs) := rfl
theorem hd_len (L0 : List Int) : ∀ bs : List Bool, (hd L0 bs).length = L0.length
  | [] => rfl
  | b :: r => by rw [hd_cons, own_len, hd_len L0 r]
theorem tab_len (L0 : List Int) : ∀ bs : List Bool, (tab L0 bs).length = bs.length + 1
  | [] => rfl
  | b :: r => by
    show (tab L0 r).length + 1 = r.length + 1 + 1
    rw [tab_len L0 r]
theorem tab_at (L0 : List Int) : ∀ (bs : List Bool) (k : Nat), k ≤ bs.length → (tab L0 bs)[k]? = some (hd L0 (bs.drop k))
  | bs, 0, _ => by
    obtain ⟨r, e⟩ := tab_hd L0 bs
    rw [e]
    rfl
  | [], k + 1, h => by simp at h
  | b :: r, k + 1, h => by
    show (tab L0 r)[k]? = some (hd L0 (r.drop k))
    exact tab_at L0 r k (by simpa using h)
theorem geti_nn {L : List Int} (h : ∀ x ∈ L, 0 ≤ x) (i : Int) : 0 ≤ geti L i := by
  unfold geti
  split
  · rw [List.getD_eq_getElem?_getD]
    cases e : L[i.toNat]? with
    | none => exact Int.le_refl _
    | some x => exact h x (List.mem_of_getElem? e)
  · exact Int.le_refl _
theorem own_nn {b : Bool} {L : List Int} (h : ∀ x ∈ L, 0 ≤ x) : ∀ x ∈ own b L, 0 ≤ x := by
  intro x hx
  obtain ⟨i, _, rfl⟩ := List.mem_map.mp hx
  have h1 := geti_nn h ((i : Int) + (rise b - 1))
  have h2 := geti_nn h ((i : Int) + (rise b + 1))
  omega
theorem hd_nn {L0 : List Int} (h : ∀ x ∈ L0, 0 ≤ x) : ∀ bs : List Bool, ∀ x ∈ hd L0 bs, 0 ≤ x
  | [] => h
  | b :: r => by
    rw [hd_cons]
    exact own_nn (hd_nn h r)
/-- something always leads on from height 0 -/
theorem hd_zero {L0 : List Int} (h : ∀ x ∈ L0, 0 ≤ x) (h0 : 0 < geti L0 0) (hl : 0 < L0.length) : ∀ bs : List Bool, 0 < geti (hd L0 bs) 0
  | [] => h0
  | b :: r => by
    have ih := hd_zero h h0 hl r
    have e := own_at (b := b) (L := hd L0 r) (h := 0) (by rw [hd_len]; exact hl)
    rw [hd_cons]
    have e' : geti (own b (hd L0 r)) 0 = geti (own b (hd L0 r)) ((0 : Nat) : Int) := rfl
    rw [e', e]
    have n1 := geti_nn (hd_nn h r) (((0 : Nat) : Int) + (rise b - 1))
    have n2 := geti_nn (hd_nn h r) (((0 : Nat) : Int) + (rise b + 1))
    cases b with
    | true =>
      have : (((0 : Nat) : Int) + (rise true - 1)) = 0 := rfl
      rw [this] at n1 ⊢
      omega
    | false =>
      have : (((0 : Nat) : Int) + (rise false + 1)) = 0 := rfl
      rw [this] at n2 ⊢
      omega
theorem geti_at {L : List Int} {j : Nat} (h : j < L.length) : atI (L.map V.int) (j : Int) = some (.int (geti L (j : Int))) := atI_nat (by
  unfold geti
  rw [if_pos ⟨by omega, by omega⟩, List.getElem?_map, List.getD_eq_getElem?_getD, Int.toNat_natCast, List.getElem?_eq_getElem h]
  rfl)
/-! ### lists of lists -/
def Lsts (H : Hp) (o : Addr) : List (List Int) → List V → Prop
  | [], vs => vs = []
  | L :: r, vs => ∃ p vr, vs = .ref p :: vr ∧ p ≠ o ∧ H p = some (.lst (L.map V.int)) ∧ Lsts H o r vr
theorem lsts_same {H H' : Hp} {o : Addr} (s : Same H H') : ∀ {Ls : List (List Int)} {vs : List V}, Lsts H o Ls vs → Lsts H' o Ls vs
  | [], _, h => h
  | L :: r, _, ⟨p, vr, e, n, h1, h2⟩ => ⟨p, vr, e, n, s _ _ h1, lsts_same s h2⟩
theorem lsts_upd {H : Hp} {o : Addr} {x : HO} : ∀ {Ls : List (List Int)} {vs : List V}, Lsts H o Ls vs → Lsts (upd H o x) o Ls vs
  | [], _, h => h
  | L :: r, _, ⟨p, vr, e, n, h1, h2⟩ => ⟨p, vr, e, n, by rw [upd_ne n]; exact h1, lsts_upd h2⟩
theorem lsts_len {H : Hp} {o : Addr} : ∀ {Ls : List (List Int)} {vs : List V}, Lsts H o Ls vs → vs.length = Ls.length
  | [], _, h => by
    cases h
    rfl
  | L :: r, _, ⟨p, vr, e, _, _, h2⟩ => by rw [e, List.length_cons, List.length_cons, lsts_len h2]
theorem lsts_at {H : Hp} {o : Addr} : ∀ {Ls : List (List Int)} {vs : List V} {k : Nat} {L : List Int}, Lsts H o Ls vs → Ls[k]? = some L → ∃ p, vs[k]? = some (.ref p) ∧ H p = some (.lst (L.map V.int))
  | [], _, k, L, h, e => by simp at e
  | M :: r, _, 0, L, ⟨p, vr, ev, _, h1, h2⟩, e => by
    have : M = L := Option.some.inj e
    subst this
    exact ⟨p, by rw [ev]; rfl, h1⟩
  | M :: r, _, k + 1, L, ⟨p, vr, ev, _, h1, h2⟩, e => by
    obtain ⟨p', e1, e2⟩ := lsts_at (k := k) h2 e
    exact ⟨p', by rw [ev]; exact e1, e2⟩
end HopR

set_option Elab.async false
set_option linter.all false
set_option maxRecDepth 100000
namespace HopR
open PySem L2
/-! ### lists of new tuples -/
def TupG {α : Type} (H : Hp) (f : α → List V) : List α → List V → Prop
  | [], vs => vs = []
  | a :: r, vs => ∃ p vr, vs = .ref p :: vr ∧ H p = some (.tup (f a)) ∧ TupG H f r vr
section
variable {α : Type} {H H' : Hp} {f : α → List V}
theorem tupG_same (s : Same H H') : ∀ {as : List α} {vs : List V}, TupG H f as vs → TupG H' f as vs
  | [], _, h => h
  | _ :: _, _, ⟨p, vr, e, h1, h2⟩ => ⟨p, vr, e, s _ _ h1, tupG_same s h2⟩
theorem tupG_upd {D : Addr} {xs : List V} {o : HO} (hD : H D = some (.lst xs)) : ∀ {as : List α} {vs : List V}, TupG H f as vs → TupG (upd H D o) f as vs
  | [], _, h => h
  | _ :: _, _, ⟨p, vr, e, h1, h2⟩ => ⟨p, vr, e, by
      rw [upd_ne (fun z => by rw [z, hD] at h1; cases h1)]
      exact h1, tupG_upd hD h2⟩
theorem tupG_add {a : α} {p : Addr} (h1 : H p = some (.tup (f a))) : ∀ {as : List α} {vs : List V}, TupG H f as vs → TupG H f (as ++ [a]) (vs ++ [.ref p])
  | [], _, h => by
    cases h
    exact ⟨p, [], rfl, h1, rfl⟩
  | _ :: _, _, ⟨p', vr, e, h2, h3⟩ => ⟨p', vr ++ [.ref p], by rw [e]; rfl, h2, tupG_add h1 h3⟩
theorem tupG_len : ∀ {as : List α} {vs : List V}, TupG H f as vs → vs.length = as.length
  | [], _, h => by
    cases h
    rfl
  | _ :: _, _, ⟨_, vr, e, _, h2⟩ => by rw [e, List.length_cons, List.length_cons, tupG_len h2]
theorem tupG_at : ∀ {as : List α} {vs : List V} {k : Nat} {a : α}, TupG H f as vs → as[k]? = some a → ∃ p, vs[k]? = some (.ref p) ∧ H p = some (.tup (f a))
  | [], _, k, a, h, e => by simp at e
  | b :: r, _, 0, a, ⟨p, vr, ev, h1, h2⟩, e => by
    have : b = a := Option.some.inj e
    subst this
    exact ⟨p, by rw [ev]; rfl, h1⟩
  | b :: r, _, k + 1, a, ⟨p, vr, ev, h1, h2⟩, e => by
    obtain ⟨p', e1, e2⟩ := tupG_at (k := k) h2 e
    exact ⟨p', by rw [ev]; exact e1, e2⟩
end
/-! ### from height to height -/
theorem geti_pos {L : List Int} {i : Int} (h : 0 < geti L i) : 0 ≤ i ∧ i < (L.length : Int) := by
  unfold geti at h
  split at h
  · assumption
  · omega
/-- the sign l leads on from height h -/
def leads (L : List Int) (h : Int) (u l : Bool) : Bool := decide (0 ≤ h + rise u + rise l) && decide (0 < geti L (h + rise u + rise l))
theorem some_leads {L : List Int} {h : Nat} {u : Bool} (hh : h < L.length) (hp : 0 < geti (own u L) (h : Int)) : ∃ l, leads L (h : Int) u l = true := by
  rw [own_at hh] at hp
  by_cases h1 : 0 < geti L ((h : Int) + (rise u - 1))
  · refine ⟨false, ?_⟩
    have e : (h : Int) + rise u + rise false = (h : Int) + (rise u - 1) := by
      show (h : Int) + rise u + (-1) = _
      omega
    unfold leads
    rw [e, decide_eq_true (geti_pos h1).1, decide_eq_true h1]
    rfl
  · have h2 : 0 < geti L ((h : Int) + (rise u + 1)) := by omega
    refine ⟨true, ?_⟩
    have e : (h : Int) + rise u + rise true = (h : Int) + (rise u + 1) := by
      show (h : Int) + rise u + 1 = _
      omega
    unfold leads
    rw [e, decide_eq_true (geti_pos h2).1, decide_eq_true h2]
    rfl
end HopR

set_option Elab.async false
set_option linter.all false
set_option maxRecDepth 100000
namespace HopW
open PySem L2 HopR HopT
/-- an end: what stands in its tuple -/
def f3i (e : En) : List V := [.int (e.1.1 : Int), .int (e.1.2 : Int), .int e.2]
theorem paired_imp {α β : Type} {R S : α → β → Prop} (h : ∀ a b, R a b → S a b) : ∀ {l : List α} {m : List β}, Paired R l m → Paired S l m
  | _, _, .nil => .nil
  | _, _, .cons r t => .cons (h _ _ r) (paired_imp h t)
theorem paired_snoc {α β : Type} {R : α → β → Prop} {a : α} {b : β} : ∀ {l : List α} {m : List β}, Paired R l m → R a b → Paired R (l ++ [a]) (m ++ [b])
  | _, _, .nil, h => .cons h .nil
  | _, _, .cons r t, h => .cons r (paired_snoc t h)
theorem paired_left {α β : Type} {R : α → β → Prop} : ∀ {l : List α} {m : List β}, Paired R l m → ∀ a ∈ l, ∃ b, b ∈ m ∧ R a b
  | _, _, .nil, a, h => absurd h (by simp)
  | x :: l, _, .cons r t, a, h => by
    rcases List.mem_cons.mp h with rfl | h
    · exact ⟨_, List.mem_cons_self .., r⟩
    · obtain ⟨b, m, q⟩ := paired_left t a h
      exact ⟨b, List.mem_cons_of_mem _ m, q⟩
theorem paired_perm {α β : Type} {R : α → β → Prop} {k l : List α} (p : k.Perm l) : ∀ {m : List β}, Paired R l m → ∃ m', m'.Perm m ∧ Paired R k m' := by
  induction p with
  | nil => exact fun h => ⟨_, .refl _, h⟩
  | cons x _ ih =>
    intro m h
    cases h with
    | cons r t =>
      obtain ⟨m', p', h'⟩ := ih t
      exact ⟨_, p'.cons _, .cons r h'⟩
  | swap x y l =>
    intro m h
    cases h with
    | cons r t =>
      cases t with
      | cons r' t => exact ⟨_, .swap _ _ _, .cons r' (.cons r t)⟩
  | trans _ _ ih1 ih2 =>
    intro m h
    obtain ⟨m1, p1, h1⟩ := ih2 h
    obtain ⟨m2, p2, h2⟩ := ih1 h1
    exact ⟨m2, p2.trans p1, h2⟩
theorem paired_len {α β : Type} {R : α → β → Prop} : ∀ {l : List α} {m : List β}, Paired R l m → l.length = m.length
  | _, _, .nil => rfl
  | _, _, .cons _ t => congrArg (· + 1) (paired_len t)
theorem paired_right {α β : Type} {R : α → β → Prop} : ∀ {l : List α} {m : List β}, Paired R l m → ∀ b ∈ m, ∃ a, a ∈ l ∧ R a b
  | _, _, .nil, b, h => absurd h (by simp)
  | _, y :: m, .cons r t, b, h => by
    rcases List.mem_cons.mp h with rfl | h
    · exact ⟨_, List.mem_cons_self .., r⟩
    · obtain ⟨a, mm, q⟩ := paired_right t b h
      exact ⟨a, List.mem_cons_of_mem _ mm, q⟩
theorem paired_pw {α β : Type} {R : α → β → Prop} {S : α → α → Prop} {S' : β → β → Prop} (h : ∀ a b a' b', R a b → R a' b' → S a a' → S' b b') : ∀ {l : List α} {m : List β}, Paired R l m → l.Pairwise S → m.Pairwise S'
  | _, _, .nil, _ => .nil
  | _, _, .cons r t, p => by
    have p' := List.pairwise_cons.mp p
    refine List.pairwise_cons.mpr ⟨fun b hb => ?_, paired_pw h t p'.2⟩
    obtain ⟨a, ha, ra⟩ := paired_right t b hb
    exact h _ _ _ _ r ra (p'.1 a ha)
/-- what three ints stand at t -/
def trK (H : Hp) (t : Addr) : T3 := match H t with
  | some (.tup [.int a, .int b, .int c]) => (a, b, c)
  | _ => (0, 0, 0)
theorem trK_at {H : Hp} {t : Addr} {e : En} (h : H t = some (.tup (f3i e))) : trK H t = ((e.1.1 : Int), (e.1.2 : Int), e.2) := by
  unfold trK
  rw [h]
  rfl
theorem srt_keys {H : Hp} {ts : List Addr} {G : List En} (pr : Paired (fun t e => H t = some (.tup (f3i e))) ts G) : ∀ t ∈ ts, H t = some (.tup [.int (trK H t).1, .int (trK H t).2.1, .int (trK H t).2.2]) := fun t ht => by
  obtain ⟨e, _, h⟩ := paired_left pr t ht
  rw [trK_at h]
  exact h
theorem srt_ends {H : Hp} {ys : List Addr} {G : List En} (pr : Paired (fun t e => H t = some (.tup (f3i e))) ys G) (h : ys.Pairwise (fun x y => lexT (trK H y) (trK H x) = false)) : G.Pairwise le3 := by
  refine paired_pw (fun a b a' b' r r' s => ?_) pr h
  rw [trK_at r, trK_at r'] at s
  have s := lexT_no.mp s
  obtain ⟨⟨a, b⟩, c⟩ := b
  obtain ⟨⟨a', b'⟩, c'⟩ := b'
  have s : ¬ ((a' : Int) < a ∨ ((a' : Int) = a ∧ ((b' : Int) < b ∨ ((b' : Int) = b ∧ c' < c)))) := s
  show a < a' ∨ a = a' ∧ (b < b' ∨ b = b' ∧ c ≤ c')
  omega
theorem tupG_of {H : Hp} : ∀ {ts : List Addr} {G : List En}, Paired (fun t e => H t = some (.tup (f3i e))) ts G → TupG H f3i G (ts.map V.ref)
  | _, _, .nil => rfl
  | _, _, .cons r t => ⟨_, _, rfl, r, tupG_of t⟩
/-! ### a list of ends as data -/
def dE (G : List En) : PyData := .list (G.map fun e => .tuple [.int (e.1.1 : Int), .int (e.1.2 : Int), .int e.2])
theorem dp_ends {K : PySem.W.Frag} {H : Hp} : ∀ {G : List En} {vs : List V}, TupG H f3i G vs → DpAll K H vs (G.map fun e => .tuple [.int (e.1.1 : Int), .int (e.1.2 : Int), .int e.2])
  | [], _, h => by
    cases h
    exact .nil
  | e :: G, _, ⟨p, vr, ev, h1, h2⟩ => by
    rw [ev]
    exact .cons (.tup (SqT.of h1) (.cons (.int _) (.cons (.int _) (.cons (.int _) .nil)))) (dp_ends h2)
theorem dE_of {K : PySem.W.Frag} {H : Hp} {p : Addr} {vs : List V} {G : List En} (e : H p = some (.lst vs)) (g : TupG H f3i G vs) : Dp K H (.ref p) (dE G) := .lst (SqL.of e) (dp_ends g)
theorem lay_ends : ∀ G : List En, PyData.canLayAll0 (G.map fun e => .tuple [.int (e.1.1 : Int), .int (e.1.2 : Int), .int e.2]) = true
  | [] => rfl
  | e :: G => by
    rw [List.map_cons]
    simp only [PyData.canLayAll0, PyData.canLay0, lay_ends G, Bool.and_true]
theorem deep_ends : ∀ G : List En, PyData.depthAll (G.map fun e => .tuple [.int (e.1.1 : Int), .int (e.1.2 : Int), .int e.2]) ≤ 1
  | [] => Nat.zero_le _
  | e :: G => by
    rw [List.map_cons]
    have := deep_ends G
    simp only [PyData.depthAll, PyData.depth]
    omega
theorem dE_shaped (G : List En) : SeqAt.shaped (dE G) = true := by
  unfold SeqAt.shaped dE
  rw [Bool.and_eq_true]
  refine ⟨by simp only [PyData.canLay0, lay_ends], decide_eq_true ?_⟩
  have := deep_ends G
  simp only [PyData.depth]
  omega
theorem dE_self (G : List En) : PyData.eqv (dE G) (dE G) = true := SeqAt.eqv_refl _ (SeqAt.canLay_of_shaped (dE_shaped G))
theorem okd_ends : ∀ {G : List En}, (∀ e ∈ G, e.1.1 < 1000 ∧ e.1.2 < 1000 ∧ e.2.natAbs < 1000000000000) → Okds (G.map fun e => .tuple [.int (e.1.1 : Int), .int (e.1.2 : Int), .int e.2]) 1 (127 * G.length)
  | [], _ => Okds.nil
  | e :: G, h => by
    obtain ⟨h1, h2, h3⟩ := h e (List.mem_cons_self ..)
    have a1 : Okd (.int (e.1.1 : Int)) 0 41 := Okd.int (by omega)
    have a2 : Okd (.int (e.1.2 : Int)) 0 41 := Okd.int (by omega)
    have a3 : Okd (.int e.2) 0 41 := Okd.int h3
    have t := (Okds.cons a1 (Okds.cons a2 (Okds.cons a3 Okds.nil))).tuple
    have r := Okds.cons t (okd_ends (G := G) (fun e m => h e (List.mem_cons_of_mem _ m)))
    rw [List.length_cons, show 127 * (G.length + 1) = (41 + 1 + (41 + 1 + (41 + 1 + 0))) + 1 + 127 * G.length by omega]
    exact r
theorem okd_dE {G : List En} (h : ∀ e ∈ G, e.1.1 < 1000 ∧ e.1.2 < 1000 ∧ e.2.natAbs < 1000000000000) : Okd (dE G) 2 (127 * G.length) := (okd_ends h).list
theorem eN_near {w : List Bool} (hw : w.length ≤ 30) (hl : ∀ e ∈ eN w, e.1.1 < 1000 ∧ e.1.2 < 1000) : ∀ e ∈ eN w, e.1.1 < 1000 ∧ e.1.2 < 1000 ∧ e.2.natAbs < 1000000000000 := fun e he => by
  obtain ⟨h1, h2⟩ := hl e he
  refine ⟨h1, h2, Nat.lt_of_le_of_lt (eN_most he).2 (Nat.lt_of_le_of_lt (Nat.pow_le_pow_right (by decide) hw) (by decide))⟩
end HopW

set_option Elab.async false
set_option linter.all false
set_option maxRecDepth 100000
namespace HopH
open PySem PySem.Spec PyProof.Rows L2 HopR HopT
/-! ### lists of pairs and of triples in the machine -/
def t2v (c : Int × Int) : List V := [.int c.1, .int c.2]
def t3v (e : I3) : List V := [.int e.1, .int e.2.1, .str (tx [e.2.2])]
def k3 (e : I3) : List Key := [.inl e.1, .inl e.2.1, .inr (tx [e.2.2])]
/-- at p a list of new tuples -/
def TL {α : Type} (f : α → List V) (H : Hp) (p : Addr) (l : List α) : Prop := ∃ acc, H p = some (.lst acc) ∧ TupG H f l acc
theorem TL.same {α : Type} {f : α → List V} {H H' : Hp} {p : Addr} {l : List α} (s : Same H H') (h : TL f H p l) : TL f H' p l := let ⟨acc, e, g⟩ := h; ⟨acc, s _ _ e, tupG_same s g⟩
theorem tupG_item {α : Type} {H : Hp} {f : α → List V} : ∀ {as : List α} {vs : List V} {k : Nat} {x : V}, TupG H f as vs → vs[k]? = some x → ∃ a p, as[k]? = some a ∧ x = .ref p ∧ H p = some (.tup (f a))
  | [], _, k, x, h, e => by cases h; simp at e
  | a :: as, _, k, x, ⟨p, vr, ev, h1, h2⟩, e => by
    subst ev
    cases k with
    | zero => cases e; exact ⟨a, p, rfl, rfl, h1⟩
    | succ k => exact tupG_item (as := as) h2 e
theorem tupG_paired {α : Type} {H : Hp} {f : α → List V} : ∀ {as : List α} {vs : List V}, TupG H f as vs → Paired (fun v a => ∃ p, v = V.ref p ∧ H p = some (.tup (f a))) vs as
  | [], _, h => by cases h; exact .nil
  | a :: as, _, ⟨p, vr, ev, h1, h2⟩ => by subst ev; exact .cons ⟨p, rfl, h1⟩ (tupG_paired h2)
theorem tupG_back {α : Type} {H : Hp} {f : α → List V} : ∀ {as : List α} {vs : List V}, Paired (fun v a => ∃ p, v = V.ref p ∧ H p = some (.tup (f a))) vs as → TupG H f as vs
  | _, _, .nil => rfl
  | _, _, .cons ⟨p, e, h⟩ t => ⟨p, _, by rw [e], h, tupG_back t⟩
theorem paired_perm' {α β : Type} {R : α → β → Prop} {k l : List α} (p : k.Perm l) : ∀ {m : List β}, Paired R l m → ∃ m', m'.Perm m ∧ Paired R k m' := by
  induction p with
  | nil => exact fun h => ⟨_, .refl _, h⟩
  | cons x _ ih =>
    intro m h
    cases h with
    | cons r t =>
      obtain ⟨m', p', h'⟩ := ih t
      exact ⟨_, p'.cons _, .cons r h'⟩
  | swap x y l =>
    intro m h
    cases h with
    | cons r t =>
      cases t with
      | cons r' t => exact ⟨_, .swap _ _ _, .cons r' (.cons r t)⟩
  | trans _ _ ih1 ih2 =>
    intro m h
    obtain ⟨m1, p1, h1⟩ := ih2 h
    obtain ⟨m2, p2, h2⟩ := ih1 h1
    exact ⟨m2, p2.trans p1, h2⟩
theorem tupG_perm {α : Type} {H : Hp} {f : α → List V} {as : List α} {vs us : List V} (h : TupG H f as vs) (p : us.Perm vs) : ∃ bs, bs.Perm as ∧ TupG H f bs us := by
  obtain ⟨m, pm, h'⟩ := paired_perm' p (tupG_paired h)
  exact ⟨m, pm, tupG_back h'⟩
/-! ### sorted -/
def keyV? : V → Option Key
  | .int i => some (.inl i)
  | .str s => some (.inr s)
  | _ => none
def kOf (H : Hp) : V → List Key
  | .ref a => match H a with
    | some (.tup xs) => xs.filterMap keyV?
    | _ => []
  | _ => []
theorem keys_back : ∀ ks : List Key, (ks.map kV).filterMap keyV? = ks
  | [] => rfl
  | .inl i :: ks => by rw [List.map_cons]; show List.filterMap keyV? (V.int i :: _) = _; rw [List.filterMap_cons]; show _ :: _ = _; rw [keys_back ks]
  | .inr i :: ks => by rw [List.map_cons]; show List.filterMap keyV? (V.str i :: _) = _; rw [List.filterMap_cons]; show _ :: _ = _; rw [keys_back ks]
theorem kOf_at {H : Hp} {a : Addr} {ks : List Key} (e : H a = some (.tup (ks.map kV))) : kOf H (.ref a) = ks := by
  unfold kOf
  simp only [e]
  exact keys_back ks
theorem srtd_tup {α : Type} {H : Hp} {f : α → List V} {kf : α → List Key} (hf : ∀ a, f a = (kf a).map kV) : ∀ {as : List α} {vs : List V}, TupG H f as vs → SrtO.Srtd (ltV (kOf H)) vs → as.Pairwise fun x y => lexK (kf y) (kf x) = false
  | [], _, _, _ => .nil
  | a :: as, _, ⟨p, vr, ev, h1, h2⟩, h => by
    subst ev
    obtain ⟨h3, h4⟩ := List.pairwise_cons.mp h
    refine .cons (fun b mb => ?_) (srtd_tup hf h2 h4)
    obtain ⟨k, hk⟩ := List.mem_iff_getElem?.mp mb
    obtain ⟨q, e1, e2⟩ := tupG_at h2 hk
    have := h3 _ (List.mem_iff_getElem?.mpr ⟨k, e1⟩)
    unfold ltV at this
    rw [kOf_at (a := q) (ks := kf b) (by rw [e2, hf]), kOf_at (a := p) (ks := kf a) (by rw [h1, hf])] at this
    exact this
/-- sorted(xs), xs a list of tuples alike in their kinds, each told by an α -/
def rSortedA {α : Type} (f : α → List V) (kf : α → List Key) : List V → Hp → VK → Prop := fun vs H Q => ∃ (a : Addr) (l : List α), vs = [V.ref a] ∧ TL f H a l ∧
  ∀ l' p H', l'.Perm l → (l'.Pairwise fun x y => lexK (kf y) (kf x) = false) → Same H H' → H p = none → TL f H' p l' → Q (.ref p) H'
theorem cr_sortedA {X : Cx} {α : Type} {f : α → List V} {kf : α → List Key} (hf : ∀ a, f a = (kf a).map kV) {c : Bool} {κs : List Bool} (hk : ∀ a, (kf a).map kindK = c :: κs) : CallR X (.builtin "sorted") (rSortedA f kf) := by
  intro pins s σ H vs us Q I r h
  obtain ⟨a, l, rfl, ⟨acc, ea, g⟩, q⟩ := h
  refine cr_sortedTK pins s σ H _ us Q I r ⟨a, acc, kOf H, c, κs, rfl, SqL.of ea, fun x mx => ?_, fun ys p so pm np => ?_⟩
  · obtain ⟨i, hi⟩ := List.mem_iff_getElem?.mp mx
    obtain ⟨b, t, _, rfl, et⟩ := tupG_item g hi
    have e2 : H t = some (.tup ((kf b).map kV)) := by rw [et, hf]
    refine ⟨t, rfl, ?_, ?_⟩
    · rw [kOf_at e2]; exact e2
    · rw [kOf_at e2]; exact hk b
  · obtain ⟨bs, pb, gb⟩ := tupG_perm g pm
    exact q bs p _ pb (srtd_tup hf gb so) (same_upd np) np ⟨ys, upd_same, tupG_same (same_upd np) gb⟩
theorem t3v_key (e : I3) : t3v e = (k3 e).map kV := rfl
theorem cr_sorted3 {X : Cx} : CallR X (.builtin "sorted") (rSortedA t3v k3) := cr_sortedA (c := true) (κs := [true, false]) t3v_key fun _ => rfl
theorem lex3 {x y : I3} (h : lexK (k3 y) (k3 x) = false) : ¬ ltP2 (pr3 y) (pr3 x) := by
  intro l
  obtain ⟨x1, x2, x3⟩ := x
  obtain ⟨y1, y2, y3⟩ := y
  unfold ltP2 pr3 at l
  have l : y1 < x1 ∨ y1 = x1 ∧ y2 < x2 := l
  unfold k3 lexK at h
  by_cases e1 : y1 = x1
  · rw [if_pos (congrArg Sum.inl e1)] at h
    unfold lexK at h
    have h2 : y2 < x2 := by omega
    rw [if_neg (fun z => by have := Sum.inl.inj z; omega)] at h
    have := of_decide_eq_false h
    omega
  · rw [if_neg (fun z => e1 (Sum.inl.inj z))] at h
    have := of_decide_eq_false h
    omega
theorem sorted_pairs {R : List T3} (nd : (R.map fun e => (e.1, e.2.1)).Nodup) {ts : List I3} (p : ts.Perm (R.map c3)) (so : ts.Pairwise fun x y => lexK (k3 y) (k3 x) = false) : (ts.map pr3).Pairwise ltP2 := pairs_lt nd p (so.imp lex3)
/-! ### as data -/
def d2 (c : Int × Int) : PyData := .tuple [.int c.1, .int c.2]
def d3 (e : I3) : PyData := .tuple [.int e.1, .int e.2.1, .str (tx [e.2.2])]
theorem dp2 {K : PySem.W.Frag} {H : Hp} : ∀ {l : List (Int × Int)} {vs : List V}, TupG H t2v l vs → DpAll K H vs (l.map d2)
  | [], _, h => by cases h; exact .nil
  | e :: G, _, ⟨p, vr, ev, h1, h2⟩ => by
    rw [ev]
    exact .cons (.tup (SqT.of h1) (.cons (.int _) (.cons (.int _) .nil))) (dp2 h2)
theorem dp3 {K : PySem.W.Frag} {H : Hp} : ∀ {l : List I3} {vs : List V}, TupG H t3v l vs → DpAll K H vs (l.map d3)
  | [], _, h => by cases h; exact .nil
  | e :: G, _, ⟨p, vr, ev, h1, h2⟩ => by
    rw [ev]
    exact .cons (.tup (SqT.of h1) (.cons (.int _) (.cons (.int _) (.cons (.str _) .nil)))) (dp3 h2)
theorem tl_d2 {K : PySem.W.Frag} {H : Hp} {p : Addr} {l : List (Int × Int)} (h : TL t2v H p l) : Dp K H (.ref p) (.list (l.map d2)) := let ⟨_, e, g⟩ := h; .lst (SqL.of e) (dp2 g)
theorem tl_d3 {K : PySem.W.Frag} {H : Hp} {p : Addr} {l : List I3} (h : TL t3v H p l) : Dp K H (.ref p) (.list (l.map d3)) := let ⟨_, e, g⟩ := h; .lst (SqL.of e) (dp3 g)
theorem lay2 : ∀ l : List (Int × Int), PyData.canLayAll0 (l.map d2) = true
  | [] => rfl
  | e :: G => by
    rw [List.map_cons]
    unfold d2
    simp only [PyData.canLayAll0, PyData.canLay0, Bool.and_true]
    exact lay2 G
theorem deep2 : ∀ l : List (Int × Int), PyData.depthAll (l.map d2) ≤ 1
  | [] => Nat.zero_le _
  | e :: G => by
    rw [List.map_cons]
    have := deep2 G
    unfold d2 at this ⊢
    simp only [PyData.depthAll, PyData.depth]
    omega
theorem shaped2 (l : List (Int × Int)) : SeqAt.shaped (.list (l.map d2)) = true := by
  unfold SeqAt.shaped
  rw [Bool.and_eq_true]
  refine ⟨by simp only [PyData.canLay0, lay2], decide_eq_true ?_⟩
  have := deep2 l
  simp only [PyData.depth]
  omega
theorem lay3 : ∀ l : List I3, PyData.canLayAll0 (l.map d3) = true
  | [] => rfl
  | e :: G => by
    rw [List.map_cons]
    have ok : PyData.strOk (tx [e.2.2]) = true := by cases e.2.2 <;> decide +kernel
    have ih := lay3 G
    unfold d3 at ih ⊢
    simp only [PyData.canLayAll0, PyData.canLay0, Bool.and_true, ok, ih]
theorem deep3 : ∀ l : List I3, PyData.depthAll (l.map d3) ≤ 1
  | [] => Nat.zero_le _
  | e :: G => by
    rw [List.map_cons]
    have := deep3 G
    unfold d3 at this ⊢
    simp only [PyData.depthAll, PyData.depth]
    omega
theorem shaped3 (l : List I3) : SeqAt.shaped (.list (l.map d3)) = true := by
  unfold SeqAt.shaped
  rw [Bool.and_eq_true]
  refine ⟨by simp only [PyData.canLay0, lay3], decide_eq_true ?_⟩
  have := deep3 l
  simp only [PyData.depth]
  omega
theorem eqv2 (c c' : Int × Int) : PyData.eqv (d2 c) (d2 c') = decide (c = c') := by
  obtain ⟨a, b⟩ := c
  obtain ⟨a', b'⟩ := c'
  unfold d2
  simp only [PyData.eqv, PyData.eqvAll, Bool.and_true]
  by_cases h1 : a = a' <;> by_cases h2 : b = b' <;> simp [h1, h2]
theorem eqvL2 : ∀ l m : List (Int × Int), PyData.eqvAll (l.map d2) (m.map d2) = decide (l = m)
  | [], [] => rfl
  | [], _ :: _ => by simp [PyData.eqvAll]
  | _ :: _, [] => by simp [PyData.eqvAll]
  | x :: l, y :: m => by
    rw [List.map_cons, List.map_cons]
    simp only [PyData.eqvAll, eqv2, eqvL2 l m]
    by_cases h1 : x = y <;> by_cases h2 : l = m <;> simp [h1, h2]
theorem eqvT2 (l m : List (Int × Int)) : PyData.eqv (.list (l.map d2)) (.list (m.map d2)) = decide (l = m) := by
  rw [← eqvL2]
  simp only [PyData.eqv]
/-! ### the nearest ones, as the list is gone through -/
theorem nbI_snoc (ts : List I3) (e : I3) (f : Int) : nbI (ts ++ [e]) f = if e.2.1 = f ∧ e.2.2 = true then some e.1 else nbI ts f := by
  unfold nbI
  rw [List.filter_append]
  by_cases h : e.2.1 = f ∧ e.2.2 = true
  · rw [if_pos h, List.filter_cons_of_pos (by simp [h]), List.filter_nil, List.getLast?_concat]
    rfl
  · rw [if_neg h, List.filter_cons_of_neg (by simpa using h), List.filter_nil, List.append_nil]
theorem nfI_snoc (ts : List I3) (e : I3) (b : Int) : nfI (ts ++ [e]) b = match nfI ts b with | some x => some x | none => if e.1 = b ∧ e.2.2 = false then some e.2.1 else none := by
  unfold nfI
  rw [List.filter_append]
  cases h : ts.filter (fun e => decide (e.1 = b) && !e.2.2) with
  | cons x l => rfl
  | nil =>
    rw [List.nil_append]
    show _ = if e.1 = b ∧ e.2.2 = false then some e.2.1 else none
    by_cases h : e.1 = b ∧ e.2.2 = false
    · rw [if_pos h, List.filter_cons_of_pos (by simp [h])]; rfl
    · rw [if_neg h, List.filter_cons_of_neg (by simpa using h)]; rfl
theorem nbI_nil (f : Int) : nbI [] f = none := rfl
theorem nfI_nil (f : Int) : nfI [] f = none := rfl
/-! ### the places of beads, of free places, from the left -/
def plsTo (v : Bool) (bs : List Bool) (i : Nat) : List Nat := (List.range i).filter fun p => bs[p]? == some v
theorem plsTo_step {v b : Bool} {bs : List Bool} {i : Nat} (h : bs[i]? = some b) : plsTo v bs (i + 1) = plsTo v bs i ++ (if b = v then [i] else []) := by
  unfold plsTo
  rw [List.range_succ, List.filter_append]
  by_cases e : b = v
  · rw [if_pos e, List.filter_cons_of_pos (by rw [h, e]; simp), List.filter_nil]
  · rw [if_neg e, List.filter_cons_of_neg (by rw [h]; simpa using e), List.filter_nil]
theorem plsTo_len (v : Bool) (bs : List Bool) (i : Nat) : (plsTo v bs i).length ≤ i := by
  unfold plsTo
  exact Nat.le_trans (List.length_filter_le _ _) (by rw [List.length_range]; exact Nat.le_refl _)
/-! ### cells, row by row -/
def cellsTo (bs : List Bool) (B : List Nat) (F : List Nat) : List (Nat × Nat) := B.flatMap fun b => (F.filter fun f => decide (b < f)).map fun f => (b, f)
theorem cellsN_eq (bs : List Bool) : cellsN bs = cellsTo bs (plsTo true bs bs.length) (plsTo false bs bs.length) := rfl
end HopH

set_option Elab.async false
set_option linter.all false
set_option maxRecDepth 100000
/-! ### what a sum comes to at last, whatever was shortened first -/
namespace HopW
open PySem L2 HopR HopT
theorem shp_cons (c : Bool) (r : List Bool) (i : Nat) : shp (c :: r) (i + 1) = shp r i := rfl
theorem plc_tail {c : Bool} {r : List Bool} (h : plc (c :: r) = []) : plc r = [] := by
  rw [List.eq_nil_iff_forall_not_mem] at h ⊢
  intro k hk
  obtain ⟨a, b⟩ := plc_shp hk
  exact h (k + 1) (List.mem_filter.mpr ⟨List.mem_range.mpr (by rw [List.length_cons]; omega), a⟩)
/-- a word in which nothing can be shortened -/
theorem fin_form : ∀ {u : List Bool}, plc u = [] → u = List.replicate (u.count false) false ++ List.replicate (u.count true) true
  | [], _ => rfl
  | false :: r, h => by
    have ih := fin_form (plc_tail h)
    rw [List.count_cons_self, List.count_cons_of_ne (by decide), List.replicate_succ, List.cons_append, ← ih]
  | true :: r, h => by
    have ih := fin_form (plc_tail h)
    rw [List.count_cons_self, List.count_cons_of_ne (by decide), List.replicate_succ]
    cases hc : r.count false with
    | zero =>
      rw [hc] at ih
      have ih : r = List.replicate (r.count true) true := ih
      show true :: r = true :: List.replicate (r.count true) true
      rw [← ih]
    | succ m =>
      rw [hc, List.replicate_succ] at ih
      exfalso
      rw [List.eq_nil_iff_forall_not_mem] at h
      refine h 0 (List.mem_filter.mpr ⟨List.mem_range.mpr (Nat.succ_pos _), ?_⟩)
      rw [ih]
      rfl
theorem fin_all {B : Tal} (h : (!(B.any fun p => !(plc p.1).isEmpty)) = true) : ∀ p ∈ B, plc p.1 = [] := fun p hp => by
  cases e : plc p.1 with
  | nil => rfl
  | cons a r =>
    have : (B.any fun p => !(plc p.1).isEmpty) = true := List.any_eq_true.mpr ⟨p, hp, by rw [e]; rfl⟩
    rw [this] at h
    cases h
theorem ds_dz (φ : List Bool → Rat) {k : List Bool} : ∀ {T : Tal}, Once T → ds φ (dz k T) + (gz k T : Rat) * φ k = ds φ T
  | [], _ => by show 0 + ((0 : Int) : Rat) * φ k = 0; grind
  | (j, v) :: l, o => by
    have o' : (j :: l.map (·.1)).Nodup := o
    obtain ⟨n1, n2⟩ := List.nodup_cons.mp o'
    by_cases e : j = k
    · subst e
      obtain ⟨a, _⟩ := dz_no n1
      have e1 : dz j ((j, v) :: l) = l := by
        unfold dz at *
        rw [List.filter_cons, if_neg (by simp), a]
      have e2 : gz j ((j, v) :: l) = v := by
        show (if j = j then v else gz j l) = v
        rw [if_pos rfl]
      rw [e1, e2]
      show ds φ l + (v : Rat) * φ j = (v : Rat) * φ j + ds φ l
      grind
    · have e1 : dz k ((j, v) :: l) = (j, v) :: dz k l := by
        unfold dz
        rw [List.filter_cons, if_pos (by simpa using e)]
      have e2 : gz k ((j, v) :: l) = gz k l := by
        show (if j = k then v else gz k l) = gz k l
        rw [if_neg e]
      rw [e1, e2]
      show (v : Rat) * φ j + ds φ (dz k l) + (gz k l : Rat) * φ k = (v : Rat) * φ j + ds φ l
      have := ds_dz φ (k := k) n2
      grind
/-- a step changes no weight -/
theorem ds_stp (F : Nat → Nat → Rat) {T : Tal} {u : List Bool} {k : Nat} (o : Once T) (hk : k ∈ plc u) : ds (wF F) (stp T u k) = ds (wF F) T := by
  unfold stp
  obtain ⟨e, _⟩ := shp_split (plc_shp hk).1
  have w := wF_of F (u.take k) (u.drop (k + 2))
  rw [← e] at w
  have ea : shA u k = u.take k ++ true :: u.drop (k + 2) := by rw [shA_eq hk, List.append_assoc]; rfl
  have eb : shB u k = u.take k ++ false :: u.drop (k + 2) := by rw [shB_eq hk, List.append_assoc]; rfl
  rw [ds_pz, ds_pz, ea, eb]
  have := ds_dz (wF F) (k := u) o
  grind
/-- the sum weighs what its first word does -/
def Bal (bs : List Bool) (B : Tal) : Prop := ∀ F : Nat → Nat → Rat, ds (wF F) B = wF F bs
theorem Bal.one (bs : List Bool) : Bal bs [(bs, 1)] := fun F => by
  show ((1 : Int) : Rat) * wF F bs + 0 = wF F bs
  have : ((1 : Int) : Rat) = 1 := rfl
  grind
theorem Bal.step {bs : List Bool} {T : Tal} {u : List Bool} {k : Nat} (b : Bal bs T) (to : TO T) (hk : k ∈ plc u) : Bal bs (stp T u k) := fun F => (ds_stp F to.once hk).trans (b F)
def ef (u : List Bool) : Nat × Nat := (u.count false, u.count true)
def endsB (B : Tal) : List En := B.map fun p => (ef p.1, p.2)
theorem wF_fin (F : Nat → Nat → Rat) {u : List Bool} (h : plc u = []) : wF F u = F (u.count false) (u.count true) := by
  have e := fin_form h
  generalize u.count false = f at *
  generalize u.count true = b at *
  rw [e]
  exact wF_rest F f b
theorem ds_ends (F : Nat → Nat → Rat) : ∀ {B : Tal}, (∀ p ∈ B, plc p.1 = []) → ds (φF F) (endsB B) = ds (wF F) B
  | [], _ => rfl
  | (j, v) :: l, h => by
    show (v : Rat) * F (j.count false) (j.count true) + ds (φF F) (endsB l) = (v : Rat) * wF F j + ds (wF F) l
    rw [ds_ends F fun p hp => h p (List.mem_cons_of_mem _ hp), wF_fin F (h (j, v) (List.mem_cons_self ..))]
instance (p q : En) : Decidable (le3 p q) := by unfold le3; infer_instance
theorem le3_sort (G : List En) : ∃ G2 : List En, G2.Perm G ∧ G2.Pairwise le3 := by
  refine ⟨G.mergeSort fun a b => decide (le3 a b), List.mergeSort_perm .., (List.pairwise_mergeSort (fun a b c h1 h2 => ?_) (fun a b => ?_) G).imp fun h => of_decide_eq_true h⟩
  · have h1 := of_decide_eq_true h1
    have h2 := of_decide_eq_true h2
    refine decide_eq_true ?_
    unfold le3 at *
    omega
  · rw [Bool.or_eq_true, decide_eq_true_eq, decide_eq_true_eq]
    unfold le3
    omega
theorem ends_perm {bs : List Bool} {B : Tal} (to : TO B) (fin : ∀ p ∈ B, plc p.1 = []) (b : Bal bs B) : (endsB B).Perm (eN bs) := by
  obtain ⟨G2, pg, so⟩ := le3_sort (endsB B)
  have nd : ((endsB B).map (·.1)).Nodup := by
    have e : (endsB B).map (·.1) = (B.map (·.1)).map ef := by
      unfold endsB
      rw [List.map_map, List.map_map]
      rfl
    rw [e]
    refine List.pairwise_map.mpr (List.Pairwise.imp_of_mem ?_ to.once)
    intro a c ha hc ne h
    obtain ⟨p, hp, rfl⟩ := List.mem_map.mp ha
    obtain ⟨q, hq, rfl⟩ := List.mem_map.mp hc
    refine ne ?_
    injection h with h1 h2
    rw [fin_form (fin p hp), fin_form (fin q hq), h1, h2]
  have sd : Sd G2 := sd_of so ((pg.map (·.1)).nodup_iff.mpr nd) fun e he => by
    obtain ⟨p, hp, rfl⟩ := List.mem_map.mp (pg.mem_iff.mp he)
    have := (to.each p hp).1
    show 0 < p.2
    omega
  have e := eN_is sd fun F => (ds_permF _ pg).trans ((ds_ends F fin).trans (b F))
  rw [← e]
  exact pg.symm
/-! ### what is due -/
def wtx (e : En) : Str := tx (List.replicate e.1.1 false ++ List.replicate e.1.2 true)
def t3w (e : En) : List V := [.int ((e.1.1 : Int) + (e.1.2 : Int)), .str (wtx e), .int e.2]
def k3w (e : En) : List Key := [.inl ((e.1.1 : Int) + (e.1.2 : Int)), .inr (wtx e), .inl e.2]
theorem wtx_len (e : En) : (wtx e).length = e.1.1 + e.1.2 := by
  unfold wtx
  rw [tx_len, List.length_append, List.length_replicate, List.length_replicate]
theorem lsort_of {ks : List Str} (h : ks.Pairwise fun a b => PySem.W.dataLe false kof a b = true) : lsort ks = ks := List.mergeSort_of_pairwise h
theorem le_of_lex {x y : En} (h : lexK (k3w y) (k3w x) = false) : PySem.W.dataLe false kof (wtx x) (wtx y) = true := by
  rw [le_kof]
  refine decide_eq_true ?_
  rw [wtx_len, wtx_len]
  unfold k3w at h
  unfold lexK at h
  by_cases e : ((y.1.1 : Int) + (y.1.2 : Int)) = ((x.1.1 : Int) + (x.1.2 : Int))
  · rw [if_pos (by rw [e])] at h
    unfold lexK at h
    by_cases e2 : wtx y = wtx x
    · exact .inr ⟨by omega, by rw [e2]; exact List.le_refl _⟩
    · rw [if_neg fun z => e2 (Sum.inr.inj z)] at h
      have h := of_decide_eq_false h
      exact .inr ⟨by omega, List.not_lt.mp h⟩
  · rw [if_neg fun z => e (Sum.inl.inj z)] at h
    have h : decide (((y.1.1 : Int) + (y.1.2 : Int)) < ((x.1.1 : Int) + (x.1.2 : Int))) = false := h
    have h := of_decide_eq_false h
    exact .inl (by omega)
theorem due_keys {bs : List Bool} {B : Tal} (to : TO B) (fin : ∀ p ∈ B, plc p.1 = []) (b : Bal bs B) {l : List En} (p : l.Perm (eN bs)) (so : l.Pairwise fun x y => lexK (k3w y) (k3w x) = false) : l.map wtx = lsort (ktx B) := by
  rw [← lsort_of (ks := l.map wtx) (List.pairwise_map.mpr (so.imp le_of_lex))]
  refine lsort_eq ?_
  have h := (p.trans (ends_perm to fin b).symm).map wtx
  have e : (endsB B).map wtx = ktx B := by
    unfold endsB ktx
    rw [List.map_map]
    refine List.map_congr_left fun q hq => ?_
    show wtx (ef q.1, q.2) = tx q.1
    unfold wtx ef
    rw [← fin_form (fin q hq)]
  rw [← e]
  exact h
theorem due_mem {bs : List Bool} {B : Tal} (to : TO B) (fin : ∀ p ∈ B, plc p.1 = []) (b : Bal bs B) {l : List En} (p : l.Perm (eN bs)) {e : En} (he : e ∈ l) : ∃ u, wtx e = tx u ∧ (u, e.2) ∈ B := by
  have h := (p.trans (ends_perm to fin b).symm).mem_iff.mp he
  obtain ⟨q, hq, rfl⟩ := List.mem_map.mp h
  refine ⟨q.1, ?_, hq⟩
  show wtx (ef q.1, q.2) = tx q.1
  unfold wtx ef
  rw [← fin_form (fin q hq)]
end HopW

set_option Elab.async false
set_option linter.all false
set_option maxRecDepth 100000
namespace Hop
open PySem L2 HopR HopW
open C8 (InsC)
section
variable {P : Program} {w : World} {K : PySem.W.Frag} {mg : Str → Option Value} {base : Heap} {d : Addr} {es : Array DictEntry} {n : Nat} {NW NP S : Addr}
/-! ### Sum.__eq__ -/
def spSEq (K : PySem.W.Frag) (S : Addr) : Sp := fun vs H Q _ => ∃ (v p : Addr) (B : Tal) (y : V), vs = [.ref v, y] ∧ SK S H v p B ∧
  ((∃ (v2 p2 : Addr) (B2 : Tal), y = .ref v2 ∧ SK S H v2 p2 B2 ∧ Q (.bl (eqB B B2)) H) ∨ ((∃ t, TyX K H y t ∧ PySem.W.kitOne K t (.ref S) = some false) ∧ Q (.bl false) H))
theorem scSEq : FnScope ["self", "other"] ["self", "other"] (defScope sSEq) := ⟨rfl, rfl, rfl, by decide +kernel, rfl, by decide +kernel, by decide +kernel⟩
theorem ints_zv (B : Tal) : ∀ p ∈ zv ιw B, ∃ i : Int, p.2 = .int i := fun p hp => by
  obtain ⟨a, _, rfl⟩ := List.mem_map.mp hp
  exact ⟨_, rfl⟩
theorem ok_seq {f : Addr} {fd : FuncData} {k : Nat} (F : Fun K "__eq__" "Sum.__eq__" sSEq f fd) (gS : mg "Sum" = some (.ref S)) (I : InsC K S) (T : Txt K w mg d es n) (TS : TxtS K S) : FnOk P w K mg base CX0 (k + 1) f fd ["self", "other"] (spSEq K S) := by
  refine F.ok scSEq (fun vs H Q E h => ?_) (fun cdv A outer s H vs Q E hr h => ?_)
  · obtain ⟨v, p, B, y, rfl, _⟩ := h
    rfl
  · obtain ⟨v, p, B, y, rfl, ⟨⟨dx, e1⟩, e2⟩, h⟩ := h
    have hu : (A.deeper (PyProof.Rows.envOfC "Sum.__eq__" (defScope sSEq) s.heap.objs.size f cdv)).units < cLine := by have := hr.units; omega
    refine ⟨_, pss_one (ps_ret (pe_and (pe_callB call_isi (by rfl) T.isi (by decide +kernel) (pa_cons (pv 1) (pa_cons (pe_glob (v := .ref S) (by rfl) gS rfl) pa_nil)))
      (pe_one (pe_cmpR (op_eqDI hu) (pe_fld (pv 0) rfl) (pe_fld (pv 1) rfl) (nomark _))))), ?_⟩
    rcases h with ⟨v2, p2, B2, rfl, ⟨⟨dy, g1⟩, g2⟩, q⟩ | ⟨⟨t, ty, kt⟩, q⟩
    · refine ⟨.ref v2, rfl, .ref v2, .ref S, .ref S, .ref S, true, rfl, .own _, .base (.ins g1 I.cl I.ha I.hn I.htk I.hm), kit_me, true, rfl, ?_⟩
      exact ⟨.ref v, rfl, v, S, dx, _, _, rfl, e1, TS.cl, TS.no, rfl, .ref v2, rfl, v2, S, dy, _, _, rfl, g1, TS.cl, TS.no, rfl, p, p2, _, _, rfl, rfl, e2, g2, ints_zv B, ints_zv B2, q⟩
    · exact ⟨y, rfl, y, .ref S, t, .ref S, false, rfl, .own _, ty, kt, false, rfl, q⟩
/-! ### Sum.finish -/
def spSFinish (S : Addr) : Sp := fun vs H Q _ => ∃ (v p : Addr) (B : Tal), vs = [.ref v] ∧ SK S H v p B ∧ TO B ∧ ∀ H' B', (∀ a o, a ≠ p → H a = some o → H' a = some o) → H' p = some (.dK (zv ιw B')) → TO B' → (∀ bz, Bal bz B → Bal bz B') → finB B' = true → Q .non H'
abbrev nSFinish : List Str := ["self", "word", "places"]
theorem scSFinish : FnScope nSFinish ["self"] (defScope sSFinish) := ⟨rfl, rfl, rfl, by decide +kernel, rfl, by decide +kernel, by decide +kernel⟩
theorem list_keys (B : Tal) : ((zv ιw B).map fun kv => kV kv.1) = (B.map (·.1)).map fun u => V.str (tx u) := by
  unfold zv
  rw [List.map_map, List.map_map]
  rfl
theorem ok_sfinish {f f1 f2 f3 f4 f5 f6 fs ff : Addr} {fd fd1 fd2 fd3 fd4 fd5 fd6 gs gf : FuncData} {k : Nat} (F : Fun K "finish" "Sum.finish" sSFinish f fd) (N1 : Fn K mg "is_row" sIsRow ["thing"] f1 fd1) (N2 : Fn K mg "is_word" sIsWord ["thing"] f2 fd2)
    (N3 : Fn K mg "need_word" sNeedWord ["thing"] f3 fd3) (N4 : Fn K mg "places_in" sPlaces ["word"] f4 fd4) (N5 : Fn K mg "is_whole" sIsWhole ["thing"] f5 fd5) (N6 : Fn K mg "shortened" sShort ["word", "place"] f6 fd6)
    (Fs : Fun K "shorten" "Sum.shorten" sSShort fs gs) (bs : Binds K gs ["self", "word", "place"] []) (ms : Meth K S "shorten" fs) (Ff : Fun K "is_finished" "Sum.is_finished" sSFin ff gf) (bf : Binds K gf ["self"] []) (mf : Meth K S "is_finished" ff)
    (T : Txt K w mg d es n) (Z : Er K mg NW NP) (TS : TxtS K S) : FnOk P w K mg base CX0 (k + 7) f fd ["self"] (spSFinish S) := by
  have G4 : FnOk P w K mg base (L2.CX P w) (k + 6) f4 fd4 ["word"] (spPlaces K NW) := ok_places (k := k + 2) N4.F N1 N2 N3 T Z
  have Gs : FnOk P w K mg base (L2.CX P w) (k + 6) fs gs ["self", "word", "place"] (spSShort K S NW NP) := ok_sshort (k := k) Fs N1 N2 N3 N4 N5 N6 T Z TS
  have Gf : FnOk P w K mg base CX0 (k + 6) ff gf ["self"] (spSFin S) := ok_sfin (k := k + 1) Ff N1 N2 N3 N4 T Z TS
  refine F.ok scSFinish (fun vs H Q E h => ?_) (fun cdv A outer s H vs Q E hr h => ?_)
  · obtain ⟨v, p, B, rfl, _⟩ := h
    rfl
  · obtain ⟨v, p, B, rfl, sk, to, q⟩ := h
    have nd := scSFinish.nd
    refine ⟨_, pss_one (ps_while PassesOwn.never (pt_not (pt_val (pe_meth0 (pv 0) TS.cl mf Gf hr bf .nil pass0)))
      (pss_one (ps_for PassesOwn.never rfl (pi_list (pe_callTy (call_list_dK rfl) (by rfl) T.list (by decide +kernel) (pa_cons (pe_fld (pv 0) rfl) pa_nil))) (pg_name (i := 1) nd rfl (.inl rfl))
        (pss_cons (ps_set (i := 2) nd rfl (.inl rfl) (pe_call G4 hr (by rfl) N4.g N4.F.kp N4.b .nil passX (pa_cons (pv 1) pa_nil)))
        (pss_one (ps_if (pt_truth (pv 2) (fun _ => rfl)) (pss_one (ps_expr (pe_meth (pv 0) TS.cl ms Gs hr bs .nil passX (pa_cons (pv 1) (pa_cons (pe_ix ix_list (pv 2) pe_int (fun _ _ => rfl)) pa_nil))))) pss_nil)))))), ?_⟩
    refine ⟨fun m σ H1 => ∃ (B1 : Tal) (y1 y2 : Option V), m = (t3 B1).toNat ∧ σ = [some (.ref v), y1, y2] ∧ (∀ a o, a ≠ p → H a = some o → H1 a = some o) ∧ SK S H1 v p B1 ∧ TO B1 ∧ (∀ bz, Bal bz B → Bal bz B1), ⟨_, B, _, _, rfl, rfl, fun _ _ _ e => e, sk, to, fun _ h => h⟩, ?_⟩
    rintro m σ H1 ⟨B1, y1, y2, rfl, rfl, kp, sk1, to1, tz1⟩
    obtain ⟨dx, ev⟩ := id sk1.ob
    refine ⟨.ref v, rfl, v, dx, _, rfl, ev, rfl, v, p, B1, rfl, sk1, to1, fun H2 s2 => ⟨_, rfl, ?_⟩⟩
    have kp2 : ∀ a o, a ≠ p → H a = some o → H2 a = some o := fun a o na e => s2 _ _ (kp a o na e)
    have sk2 := sk1.same s2
    cases hfin : finB B1 with
    | true => exact iteF (q H2 B1 kp2 sk2.di to1 tz1 hfin)
    | false =>
      refine iteT ⟨fun σ' H' => ∃ (B2 : Tal) (y1 y2 : Option V), σ' = [some (.ref v), y1, y2] ∧ (∀ a o, a ≠ p → H a = some o → H' a = some o) ∧ SK S H' v p B2 ∧ TO B2 ∧ (∀ bz, Bal bz B → Bal bz B2) ∧ t3 B2 < t3 B1, ?_, ?_⟩
      · rintro σ' H' ⟨B2, y1, y2, e, k2, sk2, to2, tz2, lt⟩
        have h1 := t3_nn fun p hp => (to1.each p hp).1
        have h2 := t3_nn fun p hp => (to2.each p hp).1
        exact ⟨(t3 B2).toNat, by omega, B2, y1, y2, rfl, e, k2, sk2, to2, tz2⟩
      have ev2 := s2 _ _ ev
      refine ⟨.ref v, rfl, v, S, dx, _, _, rfl, ev2, TS.cl, TS.no, rfl, p, zv ιw B1, rfl, sk2.di, fun l nl => ⟨l, rfl, ⟨_, SqL.of upd_same⟩, ?_⟩⟩
      have s3 : Same H2 (upd H2 l (.lst ((zv ιw B1).map fun kv => kV kv.1))) := same_upd nl
      have e3 : upd H2 l (.lst ((zv ιw B1).map fun kv => kV kv.1)) l = some (.lst ((B1.map (·.1)).map fun u => V.str (tx u))) := by rw [upd_same, list_keys]
      have nlp : l ≠ p := fun e => by
        rw [e, sk2.di] at nl
        cases nl
      generalize upd H2 l (.lst ((zv ιw B1).map fun kv => kV kv.1)) = H3 at s3 e3
      have nd1 : (B1.map (·.1)).Nodup := to1.once
      refine for_list (K := K) (a := l) (xs := (B1.map (·.1)).map fun u => V.str (tx u)) (fun i σ H' => ∃ (Bi : Tal) (y1 y2 : Option V), σ = [some (.ref v), y1, y2] ∧ (∀ a o, a ≠ p → H a = some o → H' a = some o) ∧ SK S H' v p Bi ∧ TO Bi ∧ (∀ bz, Bal bz B → Bal bz Bi) ∧ H' l = some (.lst ((B1.map (·.1)).map fun u => V.str (tx u))) ∧
        (∀ x ∈ (B1.map (·.1)).drop i, x ∈ Bi.map (·.1)) ∧ t3 Bi ≤ t3 B1 ∧ ((∃ x ∈ (B1.map (·.1)).take i, plc x ≠ []) → t3 Bi < t3 B1))
        ⟨B1, _, _, rfl, fun a o na e => s3 _ _ (kp2 a o na e), sk2.same s3, to1, tz1, e3, (fun x hx => by rw [List.drop_zero] at hx; exact hx), Int.le_refl _, fun ⟨x, hx, _⟩ => nomatch hx⟩ (fun i σ H' _ ⟨_, _, _, _, _, _, _, _, e, _⟩ => SqL.of e) ?_ ?_
      · rintro i x σ H' hx ⟨Bi, y1, y2, rfl, ki, ski, toi, tzi, el, hdrop, hle, hlt⟩
        rw [List.getElem?_map] at hx
        obtain ⟨u, hu, rfl⟩ := Option.map_eq_some_iff.mp hx
        have hd : (B1.map (·.1)).drop i = u :: (B1.map (·.1)).drop (i + 1) := (List.drop_eq_getElem_cons (List.getElem?_eq_some_iff.mp hu).1).trans (by rw [(List.getElem?_eq_some_iff.mp hu).2])
        have ht : (B1.map (·.1)).take (i + 1) = (B1.map (·.1)).take i ++ [u] := by rw [List.take_add_one, hu]; rfl
        have hui : u ∈ Bi.map (·.1) := hdrop u (by rw [hd]; exact List.mem_cons_self ..)
        have hu12 : u.length ≤ 12 := by
          obtain ⟨b, hb, rfl⟩ := List.mem_map.mp hui
          exact (toi.le _ hb).2.2
        have nu : u ∉ (B1.map (·.1)).drop (i + 1) := by
          have := nd1.sublist (List.drop_sublist i _)
          rw [hd] at this
          exact (List.nodup_cons.mp this).1
        refine ⟨.str (tx u), rfl, .str (tx u), rfl, .inl ⟨u, rfl, by omega, fun H4 pl s4 npl epl => ?_⟩⟩
        have k4 : ∀ a o, a ≠ p → H a = some o → H4 a = some o := fun a o na e => s4 _ _ (ki a o na e)
        have sk4 := ski.same s4
        refine ⟨.ref pl, rfl, _, .inl ⟨_, SqL.of epl, rfl⟩, ?_⟩
        cases hp : plc u with
        | nil =>
          refine iteF ⟨Bi, _, _, rfl, k4, sk4, toi, tzi, s4 _ _ el, fun x hx => hdrop x (by rw [hd]; exact List.mem_cons_of_mem _ hx), hle, fun ⟨x, hx, hne⟩ => hlt ⟨x, ?_, hne⟩⟩
          rw [ht] at hx
          rcases List.mem_append.mp hx with hx | hx
          · exact hx
          · obtain rfl := List.mem_singleton.mp hx
            exact absurd hp hne
        | cons k0 r =>
          have hk0 : k0 ∈ plc u := by rw [hp]; exact List.mem_cons_self ..
          rw [hp] at epl
          obtain ⟨dxi, evi⟩ := id sk4.ob
          refine iteT ⟨.ref v, rfl, v, dxi, _, rfl, evi, rfl, .str (tx u), rfl, .ref pl, rfl, pl, _, 0, wv k0, rfl, rfl, SqL.of epl, atI_nat (j := 0) rfl, v, p, Bi, .str (tx u), wv k0, rfl, sk4, toi, .inl ⟨u, k0, rfl, rfl, hui, hk0, fun H5 k5 e5 => ?_⟩⟩
          have nvp : v ≠ p := fun e => by
            have h1 := sk4.di
            rw [← e, evi] at h1
            cases h1
          have lt := t3_stp toi hui hk0
          exact ⟨stp Bi u k0, _, _, rfl, fun a o na e => k5 a o na (k4 a o na e), ⟨⟨dxi, k5 _ _ nvp evi⟩, e5⟩, toi.step hui hk0, fun bz hb => (tzi bz hb).step toi hk0, k5 _ _ nlp (s4 _ _ el), fun x hx => keys_stp (hdrop x (by rw [hd]; exact List.mem_cons_of_mem _ hx)) (fun e => nu (by rw [← e]; exact hx)), by omega, fun _ => by omega⟩
      · rintro σ H' ⟨Bi, y1, y2, rfl, ki, ski, toi, tzi, el, hdrop, hle, hlt⟩
        refine ⟨Bi, _, _, rfl, ki, ski, toi, tzi, hlt ?_⟩
        have h : (B1.any fun p => !(plc p.1).isEmpty) = true := by
          unfold finB at hfin
          simpa using hfin
        obtain ⟨b, hb, hne⟩ := List.any_eq_true.mp h
        refine ⟨b.1, ?_, fun e => by rw [e] at hne; cases hne⟩
        rw [List.length_map, List.take_length]
        exact List.mem_map.mpr ⟨b, hb, rfl⟩
end
end Hop

set_option Elab.async false
set_option linter.all false
set_option maxRecDepth 100000
namespace HopR
open PySem PySem.Spec PyProof.Rows L2
/-! ### sum(whole numbers, start=0) -/
theorem may_start (l : Addr) (t : Tok) : checkBuiltinCall "sum" ⟨[.ref l], [(Str.ofString "start", .int 0 t)]⟩ = pure () := by
  have ok : argsOk "sum" ⟨[.ref l], [(Str.ofString "start", .int 0 t)]⟩ := by
    unfold argsOk
    kernel_rfl
  unfold checkBuiltinCall
  rw [F.kind_sum]
  unfold argsOk at ok
  cases h : Manifest.signature? "sum" with
  | none => rfl
  | some sig =>
    rw [h] at ok
    exact ok
section
variable {prog : Program} {w : World} {A : Around} {E : Value → Shared → Prop} {s : Shared}
theorem no_text {i : Int} {t : Tok} {T : String} {Q : Bool → Shared → Prop} (sub : isSubtype (.type "int") (.type T) = pure false) (q : Q false s) : wpAny (model prog w) A (isInstance (.int i t) (.type T)) Q E s := wpAny_isInstance (typeIs_int s i t) sub q
theorem sum_from {l : Addr} {t : Tok} {xs : Array (Int × Tok)} {Q : Value → Shared → Prop} (calm : A.handled = none) (hl : s.heap.IsList l (intItems xs))
    (fin : ∀ h' tk t', (∀ b o, s.heap.get? b = some o → h'.get? b = some o) → Q (.int (preSum (numAt xs) xs.size) t') { s with heap := h', toks := tk }) :
    wpAny (model prog w) A (call (.builtin "sum") [.ref l] [(Str.ofString "start", .int 0 t)]) Q E s := by
  refine wpAny_call (codeAny_call_builtin F.plain_sum F.entry_sum ?_)
  rw [may_start]
  refine wpAny_pure ?_
  unfold Builtin.«sum»
  simp only [List.length_cons, List.length_nil]
  rw [if_neg (by decide)]
  refine wpAny_bind (wpAny_of_eq (show Builtin.Builtins.bindParams "sum" ["start"] 0 ⟨[], [(Str.ofString "start", .int 0 t)]⟩ = pure [some (.int 0 t)] from by kernel_rfl) ?_)
  refine wpAny_bind (iter_intList hl fun s2 e at0 low here => ?_)
  subst e
  dsimp only
  refine wpAny_ite ?_
  split
  case isFalse no => exact absurd rfl no
  refine wpAny_bind (wpAny_rule (wpAny_bind (wpAny_mkInt (wpAny_bind (wpAny_pure ?_)))))
  simp only [List.forIn_cons, List.forIn_nil]
  refine wpAny_bind (wpAny_bind (wpAny_bind (no_text PySem.sub_int_str ?_)))
  rw [if_neg (by decide)]
  refine wpAny_pure (wpAny_bind (wpAny_bind (no_text PySem.sub_int_bytes ?_)))
  rw [if_neg (by decide)]
  refine wpAny_pure (wpAny_bind (wpAny_bind (no_text PySem.sub_int_bytearray ?_)))
  rw [if_neg (by decide)]
  refine wpAny_pure (wpAny_pure (wpAny_bind (wpAny_newObj_type ?_)))
  have W := Walks.list (prog := prog) (w := w) (A := A.in1) calm s.heap.objs.size l here (intItems xs)
  refine wpAny_pure ⟨plainId_quiet F.plain_sum_loop _, codeAny_sum_loopG W (numAt xs) (fun _ _ => intItems_at) _ (fun m => Nat.lt_irrefl _ (low _ m)) _ 0 _ _ 0 0 (.inl rfl) rfl (Nat.zero_le _) (W.frame _ _ _ at0 fun b _ o q => Heap.get?_push_of_some _ q) (Heap.get?_push_size _ rfl) ?_⟩
  intro h' tk t' old
  have q := fin h' tk t' fun b o e => ?_
  · simpa [intItems] using q
  · have lt := Heap.lt_size e
    refine old b o ?_ ?_ (Heap.get?_push_of_some _ (Heap.get?_push_of_some _ e))
    · intro m
      have m : b = s.heap.objs.size := by simpa using m
      exact absurd lt (by rw [m]; exact Nat.lt_irrefl _)
    · rw [Heap.size_push]
      exact Nat.ne_of_lt (Nat.lt_succ_of_lt lt)
end
section
variable {X : Cx}
def rSumK (K : PySem.W.Frag) : List V → List V → Hp → VK → Prop := fun vs zs H Q => ∃ (a : Addr) (ns : List Int), vs = [V.ref a] ∧ zs = [.int 0] ∧ SqL K H a (ns.map V.int) ∧ Q (.int ns.sum) H
theorem cr_sumK (calm : X.calm = true) : CallRK X (.builtin "sum") [Str.ofString "start"] (rSumK X.K) := by
  rintro pins s σ H _ _ us ws Q I r rz ⟨a, ns, rfl, rfl, hs, q⟩
  obtain rfl := Vals.ref1 r
  obtain ⟨_, rfl, t, rfl⟩ := vals1 rz
  obtain ⟨its, rv, hl, _⟩ := I.list hs
  obtain ⟨xs, e⟩ := rv.ints.allInts.items
  have hn : numsOf (intItems xs).toList = ns := by
    rw [← e]
    exact rv.ints.numsOf
  rw [nums_intItems] at hn
  have hl' := hl.isList
  rw [e] at hl'
  refine sum_from (I.ok.hd calm) hl' fun h' tk t' old => ⟨.int ns.sum, H, I.kept old, ⟨t', ?_⟩, q⟩
  rw [preSum_eq, List.take_of_length_le (by simp), hn]
end
end HopR

set_option Elab.async false
set_option linter.all false
set_option maxRecDepth 100000
namespace HopR
open PySem PySem.Spec PyProof.Rows L2 TL
/-! ### where a word has a bead before a free place -/
theorem of_tx : ("o." : Str) = tx [true, false] := by decide +kernel
theorem sub_tx (bs : List Bool) (i : Nat) : Builtin.Str.subAt (tx bs) (tx [true, false]) i = true ↔ (bs.drop i).take 2 = [true, false] := by
  have e : (tx bs).cps.extract i (i + (tx [true, false]).length) = (tx ((bs.drop i).take 2)).cps := by
    apply Array.toList_inj.mp
    rw [Array.toList_extract, tx_list, tx_list, tx_len, List.extract_eq_drop_take, List.map_take, List.map_drop]
    show ((bs.map cd).drop i).take (i + 2 - i) = _
    rw [Nat.add_sub_cancel_left]
  unfold Builtin.Str.subAt
  rw [e, beq_iff_eq]
  constructor
  · intro h
    apply tx_inj
    exact congrArg Str.mk h
  · intro h; rw [h]
theorem no_pair : ∀ bs : List Bool, (∀ i, (bs.drop i).take 2 ≠ [true, false]) → ∃ f b, bs = List.replicate f false ++ List.replicate b true
  | [], _ => ⟨0, 0, rfl⟩
  | [true], _ => ⟨0, 1, rfl⟩
  | [false], _ => ⟨1, 0, rfl⟩
  | false :: y :: r, h => by
    obtain ⟨f, b, e⟩ := no_pair (y :: r) (fun i => h (i + 1))
    exact ⟨f + 1, b, by rw [e]; rfl⟩
  | true :: false :: r, h => absurd rfl (h 0)
  | true :: true :: r, h => by
    obtain ⟨f, b, e⟩ := no_pair (true :: r) (fun i => h (i + 1))
    cases f with
    | zero => exact ⟨0, b + 1, by rw [e]; rfl⟩
    | succ f => exact absurd (List.cons.inj e).1 (by decide)
theorem find_of (bs : List Bool) : (Txt.find (tx bs) "o." = -1 ∧ ∃ f b, bs = List.replicate f false ++ List.replicate b true) ∨
    ∃ u v, Txt.find (tx bs) "o." = (u.length : Int) ∧ bs = u ++ true :: false :: v := by
  rw [of_tx]
  rcases find_whole (tx bs) (tx [true, false]) with ⟨e, no⟩ | ⟨i, e, ⟨le, at'⟩, _⟩
  · refine .inl ⟨e, no_pair bs fun i h => no i ⟨?_, (sub_tx bs i).mpr h⟩⟩
    rw [tx_len, tx_len]
    have l := congrArg List.length h
    rw [List.length_take, List.length_drop] at l
    simp only [List.length_cons, List.length_nil] at l ⊢
    omega
  · have h := (sub_tx bs i).mp at'
    have l : i ≤ bs.length := by
      have l := congrArg List.length h
      rw [List.length_take, List.length_drop] at l
      simp only [List.length_cons, List.length_nil] at l
      omega
    refine .inr ⟨bs.take i, bs.drop (i + 2), ?_, ?_⟩
    · rw [e, List.length_take, Nat.min_eq_left l]
    · have q := List.take_append_drop 2 (bs.drop i)
      rw [h, List.drop_drop] at q
      have q2 := List.take_append_drop i bs
      rw [← q] at q2
      exact q2.symm
end HopR

set_option Elab.async false
set_option linter.all false
set_option maxRecDepth 100000
namespace HopR
open PySem PySem.Spec PyProof.Rows L2
/-! ### d != {} -/
def rNeD0 : R2 := fun x y H Q => ∃ (a b : Addr) (ks : List (Key × V)), x = .ref a ∧ y = .ref b ∧ H a = some (.dK ks) ∧ H b = some (.dK []) ∧ Q (.bl (!ks.isEmpty)) H
theorem op_neD0 {X : Cx} (hu : X.A.units < cLine) : OpR X (compareOp .NotEq) rNeD0 := by
  rintro pins s σ H _ _ v u Q I rx ry ⟨a, b, ks, rfl, rfl, ea, eb, q⟩
  cases ks with
  | nil => exact op_ne_dictA hu pins s σ H _ _ v u Q I rx ry ⟨a, b, [], [], rfl, rfl, ea, eb, rfl, by simp, q⟩
  | cons k ks =>
    obtain rfl : v = Value.ref a := rx
    obtain rfl : u = Value.ref b := ry
    obtain ⟨_, na, va, ra, da⟩ := dk_of I.hok ea
    obtain ⟨_, nb, vb, rb, db⟩ := dk_of I.hok eb
    have l : ¬ va.length = vb.length := by
      rw [← ra.length, ← rb.length]
      simp
    exact PySem.W.keq_ne (knd := mixKind X.prog X.w) (r := true) na nb da db hu (fun e => absurd e l) (fin_bl I q (by simp [l]))
end HopR

set_option Elab.async false
set_option linter.all false
set_option maxRecDepth 100000
set_option exponentiation.threshold 200000
namespace Hop
open PySem L2 HopR
open C8 (InsC call_isC)
abbrev sWithBead : Stmt := top 17
abbrev sWithFree : Stmt := top 18
abbrev sEndsOf : Stmt := top 19
/-! ### lists of lists of counts -/
def LG (H : Hp) (o : Addr) : List (List Nat) → List V → Prop
  | [], vs => vs = []
  | L :: r, vs => ∃ p vr, vs = .ref p :: vr ∧ p ≠ o ∧ H p = some (.lst (L.map wv)) ∧ LG H o r vr
theorem lg_same {H H' : Hp} {o : Addr} (s : Same H H') : ∀ {Ls : List (List Nat)} {vs : List V}, LG H o Ls vs → LG H' o Ls vs
  | [], _, h => h
  | L :: r, _, ⟨p, vr, e, n, h1, h2⟩ => ⟨p, vr, e, n, s _ _ h1, lg_same s h2⟩
theorem lg_upd {H : Hp} {o : Addr} {x : HO} : ∀ {Ls : List (List Nat)} {vs : List V}, LG H o Ls vs → LG (upd H o x) o Ls vs
  | [], _, h => h
  | L :: r, _, ⟨p, vr, e, n, h1, h2⟩ => ⟨p, vr, e, n, by rw [upd_ne n]; exact h1, lg_upd h2⟩
theorem lg_to {H : Hp} {o o' : Addr} (hn : H o' = none) : ∀ {Ls : List (List Nat)} {vs : List V}, LG H o Ls vs → LG H o' Ls vs
  | [], _, h => h
  | L :: r, _, ⟨p, vr, e, n, h1, h2⟩ => ⟨p, vr, e, ne_of_none h1 hn, h1, lg_to hn h2⟩
theorem lg_len {H : Hp} {o : Addr} : ∀ {Ls : List (List Nat)} {vs : List V}, LG H o Ls vs → vs.length = Ls.length
  | [], _, h => by
    cases h
    rfl
  | L :: r, _, ⟨p, vr, e, _, _, h2⟩ => by rw [e, List.length_cons, List.length_cons, lg_len h2]
theorem lg_at {H : Hp} {o : Addr} : ∀ {Ls : List (List Nat)} {vs : List V} {k : Nat} {L : List Nat}, LG H o Ls vs → Ls[k]? = some L → ∃ p, vs[k]? = some (.ref p) ∧ H p = some (.lst (L.map wv))
  | [], _, k, L, h, e => by simp at e
  | M :: r, _, 0, L, ⟨p, vr, ev, _, h1, h2⟩, e => by
    have : M = L := Option.some.inj e
    subst this
    exact ⟨p, by rw [ev]; rfl, h1⟩
  | M :: r, _, k + 1, L, ⟨p, vr, ev, _, h1, h2⟩, e => by
    obtain ⟨p', e1, e2⟩ := lg_at (k := k) h2 e
    exact ⟨p', by rw [ev]; exact e1, e2⟩
theorem lg_add {H : Hp} {o p : Addr} {L : List Nat} (n : p ≠ o) (h1 : H p = some (.lst (L.map wv))) : ∀ {Ls : List (List Nat)} {vs : List V}, LG H o Ls vs → LG H o (Ls ++ [L]) (vs ++ [.ref p])
  | [], _, h => by
    cases h
    exact ⟨p, [], rfl, n, h1, rfl⟩
  | _ :: _, _, ⟨p', vr, e, n', h2, h3⟩ => ⟨p', vr ++ [.ref p], by rw [e]; rfl, n', h2, lg_add n h1 h3⟩
/-- the line that stands at a place -/
theorem lg_get {H : Hp} {o : Addr} {T : List (List Nat)} {vs : List V} {j : Nat} {x : V} (g : LG H o T vs) (hx : vs[j]? = some x) : ∃ p L, T[j]? = some L ∧ x = .ref p ∧ H p = some (.lst (L.map wv)) := by
  have hj : j < T.length := by
    rw [← lg_len g]
    exact (List.getElem?_eq_some_iff.mp hx).1
  obtain ⟨p, e1, e2⟩ := lg_at g (List.getElem?_eq_getElem hj)
  rw [hx] at e1
  exact ⟨p, _, List.getElem?_eq_getElem hj, Option.some.inj e1, e2⟩
/-- at a a table -/
def Tb (H : Hp) (a : Addr) (T : List (List Nat)) : Prop := ∃ vs, H a = some (.lst vs) ∧ LG H a T vs
theorem Tb.same {H H' : Hp} {a : Addr} {T : List (List Nat)} (s : Same H H') (h : Tb H a T) : Tb H' a T := let ⟨vs, e, g⟩ := h; ⟨vs, s _ _ e, lg_same s g⟩
/-- a new list that grows by a new line -/
def Gr (H0 H : Hp) (D : Addr) (T : List (List Nat)) : Prop := Same H0 H ∧ Tb H D T
theorem gr_nil {H0 : Hp} {D : Addr} (hD : H0 D = none) : Gr H0 (upd H0 D (.lst [])) D [] := ⟨same_upd hD, [], upd_same, rfl⟩
theorem gr_add {H0 H H4 : Hp} {D p : Addr} {T : List (List Nat)} {L : List Nat} {vs : List V} (hD : H0 D = none) (g : Gr H0 H D T) (s : Same H H4) (np : H p = none) (h1 : H4 p = some (.lst (L.map wv))) (ev : H D = some (.lst vs)) : Gr H0 (upd H4 D (.lst (vs ++ [.ref p]))) D (T ++ [L]) := by
  obtain ⟨s0, vs', e', gg⟩ := g
  rw [ev] at e'
  have e' : vs = vs' := by
    injection e' with e'
    injection e' with e'
  subst e'
  have np2 : p ≠ D := fun z => by
    rw [z, ev] at np
    cases np
  refine ⟨same_new hD (s0.trans s), _, upd_same, lg_upd (lg_add np2 h1 (lg_same s gg))⟩
def Small (T : List (List Nat)) : Prop := T.length ≤ 40 ∧ ∀ L ∈ T, L.length ≤ 40
theorem take_map_snoc {α β : Type} (f : α → β) {l : List α} {j : Nat} {a : α} (h : l[j]? = some a) : (l.take j).map f ++ [f a] = (l.take (j + 1)).map f := by
  rw [List.take_add_one, h, List.map_append]
  rfl
section
variable {P : Program} {w : World} {K : PySem.W.Frag} {mg : Str → Option Value} {base : Heap}
/-! ### with_bead -/
def spBead : Sp := fun vs H Q _ => ∃ (a : Addr) (T : List (List Nat)), vs = [.ref a] ∧ Tb H a T ∧ Small T ∧ ∀ H' p, Same H H' → H p = none → Tb H' p (T.map (0 :: ·)) → Q (.ref p) H'
abbrev nWB : List Str := ["table", "line"]
theorem scBead : FnScope nWB ["table"] (defScope sWithBead) := ⟨rfl, rfl, rfl, by decide +kernel, rfl, by decide +kernel, by decide +kernel⟩
theorem ok_bead {f : Addr} {fd : FuncData} {k : Nat} (F : Fun K "with_bead" "with_bead" sWithBead f fd) : FnOk P w K mg base CX0 (k + 1) f fd ["table"] spBead := by
  refine F.ok scBead (fun vs H Q E h => ?_) (fun cdv A outer s H vs Q E hr h => ?_)
  · obtain ⟨a, T, rfl, _⟩ := h
    rfl
  · obtain ⟨a, T, rfl, ⟨xs, ea, ga⟩, hT, q⟩ := h
    have nd := scBead.nd
    refine ⟨_, pss_one (ps_ret (pe_lc (own := [("line", 1)]) (g := gName 1) (tt := tYes) rfl nd (pi_list (pv 0)) (blkOk_by (own := [("line", 1)]) (N := nWB) (sc := defScope sWithBead) (by decide +kernel)) (fun _ _ _ _ _ => pg_name (i := 1) nd rfl (Or.inl rfl)) (fun _ _ _ _ _ => pts_nil) (fun _ _ _ _ _ => pe_op op_cat (pe_lst (pa_cons pe_int pa_nil)) (pv 1)))), ?_⟩
    refine ⟨.ref a, rfl, a, rfl, ⟨_, SqL.of ea⟩, fun D hD => ?_⟩
    refine lc_list (K := K) (a := a) (xs := xs) (fun j H3 => Gr H H3 D ((T.take j).map (0 :: ·))) (gr_nil hD) (fun j H3 _ h => SqL.of (h.1 _ _ ea)) ?_ ?_
    · rintro j x H3 hx g3
      obtain ⟨p, L, hL, rfl, ep⟩ := lg_get ga hx
      have hl := hT.2 L (List.mem_of_getElem? hL)
      have hj : j < T.length := (List.getElem?_eq_some_iff.mp hL).1
      have hT1 := hT.1
      obtain ⟨vD, eD, gD⟩ := g3.2
      refine ⟨rfl, (by show 1 ≤ sizeLine; decide), fun o1 n1 => ⟨.ref p, rfl, o1, p, _, L.map wv, rfl, rfl, upd_same, ?_, ?_, fun p5 n5 => ?_⟩⟩
      · exact (same_upd n1) _ _ (g3.1 _ _ ep)
      · rw [List.length_map]
        exact fit (by show 1 + L.length ≤ _; omega)
      · have s5 := (same_upd (o := .lst [.int 0]) n1).trans (same_upd (o := .lst ([V.int 0] ++ L.map wv)) n5)
        refine ⟨vD, s5 _ _ eD, ?_, ?_⟩
        · rw [lg_len gD, List.length_map]
          exact fit' (Nat.le_trans (List.length_take_le _ _) (by omega))
        · rw [← take_map_snoc _ hL]
          exact gr_add hD g3 s5 ((same_upd n1).free n5) upd_same eD
    · rintro H3 g3
      rw [lg_len ga, List.take_length] at g3
      exact q H3 D g3.1 hD g3.2
end
end Hop

set_option Elab.async false
set_option linter.all false
set_option maxRecDepth 100000
set_option exponentiation.threshold 200000
namespace Hop
open PySem L2 HopR
open C8 (InsC call_isC)
theorem cutN_to (v : List Nat) (k : Nat) : cutV (v.map wv) none (some (k : Int)) = (v.take k).map wv := by
  unfold cutV
  rw [HT.sIx_nat, List.length_map, List.map_take]
  show ((v.map wv).drop 0).take (min k v.length - 0) = _
  rw [List.drop_zero, Nat.sub_zero]
  by_cases h : k ≤ v.length
  · rw [Nat.min_eq_left h]
  · rw [Nat.min_eq_right (by omega), List.take_of_length_le (by rw [List.length_map]; exact Nat.le_refl _), List.take_of_length_le (by rw [List.length_map]; omega)]
theorem cutN_from (v : List Nat) (k : Nat) : cutV (v.map wv) (some (k : Int)) none = (v.drop k).map wv := by
  unfold cutV
  rw [HT.sIx_nat, List.length_map, List.map_drop]
  show ((v.map wv).drop (min k v.length)).take (v.length - min k v.length) = _
  by_cases h : k ≤ v.length
  · rw [Nat.min_eq_left h, List.take_of_length_le (by rw [List.length_drop, List.length_map]; exact Nat.le_refl _)]
  · rw [Nat.min_eq_right (by omega), Nat.sub_self, List.take_zero, List.drop_of_length_le (by rw [List.length_map]; omega)]
theorem ints_of (v : List Nat) : v.map wv = (v.map fun k : Nat => (k : Int)).map V.int := by
  rw [List.map_map]
  rfl
theorem ints_sum : ∀ v : List Nat, (v.map fun k : Nat => (k : Int)).sum = ((v.sum : Nat) : Int)
  | [] => rfl
  | a :: r => by
    rw [List.map_cons, List.sum_cons, ints_sum r, List.sum_cons, Int.natCast_add]
/-- sum(xs) of counts -/
theorem sum_ok {K : PySem.W.Frag} {H : Hp} {a : Addr} {v : List Nat} {Q : VK} (e : H a = some (.lst (v.map wv))) (q : Q (wv v.sum) H) : rSum K [.ref a] H Q := by
  refine ⟨a, _, rfl, SqL.of (by rw [← ints_of]; exact e), ?_⟩
  rw [ints_sum]
  exact q
/-! ### with_free, by its three lists -/
def tl (l : List Nat) : List Nat := (List.range (l.length - 1)).map fun i => (l.drop (1 + i)).sum
theorem sfx_eq : ∀ l : List Nat, HopW.sfx l = (List.range l.length).map fun i => (l.drop i).sum
  | [] => rfl
  | m :: l => by
    rw [List.length_cons, List.range_succ_eq_map, List.map_cons, List.map_map]
    show (m + l.sum) :: HopW.sfx l = (m :: l).sum :: _
    rw [sfx_eq l, List.sum_cons]
    rfl
theorem tl_eq (l : List Nat) : tl l = HopW.sfx l.tail := by
  rw [sfx_eq, List.length_tail]
  unfold tl
  refine List.map_congr_left fun i _ => ?_
  rw [← List.drop_one, List.drop_drop]
def wf (T : List (List Nat)) : List (List Nat) := List.zipWith (fun h t => h :: t) (0 :: T.map List.sum) (T.map tl ++ [[]])
theorem wf_eq (T : List (List Nat)) : wf T = HopW.go 0 T := by
  unfold wf
  generalize 0 = s
  induction T generalizing s with
  | nil => rfl
  | cons l t ih =>
    show (s :: tl l) :: List.zipWith (fun h t => h :: t) (l.sum :: t.map List.sum) (t.map tl ++ [[]]) = (s :: HopW.sfx l.tail) :: HopW.go l.sum t
    rw [ih, tl_eq]
theorem wf_len (T : List (List Nat)) : (wf T).length = T.length + 1 := by
  unfold wf
  rw [List.length_zipWith, List.length_cons, List.length_map, List.length_append, List.length_map]
  show min (T.length + 1) (T.length + 1) = _
  omega
theorem tl_len (l : List Nat) : (tl l).length = l.length - 1 := by
  unfold tl
  rw [List.length_map, List.length_range]
def rLenQ (K : PySem.W.Frag) : List V → Hp → VK → Prop := fun xs H Q => ∃ p ys, xs = [.ref p] ∧ (SqL K H p ys ∨ SqT K H p ys) ∧ Q (.int ys.length) H
abbrev tTail (K : PySem.W.Frag) : TE := tCB (rSum K) (tCons (tSl (rSlL K) (tVar 3) (tPart (tVar 4)) tNoPart) tNil)
abbrev tTails (K : PySem.W.Frag) : TE := tLc (iRng2 (tCons (tC (.int 1)) (tCons (tCB (rLenQ K) (tCons (tVar 3) tNil)) tNil))) (gName 4) tYes (tTail K) [4]
def scLine : Scope := { kind := .function, names := [(".0", .local), ("line", .cell), ("range", .globalImplicit), ("len", .globalImplicit)], isGenerator := false, isCoroutine := false }
section
variable {P : Program} {w : World} {K : PySem.W.Frag} {mg : Str → Option Value} {base : Heap}
structure TxtL (mg : Str → Option Value) : Prop where
  sum : mg "sum" = none
  range : mg "range" = none
  len : mg "len" = none
  zip : mg "zip" = none
  enum : mg "enumerate" = none
  reversed : mg "reversed" = none
def spFree : Sp := fun vs H Q _ => ∃ (a : Addr) (T : List (List Nat)), vs = [.ref a] ∧ Tb H a T ∧ Small T ∧ ∀ H' p, Same H H' → H p = none → Tb H' p (wf T) → Q (.ref p) H'
abbrev nWF : List Str := ["table", "heads", "tails", "line", "beads", "head", "tail"]
theorem scFree : FnScope nWF ["table"] (defScope sWithFree) := ⟨rfl, rfl, rfl, by decide +kernel, rfl, by decide +kernel, by decide +kernel⟩
set_option maxHeartbeats 4000000 in
theorem ok_free {f : Addr} {fd : FuncData} {k : Nat} (F : Fun K "with_free" "with_free" sWithFree f fd) (T0 : TxtL mg) : FnOk P w K mg base CX0 (k + 1) f fd ["table"] spFree := by
  refine F.ok scFree (fun vs H Q E h => ?_) (fun cdv A outer s H vs Q E hr h => ?_)
  · obtain ⟨a, T, rfl, _⟩ := h
    rfl
  · obtain ⟨a, T, rfl, ⟨xs, ea, ga⟩, hT, q⟩ := h
    have nd := scFree.nd
    have hT1 := hT.1
    have hxl := lg_len ga
    refine ⟨_, pss_cons (ps_set (i := 1) nd rfl (.inl rfl) (pe_op op_cat (pe_lst (pa_cons pe_int pa_nil))
        (pe_lc (own := [("line", 3)]) (g := gName 3) (tt := tYes) (te := tCB (rSum K) (tCons (tVar 3) tNil)) rfl nd (pi_list (pv 0)) (blkOk_by (own := [("line", 3)]) (N := nWF) (sc := defScope sWithFree) (by decide +kernel)) (fun _ _ _ _ _ => pg_name (i := 3) nd rfl (Or.inl rfl)) (fun _ _ _ _ _ => pts_nil) (fun _ _ _ _ _ => pe_callB (show CallR _ (.builtin "sum") (rSum K) from cr_sum rfl) (by rfl) T0.sum (by decide +kernel) (pa_cons (pv 3) pa_nil)))))
      (pss_cons (ps_set (i := 2) nd rfl (.inl rfl) (pe_op op_cat
        (pe_lc (own := [("line", 3)]) (g := gName 3) (tt := tYes) (te := tTails K) rfl nd (pi_list (pv 0)) (blkOk_by (own := [("line", 3)]) (N := nWF) (sc := defScope sWithFree) (by decide +kernel)) (fun _ _ _ _ _ => pg_name (i := 3) nd rfl (Or.inr rfl)) (fun _ _ _ _ _ => pts_nil)
          (fun _ _ _ _ _ => pe_lc (own := [("beads", 4)]) (g := gName 4) (tt := tYes) (te := tTail K) rfl nd (pi_range2 (by rfl) T0.range (pa_cons pe_int (pa_cons (pe_callB (show CallR _ (.builtin "len") (rLenQ K) from call_len_seq) (by rfl) T0.len PySem.boot_len (pa_cons (pv 3) pa_nil)) pa_nil))) (blkOk_by (own := [("beads", 4)]) (N := nWF) (sc := relS scLine (defScope sWithFree)) (by decide +kernel)) (fun _ _ _ _ _ => pg_name (i := 4) nd rfl (Or.inl rfl)) (fun _ _ _ _ _ => pts_nil)
            (fun _ _ _ _ _ => pe_callB (show CallR _ (.builtin "sum") (rSum K) from cr_sum rfl) (by rfl) T0.sum (by decide +kernel) (pa_cons (pe_slice (show SlR _ (rSlL K) from sl_list) (pv 3) (po_some (pv 4)) po_none) pa_nil))))
        (pe_lst (pa_cons (pe_lst pa_nil) pa_nil))))
      (pss_one (ps_ret (pe_lc (own := [("head", 5), ("tail", 6)]) (g := gTup K 2 (gCons (gName 5) (gCons (gName 6) gNil))) (tt := tYes) rfl nd (pi_zip (by rfl) T0.zip (pa_cons (pv 1) (pa_cons (pv 2) pa_nil)))
        (blkOk_by (own := [("head", 5), ("tail", 6)]) (N := nWF) (sc := defScope sWithFree) (by decide +kernel))
        (fun _ _ _ _ _ => pg_tup (by rfl) (pgs_cons (pg_name (i := 5) nd rfl (.inl rfl)) (pgs_cons (pg_name (i := 6) nd rfl (.inl rfl)) pgs_nil))) (fun _ _ _ _ _ => pts_nil) (fun _ _ _ _ _ => pe_op op_cat (pe_lst (pa_cons (pv 5) pa_nil)) (pv 6)))))), ?_⟩
    refine ⟨(by show 1 ≤ sizeLine; decide), fun l1 n1 => ?_⟩
    have t1 := same_upd (o := .lst [.int 0]) n1
    have e1 : upd H l1 (.lst [.int 0]) l1 = some (.lst [.int 0]) := upd_same
    generalize upd H l1 (.lst [.int 0]) = H1 at t1 e1
    refine ⟨.ref a, rfl, a, rfl, ⟨_, SqL.of (t1 _ _ ea)⟩, fun D2 hD2 => ?_⟩
    refine lc_list (K := K) (a := a) (xs := xs) (fun j H3 => Same H1 H3 ∧ H3 D2 = some (.lst (((T.take j).map List.sum).map wv))) ⟨same_upd hD2, upd_same⟩ (fun j H3 _ h => SqL.of ((t1.trans h.1) _ _ ea)) ?_ ?_
    · rintro j x H3 hx ⟨s3, e3⟩
      obtain ⟨p, L, hL, rfl, ep⟩ := lg_get ga hx
      refine ⟨rfl, .ref p, rfl, p, _, rfl, SqL.of (by rw [← ints_of]; exact (t1.trans s3) _ _ ep), ?_⟩
      rw [ints_sum]
      refine ⟨_, e3, ?_, same_new hD2 s3, ?_⟩
      · rw [List.length_map, List.length_map]
        exact fit' (Nat.le_trans (List.length_take_le _ _) (by have := (List.getElem?_eq_some_iff.mp hL).1; omega))
      · rw [upd_same, ← take_map_snoc _ hL, List.map_append]
        rfl
    rintro H2 ⟨s2, e2⟩
    rw [hxl, List.take_length] at e2
    refine ⟨l1, D2, [.int 0], (T.map List.sum).map wv, rfl, rfl, s2 _ _ e1, e2, by rw [List.length_map, List.length_map]; exact fit (by show 1 + T.length ≤ _; omega), fun l3 n3 => ?_⟩
    have c3 : [V.int 0] ++ (T.map List.sum).map wv = (0 :: T.map List.sum).map wv := rfl
    rw [c3]
    have t3 : Same H (upd H2 l3 (.lst ((0 :: T.map List.sum).map wv))) := (t1.trans s2).trans (same_upd n3)
    have e3 : upd H2 l3 (.lst ((0 :: T.map List.sum).map wv)) l3 = some (.lst ((0 :: T.map List.sum).map wv)) := upd_same
    generalize upd H2 l3 (.lst ((0 :: T.map List.sum).map wv)) = H3 at t3 e3
    refine ⟨.ref a, rfl, a, rfl, ⟨_, SqL.of (t3 _ _ ea)⟩, fun D4 hD4 => ?_⟩
    refine lc_list (K := K) (a := a) (xs := xs) (fun j H5 => Gr H3 H5 D4 ((T.take j).map tl)) (gr_nil hD4) (fun j H5 _ h => SqL.of ((t3.trans h.1) _ _ ea)) ?_ ?_
    · rintro j x H5 hx g5
      obtain ⟨p, L, hL, rfl, ep⟩ := lg_get ga hx
      have hl := hT.2 L (List.mem_of_getElem? hL)
      have hj : j < T.length := (List.getElem?_eq_some_iff.mp hL).1
      have ep5 := (t3.trans g5.1) _ _ ep
      obtain ⟨vD, eD, gD⟩ := g5.2
      refine ⟨rfl, .ref p, rfl, p, _, rfl, .inl (SqL.of ep5), 1, _, rfl, ⟨by decide, by decide, by rw [List.length_map]; omega, by rw [List.length_map]; omega⟩, fun D6 hD6 => ?_⟩
      rw [show (((L.map wv).length : Int) - 1).toNat = L.length - 1 by rw [List.length_map]; omega]
      have tk : ∀ i, i < L.length - 1 → ((List.range (L.length - 1)).map fun i => (L.drop (1 + i)).sum)[i]? = some ((L.drop (1 + i)).sum) := fun i hi => by
        rw [List.getElem?_map, List.getElem?_range hi]
        rfl
      refine lc_range (lo := 1) (n := L.length - 1) (fun i H6 => Same H5 H6 ∧ H6 D6 = some (.lst (((tl L).take i).map wv))) ⟨same_upd hD6, upd_same⟩ ?_ ?_
      · rintro i H6 hi ⟨s6, e6⟩
        refine ⟨rfl, .ref p, rfl, .int (1 + (i : Int)), rfl, 1 + (i : Int), rfl, p, _, rfl, SqL.of (s6 _ _ ep5), fun p7 n7 => ?_⟩
        rw [show (1 : Int) + (i : Int) = ((1 + i : Nat) : Int) by omega, cutN_from]
        have s7 := same_upd (o := .lst ((L.drop (1 + i)).map wv)) n7
        have e7 : upd H6 p7 (.lst ((L.drop (1 + i)).map wv)) p7 = some (.lst ((L.drop (1 + i)).map wv)) := upd_same
        generalize upd H6 p7 (.lst ((L.drop (1 + i)).map wv)) = H7 at s7 e7
        refine ⟨p7, _, rfl, SqL.of (by rw [← ints_of]; exact e7), ?_⟩
        rw [ints_sum]
        refine ⟨_, s7 _ _ e6, ?_, same_new hD6 (s6.trans s7), ?_⟩
        · rw [List.length_map]
          exact fit' (Nat.le_trans (List.length_take_le _ _) (by omega))
        · rw [upd_same, List.take_add_one, show (tl L)[i]? = _ from tk i hi, List.map_append]
          rfl
      · rintro H6 ⟨s6, e6⟩
        rw [List.take_of_length_le (by rw [tl_len]; exact Nat.le_refl _)] at e6
        refine ⟨vD, s6 _ _ eD, ?_, ?_⟩
        · rw [lg_len gD, List.length_map]
          exact fit' (Nat.le_trans (List.length_take_le _ _) (by omega))
        · rw [← take_map_snoc _ hL]
          exact gr_add hD4 g5 s6 hD6 e6 eD
    rintro H5 g5
    rw [hxl, List.take_length] at g5
    obtain ⟨s5, vD, eD, gD⟩ := g5
    refine ⟨(by show 0 ≤ sizeLine; decide), fun l6 n6 => ⟨(by show 1 ≤ sizeLine; decide), fun l7 n7 => ?_⟩⟩
    have s6 := same_upd (o := .lst []) n6
    have e6 : upd H5 l6 (.lst []) l6 = some (.lst []) := upd_same
    generalize upd H5 l6 (.lst []) = H6 at s6 e6 n7
    have s7 := same_upd (o := .lst [.ref l6]) n7
    have e7 : upd H6 l7 (.lst [.ref l6]) l7 = some (.lst [.ref l6]) := upd_same
    generalize upd H6 l7 (.lst [.ref l6]) = H7 at s7 e7
    have s57 := s6.trans s7
    have hvl : vD.length = T.length := by rw [lg_len gD, List.length_map]
    refine ⟨D4, l7, vD, [.ref l6], rfl, rfl, s57 _ _ eD, e7, by rw [hvl]; exact fit (by show T.length + 1 ≤ _; omega), fun l8 n8 => ?_⟩
    have g8 : LG H7 l8 (T.map tl ++ [[]]) (vD ++ [.ref l6]) := lg_add (L := []) (ne_of_none (s7 _ _ e6) n8) (s7 _ _ e6) (lg_to n8 (lg_same s57 gD))
    have s8 := same_upd (o := .lst (vD ++ [.ref l6])) n8
    have e8 : upd H7 l8 (.lst (vD ++ [.ref l6])) l8 = some (.lst (vD ++ [.ref l6])) := upd_same
    have g8 := lg_same s8 g8
    generalize upd H7 l8 (.lst (vD ++ [.ref l6])) = H8 at s8 e8 g8
    have s38 : Same H3 H8 := s5.trans (s57.trans s8)
    have e38 := s38 _ _ e3
    have s08 := t3.trans s38
    generalize vD ++ [.ref l6] = ys at e8 g8
    have hyl : ys.length = T.length + 1 := by
      rw [lg_len g8, List.length_append, List.length_map]
      rfl
    refine ⟨.ref l3, rfl, .ref l8, rfl, l3, l8, _, _, rfl, SqL.of e38, SqL.of e8, fun D9 hD9 => ?_⟩
    refine lc_it (walk_zip (K := K) (a := l3) (b := l8) (xs := (0 :: T.map List.sum).map wv) (ys := ys) (n := T.length + 1) (by rw [List.length_map, List.length_cons, List.length_map, hyl, Nat.min_self]))
      (fun i H9 => Gr H8 H9 D9 ((wf T).take i)) (gr_nil hD9) (fun i H9 _ h => ⟨SqL.of (h.1 _ _ e38), SqL.of (h.1 _ _ e8)⟩) ?_ ?_
    · rintro i x H9 H10 hi g9 ⟨t, x1, x2, rfl, nt, rfl, hx1, hx2⟩
      have hx1 : ((0 :: T.map List.sum).map wv)[i]? = some x1 := hx1
      have hx2 : ys[i]? = some x2 := hx2
      rw [List.getElem?_map] at hx1
      obtain ⟨k1, hk1, rfl⟩ := Option.map_eq_some_iff.mp hx1
      obtain ⟨p, L, hL, rfl, ep⟩ := lg_get g8 hx2
      have hw : (wf T)[i]? = some (k1 :: L) := by
        unfold wf
        rw [List.getElem?_zipWith, hk1, hL]
      have hLl : L.length ≤ 40 := by
        rcases List.mem_append.mp (List.mem_of_getElem? hL) with z | z
        · obtain ⟨M, hM, rfl⟩ := List.mem_map.mp z
          rw [tl_len]
          have := hT.2 M hM
          omega
        · rw [List.mem_singleton.mp z]
          exact Nat.zero_le _
      have st := same_upd (o := .tup [wv k1, .ref p]) nt
      obtain ⟨s9, v9, e9, g9'⟩ := id g9
      refine ⟨t, _, rfl, SqT.of upd_same, rfl, _, _, rfl, _, _, rfl, rfl, rfl, wv k1, rfl, (by show 1 ≤ sizeLine; decide), fun o1 n1 => ?_⟩
      have s1 := st.trans (same_upd (o := .lst [wv k1]) n1)
      refine ⟨.ref p, rfl, o1, p, _, L.map wv, rfl, rfl, upd_same, s1 _ _ (s9 _ _ ep), ?_, fun p5 n5 => ?_⟩
      · rw [List.length_map]
        exact fit (by show 1 + L.length ≤ _; omega)
      · have s15 := s1.trans (same_upd (o := .lst ([wv k1] ++ L.map wv)) n5)
        refine ⟨v9, s15 _ _ e9, ?_, ?_⟩
        · rw [lg_len g9']
          exact fit' (Nat.le_trans (List.length_take_le _ _) (by omega))
        · rw [List.take_add_one, hw]
          exact gr_add (L := k1 :: L) hD9 g9 s15 (s1.free n5) upd_same e9
    · rintro H9 g9
      rw [List.take_of_length_le (by rw [wf_len]; exact Nat.le_refl _)] at g9
      exact q H9 D9 (s08.trans g9.1) (s08.free hD9) g9.2
end
end Hop

set_option Elab.async false
set_option linter.all false
set_option maxRecDepth 100000
set_option exponentiation.threshold 200000
namespace Hop
open PySem L2 HopR
open C8 (InsC call_isC)
/-! ### how large a table is -/
theorem sfx_len : ∀ l : List Nat, (HopW.sfx l).length = l.length
  | [] => rfl
  | _ :: l => by
    show (HopW.sfx l).length + 1 = l.length + 1
    rw [sfx_len l]
theorem go_len : ∀ (T : List (List Nat)) (s : Nat), (HopW.go s T).length = T.length + 1
  | [], _ => rfl
  | l :: t, s => by
    show (HopW.go l.sum t).length + 1 = t.length + 1 + 1
    rw [go_len t]
theorem go_line {m : Nat} (hm : 1 ≤ m) : ∀ (T : List (List Nat)) (s : Nat), (∀ L ∈ T, L.length ≤ m) → ∀ L ∈ HopW.go s T, L.length ≤ m
  | [], s, _, L, hL => by
    rw [List.mem_singleton.mp hL]
    exact hm
  | l :: t, s, h, L, hL => by
    rcases List.mem_cons.mp hL with rfl | hL
    · show (HopW.sfx l.tail).length + 1 ≤ m
      have := h l List.mem_cons_self
      rw [sfx_len, List.length_tail]
      omega
    · exact go_line hm t l.sum (fun L hL => h L (List.mem_cons_of_mem _ hL)) L hL
theorem fold_len : ∀ (w : List Bool) (T : List (List Nat)), (w.foldl HopW.stT T).length = T.length + w.count false
  | [], _ => rfl
  | true :: w, T => by
    rw [List.foldl_cons, fold_len w, List.count_cons_of_ne (by decide)]
    show (T.map (0 :: ·)).length + _ = _
    rw [List.length_map]
  | false :: w, T => by
    rw [List.foldl_cons, fold_len w, List.count_cons_self]
    show (HopW.go 0 T).length + _ = _
    rw [go_len]
    omega
theorem fold_line : ∀ (w : List Bool) (T : List (List Nat)) (m : Nat), 1 ≤ m → (∀ L ∈ T, L.length ≤ m) → ∀ L ∈ w.foldl HopW.stT T, L.length ≤ m + w.count true
  | [], _, _, _, h, L, hL => h L hL
  | true :: w, T, m, hm, h, L, hL => by
    rw [List.foldl_cons] at hL
    have := fold_line w (HopW.stT T true) (m + 1) (by omega) (fun M hM => by
      obtain ⟨M', h', rfl⟩ := List.mem_map.mp hM
      show M'.length + 1 ≤ m + 1
      have := h M' h'
      omega) L hL
    rw [List.count_cons_self]
    omega
  | false :: w, T, m, hm, h, L, hL => by
    rw [List.foldl_cons] at hL
    rw [List.count_cons_of_ne (by decide)]
    exact fold_line w (HopW.stT T false) m hm (go_line hm T 0 h) L hL
theorem tbl_len (w : List Bool) : (HopW.tbl w).length = w.count false + 1 := by
  unfold HopW.tbl
  rw [fold_len]
  show 1 + _ = _
  omega
theorem tbl_line {w : List Bool} {L : List Nat} (h : L ∈ HopW.tbl w) : L.length ≤ w.count true + 1 := by
  have := fold_line w [[1]] 1 (by decide) (fun L hL => by rw [List.mem_singleton.mp hL]; decide) L h
  omega
theorem tbl_small {w : List Bool} (h : w.length ≤ 30) : Small (HopW.tbl w) := by
  have h1 := List.count_le_length (a := false) (l := w)
  have h2 := List.count_le_length (a := true) (l := w)
  refine ⟨by rw [tbl_len]; omega, fun L hL => ?_⟩
  have := tbl_line hL
  omega
/-! ### the ends of a table -/
theorem eL_app (f : Nat) : ∀ (l r : List Nat) (b : Nat), HopW.enL f b (l ++ r) = HopW.enL f b l ++ HopW.enL f (b + l.length) r
  | [], r, b => rfl
  | m :: l, r, b => by
    show (if 0 < m then [((f, b), (m : Int))] else []) ++ HopW.enL f (b + 1) (l ++ r) = _
    rw [eL_app f l r (b + 1), ← List.append_assoc]
    show _ = _ ++ HopW.enL f (b + (l.length + 1)) r
    rw [show b + 1 + l.length = b + (l.length + 1) by omega]
    rfl
theorem eT_app : ∀ (l r : List (List Nat)) (f : Nat), HopW.enT f (l ++ r) = HopW.enT f l ++ HopW.enT (f + l.length) r
  | [], r, f => rfl
  | m :: l, r, f => by
    show HopW.enL f 0 m ++ HopW.enT (f + 1) (l ++ r) = _
    rw [eT_app l r (f + 1), ← List.append_assoc]
    show _ = _ ++ HopW.enT (f + (l.length + 1)) r
    rw [show f + 1 + l.length = f + (l.length + 1) by omega]
    rfl
theorem eL_take {f : Nat} {l : List Nat} {j m : Nat} (h : l[j]? = some m) : HopW.enL f 0 (l.take (j + 1)) = HopW.enL f 0 (l.take j) ++ (if 0 < m then [((f, j), (m : Int))] else []) := by
  have hj := (List.getElem?_eq_some_iff.mp h).1
  rw [List.take_add_one, h, eL_app, List.length_take, Nat.min_eq_left (by omega), Nat.zero_add]
  show _ ++ ((if 0 < m then [((f, j), (m : Int))] else []) ++ []) = _
  rw [List.append_nil]
theorem eT_take {T : List (List Nat)} {i : Nat} {l : List Nat} (h : T[i]? = some l) : HopW.enT 0 (T.take (i + 1)) = HopW.enT 0 (T.take i) ++ HopW.enL i 0 l := by
  have hj := (List.getElem?_eq_some_iff.mp h).1
  rw [List.take_add_one, h, eT_app, List.length_take, Nat.min_eq_left (by omega), Nat.zero_add]
  show _ ++ (HopW.enL i 0 l ++ []) = _
  rw [List.append_nil]
/-- a walk, whatever is done at each turn -/
theorem out_it {J : It} {n : Nat} {G : Hp → Prop} {Y : Nat → Hp → V → Hp → Prop} (w : Walk J n G Y) {B : (Hp → Prop) → V → Hp → Prop} {H1 : Hp} {Qd : Hp → Prop} (Pv : Nat → Hp → Prop) (h0 : Pv 0 H1) (hG : ∀ i H, i ≤ n → Pv i H → G H)
    (hs : ∀ i x H H', i < n → Pv i H → Y i H x H' → B (Pv (i + 1)) x H') (hd : ∀ H, Pv n H → Qd H) :
    ∃ W : Nat → Nat → Hp → Prop, (∃ m, W 0 m H1) ∧ ∀ i m H, W i m H → (J.stop i H ∧ Qd H) ∨ (J.go i H ∧ ∃ Nx : Hp → Prop, (∀ H', Nx H' → ∃ m', m' < m ∧ W (i + 1) m' H') ∧ ∀ x H', J.yld i H x H' → B Nx x H') := by
  refine ⟨fun i m H => i + m = n ∧ Pv i H, ⟨n, Nat.zero_add n, h0⟩, fun i m H h => ?_⟩
  obtain ⟨e, p⟩ := h
  have hg := hG i H (by omega) p
  cases m with
  | zero =>
    have e : i = n := e
    subst e
    exact .inl ⟨w.stops H hg, hd H p⟩
  | succ m =>
    exact .inr ⟨w.goes i H (by omega) hg, Pv (i + 1), fun H' p' => ⟨m, Nat.lt_succ_self m, by omega, p'⟩, fun x H' y => hs i x H H' (by omega) p (w.yields i H x H' (by omega) hg y)⟩
/-- a new list of new tuples -/
def GrT (H0 H : Hp) (D : Addr) (es : List HopW.En) (n : Nat) : Prop := Same H0 H ∧ ∃ acc, H D = some (.lst acc) ∧ TupG H HopW.f3i es acc ∧ acc.length ≤ n
section
variable {P : Program} {w : World} {K : PySem.W.Frag} {mg : Str → Option Value} {base : Heap} {d : Addr} {es : Array DictEntry} {n : Nat} {NW NP : Addr}
/-! ### ends_of -/
structure EnDefs (K : PySem.W.Frag) (mg : Str → Option Value) : Prop where
  R : ∃ r s, Fn K mg "is_row" sIsRow ["thing"] r s
  W : ∃ r s, Fn K mg "is_word" sIsWord ["thing"] r s
  N : ∃ r s, Fn K mg "need_word" sNeedWord ["thing"] r s
  B : ∃ r s, Fn K mg "with_bead" sWithBead ["table"] r s
  F : ∃ r s, Fn K mg "with_free" sWithFree ["table"] r s
def spEndsOf (K : PySem.W.Frag) (NW : Addr) : Sp := fun vs H Q E => ∃ x, vs = [x] ∧ ((∃ bs : List Bool, x = .str (tx bs) ∧ bs.length ≤ 30 ∧ ∀ H' p acc, Same H H' → H p = none → H' p = some (.lst acc) → TupG H' HopW.f3i (HopW.eN bs) acc → acc.length ≤ 1600 → Q (.ref p) H') ∨ (WordB K H x false ∧ ∀ H', Same H H' → E (.ref NW) none H'))
abbrev nEO : List Str := ["word", "table", "sign", "frees", "line", "beads", "many"]
theorem scEndsOf : FnScope nEO ["word"] (defScope sEndsOf) := ⟨rfl, rfl, rfl, by decide +kernel, rfl, by decide +kernel, by decide +kernel⟩
def rGtI : R2 := rI0 fun i j => .bl (decide (i > j))
theorem is_o (b : Bool) : decide (V.str (tx [b]) = V.str "o") = b := by
  rw [tx_o]
  cases b with
  | true => exact decide_eq_true rfl
  | false => exact decide_eq_false fun q => absurd (tx_inj (V.str.inj q)) (by decide)
theorem tbl_step {bs : List Bool} {i : Nat} {b : Bool} (h : bs[i]? = some b) : HopW.tbl (bs.take (i + 1)) = HopW.stT (HopW.tbl (bs.take i)) b := by
  unfold HopW.tbl
  rw [List.take_add_one, h, List.foldl_append]
  rfl
set_option maxHeartbeats 4000000 in
theorem ok_endsOf {f : Addr} {fd : FuncData} {k : Nat} (F : Fun K "ends_of" "ends_of" sEndsOf f fd) (N : EnDefs K mg) (T : Txt K w mg d es n) (T0 : TxtL mg) (Z : Er K mg NW NP) : FnOk P w K mg base (L2.CX P w) (k + 4) f fd ["word"] (spEndsOf K NW) := by
  obtain ⟨f1, g1, N1⟩ := N.R
  obtain ⟨f2, g2, N2⟩ := N.W
  obtain ⟨f3', g3, N3⟩ := N.N
  obtain ⟨f4, g4, N4⟩ := N.B
  obtain ⟨f5, g5, N5⟩ := N.F
  have G3 : FnOk P w K mg base (L2.CX P w) (k + 3) f3' g3 ["thing"] (spNeed K NW) := ok_need N3.F N1 N2 T Z
  have G4 : FnOk P w K mg base CX0 (k + 3) f4 g4 ["table"] spBead := ok_bead N4.F
  have G5 : FnOk P w K mg base CX0 (k + 3) f5 g5 ["table"] spFree := ok_free N5.F T0
  refine F.okX scEndsOf (fun vs H Q E h => ?_) (fun cdv A outer s H vs Q E hr h => ?_)
  · obtain ⟨x, rfl, _⟩ := h
    rfl
  · obtain ⟨x, rfl, h⟩ := h
    have nd := scEndsOf.nd
    obtain ⟨tb, gb⟩ := T.bead
    refine ⟨_, pss_cons (ps_expr (pe_call G3 hr (by rfl) N3.g N3.F.kp N3.b .nil (passes_call (E := E) (takes_of rfl rfl rfl rfl) (fun _ _ _ _ h => h)) (pa_cons (pv 0) pa_nil)))
      (PSs.nox (pss_cons (ps_set (i := 1) nd rfl (.inl rfl) (pe_lst (pa_cons (pe_lst (pa_cons pe_int pa_nil)) pa_nil)))
      (pss_cons (ps_for PassesOwn.never rfl (pi_str (pv 0)) (pg_name (i := 2) nd rfl (.inl rfl))
        (pss_one (ps_set (i := 1) nd rfl (.inl rfl) (pe_ifExp (pt_cmpR op_eq (pv 2) (pe_glob (v := .str "o") (by rfl) gb ⟨_, rfl⟩) (nomark _)) (pe_call G4 hr (by rfl) N4.g N4.F.kp N4.b .nil pass0 (pa_cons (pv 1) pa_nil)) (pe_call G5 hr (by rfl) N5.g N5.F.kp N5.b .nil pass0 (pa_cons (pv 1) pa_nil))))))
      (pss_one (ps_ret (pe_lc2 (own := [("frees", 3), ("line", 4), ("beads", 5), ("many", 6)]) (vs1 := [5, 6]) (g := gTup K 2 (gCons (gName 3) (gCons (gName 4) gNil))) (tt := tYes) (wi1 := iEnum K (tCons (tVar 4) tNil)) (g1 := gTup K 2 (gCons (gName 5) (gCons (gName 6) gNil))) (tt1 := tTest (tOp rGtI (tVar 6) (tC (.int 0)))) rfl nd
        (pi_enum (by rfl) T0.enum (pa_cons (pv 1) pa_nil)) (blkOk_by (own := [("frees", 3), ("line", 4), ("beads", 5), ("many", 6)]) (N := nEO) (sc := defScope sEndsOf) (by decide +kernel)) (by decide)
        (fun _ _ _ _ _ => pg_tup (by rfl) (pgs_cons (pg_name (i := 3) nd rfl (.inl rfl)) (pgs_cons (pg_name (i := 4) nd rfl (.inl rfl)) pgs_nil))) (fun _ _ _ _ _ => pts_nil)
        (fun _ _ _ _ _ => pi_enum (by rfl) T0.enum (pa_cons (pv 4) pa_nil))
        (fun _ _ _ _ _ => pg_tup (by rfl) (pgs_cons (pg_name (i := 5) nd rfl (.inl rfl)) (pgs_cons (pg_name (i := 6) nd rfl (.inl rfl)) pgs_nil)))
        (fun _ _ _ _ _ => pts_one (pt_cmpR (show OpR _ (compareOp .Gt) rGtI from op_gt) (pv 6) pe_int (nomark _)))
        (fun _ _ _ _ _ => pe_tup (pa_cons (pv 3) (pa_cons (pv 5) (pa_cons (pv 6) pa_nil)))))))))), ?_⟩
    rcases h with ⟨bs, rfl, h30, q⟩ | ⟨hw, q⟩
    case inr => exact ⟨x, rfl, x, false, rfl, hw, (fun z => nomatch z), fun _ H1 s1 => q H1 s1⟩
    refine ⟨.str (tx bs), rfl, .str (tx bs), true, rfl, .inr ⟨tx bs, rfl, by rw [tx_len]; omega, (isWord_tx h30).symm⟩, fun _ H1 s1 => ?_, fun z => nomatch z⟩
    refine ⟨(by show 1 ≤ sizeLine; decide), fun l2 n2 => ⟨(by show 1 ≤ sizeLine; decide), fun l3 n3 => ?_⟩⟩
    have s2 := same_upd (o := .lst [.int 1]) n2
    have e2 : upd H1 l2 (.lst [.int 1]) l2 = some (.lst [.int 1]) := upd_same
    generalize upd H1 l2 (.lst [.int 1]) = H2 at s2 e2 n3
    have s3 := same_upd (o := .lst [.ref l2]) n3
    have t3 : Tb (upd H2 l3 (.lst [.ref l2])) l3 [[1]] := ⟨_, upd_same, l2, [], rfl, ne_of_none e2 n3, s3 _ _ e2, rfl⟩
    generalize upd H2 l3 (.lst [.ref l2]) = H3 at s3 t3
    have s03 := s1.trans (s2.trans s3)
    refine ⟨.str (tx bs), rfl, tx bs, rfl, ?_⟩
    refine for_tx (bs := bs) (fun i σ H4 => ∃ (y2 : Option V) (p : Addr), σ = [some (.str (tx bs)), some (.ref p), y2, none, none, none, none] ∧ Same H H4 ∧ Tb H4 p (HopW.tbl (bs.take i))) ⟨_, l3, rfl, s03, t3⟩ ?_ ?_
    · rintro i b σ H4 hb ⟨y2, p, rfl, s4, t4⟩
      have hsm : Small (HopW.tbl (bs.take i)) := tbl_small (by rw [List.length_take]; omega)
      refine ⟨.str (tx [b]), rfl, rfl, _, rfl, ?_⟩
      rw [is_o]
      have hst := tbl_step hb
      cases b with
      | true =>
        refine iteT ⟨.ref p, rfl, p, _, rfl, t4, hsm, fun H5 p5 s5 n5 t5 => ⟨_, p5, rfl, s4.trans s5, ?_⟩⟩
        rw [hst]
        exact t5
      | false =>
        refine iteF ⟨.ref p, rfl, p, _, rfl, t4, hsm, fun H5 p5 s5 n5 t5 => ⟨_, p5, rfl, s4.trans s5, ?_⟩⟩
        rw [hst]
        rw [wf_eq] at t5
        exact t5
    · rintro σ H4 ⟨y2, p, rfl, s4, t4⟩
      rw [List.take_length] at t4
      have hsm : Small (HopW.tbl bs) := tbl_small h30
      unfold HopW.eN at q
      generalize HopW.tbl bs = U at t4 hsm q
      obtain ⟨xs, ep, gp⟩ := t4
      have hU := hsm.1
      refine ⟨.ref p, rfl, p, _, rfl, SqL.of ep, fun D hD => ?_⟩
      refine out_it (walk_enum (K := K) (a := p) (xs := xs)) (fun i H5 => GrT H4 H5 D (HopW.enT 0 (U.take i)) (40 * i)) ⟨same_upd hD, [], upd_same, rfl, Nat.le_refl _⟩ (fun i H5 _ h => SqL.of (h.1 _ _ ep)) ?_ ?_
      · rintro i x H5 H6 hi ⟨s5, acc, eD, gD, hl⟩ ⟨t, x1, x2, rfl, nt, rfl, hx1, hx2⟩
        have hx1 : some (V.int (i : Nat)) = some x1 := hx1
        obtain rfl := Option.some.inj hx1
        have hx2 : xs[i]? = some x2 := hx2
        obtain ⟨pl, L, hL, rfl, el⟩ := lg_get gp hx2
        have hLl := hsm.2 L (List.mem_of_getElem? hL)
        have hi2 : i < U.length := (List.getElem?_eq_some_iff.mp hL).1
        have st := same_upd (o := .tup [.int (i : Nat), .ref pl]) nt
        have et : upd H5 t (.tup [.int (i : Nat), .ref pl]) t = some (.tup [.int (i : Nat), .ref pl]) := upd_same
        generalize upd H5 t (.tup [.int (i : Nat), .ref pl]) = H6 at st et
        have el6 := (s5.trans st) _ _ el
        refine ⟨t, _, rfl, SqT.of et, rfl, _, _, rfl, _, _, rfl, rfl, rfl, ?_⟩
        refine ⟨.ref pl, rfl, pl, _, rfl, SqL.of el6, ?_⟩
        refine out_it (walk_enum (K := K) (a := pl) (xs := L.map wv)) (fun j H7 => GrT H4 H7 D (HopW.enT 0 (U.take i) ++ HopW.enL i 0 (L.take j)) (40 * i + j)) ⟨s5.trans st, acc, st _ _ eD, by
          show TupG H6 HopW.f3i (HopW.enT 0 (U.take i) ++ []) acc
          rw [List.append_nil]
          exact tupG_same st gD, hl⟩ (fun j H7 _ h => SqL.of (h.1 _ _ el)) ?_ ?_
        · rintro j x H7 H8 hj ⟨s7, acc7, eD7, gD7, hl7⟩ ⟨t', x1, x2, rfl, nt', rfl, hx1, hx2⟩
          have hx1 : some (V.int (j : Nat)) = some x1 := hx1
          obtain rfl := Option.some.inj hx1
          have hx2 : (L.map wv)[j]? = some x2 := hx2
          rw [List.getElem?_map] at hx2
          obtain ⟨m, hm, rfl⟩ := Option.map_eq_some_iff.mp hx2
          have hj2 : j < L.length := (List.getElem?_eq_some_iff.mp hm).1
          have st' := same_upd (o := .tup [.int (j : Nat), wv m]) nt'
          have et' : upd H7 t' (.tup [.int (j : Nat), wv m]) t' = some (.tup [.int (j : Nat), wv m]) := upd_same
          generalize upd H7 t' (.tup [.int (j : Nat), wv m]) = H8 at st' et'
          refine ⟨t', _, rfl, SqT.of et', rfl, _, _, rfl, _, _, rfl, rfl, rfl, ?_⟩
          refine ⟨wv m, rfl, _, _, rfl, rfl, _, rfl, ?_⟩
          have hE := eL_take (f := i) hm
          by_cases hm0 : 0 < m
          · rw [if_pos hm0] at hE
            rw [decide_eq_true (show (m : Int) > 0 by omega)]
            refine iteT ⟨.int (i : Nat), rfl, .int (j : Nat), rfl, wv m, rfl, (by show 3 ≤ sizeLine; decide), fun p9 n9 => ?_⟩
            have s9 := st'.trans (same_upd (o := .tup [.int (i : Nat), .int (j : Nat), wv m]) n9)
            have e9 : upd H8 p9 (.tup [.int (i : Nat), .int (j : Nat), wv m]) p9 = some (.tup (HopW.f3i ((i, j), (m : Int)))) := upd_same
            generalize upd H8 p9 (.tup [.int (i : Nat), .int (j : Nat), wv m]) = H9 at s9 e9
            refine ⟨acc7, s9 _ _ eD7, fit' (by omega), same_new hD (s7.trans s9), _, upd_same, ?_, ?_⟩
            · rw [hE, ← List.append_assoc]
              exact tupG_upd (s9 _ _ eD7) (tupG_add e9 (tupG_same s9 gD7))
            · rw [List.length_append]
              show acc7.length + 1 ≤ _
              omega
          · rw [if_neg hm0, List.append_nil] at hE
            rw [decide_eq_false (show ¬ (m : Int) > 0 by omega)]
            refine iteF ⟨s7.trans st', acc7, st' _ _ eD7, ?_, by omega⟩
            rw [hE]
            exact tupG_same st' gD7
        · rintro H7 ⟨s7, acc7, eD7, gD7, hl7⟩
          rw [List.length_map] at hl7 gD7
          rw [List.take_length] at gD7
          refine ⟨s7, acc7, eD7, ?_, by omega⟩
          rw [eT_take hL]
          exact gD7
      · rintro H5 ⟨s5, acc, eD, gD, hl⟩
        rw [lg_len gp] at gD hl
        rw [List.take_length] at gD
        exact q H5 D acc (s4.trans s5) (s4.free hD) eD gD (by omega)
end
end Hop

set_option Elab.async false
set_option linter.all false
set_option maxRecDepth 100000
namespace Hop
open PySem L2 HopR HopW HopT HopH
abbrev sLCourse : Stmt := top 30
abbrev sLDue : Stmt := top 31
abbrev sLaw : Stmt := top 32
theorem rep_sg (b : Bool) (m : Nat) : repS (tx [b]) m = tx (List.replicate m b) := by
  unfold repS tx
  congr 2
  show (List.replicate m ([b].map cd)).flatten = _
  rw [List.map_replicate]
  exact flat_rep (cd b) m
theorem rep_f (m : Nat) : repS "." m = tx (List.replicate m false) := by rw [tx_f, rep_sg]
theorem rep_o (m : Nat) : repS "o" m = tx (List.replicate m true) := by rw [tx_o, rep_sg]
def t2w (e : En) : List V := [.str (wtx e), .int e.2]
theorem t3w_key (e : En) : t3w e = (k3w e).map kV := rfl
theorem cr_sortedW {X : Cx} : CallR X (.builtin "sorted") (rSortedA t3w k3w) := cr_sortedA (c := true) (κs := [false, true]) t3w_key fun _ => rfl
theorem dp_due {K : PySem.W.Frag} {H : Hp} : ∀ {l : List En} {vs : List V}, TupG H t2w l vs → DpAll K H vs (l.map fun e => .tuple [.str (wtx e), .int e.2])
  | [], _, h => by
    cases h
    exact .nil
  | e :: r, _, ⟨p, vr, ev, h1, h2⟩ => by
    subst ev
    exact .cons (.tup (SqT.of h1) (.cons (.str _) (.cons (.int _) .nil))) (dp_due h2)
theorem due_is {bs : List Bool} {B : Tal} (to : TO B) (fin : ∀ p ∈ B, plc p.1 = []) (b : Bal bs B) {l : List En} (p : l.Perm (eN bs)) (so : l.Pairwise fun x y => lexK (k3w y) (k3w x) = false) : PyData.list (l.map fun e => .tuple [.str (wtx e), .int e.2]) = dB B := by
  unfold dB
  have h := due_keys to fin b p so
  have h : l.map wtx = ordB B := h
  rw [← h, List.map_map]
  refine congrArg PyData.list (List.map_congr_left fun e he => ?_)
  obtain ⟨u, e1, m⟩ := due_mem to fin b p he
  show PyData.tuple [.str (wtx e), .int e.2] = dW B (wtx e)
  unfold dW
  rw [e1, cz_of to.once m]
section
variable {P : Program} {w : World} {K : PySem.W.Frag} {mg : Str → Option Value} {base : Heap} {d : Addr} {es : Array DictEntry} {n : Nat} {NW NP S : Addr}
/-! ### _law_due -/
def spLDue (K : PySem.W.Frag) : Sp := fun vs H Q _ => ∃ (bs : List Bool) (B : Tal), vs = [.str (tx bs)] ∧ bs.length ≤ 12 ∧ TO B ∧ (∀ p ∈ B, plc p.1 = []) ∧ Bal bs B ∧ ∀ H' p, Same H H' → H p = none → Dp K H' (.ref p) (dB B) → Q (.ref p) H'
abbrev nLDue : List Str := ["_law_word", "_law_found", "_law_frees", "_law_beads", "_law_many", "_law_size", "_law_text"]
theorem scLDue : FnScope nLDue ["_law_word"] (defScope sLDue) := ⟨rfl, rfl, rfl, by decide +kernel, rfl, by decide +kernel, by decide +kernel⟩
theorem ok_ldue {f fe : Addr} {fd ge : FuncData} {k : Nat} (F : Fun K "_law_due" "_law_due" sLDue f fd) (Ne : Fn K mg "ends_of" sEndsOf ["word"] fe ge) (N : EnDefs K mg) (T : Txt K w mg d es n) (T0 : TxtL mg) (Z : Er K mg NW NP) : FnOk P w K mg base CX0 (k + 5) f fd ["_law_word"] (spLDue K) := by
  have Ge : FnOk P w K mg base (L2.CX P w) (k + 4) fe ge ["word"] (spEndsOf K NW) := ok_endsOf Ne.F N T T0 Z
  refine F.ok scLDue (fun vs H Q E h => ?_) (fun cdv A outer s H vs Q E hr h => ?_)
  · obtain ⟨bs, B, rfl, _⟩ := h
    rfl
  · obtain ⟨bs, B, rfl, h12, to, fin, bal, q⟩ := h
    have nd := scLDue.nd
    refine ⟨_, pss_cons (ps_set (i := 1) nd rfl (.inl rfl) (pe_lst pa_nil))
      (pss_cons (ps_for PassesOwn.never rfl (pi_list (pe_call Ge hr (by rfl) Ne.g Ne.F.kp Ne.b .nil passX (pa_cons (pv 0) pa_nil))) (pg_tup (by rfl) (pgs_cons (pg_name (i := 2) nd rfl (.inl rfl)) (pgs_cons (pg_name (i := 3) nd rfl (.inl rfl)) (pgs_cons (pg_name (i := 4) nd rfl (.inl rfl)) pgs_nil))))
        (pss_one (ps_expr (pe_bm PySem.F.plainAttrs_list PySem.F.slot_list_append PySem.F.type_list_append mt_append (pv 1) (pa_cons (pe_tup (pa_cons (pe_op op_add (pv 2) (pv 3)) (pa_cons (pe_op op_add_str (pe_op op_repS pe_str (pv 2)) (pe_op op_repS pe_str (pv 3))) (pa_cons (pv 4) pa_nil)))) pa_nil)))))
      (pss_one (ps_ret (pe_lc (own := [("_law_size", 5), ("_law_text", 6), ("_law_many", 4)]) (g := gTup K 3 (gCons (gName 5) (gCons (gName 6) (gCons (gName 4) gNil)))) (tt := tYes) rfl nd (pi_list (pe_callB (show CallR _ (.builtin "sorted") (rSortedA t3w k3w) from cr_sortedW) (by rfl) T.sorted (by decide +kernel) (pa_cons (pv 1) pa_nil)))
        (blkOk_by (own := [("_law_size", 5), ("_law_text", 6), ("_law_many", 4)]) (N := nLDue) (sc := defScope sLDue) (by decide +kernel))
        (fun _ _ _ _ _ => pg_tup (by rfl) (pgs_cons (pg_name (i := 5) nd rfl (.inl rfl)) (pgs_cons (pg_name (i := 6) nd rfl (.inl rfl)) (pgs_cons (pg_name (i := 4) nd rfl (.inl rfl)) pgs_nil)))) (fun _ _ _ _ _ => pts_nil)
        (fun _ _ _ _ _ => pe_tup (pa_cons (pv 6) (pa_cons (pv 4) pa_nil))))))), ?_⟩
    refine ⟨Nat.zero_le _, fun o no => ?_⟩
    have s1 : Same H (upd H o (.lst [])) := same_upd no
    have e1 : upd H o (.lst []) o = some (.lst []) := upd_same
    generalize upd H o (.lst []) = H1 at s1 e1
    refine ⟨.str (tx bs), rfl, .str (tx bs), rfl, .inl ⟨bs, rfl, by omega, fun H2 pe acc s2 npe epe ge hl => ?_⟩⟩
    have s02 := s1.trans s2
    have el : ∀ e ∈ eN bs, e.1.1 + e.1.2 ≤ 12 := fun e he => by
      obtain ⟨u, e1, m⟩ := due_mem to fin bal (List.Perm.refl _) he
      have h1 := wtx_len e
      rw [e1, tx_len] at h1
      have := (to.le _ m).2.2
      have : u.length ≤ 12 := this
      omega
    have hlE := tupG_len ge
    have lf : (".": Str).length = 1 := by decide +kernel
    have lo : ("o": Str).length = 1 := by decide +kernel
    refine ⟨pe, rfl, ⟨_, SqL.of epe⟩, ?_⟩
    refine for_list (K := K) (a := pe) (xs := acc) (fun i σ H3 => ∃ (y2 y3 y4 y5 y6 : Option V) (ac2 : List V), σ = [some (.str (tx bs)), some (.ref o), y2, y3, y4, y5, y6] ∧ Same H H3 ∧ H3 pe = some (.lst acc) ∧ TupG H3 f3i (eN bs) acc ∧ H3 o = some (.lst ac2) ∧ TupG H3 t3w ((eN bs).take i) ac2)
      ⟨_, _, _, _, _, [], rfl, s02, epe, ge, s2 _ _ e1, rfl⟩ (fun i σ H3 _ ⟨_, _, _, _, _, _, _, _, e, _⟩ => SqL.of e) ?_ ?_
    · rintro i x σ H3 hx ⟨y2, y3, y4, y5, y6, ac2, rfl, s3, ep3, g3, eo, go⟩
      obtain ⟨e, t, he, rfl, et⟩ := tupG_item g3 hx
      have hi : i < (eN bs).length := (List.getElem?_eq_some_iff.mp he).1
      have hb := el e (List.mem_of_getElem? he)
      refine ⟨t, _, rfl, SqT.of et, rfl, _, _, rfl, _, _, rfl, _, _, rfl, rfl, ?_⟩
      refine ⟨.ref o, rfl, .inl ⟨rfl, _, SqL.of eo⟩, .int (e.1.1 : Int), rfl, .int (e.1.2 : Int), rfl, _, _, rfl, rfl, .int (e.1.1 : Int), rfl, ".", e.1.1, rfl, rfl, (by rw [lf]; omega), by omega, .int (e.1.2 : Int), rfl, "o", e.1.2, rfl, rfl, (by rw [lo]; omega), by omega, ?_⟩
      rw [rep_f, rep_o]
      refine ⟨_, _, rfl, rfl, (by rw [tx_len, tx_len, List.length_replicate, List.length_replicate]; exact Nat.le_trans (show _ ≤ 100 by omega) (by decide)), ?_⟩
      rw [tx_app]
      refine ⟨.int e.2, rfl, (by show 3 ≤ sizeLine; decide), fun t2 nt2 => ?_⟩
      have s4 := same_upd (o := .tup (t3w e)) nt2
      have e4 : upd H3 t2 (.tup (t3w e)) t2 = some (.tup (t3w e)) := upd_same
      have eo4 := s4 _ _ eo
      have npo : pe ≠ o := (ne_of_none e1 npe).symm
      have hl2 := tupG_len go
      rw [List.length_take] at hl2
      have no0 : H o = none := no
      refine ⟨o, ac2, _, rfl, rfl, eo4, fit' (by omega), _, _, _, _, _, ac2 ++ [.ref t2], rfl, same_new no0 (s3.trans s4), (by rw [upd_ne npo]; exact s4 _ _ ep3), tupG_upd eo4 (tupG_same s4 g3), upd_same, ?_⟩
      rw [List.take_add_one, he]
      exact tupG_upd eo4 (tupG_add e4 (tupG_same s4 go))
    · rintro σ H3 ⟨y2, y3, y4, y5, y6, ac2, rfl, s3, ep3, g3, eo, go⟩
      rw [hlE, List.take_length] at go
      refine ⟨.ref o, rfl, o, eN bs, rfl, ⟨ac2, eo, go⟩, fun l' p H4 pm so s4 np tl => ?_⟩
      obtain ⟨ac4, e4, g4⟩ := tl
      have hlen : ac4.length ≤ 1600 := by
        rw [tupG_len g4, pm.length_eq, ← hlE]
        exact hl
      have hll := tupG_len g4
      refine ⟨p, rfl, ⟨_, SqL.of e4⟩, fun D hD => ?_⟩
      have sH := s3.trans s4
      refine lc_list (K := K) (a := p) (xs := ac4) (fun j H5 => Same H4 H5 ∧ ∃ ac5 : List V, H5 D = some (.lst ac5) ∧ TupG H5 t2w (l'.take j) ac5) ⟨same_upd hD, [], upd_same, rfl⟩ (fun j H5 _ h => SqL.of (h.1 _ _ e4)) ?_ ?_
      · rintro j x H5 hx ⟨s5, ac5, eD, g5⟩
        obtain ⟨e, t, he, rfl, et⟩ := tupG_item g4 hx
        have hj : j < l'.length := (List.getElem?_eq_some_iff.mp he).1
        refine ⟨t, _, rfl, SqT.of (s5 _ _ et), rfl, _, _, rfl, _, _, rfl, _, _, rfl, rfl, rfl, .str (wtx e), rfl, .int e.2, rfl, (by show 2 ≤ sizeLine; decide), fun t2 nt2 => ?_⟩
        have s6 := same_upd (o := .tup (t2w e)) nt2
        have e6 : upd H5 t2 (.tup (t2w e)) t2 = some (.tup (t2w e)) := upd_same
        have eD6 := s6 _ _ eD
        have h5 := tupG_len g5
        rw [List.length_take] at h5
        refine ⟨ac5, eD6, fit' (by omega), same_new hD (s5.trans s6), ac5 ++ [.ref t2], upd_same, ?_⟩
        rw [List.take_add_one, he]
        exact tupG_upd eD6 (tupG_add e6 (tupG_same s6 g5))
      · rintro H5 ⟨s5, ac5, eD, g5⟩
        rw [hll, List.take_length] at g5
        refine q H5 D (sH.trans s5) (sH.free hD) ?_
        rw [← due_is to fin bal pm so]
        exact .lst (SqL.of eD) (dp_due g5)
end
end Hop

set_option Elab.async false
set_option linter.all false
set_option maxRecDepth 100000
/-! ### each shortening makes the sum's number greater, and it is bounded -/
namespace HopW
open PySem L2 HopR
def t1 : Tal → Int
  | [] => 0
  | (_, v) :: l => v + t1 l
theorem t1_pz (k : List Bool) (c : Int) : ∀ l : Tal, t1 (pz k c l) = t1 l + c
  | [] => by show c + 0 = 0 + c; omega
  | (j, v) :: l => by
    unfold pz
    split
    · show (v + c) + t1 l = v + t1 l + c
      omega
    · show v + t1 (pz k c l) = v + t1 l + c
      rw [t1_pz k c l]
      omega
theorem t1_dz {k : List Bool} : ∀ {T : Tal}, Once T → t1 (dz k T) + gz k T = t1 T
  | [], _ => rfl
  | (j, v) :: l, o => by
    have o' : (j :: l.map (·.1)).Nodup := o
    obtain ⟨n1, n2⟩ := List.nodup_cons.mp o'
    by_cases e : j = k
    · subst e
      obtain ⟨a, _⟩ := dz_no n1
      have e1 : dz j ((j, v) :: l) = l := by
        unfold dz at *
        rw [List.filter_cons, if_neg (by simp), a]
      have e2 : gz j ((j, v) :: l) = v := by
        show (if j = j then v else gz j l) = v
        rw [if_pos rfl]
      rw [e1, e2]
      show t1 l + v = v + t1 l
      omega
    · have e1 : dz k ((j, v) :: l) = (j, v) :: dz k l := by
        unfold dz
        rw [List.filter_cons, if_pos (by simpa using e)]
      have e2 : gz k ((j, v) :: l) = gz k l := by
        show (if j = k then v else gz k l) = gz k l
        rw [if_neg e]
      rw [e1, e2]
      show v + t1 (dz k l) + gz k l = v + t1 l
      have := t1_dz (k := k) n2
      omega
theorem t1_stp {T : Tal} {u : List Bool} {k : Nat} (t : TO T) (hu : u ∈ T.map (·.1)) : t1 T + 1 ≤ t1 (stp T u k) := by
  have m := gz_pos (fun p hp => (t.each p hp).1) hu
  have c : 1 ≤ gz u T := (t.each _ m).1
  unfold stp
  rw [t1_pz, t1_pz]
  have := t1_dz (k := u) t.once
  omega
theorem t1_tot : ∀ {T : Tal}, (∀ p ∈ T, 1 ≤ p.2) → t1 T ≤ tot T
  | [], _ => Int.le_refl _
  | (j, v) :: l, h => by
    have ih := t1_tot (T := l) fun p hp => h p (List.mem_cons_of_mem _ hp)
    have hv : 1 ≤ v := h (j, v) (List.mem_cons_self ..)
    have h2 := pow_pos2 j.length
    have h3 : v * 1 ≤ v * 2 ^ j.length := Int.mul_le_mul_of_nonneg_left h2 (by omega)
    show v + t1 l ≤ v * 2 ^ j.length + tot l
    omega
theorem tot_stp {T : Tal} {u : List Bool} {k : Nat} (t : TO T) (hk : k ∈ plc u) : tot (stp T u k) = tot T := by
  have h2 := plc_two hk
  have la := shA_len h2
  have lb := shB_len h2
  unfold stp
  rw [tot_pz, tot_pz]
  have e := tot_dz (k := u) t.once
  have ea : u.length = (shA u k).length + 1 := la.symm
  have eb : (shB u k).length = (shA u k).length := by omega
  rw [eb]
  rw [ea, Int.pow_succ] at e
  generalize (2 : Int) ^ (shA u k).length = y at *
  have e3 : gz u T * (y * 2) = gz u T * y + gz u T * y := by rw [← Int.mul_assoc]; omega
  omega
theorem tot_one {bs : List Bool} (h : bs.length ≤ 8) : tot [(bs, 1)] ≤ 256 := by
  show 1 * 2 ^ bs.length + 0 ≤ (256 : Int)
  have h1 : (2 : Nat) ^ bs.length ≤ 2 ^ 8 := Nat.pow_le_pow_right (by decide) h
  have h2 : ((2 ^ bs.length : Nat) : Int) ≤ ((2 ^ 8 : Nat) : Int) := Int.ofNat_le.mpr h1
  have h3 : ((2 ^ bs.length : Nat) : Int) = (2 : Int) ^ bs.length := by simp
  rw [h3] at h2
  have h4 : ((2 ^ 8 : Nat) : Int) = 256 := by decide
  omega
theorem perm_sumI {l m : List Int} (p : l.Perm m) : l.sum = m.sum := by
  induction p with
  | nil => rfl
  | cons x _ ih => rw [List.sum_cons, List.sum_cons, ih]
  | swap x y l => rw [List.sum_cons, List.sum_cons, List.sum_cons, List.sum_cons]; omega
  | trans _ _ a b => exact a.trans b
/-- what is told of all ends -/
theorem t1_ends {bs : List Bool} {B : Tal} (to : TO B) (fin : ∀ p ∈ B, plc p.1 = []) (b : Bal bs B) : ((eN bs).map (·.2)).sum = t1 B := by
  have h : ((eN bs).map (·.2)).sum = ((endsB B).map (·.2)).sum := (perm_sumI ((ends_perm to fin b).map (·.2))).symm
  rw [h]
  clear h to fin b
  induction B with
  | nil => rfl
  | cons p l ih =>
    show p.2 + ((endsB l).map (·.2)).sum = p.2 + t1 l
    rw [ih]
theorem cz_sum {B : Tal} (o : Once B) : ((ktx B).map fun z => cz z B).sum = t1 B := by
  have e : (ktx B).map (fun z => cz z B) = B.map (·.2) := by
    unfold ktx
    rw [List.map_map]
    refine List.map_congr_left fun p hp => ?_
    show cz (tx p.1) B = p.2
    have h1 : valV (zv ιw B) (ιw p.1) = some (.int (cz (tx p.1) B)) := cz_val (List.mem_map.mpr ⟨_, hp, rfl⟩)
    obtain ⟨i, hi⟩ := List.getElem?_of_mem hp
    rw [val_in ιw_inj o hi] at h1
    injection h1 with h1
    injection h1 with h1
    exact h1.symm
  rw [e]
  clear e o
  induction B with
  | nil => rfl
  | cons p l ih =>
    show p.2 + (l.map (·.2)).sum = p.2 + t1 l
    rw [ih]
end HopW

set_option Elab.async false
set_option linter.all false
set_option maxRecDepth 100000
/-! ### own == and != beside anything, and `in` a list of one -/
namespace OwnAny
open PySem PySem.W PySem.Spec PyProof.Rows
section
variable {prog : Program} {w : World} {A : Around} {E : Value → Shared → Prop} {s : Shared} {C x f : Addr} {B : String} {bm : List Value} {v tb : Value}
/-- object.__ne__ of an own object asks the own __eq__, whatever stands beside it -/
theorem obj_ne (own : s.heap.OwnEqNoNe x C f B bm) (room : A.units < cLine) {Q : Fin → Shared → Prop}
    (said : wpAny (model prog w) A (call (.ref f) [.ref x, v]) (fun r s' => ∃ b, r = .bool b ∧ Q (.done (.ret (.bool (!b)))) s') E s) :
    wpAny (model prog w) A (Builtin.«object.__ne__» ⟨[.ref x, v], []⟩) Q E s := by
  obtain ⟨hp, g, d, tk, os⟩ := s
  unfold Builtin.«object.__ne__»
  repeat (first
    | with_reducible refine wpAny_cRoomFor room ?_
    | (refine wpAny_bind (m := callSpecialIfBound? (.ref x) (Str.ofString "__eq__") [v]) (wpAny_callSpecialIfBound?_own own.ownEq (wpAny_mono said (fun r s' z => by
        obtain ⟨b, rfl, q⟩ := z
        repeat (first | exact q | exact wpAny_pure q | exact wpAny_truthy_bool q | (refine wpAny_bind (m := truthy (.bool _)) (wpAny_truthy_bool ?_)) | wp_step)) fun _ _ z => z)))
    | wp_step)
/-- own != anything -/
theorem ne_any (FB : CmpFacts B bm) (own : s.heap.OwnEqNoNe x C f B bm) (ty : Looks (model prog w) s.heap (typeOf v) tb) (apart : tb = .ref C ∨ Looks (model prog w) s.heap (isSubtype tb (.ref C)) false) (room : A.units + 1 < cLine) {Q : Value → Shared → Prop}
    (said : wpAny (model prog w) A.in1 (call (.ref f) [.ref x, v]) (fun r s' => ∃ b, r = .bool b ∧ Q (.bool (!b)) s') E s) : wpAny (model prog w) A (richCompare .NotEq (.ref x) v) Q E s := by
  obtain ⟨hp, g, d, tk, os⟩ := s
  obtain ⟨o, of, nm, q, N, bs, hd, sn, sub, ab, col, dd, k0, k1, k2, k3, k5, nw, mN, y, at_, cls, atC, names, _, _, _, _, _, none⟩ := id own
  have asked : wpAny (model prog w) A (tryCompare (.ref x) "__ne__" v) (fun r s' => ∃ b, r = some (.bool b) ∧ Q (.bool b) s') E ⟨hp, g, d, tk, os⟩ := by
    unfold tryCompare
    refine wpAny_bind (wpAny_callSpecialIfBound?_inst at_ cls atC names none FB.mro FB.ne (wpAny_call (codeAny_call_builtin FB.ne.plain F.cmpEntry_ne (wpAny_check_slot_inst F.cmpKind_ne F.cmpSplit_ne (F.cmpArgs_ne _ _) FB.hasObject at_ cls atC
      (obj_ne (A := A.in1) own (by show A.units + 1 < cLine; exact room) (wpAny_mono said (fun r s' z => ?_) fun _ _ z => z))))))
    obtain ⟨b, rfl, q⟩ := z
    exact ⟨b, rfl, wpAny_pure ⟨!b, rfl, q⟩⟩
  unfold richCompare
  simp only [oneThing_ref]
  refine wpAny_holding (wpAny_bind (wpAny_cRoomFor (Nat.lt_of_succ_lt room) ?_))
  rw [cmpInfo_NotEq]
  dsimp only
  refine wpAny_bind (wpAny_typeOf_ref at_ ?_)
  rw [cls]
  refine wpAny_bind (ty.here ?_)
  split
  · rename_i ne
    rcases apart with e | e
    · rw [e] at ne
      simp at ne
    · refine wpAny_bind (e.here ?_)
      simp only [Bool.false_eq_true, if_false]
      refine wpAny_bind (wpAny_mono asked (fun r s' z => ?_) fun _ _ z => z)
      obtain ⟨b, rfl, q⟩ := z
      exact wpAny_pure q
  · refine wpAny_bind (wpAny_pure ?_)
    simp only [Bool.false_eq_true, if_false]
    refine wpAny_bind (wpAny_mono asked (fun r s' z => ?_) fun _ _ z => z)
    obtain ⟨b, rfl, q⟩ := z
    exact wpAny_pure q
end
end OwnAny
namespace HopR
open PySem PySem.Spec PyProof.Rows L2
section
variable {X : Cx} {CX : CXT} {n : Nat} {C f : Addr} {fd : FuncData} {ps : List Str} {sp : Sp} {E : XK}
theorem typ_looks {pins : List (Addr × Obj)} {σ : L2.St} {H : Hp} {s : Shared} {x : V} {u t : Value} (I : Inv X pins σ H s) (rx : RelV x u) (ty : TyX X.K H x t) : PySem.W.Looks (model X.prog X.w) s.heap (typeOf u) t := by
  obtain ⟨P, kx, hp, _⟩ := kit_of I rx ty
  exact kx.ty _ _ I.kIn hp
/-- an own object beside anything; what its __eq__ promises of both, a truth -/
def rOwnA (K : PySem.W.Frag) (C : Addr) (sp : Sp) (E : XK) (neg : Bool) : R2 := fun x y H Q => ∃ a dx fs t, x = .ref a ∧ H a = some (.ins C dx fs) ∧ TyX K H y t ∧ PySem.W.notFirst K C t = true ∧ sp [.ref a, y] H (fun v H' => ∃ k : Bool, v = .bl k ∧ Q (.bl (k ^^ neg)) H') E
theorem op_eqA (c : EqC X.K C f) (F : FnOk X.prog X.w X.K X.mg X.base CX n f fd ps sp) (room : Room n X.A) (bind : Binds X.K fd ps []) (lets : Passes CX X E) : OpR X (compareOp .Eq) (rOwnA X.K C sp E false) := by
  rintro pins s σ H _ y v u Q I rx ry ⟨a, dx, fs, t, rfl, ha, ty, nf, prom⟩
  cases rx
  obtain ⟨_, J, _⟩ := ins_get I.hok ha
  obtain ⟨_, J, _⟩ := J.look
  obtain ⟨m, F0⟩ := I.fr
  refine PySem.W.cmp_K (op := .Eq) (tb := t) room.units0 F0 I.ok.mod.kin J (typ_looks I ry ty) nf c.eq c.fn (thn (call_at F room rfl bind lets I (us := [.ref a, u]) (vs := [.ref a, y]) (.cons rfl (.cons ry .nil)) prom) ?_)
  rintro w s' ⟨z, H', I', rz, k, rfl, q⟩
  cases rz
  rw [Bool.xor_false] at q
  exact ⟨.bl k, H', I', rfl, q⟩
theorem op_neA (c : EqC X.K C f) (F : FnOk X.prog X.w X.K X.mg X.base CX n f fd ps sp) (room : Room (n + 1) X.A) (bind : Binds X.K fd ps []) (lets : Passes CX X E) : OpR X (compareOp .NotEq) (rOwnA X.K C sp E true) := by
  rintro pins s σ H _ y v u Q I rx ry ⟨a, dx, fs, t, rfl, ha, ty, nf, prom⟩
  cases rx
  obtain ⟨_, J, _⟩ := ins_get I.hok ha
  obtain ⟨_, J, _⟩ := J.look
  have un := room.un
  have apart : t = .ref C ∨ PySem.W.Looks (model X.prog X.w) s.heap (isSubtype t (.ref C)) false := by
    rcases Bool.or_eq_true_iff.mp nf with e | e
    · exact .inl (beq_iff_eq.mp e)
    · exact .inr (PySem.W.looks_subIn I.kIn (beq_iff_eq.mp e))
  show wpAny _ _ (richCompare .NotEq (.ref a) u) _ _ _
  refine OwnAny.ne_any PySem.F.cmp_object (c.here I.kIn J.at_ J.cls) (typ_looks I ry ty) apart (by omega) (thn (call_at (A := X.A.in1) F room.in1 rfl bind lets I (us := [.ref a, u]) (vs := [.ref a, y]) (.cons rfl (.cons ry .nil)) prom) ?_)
  rintro w s' ⟨z, H', I', rz, k, rfl, q⟩
  cases rz
  refine ⟨k, rfl, .bl (!k), H', I', rfl, ?_⟩
  rw [Bool.xor_true] at q
  exact q
end
end HopR

set_option Elab.async false
set_option linter.all false
set_option maxRecDepth 100000
/-! ### a list of one own object: `in` and == -/
namespace OwnAny
open PySem PySem.SeqAt
open AutoSeq1 (wpAny_loadPart')
open MeetsSeq MeetsSeq2 MeetsSeq3 SeqRoads2
section
variable {prog : Program} {w : World} {A : Around} {R : Result → Shared → Prop} {l m : Addr} {x y : Value} {k : Bool} {I : Shared → Prop}
/-- a list of the one item y -/
def One (l : Addr) (y : Value) (t : Shared) : Prop := ∃ n its, t.heap.get? l = some { cls := .type "list", data := .seq its n } ∧ its[(0 : Int).toNat]? = some y ∧ its[((1 : Nat) : Int).toNat]? = none ∧ its.size = 1
theorem one_in (here : ∀ t, I t → One l y t) (alike : ∀ t, I t → wpAny (model prog w) A.in1 (eqBool y x) (fun r t' => r = k ∧ I t') (fun e t' => R (.error e) t') t)
    (stop : ∀ t, I t → R (.ok (.ret (.bool k))) t) {t : Shared} (h : I t) :
    wpAny (model prog w) A.in1 (Builtin.«list.__contains__» ⟨[.ref l, x], []⟩) (GQ.FinOf prog w A R) (fun e t' => R (.error e) t') t := by
  have last : ∀ t, I t → k = false → wpAny (model prog w) A.in1 (Builtin.«list.__contains__.loop» ⟨[.ref l, x, rawInt ((1 : Nat) : Int)], []⟩) (GQ.FinOf prog w A R) (fun e t' => R (.error e) t') t := fun t h e => by
    obtain ⟨n, its, g, e0, e1, ez⟩ := here t h
    have done := stop t h
    rw [e] at done
    obtain ⟨hp, gs, d, tk, os⟩ := t
    wp_walk using wpAny_loadPart' g
    rw [e1]
    wp_walk
    exact done
  have first : ∀ t, I t → wpAny (model prog w) A.in1 (Builtin.«list.__contains__.loop» ⟨[.ref l, x, rawInt 0], []⟩) (GQ.FinOf prog w A R) (fun e t' => R (.error e) t') t := fun t h => by
    obtain ⟨n, its, g, e0, e1, ez⟩ := here t h
    have al := alike t h
    obtain ⟨hp, gs, d, tk, os⟩ := t
    wp_walk using wpAny_loadPart' g
    rw [e0]
    refine wpAny_bind (wpAny_mono al (fun r t2 q => ?_) fun _ _ z => z)
    obtain ⟨rfl, q2⟩ := q
    cases hr : r with
    | true =>
      have done := stop t2 q2
      rw [hr] at done
      obtain ⟨hp2, g2, d2, tk2, os2⟩ := t2
      wp_walk
      exact done
    | false =>
      have go := last t2 q2 hr
      obtain ⟨hp2, g2, d2, tk2, os2⟩ := t2
      wp_walk
      exact ⟨plainId_quiet plain_contains_loop _, codeAny_builtin entry_contains_loop (by rw [Around.under_plainId plain_contains_loop _]; exact go)⟩
  obtain ⟨n, its, g, e0, e1, ez⟩ := here t h
  have go := first t h
  obtain ⟨hp, gs, d, tk, os⟩ := t
  wp_walk using wpAny_loadPart' g
  exact ⟨plainId_quiet plain_contains_loop _, codeAny_builtin entry_contains_loop (by rw [Around.under_plainId plain_contains_loop _]; exact go)⟩
theorem ones_eq (hl : ∀ t, I t → One l x t) (hm : ∀ t, I t → One m y t) (alike : ∀ t, I t → wpAny (model prog w) A.in1 (eqBool x y) (fun r t' => r = k ∧ I t') (fun e t' => R (.error e) t') t)
    (stop : ∀ t, I t → R (.ok (.ret (.bool k))) t) {t : Shared} (h : I t) :
    wpAny (model prog w) A.in1 (Builtin.«list.__eq__» ⟨[.ref l, .ref m], []⟩) (GQ.FinOf prog w A R) (fun e t' => R (.error e) t') t := by
  have last : ∀ t, I t → k = true → wpAny (model prog w) A.in1 (Builtin.«list.__eq__.loop» ⟨[.ref l, .ref m, rawInt ((1 : Nat) : Int), rawInt 2], []⟩) (GQ.FinOf prog w A R) (fun e t' => R (.error e) t') t := fun t h e => by
    obtain ⟨n, its, g, e0, e1, ez⟩ := hl t h
    obtain ⟨n', its', g', e0', e1', ez'⟩ := hm t h
    have done := stop t h
    rw [e] at done
    obtain ⟨hp, gs, d, tk, os⟩ := t
    wp_walk using wpAny_loadPart' g, wpAny_loadPart' g'
    rw [e1, e1']
    wp_walk using wpAny_loadPart' g, wpAny_loadPart' g'
    have z : (its.size == its'.size) = true := by rw [ez, ez']; rfl
    show R (.ok (.ret (.bool (its.size == its'.size)))) _
    rw [z]
    exact done
  have first : ∀ t, I t → wpAny (model prog w) A.in1 (Builtin.«list.__eq__.loop» ⟨[.ref l, .ref m, rawInt 0, rawInt 2], []⟩) (GQ.FinOf prog w A R) (fun e t' => R (.error e) t') t := fun t h => by
    obtain ⟨n, its, g, e0, e1, ez⟩ := hl t h
    obtain ⟨n', its', g', e0', e1', ez'⟩ := hm t h
    have al := alike t h
    obtain ⟨hp, gs, d, tk, os⟩ := t
    wp_walk using wpAny_loadPart' g, wpAny_loadPart' g'
    rw [e0, e0']
    refine wpAny_bind (wpAny_mono al (fun r t2 q => ?_) fun _ _ z => z)
    obtain ⟨rfl, q2⟩ := q
    cases hr : r with
    | true =>
      have go := last t2 q2 hr
      obtain ⟨hp2, g2, d2, tk2, os2⟩ := t2
      wp_walk
      exact ⟨plainId_quiet plain_eq_loop _, codeAny_builtin entry_eq_loop (by rw [Around.under_plainId plain_eq_loop _]; exact go)⟩
    | false =>
      have done := stop t2 q2
      rw [hr] at done
      obtain ⟨n2, its2, g2', e02, _, ez2⟩ := hl t2 q2
      obtain ⟨n3, its3, g3, e03, _, ez3⟩ := hm t2 q2
      obtain ⟨hp2, g2, d2, tk2, os2⟩ := t2
      wp_walk using wpAny_loadPart' g2', wpAny_loadPart' g3
      rw [e02, e03]
      wp_walk
      exact done
  obtain ⟨n, its, g, e0, e1, ez⟩ := hl t h
  obtain ⟨n', its', g', e0', e1', ez'⟩ := hm t h
  have go := first t h
  have lists := AutoSeq1.sub_list_list
  have z0 : ¬ (its.size != its'.size) = true := by rw [ez, ez']; simp
  obtain ⟨hp, gs, d, tk, os⟩ := t
  wp_walk using wpAny_loadPart' g, wpAny_loadPart' g'
  exact ⟨plainId_quiet plain_eq_loop _, codeAny_builtin entry_eq_loop (by rw [Around.under_plainId plain_eq_loop _]; exact go)⟩
end
end OwnAny
namespace HopR
open PySem PySem.Spec PyProof.Rows L2
section
variable {X : Cx} {CX : CXT} {n : Nat} {C f : Addr} {fd : FuncData} {ps : List Str} {sp : Sp} {E : XK}
/-- two own objects, as == inside a list asks them -/
theorem own_eqBool (c : EqC X.K C f) (F : FnOk X.prog X.w X.K X.mg X.base CX n f fd ps sp) {A : Around} (room : Room n A) (frames : A.frames = X.A.frames) (bind : Binds X.K fd ps []) (lets : Passes CX X E)
    {pins : List (Addr × Obj)} {σ : L2.St} {H : Hp} {s : Shared} {a b dx dy : Addr} {fs gs : List (Str × V)} {k : Bool} (I : Inv X pins σ H s) (ha : H a = some (.ins C dx fs)) (hb : H b = some (.ins C dy gs)) (self : a = b → k = true)
    (prom : sp [.ref a, .ref b] H (fun v H' => v = .bl k ∧ Ext H H') E) :
    wpAny (model X.prog X.w) A (eqBool (.ref a) (.ref b)) (fun r s' => r = k ∧ LoopI X pins σ H s') X.xe s := by
  by_cases same : a = b
  · have e := self same
    subst same
    exact SeqAt.EqAt.same (A := A) (s := s) (.ref a) X.prog X.w X.xe _ ⟨e.symm, H, I, Ext.rfl'⟩
  · obtain ⟨_, J, _⟩ := ins_get I.hok ha
    obtain ⟨_, J', _⟩ := ins_get I.hok hb
    obtain ⟨_, J, _⟩ := J.look
    obtain ⟨_, J', _⟩ := J'.look
    obtain ⟨m, F0⟩ := I.fr
    refine GQ.eqBool_refG same (PySem.W.cmp_K (op := .Eq) (tb := .ref C) room.units0 F0 I.ok.mod.kin J J'.type (by simp [PySem.W.notFirst]) c.eq c.fn (thn (call_at (A := A) F room frames bind lets I two_refs prom) ?_))
    rintro w s' ⟨z, H', I', rz, rfl, e⟩
    cases rz
    exact ⟨k, rfl, rfl, H', I', e⟩
/-- a in [b] -/
def rInOwn (C : Addr) (sp : Sp) (E : XK) : R2 := fun x y H Q => ∃ (a b l dx dy : Addr) (fs gs : List (Str × V)) (k : Bool), x = .ref a ∧ y = .ref l ∧ H a = some (.ins C dx fs) ∧ H b = some (.ins C dy gs) ∧ H l = some (.lst [.ref b]) ∧ (a = b → k = true) ∧
  (∀ H', Ext H H' → sp [.ref b, .ref a] H' (fun v H'' => v = .bl k ∧ Ext H' H'') E) ∧ ∀ H', Ext H H' → Q (.bl k) H'
theorem one_here {l b : Addr} {pins : List (Addr × Obj)} {σ : L2.St} {H : Hp} {t : Shared} (h : LoopI X pins σ H t) (e : H l = some (.lst [.ref b])) : OwnAny.One l (.ref b) t := by
  obtain ⟨H', I', x⟩ := h
  obtain ⟨_, its, k, r, g⟩ := I'.hok _ _ (x _ _ e)
  obtain ⟨v, rfl, rv⟩ := vals1 r
  cases rv
  exact ⟨k, _, g, rfl, rfl, rfl⟩
theorem op_inOwn (c : EqC X.K C f) (F : FnOk X.prog X.w X.K X.mg X.base CX n f fd ps sp) (room : Room (n + 1) X.A) (bind : Binds X.K fd ps []) (lets : Passes CX X E) : OpR X (compareOp .In) (rInOwn C sp E) := by
  rintro pins s σ H _ _ v u Q I rx ry ⟨a, b, l, dx, dy, fs, gs, k, rfl, rfl, ha, hb, hl, self, prom, q⟩
  cases rx; cases ry
  have turns : ∀ t, LoopI X pins σ H t → wpAny (model X.prog X.w) X.A.in1 (eqBool (.ref b) (.ref a)) (fun r t' => r = k ∧ LoopI X pins σ H t') X.xe t := fun t ⟨H', I', x⟩ =>
    wpAny_mono (own_eqBool c F room.in1 rfl bind lets I' (x _ _ hb) (x _ _ ha) (fun e => self e.symm) (prom H' x)) (fun r t' ⟨e, H'', I'', x'⟩ => ⟨e, H'', I'', x.trans x'⟩) fun _ _ z => z
  obtain ⟨m, its, g, _⟩ := one_here ⟨H, I, Ext.rfl'⟩ hl
  show wpAny (model X.prog X.w) X.A (do return Value.bool (← contains (.ref l) (.ref a))) (EP X pins σ Q) X.xe s
  refine wpAny_bind (wpAny_contains_slot ⟨_, g, rfl⟩ PySem.F.slot_list_contains (GQ.call_here PySem.F.slot_list_contains ⟨_, g, rfl⟩ PySem.F.entry_list_contains (PySem.F.args_list_contains_2 _ _) ?_))
  exact OwnAny.one_in (R := wants (fun v t => wpAny (model X.prog X.w) X.A (truthy v) (fun r t' => wpAny (model X.prog X.w) X.A (pure (.bool r)) (EP X pins σ Q) X.xe t') X.xe t) X.xe) (I := fun t => LoopI X pins σ H t) (fun t h => one_here h hl) turns
    (fun t ⟨H', I', x⟩ => by
      show wpAny (model X.prog X.w) X.A (truthy (.bool k)) (fun r t' => wpAny (model X.prog X.w) X.A (pure (.bool r)) (EP X pins σ Q) X.xe t') X.xe t
      refine wpAny_truthy_bool (wpAny_pure ?_)
      exact ⟨.bl k, H', I', rfl, q H' x⟩) ⟨H, I, Ext.rfl'⟩
/-- [a] == [b] -/
def rOnes (C : Addr) (sp : Sp) (E : XK) : R2 := fun x y H Q => ∃ (a b l m dx dy : Addr) (fs gs : List (Str × V)) (k : Bool), x = .ref l ∧ y = .ref m ∧ H a = some (.ins C dx fs) ∧ H b = some (.ins C dy gs) ∧ H l = some (.lst [.ref a]) ∧ H m = some (.lst [.ref b]) ∧ (a = b → k = true) ∧
  (∀ H', Ext H H' → sp [.ref a, .ref b] H' (fun v H'' => v = .bl k ∧ Ext H' H'') E) ∧ ∀ H', Ext H H' → Q (.bl k) H'
theorem op_eqOnes (c : EqC X.K C f) (F : FnOk X.prog X.w X.K X.mg X.base CX n f fd ps sp) (room : Room (n + 1) X.A) (bind : Binds X.K fd ps []) (lets : Passes CX X E) : OpR X (compareOp .Eq) (rOnes C sp E) := by
  rintro pins s σ H _ _ v u Q I rx ry ⟨a, b, l, m, dx, dy, fs, gs, k, rfl, rfl, ha, hb, hl, hm, self, prom, q⟩
  cases rx; cases ry
  have turns : ∀ t, LoopI X pins σ H t → wpAny (model X.prog X.w) X.A.in1 (eqBool (.ref a) (.ref b)) (fun r t' => r = k ∧ LoopI X pins σ H t') X.xe t := fun t ⟨H', I', x⟩ =>
    wpAny_mono (own_eqBool c F room.in1 rfl bind lets I' (x _ _ ha) (x _ _ hb) self (prom H' x)) (fun r t' ⟨e, H'', I'', x'⟩ => ⟨e, H'', I'', x.trans x'⟩) fun _ _ z => z
  obtain ⟨j, its, g, _⟩ := one_here ⟨H, I, Ext.rfl'⟩ hl
  obtain ⟨j', its', g', _⟩ := one_here ⟨H, I, Ext.rfl'⟩ hm
  show wpAny (model X.prog X.w) X.A (richCompare .Eq (.ref l) (.ref m)) (EP X pins σ Q) X.xe s
  refine wpAny_richCompare_same_room (op := .Eq) ⟨_, g, rfl⟩ ⟨_, g', rfl⟩ PySem.F.slot_list_eq (GQ.call_here PySem.F.slot_list_eq ⟨_, g, rfl⟩ PySem.F.entry_list_eq (PySem.F.args_list_eq_2 _ _) ?_) room.units0
  exact OwnAny.ones_eq (R := wants (fun v t => v ≠ .notImplemented ∧ EP X pins σ Q v t) X.xe) (I := fun t => LoopI X pins σ H t) (fun t h => one_here h hl) (fun t h => one_here h hm) turns
    (fun t ⟨H', I', x⟩ => ⟨(fun z => nomatch z), .bl k, H', I', rfl, q H' x⟩) ⟨H, I, Ext.rfl'⟩
end
end HopR

set_option Elab.async false
set_option linter.all false
set_option maxRecDepth 100000
namespace Hop
open PySem L2 HopR HopW HopT
open C8 (InsC)
/-- the class and its methods -/
structure SM (K : PySem.W.Frag) (mg : Str → Option Value) (S fi fs ff fw fl ft n1 n2 n3 n4 n5 n6 no nw : Addr) (gi gs gf gw gl gt h1 h2 h3 h4 h5 h6 ho hw : FuncData) : Prop where
  N1 : Fn K mg "is_row" sIsRow ["thing"] n1 h1
  N2 : Fn K mg "is_word" sIsWord ["thing"] n2 h2
  N3 : Fn K mg "need_word" sNeedWord ["thing"] n3 h3
  N4 : Fn K mg "places_in" sPlaces ["word"] n4 h4
  N5 : Fn K mg "is_whole" sIsWhole ["thing"] n5 h5
  N6 : Fn K mg "shortened" sShort ["word", "place"] n6 h6
  No : Fn K mg "order_of" sOrder ["word"] no ho
  Nw : Fn K mg "written" sWritten ["word", "many"] nw hw
  M : Mk K S fi
  Fi : Fun K "__init__" "Sum.__init__" sSInit fi gi
  bi : Binds K gi ["self", "word"] []
  gS : mg "Sum" = some (.ref S)
  Fs : Fun K "shorten" "Sum.shorten" sSShort fs gs
  bs : Binds K gs ["self", "word", "place"] []
  ms : Meth K S "shorten" fs
  Ff : Fun K "is_finished" "Sum.is_finished" sSFin ff gf
  bf : Binds K gf ["self"] []
  mf : Meth K S "is_finished" ff
  Fw : Fun K "words" "Sum.words" sSWords fw gw
  bw : Binds K gw ["self"] []
  mw : Meth K S "words" fw
  Fl : Fun K "__len__" "Sum.__len__" sSLen fl gl
  bl : Binds K gl ["self"] []
  Ml : PySem.W.findIn K (.ref S) "__len__" = some (some (.ref fl))
  nl : PySem.W.isFn K (.ref fl) = true
  Ft : Fun K "__str__" "Sum.__str__" sSStr ft gt
  bt : Binds K gt ["self"] []
  Mt : PySem.W.findIn K (.ref S) "__str__" = some (some (.ref ft))
  nt : PySem.W.isFn K (.ref ft) = true
/-- ==, and finish -/
structure SQ (K : PySem.W.Frag) (S fe fh : Addr) (ge gh : FuncData) : Prop where
  ec : EqC K S fe
  Fe : Fun K "__eq__" "Sum.__eq__" sSEq fe ge
  be : Binds K ge ["self", "other"] []
  I : InsC K S
  Fh : Fun K "finish" "Sum.finish" sSFinish fh gh
  bh : Binds K gh ["self"] []
  mh : Meth K S "finish" fh
  kt : ∀ T : String, T ∈ ["NoneType", "int", "bool", "str", "list"] → PySem.W.subIn K (.type T) (.ref S) = some false ∧ PySem.W.kitOne K (.type T) (.ref S) = some false
theorem made_kept {S v dx : Addr} {H1 H' : Hp} (nv : H1 v = none) (ndx : H1 dx = none) (kp : ∀ a o, a ≠ v → upd (upd H1 dx (.own v)) v (.ins S dx []) a = some o → H' a = some o) : Same H1 H' := fun x o e =>
  kp x o (ne_of_none e nv) (by rw [upd_ne (ne_of_none e nv), upd_ne (ne_of_none e ndx)]; exact e)
theorem SK.put {S : Addr} {H : Hp} {v p D : Addr} {B : Tal} {xs : List V} {o : HO} (h : SK S H v p B) (e : H D = some (.lst xs)) : SK S (upd H D o) v p B := by
  obtain ⟨⟨dx, e1⟩, e2⟩ := h
  exact ⟨⟨dx, by rw [upd_ne (fun h => by rw [h, e] at e1; cases e1)]; exact e1⟩, by rw [upd_ne (fun h => by rw [h, e] at e2; cases e2)]; exact e2⟩
theorem SK.but {S : Addr} {H H' : Hp} {v p q : Addr} {B : Tal} (h : SK S H v p B) (k : ∀ a o, a ≠ q → H a = some o → H' a = some o) (nv : v ≠ q) (np : p ≠ q) : SK S H' v p B := by
  obtain ⟨⟨dx, e1⟩, e2⟩ := h
  exact ⟨⟨dx, k _ _ nv e1⟩, k _ _ np e2⟩
theorem SK.ne {S : Addr} {H : Hp} {v p v' p' : Addr} {B B' : Tal} (h : SK S H v p B) (h' : SK S H v' p' B') : v ≠ p' := fun e => by
  obtain ⟨⟨dx, e1⟩, _⟩ := h
  have e2 := h'.di
  rw [← e, e1] at e2
  cases e2
theorem SK.apart {S : Addr} {H : Hp} {v p v' p' : Addr} {B B' : Tal} (h : SK S H v p B) (h' : SK S H v' p' B') (np : p ≠ p') : v ≠ v' := fun e => by
  obtain ⟨⟨dx, e1⟩, _⟩ := h
  obtain ⟨⟨dy, e2⟩, _⟩ := h'
  rw [← e, e1] at e2
  injection e2 with e2
  injection e2 with _ _ e2
  injection e2 with e2 _
  injection e2 with _ e2
  injection e2 with e2
  exact np e2
theorem SK.lne {S : Addr} {H : Hp} {v p l : Addr} {B : Tal} {xs : List V} (h : SK S H v p B) (e : H l = some (.lst xs)) : l ≠ p := fun z => by
  have e2 := h.di
  rw [← z, e] at e2
  cases e2
theorem plc_rep (f b : Nat) : plc (List.replicate f false ++ List.replicate b true) = [] := by
  refine List.eq_nil_iff_forall_not_mem.mpr fun k hk => ?_
  obtain ⟨e, _⟩ := shp_split (plc_shp hk).1
  have pw : (List.replicate f false ++ List.replicate b true).Pairwise fun x y => ¬(x = true ∧ y = false) := by
    refine List.pairwise_append.mpr ⟨List.pairwise_replicate.mpr (.inr (by simp)), List.pairwise_replicate.mpr (.inr (by simp)), fun x hx y hy h => ?_⟩
    have := (List.mem_replicate.mp hx).2
    rw [this] at h
    cases h.1
  rw [e] at pw
  have h2 := (List.pairwise_append.mp pw).2.1
  exact (List.pairwise_cons.mp h2).1 false (List.mem_cons_self ..) ⟨rfl, rfl⟩
theorem find_dot {bs : List Bool} (h : plc bs ≠ []) : ∃ k, Txt.find (tx bs) "o." = ((k : Nat) : Int) ∧ k ∈ plc bs := by
  rcases find_of bs with ⟨_, f, b, e⟩ | ⟨u, v, e, rfl⟩
  · rw [e] at h
    exact absurd (plc_rep f b) h
  · refine ⟨u.length, e, List.mem_filter.mpr ⟨List.mem_range.mpr ?_, ?_⟩⟩
    · rw [List.length_append, List.length_cons]
      omega
    · unfold shp
      rw [List.drop_left]
      rfl
section
variable {P : Program} {w : World} {K : PySem.W.Frag} {mg : Str → Option Value} {base : Heap} {d : Addr} {es : Array DictEntry} {n : Nat} {NW NP S : Addr}
variable {fi fs ff fw fl ft fe fh n1 n2 n3 n4 n5 n6 no nw : Addr} {gi gs gf gw gl gt ge gh h1 h2 h3 h4 h5 h6 ho hw : FuncData}
/-! ### _law_course -/
def spLCourse (K : PySem.W.Frag) (S : Addr) : Sp := fun vs H Q _ => ∃ (a : Addr) (ns : List Int) (bs : List Bool) (t : Nat), vs = [.ref a, .str (tx bs), .int (t : Int)] ∧ SqL K H a (ns.map V.int) ∧ bs.length ≤ 8 ∧ t ≤ 1 ∧
  ∀ H' l v p B hv, Same H H' → H l = none → H' l = some (.lst [.ref v, hv]) → H p = none → SK S H' v p B → TO B → (∀ p ∈ B, plc p.1 = []) → Bal bs B → (hv = .non ∨ ∃ v2 p2 B2, hv = .ref v2 ∧ SK S H' v2 p2 B2 ∧ TO B2 ∧ Bal bs B2 ∧ H p2 = none ∧ p2 ≠ p) → Q (.ref l) H'
abbrev nLCo : List Str := ["_law_script", "_law_word", "_law_turn", "_law_found", "_law_half", "_law_k", "_law_some", "_law_draws", "_law_one", "_law_at"]
theorem scLCo : FnScope nLCo ["_law_script", "_law_word", "_law_turn"] (defScope sLCourse) := ⟨rfl, rfl, rfl, by decide +kernel, rfl, by decide +kernel, by decide +kernel⟩
theorem ok_lcourse {f lt lc ld : Addr} {fd mt mc md : FuncData} (F : Fun K "_law_course" "_law_course" sLCourse f fd) (D3 : Fn K mg "_law_steps" sLSt ["_law_words"] lt mt)
    (D6 : Fn K mg "_law_cell_at" sCellAt ["_law_script", "_law_k"] lc mc) (D7 : Fn K mg "_law_drawn" sDrawn ["_law_cell", "_law_sizes"] ld md)
    (R : SM K mg S fi fs ff fw fl ft n1 n2 n3 n4 n5 n6 no nw gi gs gf gw gl gt h1 h2 h3 h4 h5 h6 ho hw) (T : Txt K w mg d es n) (Z : Er K mg NW NP) (TS : TxtS K S) : FnOk P w K mg base CX0 14 f fd ["_law_script", "_law_word", "_law_turn"] (spLCourse K S) := by
  have Gst : FnOk P w K mg base CX0 13 lt mt ["_law_words"] spLSt := ok_lst (k := 12) D3.F T
  have Gc : FnOk P w K mg base CX0 13 lc mc ["_law_script", "_law_k"] (spCellH K) := ok_cell (k := 12) D6.F T.len
  have Gd : FnOk P w K mg base CX0 13 ld md ["_law_cell", "_law_sizes"] (spDrawn K) := ok_drawn (k := 12) D7.F T.len T.range
  have Gi : FnOk P w K mg base (L2.CX P w) 12 fi gi ["self", "word"] (spSInit K S NW) := ok_sinit (k := 8) R.Fi R.N1 R.N2 T Z TS
  have Gs : FnOk P w K mg base (L2.CX P w) 13 fs gs ["self", "word", "place"] (spSShort K S NW NP) := ok_sshort (k := 7) R.Fs R.N1 R.N2 R.N3 R.N4 R.N5 R.N6 T Z TS
  have Gw : FnOk P w K mg base CX0 13 fw gw ["self"] (spSWords S) := ok_swords (k := 8) R.Fw R.No T TS
  refine F.ok scLCo (fun vs H Q E h => ?_) (fun cdv A outer s H vs Q E hr h => ?_)
  · obtain ⟨a, ns, bs, t, rfl, _⟩ := h
    rfl
  · obtain ⟨a, ns, bs, t, rfl, hS, h8, ht, q⟩ := h
    have nd := scLCo.nd
    have hu64 : (A.deeper (PyProof.Rows.envOfC "_law_course" (defScope sLCourse) s.heap.objs.size f cdv)).units + 64 < cLine := by
      have := hu66 hr
      omega
    refine ⟨_, pss_cons (ps_set (i := 3) nd rfl (.inl rfl) (pe_make R.M Gi hr (by rfl) R.gS R.bi .nil passX (pa_cons (pv 1) pa_nil)))
      (pss_cons (ps_set (i := 4) nd rfl (.inl rfl) pe_non)
      (pss_cons (ps_for PassesOwn.never rfl (pi_range1 (by rfl) T.range (pa_cons pe_int pa_nil)) (pg_name (i := 5) nd rfl (.inl rfl))
        (pss_cons (ps_set (i := 6) nd rfl (.inl rfl) (pe_call Gst hr (by rfl) D3.g D3.F.kp D3.b .nil pass0 (pa_cons (pe_meth0 (pv 3) TS.cl R.mw Gw hr R.bw .nil pass0) pa_nil)))
        (pss_cons (ps_if (pt_cmpR (op_eqD hu64) (pv 6) (pe_lst pa_nil) (nomark _)) (pss_one (ps_ret (pe_lst (pa_cons (pv 3) (pa_cons (pv 4) pa_nil))))) pss_nil)
        (pss_cons (ps_set (i := 7) nd rfl (.inl rfl) (pe_call Gd hr (by rfl) D7.g D7.F.kp D7.b .nil pass0 (pa_cons (pe_op op_add (pe_call Gc hr (by rfl) D6.g D6.F.kp D6.b .nil pass0 (pa_cons (pv 0) (pa_cons (pe_op op_add pe_int (pe_op op_mod (pe_op op_add (pe_op op_mul pe_int (pv 5)) (pv 2)) pe_int)) pa_nil))) (pv 5)) (pa_cons (pe_lst (pa_cons pe_int pa_nil)) pa_nil))))
        (pss_cons (ps_asg (pe_ix ix_list (pv 6) (pe_op op_mod (pe_ix ix_list (pv 7) pe_int (fun _ _ => rfl)) (pe_callB call_len_seq (by rfl) T.len PySem.boot_len (pa_cons (pv 6) pa_nil))) (fun _ _ => rfl)) (pg_tup (by rfl) (pgs_cons (pg_name (i := 8) nd rfl (.inl rfl)) (pgs_cons (pg_name (i := 9) nd rfl (.inl rfl)) pgs_nil))))
        (pss_cons (ps_expr (pe_meth (pv 3) TS.cl R.ms Gs hr R.bs .nil passX (pa_cons (pv 8) (pa_cons (pv 9) pa_nil))))
        (pss_one (ps_if (PW.pt (pw_and (pt_cmpR op_isN (pv 4) pe_non (nomark _)) (pw_and1 (pt_cmpR op_gt (pv 5) pe_int (nomark _)))))
          (pss_cons (ps_set (i := 4) nd rfl (.inl rfl) (pe_make R.M Gi hr (by rfl) R.gS R.bi .nil passX (pa_cons (pv 1) pa_nil)))
          (pss_one (ps_expr (pe_meth (pv 4) TS.cl R.ms Gs hr R.bs .nil passX (pa_cons (pv 1) (pa_cons (pe_bm PySem.F.plainAttrs_str PySem.F.slot_str_find PySem.F.type_str_find mt_find (pv 1) (pa_cons pe_str pa_nil)) pa_nil))))))
          pss_nil))))))))
      (pss_one (ps_ret (pe_lst (pa_cons pe_non (pa_cons pe_non pa_nil))))))), ?_⟩
    refine ⟨.str (tx bs), rfl, fun v dx0 nv ndx hne => ⟨v, dx0, .str (tx bs), rfl, upd_same, .inl ⟨bs, rfl, by omega, fun H1 p np kp sk => ⟨rfl, ?_⟩⟩⟩⟩
    have s1 : Same H H1 := made_kept nv ndx kp
    have hp0 : H p = none := (same_new nv (same_upd ndx)).free np
    refine ⟨400, rfl, by decide, by decide, ?_⟩
    refine for_range (lo := 0) (n := 400) (fun i σ H' => ∃ (B : Tal) (hv : V) (y5 y6 y7 y8 y9 : Option V), σ = [some (.ref a), some (.str (tx bs)), some (.int (t : Int)), some (.ref v), some hv, y5, y6, y7, y8, y9] ∧ Same H H' ∧ SK S H' v p B ∧ TO B ∧ Bal bs B ∧ tot B ≤ 256 ∧ 1 + (i : Int) ≤ t1 B ∧
      (hv = .non ∨ ∃ v2 p2 B2, hv = .ref v2 ∧ SK S H' v2 p2 B2 ∧ TO B2 ∧ Bal bs B2 ∧ H p2 = none ∧ p2 ≠ p) ∧ (i = 0 ∧ B = [(bs, 1)] ∨ plc bs ≠ []))
      ⟨[(bs, 1)], .non, _, _, _, _, _, rfl, s1, sk, TO.one (by omega), Bal.one bs, tot_one h8, (by show (1 : Int) + ((0 : Nat) : Int) ≤ 1 + 0; omega), .inl rfl, .inl ⟨rfl, rfl⟩⟩ ?_ ?_
    · rintro i σ H2 hi ⟨B, hv, y5, y6, y7, y8, y9, rfl, s2, sk, to, bal, h256, h1, hh, h0⟩
      rw [Int.zero_add]
      obtain ⟨dx, ev⟩ := id sk.ob
      refine ⟨.ref v, rfl, v, dx, _, rfl, ev, rfl, v, p, B, rfl, sk, to, fun H3 lw ps s3 nlw elw nps wl => ⟨lw, ps, B, rfl, elw, wl, to, fun H4 pt ts s4 npt ept hts hem => ?_⟩⟩
      refine ⟨.ref pt, rfl, Nat.zero_le _, fun pe npe => ?_⟩
      have sA := same_upd (o := .lst []) npe
      obtain ⟨us, lu, dp⟩ := stp_data (K := K) (hts.tup fun a xs e => sA _ _ e)
      refine ⟨.list (us.map dU), .list [], .lst (SqL.of (sA _ _ ept)) dp, .lst (SqL.of upd_same) .nil, shaped_us us, shaped_nil, _, rfl, ?_⟩
      rw [eqv_none, List.isEmpty_map]
      have s2A := (s3.trans s4).trans sA
      have s0A := s2.trans s2A
      have eptA := sA _ _ ept
      have htsA := hts.tup fun a xs e => sA _ _ e
      generalize upd H4 pe (.lst []) = HA at sA s2A s0A eptA htsA dp
      have skA := sk.same s2A
      have evA := s2A _ _ ev
      cases us with
      | nil =>
        have ets : ts = [] := List.length_eq_zero_iff.mp (by rw [← lu]; rfl)
        refine iteT ⟨.ref v, rfl, hv, rfl, (by show 2 ≤ sizeLine; decide), fun l nl => ?_⟩
        have sL := same_upd (o := .lst [.ref v, hv]) nl
        refine q _ l v p B hv (s0A.trans sL) (s0A.free nl) upd_same hp0 (skA.same sL) to (hem ets) bal ?_
        rcases hh with e | ⟨v2, p2, B2, e, sk2, to2, b2, n2, ne⟩
        · exact .inl e
        · exact .inr ⟨v2, p2, B2, e, (sk2.same s2A).same sL, to2, b2, n2, ne⟩
      | cons u0 r =>
        have hlen : 0 < ts.length := by
          rw [← lu]
          exact Nat.succ_pos _
        have hpos : (0 : Int) < ((ts.map V.ref).length : Int) := by
          rw [List.length_map]
          omega
        have e59 : (1 : Int) + (2 * (i : Int) + (t : Int)) % 59 = ((1 + (2 * i + t) % 59 : Nat) : Int) := by omega
        refine iteF ⟨.ref a, rfl, .int (i : Int), rfl, 2, (i : Int), rfl, rfl, .inl ⟨by decide, by decide⟩, .int (t : Int), rfl, _, _, rfl, rfl, _, _, rfl, rfl, (by show (0 : Int) < 59; decide), _, _, rfl, rfl, a, ns, 1 + (2 * i + t) % 59, (show [V.ref a, V.int (1 + (2 * (i : Int) + (t : Int)) % 59)] = _ from by rw [e59]), s0A.seq hS, fun c => ?_⟩
        refine ⟨.int (i : Int), rfl, _, _, rfl, rfl, (by show 1 ≤ sizeLine; decide), fun l2 nl2 => ⟨_, l2, [9973], rfl, SqL.of upd_same, ?_, by decide, fun H5 p5 s5 np5 e5 => ?_⟩⟩
        · intro z hz
          obtain rfl := List.mem_singleton.mp hz
          exact ⟨by decide, by decide⟩
        have e5 : H5 p5 = some (.lst [.int (dval (c + (i : Int)) 0 9973)]) := e5
        generalize dval (c + (i : Int)) 0 9973 = d0 at e5
        have sA5 := (same_upd nl2).trans s5
        obtain ⟨j, hj⟩ : ∃ j : Nat, d0 % ((ts.map V.ref).length : Int) = (j : Int) := ⟨(d0 % ((ts.map V.ref).length : Int)).toNat, by have := Int.emod_nonneg d0 (show ((ts.map V.ref).length : Int) ≠ 0 by omega); omega⟩
        have hjl : j < ts.length := by
          have := Int.emod_lt_of_pos d0 hpos
          rw [hj, List.length_map] at this
          omega
        have hjt : ts[j]? = some ts[j] := List.getElem?_eq_getElem hjl
        generalize ts[j] = tp at hjt
        have ept5 := sA5 _ _ eptA
        obtain ⟨u, k0, et, hu1, hk0⟩ := (htsA.tup fun a xs e => sA5 _ _ e) tp (List.mem_of_getElem? hjt)
        refine ⟨.ref pt, rfl, .ref p5, rfl, p5, _, 0, .int d0, rfl, rfl, SqL.of e5, rfl, .ref pt, rfl, pt, _, rfl, .inl (SqL.of ept5), d0, _, rfl, rfl, hpos, pt, _, _, .ref tp, rfl, rfl, SqL.of ept5, ?_, tp, _, rfl, SqT.of et, rfl, _, _, rfl, _, _, rfl, rfl, ?_⟩
        · rw [hj]
          exact atI_nat (by rw [List.getElem?_map, hjt]; rfl)
        have sk5 := skA.same sA5
        have ev5 := sA5 _ _ evA
        have s05 := s0A.trans sA5
        have nvp : v ≠ p := sk5.ne sk5
        refine ⟨.ref v, rfl, v, dx, _, rfl, ev5, rfl, .str (tx u), rfl, wv k0, rfl, v, p, B, .str (tx u), wv k0, rfl, sk5, to, .inl ⟨u, k0, rfl, rfl, hu1, hk0, fun Hc kc ec => ?_⟩⟩
        have sc : Same H Hc := fun a o e => kc a o (ne_of_none e hp0) (s05 a o e)
        have skc : SK S Hc v p (stp B u k0) := ⟨⟨dx, kc _ _ nvp ev5⟩, ec⟩
        have toc := to.step hu1 hk0
        have balc := bal.step to hk0
        have totc : tot (stp B u k0) ≤ 256 := by rw [tot_stp to hk0]; exact h256
        have t1c : 1 + ((i + 1 : Nat) : Int) ≤ t1 (stp B u k0) := by
          have := t1_stp (k := k0) to hu1
          omega
        have hne : plc bs ≠ [] := by
          rcases h0 with ⟨_, eB⟩ | h
          · rw [eB] at hu1
            have e := List.mem_singleton.mp hu1
            subst e
            intro e
            rw [e] at hk0
            cases hk0
          · exact h
        rcases hh with rfl | ⟨v2, p2, B2, rfl, sk2, to2, b2, n2, ne⟩
        · refine ⟨.non, rfl, rfl, _, rfl, ?_⟩
          rw [decide_eq_true rfl]
          refine iteT ⟨.int (i : Int), rfl, _, _, rfl, rfl, _, rfl, ite2 (fun _ => ?_) (fun _ => ?_)⟩
          · obtain ⟨kf, ekf, hkf⟩ := find_dot hne
            refine ⟨.str (tx bs), rfl, fun v2 dx2 nv2 ndx2 hne2 => ⟨v2, dx2, .str (tx bs), rfl, upd_same, .inl ⟨bs, rfl, by omega, fun Hd p2 np2 kp2 sk2 => ⟨rfl, ?_⟩⟩⟩⟩
            have sd : Same Hc Hd := made_kept nv2 ndx2 kp2
            have np2c : Hc p2 = none := (same_new nv2 (same_upd ndx2)).free np2
            obtain ⟨dxh, evh⟩ := id sk2.ob
            refine ⟨.ref v2, rfl, v2, dxh, _, rfl, evh, rfl, .str (tx bs), rfl, .str (tx bs), rfl, rfl, tx bs, "o.", rfl, rfl, ?_⟩
            rw [ekf]
            refine ⟨v2, p2, [(bs, 1)], .str (tx bs), wv kf, rfl, sk2, TO.one (by omega), .inl ⟨bs, kf, rfl, rfl, List.mem_singleton.mpr rfl, hkf, fun He ke ee => ?_⟩⟩
            have skd := skc.same sd
            have npp : p ≠ p2 := ne_of_none skc.di np2c
            have nv2p : v2 ≠ p2 := sk2.ne sk2
            exact ⟨_, .ref v2, _, _, _, _, _, rfl, fun a o e => ke a o (ne_of_none (sc a o e) np2c) (sd a o (sc a o e)), skd.but ke (skd.ne sk2) npp, toc, balc, totc, t1c,
              .inr ⟨v2, p2, _, rfl, ⟨⟨dxh, ke _ _ nv2p evh⟩, ee⟩, (TO.one (by omega)).step (List.mem_singleton.mpr rfl) hkf, (Bal.one bs).step (TO.one (by omega)) hkf, sc.free np2c, npp.symm⟩, .inr hne⟩
          · exact ⟨_, .non, _, _, _, _, _, rfl, sc, skc, toc, balc, totc, t1c, .inl rfl, .inr hne⟩
        · refine ⟨.ref v2, rfl, rfl, _, rfl, ?_⟩
          rw [decide_eq_false (fun z => nomatch z)]
          have sk5' := (sk2.same s2A).same sA5
          exact iteF ⟨_, .ref v2, _, _, _, _, _, rfl, sc, skc, toc, balc, totc, t1c, .inr ⟨v2, p2, B2, rfl, sk5'.but kc (sk5'.ne sk5) ne, to2, b2, n2, ne⟩, .inr hne⟩
    · rintro σ H' ⟨B, hv, y5, y6, y7, y8, y9, rfl, _, _, to, _, h256, h1, _⟩
      have := t1_tot fun p hp => (to.each p hp).1
      omega
end
end Hop

set_option Elab.async false
set_option linter.all false
set_option maxRecDepth 100000
namespace Hop
open PySem L2 HopR HopW HopT
open C8 (InsC)
theorem fin_same {bs : List Bool} {B B' : Tal} (to : TO B) (fin : ∀ p ∈ B, plc p.1 = []) (b : Bal bs B) (to' : TO B') (fin' : ∀ p ∈ B', plc p.1 = []) (b' : Bal bs B') : dB B = dB B' := by
  have pm := (ends_perm to fin b).trans (ends_perm to' fin' b').symm
  refine (eqB_dB to to').mp ((eqB_iff to'.once).mpr ⟨?_, fun p hp => ?_⟩)
  · have := pm.length_eq
    unfold endsB at this
    rw [List.length_map, List.length_map] at this
    exact this
  · have h := pm.mem_iff.mp (List.mem_map.mpr ⟨p, hp, rfl⟩)
    obtain ⟨q, hq, e⟩ := List.mem_map.mp h
    injection e with e1 e2
    injection e1 with e3 e4
    have e5 : q.1 = p.1 := by rw [fin_form (fin' q hq), fin_form (fin p hp), e3, e4]
    have : q = p := Prod.ext e5 e2
    rw [← this]
    exact hq
theorem str_same {B B' : Tal} (h : dB B = dB B') : strB B = strB B' := by
  unfold dB at h
  injection h with h
  obtain ⟨e, f⟩ := map_dW h
  unfold strB
  rw [← e]
  congr 1
  exact List.map_congr_left fun z hz => by rw [f z hz]
theorem lay_W {B : Tal} : ∀ {zs : List Str}, (∀ z ∈ zs, PyData.strOk z = true) → PyData.canLayAll0 (zs.map (dW B)) = true
  | [], _ => rfl
  | z :: r, h => by
    have ih := lay_W (B := B) (zs := r) fun y hy => h y (List.mem_cons_of_mem _ hy)
    have h0 := h z (List.mem_cons_self ..)
    simp only [List.map_cons, dW, PyData.canLayAll0, PyData.canLay0, h0, ih, Bool.and_self]
theorem deep_W {B : Tal} : ∀ zs : List Str, PyData.depthAll (zs.map (dW B)) ≤ 1
  | [] => Nat.zero_le _
  | z :: r => by
    have ih := deep_W (B := B) r
    simp only [List.map_cons, dW, PyData.depthAll, PyData.depth] at ih ⊢
    omega
theorem shaped_B {B : Tal} (to : TO B) : SeqAt.shaped (dB B) = true := by
  have h1 := lay_W (B := B) (zs := ordB B) fun z hz => by
    obtain ⟨u, rfl, _⟩ := ordB_few to hz
    exact strOk_tx u
  have h2 := deep_W (B := B) (ordB B)
  unfold SeqAt.shaped dB
  simp only [PyData.canLay0, PyData.depth, h1, Bool.true_and]
  exact decide_eq_true (by omega)
theorem eqv_B {B : Tal} (to : TO B) : PyData.eqv (dB B) (dB B) = true := SeqAt.eqv_refl _ (SeqAt.canLay_of_shaped (shaped_B to))
theorem sum_words {B : Tal} (to : TO B) : ((ordB B).map fun z => cz z B).sum = t1 B := (perm_sumI ((lsort_perm (ktx B)).map fun z => cz z B)).trans (cz_sum to.once)
def great : List Bool := List.replicate 6 true ++ List.replicate 6 false
theorem tx_great : ("oooooo......" : Str) = tx great := by decide +kernel
abbrev nLaw : List Str := ["_law_script", "_law_word", "_law_found", "_law_half", "_law_other", "_law_none", "_law_whole", "_law_great", "_law_one", "_law_many", "_law_entire", "_law_end"]
theorem scLaw : FnScope nLaw ["_law_script"] (defScope sLaw) := ⟨rfl, rfl, rfl, by decide +kernel, rfl, by decide +kernel, by decide +kernel⟩
def spLaw (K : PySem.W.Frag) : Sp := fun vs H Q _ => ∃ (a : Addr) (ns : List Int), vs = [.ref a] ∧ SqL K H a (ns.map V.int) ∧ ns.length ≤ 63 ∧ ∀ H', Q (.bl true) H'
section
variable {P : Program} {w : World} {K : PySem.W.Frag} {mg : Str → Option Value} {base : Heap} {d : Addr} {es : Array DictEntry} {n : Nat} {NW NP S : Addr}
variable {fi fs ff fw fl ft fe fh n1 n2 n3 n4 n5 n6 no nw : Addr} {gi gs gf gw gl gt ge gh h1 h2 h3 h4 h5 h6 ho hw : FuncData}
theorem ok_law {f lk lu xe lt lc ld lR : Addr} {fd mk mu me mt mc md mR : FuncData} (F : Fun K "law" "law" sLaw f fd) (D1 : Fn K mg "_law_course" sLCourse ["_law_script", "_law_word", "_law_turn"] lk mk) (D2 : Fn K mg "_law_due" sLDue ["_law_word"] lu mu) (Ne : Fn K mg "ends_of" sEndsOf ["word"] xe me) (N : EnDefs K mg) (D3 : Fn K mg "_law_steps" sLSt ["_law_words"] lt mt)
    (D6 : Fn K mg "_law_cell_at" sCellAt ["_law_script", "_law_k"] lc mc) (D7 : Fn K mg "_law_drawn" sDrawn ["_law_cell", "_law_sizes"] ld md) (D8 : Fn K mg "_law_row" sLRow ["_law_cell", "_law_most"] lR mR)
    (R : SM K mg S fi fs ff fw fl ft n1 n2 n3 n4 n5 n6 no nw gi gs gf gw gl gt h1 h2 h3 h4 h5 h6 ho hw) (D : SQ K S fe fh ge gh) (T : Txt K w mg d es n) (T0 : TxtL mg) (Z : Er K mg NW NP) (TS : TxtS K S) : FnOkG P w K mg base CX0 15 f fd ["_law_script"] (spLaw K) := by
  have Gk : FnOk P w K mg base CX0 14 lk mk ["_law_script", "_law_word", "_law_turn"] (spLCourse K S) := ok_lcourse D1.F D3 D6 D7 R T Z TS
  have Gu : FnOk P w K mg base CX0 14 lu mu ["_law_word"] (spLDue K) := ok_ldue (k := 9) D2.F Ne N T T0 Z
  have Gx : FnOk P w K mg base (L2.CX P w) 14 xe me ["word"] (spEndsOf K NW) := ok_endsOf (k := 10) Ne.F N T T0 Z
  have Gc : FnOk P w K mg base CX0 14 lc mc ["_law_script", "_law_k"] (spCellH K) := ok_cell (k := 13) D6.F T.len
  have Gr : FnOk P w K mg base CX0 14 lR mR ["_law_cell", "_law_most"] spLRow := ok_lrow (k := 12) D8.F D7 T.len T.range T.sorted
  have Gi : FnOk P w K mg base (L2.CX P w) 13 fi gi ["self", "word"] (spSInit K S NW) := ok_sinit (k := 9) R.Fi R.N1 R.N2 T Z TS
  have Gw : FnOk P w K mg base CX0 14 fw gw ["self"] (spSWords S) := ok_swords (k := 9) R.Fw R.No T TS
  have Gf : FnOk P w K mg base CX0 14 ff gf ["self"] (spSFin S) := ok_sfin (k := 9) R.Ff R.N1 R.N2 R.N3 R.N4 T Z TS
  have Gh : FnOk P w K mg base CX0 14 fh gh ["self"] (spSFinish S) := ok_sfinish (k := 7) D.Fh R.N1 R.N2 R.N3 R.N4 R.N5 R.N6 R.Fs R.bs R.ms R.Ff R.bf R.mf T Z TS
  have Gt : FnOk P w K mg base CX0 6 ft gt ["self"] (spSStr S) := ok_sstr (k := 0) R.Ft R.Fw R.bw R.mw R.Nw R.No T TS
  have Ge : FnOk P w K mg base CX0 1 fe ge ["self", "other"] (spSEq K S) := ok_seq (k := 0) D.Fe R.gS D.I T TS
  refine okG F scLaw (fun vs H Q E h => ?_) (fun cdv A outer s H vs Q E hG hr h => ?_)
  · obtain ⟨a, ns, rfl, _⟩ := h
    rfl
  · obtain ⟨a, ns, rfl, hS, hlen, q⟩ := h
    have nd := scLaw.nd
    have hu := hu66 hr
    have hu64 : (A.deeper (PyProof.Rows.envOfC "law" (defScope sLaw) s.heap.objs.size f cdv)).units + 64 < cLine := by omega
    have dB_of : ∀ {Hx : Hp} {B : Tal} {l : Addr} {ps : List Addr}, Hx l = some (.lst (ps.map V.ref)) → WL Hx B ps (ordB B) → Dp K Hx (.ref l) (dB B) := fun e wl => .lst (SqL.of e) (dp_WL wl)
    have ty : ∀ {Hx : Hp} {v p : Addr} {B : Tal}, SK S Hx v p B → TyX K Hx (.ref v) (.ref S) := fun h => let ⟨dx, e⟩ := h.ob; .base (.ins e D.I.cl D.I.ha D.I.hn D.I.htk D.I.hm)
    have nf : PySem.W.notFirst K S (.ref S) = true := by simp [PySem.W.notFirst]
    -- from the second finish on
    obtain ⟨tR, pR, hR⟩ : ∃ tR, PSs (cxOf CX0 P w K mg base nLaw "law" (defScope sLaw) f cdv A outer s H E).nox ((defBody sLaw).drop 8) tR ∧
        ∀ (H1 : Hp) (bs : List Bool) (v v' p' vw pw : Addr) (B' Bw : Tal) (y3 y5 y7 y8 y9 y10 y11 : Option V), bs.length ≤ 8 → SK S H1 v' p' B' → TO B' → (∀ p ∈ B', plc p.1 = []) → Bal bs B' → SK S H1 vw pw Bw → TO Bw → Bal bs Bw → p' ≠ pw →
          tR { nx := fun _ H' => Q .non H', rt := Q } [some (.ref a), some (.str (tx bs)), some (.ref v), y3, some (.ref v'), y5, some (.ref vw), y7, y8, y9, y10, y11] H1 := by
      refine ⟨_, (pss_cons (ps_expr (pe_meth0 (pv 6) TS.cl D.mh Gh hr D.bh .nil pass0))
        (pss_cons (ps_set (i := 7) nd rfl (.inl rfl) (pe_make R.M Gi hr (by rfl) R.gS R.bi .nil passX (pa_cons pe_str pa_nil)))
        (pss_cons (ps_expr (pe_meth0 (pv 7) TS.cl D.mh Gh hr D.bh .nil pass0))
        (pss_cons (ps_if (pt_cmpR (op_neD hu64) (pe_meth0 (pv 7) TS.cl R.mw Gw hr R.bw .nil pass0) (pe_call Gu hr (by rfl) D2.g D2.F.kp D2.b .nil pass0 (pa_cons pe_str pa_nil)) (nomark _)) (pss_one (ps_ret pe_bl)) pss_nil)
        (pss_cons (ps_set (i := 10) nd rfl (.inl rfl) (pe_callB (show CallR _ (.builtin "sum") (rSum K) from cr_sum rfl) (by rfl) T0.sum (by decide +kernel) (pa_cons
          (pe_lc (own := [("_law_one", 8), ("_law_many", 9)]) (g := gTup K 2 (gCons (gName 8) (gCons (gName 9) gNil))) (tt := tYes) rfl nd (pi_list (pe_meth0 (pv 6) TS.cl R.mw Gw hr R.bw .nil pass0))
            (blkOk_by (own := [("_law_one", 8), ("_law_many", 9)]) (N := nLaw) (sc := defScope sLaw) (by decide +kernel))
            (fun _ _ _ _ _ => pg_tup (by rfl) (pgs_cons (pg_name (i := 8) nd rfl (.inl rfl)) (pgs_cons (pg_name (i := 9) nd rfl (.inl rfl)) pgs_nil))) (fun _ _ _ _ _ => pts_nil) (fun _ _ _ _ _ => pv 9)) pa_nil)))
        (pss_one (ps_ret (pe_and (pe_cmpR (op_eqA D.ec Ge (hr.mono (by omega)) D.be pass0) (pv 6) (pv 4) (nomark _))
          (pe_one (pe_cmpR op_eq (pv 10) (pe_callB (show CallR _ (.builtin "sum") (rSum K) from cr_sum rfl) (by rfl) T0.sum (by decide +kernel) (pa_cons
            (pe_lc (own := [("_law_end", 11)]) (g := gName 11) (tt := tYes) rfl nd (pi_list (pe_call Gx hr (by rfl) Ne.g Ne.F.kp Ne.b .nil passX (pa_cons (pv 1) pa_nil)))
              (blkOk_by (own := [("_law_end", 11)]) (N := nLaw) (sc := defScope sLaw) (by decide +kernel))
              (fun _ _ _ _ _ => pg_name (i := 11) nd rfl (Or.inl rfl)) (fun _ _ _ _ _ => pts_nil) (fun _ _ _ _ _ => pe_ix (show IxR _ (rIxT K) from ix_tup) (pv 11) pe_int (fun _ _ => rfl))) pa_nil)) (nomark _))))))))))), ?_⟩
      intro H1 bs v v' p' vw pw B' Bw y3 y5 y7 y8 y9 y10 y11 h8 sk' to' fin' bal' skw tow balw npp
      obtain ⟨dxw, evw⟩ := id skw.ob
      refine ⟨.ref vw, rfl, vw, dxw, _, rfl, evw, rfl, vw, pw, Bw, rfl, skw, tow, fun H2 B2 k2 e2 to2 tz2 fb2 => ?_⟩
      have skw2 : SK S H2 vw pw B2 := ⟨⟨dxw, k2 _ _ (skw.ne skw) evw⟩, e2⟩
      have sk2' := sk'.but k2 (sk'.ne skw) npp
      have bal2 := tz2 _ balw
      have fin2 := fin_all (B := B2) fb2
      refine fun vg dxg nvg ndxg hneg => ⟨vg, dxg, _, rfl, upd_same, .inl ⟨great, congrArg V.str tx_great, by decide, fun H3 pg npg kpg skg => ⟨rfl, ?_⟩⟩⟩
      have s23 : Same H2 H3 := made_kept nvg ndxg kpg
      have npg2 : H2 pg = none := (same_new nvg (same_upd ndxg)).free npg
      obtain ⟨dxG, evg⟩ := id skg.ob
      refine ⟨.ref vg, rfl, vg, dxG, _, rfl, evg, rfl, vg, pg, _, rfl, skg, TO.one (by decide), fun H4 Bg k4 e4 tog tzg fbg => ?_⟩
      have balg := tzg _ (Bal.one great)
      have fing := fin_all (B := Bg) fbg
      have skg4 : SK S H4 vg pg Bg := ⟨⟨dxG, k4 _ _ (skg.ne skg) evg⟩, e4⟩
      have skw4 := (skw2.same s23).but k4 ((skw2.same s23).ne skg) (ne_of_none skw2.di npg2)
      have sk4' := (sk2'.same s23).but k4 ((sk2'.same s23).ne skg) (ne_of_none sk2'.di npg2)
      obtain ⟨dxg4, evg4⟩ := id skg4.ob
      refine ⟨.ref vg, rfl, vg, dxg4, _, rfl, evg4, rfl, vg, pg, Bg, rfl, skg4, tog, fun H5 lw ps s5 nlw elw nps wl => ?_⟩
      refine ⟨great, Bg, congrArg (fun z => [V.str z]) tx_great, by decide, tog, fing, balg, fun H6 pd s6 npd dpd => ?_⟩
      refine ⟨dB Bg, dB Bg, dB_of (s6 _ _ elw) (wl.same s6), dpd, shaped_B tog, shaped_B tog, _, rfl, ?_⟩
      rw [eqv_B tog]
      have s46 := s5.trans s6
      have skw6 := skw4.same s46
      have sk6' := sk4'.same s46
      obtain ⟨dxw6, evw6⟩ := id skw6.ob
      refine iteF ⟨.ref vw, rfl, vw, dxw6, _, rfl, evw6, rfl, vw, pw, B2, rfl, skw6, to2, fun H7 l7 ps7 s7 nl7 el7 nps7 wl7 => ?_⟩
      have s67 := s7
      refine ⟨l7, rfl, ⟨_, SqL.of el7⟩, fun D7 hD7 => ?_⟩
      refine lc_list (K := K) (a := l7) (xs := ps7.map V.ref) (fun j Hx => Same H7 Hx ∧ Hx D7 = some (.lst ((((ordB B2).take j).map fun z => cz z B2).map V.int))) ⟨same_upd hD7, upd_same⟩ (fun j Hx _ h => SqL.of (h.1 _ _ el7)) ?_ ?_
      · rintro j x Hx hx ⟨sx, eD⟩
        rw [List.getElem?_map] at hx
        obtain ⟨pp, hp, rfl⟩ := Option.map_eq_some_iff.mp hx
        obtain ⟨z, hz, et⟩ := wl7.at_ hp
        have hj : j < (ordB B2).length := (List.getElem?_eq_some_iff.mp hz).1
        have hl := ordB_len B2
        have few := to2.len
        refine ⟨pp, _, rfl, SqT.of (sx _ _ et), rfl, _, _, rfl, _, _, rfl, rfl, rfl, .int (cz z B2), rfl, _, eD, ?_, same_new hD7 sx, ?_⟩
        · rw [List.length_map, List.length_map, List.length_take]
          exact fit' (by omega)
        · rw [upd_same, List.take_add_one, hz, List.map_append, List.map_append]
          rfl
      · rintro H8 ⟨s8, eD⟩
        rw [List.length_map, wl7.len, List.take_length] at eD
        refine ⟨D7, _, rfl, SqL.of eD, ?_⟩
        rw [sum_words to2]
        have s68 := s7.trans s8
        have skw8 := skw6.same s68
        have sk8' := sk6'.same s68
        obtain ⟨dxw8, evw8⟩ := id skw8.ob
        refine ⟨.ref vw, rfl, .ref v', rfl, vw, dxw8, _, .ref S, rfl, evw8, ty sk8', nf, vw, pw, B2, .ref v', rfl, skw8, .inl ⟨v', p', B', rfl, sk8', _, rfl, ?_⟩⟩
        rw [(eqB_dB to2 to').mpr (fin_same to2 fin2 bal2 to' fin' bal')]
        refine ⟨true, rfl, iteT ⟨.int (t1 B2), rfl, .str (tx bs), rfl, .str (tx bs), rfl, .inl ⟨bs, rfl, by omega, fun H9 pe acc s9 npe epe g9 hl9 => ⟨pe, rfl, ⟨_, SqL.of epe⟩, fun D9 hD9 => ?_⟩⟩⟩⟩
        have hlE := tupG_len g9
        refine lc_list (K := K) (a := pe) (xs := acc) (fun j Hx => Same H9 Hx ∧ Hx D9 = some (.lst ((((eN bs).take j).map (·.2)).map V.int))) ⟨same_upd hD9, upd_same⟩ (fun j Hx _ h => SqL.of (h.1 _ _ epe)) ?_ ?_
        · rintro j x Hx hx ⟨sx, eD9⟩
          obtain ⟨e, t, he, rfl, et⟩ := HopH.tupG_item g9 hx
          have hj : j < (eN bs).length := (List.getElem?_eq_some_iff.mp he).1
          refine ⟨rfl, .ref t, rfl, t, _, 2, .int e.2, rfl, rfl, SqT.of (sx _ _ et), rfl, _, eD9, ?_, same_new hD9 sx, ?_⟩
          · rw [List.length_map, List.length_map, List.length_take]
            exact fit' (by omega)
          · rw [upd_same, List.take_add_one, he, List.map_append, List.map_append]
            rfl
        · rintro H10 ⟨s10, eD9⟩
          rw [hlE, List.take_length] at eD9
          refine ⟨D9, _, rfl, SqL.of eD9, ?_⟩
          rw [t1_ends to2 fin2 bal2]
          refine ⟨rfl, ?_⟩
          rw [decide_eq_true rfl]
          exact q H10
    refine ⟨_, pss_cons (ps_set (i := 1) nd rfl (.inl rfl) (pe_call Gr hr (by rfl) D8.g D8.F.kp D8.b .nil pass0 (pa_cons (pe_call Gc hr (by rfl) D6.g D6.F.kp D6.b .nil pass0 (pa_cons (pv 0) (pa_cons pe_int pa_nil))) (pa_cons pe_int pa_nil))))
      (pss_cons (ps_asg (pe_call Gk hr (by rfl) D1.g D1.F.kp D1.b .nil pass0 (pa_cons (pv 0) (pa_cons (pv 1) (pa_cons pe_int pa_nil)))) (pg_lst (by rfl) (pgs_cons (pg_name (i := 2) nd rfl (.inl rfl)) (pgs_cons (pg_name (i := 3) nd rfl (.inl rfl)) pgs_nil))))
      (pss_cons (ps_asg (pe_call Gk hr (by rfl) D1.g D1.F.kp D1.b .nil pass0 (pa_cons (pv 0) (pa_cons (pv 1) (pa_cons pe_int pa_nil)))) (pg_lst (by rfl) (pgs_cons (pg_name (i := 4) nd rfl (.inl rfl)) (pgs_cons (pg_name (i := 5) nd rfl (.inl rfl)) pgs_nil))))
      (pss_cons (ps_if (PW.pt (pw_or (pt_cmpR op_isN (pv 2) pe_non (nomark _)) (pw_or (pt_cmpR op_isN (pv 4) pe_non (nomark _)) (pw_or (pt_cmpR (op_neA D.ec Ge (hr.mono (by omega)) D.be pass0) (pv 2) (pv 4) (nomark _))
          (pw_or1 (pt_cmpR (op_neD hu64) (pe_meth0 (pv 2) TS.cl R.mw Gw hr R.bw .nil pass0) (pe_call Gu hr (by rfl) D2.g D2.F.kp D2.b .nil pass0 (pa_cons (pv 1) pa_nil)) (nomark _))))))) (pss_one (ps_ret pe_bl)) pss_nil)
      (pss_cons (ps_set (i := 6) nd rfl (.inl rfl) (pe_make R.M Gi hr (by rfl) R.gS R.bi .nil passX (pa_cons (pv 1) pa_nil)))
      (pss_cons (ps_expr (pe_meth0 (pv 6) TS.cl D.mh Gh hr D.bh .nil pass0))
      (pss_cons (ps_if (PW.pt (pw_or (pt_cmpR (op_neA D.ec Ge (hr.mono (by omega)) D.be pass0) (pv 6) (pv 2) (nomark _)) (pw_or (pt_cmpR op_ne (pe_callTy (cr_strOwn R.Mt R.nt Gt (hr.mono (by omega)) R.bt pass0) (by rfl) T.str (by decide +kernel) (pa_cons (pv 6) pa_nil)) (pe_callTy (cr_strOwn R.Mt R.nt Gt (hr.mono (by omega)) R.bt pass0) (by rfl) T.str (by decide +kernel) (pa_cons (pv 4) pa_nil)) (nomark _))
          (pw_or1 (pt_not (pt_val (pe_meth0 (pv 6) TS.cl R.mf Gf hr R.bf .nil pass0))))))) (pss_one (ps_ret pe_bl)) pss_nil)
      (pss_cons (ps_if (pt_cmpR op_notN (pv 3) pe_non (nomark _)) (pss_cons (ps_expr (pe_meth0 (pv 3) TS.cl D.mh Gh hr D.bh .nil pass0)) (pss_one (ps_if (pt_cmpR (op_neA D.ec Ge (hr.mono (by omega)) D.be pass0) (pv 3) (pv 2) (nomark _)) (pss_one (ps_ret pe_bl)) pss_nil))) pss_nil)
      pR))))))), ?_⟩
    refine ⟨.ref a, rfl, a, ns, 0, rfl, hS, fun c0 => ⟨c0, 8, rfl, by decide, by decide, fun H1 bs s1 hb1 hb2 => ?_⟩⟩
    refine ⟨.ref a, rfl, .str (tx bs), rfl, a, ns, bs, 0, rfl, s1.seq hS, hb2, by decide, fun H2 l v p B hv s2 nl el np sk to fin bal hh => ?_⟩
    refine ⟨l, _, rfl, SqL.of el, rfl, _, _, rfl, _, _, rfl, rfl, ?_⟩
    have s02 := s1.trans s2
    refine ⟨.ref a, rfl, .str (tx bs), rfl, a, ns, bs, 1, rfl, s02.seq hS, hb2, by decide, fun H3 l' v' p' B' hv' s3 nl' el' np' sk' to' fin' bal' hh' => ?_⟩
    refine ⟨l', _, rfl, SqL.of el', rfl, _, _, rfl, _, _, rfl, rfl, ?_⟩
    have sk3 := sk.same s3
    have npp : p ≠ p' := ne_of_none sk.di np'
    obtain ⟨dx, ev⟩ := id sk3.ob
    obtain ⟨dx', ev'⟩ := id sk'.ob
    -- both come to the same, and that is due
    refine ⟨.ref v, rfl, rfl, _, rfl, ?_⟩
    rw [decide_eq_false (fun z => nomatch z)]
    refine iteF ⟨.ref v', rfl, rfl, _, rfl, ?_⟩
    rw [decide_eq_false (fun z => nomatch z)]
    refine iteF ⟨.ref v, rfl, .ref v', rfl, v, dx, _, .ref S, rfl, ev, ty sk', nf, v, p, B, .ref v', rfl, sk3, .inl ⟨v', p', B', rfl, sk', _, rfl, ?_⟩⟩
    rw [(eqB_dB to to').mpr (fin_same to fin bal to' fin' bal')]
    refine ⟨_, rfl, iteF ?_⟩
    refine ⟨.ref v, rfl, v, dx, _, rfl, ev, rfl, v, p, B, rfl, sk3, to, fun H4 lw ps s4 nlw elw nps wl => ⟨.str (tx bs), rfl, bs, B, rfl, by omega, to, fin, bal, fun H5 pd s5 npd dpd => ?_⟩⟩
    refine ⟨dB B, dB B, dB_of (s5 _ _ elw) (wl.same s5), dpd, shaped_B to, shaped_B to, _, rfl, ?_⟩
    rw [eqv_B to]
    have s35 := s4.trans s5
    have sk5 := sk3.same s35
    have sk5' := sk'.same s35
    -- the whole
    refine iteF ⟨.str (tx bs), rfl, fun vw dxw nvw ndxw hnew => ⟨vw, dxw, .str (tx bs), rfl, upd_same, .inl ⟨bs, rfl, by omega, fun H6 pw npw kpw skw => ⟨rfl, ?_⟩⟩⟩⟩
    have s56 : Same H5 H6 := made_kept nvw ndxw kpw
    have npw5 : H5 pw = none := (same_new nvw (same_upd ndxw)).free npw
    have sk6 := sk5.same s56
    have sk6' := sk5'.same s56
    obtain ⟨dx6, ev6⟩ := id skw.ob
    refine ⟨.ref vw, rfl, vw, dx6, _, rfl, ev6, rfl, vw, pw, _, rfl, skw, TO.one (by omega), fun H7 Bw k7 e7 tow tzw fbw => ?_⟩
    have balw := tzw _ (Bal.one bs)
    have finw := fin_all (B := Bw) fbw
    have skw7 : SK S H7 vw pw Bw := ⟨⟨dx6, k7 _ _ (skw.ne skw) ev6⟩, e7⟩
    have npp1 : p ≠ pw := ne_of_none sk5.di npw5
    have npp2 : p' ≠ pw := ne_of_none sk5'.di npw5
    have sk7 := sk6.but k7 (sk6.ne skw) npp1
    have sk7' := sk6'.but k7 (sk6'.ne skw) npp2
    have hdW := fin_same tow finw balw to fin bal
    have hdW' := fin_same tow finw balw to' fin' bal'
    obtain ⟨dx7, ev7⟩ := id sk7.ob
    obtain ⟨dx7', ev7'⟩ := id sk7'.ob
    obtain ⟨dxw7, evw7⟩ := id skw7.ob
    refine ⟨.ref vw, rfl, .ref v, rfl, vw, dxw7, _, .ref S, rfl, evw7, ty sk7, nf, vw, pw, Bw, .ref v, rfl, skw7, .inl ⟨v, p, B, rfl, sk7, _, rfl, ?_⟩⟩
    rw [(eqB_dB tow to).mpr hdW]
    refine ⟨_, rfl, iteF ?_⟩
    refine ⟨.ref vw, rfl, vw, dxw7, _, rfl, evw7, vw, pw, Bw, rfl, skw7, tow, fun H8 s8 => ⟨_, rfl, .ref v', rfl, v', dx7', _, rfl, s8 _ _ ev7', v', p', B', rfl, sk7'.same s8, to', fun H9 s9 => ⟨_, rfl, rfl, _, rfl, ?_⟩⟩⟩
    rw [decide_eq_true (congrArg V.str (str_same hdW'))]
    have s79 := s8.trans s9
    refine iteF ⟨.ref vw, rfl, vw, dxw7, _, rfl, s79 _ _ evw7, rfl, vw, pw, Bw, rfl, skw7.same s79, tow, fun H10 s10 => ⟨_, rfl, ?_⟩⟩
    rw [fbw]
    have s710 := s79.trans s10
    have skw10 := skw7.same s710
    have sk10 := sk7.same s710
    have sk10' := sk7'.same s710
    -- the half
    refine iteF ?_
    rcases hh with rfl | ⟨v2, p2, B2, rfl, sk2, to2, b2, n2, ne2⟩
    · refine ⟨.non, rfl, rfl, _, rfl, ?_⟩
      rw [decide_eq_true rfl]
      exact iteF (hR _ bs v v' p' vw pw B' Bw _ _ _ _ _ _ _ hb2 sk10' to' fin' bal' skw10 tow balw npp2)
    · refine ⟨.ref v2, rfl, rfl, _, rfl, ?_⟩
      rw [decide_eq_false (fun z => nomatch z)]
      have q5 := (sk2.same s3).same s35
      have q6 := q5.same s56
      have n2w : p2 ≠ pw := ne_of_none q5.di npw5
      have n2' : p2 ≠ p' := ne_of_none sk2.di np'
      have q10 := (q6.but k7 (q6.ne skw) n2w).same s710
      obtain ⟨dxq, evq⟩ := id q10.ob
      refine iteT ⟨.ref v2, rfl, v2, dxq, _, rfl, evq, rfl, v2, p2, B2, rfl, q10, to2, fun H11 Bh k11 e11 toh tzh fbh => ?_⟩
      have balh := tzh _ b2
      have finh := fin_all (B := Bh) fbh
      have q11 : SK S H11 v2 p2 Bh := ⟨⟨dxq, k11 _ _ (q10.ne q10) evq⟩, e11⟩
      have sk11 := sk10.but k11 (sk10.ne q10) ne2.symm
      have sk11' := sk10'.but k11 (sk10'.ne q10) n2'.symm
      have skw11 := skw10.but k11 (skw10.ne q10) n2w.symm
      obtain ⟨dxh, evh⟩ := id q11.ob
      refine ⟨.ref v2, rfl, .ref v, rfl, v2, dxh, _, .ref S, rfl, evh, ty sk11, nf, v2, p2, Bh, .ref v, rfl, q11, .inl ⟨v, p, B, rfl, sk11, _, rfl, ?_⟩⟩
      rw [(eqB_dB toh to).mpr (fin_same toh finh balh to fin bal)]
      exact ⟨_, rfl, iteF (hR _ bs v v' p' vw pw B' Bw _ _ _ _ _ _ _ hb2 sk11' to' fin' bal' skw11 tow balw npp2)⟩
end
end Hop

set_option Elab.async false
set_option linter.all false
set_option maxRecDepth 100000
set_option maxHeartbeats 2000000
namespace Hop
open PySem L2 HopR
open C8 (InsC)
theorem kit_tyC {K : PySem.W.Frag} {C : Addr} {T : String} (hd : PySem.W.hasDictIn K C = true) (ht : PySem.W.typeIn K (.ref C) = some (.type "type")) (h : PySem.W.subIn K (.type T) (.ref C) = some false) : PySem.W.kitOne K (.type T) (.ref C) = some false := by
  obtain ⟨cd, hc, _⟩ := PySem.W.any_some hd
  have e2 : ((PySem.W.clsIn K C).isSome && PySem.W.typeIn K (.ref C) == some (.type "type")) = true := by rw [hc, ht] <;> rfl
  unfold PySem.W.kitOne
  have e1 : ¬ ((Value.type T == Value.ref C) = true) := fun z => nomatch (beq_iff_eq.mp z)
  rw [if_neg e1]
  show (if ((PySem.W.clsIn K C).isSome && PySem.W.typeIn K (.ref C) == some (.type "type")) = true then PySem.W.subIn K (.type T) (.ref C) else none) = some false
  rw [if_pos e2]
  exact h
/-! ### what the top has written -/
theorem all_mk {l : PySem.W.OpenLaw} {w : World} {K : PySem.W.Frag} {h : Heap} {mg : Str → Option Value} {fa : Addr} (X : K.In h) (G : h.Ns mainGlobals mg) (hfa : mg "law" = some (.ref fa))
    {f1 : Addr} {od1 an1 : Option Addr} {sl1 : Array (Option Value)} {oc1 kV1 dc1 pm1 cd1 ct1 : Value}
    {f2 : Addr} {od2 an2 : Option Addr} {sl2 : Array (Option Value)} {oc2 kV2 dc2 pm2 cd2 ct2 : Value}
    {f3 : Addr} {od3 an3 : Option Addr} {sl3 : Array (Option Value)} {oc3 kV3 dc3 pm3 cd3 ct3 : Value}
    {f4 : Addr} {od4 an4 : Option Addr} {sl4 : Array (Option Value)} {oc4 kV4 dc4 pm4 cd4 ct4 : Value}
    {f5 : Addr} {od5 an5 : Option Addr} {sl5 : Array (Option Value)} {oc5 kV5 dc5 pm5 cd5 ct5 : Value}
    {f6 : Addr} {od6 an6 : Option Addr} {sl6 : Array (Option Value)} {oc6 kV6 dc6 pm6 cd6 ct6 : Value}
    {f7 : Addr} {od7 an7 : Option Addr} {sl7 : Array (Option Value)} {oc7 kV7 dc7 pm7 cd7 ct7 : Value}
    {f8 : Addr} {od8 an8 : Option Addr} {sl8 : Array (Option Value)} {oc8 kV8 dc8 pm8 cd8 ct8 : Value}
    {fD1 : Addr} {odD1 anD1 : Option Addr} {slD1 : Array (Option Value)} {ocD1 kVD1 dcD1 pmD1 cdD1 ctD1 : Value}
    {fD2 : Addr} {odD2 anD2 : Option Addr} {slD2 : Array (Option Value)} {ocD2 kVD2 dcD2 pmD2 cdD2 ctD2 : Value}
    {fD4 : Addr} {odD4 anD4 : Option Addr} {slD4 : Array (Option Value)} {ocD4 kVD4 dcD4 pmD4 cdD4 ctD4 : Value}
    {fD5 : Addr} {odD5 anD5 : Option Addr} {slD5 : Array (Option Value)} {ocD5 kVD5 dcD5 pmD5 cdD5 ctD5 : Value}
    {fD9 : Addr} {odD9 anD9 : Option Addr} {slD9 : Array (Option Value)} {ocD9 kVD9 dcD9 pmD9 cdD9 ctD9 : Value}
    {fD3 : Addr} {odD3 anD3 : Option Addr} {slD3 : Array (Option Value)} {ocD3 kVD3 dcD3 pmD3 cdD3 ctD3 : Value}
    {fD6 : Addr} {odD6 anD6 : Option Addr} {slD6 : Array (Option Value)} {ocD6 kVD6 dcD6 pmD6 cdD6 ctD6 : Value}
    {fD7 : Addr} {odD7 anD7 : Option Addr} {slD7 : Array (Option Value)} {ocD7 kVD7 dcD7 pmD7 cdD7 ctD7 : Value}
    {fD8 : Addr} {odD8 anD8 : Option Addr} {slD8 : Array (Option Value)} {ocD8 kVD8 dcD8 pmD8 cdD8 ctD8 : Value}
    {fL : Addr} {odL anL : Option Addr} {slL : Array (Option Value)} {ocL kVL dcL pmL cdL ctL : Value}
    {tb0 : Tok}
    {tf0 : Tok}
    {tm0 : Tok}
    {tm1 : Tok}
    {d : Addr} {es : Array DictEntry} {n : Nat}
    {S : Addr}
    {fsi : Addr} {odsi ansi : Option Addr} {slsi : Array (Option Value)} {ocsi kVsi dcsi pmsi cdsi ctsi : Value}
    {fss : Addr} {odss anss : Option Addr} {slss : Array (Option Value)} {ocss kVss dcss pmss cdss ctss : Value}
    {fsf : Addr} {odsf ansf : Option Addr} {slsf : Array (Option Value)} {ocsf kVsf dcsf pmsf cdsf ctsf : Value}
    {fsw : Addr} {odsw answ : Option Addr} {slsw : Array (Option Value)} {ocsw kVsw dcsw pmsw cdsw ctsw : Value}
    {fsl : Addr} {odsl ansl : Option Addr} {slsl : Array (Option Value)} {ocsl kVsl dcsl pmsl cdsl ctsl : Value}
    {fst : Addr} {odst anst : Option Addr} {slst : Array (Option Value)} {ocst kVst dcst pmst cdst ctst : Value}
    {fsx : Addr} {odsx ansx : Option Addr} {slsx : Array (Option Value)} {ocsx kVsx dcsx pmsx cdsx ctsx : Value}
    {fsh : Addr} {odsh ansh : Option Addr} {slsh : Array (Option Value)} {ocsh kVsh dcsh pmsh cdsh ctsh : Value}
    {nmC qC : Str} {NC : Addr} {bsC subC : List Value} {hdC abC : Bool} {snC : List Str} {colC : Option Bool} {ddC : Option Addr} {x0 x1 x2 x3 x5 : Option Value} {nwC : String}
    {NW NP : Addr}
    (a1 : PySem.W.nsIn K mainGlobals "is_row" = some (some (.ref f1))) (l1 : K.lookup f1 = some ⟨oc1, od1, .func (PySem.W.fnOf "is_row" "is_row" (defArgs sIsRow) (defBody sIsRow) (defScope sIsRow) .none kV1 dc1 pm1 an1 cd1 ct1), sl1⟩) (c1 : PySem.W.codeIn K cd1 "is_row" = true) (k1 : PySem.W.keepIn K (.ref f1) = true)
    (a2 : PySem.W.nsIn K mainGlobals "is_word" = some (some (.ref f2))) (l2 : K.lookup f2 = some ⟨oc2, od2, .func (PySem.W.fnOf "is_word" "is_word" (defArgs sIsWord) (defBody sIsWord) (defScope sIsWord) .none kV2 dc2 pm2 an2 cd2 ct2), sl2⟩) (c2 : PySem.W.codeIn K cd2 "is_word" = true) (k2 : PySem.W.keepIn K (.ref f2) = true)
    (a3 : PySem.W.nsIn K mainGlobals "need_word" = some (some (.ref f3))) (l3 : K.lookup f3 = some ⟨oc3, od3, .func (PySem.W.fnOf "need_word" "need_word" (defArgs sNeedWord) (defBody sNeedWord) (defScope sNeedWord) .none kV3 dc3 pm3 an3 cd3 ct3), sl3⟩) (c3 : PySem.W.codeIn K cd3 "need_word" = true) (k3 : PySem.W.keepIn K (.ref f3) = true)
    (a4 : PySem.W.nsIn K mainGlobals "places_in" = some (some (.ref f4))) (l4 : K.lookup f4 = some ⟨oc4, od4, .func (PySem.W.fnOf "places_in" "places_in" (defArgs sPlaces) (defBody sPlaces) (defScope sPlaces) .none kV4 dc4 pm4 an4 cd4 ct4), sl4⟩) (c4 : PySem.W.codeIn K cd4 "places_in" = true) (k4 : PySem.W.keepIn K (.ref f4) = true)
    (a5 : PySem.W.nsIn K mainGlobals "is_whole" = some (some (.ref f5))) (l5 : K.lookup f5 = some ⟨oc5, od5, .func (PySem.W.fnOf "is_whole" "is_whole" (defArgs sIsWhole) (defBody sIsWhole) (defScope sIsWhole) .none kV5 dc5 pm5 an5 cd5 ct5), sl5⟩) (c5 : PySem.W.codeIn K cd5 "is_whole" = true) (k5 : PySem.W.keepIn K (.ref f5) = true)
    (a6 : PySem.W.nsIn K mainGlobals "shortened" = some (some (.ref f6))) (l6 : K.lookup f6 = some ⟨oc6, od6, .func (PySem.W.fnOf "shortened" "shortened" (defArgs sShort) (defBody sShort) (defScope sShort) .none kV6 dc6 pm6 an6 cd6 ct6), sl6⟩) (c6 : PySem.W.codeIn K cd6 "shortened" = true) (k6 : PySem.W.keepIn K (.ref f6) = true)
    (a7 : PySem.W.nsIn K mainGlobals "order_of" = some (some (.ref f7))) (l7 : K.lookup f7 = some ⟨oc7, od7, .func (PySem.W.fnOf "order_of" "order_of" (defArgs sOrder) (defBody sOrder) (defScope sOrder) .none kV7 dc7 pm7 an7 cd7 ct7), sl7⟩) (c7 : PySem.W.codeIn K cd7 "order_of" = true) (k7 : PySem.W.keepIn K (.ref f7) = true)
    (a8 : PySem.W.nsIn K mainGlobals "written" = some (some (.ref f8))) (l8 : K.lookup f8 = some ⟨oc8, od8, .func (PySem.W.fnOf "written" "written" (defArgs sWritten) (defBody sWritten) (defScope sWritten) .none kV8 dc8 pm8 an8 cd8 ct8), sl8⟩) (c8 : PySem.W.codeIn K cd8 "written" = true) (k8 : PySem.W.keepIn K (.ref f8) = true)
    (aD1 : PySem.W.nsIn K mainGlobals "_law_course" = some (some (.ref fD1))) (lD1 : K.lookup fD1 = some ⟨ocD1, odD1, .func (PySem.W.fnOf "_law_course" "_law_course" (defArgs sLCourse) (defBody sLCourse) (defScope sLCourse) .none kVD1 dcD1 pmD1 anD1 cdD1 ctD1), slD1⟩) (cD1 : PySem.W.codeIn K cdD1 "_law_course" = true) (kD1 : PySem.W.keepIn K (.ref fD1) = true)
    (aD2 : PySem.W.nsIn K mainGlobals "_law_due" = some (some (.ref fD2))) (lD2 : K.lookup fD2 = some ⟨ocD2, odD2, .func (PySem.W.fnOf "_law_due" "_law_due" (defArgs sLDue) (defBody sLDue) (defScope sLDue) .none kVD2 dcD2 pmD2 anD2 cdD2 ctD2), slD2⟩) (cD2 : PySem.W.codeIn K cdD2 "_law_due" = true) (kD2 : PySem.W.keepIn K (.ref fD2) = true)
    (aD4 : PySem.W.nsIn K mainGlobals "with_bead" = some (some (.ref fD4))) (lD4 : K.lookup fD4 = some ⟨ocD4, odD4, .func (PySem.W.fnOf "with_bead" "with_bead" (defArgs sWithBead) (defBody sWithBead) (defScope sWithBead) .none kVD4 dcD4 pmD4 anD4 cdD4 ctD4), slD4⟩) (cD4 : PySem.W.codeIn K cdD4 "with_bead" = true) (kD4 : PySem.W.keepIn K (.ref fD4) = true)
    (aD5 : PySem.W.nsIn K mainGlobals "with_free" = some (some (.ref fD5))) (lD5 : K.lookup fD5 = some ⟨ocD5, odD5, .func (PySem.W.fnOf "with_free" "with_free" (defArgs sWithFree) (defBody sWithFree) (defScope sWithFree) .none kVD5 dcD5 pmD5 anD5 cdD5 ctD5), slD5⟩) (cD5 : PySem.W.codeIn K cdD5 "with_free" = true) (kD5 : PySem.W.keepIn K (.ref fD5) = true)
    (aD9 : PySem.W.nsIn K mainGlobals "ends_of" = some (some (.ref fD9))) (lD9 : K.lookup fD9 = some ⟨ocD9, odD9, .func (PySem.W.fnOf "ends_of" "ends_of" (defArgs sEndsOf) (defBody sEndsOf) (defScope sEndsOf) .none kVD9 dcD9 pmD9 anD9 cdD9 ctD9), slD9⟩) (cD9 : PySem.W.codeIn K cdD9 "ends_of" = true) (kD9 : PySem.W.keepIn K (.ref fD9) = true)
    (aD3 : PySem.W.nsIn K mainGlobals "_law_steps" = some (some (.ref fD3))) (lD3 : K.lookup fD3 = some ⟨ocD3, odD3, .func (PySem.W.fnOf "_law_steps" "_law_steps" (defArgs sLSt) (defBody sLSt) (defScope sLSt) .none kVD3 dcD3 pmD3 anD3 cdD3 ctD3), slD3⟩) (cD3 : PySem.W.codeIn K cdD3 "_law_steps" = true) (kD3 : PySem.W.keepIn K (.ref fD3) = true)
    (aD6 : PySem.W.nsIn K mainGlobals "_law_cell_at" = some (some (.ref fD6))) (lD6 : K.lookup fD6 = some ⟨ocD6, odD6, .func (PySem.W.fnOf "_law_cell_at" "_law_cell_at" (defArgs sCellAt) (defBody sCellAt) (defScope sCellAt) .none kVD6 dcD6 pmD6 anD6 cdD6 ctD6), slD6⟩) (cD6 : PySem.W.codeIn K cdD6 "_law_cell_at" = true) (kD6 : PySem.W.keepIn K (.ref fD6) = true)
    (aD7 : PySem.W.nsIn K mainGlobals "_law_drawn" = some (some (.ref fD7))) (lD7 : K.lookup fD7 = some ⟨ocD7, odD7, .func (PySem.W.fnOf "_law_drawn" "_law_drawn" (defArgs sDrawn) (defBody sDrawn) (defScope sDrawn) .none kVD7 dcD7 pmD7 anD7 cdD7 ctD7), slD7⟩) (cD7 : PySem.W.codeIn K cdD7 "_law_drawn" = true) (kD7 : PySem.W.keepIn K (.ref fD7) = true)
    (aD8 : PySem.W.nsIn K mainGlobals "_law_row" = some (some (.ref fD8))) (lD8 : K.lookup fD8 = some ⟨ocD8, odD8, .func (PySem.W.fnOf "_law_row" "_law_row" (defArgs sLRow) (defBody sLRow) (defScope sLRow) .none kVD8 dcD8 pmD8 anD8 cdD8 ctD8), slD8⟩) (cD8 : PySem.W.codeIn K cdD8 "_law_row" = true) (kD8 : PySem.W.keepIn K (.ref fD8) = true)
    (aL : PySem.W.nsIn K mainGlobals "law" = some (some (.ref fL))) (lL : K.lookup fL = some ⟨ocL, odL, .func (PySem.W.fnOf "law" "law" (defArgs sLaw) (defBody sLaw) (defScope sLaw) .none kVL dcL pmL anL cdL ctL), slL⟩) (cL : PySem.W.codeIn K cdL "law" = true) (kL : PySem.W.keepIn K (.ref fL) = true)
    (z0 : PySem.W.nsIn K mainGlobals "len" = some none)
    (z1 : PySem.W.nsIn K mainGlobals "range" = some none)
    (z2 : PySem.W.nsIn K mainGlobals "all" = some none)
    (z3 : PySem.W.nsIn K mainGlobals "isinstance" = some none)
    (z4 : PySem.W.nsIn K mainGlobals "str" = some none)
    (z5 : PySem.W.nsIn K mainGlobals "int" = some none)
    (z6 : PySem.W.nsIn K mainGlobals "bool" = some none)
    (z7 : PySem.W.nsIn K mainGlobals "sorted" = some none)
    (z8 : PySem.W.nsIn K mainGlobals "list" = some none)
    (z9 : PySem.W.nsIn K mainGlobals "tuple" = some none)
    (z10 : PySem.W.nsIn K mainGlobals "repr" = some none)
    (z11 : PySem.W.nsIn K mainGlobals "any" = some none)
    (z12 : PySem.W.nsIn K mainGlobals "dict" = some none)
    (z13 : PySem.W.nsIn K mainGlobals "sum" = some none)
    (z14 : PySem.W.nsIn K mainGlobals "zip" = some none)
    (z15 : PySem.W.nsIn K mainGlobals "enumerate" = some none)
    (z16 : PySem.W.nsIn K mainGlobals "reversed" = some none)
    (gb0 : PySem.W.nsIn K mainGlobals "BEAD" = some (some (.str "o" tb0)))
    (gf0 : PySem.W.nsIn K mainGlobals "FREE" = some (some (.str "." tf0)))
    (gm0 : PySem.W.nsIn K mainGlobals "MOST_PLACES" = some (some (.int 30 tm0)))
    (gm1 : PySem.W.nsIn K mainGlobals "MOST_SIGNS" = some (some (.int 12 tm1)))
    (gd : PySem.W.nsIn K mainGlobals "OTHER_SIGN" = some (some (.ref d)))
    (ld : K.lookup d = some ⟨.type "dict", none, .dict es n, #[]⟩)
    (kd : PySem.W.KeysLit w.params es.toList)
    (sd : (d == sysModules) = false)
    (ke : keysAre es)
    (gS : PySem.W.nsIn K mainGlobals "Sum" = some (some (.ref S)))
    (S_pg : PySem.W.plainGet K S Str.empty = true)
    (S_hd : PySem.W.hasDictIn K S = true)
    (S_po : PySem.W.plainOver K S = true)
    (S_sa : PySem.W.findIn K (.ref S) "__setattr__" = some (some (.builtin "object.__setattr__")))
    (S_mk : PySem.W.makesIn K S = true)
    (S_kc : PySem.W.keepIn K (.ref S) = true)
    (S_ha : PySem.W.findIn K (.ref S) "__class__" = some (some (.builtin "object.__class__")))
    (S_hm : PySem.W.mroIn K S (.type "object") = some true)
    (q_hn : PySem.W.specialIn K (.builtin "object.__class__") "__get__" = some (some (.builtin "getset_descriptor.__get__")))
    (q_htk : PySem.W.takesIn K (.builtin "object.__class__") = some true)
    (S_n_often : PySem.W.findIn K (.ref S) "often" = some none)
    (msi : PySem.W.findIn K (.ref S) "__init__" = some (some (.ref fsi)))
    (nsi : PySem.W.isFn K (.ref fsi) = true)
    (lsi : K.lookup fsi = some ⟨ocsi, odsi, .func (PySem.W.fnOf "__init__" "Sum.__init__" (defArgs sSInit) (defBody sSInit) (defScope sSInit) .none kVsi dcsi pmsi ansi cdsi ctsi), slsi⟩)
    (csi : PySem.W.codeIn K cdsi "Sum.__init__" = true)
    (ksi : PySem.W.keepIn K (.ref fsi) = true)
    (mss : PySem.W.findIn K (.ref S) "shorten" = some (some (.ref fss)))
    (nss : PySem.W.isFn K (.ref fss) = true)
    (lss : K.lookup fss = some ⟨ocss, odss, .func (PySem.W.fnOf "shorten" "Sum.shorten" (defArgs sSShort) (defBody sSShort) (defScope sSShort) .none kVss dcss pmss anss cdss ctss), slss⟩)
    (css : PySem.W.codeIn K cdss "Sum.shorten" = true)
    (kss : PySem.W.keepIn K (.ref fss) = true)
    (msf : PySem.W.findIn K (.ref S) "is_finished" = some (some (.ref fsf)))
    (nsf : PySem.W.isFn K (.ref fsf) = true)
    (lsf : K.lookup fsf = some ⟨ocsf, odsf, .func (PySem.W.fnOf "is_finished" "Sum.is_finished" (defArgs sSFin) (defBody sSFin) (defScope sSFin) .none kVsf dcsf pmsf ansf cdsf ctsf), slsf⟩)
    (csf : PySem.W.codeIn K cdsf "Sum.is_finished" = true)
    (ksf : PySem.W.keepIn K (.ref fsf) = true)
    (msw : PySem.W.findIn K (.ref S) "words" = some (some (.ref fsw)))
    (nsw : PySem.W.isFn K (.ref fsw) = true)
    (lsw : K.lookup fsw = some ⟨ocsw, odsw, .func (PySem.W.fnOf "words" "Sum.words" (defArgs sSWords) (defBody sSWords) (defScope sSWords) .none kVsw dcsw pmsw answ cdsw ctsw), slsw⟩)
    (csw : PySem.W.codeIn K cdsw "Sum.words" = true)
    (ksw : PySem.W.keepIn K (.ref fsw) = true)
    (msl : PySem.W.findIn K (.ref S) "__len__" = some (some (.ref fsl)))
    (nsl : PySem.W.isFn K (.ref fsl) = true)
    (lsl : K.lookup fsl = some ⟨ocsl, odsl, .func (PySem.W.fnOf "__len__" "Sum.__len__" (defArgs sSLen) (defBody sSLen) (defScope sSLen) .none kVsl dcsl pmsl ansl cdsl ctsl), slsl⟩)
    (csl : PySem.W.codeIn K cdsl "Sum.__len__" = true)
    (ksl : PySem.W.keepIn K (.ref fsl) = true)
    (mst : PySem.W.findIn K (.ref S) "__str__" = some (some (.ref fst)))
    (nst : PySem.W.isFn K (.ref fst) = true)
    (lst : K.lookup fst = some ⟨ocst, odst, .func (PySem.W.fnOf "__str__" "Sum.__str__" (defArgs sSStr) (defBody sSStr) (defScope sSStr) .none kVst dcst pmst anst cdst ctst), slst⟩)
    (cst : PySem.W.codeIn K cdst "Sum.__str__" = true)
    (kst : PySem.W.keepIn K (.ref fst) = true)
    (msx : PySem.W.findIn K (.ref S) "__eq__" = some (some (.ref fsx)))
    (nsx : PySem.W.isFn K (.ref fsx) = true)
    (lsx : K.lookup fsx = some ⟨ocsx, odsx, .func (PySem.W.fnOf "__eq__" "Sum.__eq__" (defArgs sSEq) (defBody sSEq) (defScope sSEq) .none kVsx dcsx pmsx ansx cdsx ctsx), slsx⟩)
    (csx : PySem.W.codeIn K cdsx "Sum.__eq__" = true)
    (ksx : PySem.W.keepIn K (.ref fsx) = true)
    (msh : PySem.W.findIn K (.ref S) "finish" = some (some (.ref fsh)))
    (nsh : PySem.W.isFn K (.ref fsh) = true)
    (lsh : K.lookup fsh = some ⟨ocsh, odsh, .func (PySem.W.fnOf "finish" "Sum.finish" (defArgs sSFinish) (defBody sSFinish) (defScope sSFinish) .none kVsh dcsh pmsh ansh cdsh ctsh), slsh⟩)
    (csh : PySem.W.codeIn K cdsh "Sum.finish" = true)
    (ksh : PySem.W.keepIn K (.ref fsh) = true)
    (eqK : K.lookup S = some (excClassObj nmC qC S NC bsC [.type "object"] hdC snC subC abC colC ddC x0 x1 x2 x3 x5 nwC))
    (eqO : PySem.W.nsOkIn K NC = true)
    (eqE : PySem.W.nsIn K NC "__eq__" = some (some (.ref fsx)))
    (eqN : PySem.W.nsIn K NC "__ne__" = some none)
    (tyC : PySem.W.typeIn K (.ref S) = some (.type "type"))
    (kt_NoneType : PySem.W.subIn K (.type "NoneType") (.ref S) = some false)
    (kt_int : PySem.W.subIn K (.type "int") (.ref S) = some false)
    (kt_bool : PySem.W.subIn K (.type "bool") (.ref S) = some false)
    (kt_str : PySem.W.subIn K (.type "str") (.ref S) = some false)
    (kt_list : PySem.W.subIn K (.type "list") (.ref S) = some false)
    (g_NW : PySem.W.nsIn K mainGlobals "NoWord" = some (some (.ref NW)))
    (g_NP : PySem.W.nsIn K mainGlobals "NoPlace" = some (some (.ref NP)))
    (d_NW : PySem.W.hasDictIn K NW = true)
    (t_NW : PySem.W.typeIn K (.ref NW) = some (.type "type"))
    (d_NP : PySem.W.hasDictIn K NP = true)
    (t_NP : PySem.W.typeIn K (.ref NP) = some (.type "type"))
    (b_NP : PySem.W.subIn K (.ref NP) (.type "BaseException") = some true)
    (b_NW : PySem.W.subIn K (.ref NW) (.type "BaseException") = some true)
    (x_NW : PySem.W.excIn K NW [.type "ValueError", .type "Exception", .type "BaseException", .type "object"] "ValueError.__new__" = true)
    (k_NW : PySem.W.keepIn K (.ref NW) = true)
    (ga_NW : PySem.W.findIn K (.ref NW) "__getattribute__" = some (some (.builtin "BaseException.__getattribute__")))
    (gt_NW : PySem.W.findIn K (.ref NW) "__getattr__" = some none)
    (cl_NW : PySem.W.findIn K (.ref NW) "__class__" = some (some (.builtin "object.__class__")))
    (mo_NW : PySem.W.mroIn K NW (.type "object") = some true)
    (x_NP : PySem.W.excIn K NP [.type "ValueError", .type "Exception", .type "BaseException", .type "object"] "ValueError.__new__" = true)
    (k_NP : PySem.W.keepIn K (.ref NP) = true)
    (ga_NP : PySem.W.findIn K (.ref NP) "__getattribute__" = some (some (.builtin "BaseException.__getattribute__")))
    (gt_NP : PySem.W.findIn K (.ref NP) "__getattr__" = some none)
    (cl_NP : PySem.W.findIn K (.ref NP) "__class__" = some (some (.builtin "object.__class__")))
    (mo_NP : PySem.W.mroIn K NP (.type "object") = some true)
    : ∃ fd : FuncData, (∀ (s : Shared) (v : Value), BindsTo s fd ⟨[v], []⟩ [("_law_script", v)]) ∧ ∀ base : Heap, K.In base → base.Ns mainGlobals mg → FnOkG l.prog w K mg base CX0 15 fa fd ["_law_script"] (spLaw K) := by
  have e := hfa.symm.trans (PySem.W.mg_of X G aL)
  cases e
  have F1 := fun_mk (st := sIsRow) l1 c1 k1
  have b1 := F1.binds (ps := ["thing"]) fun _ _ _ _ _ _ us hl => match us, hl with | [_], _ => rfl
  have N1 := Fn.mk (ps := ["thing"]) F1 b1 (PySem.W.mg_of X G a1)
  have F2 := fun_mk (st := sIsWord) l2 c2 k2
  have b2 := F2.binds (ps := ["thing"]) fun _ _ _ _ _ _ us hl => match us, hl with | [_], _ => rfl
  have N2 := Fn.mk (ps := ["thing"]) F2 b2 (PySem.W.mg_of X G a2)
  have F3 := fun_mk (st := sNeedWord) l3 c3 k3
  have b3 := F3.binds (ps := ["thing"]) fun _ _ _ _ _ _ us hl => match us, hl with | [_], _ => rfl
  have N3 := Fn.mk (ps := ["thing"]) F3 b3 (PySem.W.mg_of X G a3)
  have F4 := fun_mk (st := sPlaces) l4 c4 k4
  have b4 := F4.binds (ps := ["word"]) fun _ _ _ _ _ _ us hl => match us, hl with | [_], _ => rfl
  have N4 := Fn.mk (ps := ["word"]) F4 b4 (PySem.W.mg_of X G a4)
  have F5 := fun_mk (st := sIsWhole) l5 c5 k5
  have b5 := F5.binds (ps := ["thing"]) fun _ _ _ _ _ _ us hl => match us, hl with | [_], _ => rfl
  have N5 := Fn.mk (ps := ["thing"]) F5 b5 (PySem.W.mg_of X G a5)
  have F6 := fun_mk (st := sShort) l6 c6 k6
  have b6 := F6.binds (ps := ["word", "place"]) fun _ _ _ _ _ _ us hl => match us, hl with | [_, _], _ => rfl
  have N6 := Fn.mk (ps := ["word", "place"]) F6 b6 (PySem.W.mg_of X G a6)
  have F7 := fun_mk (st := sOrder) l7 c7 k7
  have b7 := F7.binds (ps := ["word"]) fun _ _ _ _ _ _ us hl => match us, hl with | [_], _ => rfl
  have N7 := Fn.mk (ps := ["word"]) F7 b7 (PySem.W.mg_of X G a7)
  have F8 := fun_mk (st := sWritten) l8 c8 k8
  have b8 := F8.binds (ps := ["word", "many"]) fun _ _ _ _ _ _ us hl => match us, hl with | [_, _], _ => rfl
  have N8 := Fn.mk (ps := ["word", "many"]) F8 b8 (PySem.W.mg_of X G a8)
  have FD1 := fun_mk (st := sLCourse) lD1 cD1 kD1
  have bD1 := FD1.binds (ps := ["_law_script", "_law_word", "_law_turn"]) fun _ _ _ _ _ _ us hl => match us, hl with | [_, _, _], _ => rfl
  have ND1 := Fn.mk (ps := ["_law_script", "_law_word", "_law_turn"]) FD1 bD1 (PySem.W.mg_of X G aD1)
  have FD2 := fun_mk (st := sLDue) lD2 cD2 kD2
  have bD2 := FD2.binds (ps := ["_law_word"]) fun _ _ _ _ _ _ us hl => match us, hl with | [_], _ => rfl
  have ND2 := Fn.mk (ps := ["_law_word"]) FD2 bD2 (PySem.W.mg_of X G aD2)
  have FD4 := fun_mk (st := sWithBead) lD4 cD4 kD4
  have bD4 := FD4.binds (ps := ["table"]) fun _ _ _ _ _ _ us hl => match us, hl with | [_], _ => rfl
  have ND4 := Fn.mk (ps := ["table"]) FD4 bD4 (PySem.W.mg_of X G aD4)
  have FD5 := fun_mk (st := sWithFree) lD5 cD5 kD5
  have bD5 := FD5.binds (ps := ["table"]) fun _ _ _ _ _ _ us hl => match us, hl with | [_], _ => rfl
  have ND5 := Fn.mk (ps := ["table"]) FD5 bD5 (PySem.W.mg_of X G aD5)
  have FD9 := fun_mk (st := sEndsOf) lD9 cD9 kD9
  have bD9 := FD9.binds (ps := ["word"]) fun _ _ _ _ _ _ us hl => match us, hl with | [_], _ => rfl
  have ND9 := Fn.mk (ps := ["word"]) FD9 bD9 (PySem.W.mg_of X G aD9)
  have FD3 := fun_mk (st := sLSt) lD3 cD3 kD3
  have bD3 := FD3.binds (ps := ["_law_words"]) fun _ _ _ _ _ _ us hl => match us, hl with | [_], _ => rfl
  have ND3 := Fn.mk (ps := ["_law_words"]) FD3 bD3 (PySem.W.mg_of X G aD3)
  have FD6 := fun_mk (st := sCellAt) lD6 cD6 kD6
  have bD6 := FD6.binds (ps := ["_law_script", "_law_k"]) fun _ _ _ _ _ _ us hl => match us, hl with | [_, _], _ => rfl
  have ND6 := Fn.mk (ps := ["_law_script", "_law_k"]) FD6 bD6 (PySem.W.mg_of X G aD6)
  have FD7 := fun_mk (st := sDrawn) lD7 cD7 kD7
  have bD7 := FD7.binds (ps := ["_law_cell", "_law_sizes"]) fun _ _ _ _ _ _ us hl => match us, hl with | [_, _], _ => rfl
  have ND7 := Fn.mk (ps := ["_law_cell", "_law_sizes"]) FD7 bD7 (PySem.W.mg_of X G aD7)
  have FD8 := fun_mk (st := sLRow) lD8 cD8 kD8
  have bD8 := FD8.binds (ps := ["_law_cell", "_law_most"]) fun _ _ _ _ _ _ us hl => match us, hl with | [_, _], _ => rfl
  have ND8 := Fn.mk (ps := ["_law_cell", "_law_most"]) FD8 bD8 (PySem.W.mg_of X G aD8)
  have y0 := PySem.W.mg_none_of X G z0
  have y1 := PySem.W.mg_none_of X G z1
  have y2 := PySem.W.mg_none_of X G z2
  have y3 := PySem.W.mg_none_of X G z3
  have y4 := PySem.W.mg_none_of X G z4
  have y5 := PySem.W.mg_none_of X G z5
  have y6 := PySem.W.mg_none_of X G z6
  have y7 := PySem.W.mg_none_of X G z7
  have y8 := PySem.W.mg_none_of X G z8
  have y9 := PySem.W.mg_none_of X G z9
  have y10 := PySem.W.mg_none_of X G z10
  have y11 := PySem.W.mg_none_of X G z11
  have y12 := PySem.W.mg_none_of X G z12
  have y13 := PySem.W.mg_none_of X G z13
  have y14 := PySem.W.mg_none_of X G z14
  have y15 := PySem.W.mg_none_of X G z15
  have y16 := PySem.W.mg_none_of X G z16
  have wb0 := PySem.W.mg_of X G gb0
  have wf0 := PySem.W.mg_of X G gf0
  have wm0 := PySem.W.mg_of X G gm0
  have wm1 := PySem.W.mg_of X G gm1
  have CLS : Cls K S := ⟨S_pg, S_hd, S_po, S_sa⟩
  have ICS : C8.InsC K S := ⟨CLS, S_ha, q_hn, q_htk, S_hm, kit_me⟩
  have Fsi := fun_mk (st := sSInit) lsi csi ksi
  have bsi := Fsi.binds (ps := ["self", "word"]) fun _ _ _ _ _ _ us hl => match us, hl with | [_, _], _ => rfl
  have Fss := fun_mk (st := sSShort) lss css kss
  have bss := Fss.binds (ps := ["self", "word", "place"]) fun _ _ _ _ _ _ us hl => match us, hl with | [_, _, _], _ => rfl
  have Fsf := fun_mk (st := sSFin) lsf csf ksf
  have bsf := Fsf.binds (ps := ["self"]) fun _ _ _ _ _ _ us hl => match us, hl with | [_], _ => rfl
  have Fsw := fun_mk (st := sSWords) lsw csw ksw
  have bsw := Fsw.binds (ps := ["self"]) fun _ _ _ _ _ _ us hl => match us, hl with | [_], _ => rfl
  have Fsl := fun_mk (st := sSLen) lsl csl ksl
  have bsl := Fsl.binds (ps := ["self"]) fun _ _ _ _ _ _ us hl => match us, hl with | [_], _ => rfl
  have Fst := fun_mk (st := sSStr) lst cst kst
  have bst := Fst.binds (ps := ["self"]) fun _ _ _ _ _ _ us hl => match us, hl with | [_], _ => rfl
  have Fsx := fun_mk (st := sSEq) lsx csx ksx
  have bsx := Fsx.binds (ps := ["self", "other"]) fun _ _ _ _ _ _ us hl => match us, hl with | [_, _], _ => rfl
  have Fsh := fun_mk (st := sSFinish) lsh csh ksh
  have bsh := Fsh.binds (ps := ["self"]) fun _ _ _ _ _ _ us hl => match us, hl with | [_], _ => rfl
  have TS : TxtS K S := ⟨CLS, S_n_often⟩
  have R : SM K mg S fsi fss fsf fsw fsl fst f1 f2 f3 f4 f5 f6 f7 f8 _ _ _ _ _ _ _ _ _ _ _ _ _ _ := ⟨N1, N2, N3, N4, N5, N6, N7, N8, ⟨S_mk, msi, nsi, S_kc⟩, Fsi, bsi, PySem.W.mg_of X G gS, Fss, bss, ⟨mss, nss, kss⟩, Fsf, bsf, ⟨msf, nsf, ksf⟩, Fsw, bsw, ⟨msw, nsw, ksw⟩, Fsl, bsl, msl, nsl, Fst, bst, mst, nst⟩
  have EC : EqC K S fsx := ⟨msx, nsx, _, _, _, _, _, _, _, _, _, _, _, _, _, _, _, _, eqK, eqO, eqE, eqN⟩
  have KTS : ∀ T : String, T ∈ ["NoneType", "int", "bool", "str", "list"] → PySem.W.subIn K (.type T) (.ref S) = some false ∧ PySem.W.kitOne K (.type T) (.ref S) = some false := by
    intro T hT
    simp only [List.mem_cons, List.not_mem_nil, or_false] at hT
    rcases hT with rfl | rfl | rfl | rfl | rfl
    · exact ⟨kt_NoneType, kit_tyC S_hd tyC kt_NoneType⟩
    · exact ⟨kt_int, kit_tyC S_hd tyC kt_int⟩
    · exact ⟨kt_bool, kit_tyC S_hd tyC kt_bool⟩
    · exact ⟨kt_str, kit_tyC S_hd tyC kt_str⟩
    · exact ⟨kt_list, kit_tyC S_hd tyC kt_list⟩
  have Q : SQ K S fsx fsh _ _ := ⟨EC, Fsx, bsx, ICS, Fsh, bsh, ⟨msh, nsh, ksh⟩, KTS⟩
  have T : Txt K w mg d es n := ⟨y0, y1, y2, y3, y4, y5, y6, y7, y8, y9, y10, y11, y12, ⟨_, wm1⟩, ⟨_, wb0⟩, ⟨_, wf0⟩, ⟨_, wm0⟩, PySem.W.mg_of X G gd, ⟨ld, kd, sd⟩, ke⟩
  have T0 : TxtL mg := ⟨y13, y1, y0, y14, y15, y16⟩
  have Z : Er K mg NW NP := ⟨PySem.W.mg_of X G g_NW, PySem.W.mg_of X G g_NP, ⟨x_NW, k_NW, b_NW, t_NW, ⟨ga_NW, gt_NW, b_NW, d_NW, cl_NW, q_hn, q_htk, mo_NW⟩⟩, ⟨x_NP, k_NP, b_NP, t_NP, ⟨ga_NP, gt_NP, b_NP, d_NP, cl_NP, q_hn, q_htk, mo_NP⟩⟩⟩
  exact ⟨PySem.W.fnOf "law" "law" (defArgs sLaw) (defBody sLaw) (defScope sLaw) .none kVL dcL pmL anL cdL ctL, fun s v => .of_eq rfl, fun base _ _ => ok_law (fun_mk (st := sLaw) lL cL kL) ND1 ND2 ND9 ⟨⟨_, _, N1⟩, ⟨_, _, N2⟩, ⟨_, _, N3⟩, ⟨_, _, ND4⟩, ⟨_, _, ND5⟩⟩ ND3 ND6 ND7 ND8 R Q T T0 Z TS⟩
end Hop
open PySem PySem.W PyProof.Rows in
set_option maxRecDepth 100000 in
set_option maxHeartbeats 0 in
theorem PySem.Challenge.cw_hopline_k23_whole_whatever_is_shortened_holds : PySem.Challenge.rw_hopline_k23_whole_whatever_is_shortened.Holds := by
  w_on; o_law; k_head; (case hw => w_witness2)
  k_fill
  refine HopR.walk_ofG (l := PySem.Challenge.rw_hopline_k23_whole_whatever_is_shortened) (n := 63) (k := 15) (x := "_law_script") (sp := fun w => Hop.spLaw _) rfl (by decide) rfl ⟨rfl, by decide, by decide⟩ (fun w h Y => PySem.W.kIn_of Y) ?F (fun _ _ a ns hl _ _ hS => ⟨a, ns, rfl, hS, hl, fun _ => rfl⟩)
  case F =>
    intro w mg fa h KX G hmg
    refine' Hop.all_mk KX G hmg ?u_a1 ?u_l1 ?u_c1 ?u_k1 ?u_a2 ?u_l2 ?u_c2 ?u_k2 ?u_a3 ?u_l3 ?u_c3 ?u_k3 ?u_a4 ?u_l4 ?u_c4 ?u_k4 ?u_a5 ?u_l5 ?u_c5 ?u_k5 ?u_a6 ?u_l6 ?u_c6 ?u_k6 ?u_a7 ?u_l7 ?u_c7 ?u_k7 ?u_a8 ?u_l8 ?u_c8 ?u_k8 ?u_aD1 ?u_lD1 ?u_cD1 ?u_kD1 ?u_aD2 ?u_lD2 ?u_cD2 ?u_kD2 ?u_aD4 ?u_lD4 ?u_cD4 ?u_kD4 ?u_aD5 ?u_lD5 ?u_cD5 ?u_kD5 ?u_aD9 ?u_lD9 ?u_cD9 ?u_kD9 ?u_aD3 ?u_lD3 ?u_cD3 ?u_kD3 ?u_aD6 ?u_lD6 ?u_cD6 ?u_kD6 ?u_aD7 ?u_lD7 ?u_cD7 ?u_kD7 ?u_aD8 ?u_lD8 ?u_cD8 ?u_kD8 ?u_aL ?u_lL ?u_cL ?u_kL ?u_z0 ?u_z1 ?u_z2 ?u_z3 ?u_z4 ?u_z5 ?u_z6 ?u_z7 ?u_z8 ?u_z9 ?u_z10 ?u_z11 ?u_z12 ?u_z13 ?u_z14 ?u_z15 ?u_z16 ?u_gb0 ?u_gf0 ?u_gm0 ?u_gm1 ?u_gd ?u_ld ?u_kd ?u_sd ?u_ke ?u_gS ?u_S_pg ?u_S_hd ?u_S_po ?u_S_sa ?u_S_mk ?u_S_kc ?u_S_ha ?u_S_hm ?u_q_hn ?u_q_htk ?u_S_n_often ?u_msi ?u_nsi ?u_lsi ?u_csi ?u_ksi ?u_mss ?u_nss ?u_lss ?u_css ?u_kss ?u_msf ?u_nsf ?u_lsf ?u_csf ?u_ksf ?u_msw ?u_nsw ?u_lsw ?u_csw ?u_ksw ?u_msl ?u_nsl ?u_lsl ?u_csl ?u_ksl ?u_mst ?u_nst ?u_lst ?u_cst ?u_kst ?u_msx ?u_nsx ?u_lsx ?u_csx ?u_ksx ?u_msh ?u_nsh ?u_lsh ?u_csh ?u_ksh ?u_eqK ?u_eqO ?u_eqE ?u_eqN ?u_tyC ?u_kt_NoneType ?u_kt_int ?u_kt_bool ?u_kt_str ?u_kt_list ?u_g_NW ?u_g_NP ?u_d_NW ?u_t_NW ?u_d_NP ?u_t_NP ?u_b_NP ?u_b_NW ?u_x_NW ?u_k_NW ?u_ga_NW ?u_gt_NW ?u_cl_NW ?u_mo_NW ?u_x_NP ?u_k_NP ?u_ga_NP ?u_gt_NP ?u_cl_NP ?u_mo_NP
    (case u_a1 => k_is)
    (case u_l1 => k_is)
    (case u_c1 => k_is)
    (case u_k1 => k_is)
    (case u_a2 => k_is)
    (case u_l2 => k_is)
    (case u_c2 => k_is)
    (case u_k2 => k_is)
    (case u_a3 => k_is)
    (case u_l3 => k_is)
    (case u_c3 => k_is)
    (case u_k3 => k_is)
    (case u_a4 => k_is)
    (case u_l4 => k_is)
    (case u_c4 => k_is)
    (case u_k4 => k_is)
    (case u_a5 => k_is)
    (case u_l5 => k_is)
    (case u_c5 => k_is)
    (case u_k5 => k_is)
    (case u_a6 => k_is)
    (case u_l6 => k_is)
    (case u_c6 => k_is)
    (case u_k6 => k_is)
    (case u_a7 => k_is)
    (case u_l7 => k_is)
    (case u_c7 => k_is)
    (case u_k7 => k_is)
    (case u_a8 => k_is)
    (case u_l8 => k_is)
    (case u_c8 => k_is)
    (case u_k8 => k_is)
    (case u_aD1 => k_is)
    (case u_lD1 => k_is)
    (case u_cD1 => k_is)
    (case u_kD1 => k_is)
    (case u_aD2 => k_is)
    (case u_lD2 => k_is)
    (case u_cD2 => k_is)
    (case u_kD2 => k_is)
    (case u_aD4 => k_is)
    (case u_lD4 => k_is)
    (case u_cD4 => k_is)
    (case u_kD4 => k_is)
    (case u_aD5 => k_is)
    (case u_lD5 => k_is)
    (case u_cD5 => k_is)
    (case u_kD5 => k_is)
    (case u_aD9 => k_is)
    (case u_lD9 => k_is)
    (case u_cD9 => k_is)
    (case u_kD9 => k_is)
    (case u_aD3 => k_is)
    (case u_lD3 => k_is)
    (case u_cD3 => k_is)
    (case u_kD3 => k_is)
    (case u_aD6 => k_is)
    (case u_lD6 => k_is)
    (case u_cD6 => k_is)
    (case u_kD6 => k_is)
    (case u_aD7 => k_is)
    (case u_lD7 => k_is)
    (case u_cD7 => k_is)
    (case u_kD7 => k_is)
    (case u_aD8 => k_is)
    (case u_lD8 => k_is)
    (case u_cD8 => k_is)
    (case u_kD8 => k_is)
    (case u_aL => k_is)
    (case u_lL => k_is)
    (case u_cL => k_is)
    (case u_kL => k_is)
    (case u_z0 => k_is)
    (case u_z1 => k_is)
    (case u_z2 => k_is)
    (case u_z3 => k_is)
    (case u_z4 => k_is)
    (case u_z5 => k_is)
    (case u_z6 => k_is)
    (case u_z7 => k_is)
    (case u_z8 => k_is)
    (case u_z9 => k_is)
    (case u_z10 => k_is)
    (case u_z11 => k_is)
    (case u_z12 => k_is)
    (case u_z13 => k_is)
    (case u_z14 => k_is)
    (case u_z15 => k_is)
    (case u_z16 => k_is)
    (case u_gb0 => k_is)
    (case u_gf0 => k_is)
    (case u_gm0 => k_is)
    (case u_gm1 => k_is)
    (case u_gd => k_is)
    (case u_ld => k_is)
    (case u_kd => k_keys)
    (case u_sd => decide)
    (case u_ke => rfl)
    (case u_gS => k_is)
    (case u_S_pg => k_is)
    (case u_S_hd => k_is)
    (case u_S_po => k_is)
    (case u_S_sa => k_is)
    (case u_S_mk => k_is)
    (case u_S_kc => k_is)
    (case u_S_ha => k_is)
    (case u_S_hm => k_is)
    (case u_q_hn => k_is)
    (case u_q_htk => k_is)
    (case u_S_n_often => k_is)
    (case u_msi => k_is)
    (case u_nsi => k_is)
    (case u_lsi => k_is)
    (case u_csi => k_is)
    (case u_ksi => k_is)
    (case u_mss => k_is)
    (case u_nss => k_is)
    (case u_lss => k_is)
    (case u_css => k_is)
    (case u_kss => k_is)
    (case u_msf => k_is)
    (case u_nsf => k_is)
    (case u_lsf => k_is)
    (case u_csf => k_is)
    (case u_ksf => k_is)
    (case u_msw => k_is)
    (case u_nsw => k_is)
    (case u_lsw => k_is)
    (case u_csw => k_is)
    (case u_ksw => k_is)
    (case u_msl => k_is)
    (case u_nsl => k_is)
    (case u_lsl => k_is)
    (case u_csl => k_is)
    (case u_ksl => k_is)
    (case u_mst => k_is)
    (case u_nst => k_is)
    (case u_lst => k_is)
    (case u_cst => k_is)
    (case u_kst => k_is)
    (case u_msx => k_is)
    (case u_nsx => k_is)
    (case u_lsx => k_is)
    (case u_csx => k_is)
    (case u_ksx => k_is)
    (case u_msh => k_is)
    (case u_nsh => k_is)
    (case u_lsh => k_is)
    (case u_csh => k_is)
    (case u_ksh => k_is)
    (case u_eqK => k_is)
    (case u_eqO => first | kernel_rfl | decide +kernel | rfl)
    (case u_eqE => k_is)
    (case u_eqN => k_is)
    (case u_tyC => k_is)
    (case u_kt_NoneType => first | kx_is | k_is | kernel_rfl | decide +kernel)
    (case u_kt_int => first | kx_is | k_is | kernel_rfl | decide +kernel)
    (case u_kt_bool => first | kx_is | k_is | kernel_rfl | decide +kernel)
    (case u_kt_str => first | kx_is | k_is | kernel_rfl | decide +kernel)
    (case u_kt_list => first | kx_is | k_is | kernel_rfl | decide +kernel)
    (case u_g_NW => k_is)
    (case u_g_NP => k_is)
    (case u_d_NW => k_is)
    (case u_t_NW => k_is)
    (case u_d_NP => k_is)
    (case u_t_NP => k_is)
    (case u_b_NP => k_is)
    (case u_b_NW => k_is)
    (case u_x_NW => k_exc)
    (case u_k_NW => k_is)
    (case u_ga_NW => k_is)
    (case u_gt_NW => k_is)
    (case u_cl_NW => k_is)
    (case u_mo_NW => k_is)
    (case u_x_NP => k_exc)
    (case u_k_NP => k_is)
    (case u_ga_NP => k_is)
    (case u_gt_NP => k_is)
    (case u_cl_NP => k_is)
    (case u_mo_NP => k_is)
