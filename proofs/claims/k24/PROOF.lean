import PyProof.Rows.All
import Wide.All
import OpenK.AllK
import Wide.FinOn
import HandS.ForMost
import HandS.Wide
import HandS.Style
import HandS.RevTup
import HandS.Rev
import HandS.IsInst
import HandS.More
import HandS.Conv
import HandS.Defaults
import HandS.ForExc
import HandS.OwnEq
import HandS.Flow
import PyProof.ListStr
import HandS.Walk
import HandS.EndBits
import PyProof.ReprRoads
import PyProof.ReprLen
import HandS.Exc
import HandS.ExcIs
import HandS.TryOnly
import HandS.ExcOwn
import HandS.WordsExc
import HandS.Codes
import KE.KCallOwn
import HandS.FStr
import PyProof.FString3
import PyProof.InstNe
import PyProof.TupleOfStr
import HandS.SortKw
import HandS.SortInts
import KE.GoesZip
import KE.GoesMore
import PyProof.Draws
import PyProof.WalksT
import HandS.Dict
import PyProof.ReprReads
import PyProof.ReprNest
import HandS.SortOrd
import PyProof.Rows.StrFirst
import HandS.DictComp
import HandS.StrMore
import PySem.Challenge.RW_hopline_k24_ends_told
import PyProof.StrLawsFrom

set_option Elab.async false
set_option linter.all false
set_option maxRecDepth 100000
namespace HopR
open PySem PySem.Spec PyProof.Rows L2
/-! rules of my own: texts -/
/-- the signs of a text, each a text -/
def sg (z : Str) : List Str := z.cps.toList.map fun c => ⟨#[c]⟩
theorem sg_len (z : Str) : (sg z).length = z.length := by
  unfold sg
  rw [List.length_map]
  rfl
theorem sg_get {z : Str} {i : Nat} {c : Nat} (h : z.cps[i]? = some c) : (sg z)[i]? = some ⟨#[c]⟩ := by
  unfold sg
  rw [List.getElem?_map, Array.getElem?_toList, h]
  rfl
theorem strsAre_of : ∀ (vs : List Value) (ys : List Str), vs.length = ys.length → (∀ (j : Nat) (v : Value), vs[j]? = some v → ∃ y t, ys[j]? = some y ∧ v = .str y t) → StrsAre vs ys
  | [], [], _, _ => .nil
  | v :: r, y :: q, hl, h => by
    obtain ⟨y', t, e1, e2⟩ := h 0 v rfl
    have e3 : y = y' := Option.some.inj e1
    subst e3 e2
    exact .cons y t (strsAre_of r q (by simpa using hl) fun j w hw => h (j + 1) w hw)
theorem signs_are {z : Str} {acc : Array Value} (h : ItemsOf (SignAt z) acc z.cps.size) : StrsAre acc.toList (sg z) := by
  refine strsAre_of _ _ (by rw [sg_len, Array.length_toList, h.1]; rfl) fun j v hv => ?_
  obtain ⟨c, u, hc, e⟩ := h.2 j v (by rw [← Array.getElem?_toList]; exact hv)
  exact ⟨⟨#[c]⟩, u, sg_get hc, e⟩
section
variable {X : Cx}
/-- sorted(text) -/
def rSortT : List V → Hp → VK → Prop := fun vs H Q => ∃ z : Str, vs = [.str z] ∧ z.length < 64 ∧ ∀ (ys : List Str) (p : Addr), ys.Perm (sg z) → sortedS ys = true → H p = none → Q (.ref p) (upd H p (.lst (ys.map V.str)))
theorem cr_sortT (hcm : X.calm = true) : CallR X (.builtin "sorted") rSortT := by
  intro pins s σ H xs us Q I r h
  obtain ⟨z, rfl, h64, q⟩ := h
  obtain ⟨u, rfl, t, rfl⟩ := vals1 r
  refine Calls.call_function_entry kind_sorted plain_sorted entry_sorted (args_sorted1 (.str z t)) ?_
  unfold Builtin.«sorted»
  refine wpAny_bind (m := checkCount "sorted" 1 1 [Value.str z t].length) (wpAny_pure ?_)
  have hz : z.cps.size < 64 := h64
  refine wpAny_bind (wpAny_collect_str (A := X.A.in1) (show X.A.in1.handled = none from I.ok.hd hcm) z t (fun s' acc hk hg hdr hos hit => ?_) (Nat.le_trans (Nat.le_of_lt hz) (by decide)))
  have hS := signs_are hit
  have es : s' = { s with heap := s'.heap, toks := s'.toks } := by
    cases s'
    cases s
    simp only at hg hdr hos
    subst hg hdr hos
    rfl
  have hal : acc.toList.length < 64 := by rw [Array.length_toList, hit.1]; exact hz
  refine wpAny_bind (wpAny_newList ?_ (Nat.le_trans (Nat.le_of_lt hal) (by decide)))
  have hoL : (s'.heap.push (seqObj "list" acc.toList.toArray 0)).get? s'.heap.objs.size = some (seqObj "list" acc.toList.toArray 0) := Heap.get?_push_size _ rfl
  refine wpAny_bind (wpAny_holding (wpAny_call_entry slot_list_sort ⟨_, hoL, rfl⟩ entry_list_sort (list_sort_treeK strKind_oneLt hoL hS.keysOf (fun v₁ v₂ rest e => keyKind_strs (by rw [← e]; exact hS)) hal fun st' hp hs => ⟨_, rfl, ?_⟩) (args_list_sort _)))
  obtain ⟨ys, g1, g2, g3⟩ := sorted_out_str hS hp hs
  obtain ⟨ep, he'⟩ := sortedHeap_at (vs := acc.toList) (out := (arrOf st').map (·.2)) hoL
  have I1 : Inv X pins σ H s' := by
    rw [es]
    exact I.kept hk
  have hlen : (ys.map V.str).length ≤ sizeLine := by
    rw [List.length_map, g2.length_eq, sg_len]
    exact Nat.le_trans (Nat.le_of_lt h64) (by decide)
  have hne : ∀ b o, s'.heap.get? b = some o → (sortedHeap (s'.heap.push (seqObj "list" acc.toList.toArray 0)) s'.heap.objs.size acc.toList ((arrOf st').map (·.2))).get? b = some o := fun b o e => by
    rw [sortedHeap_old (Nat.ne_of_lt (Heap.lt_size e)) (by rw [size_push']; exact Nat.lt_succ_of_lt (Heap.lt_size e))]
    exact Heap.get?_push_of_some _ e
  refine wpAny_pure ⟨_, rfl, .ref _, upd H s'.heap.objs.size (.lst (ys.map V.str)), I1.laid (t' := s'.toks) hne (Nat.le_refl _) ?_, rfl, q ys _ g2 g3 (I1.hok.fresh (Nat.le_refl _))⟩
  exact ⟨hlen, ((arrOf st').map (·.2)).toList, ep, vals_of_strs g1, by rw [Array.toArray_toList]; exact he'⟩
/-- list(text) -/
def rListT : List V → Hp → VK → Prop := fun vs H Q => ∃ z : Str, vs = [.str z] ∧ z.length ≤ sizeLine ∧ ∀ p : Addr, H p = none → Q (.ref p) (upd H p (.lst ((sg z).map V.str)))
theorem cr_listT (hcm : X.calm = true) : CallR X (.type "list") rListT := by
  intro pins s σ H xs us Q I r h
  obtain ⟨z, rfl, hz, q⟩ := h
  obtain ⟨u, rfl, t, rfl⟩ := vals1 r
  refine call_list_str (I.ok.hd hcm) z t (fun h' tk acc c' hk hS' hit => ?_) hz
  refine ⟨.ref _, upd H s.heap.objs.size (.lst ((sg z).map V.str)), I.laid hk (Nat.le_refl _) ?_, rfl, q _ (I.hok.fresh (Nat.le_refl _))⟩
  exact ⟨by rw [List.length_map, sg_len]; exact hz, acc.toList, c', vals_of_strs (signs_are hit), by rw [Array.toArray_toList]; exact hS'⟩
/-- text * n -/
def repS (z : Str) (n : Nat) : Str := ⟨((List.replicate n z.cps.toList).flatten).toArray⟩
theorem foldl_app : ∀ (n : Nat) (a b : Array Nat), ((List.replicate n a).foldl (· ++ ·) b).toList = b.toList ++ (List.replicate n a.toList).flatten
  | 0, a, b => by simp
  | n + 1, a, b => by
    rw [List.replicate_succ, List.foldl_cons, foldl_app n, List.replicate_succ, List.flatten_cons, Array.toList_append, List.append_assoc]
theorem repS_len (z : Str) (k : Nat) : (repS z k).length = z.length * k := by
  show ((List.replicate k z.cps.toList).flatten).toArray.size = z.cps.size * k
  rw [List.size_toArray, List.length_flatten, List.map_replicate, List.sum_replicate_nat, Array.length_toList, Nat.mul_comm]
def rRepS : R2 := fun x y H Q => ∃ (z : Str) (k : Nat), x = .str z ∧ y = .int (k : Int) ∧ z.length * k ≤ 1000000 ∧ k ≤ 1000000 ∧ Q (.str (repS z k)) H
theorem op_repS : OpR X (binaryOp .Mult) rRepS := by
  intro pins s σ H x y v u Q I rx ry h
  obtain ⟨z, k, rfl, rfl, hz, hk, q⟩ := h
  obtain ⟨t, rfl⟩ := rx
  obtain ⟨t', rfl⟩ := ry
  refine PySem.P.mul_str ?_ ?_ ?_ ?_
  · rw [decide_eq_false (by omega), decide_eq_false (by omega)]
    rfl
  · intro h1 _
    have h0 : (0 : Int) < (k : Int) := by omega
    have h2 : ((z.length * k : Nat) : Int) ≤ 2 ^ 63 - 1 := by omega
    rw [Int.natCast_mul] at h2
    have h3 := (Int.le_ediv_iff_mul_le h0).mpr h2
    omega
  · intro _ _
    unfold Builtin.Str.tooLong
    rw [Int.toNat_natCast, sizeLine_eq]
    exact decide_eq_false (by omega)
  · by_cases h1 : (k : Int) < 1
    · rw [if_pos h1]
      have e : repS z k = Str.empty := by
        have : k = 0 := by omega
        subst this
        rfl
      rw [e] at q
      exact ⟨by decide, .str _, H, I.tok _, ⟨_, rfl⟩, q⟩
    · rw [if_neg h1]
      by_cases h2 : ((k : Int) == 1 || z.length == 0) = true
      · rw [if_pos h2]
        have e : repS z k = z := by
          rw [Bool.or_eq_true] at h2
          rcases h2 with h2 | h2
          · have h3 : (k : Int) = 1 := by simpa using h2
            have h4 : k = 1 := by omega
            subst h4
            unfold repS
            simp
          · have h3 : z.length = 0 := by simpa using h2
            have h4 : z.cps = #[] := Array.eq_empty_of_size_eq_zero h3
            unfold repS
            cases z with | mk zc =>
            simp only at h4
            subst h4
            simp
        rw [e] at q
        exact ⟨.str z, H, I, ⟨t, rfl⟩, q⟩
      · rw [if_neg h2]
        have e : (⟨(List.replicate (k : Int).toNat z.cps).foldl (· ++ ·) #[]⟩ : Str) = repS z k := by
          unfold repS
          rw [Int.toNat_natCast, ← Array.toArray_toList (xs := (List.replicate k z.cps).foldl (· ++ ·) #[]), foldl_app]
          rfl
        rw [e]
        have hl : (repS z k).length ≤ sizeLine := by
          rw [repS_len, sizeLine_eq]
          omega
        exact ⟨hl, .str _, H, I.tok _, ⟨_, rfl⟩, q⟩
/-- text[::-1] -/
def revS (z : Str) : Str := ⟨z.cps.toList.reverse.toArray⟩
theorem revS_len (z : Str) : (revS z).length = z.length := by
  show z.cps.toList.reverse.toArray.size = z.cps.size
  rw [List.size_toArray, List.length_reverse, Array.length_toList]
theorem rev_pick (z : Str) : (⟨((PySem.Builtin.Str.strSliceIndices none none (-1) z.length).filterMap (z.cps[·]?)).toArray⟩ : Str) = revS z := by
  unfold revS
  have e : PySem.Builtin.Str.strSliceIndices none none (-1) z.length = (List.range z.length).reverse := by
    rw [← PySem.W.krv_range, ← PySem.W.krv_sliceRange]
    rfl
  have e2 := PySem.W.krv_all z.cps
  rw [e, List.filterMap_reverse]
  show (⟨((List.range z.cps.size).filterMap (z.cps[·]?)).reverse.toArray⟩ : Str) = _
  rw [e2]
def tRevS (te : TE) : TE := fun σ H Q => te σ H fun x H1 => ∃ z : Str, x = .str z ∧ z.length ≤ sizeLine ∧ Q (.str (revS z)) H1
theorem pe_revS {e : Expr} {te : TE} {k : Nat} {p1 p2 p3 pos : Pos} (he : PE X e te) : PE X (.Subscript e (.Slice none none (some (.UnaryOp .USub (.Constant (.int 1) k p1) p2)) p3) pos) (tRevS te) := by
  refine ⟨fun pins s σ H Q I h => Subscript_ (thn (he.run pins s σ H _ I h) fun v s1 ⟨x, H1, I1, r1, z, ex, hz, q⟩ => ?_)⟩
  subst ex
  obtain ⟨t, rfl⟩ := r1
  have hst : PO X (some (.UnaryOp .USub (.Constant (.int 1) k p1) p2)) (tPart (tUn (rU fun i => .int (-i)) (tC (.int 1)))) := po_some (pe_un un_neg pe_int)
  refine wpAny_Slice (thn (po_none.run pins s1 σ H1 (fun o K2 => o = none ∧ K2 = H1) I1 ⟨rfl, rfl⟩) fun vl s2 ⟨l, H2, I2, pl, el, e2⟩ => ?_)
  subst el e2
  refine thn (po_none.run pins s2 σ H2 (fun o K3 => o = none ∧ K3 = H2) I2 ⟨rfl, rfl⟩) fun vu s3 ⟨u, H3, I3, pu, eu, e3⟩ => ?_
  subst eu e3
  refine thn (hst.run pins s3 σ H3 (fun o K4 => o = some (-1) ∧ K4 = H3) I3 ⟨1, rfl, -1, rfl, rfl, rfl⟩) fun vs s4 ⟨o, H4, I4, ps, eo, e4⟩ => ?_
  subst eo e4
  obtain ⟨l, rfl, hl⟩ := IsPart.raw pl
  obtain ⟨u, rfl, hu⟩ := IsPart.raw pu
  obtain ⟨st, rfl, hst'⟩ := IsPart.raw ps
  have I5 : Inv X pins σ H4 { s4 with heap := s4.heap.push { cls := .type "slice", data := .fields #[partValue l, partValue u, partValue st] } } := I4.kept (t' := s4.toks) fun b ob qq => Heap.get?_push_of_some _ qq
  show wpAny (model X.prog X.w) X.A (subscriptTail e (.Slice none none (some (.UnaryOp .USub (.Constant (.int 1) k p1) p2)) p3) (.str z t) (.ref s4.heap.objs.size)) (EP X pins σ Q) X.xe { s4 with heap := s4.heap.push { cls := .type "slice", data := .fields #[partValue l, partValue u, partValue st] } }
  refine tail_any (ops := [.ref s4.heap.objs.size, .str z t]) (T := "str") (typeIs_str _ _ _) F.slot_str_getitem.lookup ?_ (by with_unfolding_all rfl)
  refine wpAny_getItem_str_slice (l := l) (u := u) (st := st) (Heap.IsSliceOf.new ..) (by rw [hst']; decide) ?_
  have em : sliceMade z t l u st = .str (revS z) := by
    unfold sliceMade slicePicked
    rw [hst', hl, hu]
    rw [if_neg (by simp)]
    rw [← rev_pick z]
    rfl
  rw [em]
  exact ⟨by rw [revS_len]; exact hz, .str _, H4, I5.tok _, ⟨_, rfl⟩, q⟩
end
end HopR

set_option Elab.async false
set_option linter.all false
set_option maxRecDepth 100000
namespace HopR
open PySem PySem.Spec PyProof.Rows L2
/-! rows as lists of truths -/
def cd (b : Bool) : Nat := if b then 111 else 46
def tx (bs : List Bool) : Str := ⟨(bs.map cd).toArray⟩
theorem cd_inj {a b : Bool} (h : cd a = cd b) : a = b := by
  cases a <;> cases b <;> first | rfl | (exact absurd h (by decide))
theorem map_cd_inj : ∀ {as bs : List Bool}, as.map cd = bs.map cd → as = bs
  | [], [], _ => rfl
  | [], _ :: _, h => by simp at h
  | _ :: _, [], h => by simp at h
  | a :: r, b :: q, h => by
    rw [List.map_cons, List.map_cons] at h
    injection h with h1 h2
    rw [cd_inj h1, map_cd_inj h2]
theorem tx_inj {as bs : List Bool} (h : tx as = tx bs) : as = bs := by
  unfold tx at h
  injection h with h
  exact map_cd_inj (by simpa using congrArg Array.toList h)
theorem tx_len (bs : List Bool) : (tx bs).length = bs.length := by
  show (bs.map cd).toArray.size = bs.length
  rw [List.size_toArray, List.length_map]
theorem tx_list (bs : List Bool) : (tx bs).cps.toList = bs.map cd := rfl
theorem tx_get {bs : List Bool} {i : Nat} {b : Bool} (h : bs[i]? = some b) : (tx bs).cps[i]? = some (cd b) := by
  show (bs.map cd).toArray[i]? = some (cd b)
  rw [List.getElem?_toArray, List.getElem?_map, h]
  rfl
theorem ext_str {a b : Str} (h : a.cps.toList = b.cps.toList) : a = b := by
  cases a with | mk x =>
  cases b with | mk y =>
  have e : x = y := Array.toList_inj.mp h
  rw [e]
theorem tx_app (as bs : List Bool) : tx as ++ tx bs = tx (as ++ bs) := by
  apply ext_str
  show ((as.map cd).toArray ++ (bs.map cd).toArray).toList = (as ++ bs).map cd
  rw [Array.toList_append, List.map_append]
theorem tx_rev (bs : List Bool) : revS (tx bs) = tx bs.reverse := by
  unfold revS tx
  simp
theorem tx_sg (bs : List Bool) : sg (tx bs) = bs.map fun b => tx [b] := by
  unfold sg
  rw [tx_list, List.map_map]
  rfl
theorem tx_o : ("o" : Str) = tx [true] := by decide +kernel
theorem tx_f : ("." : Str) = tx [false] := by decide +kernel
/-- a row walked sign by sign: a turn's sign is the text of that place's truth -/
theorem walk_tx {bs : List Bool} : Walk (Its (tx bs)) bs.length (fun _ => True) (fun i H v H' => H' = H ∧ ∃ b, bs[i]? = some b ∧ v = .str (tx [b])) := by
  have w := walk_str (z := tx bs)
  rw [show (tx bs).cps.size = bs.length from tx_len bs] at w
  refine w.mono (fun _ g => g) fun i H x H' hi _ y => ?_
  obtain ⟨e1, c, e2, e3⟩ := y
  have hb : bs[i]? = some bs[i] := List.getElem?_eq_getElem hi
  rw [tx_get hb] at e2
  cases e2
  exact ⟨e1, _, hb, e3⟩
def for_tx {bs : List Bool} {g : TG} {tb : TS} {D : Ends} {σ : L2.St} {H : Hp} (Pv : Nat → L2.St → Hp → Prop) (h0 : Pv 0 σ H)
    (hs : ∀ i b σ H, bs[i]? = some b → Pv i σ H → g (.str (tx [b])) σ H fun σ2 H2 => tb { D with nx := Pv (i + 1), ct := Pv (i + 1), bk := D.nx } σ2 H2) (hd : ∀ σ H, Pv bs.length σ H → D.nx σ H) :=
  for_it (walk_tx (bs := bs)) (g := g) (tb := tb) (D := D) (σ := σ) (H := H) Pv h0 (fun _ _ _ _ _ => trivial)
    (fun i x σ H H' _ p y => by
      obtain ⟨e1, b, hb, e2⟩ := y
      subst e1 e2
      exact hs i b σ _ hb p) hd
def lc_tx {bs : List Bool} {g : TG} {tt : TT} {te : TE} {vs : List Nat} {σ : L2.St} {H1 : Hp} {D : Addr} {Qd : Hp → Prop} (Pv : Nat → Hp → Prop) (h0 : Pv 0 (upd H1 D (.lst [])))
    (hs : ∀ i b H, bs[i]? = some b → Pv i H → g (.str (tx [b])) (wipe σ vs) H fun σ2 H2 => wipe σ2 vs = wipe σ vs ∧ tt σ2 H2 fun kept H3 =>
      if kept = true then (te σ2 H3 fun y H4 => ∃ acc, H4 D = some (.lst acc) ∧ acc.length < sizeLine ∧ Pv (i + 1) (upd H4 D (.lst (acc ++ [y])))) else Pv (i + 1) H3)
    (hd : ∀ H, Pv bs.length H → Qd H) :=
  lc_it (walk_tx (bs := bs)) (g := g) (tt := tt) (te := te) (vs := vs) (σ := σ) (H1 := H1) (D := D) (Qd := Qd) Pv h0 (fun _ _ _ _ => trivial)
    (fun i x H H' _ p y => by
      obtain ⟨e1, b, hb, e2⟩ := y
      subst e1 e2
      exact hs i b _ hb p) hd
end HopR

set_option Elab.async false
set_option linter.all false
set_option maxRecDepth 100000
namespace HopR
open PySem PySem.Spec PyProof.Rows L2 TL
theorem joinL_nil : ∀ ps : List (List Nat), joinL [] ps = ps.flatten
  | [] => rfl
  | [p] => by
    show p = p ++ []
    rw [List.append_nil]
  | p :: q :: r => by
    show p ++ ([] ++ joinL [] (q :: r)) = p ++ (q :: r).flatten
    rw [List.nil_append, joinL_nil (q :: r)]
theorem join0_list (ys : List Str) : (Txt.join "" ys).cps.toList = (ys.map fun y => y.cps.toList).flatten := by
  have e : Txt.join "" ys = Str.join "" ys := PySem.StrLaws.glued_eq_join "" ys
  rw [e]
  have h := tl_join "" ys
  have h2 : tl ("" : Str) = [] := by decide +kernel
  rw [h2, joinL_nil] at h
  exact h
theorem join_tx (bs : List Bool) : Txt.join "" (bs.map fun b => tx [b]) = tx bs := by
  apply ext_str
  rw [join0_list, List.map_map, tx_list]
  induction bs with
  | nil => rfl
  | cons b r ih =>
    rw [List.map_cons, List.flatten_cons, ih]
    rfl
theorem sum_ones : ∀ bs : List Bool, ((bs.map fun b => tx [b]).map (·.length)).sum = bs.length
  | [] => rfl
  | b :: r => by
    rw [List.map_cons, List.map_cons, List.sum_cons, sum_ones r, tx_len]
    show 1 + r.length = r.length + 1
    omega
theorem join_fits {bs : List Bool} (h : bs.length ≤ 1000) : ((bs.map fun b => tx [b]).map (·.length)).sum + (bs.map fun b => tx [b]).length * ("" : Str).length ≤ 16777216 := by
  have e : ("" : Str).length = 0 := by decide +kernel
  rw [sum_ones, e, Nat.mul_zero]
  omega
theorem cut_tx (bs : List Bool) (lo hi : Option Int) : cutS (tx bs) lo hi = tx ((bs.drop (HT.sIx bs.length 0 lo)).take (HT.sIx bs.length bs.length hi - HT.sIx bs.length 0 lo)) := by
  apply ext_str
  unfold cutS
  rw [tx_len, tx_list, tx_list, List.map_take, List.map_drop]
theorem cut_to (bs : List Bool) (k : Nat) : cutS (tx bs) none (some (k : Int)) = tx (bs.take k) := by
  rw [cut_tx, HT.sIx_none, HT.sIx_nat, List.drop_zero, Nat.sub_zero]
  by_cases h : k ≤ bs.length
  · rw [Nat.min_eq_left h]
  · rw [Nat.min_eq_right (by omega), List.take_length, List.take_of_length_le (by omega)]
theorem cut_from (bs : List Bool) (k : Nat) : cutS (tx bs) (some (k : Int)) none = tx (bs.drop k) := by
  rw [cut_tx, HT.sIx_none, HT.sIx_nat]
  by_cases h : k ≤ bs.length
  · rw [Nat.min_eq_left h, List.take_of_length_le (by rw [List.length_drop]; exact Nat.le_refl _)]
  · rw [Nat.min_eq_right (by omega), List.drop_length, List.drop_of_length_le (by omega), List.take_nil]
theorem cut_at (bs : List Bool) (k m : Nat) : cutS (tx bs) (some (k : Int)) (some ((k : Int) + (m : Int))) = tx ((bs.drop k).take m) := by
  have e : ((k : Int) + (m : Int)) = ((k + m : Nat) : Int) := by omega
  rw [e, cut_tx, HT.sIx_nat, HT.sIx_nat]
  by_cases h : k ≤ bs.length
  · rw [Nat.min_eq_left h]
    by_cases h2 : k + m ≤ bs.length
    · rw [Nat.min_eq_left h2, Nat.add_sub_cancel_left]
    · rw [Nat.min_eq_right (by omega), List.take_of_length_le (by rw [List.length_drop]; exact Nat.le_refl _), List.take_of_length_le (by rw [List.length_drop]; omega)]
  · rw [Nat.min_eq_right (by omega), Nat.min_eq_right (by omega), List.drop_length, List.drop_of_length_le (by omega), List.take_nil, List.take_nil]
theorem cut_mid (bs : List Bool) (h : 2 ≤ bs.length) : cutS (tx bs) (some 1) (some (-1)) = tx ((bs.drop 1).take (bs.length - 2)) := by
  rw [cut_tx]
  have e1 : HT.sIx bs.length 0 (some 1) = 1 := by
    rw [show (some (1 : Int)) = some ((1 : Nat) : Int) from rfl, HT.sIx_nat]
    omega
  have e2 : HT.sIx bs.length bs.length (some (-1)) = bs.length - 1 := by
    show (if (-1 : Int) < 0 then ((-1 : Int) + (bs.length : Int)).toNat else min (-1 : Int).toNat bs.length) = bs.length - 1
    rw [if_pos (by decide)]
    omega
  rw [e1, e2]
  congr 2
/-! ### rows: walls, changes, the mirror -/
def ends (bs : List Bool) : List Bool := true :: (bs ++ [false])
theorem ends_len (bs : List Bool) : (ends bs).length = bs.length + 2 := by
  unfold ends
  rw [List.length_cons, List.length_append]
  rfl
def opn (bs : List Bool) (k : Nat) : Bool := decide (((ends bs).drop k).take 2 = [true, false])
def walls (bs : List Bool) : List Nat := (List.range (bs.length + 1)).filter (opn bs)
def bhd (bs : List Bool) (k : Nat) : List Bool := (ends bs).take k ++ [false] ++ [true] ++ (ends bs).drop (k + 2)
def chg (bs : List Bool) (k : Nat) : List Bool := ((bhd bs k).drop 1).take ((bhd bs k).length - 2)
def mir (bs : List Bool) : List Bool := bs.reverse.map (!·)
def num (bs : List Bool) : Int := bs.foldl (fun n b => n * 2 + (if b then 1 else 0)) 0
theorem mem_walls {bs : List Bool} {k : Nat} : k ∈ walls bs ↔ k ≤ bs.length ∧ opn bs k = true := by
  unfold walls
  rw [List.mem_filter, List.mem_range, Nat.lt_succ_iff]
theorem mir_len (bs : List Bool) : (mir bs).length = bs.length := by
  unfold mir
  rw [List.length_map, List.length_reverse]
theorem walls_len (bs : List Bool) : (walls bs).length ≤ bs.length + 1 := by
  unfold walls
  exact Nat.le_trans (List.length_filter_le _ _) (by rw [List.length_range]; exact Nat.le_refl _)
theorem bhd_len {bs : List Bool} {k : Nat} (h : k ≤ bs.length) : (bhd bs k).length = bs.length + 2 := by
  unfold bhd
  rw [List.length_append, List.length_append, List.length_append, List.length_take, List.length_drop, ends_len]
  show min k (bs.length + 2) + 1 + 1 + (bs.length + 2 - (k + 2)) = bs.length + 2
  omega
theorem chg_len {bs : List Bool} {k : Nat} (h : k ≤ bs.length) : (chg bs k).length = bs.length := by
  unfold chg
  rw [List.length_take, List.length_drop, bhd_len h]
  omega
end HopR

set_option Elab.async false
set_option linter.all false
set_option maxRecDepth 100000
namespace HopR
open PySem PySem.Spec PyProof.Rows L2
/-! ### defs that are called where no repr is under way -/
/-- the promise sp of the def at f, kept wherever it is called while no repr is under way -/
structure FnOkG (P : Program) (w : World) (K : PySem.W.Frag) (mg : Str → Option Value) (base : Heap) (CX : CXT) (k : Nat) (f : Addr) (fd : FuncData) (ps : List Str) (sp : Sp) : Prop where
  arity : ∀ {vs H Q E}, sp vs H Q E → vs.length = ps.length
  calls : ∀ {A : Around} {outer : List Env} {s : Shared} {H : Hp} {args : Args} {us : List Value} {vs : List V} {Q : VK} {E : XK}, A.guards = some [] → Room k A → Env0 P w K mg base A outer s H →
    BindsTo s fd args (ps.zip us) → Vals vs us → sp vs H Q E → codeAny (model P w) A (.call (.ref f) args) (CR CX outer P w H s Q E) s
section
variable {P : Program} {w : World} {K : PySem.W.Frag} {mg : Str → Option Value} {base : Heap}
theorem FnOkG.of {CX : CXT} {k : Nat} {f : Addr} {fd : FuncData} {ps : List Str} {sp : Sp} (F : FnOk P w K mg base CX k f fd ps sp) : FnOkG P w K mg base CX k f fd ps sp where
  arity h := F.len _ _ _ _ h
  calls _ room e0 bind vals prom := F.run _ _ _ _ _ _ _ _ _ room e0 bind vals prom
/-- what the body's end says to the caller -/
theorem ends_say {CX : CXT} {N : List Str} {qual : Str} {scope : Scope} {f : Addr} {cdv : Value} {A : Around} {outer : List Env} {s : Shared} {H : Hp} {Q : VK} {E : XK} {fl : Flow} {s' : Shared}
    (h : SP (cxOf CX P w K mg base N qual scope f cdv A outer s H E) [] { nx := fun _ H' => Q .non H', rt := Q } fl s') :
    match fl with | .ret u => CE outer P w H s Q u s' | .next => CE outer P w H s Q Value.none s' | _ => False := by
  match fl, h with
  | .ret u, ⟨v, σ', H', J, rv, g⟩ => exact ⟨v, H', J.os, J.bare, J.base, J.hok, rv, g⟩
  | .next, ⟨σ', H', J, g⟩ => exact ⟨V.non, H', J.os, J.bare, J.base, J.hok, rfl, g⟩
  | .brk, ⟨_, _, _, g⟩ => exact g
  | .cont, ⟨_, _, _, g⟩ => exact g
theorem okG {x qual : Str} {st : Stmt} {f : Addr} {fd : FuncData} {N ps : List Str} {k : Nat} {sp : Sp} (F : Fun K x qual st f fd) (S : FnScope N ps (defScope st)) (len : ∀ vs H Q E, sp vs H Q E → vs.length = ps.length)
    (body : ∀ (cdv : Value) (A : Around) (outer : List Env) (s : Shared) (H : Hp) (vs : List V) (Q : VK) (E : XK), A.guards = some [] → Room k (A.deeper (envOfC qual (defScope st) s.heap.objs.size f cdv)) → sp vs H Q E →
      ∃ t, PSs (cxOf CX0 P w K mg base N qual (defScope st) f cdv A outer s H E).nox (defBody st) t ∧ t { nx := fun _ H' => Q .non H', rt := Q } (start N vs) H) : FnOkG P w K mg base CX0 (k + 1) f fd ps sp where
  arity h := len _ _ _ _ h
  calls {A outer s H args us vs Q E} free room e0 bind vals prom := by
    obtain ⟨_, _, _, _, _, _, cdv, _, _, rfl, lk, code⟩ := F.ex
    have old : ∀ b o, base.get? b = some o → s.heap.get? b = some o := fun b o e => (e0.bs b o e).1
    have here := e0.mod.kin.keeps old
    obtain ⟨t, pr, rd⟩ := body cdv A outer s H vs Q E free (room.deeper _) prom
    have kinds : ∀ y ∈ ps.zip us, (defScope st).names.lookup y.1 = some .local ∨ ((defScope st).names.lookup y.1 = some .cell ∧ ((cellsFrom (s.heap.objs.size + 1) (defScope st).names []).lookup y.1).isSome = true) := by
      intro y hy
      have hp : y.1 ∈ ps := by
        obtain ⟨y1, y2⟩ := y
        exact (List.of_mem_zip hy).1
      exact (S.par _ hp).imp id fun g => ⟨g, PySem.W.cellsFrom_some _ _ _ (.inl g)⟩
    refine codeAny_call_function room.depth (here _ _ lk) rfl S.co S.gen rfl (PySem.W.codeRec_of here code) (bind _ _ _ _ ?_)
    refine wpAny_newFunctionEnv_cells S.kind kinds fun _ e s1 x => ?_
    cases e
    refine ⟨(e0.mod.nolimit.keeps old).keeps x.toInCall.keep, codeAny_func ?_⟩
    have run := pr.nox.run [] s1 _ H _ (inv_start S room.hd e0 (len _ _ _ _ prom) vals x) rd
    refine wpAny_mono run (fun fl s' h => ?_) fun _ _ z => z
    have said := ends_say h
    cases fl with
    | ret _ => exact said
    | next => exact said
    | brk => exact said.elim
    | cont => exact said.elim
end
section
variable {X : Cx} {CX : CXT} {k : Nat} {f : Addr} {fd : FuncData} {ps : List Str} {sp : Sp} {ds : List Value} {dvs : List V} {E : XK}
theorem after_call {pins : List (Addr × Obj)} {σ : L2.St} {H : Hp} {s : Shared} {Q : VK} (hx : Passes CX X E) (I : Inv X pins σ H s) {r : Except Value Flow} {s' : Shared} (h : CR CX X.stack X.prog X.w H s Q E r s') :
    match r with | .ok (.ret u) => EP X pins σ Q u s' | .ok _ => False | .error e => X.xe e s' := by
  match r, h with
  | .error e, h => exact hx pins σ H s e s' I h
  | .ok (.ret u), h => exact I.after h
  | .ok .next, h => exact h
  | .ok .brk, h => exact h
  | .ok .cont, h => exact h
variable {x : Str} {p pos : Pos} {e : Expr} {es : List Expr} {t : TA}
/-- f(e, ..) at a place where no repr is under way -/
theorem pe_callG (F : FnOkG X.prog X.w X.K X.mg X.base CX k f fd ps sp) (hG : X.A.guards = some []) (hr : Room k X.A) (hg : Gl X x) (hm : X.mg x = some (.ref f)) (hk : PySem.W.keepIn X.K (.ref f) = true) (hb : Binds X.K fd ps ds) (hd : Vals dvs ds) (hx : Passes CX X E)
    (ha : PA X (e :: es) t) (hdb : (x == ("__debug__" : Str)) = false := by decide)
    (he : starEach (e :: es) X.env = (false, eval e X.env) :: starEach es X.env := by rfl) (hpl : (backTo pos (starEach es X.env)).any (·.1) = false := by rfl) :
    PE X (.Call (.Name x p) (e :: es) [] pos) (tCall sp dvs E t) := by
  constructor
  intro pins s σ H Q I h
  refine wpAny_Call_Name_kw (ld_glob I hg hm (PySem.W.callWith_K (h₀ := X.base) I.ok.mod.kin hk (thn (ha.run pos pins s σ H _ I h) ?_) he hpl) hdb)
  rintro us s1 ⟨vs, H1, I1, vals, prom⟩
  have all := vals.append hd
  have size : (us ++ ds).length = ps.length := all.length.symm.trans (F.arity prom)
  refine ⟨I1.kIn, wpAny_call (codeAny_mono (F.calls hG hr I1.env0 (hb s1 us I1.kIn size) all prom) fun r s' h => ?_)⟩
  have := after_call hx I1 h
  cases r with
  | error e => exact this
  | ok fl => cases fl <;> exact this
/-! ### repr of data -/
def rReprD (K : PySem.W.Frag) : List V → Hp → VK → Prop := fun vs H Q => ∃ (v : V) (d : PyData), vs = [v] ∧ Dp K H v d ∧ d.showable = true ∧ d.hasDict = false ∧ d.depth ≤ 64 ∧ d.shown.length ≤ sizeLine ∧ Q (.str d.shown) H
theorem cr_reprD (hG : X.A.guards = some []) (hu : X.A.units + 66 < cLine) : CallR X (.builtin "repr") (rReprD X.K) := by
  rintro pins s σ H _ us Q I r ⟨v, d, rfl, hd, hs, hn, hdep, hz, q⟩
  obtain ⟨u, rfl, rv⟩ := vals1 r
  obtain ⟨as, rd⟩ := Dp.reads I d v u hd rv
  cases hd with
  | non =>
    cases rv
    exact P.repr_of_none ⟨.str _, H, I.tok _, ⟨_, rfl⟩, q⟩
  | bl b =>
    cases rv
    exact P.repr_of_bool ⟨.str _, H, I.tok _, ⟨_, rfl⟩, q⟩
  | int i =>
    obtain ⟨t, rfl⟩ := rv
    have hb : i.natAbs.log2 < 1920 := of_decide_eq_true (by simpa only [PyData.showable] using hs)
    exact P.repr_of_int hb ⟨.str _, H, I.tok _, ⟨_, rfl⟩, by simpa only [PyData.shown] using q⟩
  | str x =>
    obtain ⟨t, rfl⟩ := rv
    exact P.repr_of_str ⟨.str _, H, I.tok _, ⟨_, rfl⟩, by simpa only [PyData.shown] using q⟩ (by simpa only [PyData.shown] using hz)
  | lst h1 h2 =>
    cases rv
    exact repr_of_reads' rd hs (fun e => absurd (hn.symm.trans e) (by decide)) hG (by omega) (fun _ _ e => e) (fun h' t tk hk => ⟨.str _, H, I.kept hk, ⟨_, rfl⟩, q⟩) hz
  | tup h1 h2 =>
    cases rv
    exact repr_of_reads' rd hs (fun e => absurd (hn.symm.trans e) (by decide)) hG (by omega) (fun _ _ e => e) (fun h' t tk hk => ⟨.str _, H, I.kept hk, ⟨_, rfl⟩, q⟩) hz
end
/-! ### the end -/
section
variable (K : PySem.W.Frag) (a : Addr) (vs : List Value) (ns : List Int)
/-- the script as the heap has it -/
abbrev scrO : Obj := { cls := .type "list", data := .seq vs.toArray }
/-- tracked is the script alone, locked, and not even that where the top wrote it -/
def scrH : Hp := fun b => if b = a ∧ K.lookup a = none then some (.frz (scrO vs) (.lst (ns.map V.int))) else none
theorem scrH_or (b : Addr) : scrH K a vs ns b = none ∨ (b = a ∧ K.lookup a = none ∧ scrH K a vs ns b = some (.frz (scrO vs) (.lst (ns.map V.int)))) := by
  unfold scrH
  by_cases h : b = a ∧ K.lookup a = none
  · exact .inr ⟨h.1, h.2, if_pos h⟩
  · exact .inl (if_neg h)
theorem scrH_only : Only (scrH K a vs ns) := fun b => (scrH_or K a vs ns b).imp id fun ⟨_, _, e⟩ => ⟨_, _, e⟩
end
section
variable {P : Program} {w : World} {K : PySem.W.Frag} {a : Addr} {vs : List Value} {ns : List Int} {h : Heap}
theorem scrH_sq (kin : K.In h) (at_ : h.get? a = some (scrO vs)) (hi : IntsAre vs ns) (few : ns.length ≤ sizeLine) : SqL K (scrH K a vs ns) a (ns.map V.int) := by
  cases hk : K.lookup a with
  | none => exact .inl (.inr ⟨scrO vs, if_pos ⟨rfl, hk⟩⟩)
  | some o =>
    obtain rfl : o = scrO vs := Option.some.inj ((kin a o hk).symm.trans at_)
    exact .inr ⟨_, vs.toArray, _, hk, rfl, rfl, rfl, by rw [List.size_toArray, hi.length]; exact few, by simpa using vals_ints hi⟩
theorem scrH_ok (at_ : h.get? a = some (scrO vs)) (hi : IntsAre vs ns) (few : ns.length ≤ sizeLine) : HOk P w (scrH K a vs ns) h := by
  intro b u e
  rcases scrH_or K a vs ns b with n | ⟨rfl, _, y⟩
  · exact absurd (n.symm.trans e) (by simp)
  · cases y.symm.trans e
    refine ⟨at_, ?_, vs, _, vals_ints hi, at_⟩
    rw [List.length_map]
    exact few
/-- what isn't the script, and what the top wrote, stands also where the tracked is hidden -/
theorem scrH_base (at_ : h.get? a = some (scrO vs)) {b : Addr} {o : Obj} (e : h.get? b = some o) (q : o ≠ scrO vs ∨ K.lookup b ≠ none) : (hidT h (scrH K a vs ns)).get? b = some o := by
  refine hidT_get e ((scrH_or K a vs ns b).resolve_right ?_)
  rintro ⟨rfl, n, _⟩
  exact q.elim (fun z => z (Option.some.inj (e.symm.trans at_))) fun z => z n
theorem scrH_ns (at_ : h.get? a = some (scrO vs)) {b : Addr} {m : Str → Option Value} : h.Ns b m → (hidT h (scrH K a vs ns)).Ns b m := by
  rintro ⟨o, es, ep, e, dd, r⟩
  refine ⟨o, es, ep, scrH_base at_ e (.inl ?_), dd, r⟩
  rintro rfl
  exact absurd dd (by simp)
end
/-- a law whose promise holds where no repr is under way: nothing is, where it is called -/
theorem walk_ofG {l : PySem.W.OpenLaw} {n k : Nat} {q : Program} {loose : List Str} {XP : (Str → Option Value) → Heap → Prop} {YP : World → Heap → Prop} {d : DefRec} {K : Params → PySem.W.Frag} {sp : World → Sp} {x : Str}
    (most : l.most = some n) (few : n ≤ sizeLine) (plain : d.params.defaults = []) (room : Room k callerA) (top : ∀ (w : World) (h : Heap), YP w h → (K w.params).In h)
    (F : ∀ (w : World) (mg : Str → Option Value) (fa : Addr) (h : Heap), (K w.params).In h → h.Ns mainGlobals mg → mg d.name = some (.ref fa) →
      ∃ fd : FuncData, (∀ (s : Shared) (u : Value), BindsTo s fd ⟨[u], []⟩ [(x, u)]) ∧ ∀ base : Heap, (K w.params).In base → base.Ns mainGlobals mg → FnOkG l.prog w (K w.params) mg base CX0 k fa fd [x] (sp w))
    (prom : ∀ (w : World) (H : Hp) (a : Addr) (ns : List Int), ns.length ≤ n → (∀ z ∈ ns, Builtin.Int.intBits z ≤ 1048576) → Only H → SqL (K w.params) H a (ns.map V.int) → sp w [.ref a] H (fun v _ => v = .bl true) fun _ _ _ => False) :
    PySem.W.WalkO q loose XP YP l.row.toRowW d [] (fun f vs => PySem.call f vs) := by
  apply Att.attach_callB most plain
  intro w s₀ s₁ mg mb fa o pm cd doc a vs ns G Y _ _ _ hmg at_ isI size bits gens
  have kin := top w _ Y
  obtain ⟨fd, bind, hF⟩ := F w mg fa _ kin G.T.g hmg
  have few' := Nat.le_trans size few
  have ok : HOk l.prog w (scrH (K w.params) a vs ns) s₁.heap := scrH_ok at_ isI few'
  have kin' : (K w.params).In (hidT s₁.heap (scrH (K w.params) a vs ns)) := fun b o e => scrH_base at_ (kin b o e) (.inr (by rw [e]; simp))
  have g' := scrH_ns (K := K w.params) (ns := ns) at_ G.T.g
  obtain ⟨mc, lim1, lim2⟩ := G.T.nolimit
  have e0 : Env0 l.prog w (K w.params) mg (hidT s₁.heap (scrH (K w.params) a vs ns)) callerA [] s₁ (scrH (K w.params) a vs ns) :=
    ⟨rfl, ⟨kin', g', ⟨mb, scrH_ns at_ G.T.b, G.T.builtins⟩, ⟨mc, scrH_ns at_ lim1, lim2⟩⟩, fun _ _ => of_hidT, Nat.le_of_eq (hidT_size _ _), trivial, (by intro _ z; cases z), ok, AllBare.of_eq gens⟩
  refine codeAny_mono ((hF _ kin' g').calls (us := [.ref a]) (vs := [.ref a]) rfl room e0 (bind s₁ (.ref a)) (.cons rfl .nil) (prom w _ a ns size bits (scrH_only (K w.params) a vs ns) (scrH_sq kin at_ isI few'))) fun r s' h => ?_
  match r, h with
  | .error e, h => exact h.elim
  | .ok .next, h => exact h.elim
  | .ok .brk, h => exact h.elim
  | .ok .cont, h => exact h.elim
  | .ok (.ret u), ⟨v, H', os, bare, un, ok', rel, is⟩ =>
    have is : v = .bl true := is
    subst is
    cases (show u = Value.bool true from rel)
    refine ⟨rfl, OldK.of_keep ?_, os, bare⟩
    intro b o e
    rcases scrH_or (K w.params) a vs ns b with z | ⟨rfl, _, z⟩
    · exact un.keep b o e z (fun m => nomatch m) (by simp)
    · cases at_.symm.trans e
      exact (ok' _ _ (un.frzs _ _ _ z)).1
end HopR

set_option Elab.async false
set_option linter.all false
set_option maxRecDepth 100000
namespace HopR
open PySem PySem.Spec PyProof.Rows L2
theorem hu66 {A : Around} {k : Nat} (hr : Room k A) : A.units + 66 < cLine := by
  have := hr.un
  omega
/-! ### f(k = v, ..), no value by its place -/
section
variable {X : Cx} {CX : CXT} {k : Nat} {f : Addr} {fd : FuncData} {ps ks : List Str} {sp : Sp} {E : XK} {x : Str} {p pos : Pos} {kws : List Keyword} {tk : TA}
def tCallKw (m : Nat) (sp : Sp) (gV : List V → List V) (E : XK) (tk : TA) : TE := fun σ H Q => tk σ H fun zs H2 => zs.length = m ∧ sp (gV zs) H2 Q E
theorem pe_callKw {g : List Value → List Value} {gV : List V → List V} (F : FnOk X.prog X.w X.K X.mg X.base CX k f fd ps sp) (hr : Room k X.A) (hg : Gl X x) (hm : X.mg x = some (.ref f)) (hk : PySem.W.keepIn X.K (.ref f) = true)
    (hb : ∀ (s : Shared) (ws : List Value), X.K.In s.heap → ws.length = ks.length → BindsTo s fd ⟨[], ks.zip ws⟩ (ps.zip (g ws))) (hrel : ∀ {zs : List V} {ws : List Value}, Vals zs ws → Vals (gV zs) (g ws)) (hx : Passes CX X E) (hkw : PK X kws tk)
    (hall : (backToKw pos (keywordEach kws X.env)).all (·.1.isSome) = true := by rfl) (hks : (backToKw pos (keywordEach kws X.env)).filterMap (·.1) = ks := by rfl) (hdb : (x == ("__debug__" : Str)) = false := by decide)
    (hpl : ((backTo pos (starEach [] X.env)).any (·.1) || (backToKw pos (keywordEach kws X.env)).any (·.1.isNone)) = false := by rfl) :
    PE X (.Call (.Name x p) [] kws pos) (tCallKw ks.length sp gV E tk) := by
  refine ⟨fun pins s σ H Q I h => wpAny_Call_Name_kw (ld_glob I hg hm ?_ hdb)⟩
  refine PySem.W.callWith_KW0 (h₀ := X.base) I.ok.mod.kin hk hall (thn (hkw.run pos pins s σ H _ I h) fun ws s2 ⟨zs, H2, I2, rz, l2, q2⟩ => ⟨I2.kIn, ?_⟩) hpl
  rw [hks]
  refine wpAny_call (codeAny_mono (F.run X.A X.stack s2 H2 ⟨[], ks.zip ws⟩ (g ws) (gV zs) Q E hr I2.env0 (hb s2 ws I2.kIn (rz.length.symm.trans l2)) (hrel rz) q2) fun r s' hq => ?_)
  match r, hq with
  | .error e, hq => exact hx pins σ H2 s2 e s' I2 hq
  | .ok (.ret u), hq => exact I2.after hq
  | .ok .next, hq => exact hq.elim
  | .ok .brk, hq => exact hq.elim
  | .ok .cont, hq => exact hq.elim
end
/-! ### lists of small numbers as data -/
def wv (k : Nat) : V := .int (k : Int)
def dw (k : Nat) : PyData := PyData.int (k : Int)
theorem dp_walls {K : PySem.W.Frag} {H : Hp} : ∀ ks : List Nat, DpAll K H (ks.map wv) (ks.map dw)
  | [] => .nil
  | k :: r => .cons (.int _) (dp_walls r)
theorem lay_dw : ∀ ks : List Nat, PyData.canLayAll0 (ks.map dw) = true
  | [] => rfl
  | k :: r => by
    rw [List.map_cons]
    simp only [PyData.canLayAll0, lay_dw r, Bool.and_true]
    rfl
theorem deep_dw : ∀ ks : List Nat, PyData.depthAll (ks.map dw) = 0
  | [] => rfl
  | k :: r => by
    rw [List.map_cons]
    simp only [PyData.depthAll, deep_dw r]
    rfl
theorem shaped_ints (ks : List Nat) : SeqAt.shaped (.list (ks.map dw)) = true := by
  unfold SeqAt.shaped
  rw [Bool.and_eq_true]
  refine ⟨?_, decide_eq_true ?_⟩
  · simp only [PyData.canLay0, lay_dw]
  · simp only [PyData.depth, deep_dw]
    decide
theorem show_dw : ∀ ks : List Nat, (∀ k ∈ ks, k ≤ 30) → PyData.showableAll (ks.map dw) = true
  | [], _ => rfl
  | k :: r, h => by
    have hk := h k (List.mem_cons_self ..)
    have e : PyData.showable (dw k) = true := by
      show decide ((k : Int).natAbs.log2 < 1920) = true
      refine decide_eq_true (Nat.lt_of_le_of_lt (Nat.log2_le_self _) ?_)
      show k < 1920
      omega
    rw [List.map_cons]
    simp only [PyData.showableAll, e, show_dw r fun q hq => h q (List.mem_cons_of_mem _ hq), Bool.and_true]
theorem nodict_dw : ∀ ks : List Nat, PyData.hasDictAll (ks.map dw) = false
  | [] => rfl
  | k :: r => by
    rw [List.map_cons]
    simp only [PyData.hasDictAll, nodict_dw r, Bool.or_false]
    rfl
theorem text30 : ∀ k < 31, (PyData.shown (dw k)).length ≤ 2 := by decide +kernel
theorem shown_len : ∀ ks : List Nat, (∀ k ∈ ks, k ≤ 30) → ((PyData.shownAll (ks.map dw)).map (·.length)).sum ≤ 2 * ks.length ∧ (PyData.shownAll (ks.map dw)).length = ks.length
  | [], _ => ⟨Nat.le_refl _, rfl⟩
  | k :: r, h => by
    obtain ⟨h1, h2⟩ := shown_len r fun q hq => h q (List.mem_cons_of_mem _ hq)
    have hk := text30 k (by have := h k (List.mem_cons_self ..); omega)
    rw [List.map_cons]
    simp only [PyData.shownAll, List.map_cons, List.sum_cons, List.length_cons]
    omega
theorem ints_show {ks : List Nat} (h : ∀ k ∈ ks, k ≤ 30) (hl : ks.length ≤ 1000) : (PyData.list (ks.map dw)).showable = true ∧ (PyData.list (ks.map dw)).hasDict = false ∧ (PyData.list (ks.map dw)).depth ≤ 64 ∧ (PyData.list (ks.map dw)).shown.length ≤ sizeLine := by
  obtain ⟨h1, h2⟩ := shown_len ks h
  refine ⟨?_, ?_, ?_, ?_⟩
  · simp only [PyData.showable, show_dw ks h]
  · simp only [PyData.hasDict, nodict_dw]
  · simp only [PyData.depth, deep_dw]
    decide
  · simp only [PyData.shown]
    have h3 := listText_len_le (PyData.shownAll (ks.map dw))
    rw [sizeLine_eq]
    omega
/-! ### the law's own words of walls and changes -/
theorem opn_eq {bs : List Bool} {k : Nat} (h : k ≤ bs.length) : opn bs k = ((decide (k = 0) || bs.getD (k - 1) false) && (decide (k = bs.length) || !bs.getD k true)) := by
  have hl := ends_len bs
  have e1 : (ends bs)[k]?.getD false = (decide (k = 0) || bs.getD (k - 1) false) := by
    unfold ends
    cases k with
    | zero => rfl
    | succ j =>
      rw [List.getElem?_cons_succ, List.getElem?_append_left (by omega), List.getD_eq_getElem?_getD]
      simp
  have e2 : (ends bs)[k + 1]?.getD true = (decide (k ≠ bs.length) && bs.getD k true) := by
    unfold ends
    rw [List.getElem?_cons_succ]
    by_cases hk : k = bs.length
    · subst hk
      rw [List.getElem?_append_right (Nat.le_refl _)]
      simp
    · rw [List.getElem?_append_left (by omega), List.getD_eq_getElem?_getD, decide_eq_true hk]
      rfl
  have e3 : opn bs k = (((ends bs)[k]?.getD false) && !((ends bs)[k + 1]?.getD true)) := by
    have g1 : (ends bs)[k]? = some (ends bs)[k] := List.getElem?_eq_getElem (by omega)
    have g2 : (ends bs)[k + 1]? = some (ends bs)[k + 1] := List.getElem?_eq_getElem (by omega)
    have g3 : ((ends bs).drop k).take 2 = [(ends bs)[k], (ends bs)[k + 1]] := by
      rw [List.drop_eq_getElem_cons (by omega), List.drop_eq_getElem_cons (by omega)]
      rfl
    unfold opn
    rw [g3, g1, g2]
    show decide ([(ends bs)[k], (ends bs)[k + 1]] = [true, false]) = ((ends bs)[k] && !(ends bs)[k + 1])
    cases (ends bs)[k] <;> cases (ends bs)[k + 1] <;> rfl
  rw [e3, e1, e2]
  by_cases hk : k = bs.length
  · simp [hk]
  · simp [hk]
def lbeh (bs : List Bool) (k : Nat) : List Bool := if k < bs.length then (if 0 < k then bs.set (k - 1) false else bs).set k true else (if 0 < k then bs.set (k - 1) false else bs)
theorem lbeh_len (bs : List Bool) (k : Nat) : (lbeh bs k).length = bs.length := by
  unfold lbeh
  split <;> split <;> simp
theorem chg_get {bs : List Bool} {k i : Nat} (h : k ≤ bs.length) (hi : i < bs.length) : (chg bs k)[i]? = some (if i + 1 = k then false else if i = k then true else bs[i]) := by
  have hl := ends_len bs
  have hb := bhd_len h
  have he : (ends bs)[i + 1]? = some bs[i] := by
    unfold ends
    rw [List.getElem?_cons_succ, List.getElem?_append_left hi, List.getElem?_eq_getElem hi]
  unfold chg
  rw [List.getElem?_take_of_lt (by rw [hb]; omega), List.getElem?_drop, Nat.add_comm 1 i]
  unfold bhd
  rw [List.append_assoc, List.append_assoc]
  by_cases h1 : i + 1 < k
  · rw [List.getElem?_append_left (by rw [List.length_take]; omega), List.getElem?_take_of_lt h1, he, if_neg (by omega), if_neg (by omega)]
  · rw [List.getElem?_append_right (by rw [List.length_take]; omega), List.length_take, Nat.min_eq_left (by omega)]
    by_cases h2 : i + 1 = k
    · rw [if_pos h2, h2, Nat.sub_self]
      rfl
    · rw [if_neg h2]
      by_cases h3 : i = k
      · rw [if_pos h3, show i + 1 - k = 1 by omega]
        rfl
      · rw [if_neg h3]
        obtain ⟨m, hm⟩ : ∃ m, i + 1 - k = m + 2 := ⟨i + 1 - k - 2, by omega⟩
        rw [hm]
        show ((ends bs).drop (k + 2))[m]? = some bs[i]
        rw [List.getElem?_drop, show k + 2 + m = i + 1 by omega, he]
theorem lbeh_eq {bs : List Bool} {k : Nat} (h : k ≤ bs.length) : lbeh bs k = chg bs k := by
  apply List.ext_getElem?
  intro i
  by_cases hi : i < bs.length
  · rw [chg_get h hi]
    unfold lbeh
    have g : bs[i]? = some bs[i] := List.getElem?_eq_getElem hi
    have inner : (if 0 < k then bs.set (k - 1) false else bs)[i]? = some (if i + 1 = k then false else bs[i]) := by
      by_cases hk : 0 < k
      · rw [if_pos hk, List.getElem?_set]
        by_cases e : k - 1 = i
        · rw [if_pos e, if_pos (by omega), if_pos (by omega)]
        · rw [if_neg e, if_neg (by omega), g]
      · rw [if_neg hk, if_neg (by omega), g]
    have il : (if 0 < k then bs.set (k - 1) false else bs).length = bs.length := by
      split <;> simp
    by_cases hk : k < bs.length
    · rw [if_pos hk, List.getElem?_set]
      by_cases e : k = i
      · rw [if_pos e, if_pos (by rw [il]; exact hk), if_neg (by omega), if_pos e.symm]
      · rw [if_neg e, inner]
        by_cases e2 : i + 1 = k
        · rw [if_pos e2, if_pos e2]
        · rw [if_neg e2, if_neg e2, if_neg (fun z => e z.symm)]
    · rw [if_neg hk, inner]
      by_cases e2 : i + 1 = k
      · rw [if_pos e2, if_pos e2]
      · rw [if_neg e2, if_neg e2, if_neg (by omega)]
  · rw [List.getElem?_eq_none (by rw [lbeh_len]; omega), List.getElem?_eq_none (by rw [chg_len h]; omega)]
end HopR

set_option Elab.async false
set_option linter.all false
set_option maxRecDepth 100000
namespace HopR
open PySem PySem.Spec PyProof.Rows L2
/-! ### an exception that is kept behind its suite -/
/-- the exception at a, of the class cls, its dict d, kept as a value -/
def ExH (cls : Value) (d : Option Addr) (a : Addr) : HO := .ext fun h => ∃ (oe : Obj) (vs : Array Value), h.get? a = some oe ∧ Zc cls d oe ∧ oe.data = .fields vs
theorem exH_ok {P : Program} {w : World} {H : Hp} {h : Heap} {a : Addr} {cls : Value} {d : Option Addr} {oe : Obj} {vs : Array Value} (e : h.get? a = some oe) (z : Zc cls d oe) (q : oe.data = .fields vs) : ObjOk P w H h a (ExH cls d a) :=
  ⟨⟨oe, vs, e, z, q⟩, ⟨oe, e⟩, fun _ _ ⟨o, v, q, r⟩ k => ⟨o, v, k o q, r⟩⟩
section
variable {X : Cx} {pins : List (Addr × Obj)} {σ σ0 : L2.St} {H H0 : Hp} {s sI : Shared} {a : Addr} {oe : Obj} {vs : Array Value} {o : HO}
/-- an object that came behind the entry is tracked from now on -/
theorem track (I : Inv X pins σ H s) (J : Inv X pins σ0 H0 sI) (hI : sI.heap.get? a = none) (hx : X.ex = []) (na : H a = none) (nL : a ≠ X.env.locals) (ha : s.heap.get? a = some oe) (hd : oe.data = .fields vs) (new : ObjOk X.prog X.w (upd H a o) s.heap a o) : Inv X pins σ (upd H a o) s := by
  have n0 : ∀ b u, X.s_0.heap.get? b = some u → b ≠ a := by
    intro b u e z
    subst z
    obtain ⟨u2, q⟩ := J.base.there b u e (by rw [hx]; exact fun z => nomatch z)
    rw [hI] at q
    cases q
  have nN : ∀ {b : Addr} {u : HO}, H b = some u → b ≠ a := fun e => ne_of_none e na
  have bs := I.base
  refine ⟨I.ok, I.os, I.bare, ⟨bs.keep, bs.slot, ?_, bs.there, ?_, ?_, ?_⟩, I.loc, I.cell, ?_, ?_, ?_, ?_, I.len⟩
  · intro b u e n q
    rw [upd_ne (n0 b u e)]
    exact bs.free b u e n q
  · intro b xs e
    have q := bs.tups b xs e
    rw [upd_ne (nN q)]
    exact q
  · intro b ob u e
    have q := bs.frzs b ob u e
    rw [upd_ne (nN q)]
    exact q
  · intro b ps e
    obtain ⟨m, q⟩ := bs.tbls b ps e
    exact ⟨m, by rw [upd_ne (nN q)]; exact q⟩
  · rw [upd_ne nL.symm]
    exact I.free
  · intro x c e
    have nc : c ≠ a := by
      intro z
      subst z
      obtain ⟨v, oc, e1, e2⟩ := I.cell x c e
      rw [ha] at e1
      cases e1
      rw [hd] at e2
      cases e2
    rw [upd_ne nc]
    exact I.freeC x c e
  · intro p hp
    have np : p.1 ≠ a := by
      intro z
      have q := (J.pin p hp).1
      rw [z, hI] at q
      cases q
    obtain ⟨e, n, r⟩ := I.pin p hp
    exact ⟨e, by rw [upd_ne np]; exact n, r⟩
  · intro b u e
    by_cases hb : b = a
    · subst hb
      rw [upd_same] at e
      cases e
      exact new
    · rw [upd_ne hb] at e
      refine (I.hok b u e).stay (fun c v _ q => q) (fun c q => ?_) (fun c xs q => ?_)
      · rw [upd_ne (nN q)]
        exact q
      · rw [upd_ne (nN q)]
        exact q
end
theorem fly_keeps {B h h' : Heap} {l : List Env} {a : Addr} {Z : Obj → Prop} (x : HandSPX.FlyingZ B l a Z h) (k : ∀ b o, h.get? b = some o → h'.get? b = some o) : HandSPX.FlyingZ B l a Z h' := by
  obtain ⟨x1, x2, x3, oe, vs, T, oT, ts, e1, e2, e3, e4, e5, e6, e7, e8, e9⟩ := x
  exact ⟨fun b o e => k b o (x1 b o e), x2, x3.of_keeps (fun b o e _ => ⟨o, k b o e, rfl⟩), oe, vs, T, oT, ts, k _ _ e1, e2, e3, e4, e5, e6, k _ _ e7, e8, e9⟩
/-- the clause's test takes the exceptions whose class has m -/
def Tests (X : Cx) (t : Expr) (m : Value → Prop) : Prop :=
  ∀ (a : Addr) (oe : Obj) (pn pins : List (Addr × Obj)) (σ : L2.St) (H : Hp) (s : Shared) (cls : Value) (Q : Value → Shared → Prop) (E : Value → Shared → Prop), Inv (X.suite a ((a, oe) :: pn)) pins σ H s → s.heap.get? a = some oe → oe.cls = cls → m cls →
    (∀ (c : Value) (h' : Heap), (∀ b o, s.heap.get? b = some o → h'.get? b = some o) → PySem.W.Looks (model X.prog X.w) h' (excMatches (.ref a) c) true → Q c { s with heap := h' }) → wpAny (model X.prog X.w) (X.A.mark (some (.ref a))) (eval t X.env) Q E s
theorem ld_nm {X : Cx} {x : Str} {c : Value} {pins : List (Addr × Obj)} {σ : L2.St} {H : Hp} {s : Shared} {Q : Value → Shared → Prop} {E : Value → Shared → Prop} {p : Pos} (I : Inv X pins σ H s) (hc : Names X x c) (q : Q c s) : wpAny (model X.prog X.w) X.A (eval (.Name x p) X.env) Q E s := by
  obtain ⟨g, nd, h | ⟨h1, h2, h3⟩⟩ := hc
  · exact ld_glob I g h q nd
  · exact ld_blt I g h1 h2 q h3 nd
theorem ty_looks {P : Program} {w : World} {h : Heap} {a : Addr} {oe : Obj} {cls : Value} (e : h.get? a = some oe) (c : oe.cls = cls) : PySem.W.Looks (model P w) h (typeOf (.ref a)) cls := by
  intro A Q E s k q
  exact wpAny_typeOf_ref (k _ _ e) (by rw [c]; exact q)
theorem tests_one {X : Cx} {x : Str} {c : Value} {p : Pos} (hc : Names X x c) : Tests X (.Name x p) fun cls => PySem.W.exmOne X.K cls c = some true := by
  intro a oe pn pins σ H s cls Q E I ha hcl hm k
  exact ld_nm (X := X.suite a ((a, oe) :: pn)) I hc (k c s.heap (fun _ _ z => z) (PySem.W.exm_one I.kIn (ty_looks ha hcl) hm))
theorem tests_two {X : Cx} {x1 x2 : Str} {c1 c2 : Value} {p1 p2 pos : Pos} {u} (h1 : Names X x1 c1) (h2 : Names X x2 c2) : Tests X (.Tuple [.Name x1 p1, .Name x2 p2] u pos) fun cls => PySem.W.exmAny X.K cls [c1, c2] = some true := by
  intro a oe pn pins σ H s cls Q E I ha hcl hm k
  refine wpAny_Tuple_spliced ?_
  refine Calls.spliced_cons (ld_nm (X := X.suite a ((a, oe) :: pn)) I h1 ?_)
  refine Calls.spliced_cons (ld_nm (X := X.suite a ((a, oe) :: pn)) I h2 (Calls.spliced_nil ⟨by show 2 ≤ sizeLine; decide, ?_⟩))
  have hk : ∀ b o, s.heap.get? b = some o → (s.heap.push { cls := .type "tuple", data := .seq [c1, c2].toArray }).get? b = some o := fun b o e => Heap.get?_push_of_some _ e
  refine k (.ref s.heap.objs.size) _ hk ?_
  exact PySem.W.exm_tup2 (fun b o e => hk b o (I.kIn b o e)) (ty_looks (hk _ _ ha) hcl) (Heap.get?_push_size _ rfl) hm
/-- what 'except .. as n: v = n' wishes of an exception of the body: it is taken, and kept in slot j; slot i, n's, is empty behind it -/
def wHeld (m : Value → Prop) (i j : Nat) (D : Ends) : WX := fun cls d σ H => m cls ∧ ∀ a, H a = none → D.nx (((σ.set i (some (.ref a))).set j (some (.ref a))).set i none) (upd H a (ExH cls d a))
section
variable {X : Cx} {n v : Str} {i j : Nat} {t : Expr} {m : Value → Prop} {body : List Stmt} {pos pos' p1 p2 p3 : Pos} {tb : WX → TS}
theorem ps_try_held (hs : X.stack = X.env :: X.outer) (hf : X.env.frame = some X.env.locals) (hN : X.N.Nodup) (hi : X.N[i]? = some n) (hj : X.N[j]? = some v) (hln : X.env.kindOf n = some .local) (hlv : X.env.kindOf v = some .local) (hx : X.ex = []) (ht : Tests X t m)
    (hb : ∀ (W : WX) (pn : List (Addr × Obj)) (xe : Value → Shared → Prop), Takes (X.tr pn xe) W → PassesOwn (model X.prog X.w) X.A X.env xe → PSs (X.tr pn xe) body (tb W))
    (hsu : ∀ (a : Addr) (oe : Obj) (pn : List (Addr × Obj)), PSs (X.suite a ((a, oe) :: pn)) [.Assign [.Name v p1] (.Name n p2) p3] (tAsg (tVar i) (gName j))) :
    PS X (.Try body [.ExceptHandler (some t) (some n) [.Assign [.Name v p1] (.Name n p2) p3] pos'] [] [] pos) (fun D σ H => tb (wHeld m i j D) D σ H) := by
  constructor
  intro pins s σ H D I h
  have ok := I.ok
  have frm : X.A.frames = some (X.env :: X.outer) := ok.frames.trans (congrArg some hs)
  have body_ := hb (wHeld m i j D) (X.pn ++ pins) (fun e s₁ => wpAny (model X.prog X.w) X.A (noteFrame e X.env) (fun _ s₂ => wpAny (model X.prog X.w) X.A (setFlight e none) (fun _ s₃ => wpAny (model X.prog X.w) X.A (handleBy e X.env [.ExceptHandler (some t) (some n) [.Assign [.Name v p1] (.Name n p2) p3] pos']) (SP X pins D) X.xe s₃) X.xe s₂) X.xe s₁) ?caught PassesOwn.looking
  · refine wpAny_Try_except (wpAny_mono (body_.run [] s σ H D (I.toTry _) h) ?_ fun _ _ z => z)
    intro f s1 hsp
    match f, hsp with
    | .next, ⟨σ', H', J', q⟩ => exact wpAny_execs_nil ⟨σ', H', J'.ofTry ok, q⟩
    | .brk, ⟨σ', H', J', q⟩ => exact ⟨σ', H', J'.ofTry ok, q⟩
    | .cont, ⟨σ', H', J', q⟩ => exact ⟨σ', H', J'.ofTry ok, q⟩
    | .ret u, ⟨v, σ', H', J', r, q⟩ => exact ⟨v, σ', H', J'.ofTry ok, r, q⟩
  case caught =>
    rintro u s' ⟨a, B, sI, pins', σ', H', cls, d, rfl, J', nb, up, sky, na, os, ag, hm, hk⟩
    have J : Inv X pins σ' H' sI := J'.ofTry ok
    have sk2 : Sky B (X.env :: X.outer) a (Zc cls d) X.env.locals s'.heap := hs ▸ sky
    show wpAny (model X.prog X.w) X.A (noteFrame (.ref a) X.env) _ _ _
    refine Sky.land Zc.steady frm hf sk2 fun h3 fl3 up3 => ?_
    have notF : ∀ {g : Heap}, HandSPX.FlyingZ B (X.env :: X.outer) a (Zc cls d) g → a ∉ frs (X.env :: X.outer) := by
      intro g fl hmem
      obtain ⟨o1, v1, e1, _, e3⟩ := fl.there
      obtain ⟨_, o2, e2, hn2⟩ := fl.2.2.1.mem hmem
      rw [e1] at e2
      cases e2
      exact hn2 _ e3
    have nfr := notF fl3
    have nL : a ≠ X.env.locals := by
      intro z
      exact nfr (List.mem_filterMap.mpr ⟨X.env, List.mem_cons_self, hf.trans (congrArg some z.symm)⟩)
    have nF : a ∉ X.fs := by
      intro z
      obtain ⟨e, he, q⟩ := List.mem_filterMap.mp z
      exact nfr (List.mem_filterMap.mpr ⟨e, List.mem_cons_of_mem _ he, q⟩)
    have nI : sI.heap.get? a = none := by
      cases e : sI.heap.get? a with
      | none => rfl
      | some o =>
        have q := nb a o e (by rw [hs]; exact nfr)
        rw [fl3.2.1] at q
        cases q
    obtain ⟨oe3, vs3, he3, hz3, hd3⟩ := fl3.there
    have J3 : Inv X pins σ' H' { s' with heap := h3 } := J.landed nb fl3.1 (up.trans up3) os ag
    refine wpAny_handleBy_cons (codeAny_handlers_test ?_) (fun q => nomatch q)
    refine ht a oe3 _ _ _ _ _ cls _ _ (J3.suite he3 hd3 na nL nF) he3 hz3.1 hm fun c h' kp lk => lk.here ?_
    refine codeAny_handlers_suite_as (HandSPX.lands_againZ (fly_keeps fl3 kp) fun h4 fl4 up4 => ?_)
    have upA : sI.heap.UpToSlots h4 := ((up.trans up3).trans (Heap.UpToSlots.of_keeps kp)).trans up4
    have J4 : Inv X pins σ' H' { s' with heap := h4 } := J.landed nb fl4.1 upA os ag
    obtain ⟨oe4, vs4, he4, hz4, hd4⟩ := fl4.there
    refine store_ok (X := X.suite a ((a, oe4) :: (X.pn ++ pins))) (v := .ref a) (J4.suite he4 hd4 na nL nF) hN hi (.inl hln) rfl (fun s5 S5 => ?_) (.inr hln)
    have hlen : i < σ'.length := by
      rw [J.len]
      exact (List.getElem?_eq_some_iff.mp hi).1
    refine wpAny_mono ((hsu a oe4 (X.pn ++ pins)).run [] s5 _ H' { nx := fun σ6 H6 => σ6 = (σ'.set i (some (.ref a))).set j (some (.ref a)) ∧ H6 = H', rt := fun _ _ => False } S5 ?_) (fun f s6 hsp => ?_) (fun _ _ z => False.elim z)
    · exact ⟨.ref a, by simp [hlen], rfl, rfl⟩
    match f, hsp with
    | .next, ⟨σ6, H6, S6, e6, e7⟩ =>
      subst e6 e7
      refine gone_ok (X := X.suite a ((a, oe4) :: (X.pn ++ pins))) S6 hN hi hln fun s7 S7 => ?_
      have ha7 := (S7.pin (a, oe4) (List.mem_append_left _ List.mem_cons_self)).1
      exact ⟨_, _, track (S7.unsuite ok) J nI hx na nL ha7 hd4 (exH_ok ha7 hz4 hd4), hk a na⟩
    | .brk, ⟨_, _, _, z⟩ => exact z.elim
    | .cont, ⟨_, _, _, z⟩ => exact z.elim
    | .ret u, ⟨_, _, _, _, _, z⟩ => exact z.elim
end
end HopR

set_option Elab.async false
set_option linter.all false
set_option maxRecDepth 100000
namespace HopR
open PySem PySem.Spec PyProof.Rows L2
/-! ### isinstance of a kept exception without a dict -/
section
variable {X : Cx}
theorem held_at {pins : List (Addr × Obj)} {σ : L2.St} {H : Hp} {s : Shared} {a D : Addr} (I : Inv X pins σ H s) (ha : H a = some (ExH (.ref D) none a)) : ∃ oe, PySem.W.InstAt s.heap a oe D none := by
  obtain ⟨⟨oe, vs, e, ⟨z1, z2⟩, q⟩, _, _⟩ := I.hok a _ ha
  obtain ⟨oc, od, oda, osl⟩ := oe
  dsimp only at z1 z2 q
  subst z1 z2 q
  exact ⟨_, e, rfl, rfl, trivial⟩
/-- isinstance(kept, c) -/
def rIsH (K : PySem.W.Frag) : List V → Hp → VK → Prop := fun xs H Q => ∃ (a D : Addr) (c : V) (cv : Value) (b : Bool), xs = [.ref a, c] ∧ H a = some (ExH (.ref D) none a) ∧ ExcC K D ∧ ClsV c cv ∧ PySem.W.kitOne K (.ref D) cv = some b ∧ Q (.bl b) H
theorem call_isH : CallR X (.builtin "isinstance") (rIsH X.K) := by
  rintro pins s σ H xs us Q I r ⟨a, D, c, cv, b, rfl, ha, C, kc, e, q⟩
  obtain ⟨u1, u2, rfl, r1, r2⟩ := vals2 r
  obtain rfl := kc.eq r2
  cases (show u1 = Value.ref a from r1)
  obtain ⟨oe, J⟩ := held_at I ha
  exact PySem.W.kia_one (PySem.W.handS_kitx_exc C.hg C.hk C.hs C.hd C.ha C.hn C.ht C.hm) I.kIn J e (fun z => nomatch z) fun tk => ⟨.bl b, H, I.tok tk, rfl, q⟩
/-- isinstance(kept, (c1, c2, ..)) -/
def rIsHT (K : PySem.W.Frag) : List V → Hp → VK → Prop := fun xs H Q => ∃ (a D tp : Addr) (cs : List V) (ws : List Value) (b : Bool), xs = [.ref a, .ref tp] ∧ H a = some (ExH (.ref D) none a) ∧ ExcC K D ∧ H tp = some (.tup cs) ∧ Paired ClsV cs ws ∧ PySem.W.kitAny K (.ref D) ws = some b ∧ Q (.bl b) H
theorem call_isHT : CallR X (.builtin "isinstance") (rIsHT X.K) := by
  rintro pins s σ H xs us Q I r ⟨a, D, tp, cs, ws, b, rfl, ha, C, ht, kc, e, q⟩
  obtain ⟨u1, u2, rfl, r1, r2⟩ := vals2 r
  cases (show u1 = Value.ref a from r1)
  cases (show u2 = Value.ref tp from r2)
  obtain ⟨oe, J⟩ := held_at I ha
  have hT : ObjOk X.prog X.w H s.heap tp (.tup cs) := I.hok tp _ ht
  obtain ⟨_, its, rv, ⟨oc, od, dt, osl⟩, g1, g2, n, g3⟩ := hT
  obtain rfl := ClsV.all kc rv
  simp only at g2 g3
  subst g2 g3
  exact PySem.W.kia_tup (PySem.W.handS_kitx_exc C.hg C.hk C.hs C.hd C.ha C.hn C.ht C.hm) I.kIn J g1 e (fun z => nomatch z) fun tk => ⟨.bl b, H, I.tok tk, rfl, q⟩
end
/-! ### things that are whole numbers or not -/
/-- x is of a built-in type that is no whole number's -/
def Odd (K : PySem.W.Frag) (H : Hp) (x : V) : Prop := ∃ t bI, TyX K H x t ∧ PySem.W.kitOne K t (.type "int") = some bI ∧ (bI = true → PySem.W.kitOne K t (.type "bool") = some true)
theorem odd_non {K : PySem.W.Frag} {H : Hp} : Odd K H .non := ⟨_, false, .base .non, kit_ty (by decide +kernel), fun z => nomatch z⟩
theorem odd_bl {K : PySem.W.Frag} {H : Hp} {b : Bool} : Odd K H (.bl b) := ⟨_, true, .base (.bl b), kit_ty (by decide +kernel), fun _ => kit_ty (by decide +kernel)⟩
theorem odd_str {K : PySem.W.Frag} {H : Hp} {z : Str} : Odd K H (.str z) := ⟨_, false, .base (.str z), kit_ty (by decide +kernel), fun z => nomatch z⟩
theorem odd_lst {K : PySem.W.Frag} {H : Hp} {a : Addr} {xs : List V} (e : H a = some (.lst xs)) : Odd K H (.ref a) := ⟨_, false, .base (.lst e), kit_ty (by decide +kernel), fun z => nomatch z⟩
theorem odd_tup {K : PySem.W.Frag} {H : Hp} {a : Addr} {xs : List V} (e : H a = some (.tup xs)) : Odd K H (.ref a) := ⟨_, false, .base (.tup e), kit_ty (by decide +kernel), fun z => nomatch z⟩
theorem odd_dK {K : PySem.W.Frag} {H : Hp} {a : Addr} {xs : List (Key × V)} (e : H a = some (.dK xs)) : Odd K H (.ref a) := ⟨_, false, .base (.dK e), kit_ty (by decide +kernel), fun z => nomatch z⟩
end HopR

set_option Elab.async false
set_option linter.all false
set_option maxRecDepth 100000
namespace HopR
open PySem L2
theorem same_upd {H : Hp} {p : Addr} {o : HO} (h : H p = none) : Same H (upd H p o) := fun b x e => by
  rw [upd_ne (ne_of_none e h)]
  exact e
theorem same_new {H H1 : Hp} {p : Addr} {o : HO} (h : H p = none) (s : Same H H1) : Same H (upd H1 p o) := fun b x e => by
  rw [upd_ne (ne_of_none e h)]
  exact s _ _ e
/-- a def of the text, its binding, where its name leads -/
structure Fn (K : PySem.W.Frag) (mg : Str → Option Value) (x : Str) (st : Stmt) (ps : List Str) (f : Addr) (fd : FuncData) : Prop where
  F : Fun K x x st f fd
  b : Binds K fd ps []
  g : mg x = some (.ref f)
end HopR

set_option Elab.async false
set_option linter.all false
set_option maxRecDepth 100000
namespace HopR
open PySem L2
/-! ### classes of refusals -/
theorem kit_own {K : PySem.W.Frag} {D C : Addr} {b : Bool} (ne : D ≠ C) (hd : PySem.W.hasDictIn K C = true) (ht : PySem.W.typeIn K (.ref C) = some (.type "type")) (h : PySem.W.subIn K (.ref D) (.ref C) = some b) : PySem.W.kitOne K (.ref D) (.ref C) = some b := by
  obtain ⟨cd, hc, _⟩ := PySem.W.any_some hd
  have e1 : ((Value.ref D == Value.ref C) = true) = False := by
    rw [eq_iff_iff]
    exact ⟨fun z => ne (Value.ref.inj (beq_iff_eq.mp z)), False.elim⟩
  have e2 : ((PySem.W.clsIn K C).isSome && PySem.W.typeIn K (.ref C) == some (.type "type")) = true := by rw [hc, ht] <;> rfl
  unfold PySem.W.kitOne
  rw [if_neg (by rw [e1]; exact id)]
  show (if ((PySem.W.clsIn K C).isSome && PySem.W.typeIn K (.ref C) == some (.type "type")) = true then PySem.W.subIn K (.ref D) (.ref C) else none) = some b
  rw [if_pos e2]
  exact h
theorem kit_me {K : PySem.W.Frag} {D : Addr} : PySem.W.kitOne K (.ref D) (.ref D) = some true := by
  unfold PySem.W.kitOne
  rw [if_pos (by simp)]
theorem kit_blt {K : PySem.W.Frag} {D : Addr} {T : String} {b : Bool} (m : PySem.W.kitMeta T = true) (h : PySem.W.subIn K (.ref D) (.type T) = some b) : PySem.W.kitOne K (.ref D) (.type T) = some b := by
  have e1 : ¬ ((Value.ref D == Value.type T) = true) := fun z => nomatch (beq_iff_eq.mp z)
  unfold PySem.W.kitOne
  rw [if_neg e1]
  show (if PySem.W.kitMeta T = true then PySem.W.subIn K (.ref D) (.type T) else none) = some b
  rw [if_pos m]
  exact h
theorem kitAny_cons {K : PySem.W.Frag} {t c : Value} {r : List Value} (h : PySem.W.kitOne K t c = some false) (q : PySem.W.kitAny K t r = some false) : PySem.W.kitAny K t (c :: r) = some false := by
  simp only [PySem.W.kitAny, h, q]
theorem kitAny_nil {K : PySem.W.Frag} {t : Value} : PySem.W.kitAny K t [] = some false := by simp only [PySem.W.kitAny]
theorem exmAny2 {K : PySem.W.Frag} {t c1 c2 : Value} {b1 b2 : Bool} (h1 : PySem.W.exmOne K t c1 = some b1) (h2 : PySem.W.exmOne K t c2 = some b2) : PySem.W.exmAny K t [c1, c2] = some (b1 || b2) := by
  simp only [PySem.W.exmAny, h1, h2, Bool.or_false]
/-- an own exception class, as its instances are made and asked -/
structure Xc (K : PySem.W.Frag) (D : Addr) (bm : List Value) (nw : String) : Prop where
  x : PySem.W.excIn K D bm nw = true
  k : PySem.W.keepIn K (.ref D) = true
  be : PySem.W.subIn K (.ref D) (.type "BaseException") = some true
  ty : PySem.W.typeIn K (.ref D) = some (.type "type")
  c : ExcC K D
abbrev bmV : List Value := [.type "ValueError", .type "Exception", .type "BaseException", .type "object"]
abbrev bmZ : List Value := [.type "ZeroDivisionError", .type "ArithmeticError", .type "Exception", .type "BaseException", .type "object"]
/-! ### things by their kind -/
theorem tyx_same {K : PySem.W.Frag} {H H' : Hp} {x : V} {t : Value} (s : Same H H') (ty : TyX K H x t) : TyX K H' x t := by
  cases ty with
  | base h =>
    cases h with
    | non => exact .base .non
    | bl x => exact .base (.bl x)
    | int i => exact .base (.int i)
    | str x => exact .base (.str x)
    | flt x => exact .base (.flt x)
    | lst e => exact .base (.lst (s _ _ e))
    | frz e => exact .base (.frz (s _ _ e))
    | tup e => exact .base (.tup (s _ _ e))
    | dK e => exact .base (.dK (s _ _ e))
    | dT e => exact .base (.dT (s _ _ e))
    | ins e a b c d f => exact .base (.ins (s _ _ e) a b c d f)
  | byt b => exact .byt b
  | set e => exact .set (s _ _ e)
  | kList e c => exact .kList e c
  | kTuple e c => exact .kTuple e c
  | kDict e c => exact .kDict e c
  | fTuple e => exact .fTuple (s _ _ e)
  | fDict e => exact .fDict (s _ _ e)
theorem odd_same {K : PySem.W.Frag} {H H' : Hp} {x : V} (s : Same H H') (h : Odd K H x) : Odd K H' x := by
  obtain ⟨t, b, ty, k⟩ := h
  exact ⟨t, b, tyx_same s ty, k⟩
/-- x is no text -/
def NoTxt (K : PySem.W.Frag) (H : Hp) (x : V) : Prop := ∃ t, TyX K H x t ∧ PySem.W.kitOne K t (.type "str") = some false
theorem notxt_non {K : PySem.W.Frag} {H : Hp} : NoTxt K H .non := ⟨_, .base .non, kit_ty (by decide +kernel)⟩
theorem notxt_bl {K : PySem.W.Frag} {H : Hp} {b : Bool} : NoTxt K H (.bl b) := ⟨_, .base (.bl b), kit_ty (by decide +kernel)⟩
theorem notxt_int {K : PySem.W.Frag} {H : Hp} {i : Int} : NoTxt K H (.int i) := ⟨_, .base (.int i), kit_ty (by decide +kernel)⟩
theorem notxt_lst {K : PySem.W.Frag} {H : Hp} {a : Addr} {xs : List V} (e : H a = some (.lst xs)) : NoTxt K H (.ref a) := ⟨_, .base (.lst e), kit_ty (by decide +kernel)⟩
theorem notxt_tup {K : PySem.W.Frag} {H : Hp} {a : Addr} {xs : List V} (e : H a = some (.tup xs)) : NoTxt K H (.ref a) := ⟨_, .base (.tup e), kit_ty (by decide +kernel)⟩
theorem notxt_dK {K : PySem.W.Frag} {H : Hp} {a : Addr} {xs : List (Key × V)} (e : H a = some (.dK xs)) : NoTxt K H (.ref a) := ⟨_, .base (.dK e), kit_ty (by decide +kernel)⟩
theorem notxt_same {K : PySem.W.Frag} {H H' : Hp} {x : V} (s : Same H H') (h : NoTxt K H x) : NoTxt K H' x := by
  obtain ⟨t, ty, k⟩ := h
  exact ⟨t, tyx_same s ty, k⟩
/-! ### signs in the written dict of both signs -/
/-- the sign is a bead or a free place -/
def okc (c : Nat) : Bool := decide (c = 111) || decide (c = 46)
theorem okc_cd (b : Bool) : okc (cd b) = true := by cases b <;> rfl
def keyText : Value → Option Str
  | .str s _ => some s
  | _ => none
theorem keyText_str {v : Value} {s : Str} (h : keyText v = some s) : ∃ t, v = .str s t := by
  cases v <;> simp [keyText] at h
  exact ⟨_, by rw [h]⟩
def keysAre (es : Array DictEntry) : Prop := es.toList.map (fun e => keyText e.key) = [some ("o" : Str), some ("." : Str)]
theorem sign_in {K : PySem.W.Frag} {d : Addr} {es : Array DictEntry} {n : Nat} (l : K.lookup d = some ⟨.type "dict", none, .dict es n, #[]⟩) (hk : keysAre es) (c : Nat) : ∃ r, PySem.W.nsIn K d ⟨#[c]⟩ = some r ∧ r.isSome = okc c := by
  unfold keysAre at hk
  obtain ⟨e1, e2, hes⟩ : ∃ e1 e2, es.toList = [e1, e2] := by
    have hl := congrArg List.length hk
    rw [List.length_map] at hl
    match h : es.toList, hl with
    | [e1, e2], _ => exact ⟨e1, e2, rfl⟩
  rw [hes] at hk
  obtain ⟨t1, k1⟩ := keyText_str (List.cons.inj hk).1
  obtain ⟨t2, k2⟩ := keyText_str (List.cons.inj (List.cons.inj hk).2).1
  have i1 : e1.key.isStr ⟨#[c]⟩ = decide (c = 111) := by
    rw [k1]
    by_cases h : c = 111
    · subst h
      show (("o" : Str) == ⟨#[111]⟩) = true
      decide +kernel
    · rw [decide_eq_false h]
      have : ¬ (("o" : Str) = ⟨#[c]⟩) := fun z => by
        have z2 := congrArg (fun q : Str => q.cps.toList) z
        have z3 : [111] = [c] := z2
        exact h (List.cons.inj z3).1.symm
      simp [Value.isStr, this]
  have i2 : e2.key.isStr ⟨#[c]⟩ = decide (c = 46) := by
    rw [k2]
    by_cases h : c = 46
    · subst h
      show (("." : Str) == ⟨#[46]⟩) = true
      decide +kernel
    · rw [decide_eq_false h]
      have : ¬ (("." : Str) = ⟨#[c]⟩) := fun z => by
        have z2 := congrArg (fun q : Str => q.cps.toList) z
        have z3 : [46] = [c] := z2
        exact h (List.cons.inj z3).1.symm
      simp [Value.isStr, this]
  have r1 : e1.refKey = false := by unfold DictEntry.refKey; rw [k1]
  have r2 : e2.refKey = false := by unfold DictEntry.refKey; rw [k2]
  unfold PySem.W.nsIn
  rw [l]
  simp only [hes, List.find?, i1, i2, List.any_cons, r1, r2, List.any_nil, Bool.or_false]
  unfold okc
  by_cases h1 : c = 111
  · simp [h1]
  · by_cases h2 : c = 46
    · simp [h2]
    · simp [h1, h2]
/-- x is no row: no text, or one that is too short, too long, or has another sign -/
def NotRow (K : PySem.W.Frag) (H : Hp) (x : V) : Prop := NoTxt K H x ∨ ∃ z : Str, x = .str z ∧ z.length ≤ 10000 ∧ (z.length = 0 ∨ 30 < z.length ∨ ∃ c ∈ z.cps.toList, okc c = false)
def NotWord (K : PySem.W.Frag) (H : Hp) (x : V) : Prop := NoTxt K H x ∨ ∃ z : Str, x = .str z ∧ z.length ≤ 10000 ∧ (30 < z.length ∨ ∃ c ∈ z.cps.toList, okc c = false)
theorem notrow_same {K : PySem.W.Frag} {H H' : Hp} {x : V} (s : Same H H') (h : NotRow K H x) : NotRow K H' x := h.imp (notxt_same s) id
theorem notword_same {K : PySem.W.Frag} {H H' : Hp} {x : V} (s : Same H H') (h : NotWord K H x) : NotWord K H' x := h.imp (notxt_same s) id
theorem notword_row {K : PySem.W.Frag} {H : Hp} {x : V} (h : NotWord K H x) : NotRow K H x := h.imp id fun ⟨z, e, l, q⟩ => ⟨z, e, l, .inr q⟩
end HopR

set_option Elab.async false
set_option linter.all false
set_option maxRecDepth 100000
namespace HopR
open PySem L2
/-! ### words: where they can be shortened, and to what -/
def shp (bs : List Bool) (i : Nat) : Bool := decide ((bs.drop i).take 2 = [true, false])
def plc (bs : List Bool) : List Nat := (List.range bs.length).filter (shp bs)
def shA (bs : List Bool) (k : Nat) : List Bool := bs.take (k + 1) ++ bs.drop (k + 2)
def shB (bs : List Bool) (k : Nat) : List Bool := bs.take k ++ bs.drop (k + 1)
theorem shp_split {bs : List Bool} {i : Nat} (h : shp bs i = true) : bs = bs.take i ++ true :: false :: bs.drop (i + 2) ∧ i + 2 ≤ bs.length := by
  have h := of_decide_eq_true h
  have e : bs.drop i = [true, false] ++ (bs.drop i).drop 2 := by
    conv => lhs; rw [← List.take_append_drop 2 (bs.drop i), h]
  rw [List.drop_drop] at e
  have hl := congrArg List.length e
  rw [List.length_drop, List.length_append, List.length_drop] at hl
  have hl2 : bs.length - i = 2 + (bs.length - (i + 2)) := hl
  refine ⟨?_, by omega⟩
  conv => lhs; rw [← List.take_append_drop i bs, e]
  rfl
theorem plc_shp {bs : List Bool} {k : Nat} (h : k ∈ plc bs) : shp bs k = true ∧ k < bs.length := ⟨(List.mem_filter.mp h).2, List.mem_range.mp (List.mem_filter.mp h).1⟩
theorem plc_few (bs : List Bool) : (plc bs).length ≤ bs.length := by
  refine Nat.le_trans (List.length_filter_le _ _) ?_
  rw [List.length_range]
  exact Nat.le_refl _
theorem shA_len {bs : List Bool} {k : Nat} (h : k + 2 ≤ bs.length) : (shA bs k).length + 1 = bs.length := by
  unfold shA
  rw [List.length_append, List.length_take, List.length_drop]
  omega
theorem shB_len {bs : List Bool} {k : Nat} (h : k + 2 ≤ bs.length) : (shB bs k).length + 1 = bs.length := by
  unfold shB
  rw [List.length_append, List.length_take, List.length_drop]
  omega
theorem shA_eq {bs : List Bool} {k : Nat} (h : k ∈ plc bs) : shA bs k = bs.take k ++ [true] ++ bs.drop (k + 2) := by
  obtain ⟨e, hl⟩ := shp_split (plc_shp h).1
  unfold shA
  have e2 : bs.take (k + 1) = bs.take k ++ [true] := by
    rw [List.take_add_one]
    congr 1
    rw [e, List.getElem?_append_right (by rw [List.length_take]; omega), List.length_take, show k - min k bs.length = 0 by omega]
    rfl
  rw [e2]
theorem shB_eq {bs : List Bool} {k : Nat} (h : k ∈ plc bs) : shB bs k = bs.take k ++ [false] ++ bs.drop (k + 2) := by
  obtain ⟨e, hl⟩ := shp_split (plc_shp h).1
  unfold shB
  rw [List.append_assoc]
  congr 1
  have e3 : bs.drop (k + 1) = false :: bs.drop (k + 2) := by
    have h1 : k + 1 < bs.length := by omega
    rw [List.drop_eq_getElem_cons h1]
    congr 1
    have h2 : bs[k + 1]? = some false := by
      rw [e, List.getElem?_append_right (by rw [List.length_take]; omega), List.length_take, show k + 1 - min k bs.length = 1 by omega]
      rfl
    rw [List.getElem?_eq_getElem h1] at h2
    exact Option.some.inj h2
  rw [e3]
  rfl
/-! ### words and other things -/
def isRowB (z : Str) : Bool := decide (1 ≤ z.length) && (decide (z.length ≤ 30) && z.cps.toList.all okc)
def isWordB (z : Str) : Bool := decide (z.length ≤ 30) && z.cps.toList.all okc
/-- whether x is a row -/
def RowB (K : PySem.W.Frag) (H : Hp) (x : V) (b : Bool) : Prop := (NoTxt K H x ∧ b = false) ∨ ∃ z : Str, x = .str z ∧ z.length ≤ 10000 ∧ b = isRowB z
/-- whether x is a word -/
def WordB (K : PySem.W.Frag) (H : Hp) (x : V) (b : Bool) : Prop := (NoTxt K H x ∧ b = false) ∨ ∃ z : Str, x = .str z ∧ z.length ≤ 10000 ∧ b = isWordB z
theorem wordB_same {K : PySem.W.Frag} {H H' : Hp} {x : V} {b : Bool} (s : Same H H') (h : WordB K H x b) : WordB K H' x b := h.imp (fun ⟨q, e⟩ => ⟨notxt_same s q, e⟩) id
theorem rowB_same {K : PySem.W.Frag} {H H' : Hp} {x : V} {b : Bool} (s : Same H H') (h : RowB K H x b) : RowB K H' x b := h.imp (fun ⟨q, e⟩ => ⟨notxt_same s q, e⟩) id
theorem okc_tx (bs : List Bool) : (tx bs).cps.toList.all okc = true := by
  rw [tx_list, List.all_map, List.all_eq_true]
  exact fun b _ => okc_cd b
theorem isWord_tx {bs : List Bool} (h : bs.length ≤ 30) : isWordB (tx bs) = true := by
  unfold isWordB
  rw [okc_tx, tx_len, decide_eq_true h]
  rfl
theorem isRow_tx {bs : List Bool} (h1 : 1 ≤ bs.length) (h : bs.length ≤ 30) : isRowB (tx bs) = true := by
  unfold isRowB
  rw [okc_tx, tx_len, decide_eq_true h, decide_eq_true h1]
  rfl
theorem len0 {z : Str} (h : z.length = 0) : z = "" := by
  apply ext_str
  have : z.cps = #[] := Array.eq_empty_of_size_eq_zero h
  rw [this]
  rfl
/-- as the program tells it: a row, or the text without signs -/
theorem isWord_or (z : Str) : isWordB z = (isRowB z || decide (z = "")) := by
  unfold isWordB isRowB
  by_cases h : z.length = 0
  · rw [len0 h]
    decide +kernel
  · have ne : ¬ z = "" := fun e => h (by rw [e]; decide +kernel)
    rw [decide_eq_false ne, decide_eq_true (show 1 ≤ z.length by omega)]
    simp
/-- a spot at which the word of bs can't be shortened -/
def BadSpot (K : PySem.W.Frag) (H : Hp) (y : V) (ks : List Nat) : Prop := Odd K H y ∨ ∃ i : Int, y = .int i ∧ ∀ k ∈ ks, i ≠ (k : Int)
theorem badspot_same {K : PySem.W.Frag} {H H' : Hp} {y : V} {ks : List Nat} (s : Same H H') (h : BadSpot K H y ks) : BadSpot K H' y ks := h.imp (odd_same s) id
theorem inV_in {ks : List Nat} {k : Nat} (h : k ∈ ks) : inV (wv k) (ks.map wv) = true := by
  unfold inV
  rw [List.any_eq_true]
  exact ⟨wv k, List.mem_map_of_mem h, by unfold wv eqV; simp⟩
theorem inV_no {ks : List Nat} {i : Int} (h : ∀ k ∈ ks, i ≠ (k : Int)) : inV (.int i) (ks.map wv) = false := by
  unfold inV
  rw [List.any_eq_false]
  intro x hx
  obtain ⟨k, hk, rfl⟩ := List.mem_map.mp hx
  unfold wv eqV
  simp
  have := h k hk
  omega
theorem flat_ks (ks : List Nat) : (ks.map wv).all flatV = true := by
  rw [List.all_eq_true]
  intro x hx
  obtain ⟨k, _, rfl⟩ := List.mem_map.mp hx
  rfl
theorem fit {m : Nat} (h : m ≤ 10000) : m ≤ sizeLine := Nat.le_trans h (by decide)
theorem fit' {m : Nat} (h : m ≤ 10000) : m < sizeLine := Nat.lt_of_le_of_lt h (by decide)
theorem tx_fit {bs : List Bool} (h : bs.length ≤ 10000) : (tx bs).length ≤ sizeLine := by
  rw [tx_len]
  exact fit h
theorem tx_nil : ("" : Str) = tx [] := by decide +kernel
theorem dec_str {a b : Str} {p : Prop} [Decidable p] (h : a = b ↔ p) : decide (V.str a = V.str b) = decide p := by
  by_cases q : p
  · rw [decide_eq_true q, decide_eq_true (by rw [h.mpr q])]
  · rw [decide_eq_false q, decide_eq_false fun z => q (h.mp (V.str.inj z))]
end HopR

set_option Elab.async false
set_option linter.all false
set_option maxRecDepth 100000
namespace HopR
open PySem L2
/-! ### the draws -/
def dval (left : Int) (k : Nat) (z : Int) : Int :=
  if (1000000000000000000 : Int) ≤ left then left % z
  else
    let small := left % 1000000000000000000
    let one := (small + 7 * (k : Int) + 1) * (48271 + 2 * (k : Int) * (k : Int)) % 2147483647
    let two := (small / 3 + 11 * (k : Int) + 5) * (39373 + 6 * (k : Int)) % 2147483629
    (one * two + one / 64) % z
def dleft (left : Int) (z : Int) : Int := if (1000000000000000000 : Int) ≤ left then left / z else left
def draws : Int → Nat → List Int → List Int
  | _, _, [] => []
  | left, k, z :: r => dval left k z :: draws (dleft left z) (k + 1) r
theorem draws_len : ∀ (zs : List Int) (c : Int) (k : Nat), (draws c k zs).length = zs.length
  | [], _, _ => rfl
  | z :: r, c, k => by
    show (draws (dleft c z) (k + 1) r).length + 1 = r.length + 1
    rw [draws_len r]
theorem dval_ok {c : Int} {k : Nat} {z : Int} (h : 0 < z) : 0 ≤ dval c k z ∧ dval c k z < z := by
  unfold dval
  split
  · exact ⟨Int.emod_nonneg _ (by omega), Int.emod_lt_of_pos _ h⟩
  · exact ⟨Int.emod_nonneg _ (by omega), Int.emod_lt_of_pos _ h⟩
theorem draws_ok : ∀ (zs : List Int) (c : Int) (k : Nat), (∀ z ∈ zs, 0 < z) → ∀ (i : Nat) (d z : Int), (draws c k zs)[i]? = some d → zs[i]? = some z → 0 ≤ d ∧ d < z
  | [], _, _, _, i, d, z, _, h => by simp at h
  | y :: r, c, k, hp, 0, d, z, h1, h2 => by
    have e1 : dval c k y = d := Option.some.inj h1
    have e2 : y = z := Option.some.inj h2
    subst e1 e2
    exact dval_ok (hp y (List.mem_cons_self ..))
  | y :: r, c, k, hp, i + 1, d, z, h1, h2 => draws_ok r _ _ (fun q hq => hp q (List.mem_cons_of_mem _ hq)) i d z h1 h2
/-- the size of a draw is one that is reckoned with -/
def SizeOk (z : Int) : Prop := 0 < z ∧ z < 18446744073709551616
def bits (cs : List Int) : List Bool := cs.map fun c => decide (c = 1)
theorem signs_rows : ∀ (ys : List Str), (∀ y ∈ ys, ∃ b, y = tx [b]) → ∃ bs : List Bool, ys = bs.map fun b => tx [b]
  | [], _ => ⟨[], rfl⟩
  | y :: r, h => by
    obtain ⟨b, e⟩ := h y (List.mem_cons_self ..)
    obtain ⟨bs, e2⟩ := signs_rows r fun z hz => h z (List.mem_cons_of_mem _ hz)
    exact ⟨b :: bs, by rw [e, e2]; rfl⟩
theorem dot_o (c : Int) (h0 : 0 ≤ c) (h2 : c < 2) : atI (".o" : Str).cps.toList c = some (cd (decide (c = 1))) := by
  have e : (".o" : Str).cps.toList = [46, 111] := by decide +kernel
  rw [e]
  rcases (show c = 0 ∨ c = 1 by omega) with rfl | rfl
  · decide
  · decide
/-- a row -/
def Row (bs : List Bool) : Prop := 1 ≤ bs.length ∧ bs.length ≤ 30
theorem row_size {bs : List Bool} (h : Row bs) : (tx bs).length ≤ sizeLine := tx_fit (Nat.le_trans h.2 (by decide))
theorem flat_rep {α : Type} (x : α) : ∀ m : Nat, (List.replicate m [x]).flatten = List.replicate m x
  | 0 => rfl
  | m + 1 => by
    rw [List.replicate_succ, List.flatten_cons, flat_rep x m]
    rfl
theorem rep_of (m : Nat) : repS "o." m = tx (List.replicate m [true, false]).flatten := by
  unfold repS tx
  have e : ("o." : Str).cps.toList = [true, false].map cd := by decide +kernel
  rw [e, List.map_flatten, List.map_replicate]
theorem rep_of_len (m : Nat) : (List.replicate m [true, false]).flatten.length = 2 * m := by
  rw [List.length_flatten, List.map_replicate, List.sum_replicate_nat]
  show m * 2 = 2 * m
  omega
def spDrawn (K : PySem.W.Frag) : Sp := fun vs H Q _ => ∃ (c : Int) (a : Addr) (zs : List Int), vs = [.int c, .ref a] ∧ SqL K H a (zs.map V.int) ∧ (∀ z ∈ zs, SizeOk z) ∧ zs.length ≤ 1000 ∧
  ∀ H' p, Same H H' → H p = none → H' p = some (.lst ((draws c 0 zs).map V.int)) → Q (.ref p) H'
def spCellH (K : PySem.W.Frag) : Sp := fun vs H Q _ => ∃ (a : Addr) (ns : List Int) (k : Nat), vs = [.ref a, .int (k : Int)] ∧ SqL K H a (ns.map V.int) ∧ ∀ c : Int, Q (.int c) H
def spLRow : Sp := fun vs H Q _ => ∃ (c : Int) (M : Nat), vs = [.int c, .int (M : Int)] ∧ 1 ≤ M ∧ M ≤ 30 ∧ ∀ H' bs, Same H H' → 1 ≤ bs.length → bs.length ≤ M → Q (.str (tx bs)) H'
end HopR

set_option Elab.async false
set_option linter.all false
set_option maxRecDepth 100000
namespace HopR
open PySem PySem.Spec PyProof.Rows L2
/-! ### numbers: // by any number but 0 -/
def CDivWN (_ j : Int) : Prop := j ≠ 0 ∧ j.natAbs.log2 < 9000
theorem op_fdivWN {X : Cx} : OpR X (binaryOp .FloorDiv) (rI CDivWN fun i j => .int (i.fdiv j)) := opI fun i j _ _ _ _ _ hc q => floordiv_int hc.1 q (.inl (PyProof.noPylong_of_log2 hc.2))
theorem gcd_fmod (a b : Int) : Int.gcd b (a.fmod b) = Int.gcd a b := by
  rw [Int.fmod_def, Int.mul_comm, Int.gcd_sub_mul_right_right, Int.gcd_comm]
theorem fmod_less (a : Int) {b : Int} (h : b ≠ 0) : (a.fmod b).natAbs < b.natAbs := by
  have h1 := Int.emod_nonneg a h
  have h2 := Int.emod_lt a h
  rw [Int.fmod_eq_emod]
  by_cases h3 : 0 ≤ b ∨ b ∣ a
  · rw [if_pos h3]
    omega
  · rw [if_neg h3]
    have h4 : a % b ≠ 0 := fun e => h3 (.inr (Int.dvd_of_emod_eq_zero e))
    have h5 : b < 0 := by
      refine Int.not_le.mp fun e => h3 (.inl e)
    omega
/-! ### fractions -/
theorem low_num {t b : Int} (h : b ≠ 0) : (t.fdiv (if b < 0 then -(Int.gcd t b : Int) else (Int.gcd t b : Int))) = (Rat.divInt t b).num := by
  have hd : ((Int.gcd t b : Nat) : Int) ∣ t := Int.gcd_dvd_left ..
  rw [Rat.num_divInt, Int.gcd_comm b t]
  by_cases hb : b < 0
  · rw [if_pos hb, Int.fdiv_eq_ediv_of_dvd (by rw [Int.neg_dvd]; exact hd), Int.ediv_neg, Int.sign_eq_neg_one_of_neg hb, Int.neg_one_mul, Int.neg_ediv_of_dvd hd]
  · have hb2 : 0 < b := by omega
    rw [if_neg hb, Int.fdiv_eq_ediv_of_dvd hd, Int.sign_eq_one_of_pos hb2, Int.one_mul]
theorem low_den {t b : Int} (h : b ≠ 0) : (b.fdiv (if b < 0 then -(Int.gcd t b : Int) else (Int.gcd t b : Int))) = ((Rat.divInt t b).den : Int) := by
  have hd : ((Int.gcd t b : Nat) : Int) ∣ b := Int.gcd_dvd_right ..
  rw [Rat.den_divInt, if_neg h, Int.gcd_comm b t]
  rw [Int.natCast_ediv]
  by_cases hb : b < 0
  · rw [if_pos hb, Int.fdiv_eq_ediv_of_dvd (by rw [Int.neg_dvd]; exact hd), Int.ediv_neg, Int.ofNat_natAbs_of_nonpos (by omega), Int.neg_ediv_of_dvd hd]
  · rw [if_neg hb, Int.fdiv_eq_ediv_of_dvd hd, Int.natAbs_of_nonneg (by omega)]
theorem gcd_pos {t b : Int} (h : b ≠ 0) : 0 < Int.gcd t b := Int.gcd_pos_of_ne_zero_right _ h
/-- both numbers of the fraction are below 2 ^ n -/
def Sz (n : Nat) (q : Rat) : Prop := q.num.natAbs < 2 ^ n ∧ q.den < 2 ^ n
theorem Sz.mono {n m : Nat} {q : Rat} (h : Sz n q) (hm : n ≤ m) : Sz m q := ⟨Nat.lt_of_lt_of_le h.1 (Nat.pow_le_pow_right (by decide) hm), Nat.lt_of_lt_of_le h.2 (Nat.pow_le_pow_right (by decide) hm)⟩
theorem sz_divInt {t b : Int} {n : Nat} (h : b ≠ 0) (ht : t.natAbs < 2 ^ n) (hb : b.natAbs < 2 ^ n) : Sz n (Rat.divInt t b) := by
  have g := gcd_pos (t := t) h
  constructor
  · rw [Rat.num_divInt]
    refine Nat.lt_of_le_of_lt (Int.natAbs_ediv_le_natAbs _ _) ?_
    rw [Int.natAbs_mul]
    rcases Int.lt_or_gt_of_ne h with h | h
    · rw [Int.sign_eq_neg_one_of_neg h]; simpa using ht
    · rw [Int.sign_eq_one_of_pos h]; simpa using ht
  · rw [Rat.den_divInt, if_neg h]
    exact Nat.lt_of_le_of_lt (Nat.div_le_self _ _) hb
theorem den_ne (q : Rat) : ((q.den : Nat) : Int) ≠ 0 := by
  have := q.den_nz
  omega
theorem pos_two (n : Nat) : 0 < 2 ^ n := Nat.pow_pos (by decide)
theorem two_lt {a b : Nat} {n : Nat} (ha : a < 2 ^ n) (hb : b < 2 ^ n) : a + b < 2 ^ (n + 1) := by
  rw [Nat.pow_succ]
  omega
theorem add_eq (q r : Rat) : q + r = Rat.divInt (q.num * r.den + r.num * q.den) ((q.den : Int) * (r.den : Int)) := by
  conv => lhs; rw [← Rat.num_divInt_den q, ← Rat.num_divInt_den r]
  exact Rat.divInt_add_divInt _ _ (den_ne q) (den_ne r)
theorem sub_eq (q r : Rat) : q - r = Rat.divInt (q.num * r.den - r.num * q.den) ((q.den : Int) * (r.den : Int)) := by
  conv => lhs; rw [← Rat.num_divInt_den q, ← Rat.num_divInt_den r]
  exact Rat.divInt_sub_divInt _ _ (den_ne q) (den_ne r)
theorem mul_eq (q r : Rat) : q * r = Rat.divInt (q.num * r.num) ((q.den : Int) * (r.den : Int)) := by
  conv => lhs; rw [← Rat.num_divInt_den q, ← Rat.num_divInt_den r]
  exact Rat.divInt_mul_divInt _ _
theorem div_eq (q r : Rat) : q / r = Rat.divInt (q.num * r.den) ((q.den : Int) * r.num) := by
  rw [Rat.div_def]
  conv => lhs; rw [← Rat.num_divInt_den q, ← Rat.num_divInt_den r]
  rw [Rat.inv_divInt]
  exact Rat.divInt_mul_divInt _ _
end HopR

set_option Elab.async false
set_option linter.all false
set_option maxRecDepth 100000
namespace HopR
open PySem PySem.Spec PyProof.Rows L2
/-! ### products, divided out crosswise -/
theorem mul_num (q r : Rat) : (q.num.fdiv (Int.gcd q.num (r.den : Int) : Int)) * (r.num.fdiv (Int.gcd r.num (q.den : Int) : Int)) = (q * r).num := by
  have h1 : ((Int.gcd q.num (r.den : Int) : Nat) : Int) ∣ q.num := Int.gcd_dvd_left ..
  have h2 : ((Int.gcd r.num (q.den : Int) : Nat) : Int) ∣ r.num := Int.gcd_dvd_left ..
  rw [Int.fdiv_eq_ediv_of_dvd h1, Int.fdiv_eq_ediv_of_dvd h2]
  show _ = (Rat.mul q r).num
  unfold Rat.mul
  rfl
theorem mul_den (q r : Rat) : ((q.den : Int).fdiv (Int.gcd r.num (q.den : Int) : Int)) * ((r.den : Int).fdiv (Int.gcd q.num (r.den : Int) : Int)) = ((q * r).den : Int) := by
  have h1 : ((Int.gcd q.num (r.den : Int) : Nat) : Int) ∣ (r.den : Int) := Int.gcd_dvd_right ..
  have h2 : ((Int.gcd r.num (q.den : Int) : Nat) : Int) ∣ (q.den : Int) := Int.gcd_dvd_right ..
  rw [Int.fdiv_eq_ediv_of_dvd h1, Int.fdiv_eq_ediv_of_dvd h2]
  show _ = ((Rat.mul q r).den : Int)
  unfold Rat.mul
  rfl
end HopR

set_option Elab.async false
set_option linter.all false
set_option maxRecDepth 100000
namespace HopR
open PySem PySem.Spec PyProof.Rows L2
/-! ### len, str and repr of objects of an own class; an attribute as a target -/
section
variable {X : Cx} {CX : CXT} {n : Nat} {C f : Addr} {fd : FuncData} {ps : List Str} {sp : Sp} {E : XK}
/-- a def called by a built-in that runs in the same frames -/
theorem call_at {A : Around} {pins : List (Addr × Obj)} {σ : L2.St} {H : Hp} {s : Shared} {Q : VK} {us : List Value} {vs : List V} (F : FnOk X.prog X.w X.K X.mg X.base CX n f fd ps sp) (room : Room n A) (frames : A.frames = X.A.frames) (bind : Binds X.K fd ps []) (lets : Passes CX X E)
    (I : Inv X pins σ H s) (vals : Vals vs us) (prom : sp vs H Q E) : wpAny (model X.prog X.w) A (call (.ref f) us) (EP X pins σ Q) X.xe s := by
  have I0 := I.env0
  have here : Env0 X.prog X.w X.K X.mg X.base A X.stack s H := { frames := frames.trans I0.frames, mod := I0.mod, bs := I0.bs, bsz := I0.bsz, funs := I0.funs, frf := I0.frf, hok := I0.hok, bare := I0.bare }
  have size := vals.length.symm.trans (F.len _ _ _ _ prom)
  have bound := bind s us I.kIn (by rw [List.append_nil]; exact size)
  rw [List.append_nil] at bound
  refine wpAny_call (codeAny_mono (F.run A X.stack s H ⟨us, []⟩ us vs Q E room here bound vals prom) fun r s' h => ?_)
  have said := after_call lets I h
  cases r with
  | error e => exact said
  | ok fl => cases fl <;> exact said
/-- one object of the class, and what its method promises of it -/
def rOwn1 (C : Addr) (sp : Sp) (E : XK) (R : V → Hp → VK → Prop) : List V → Hp → VK → Prop := fun xs H Q => ∃ a dx fs, xs = [.ref a] ∧ H a = some (.ins C dx fs) ∧ sp [.ref a] H (fun v H' => R v H' Q) E
def isLen : V → Hp → VK → Prop := fun v H Q => ∃ i : Int, v = .int i ∧ (0 ≤ i ∧ i < 2 ^ 63) ∧ Q (.int i) H
def isTxt : V → Hp → VK → Prop := fun v H Q => ∃ z : Str, v = .str z ∧ Q (.str z) H
/-- len(o) -/
theorem cr_lenOwn (len : PySem.W.findIn X.K (.ref C) "__len__" = some (some (.ref f))) (fn : PySem.W.isFn X.K (.ref f) = true) (F : FnOk X.prog X.w X.K X.mg X.base CX n f fd ps sp) (room : Room (n + 1) X.A) (bind : Binds X.K fd ps []) (lets : Passes CX X E) :
    CallR X (.builtin "len") (rOwn1 C sp E isLen) := by
  rintro pins s σ H _ us Q I r ⟨a, dx, fs, rfl, ha, prom⟩
  obtain ⟨u, rfl, rv⟩ := vals1 r
  cases rv
  obtain ⟨_, J, _⟩ := ins_get I.hok ha
  obtain ⟨od, J, _⟩ := J.look
  obtain ⟨m, F0⟩ := I.fr
  refine PySem.W.len_K F0 I.ok.mod.kin J len fn (thn (call_at F room.in1 rfl bind lets I (us := [.ref a]) (vs := [.ref a]) (.cons rfl .nil) prom) ?_)
  rintro w s' ⟨z, H', I', rz, i, rfl, hi, q⟩
  obtain ⟨t, rfl⟩ := rz
  exact ⟨hi, .int i, H', I'.tok _, ⟨_, rfl⟩, q⟩
/-- str(o) -/
theorem cr_strOwn (str : PySem.W.findIn X.K (.ref C) "__str__" = some (some (.ref f))) (fn : PySem.W.isFn X.K (.ref f) = true) (F : FnOk X.prog X.w X.K X.mg X.base CX n f fd ps sp) (room : Room (n + 2) X.A) (bind : Binds X.K fd ps []) (lets : Passes CX X E) :
    CallR X (.type "str") (rOwn1 C sp E isTxt) := by
  rintro pins s σ H _ us Q I r ⟨a, dx, fs, rfl, ha, prom⟩
  obtain ⟨u, rfl, rv⟩ := vals1 r
  cases rv
  obtain ⟨_, J, _⟩ := ins_get I.hok ha
  obtain ⟨od, J, _⟩ := J.look
  have un := room.un
  refine PySem.W.kso_call (by show X.A.units + 1 + 1 < cLine; omega) I.kIn J str fn (thn (call_at F room.in1.in1 rfl bind lets I (us := [.ref a]) (vs := [.ref a]) (.cons rfl .nil) prom) ?_)
  rintro w s' ⟨z, H', I', rz, y, rfl, q⟩
  obtain ⟨t, rfl⟩ := rz
  exact ⟨.str y, H', I', ⟨_, rfl⟩, q⟩
/-- repr(o) -/
theorem cr_reprOwn (rep : PySem.W.findIn X.K (.ref C) "__repr__" = some (some (.ref f))) (fn : PySem.W.isFn X.K (.ref f) = true) (F : FnOk X.prog X.w X.K X.mg X.base CX n f fd ps sp) (room : Room (n + 1) X.A) (bind : Binds X.K fd ps []) (lets : Passes CX X E) :
    CallR X (.builtin "repr") (rOwn1 C sp E isTxt) := by
  rintro pins s σ H _ us Q I r ⟨a, dx, fs, rfl, ha, prom⟩
  obtain ⟨u, rfl, rv⟩ := vals1 r
  cases rv
  obtain ⟨_, J, _⟩ := ins_get I.hok ha
  obtain ⟨od, J, _⟩ := J.look
  obtain ⟨m, F0⟩ := I.fr
  have un := room.un
  refine PySem.W.repr_K (by show X.A.units + 1 < cLine; omega) F0 I.ok.mod.kin J rep fn (thn (call_at F room.in1 rfl bind lets I (us := [.ref a]) (vs := [.ref a]) (.cons rfl .nil) prom) ?_)
  rintro w s' ⟨z, H', I', rz, y, rfl, q⟩
  obtain ⟨t, rfl⟩ := rz
  exact ⟨.str y, H', I', ⟨_, rfl⟩, q⟩
end
section
variable {X : Cx}
/-- o.f as a target: the field is put -/
def gFld (K : PySem.W.Frag) (to : TE) (f : Str) : TG := fun v σ H Q => to σ H fun o H1 => ∃ a C dx fs, o = .ref a ∧ H1 a = some (.ins C dx fs) ∧ Cls K C ∧ NoAttr K C f ∧ fs.length < 1000 ∧ Q σ (upd H1 a (.ins C dx (putF f v fs)))
theorem pg_fld {o : Expr} {to : TE} {f : Str} {pos : Pos} (ho : PE X o to) : PG X (.Attribute o f pos) (gFld X.K to f) := by
  constructor
  intro pins s σ H v u Q I r h
  rw [assign_Attribute]
  refine wpAny_bind (wpAny_holding (thn (ho.run pins s σ H _ I h) ?_))
  rintro ov s1 ⟨x, H1, I1, rx, a, C, dx, fs, rfl, ea, c, na, few, q⟩
  cases rx
  refine wpAny_bind (wpAny_standAt (wpAny_bind (wpAny_holding (setattr_ok I1 ea c na few r fun s2 I2 => ?_))))
  exact wpAny_release ⟨σ, _, I2, q⟩
end
end HopR

set_option Elab.async false
set_option linter.all false
set_option maxRecDepth 100000
namespace HopR
open PySem PySem.Spec PyProof.Rows L2
/-! ### C(e, ..) in a try, where __init__ may raise -/
def tMakeS (C : Addr) (sp : Sp) (E : L2.St → XK) (t : TA) : TE := fun σ H Q => t σ H fun vs H1 => ∀ x dx, H1 x = none → H1 dx = none → dx ≠ x → sp (.ref x :: vs) (upd (upd H1 dx (.own x)) x (.ins C dx [])) (fun v H2 => v = .non ∧ Q (.ref x) H2) (E σ)
section
variable {X : Cx} {CX : CXT} {k : Nat} {f C : Addr} {fd : FuncData} {ps : List Str} {sp : Sp} {E : L2.St → XK} {x : Str} {p pos : Pos} {e : Expr} {es : List Expr} {t : TA}
theorem pe_makeS (M : Mk X.K C f) (F : FnOk X.prog X.w X.K X.mg X.base CX k f fd ps sp) (hr : Room (k + 1) X.A) (hg : Gl X x) (hm : X.mg x = some (.ref C)) (hb : Binds X.K fd ps []) (hx : ∀ σ, PassesAt CX X σ (E σ))
    (ha : PA X (e :: es) t) (hdb : (x == ("__debug__" : Str)) = false := by decide) (he : starEach (e :: es) X.env = (false, eval e X.env) :: starEach es X.env := by rfl) (hpl : (backTo pos (starEach es X.env)).any (·.1) = false := by rfl) :
    PE X (.Call (.Name x p) (e :: es) [] pos) (tMakeS C sp E t) := by
  constructor
  intro pins s0 σ H0 Q I0 h0
  refine wpAny_Call_Name_kw (ld_glob I0 hg hm ?_ hdb)
  refine PySem.W.callWith_K (h₀ := X.base) I0.ok.mod.kin M.kp ?_ he hpl
  refine thn (ha.run pos pins s0 σ H0 _ I0 h0) ?_
  rintro us s ⟨vs, H, I, r, h⟩
  refine ⟨I.kIn, ?_⟩
  have hq := h (s.heap.objs.size + 1) s.heap.objs.size (I.hok.fresh (Nat.le_succ _)) (I.hok.fresh (Nat.le_refl _)) (Nat.ne_of_lt (Nat.lt_succ_self _))
  have J := Inv.made (C := C) I
  have r2 : Vals (V.ref (s.heap.objs.size + 1) :: vs) (Value.ref (s.heap.objs.size + 1) :: us) := .cons rfl r
  have hl : (Value.ref (s.heap.objs.size + 1) :: us).length = ps.length := r2.length.symm.trans (F.len _ _ _ _ hq)
  have hbi := hb _ (Value.ref (s.heap.objs.size + 1) :: us) J.kIn (by rw [List.append_nil]; exact hl)
  rw [List.append_nil] at hbi
  have run := F.run _ X.stack _ _ ⟨Value.ref (s.heap.objs.size + 1) :: us, []⟩ _ _ _ (E σ) (hr.make C us []) (J.env0.make C us []) hbi r2 hq
  refine wpAny_call (make_map (f := f) I.kIn M.makes M.init (beq_iff_eq.mp M.fn) (codeAny_mono run ?_))
  intro r s' hq'
  match r, hq' with
  | .error e, hq' => exact hx σ pins _ _ e s' J hq'
  | .ok (.ret u), hq' =>
    obtain ⟨v, H', I3, rv, ev, q3⟩ := J.after hq'
    subst ev
    exact ⟨rv, V.ref (s.heap.objs.size + 1), H', I3, rfl, q3⟩
  | .ok .next, hq' => exact hq'.elim
  | .ok .brk, hq' => exact hq'.elim
  | .ok .cont, hq' => exact hq'.elim
end
end HopR

set_option Elab.async false
set_option linter.all false
set_option maxRecDepth 100000
namespace HopR
open PySem PySem.Spec PyProof.Rows L2
open Builtin Builtin.Str Builtin.Int
/-! ### f"{n:b}" for n to 100 -/
/-- the figures of n by twos -/
def binText (n : Nat) : Str := ⟨((Nat.toDigits 2 n).map Char.toNat).toArray⟩
set_option maxHeartbeats 8000000 in
theorem gives_b : ∀ (n : Nat) (t u : Tok), n < 101 → Gives («int.__format__» ⟨[.int (n : Int) t, .str "b" u], []⟩) (.str (binText n))
  | 0, _, _, _ => .of_eq rfl
  | 1, _, _, _ => .of_eq rfl
  | 2, _, _, _ => .of_eq rfl
  | 3, _, _, _ => .of_eq rfl
  | 4, _, _, _ => .of_eq rfl
  | 5, _, _, _ => .of_eq rfl
  | 6, _, _, _ => .of_eq rfl
  | 7, _, _, _ => .of_eq rfl
  | 8, _, _, _ => .of_eq rfl
  | 9, _, _, _ => .of_eq rfl
  | 10, _, _, _ => .of_eq rfl
  | 11, _, _, _ => .of_eq rfl
  | 12, _, _, _ => .of_eq rfl
  | 13, _, _, _ => .of_eq rfl
  | 14, _, _, _ => .of_eq rfl
  | 15, _, _, _ => .of_eq rfl
  | 16, _, _, _ => .of_eq rfl
  | 17, _, _, _ => .of_eq rfl
  | 18, _, _, _ => .of_eq rfl
  | 19, _, _, _ => .of_eq rfl
  | 20, _, _, _ => .of_eq rfl
  | 21, _, _, _ => .of_eq rfl
  | 22, _, _, _ => .of_eq rfl
  | 23, _, _, _ => .of_eq rfl
  | 24, _, _, _ => .of_eq rfl
  | 25, _, _, _ => .of_eq rfl
  | 26, _, _, _ => .of_eq rfl
  | 27, _, _, _ => .of_eq rfl
  | 28, _, _, _ => .of_eq rfl
  | 29, _, _, _ => .of_eq rfl
  | 30, _, _, _ => .of_eq rfl
  | 31, _, _, _ => .of_eq rfl
  | 32, _, _, _ => .of_eq rfl
  | 33, _, _, _ => .of_eq rfl
  | 34, _, _, _ => .of_eq rfl
  | 35, _, _, _ => .of_eq rfl
  | 36, _, _, _ => .of_eq rfl
  | 37, _, _, _ => .of_eq rfl
  | 38, _, _, _ => .of_eq rfl
  | 39, _, _, _ => .of_eq rfl
  | 40, _, _, _ => .of_eq rfl
  | 41, _, _, _ => .of_eq rfl
  | 42, _, _, _ => .of_eq rfl
  | 43, _, _, _ => .of_eq rfl
  | 44, _, _, _ => .of_eq rfl
  | 45, _, _, _ => .of_eq rfl
  | 46, _, _, _ => .of_eq rfl
  | 47, _, _, _ => .of_eq rfl
  | 48, _, _, _ => .of_eq rfl
  | 49, _, _, _ => .of_eq rfl
  | 50, _, _, _ => .of_eq rfl
  | 51, _, _, _ => .of_eq rfl
  | 52, _, _, _ => .of_eq rfl
  | 53, _, _, _ => .of_eq rfl
  | 54, _, _, _ => .of_eq rfl
  | 55, _, _, _ => .of_eq rfl
  | 56, _, _, _ => .of_eq rfl
  | 57, _, _, _ => .of_eq rfl
  | 58, _, _, _ => .of_eq rfl
  | 59, _, _, _ => .of_eq rfl
  | 60, _, _, _ => .of_eq rfl
  | 61, _, _, _ => .of_eq rfl
  | 62, _, _, _ => .of_eq rfl
  | 63, _, _, _ => .of_eq rfl
  | 64, _, _, _ => .of_eq rfl
  | 65, _, _, _ => .of_eq rfl
  | 66, _, _, _ => .of_eq rfl
  | 67, _, _, _ => .of_eq rfl
  | 68, _, _, _ => .of_eq rfl
  | 69, _, _, _ => .of_eq rfl
  | 70, _, _, _ => .of_eq rfl
  | 71, _, _, _ => .of_eq rfl
  | 72, _, _, _ => .of_eq rfl
  | 73, _, _, _ => .of_eq rfl
  | 74, _, _, _ => .of_eq rfl
  | 75, _, _, _ => .of_eq rfl
  | 76, _, _, _ => .of_eq rfl
  | 77, _, _, _ => .of_eq rfl
  | 78, _, _, _ => .of_eq rfl
  | 79, _, _, _ => .of_eq rfl
  | 80, _, _, _ => .of_eq rfl
  | 81, _, _, _ => .of_eq rfl
  | 82, _, _, _ => .of_eq rfl
  | 83, _, _, _ => .of_eq rfl
  | 84, _, _, _ => .of_eq rfl
  | 85, _, _, _ => .of_eq rfl
  | 86, _, _, _ => .of_eq rfl
  | 87, _, _, _ => .of_eq rfl
  | 88, _, _, _ => .of_eq rfl
  | 89, _, _, _ => .of_eq rfl
  | 90, _, _, _ => .of_eq rfl
  | 91, _, _, _ => .of_eq rfl
  | 92, _, _, _ => .of_eq rfl
  | 93, _, _, _ => .of_eq rfl
  | 94, _, _, _ => .of_eq rfl
  | 95, _, _, _ => .of_eq rfl
  | 96, _, _, _ => .of_eq rfl
  | 97, _, _, _ => .of_eq rfl
  | 98, _, _, _ => .of_eq rfl
  | 99, _, _, _ => .of_eq rfl
  | 100, _, _, _ => .of_eq rfl
  | n + 101, _, _, h => False.elim (Nat.not_lt_of_le (Nat.le_add_left 101 n) h)
end HopR

set_option Elab.async false
set_option linter.all false
set_option maxRecDepth 100000
namespace HopR
open PySem PySem.Spec PyProof.Rows L2
def tFmtB (te : TE) : TE := fun σ H Q => te σ H fun x H1 => ∃ n : Nat, x = .int (n : Int) ∧ n < 101 ∧ Q (.str (binText n)) H1
theorem bin_small : ∀ n < 101, (binText n).length ≤ sizeLine := by decide +kernel
theorem len_b : (("b" : Str).length == 0) = false := by decide +kernel
theorem fit_b : ("b" : Str).length ≤ sizeLine := by decide +kernel
theorem field_b {prog : Program} {w : World} {A : Around} {E : Value → Shared → Prop} {s : Shared} {n : Nat} {t : Tok} {Q : Value → Shared → Prop} (hn : n < 101) (h : Q (.str (binText n) (s.toks + 1)) { s with toks := s.toks + 1 + 1 }) : wpAny (model prog w) A (formatField (.int (n : Int) t) "b") Q E s :=
  wpAny_formatField_spec (T := "int") (idf := "int.__format__") (B := PySem.Builtin.«int.__format__») (v := .int (n : Int) t) (sp := "b") (x := binText n) len_b (fun s' => typeIs_int s' (n : Int) t) PySem.F.slot_int_format PySem.F.entry_int_format PySem.F.args_int_format_2 (fun u => @gives_b n t u hn) h fit_b (bin_small n hn)
theorem pe_fmtB {X : Cx} {e : Expr} {te : TE} {pos p1 p2 : Pos} {k : Nat} (he : PE X e te) : PE X (.FormattedValue e (-1) (some (.JoinedStr [.Constant (.str "b") k p1] p2)) pos) (tFmtB te) := by
  constructor
  intro pins s σ H Q I h
  refine wpAny_FormattedValue_spec (thn (he.run pins s σ H _ I h) ?_)
  rintro v s1 ⟨x, H1, I1, rx, n, rfl, hn, q⟩
  obtain ⟨t, rfl⟩ := rx
  have js : PE X (.JoinedStr [.Constant (.str "b") k p1] p2) (tC (.str "b")) := pe_joined1 pe_str
  refine thn (js.run pins s1 σ H1 (fun y H2 => y = .str "b" ∧ H2 = H1) I1 ⟨rfl, rfl⟩) ?_
  rintro r s2 ⟨y, H2, I2, ry, rfl, rfl⟩
  obtain ⟨t2, rfl⟩ := ry
  exact ⟨_, t2, rfl, field_b hn ⟨.str (binText n), H2, I2.tok _, ⟨_, rfl⟩, q⟩⟩
end HopR

set_option Elab.async false
set_option linter.all false
set_option maxRecDepth 100000
namespace HopR
open PySem PySem.Spec PyProof.Rows L2
section
variable {X : Cx}
/-! ### x *= y, wide -/
def ipMulW : TIp := fun x y H Q => ∃ i j, x = .int i ∧ y = .int j ∧ CMulW i j ∧ Q (.int (i * j)) H
theorem ip_mulW : PIp X .Mult ipMulW := by
  intro pins s σ H x y v u Q I r1 r2 h
  obtain ⟨i, j, e1, e2, c, q⟩ := h
  subst e1; subst e2
  obtain ⟨t, rfl⟩ := r1
  obtain ⟨t', rfl⟩ := r2
  exact imul_int ⟨.int _, H, I.tok _, ⟨_, rfl⟩, q⟩ c.ok
/-! ### a body in a try whose exceptions are wished for by their class and heap alone -/
def tSome (W : WX) (tb : XK → TS) : TS := fun D σ H => ∃ E1 : XK, (∀ cls d σ' H', E1 cls d H' → W cls d σ' H') ∧ tb E1 D σ H
theorem pss_some {W : WX} {body : List Stmt} {tb : XK → TS} (h : ∀ E1 : XK, (∀ cls d σ' H', E1 cls d H' → W cls d σ' H') → PSs X body (tb E1)) : PSs X body (tSome W tb) :=
  ⟨fun pins s σ H D I ⟨E1, hW, q⟩ => (h E1 hW).run pins s σ H D I q⟩
end
/-! ### the figures of n by twos, from the left -/
def step2 (m c : Nat) : Nat := 2 * m + (if c = 49 then 1 else 0)
theorem bin_fold : ∀ n < 101, (binText n).cps.toList.foldl step2 0 = n := by decide +kernel
theorem step2_le : ∀ (cs : List Nat) (m : Nat), m ≤ cs.foldl step2 m
  | [], m => Nat.le_refl m
  | c :: r, m => by
    rw [List.foldl_cons]
    refine Nat.le_trans ?_ (step2_le r _)
    unfold step2
    omega
theorem bin_le {n i c : Nat} (hn : n < 101) (h : (binText n).cps[i]? = some c) : step2 (((binText n).cps.toList.take i).foldl step2 0) c = ((binText n).cps.toList.take (i + 1)).foldl step2 0 ∧ step2 (((binText n).cps.toList.take i).foldl step2 0) c ≤ n := by
  have e : ((binText n).cps.toList.take (i + 1)).foldl step2 0 = step2 (((binText n).cps.toList.take i).foldl step2 0) c := by
    have h2 : (binText n).cps.toList[i]? = some c := by
      rw [Array.getElem?_toList]
      exact h
    rw [List.take_add_one, h2, List.foldl_append]
    rfl
  refine ⟨e.symm, ?_⟩
  rw [← e]
  have := step2_le ((binText n).cps.toList.drop (i + 1)) (((binText n).cps.toList.take (i + 1)).foldl step2 0)
  rw [← List.foldl_append, List.take_append_drop, bin_fold n hn] at this
  exact this
theorem pow_lt {x : Int} {e m n : Nat} (h : x.natAbs < 2 ^ e) (hm : m ≤ n) : (x ^ m).natAbs < 2 ^ (e * n + 1) := by
  rw [Int.natAbs_pow]
  have h1 : x.natAbs ^ m ≤ (2 ^ e) ^ m := Nat.pow_le_pow_left (Nat.le_of_lt h) m
  rw [← Nat.pow_mul] at h1
  have h2 : 2 ^ (e * m) ≤ 2 ^ (e * n) := Nat.pow_le_pow_right (by decide) (Nat.mul_le_mul_left e hm)
  have h3 : 2 ^ (e * n) < 2 ^ (e * n + 1) := Nat.pow_lt_pow_right (by decide) (by omega)
  omega
end HopR

set_option Elab.async false
set_option linter.all false
set_option maxRecDepth 100000
namespace HopR
open PySem PySem.Spec PyProof.Rows L2
/-! ### == and != by an own __eq__ of a class of the text, whose own names hold no __ne__ -/
structure EqC (K : PySem.W.Frag) (C f : Addr) : Prop where
  eq : PySem.W.findIn K (.ref C) "__eq__" = some (some (.ref f))
  fn : PySem.W.isFn K (.ref f) = true
  own : ∃ nm q N bs hd sn sub ab col dd k0 k1 k2 k3 k5 nw, K.lookup C = some (excClassObj nm q C N bs [.type "object"] hd sn sub ab col dd k0 k1 k2 k3 k5 nw) ∧ PySem.W.nsOkIn K N = true ∧ PySem.W.nsIn K N "__eq__" = some (some (.ref f)) ∧ PySem.W.nsIn K N "__ne__" = some none
theorem name_here {K : PySem.W.Frag} {h : Heap} {N : Addr} {mg : Str → Option Value} {x : Str} {v : Value} (kin : K.In h) (names : h.Ns N mg) (e : PySem.W.nsIn K N x = some (some v)) : mg x = some v := by
  rcases names with ⟨o, es, ep, at_, data, -, find⟩
  rw [← find]
  revert e
  unfold PySem.W.nsIn
  cases look : K.lookup N with
  | none => exact fun e => nomatch e
  | some ob =>
    obtain rfl : ob = o := Option.some.inj ((kin _ _ look).symm.trans at_)
    obtain ⟨cls, dict, dat, slots⟩ := ob
    obtain rfl : dat = .dict es ep := data
    intro e
    unfold nsFind findBy
    rw [← Array.find?_toList]
    cases hit : es.toList.find? (·.key.isStr x) with
    | none =>
      simp only [hit] at e
      split at e <;> cases e
    | some en =>
      simp only [hit] at e
      cases e
      rfl
theorem fn_here {K : PySem.W.Frag} {h : Heap} {f : Addr} (kin : K.In h) (fn : PySem.W.isFn K (.ref f) = true) : ∃ o, h.get? f = some o ∧ o.cls = .type "function" := by
  have e : (K.lookup f).map (·.cls) = some (Value.type "function") := beq_iff_eq.mp fn
  obtain ⟨o, look, cls⟩ := Option.map_eq_some_iff.mp e
  exact ⟨o, kin _ _ look, cls⟩
theorem EqC.here {K : PySem.W.Frag} {h : Heap} {C f a : Addr} {o : Obj} (c : EqC K C f) (kin : K.In h) (at_ : h.get? a = some o) (cls : o.cls = .ref C) : h.OwnEqNoNe a C f "object" [.type "object"] := by
  obtain ⟨nm, q, N, bs, hd, sn, sub, ab, col, dd, k0, k1, k2, k3, k5, nw, look, ok, heq, hne⟩ := c.own
  obtain ⟨of, hf, hc⟩ := fn_here kin c.fn
  have names : h.Ns N (h.nsMap N) := .of_isNs (PySem.W.isNs_of_in kin ok)
  exact ⟨o, of, nm, q, N, bs, hd, sn, sub, ab, col, dd, k0, k1, k2, k3, k5, nw, h.nsMap N, _, at_, cls, kin _ _ look, names, name_here kin names heq, hf, hc, PySem.F.cmp_object.mro, PySem.F.cmp_object.eq.lookup, PySem.W.nsMap_none_of_in kin ok hne⟩
section
variable {X : Cx} {CX : CXT} {n : Nat} {C f : Addr} {fd : FuncData} {ps : List Str} {sp : Sp} {E : XK}
/-- two instances of the class; what its __eq__ promises of them, a truth -/
def rOwn (C : Addr) (sp : Sp) (E : XK) (neg : Bool) : R2 := fun x y H Q => ∃ a b dx dy fs gs, x = .ref a ∧ y = .ref b ∧ H a = some (.ins C dx fs) ∧ H b = some (.ins C dy gs) ∧ sp [.ref a, .ref b] H (fun v H' => ∃ k : Bool, v = .bl k ∧ Q (.bl (k ^^ neg)) H') E
theorem two_refs {a b : Addr} : Vals [V.ref a, V.ref b] [Value.ref a, Value.ref b] := .cons rfl (.cons rfl .nil)
theorem op_eqOwn (c : EqC X.K C f) (F : FnOk X.prog X.w X.K X.mg X.base CX n f fd ps sp) (room : Room n X.A) (bind : Binds X.K fd ps []) (lets : Passes CX X E) : OpR X (compareOp .Eq) (rOwn C sp E false) := by
  rintro pins s σ H _ _ v u Q I rx ry ⟨a, b, dx, dy, fs, gs, rfl, rfl, ha, hb, prom⟩
  cases rx; cases ry
  obtain ⟨_, J, _⟩ := ins_get I.hok ha
  obtain ⟨_, J', _⟩ := ins_get I.hok hb
  obtain ⟨_, J, _⟩ := J.look
  obtain ⟨_, J', _⟩ := J'.look
  obtain ⟨m, F0⟩ := I.fr
  refine PySem.W.cmp_K (op := .Eq) (tb := .ref C) room.units0 F0 I.ok.mod.kin J J'.type (by simp [PySem.W.notFirst]) c.eq c.fn (thn (call_at F room rfl bind lets I two_refs prom) ?_)
  rintro w s' ⟨z, H', I', rz, k, rfl, q⟩
  cases rz
  refine ⟨.bl k, H', I', rfl, ?_⟩
  rw [Bool.xor_false] at q
  exact q
theorem op_neOwn (c : EqC X.K C f) (F : FnOk X.prog X.w X.K X.mg X.base CX n f fd ps sp) (room : Room (n + 1) X.A) (bind : Binds X.K fd ps []) (lets : Passes CX X E) : OpR X (compareOp .NotEq) (rOwn C sp E true) := by
  rintro pins ⟨hp, g, d, t, os⟩ σ H _ _ v u Q I rx ry ⟨a, b, dx, dy, fs, gs, rfl, rfl, ha, hb, prom⟩
  cases rx; cases ry
  obtain ⟨_, J, _⟩ := ins_get I.hok ha
  obtain ⟨_, J', _⟩ := ins_get I.hok hb
  obtain ⟨_, J, _⟩ := J.look
  obtain ⟨_, J', _⟩ := J'.look
  have un := room.un
  refine compareOp_ne_ownEq PySem.F.cmp_object (c.here I.kIn J.at_ J.cls) J'.at_ J'.cls (by omega) (thn (call_at (A := X.A.in1) F room.in1 rfl bind lets I two_refs prom) ?_)
  rintro w s' ⟨z, H', I', rz, k, rfl, q⟩
  cases rz
  refine ⟨k, rfl, .bl (!k), H', I', rfl, ?_⟩
  rw [Bool.xor_true] at q
  exact q
end
end HopR

set_option Elab.async false
set_option linter.all false
set_option maxRecDepth 100000
namespace HopR
open PySem L2
/-- a list of draws by its places -/
theorem draws2 {c z0 z1 : Int} (h0 : 0 < z0) (h1 : 0 < z1) : ∃ d0 d1 : Int, draws c 0 [z0, z1] = [d0, d1] ∧ (0 ≤ d0 ∧ d0 < z0) ∧ (0 ≤ d1 ∧ d1 < z1) := by
  have hl := draws_len [z0, z1] c 0
  match hd : draws c 0 [z0, z1], hl with
  | [d0, d1], _ =>
    have hp : ∀ z ∈ [z0, z1], 0 < z := by
      intro z hz
      simp only [List.mem_cons, List.not_mem_nil, or_false] at hz
      rcases hz with rfl | rfl
      · exact h0
      · exact h1
    exact ⟨d0, d1, rfl, draws_ok _ c 0 hp 0 d0 z0 (by rw [hd]; rfl) rfl, draws_ok _ c 0 hp 1 d1 z1 (by rw [hd]; rfl) rfl⟩
end HopR

set_option Elab.async false
set_option linter.all false
set_option maxRecDepth 100000
namespace HopR
open PySem L2
/-! ### texts by their codes -/
def rt (cs : List Nat) : Str := ⟨cs.toArray⟩
def one (c : Nat) : Str := ⟨#[c]⟩
theorem rt_list (cs : List Nat) : (rt cs).cps.toList = cs := by simp [rt]
theorem rt_len (cs : List Nat) : (rt cs).length = cs.length := by
  show cs.toArray.size = cs.length
  simp
theorem rt_of (z : Str) : rt z.cps.toList = z := ext_str (rt_list _)
theorem rt_inj {a b : List Nat} (h : rt a = rt b) : a = b := by
  have := congrArg (fun q : Str => q.cps.toList) h
  simpa only [rt_list] using this
theorem rt_app (a b : List Nat) : rt a ++ rt b = rt (a ++ b) := by
  apply ext_str
  rw [rt_list]
  show ((rt a).cps ++ (rt b).cps).toList = a ++ b
  rw [Array.toList_append, rt_list, rt_list]
theorem rt_fit {cs : List Nat} (h : cs.length ≤ 10000) : (rt cs).length ≤ sizeLine := by
  rw [rt_len]
  exact fit h
theorem sg_rt (cs : List Nat) : sg (rt cs) = cs.map one := by
  unfold sg
  rw [rt_list]
  rfl
theorem join_rt (cs : List Nat) : Txt.join "" (cs.map one) = rt cs := by
  apply ext_str
  rw [join0_list, List.map_map, rt_list]
  induction cs with
  | nil => rfl
  | cons b r ih =>
    rw [List.map_cons, List.flatten_cons, ih]
    rfl
theorem ones_sum : ∀ cs : List Nat, ((cs.map one).map (·.length)).sum = cs.length
  | [] => rfl
  | c :: r => by
    rw [List.map_cons, List.map_cons, List.sum_cons, ones_sum r]
    show 1 + r.length = r.length + 1
    omega
theorem join_rt_fits {cs : List Nat} (h : cs.length ≤ 1000) : ((cs.map one).map (·.length)).sum + (cs.map one).length * ("" : Str).length ≤ 16777216 := by
  have e : ("" : Str).length = 0 := by decide +kernel
  rw [ones_sum, e, Nat.mul_zero]
  omega
theorem cut_rt (cs : List Nat) (lo hi : Option Int) : cutS (rt cs) lo hi = rt ((cs.drop (HT.sIx cs.length 0 lo)).take (HT.sIx cs.length cs.length hi - HT.sIx cs.length 0 lo)) := by
  apply ext_str
  unfold cutS
  rw [rt_len, rt_list, rt_list]
theorem cut_rt_to (cs : List Nat) (k : Nat) : cutS (rt cs) none (some (k : Int)) = rt (cs.take k) := by
  rw [cut_rt, HT.sIx_none, HT.sIx_nat, List.drop_zero, Nat.sub_zero]
  by_cases h : k ≤ cs.length
  · rw [Nat.min_eq_left h]
  · rw [Nat.min_eq_right (by omega), List.take_length, List.take_of_length_le (by omega)]
theorem cut_rt_from (cs : List Nat) (k : Nat) : cutS (rt cs) (some (k : Int)) none = rt (cs.drop k) := by
  rw [cut_rt, HT.sIx_none, HT.sIx_nat]
  by_cases h : k ≤ cs.length
  · rw [Nat.min_eq_left h, List.take_of_length_le (by rw [List.length_drop]; exact Nat.le_refl _)]
  · rw [Nat.min_eq_right (by omega), List.drop_length, List.drop_of_length_le (by omega), List.take_nil]
theorem one_inj {a b : Nat} (h : one a = one b) : a = b := by
  have := congrArg (fun q : Str => q.cps.toList) h
  exact (List.cons.inj this).1
theorem one_eq (a b : Nat) : (one a == one b) = decide (a = b) := by
  by_cases h : a = b
  · subst h
    simp
  · rw [decide_eq_false h]
    have : ¬ (one a = one b) := fun z => h (one_inj z)
    simp [this]
/-! ### signs in a written dict -/
theorem find_key (c : Nat) : ∀ (ts : List Nat) (L : List DictEntry), L.map (fun e => keyText e.key) = ts.map (fun q => some (one q)) → (L.find? (·.key.isStr (one c))).isSome = decide (c ∈ ts) ∧ L.any (·.refKey) = false
  | [], [], _ => ⟨by simp, rfl⟩
  | [], e :: r, h => by simp at h
  | q :: ts, [], h => by simp at h
  | q :: ts, e :: r, h => by
    rw [List.map_cons, List.map_cons] at h
    obtain ⟨h1, h2⟩ := List.cons.inj h
    obtain ⟨t, hk⟩ := keyText_str h1
    obtain ⟨i1, i2⟩ := find_key c ts r h2
    have e1 : e.key.isStr (one c) = decide (q = c) := by
      rw [hk]
      exact one_eq q c
    refine ⟨?_, ?_⟩
    · rw [List.find?_cons, e1]
      by_cases hq : q = c
      · rw [decide_eq_true hq]
        simp [hq]
      · rw [decide_eq_false hq]
        show (r.find? (·.key.isStr (one c))).isSome = _
        rw [i1]
        have : ¬ c = q := fun z => hq z.symm
        simp [this]
    · rw [List.any_cons, i2, Bool.or_false]
      unfold DictEntry.refKey
      rw [hk]
theorem key_in {K : PySem.W.Frag} {d : Addr} {es : Array DictEntry} {n : Nat} {ts : List Nat} (l : K.lookup d = some ⟨.type "dict", none, .dict es n, #[]⟩) (hk : es.toList.map (fun e => keyText e.key) = ts.map (fun q => some (one q))) (c : Nat) :
    ∃ r, PySem.W.nsIn K d (one c) = some r ∧ r.isSome = decide (c ∈ ts) := by
  obtain ⟨h1, h2⟩ := find_key c ts es.toList hk
  unfold PySem.W.nsIn
  rw [l]
  simp only
  cases hf : es.toList.find? (·.key.isStr (one c)) with
  | some e =>
    rw [hf] at h1
    exact ⟨_, rfl, h1⟩
  | none =>
    rw [hf] at h1
    simp only [h2]
    exact ⟨_, rfl, h1⟩
/-! ### rings -/
def okr (c : Nat) : Bool := decide (c ∈ [97, 98, 46])
def isRingB (z : Str) : Bool := decide (2 ≤ z.length) && (decide (z.length ≤ 12) && z.cps.toList.all okr)
/-- whether x is a ring -/
def RingB (K : PySem.W.Frag) (H : Hp) (x : V) (b : Bool) : Prop := (NoTxt K H x ∧ b = false) ∨ ∃ z : Str, x = .str z ∧ z.length ≤ 10000 ∧ b = isRingB z
theorem ringB_same {K : PySem.W.Frag} {H H' : Hp} {x : V} {b : Bool} (s : Same H H') (h : RingB K H x b) : RingB K H' x b := h.imp (fun ⟨q, e⟩ => ⟨notxt_same s q, e⟩) id
/-- a ring by its codes -/
structure Rg (cs : List Nat) : Prop where
  lo : 2 ≤ cs.length
  hi : cs.length ≤ 12
  ok : ∀ c ∈ cs, c ∈ [97, 98, 46]
theorem Rg.isB {cs : List Nat} (h : Rg cs) : isRingB (rt cs) = true := by
  unfold isRingB
  rw [rt_len, rt_list, decide_eq_true h.lo, decide_eq_true h.hi]
  show cs.all okr = true
  rw [List.all_eq_true]
  exact fun c hc => decide_eq_true (h.ok c hc)
/-- how far above the others a sign stands -/
def rk (c : Nat) : Nat := if c = 97 then 2 else if c = 98 then 1 else 0
def nxt (cs : List Nat) (i : Nat) : Nat := (i + 1) % cs.length
theorem nxt_lt {cs : List Nat} (h : Rg cs) (i : Nat) : nxt cs i < cs.length := Nat.mod_lt _ (Nat.lt_of_lt_of_le (by decide) h.lo)
/-- the signs at a place and at the next one exchanged -/
def swp (cs : List Nat) (i : Nat) : List Nat := (cs.set i (cs.getD (nxt cs i) 0)).set (nxt cs i) (cs.getD i 0)
theorem swp_len (cs : List Nat) (i : Nat) : (swp cs i).length = cs.length := by
  unfold swp
  rw [List.length_set, List.length_set]
def ups (cs : List Nat) (i : Nat) : Bool := decide (rk (cs.getD (nxt cs i) 0) < rk (cs.getD i 0))
def rchg (cs : List Nat) (m : Nat) : List Nat := (List.range m).filter (ups cs)
theorem rchg_succ (cs : List Nat) (i : Nat) : rchg cs (i + 1) = rchg cs i ++ (if ups cs i then [i] else []) := by
  unfold rchg
  rw [List.range_succ, List.filter_append]
  congr 1
  cases h : ups cs i with
  | true => simp [h]
  | false => simp [h]
theorem rchg_few (cs : List Nat) (m : Nat) : (rchg cs m).length ≤ m := by
  refine Nat.le_trans (List.length_filter_le _ _) ?_
  rw [List.length_range]
  exact Nat.le_refl _
/-- the data of the changes -/
def dchg (cs : List Nat) (ks : List Nat) : List PyData := ks.map fun (k : Nat) => PyData.tuple [.int (k : Int), .str (rt (swp cs k))]
/-- a list of tuples (place, ring) -/
def Tups (H : Hp) (cs : List Nat) : List Nat → List V → Prop
  | [], vs => vs = []
  | k :: r, vs => ∃ p vr, vs = .ref p :: vr ∧ H p = some (.tup [.int (k : Int), .str (rt (swp cs k))]) ∧ Tups H cs r vr
theorem tups_same {H H' : Hp} {cs : List Nat} (s : Same H H') : ∀ {ks : List Nat} {vs : List V}, Tups H cs ks vs → Tups H' cs ks vs
  | [], _, h => h
  | k :: r, _, ⟨p, vr, e, h1, h2⟩ => ⟨p, vr, e, s _ _ h1, tups_same s h2⟩
theorem tups_add {H : Hp} {cs : List Nat} {k : Nat} {p : Addr} (h1 : H p = some (.tup [.int (k : Int), .str (rt (swp cs k))])) : ∀ {ks : List Nat} {vs : List V}, Tups H cs ks vs → Tups H cs (ks ++ [k]) (vs ++ [.ref p])
  | [], _, h => by
    cases h
    exact ⟨p, [], rfl, h1, rfl⟩
  | q :: r, _, ⟨p', vr, e, h2, h3⟩ => ⟨p', vr ++ [.ref p], by rw [e]; rfl, h2, tups_add h1 h3⟩
theorem tups_upd {H : Hp} {cs : List Nat} {D : Addr} {xs : List V} {o : HO} (hD : H D = some (.lst xs)) : ∀ {ks : List Nat} {vs : List V}, Tups H cs ks vs → Tups (upd H D o) cs ks vs
  | [], _, h => h
  | k :: r, _, ⟨p, vr, e, h1, h2⟩ => ⟨p, vr, e, by
      rw [upd_ne (fun z => by rw [z, hD] at h1; cases h1)]
      exact h1, tups_upd hD h2⟩
theorem tups_len {H : Hp} {cs : List Nat} : ∀ {ks : List Nat} {vs : List V}, Tups H cs ks vs → vs.length = ks.length
  | [], _, h => by
    cases h
    rfl
  | k :: r, _, ⟨p, vr, e, _, h2⟩ => by
    rw [e, List.length_cons, List.length_cons, tups_len h2]
theorem tups_dp {K : PySem.W.Frag} {H : Hp} {cs : List Nat} : ∀ {ks : List Nat} {vs : List V}, Tups H cs ks vs → DpAll K H vs (dchg cs ks)
  | [], _, h => by
    cases h
    exact .nil
  | k :: r, _, ⟨p, vr, e, h1, h2⟩ => by
    rw [e]
    exact .cons (.tup (SqT.of h1) (.cons (.int _) (.cons (.str _) .nil))) (tups_dp h2)
theorem getD_small {cs : List Nat} (h : Rg cs) (i : Nat) : cs.getD i 0 < 1114112 := by
  rw [List.getD_eq_getElem?_getD]
  cases e : cs[i]? with
  | none => show 0 < 1114112; decide
  | some c =>
    have := h.ok c (List.mem_of_getElem? e)
    simp only [List.mem_cons, List.not_mem_nil, or_false] at this
    show c < 1114112
    omega
theorem strOk_swp {cs : List Nat} (h : Rg cs) (i : Nat) : PyData.strOk (rt (swp cs i)) = true := by
  unfold PyData.strOk
  rw [← Array.all_toList, rt_list, List.all_eq_true]
  intro c hc
  refine decide_eq_true ?_
  unfold swp at hc
  rcases List.mem_or_eq_of_mem_set hc with h1 | rfl
  · rcases List.mem_or_eq_of_mem_set h1 with h2 | rfl
    · have := h.ok c h2
      simp only [List.mem_cons, List.not_mem_nil, or_false] at this
      omega
    · exact getD_small h _
  · exact getD_small h _
theorem lay_dchg {cs : List Nat} (h : Rg cs) : ∀ ks : List Nat, PyData.canLayAll0 (dchg cs ks) = true
  | [] => rfl
  | k :: r => by
    show PyData.canLayAll0 (.tuple [.int (k : Int), .str (rt (swp cs k))] :: dchg cs r) = true
    simp only [PyData.canLayAll0, lay_dchg h r, Bool.and_true, PyData.canLay0, strOk_swp h]
theorem deep_dchg (cs : List Nat) : ∀ ks : List Nat, PyData.depthAll (dchg cs ks) ≤ 1
  | [] => by show 0 ≤ 1; decide
  | k :: r => by
    show PyData.depthAll (.tuple [.int (k : Int), .str (rt (swp cs k))] :: dchg cs r) ≤ 1
    have := deep_dchg cs r
    simp only [PyData.depthAll, PyData.depth]
    omega
theorem shaped_dchg {cs : List Nat} (h : Rg cs) (ks : List Nat) : SeqAt.shaped (.list (dchg cs ks)) = true := by
  unfold SeqAt.shaped
  rw [Bool.and_eq_true]
  refine ⟨?_, decide_eq_true ?_⟩
  · simp only [PyData.canLay0, lay_dchg h]
  · have := deep_dchg cs ks
    simp only [PyData.depth]
    omega
theorem eqv_dchg {cs : List Nat} (h : Rg cs) (ks : List Nat) : PyData.eqv (.list (dchg cs ks)) (.list (dchg cs ks)) = true := PySem.SeqAt.eqv_refl _ (by simp only [PyData.canLay0, lay_dchg h])
end HopR

set_option Elab.async false
set_option linter.all false
set_option maxRecDepth 100000
namespace HopR
open PySem PySem.Spec PyProof.Rows L2
section
variable {X : Cx}
/-- tuple(text) -/
def rTupT : List V → Hp → VK → Prop := fun vs H Q => ∃ z : Str, vs = [.str z] ∧ z.length ≤ sizeLine ∧ ∀ p : Addr, H p = none → Q (.ref p) (upd H p (.tup ((sg z).map V.str)))
theorem cr_tupT (hcm : X.calm = true) : CallR X (.type "tuple") rTupT := by
  rintro pins s σ H _ us Q I r ⟨z, rfl, hz, q⟩
  obtain ⟨_, rfl, t, rfl⟩ := vals1 r
  refine call_tuple_str (I.ok.hd hcm) z t (fun h' tk acc old items => ?_) hz
  have after : Inv X pins σ H { s with heap := h', toks := tk } := I.kept old
  refine ⟨.ref h'.objs.size, _, after.laid (t' := tk) (fun b o e => Heap.get?_push_of_some _ e) (Nat.le_refl _) ?_, rfl, q _ (after.hok.fresh (Nat.le_refl _))⟩
  refine ⟨by rw [List.length_map, sg_len]; exact hz, acc.toList, vals_of_strs (signs_are items), ?_⟩
  rw [Array.toArray_toList]
  exact IsTup.new _ _
end
/-! ### lists of whole numbers as data -/
def dis (zs : List Int) : List PyData := zs.map PyData.int
theorem dp_ints {K : PySem.W.Frag} {H : Hp} : ∀ zs : List Int, DpAll K H (zs.map V.int) (dis zs)
  | [] => .nil
  | z :: r => .cons (.int z) (dp_ints r)
theorem lay_ints : ∀ zs : List Int, PyData.canLayAll0 (dis zs) = true
  | [] => rfl
  | z :: r => by
    show PyData.canLayAll0 (.int z :: dis r) = true
    simp only [PyData.canLayAll0, lay_ints r, Bool.and_true]
    rfl
theorem deep_ints : ∀ zs : List Int, PyData.depthAll (dis zs) = 0
  | [] => rfl
  | z :: r => by
    show PyData.depthAll (.int z :: dis r) = 0
    simp only [PyData.depthAll, deep_ints r]
    rfl
theorem shaped_zs (zs : List Int) : SeqAt.shaped (.list (dis zs)) = true := by
  unfold SeqAt.shaped
  rw [Bool.and_eq_true]
  refine ⟨?_, decide_eq_true ?_⟩
  · simp only [PyData.canLay0, lay_ints]
  · simp only [PyData.depth, deep_ints]
    decide
theorem cut_ints (ns : List Int) (hi : Int) (hl : ns.length ≤ 63) : ∃ zs : List Int, cutV (ns.map V.int) none (some hi) = zs.map V.int ∧ zs.length ≤ 63 := by
  unfold cutV
  refine ⟨(ns.drop (HT.sIx (ns.map V.int).length 0 none)).take (HT.sIx (ns.map V.int).length (ns.map V.int).length (some hi) - HT.sIx (ns.map V.int).length 0 none), by rw [List.map_take, List.map_drop], ?_⟩
  rw [List.length_take, List.length_drop]
  omega
end HopR

set_option Elab.async false
set_option linter.all false
set_option maxRecDepth 100000
namespace HopR
open PySem PySem.Spec PyProof.Rows L2
/-! ### sorted(texts, reverse=True): the same texts, in some order -/
def ltS (v u : Value) : Bool := decide ((strOf v).cps.toList < (strOf u).cps.toList)
theorem swo_txt : SrtO.Swo ltS where
  asym x y h := decide_eq_false (List.lt_asymm (of_decide_eq_true h))
  tr x y z h1 h2 := by
    have a := List.not_lt.mp (of_decide_eq_false h1)
    have b := List.not_lt.mp (of_decide_eq_false h2)
    exact decide_eq_false (List.not_lt.mpr (List.le_trans a b))
section
variable {prog : Program} {w : World} {A : Around} {s : Shared}
theorem texts_sortable {l : Addr} {vs : List Value} {ss : List Str} (are : StrsAre vs ss) (two : 2 ≤ vs.length) : SrtO.SortableO prog w A s l vs ltS := by
  intro h' _
  refine ⟨oneType', fun Q E q => ?_, fun x y hx hy => ?_⟩
  · obtain ⟨a, b, r, rfl⟩ : ∃ a b r, vs = a :: b :: r := by
      match vs, two with
      | a :: b :: r, _ => exact ⟨a, b, r, rfl⟩
    rw [keyKind_strs are]
    exact wpAny_pure q
  · obtain ⟨a, t, ea⟩ := are.all _ hx
    obtain ⟨b, u, eb⟩ := are.all _ hy
    show wpAny (model prog w) A (keyLt' oneType' x.1 y.1) (fun r s' => s' = _ ∧ r = ltS x.1 y.1) (fun _ _ => False) _
    rw [ea, eb, keyLt'_oneType]
    exact oneLt_str ⟨rfl, rfl⟩
end
section
variable {X : Cx}
def rSortTR (K : PySem.W.Frag) : List V → List V → Hp → VK → Prop := fun vs zs H Q => ∃ (a : Addr) (xs : List Str), vs = [.ref a] ∧ zs = [.bl true] ∧ SqL K H a (xs.map V.str) ∧ ∀ (ys : List Str) (p : Addr), ys.Perm xs → H p = none → Q (.ref p) (upd H p (.lst (ys.map V.str)))
theorem strs_of_vals : ∀ {xs : List Str} {us : List Value}, Vals (xs.map V.str) us → StrsAre us xs
  | [], _, h => by
    cases h
    exact .nil
  | x :: r, _, h => by
    cases h with
    | cons a b =>
      obtain ⟨t, rfl⟩ := a
      exact .cons x t (strs_of_vals b)
theorem cr_sortTR : CallRK X (.builtin "sorted") [Str.ofString "reverse"] (rSortTR X.K) := by
  rintro pins s σ H _ _ us ws Q I r rz ⟨a, xs, rfl, rfl, hs, q⟩
  obtain rfl := Vals.ref1 r
  obtain ⟨w1, rfl, e1⟩ := vals1 rz
  obtain rfl : w1 = Value.bool true := e1
  obtain ⟨its, rv, hl, hz⟩ := I.list hs
  have are := strs_of_vals rv
  refine SrtR.sorted_ordK (b := true) (fun _ => rfl) (args_sorted_rev _ _) (fun _ => args_list_sort_rev _ _) swo_txt hl.isList (by rw [← rv.length]; exact hz) (fun two _ _ _ _ => texts_sortable are two) fun out _ stb => ?_
  have pm : out.reverse.Perm its := out.reverse_perm.trans (stb.perm.trans its.reverse_perm)
  have are' : StrsAre out.reverse (out.reverse.map strOf) := strsAre_map _ fun v hv => are.all v (pm.mem_iff.mp hv)
  have pm' : (out.reverse.map strOf).Perm xs := by
    have := pm.map strOf
    rw [are.strs] at this
    exact this
  obtain ⟨ep, at_⟩ := sortedAll_at s.heap its (if true = true then out.toArray.reverse else out.toArray)
  have hlen : ((out.reverse.map strOf).map V.str).length ≤ sizeLine := by
    rw [List.length_map, pm'.length_eq]
    rw [List.length_map] at hz
    exact hz
  refine ⟨.ref (s.heap.objs.size + 1), upd H (s.heap.objs.size + 1) (.lst ((out.reverse.map strOf).map V.str)), I.laid (t' := s.toks) (fun _ _ => sortedAll_old) (Nat.le_succ _) ⟨hlen, out.reverse, ep, vals_of_strs are', ?_⟩, rfl, q _ _ pm' (I.hok.fresh (Nat.le_succ _))⟩
  rw [at_]
  simp
end
end HopR

set_option Elab.async false
set_option linter.all false
set_option maxRecDepth 100000
namespace HopR
open PySem PySem.Spec PyProof.Rows L2
/-! ### walks that hand out new tuples -/
/-- n turns; at each a new tuple of items that Y tells -/
def ItTup (n : Nat) (Y : Nat → List V → Prop) : It :=
  ⟨fun i _ => i < n, fun i H v H' => ∃ T xs, v = .ref T ∧ H T = none ∧ H' = upd H T (.tup xs) ∧ Y i xs, fun i _ => n ≤ i⟩
theorem turn_tup {P : Program} {w : World} {K : PySem.W.Frag} {elts : List Expr} {kk : Nat} {tpos : Pos} {it : Addr} {fp wr : List Addr} {n : Nat} {Pt : Nat → Array Value → Prop} {St : Nat → Heap → Prop} {Mid : Nat → Addr → Heap → Prop} {Y : Nat → List V → Prop}
    (mem : it ∈ fp) (obj : ∀ i h, St i h → ∀ b ∈ fp, ∃ o, h.get? b = some o ∧ ∀ v, o.data ≠ .cell v) (W : ∀ A : Around, A.handled = none → WalksT P w A it fp wr n Pt St Mid)
    (tells : ∀ i vals, Pt i vals → ∃ xs, xs.length ≤ sizeLine ∧ Vals xs vals.toList ∧ Y i xs) (self : ∀ (A : Around) (i : Nat) (s : Shared) (Q : Value → Shared → Prop) (E : Value → Shared → Prop), St i s.heap → Q (.ref it) s → wpAny (model P w) A (pyIter (.ref it)) Q E s)
    (W0 : WalksT P w callerA it fp wr n Pt St Mid) :
    Turn P w K (.Tuple elts kk tpos) (ItTup n Y) fp it (fun i h => i ≤ n ∧ St i h) where
  mem := mem
  obj i h st := obj i h st.2
  keep i h h' st k := ⟨st.1, W0.frame i h h' st.2 k⟩
  item := by
    intro X hP hw hK calm i pins s σ H E I free st go
    subst hP hw hK
    have V := W X.A (I.ok.hd calm)
    refine V.item i s _ E go st.2 fun T vals h1 tk told new tup mid old => ⟨.ref T, rfl, ?_⟩
    refine V.go elts kk tpos i T _ _ E mid fun h2 st2 old2 => ?_
    obtain ⟨xs, few, are, y⟩ := tells i vals told
    have out := V.apart i T h1 mid
    obtain ⟨o, ho, hr⟩ := tup
    have tup2 : h2.IsTuple T vals := ⟨o, old2 T o out ho, hr⟩
    have ok : ObjOk X.prog X.w (upd H T (.tup xs)) h2 T (.tup xs) := ⟨few, vals.toList, are, by rw [Array.toArray_toList]; exact tup2⟩
    have J : Inv X pins σ (upd H T (.tup xs)) { s with heap := h2, toks := tk } := I.turnedNew (ch := fp) (fun b ob nb q => old2 b ob (fun z => nb (V.sub b z)) (old b ob (fun z => nb (V.sub b z)) q)) free new ok
    refine ⟨.ref T, _, J, rfl, ⟨T, xs, rfl, I.hok.fresh new, rfl, y⟩, ⟨go, st2⟩, fun b hb => ?_⟩
    obtain ⟨ob, q, _⟩ := obj i s.heap st.2 b hb
    rw [upd_ne (Nat.ne_of_lt (Nat.lt_of_lt_of_le (Heap.lt_size q) new))]
    exact (free b hb).1
  done := by
    intro X hP hw hK calm i pins s σ H E I free st stop
    subst hP hw hK
    have V := W X.A (I.ok.hd calm)
    obtain rfl : i = n := Nat.le_antisymm st.1 stop
    exact V.done s _ E st.2 fun h1 tk old => ⟨rfl, I.turnedL (ch := fp) (fun b o nb q => old b o (fun z => nb (V.sub b z)) q) free⟩
  self A i s Q E st q := self A i s Q E st.2 q
/-- a loop over such a walk -/
theorem walk_tup {n : Nat} {Y : Nat → List V → Prop} : Walk (ItTup n Y) n (fun _ => True) (fun i H v H' => ∃ T xs, v = .ref T ∧ H T = none ∧ H' = upd H T (.tup xs) ∧ Y i xs) :=
  ⟨fun _ _ lt _ => lt, fun _ _ => Nat.le_refl _, fun _ _ _ _ _ _ y => y⟩
/-! ### zip(text, text) -/
theorem draws_txt {prog : Program} {w : World} {A : Around} (hh : A.handled = none) (it : Addr) (x : Str) (t : Tok) :
    Draws prog w A it [it] x.cps.size (fun i v => ∃ c u, x.cps[i]? = some c ∧ v = .str ⟨#[c]⟩ u) (fun i h => h.IsStrIter it (strIterType x) x t i) := by
  unfold strIterType
  split
  · exact .strAscii hh it x t
  · exact .strWide hh it x t
/-- the signs of both texts, place by place -/
def ZipY (x y : Str) (i : Nat) (vs : List V) : Prop := ∃ c e, x.cps[i]? = some c ∧ y.cps[i]? = some e ∧ vs = [.str ⟨#[c]⟩, .str ⟨#[e]⟩]
def iZipS (ta : TA) : TI := fun σ H R => ta σ H fun vs H1 => ∃ x y : Str, vs = [.str x, .str y] ∧ R (ItTup (min x.cps.size y.cps.size) (ZipY x y)) H1
theorem pi_zipS {X : Cx} {e e2 : Expr} {ta : TA} {p pos tpos : Pos} {elts : List Expr} {kk : Nat} (hg : Gl X "zip") (hm : X.mg "zip" = none) (ha : PA X [e, e2] ta)
    (hs : starEach [e, e2] X.env = (false, eval e X.env) :: starEach [e2] X.env := by rfl) (hpl : (backTo pos (starEach [e2] X.env)).any (·.1) = false := by rfl) :
    PI X (.Tuple elts kk tpos) (.Call (.Name "zip" p) [e, e2] [] pos) (iZipS ta) := by
  constructor
  intro pins s σ H R I h
  refine Call_ (ld_blt I hg hm boot_zip (callWith_type1 (thn (ha.run pos pins s σ H _ I h) ?_) hs hpl))
  rintro us s1 ⟨_, H1, J, rel, x, y, rfl, q⟩
  obtain ⟨_, _, rfl, ⟨t, rfl⟩, u, rfl⟩ := vals2 rel
  refine zip_begins2 (begins_text x t) (begins_text y u) trivial trivial fun h' isz pin pout at1 at2 _ old => wpAny_pyIter_zip isz ?_
  have sep : ZipSep2 (s1.heap.objs.size + 4) (s1.heap.objs.size + 2) (s1.heap.objs.size + 3) s1.heap.objs.size (s1.heap.objs.size + 1) [s1.heap.objs.size] [s1.heap.objs.size + 1] := by
    constructor <;> simp
  have W : ∀ A : Around, A.handled = none → WalksT X.prog X.w A (s1.heap.objs.size + 4) _ _ _ _ _ _ := fun A hh => WalksT.zipD2 sep (draws_txt (A := A.in1) hh s1.heap.objs.size x t) (draws_txt (A := A.in1) hh (s1.heap.objs.size + 1) y u)
  refine ⟨s1.heap.objs.size + 4, _, _, _, H1, rfl, J.kept (t' := s1.toks) old, turn_tup (Y := ZipY x y) (by simp) ?_ W ?_ ?_ (W callerA rfl), ⟨Nat.zero_le _, isz, pin, ⟨_, _, pout⟩, ⟨_, at1, rfl, rfl⟩, ⟨_, at2, rfl, rfl⟩⟩, ?_, q⟩
  · rintro i h ⟨hz, h1, ⟨_, _, h2⟩, ⟨o1, g1, _, d1⟩, ⟨o2, g2, _, d2⟩⟩ b hb
    have hb : b = s1.heap.objs.size + 4 ∨ b = s1.heap.objs.size + 2 ∨ b = s1.heap.objs.size + 3 ∨ b = s1.heap.objs.size ∨ b = s1.heap.objs.size + 1 := by simpa using hb
    rcases hb with rfl | rfl | rfl | rfl | rfl
    · exact ⟨_, hz, fun v q => nomatch q⟩
    · exact ⟨_, h1, fun v q => nomatch q⟩
    · exact ⟨_, h2, fun v q => nomatch q⟩
    · exact ⟨o1, g1, fun v q => by rw [d1] at q; cases q⟩
    · exact ⟨o2, g2, fun v q => by rw [d2] at q; cases q⟩
  · rintro i vals ⟨_, _, ⟨c, t1, hc, rfl⟩, ⟨e, t2, he, rfl⟩, rfl⟩
    exact ⟨[.str ⟨#[c]⟩, .str ⟨#[e]⟩], by show 2 ≤ sizeLine; decide, .cons ⟨t1, rfl⟩ (.cons ⟨t2, rfl⟩ .nil), c, e, hc, he, rfl⟩
  · exact fun A i s Q E st q => wpAny_pyIter_zip st.1 q
  · intro b hb
    have hb : b = s1.heap.objs.size + 4 ∨ b = s1.heap.objs.size + 2 ∨ b = s1.heap.objs.size + 3 ∨ b = s1.heap.objs.size ∨ b = s1.heap.objs.size + 1 := by simpa using hb
    have le : s1.heap.objs.size ≤ b := by
      rcases hb with rfl | rfl | rfl | rfl | rfl
      · exact Nat.le_add_right _ _
      · exact Nat.le_add_right _ _
      · exact Nat.le_add_right _ _
      · exact Nat.le_refl _
      · exact Nat.le_add_right _ _
    exact J.fpOk le (J.hok.fresh le)
end HopR

set_option Elab.async false
set_option linter.all false
set_option maxRecDepth 100000
namespace HopR
open PySem L2
/-! ### a row beneath a row -/
def ust (u l : Bool) : Int := (if u then 1 else 0) - (if l then 0 else 1)
def bn : Int → List Bool → List Bool → Bool
  | o, u :: us, l :: ls => if o + ust u l < 0 then false else bn (o + ust u l) us ls
  | o, _, _ => decide (o = 0)
theorem bn_nil (o : Int) (ls : List Bool) : bn o [] ls = decide (o = 0) := by
  cases ls <;> rfl
theorem bn_cons (o : Int) (u l : Bool) (us ls : List Bool) : bn o (u :: us) (l :: ls) = if o + ust u l < 0 then false else bn (o + ust u l) us ls := rfl
def rise (b : Bool) : Int := if b then 1 else -1
theorem rise_two (u l : Bool) : rise u + rise l = 2 * ust u l := by cases u <;> cases l <;> rfl
/-- as the law looks -/
def lb : Int → List Bool → List Nat → Bool
  | h, u :: us, c :: cs => if okc c = false then false else if h + rise u + rise (decide (c = 111)) < 0 then false else lb (h + rise u + rise (decide (c = 111))) us cs
  | h, _, _ => decide (h = 0)
def bls (cs : List Nat) : List Bool := cs.map fun c => decide (c = 111)
theorem lb_eq : ∀ (us : List Bool) (cs : List Nat) (o : Int), us.length = cs.length → lb (2 * o) us cs = (cs.all okc && bn o us (bls cs))
  | [], [], o, _ => by
    show decide (2 * o = 0) = (true && decide (o = 0))
    by_cases h : o = 0
    · rw [decide_eq_true h, decide_eq_true (by omega)]; rfl
    · rw [decide_eq_false h, decide_eq_false (by omega)]; rfl
  | [], c :: cs, o, h => by simp at h
  | u :: us, [], o, h => by simp at h
  | u :: us, c :: cs, o, h => by
    have hl : us.length = cs.length := by simpa using h
    show (if okc c = false then false else if 2 * o + rise u + rise (decide (c = 111)) < 0 then false else lb (2 * o + rise u + rise (decide (c = 111))) us cs) = ((okc c && cs.all okc) && (if o + ust u (decide (c = 111)) < 0 then false else bn (o + ust u (decide (c = 111))) us (bls cs)))
    cases hc : okc c with
    | false => rfl
    | true =>
      rw [if_neg (by decide)]
      have e := rise_two u (decide (c = 111))
      have e2 : 2 * o + rise u + rise (decide (c = 111)) = 2 * (o + ust u (decide (c = 111))) := by omega
      rw [e2, lb_eq us cs _ hl, Bool.true_and]
      by_cases hn : o + ust u (decide (c = 111)) < 0
      · rw [if_pos hn, if_pos (by omega), Bool.and_false]
      · rw [if_neg hn, if_neg (by omega)]
/-- whether x is beneath the row of bs -/
def bnB (bs : List Bool) (cs : List Nat) : Bool := decide (cs.length = bs.length) && (cs.all okc && bn 0 bs (bls cs))
def BnB (K : PySem.W.Frag) (H : Hp) (bs : List Bool) (x : V) (b : Bool) : Prop := (NoTxt K H x ∧ b = false) ∨ ∃ cs : List Nat, x = .str (rt cs) ∧ cs.length ≤ 10000 ∧ b = bnB bs cs
theorem bnB_same {K : PySem.W.Frag} {H H' : Hp} {bs : List Bool} {x : V} {b : Bool} (s : Same H H') (h : BnB K H bs x b) : BnB K H' bs x b := h.imp (fun ⟨q, e⟩ => ⟨notxt_same s q, e⟩) id
theorem tx_rt (bs : List Bool) : tx bs = rt (bs.map cd) := ext_str (by rw [tx_list, rt_list])
theorem bls_tx (bs : List Bool) : bls (bs.map cd) = bs := by
  unfold bls
  rw [List.map_map]
  conv => rhs; rw [← List.map_id bs]
  congr 1
  funext b
  cases b <;> rfl
theorem okc_map (bs : List Bool) : (bs.map cd).all okc = true := by
  rw [List.all_map, List.all_eq_true]
  exact fun b _ => okc_cd b
theorem okc_row {cs : List Nat} (h : cs.all okc = true) : rt cs = tx (bls cs) := by
  rw [tx_rt]
  congr 1
  unfold bls
  rw [List.map_map]
  conv => lhs; rw [← List.map_id cs]
  apply List.map_congr_left
  intro c hc
  have := List.all_eq_true.mp h c hc
  unfold okc at this
  simp only [Bool.or_eq_true, decide_eq_true_eq] at this
  rcases this with rfl | rfl <;> rfl
theorem bnB_tx (bs ls : List Bool) : bnB bs (ls.map cd) = (decide (ls.length = bs.length) && bn 0 bs ls) := by
  unfold bnB
  rw [List.length_map, okc_map, bls_tx, Bool.true_and]
end HopR

set_option Elab.async false
set_option linter.all false
set_option maxRecDepth 100000
namespace HopR
open PySem L2
/-! ### how many ways lead on from each height -/
def geti (L : List Int) (i : Int) : Int := if 0 ≤ i ∧ i < (L.length : Int) then L.getD i.toNat 0 else 0
def own (b : Bool) (L : List Int) : List Int := (List.range L.length).map fun h : Nat => geti L ((h : Int) + (rise b - 1)) + geti L ((h : Int) + (rise b + 1))
def tab (L0 : List Int) : List Bool → List (List Int)
  | [] => [L0]
  | b :: bs => own b ((tab L0 bs).headD []) :: tab L0 bs
theorem own_len (b : Bool) (L : List Int) : (own b L).length = L.length := by
  unfold own
  rw [List.length_map, List.length_range]
theorem own_at {b : Bool} {L : List Int} {h : Nat} (hh : h < L.length) : geti (own b L) (h : Int) = geti L ((h : Int) + (rise b - 1)) + geti L ((h : Int) + (rise b + 1)) := by
  conv => lhs; unfold geti
  rw [if_pos ⟨by omega, by rw [own_len]; omega⟩]
  unfold own
  rw [Int.toNat_natCast, List.getD_eq_getElem?_getD, List.getElem?_map, List.getElem?_range hh]
  rfl
/-- the table from the row's beginning on -/
def hd (L0 : List Int) (bs : List Bool) : List Int := (tab L0 bs).headD []
theorem tab_hd (L0 : List Int) (bs : List Bool) : ∃ r, tab L0 bs = hd L0 bs :: r := by
  cases bs with
  | nil => exact ⟨[], rfl⟩
  | cons b r => exact ⟨tab L0 r, rfl⟩
theorem hd_cons (L0 : List Int) (b : Bool) (bs : List Bool) : hd L0 (b :: bs) = own b (hd L0 bs) := rfl
theorem hd_len (L0 : List Int) : ∀ bs : List Bool, (hd L0 bs).length = L0.length
  | [] => rfl
  | b :: r => by rw [hd_cons, own_len, hd_len L0 r]
theorem tab_len (L0 : List Int) : ∀ bs : List Bool, (tab L0 bs).length = bs.length + 1
  | [] => rfl
  | b :: r => by
    show (tab L0 r).length + 1 = r.length + 1 + 1
    rw [tab_len L0 r]
theorem tab_at (L0 : List Int) : ∀ (bs : List Bool) (k : Nat), k ≤ bs.length → (tab L0 bs)[k]? = some (hd L0 (bs.drop k))
  | bs, 0, _ => by
    obtain ⟨r, e⟩ := tab_hd L0 bs
    rw [e]
    rfl
  | [], k + 1, h => by simp at h
  | b :: r, k + 1, h => by
    show (tab L0 r)[k]? = some (hd L0 (r.drop k))
    exact tab_at L0 r k (by simpa using h)
theorem geti_nn {L : List Int} (h : ∀ x ∈ L, 0 ≤ x) (i : Int) : 0 ≤ geti L i := by
  unfold geti
  split
  · rw [List.getD_eq_getElem?_getD]
    cases e : L[i.toNat]? with
    | none => exact Int.le_refl _
    | some x => exact h x (List.mem_of_getElem? e)
  · exact Int.le_refl _
theorem own_nn {b : Bool} {L : List Int} (h : ∀ x ∈ L, 0 ≤ x) : ∀ x ∈ own b L, 0 ≤ x := by
  intro x hx
  obtain ⟨i, _, rfl⟩ := List.mem_map.mp hx
  have h1 := geti_nn h ((i : Int) + (rise b - 1))
  have h2 := geti_nn h ((i : Int) + (rise b + 1))
  omega
theorem hd_nn {L0 : List Int} (h : ∀ x ∈ L0, 0 ≤ x) : ∀ bs : List Bool, ∀ x ∈ hd L0 bs, 0 ≤ x
  | [] => h
  | b :: r => by
    rw [hd_cons]
    exact own_nn (hd_nn h r)
/-- something always leads on from height 0 -/
theorem hd_zero {L0 : List Int} (h : ∀ x ∈ L0, 0 ≤ x) (h0 : 0 < geti L0 0) (hl : 0 < L0.length) : ∀ bs : List Bool, 0 < geti (hd L0 bs) 0
  | [] => h0
  | b :: r => by
    have ih := hd_zero h h0 hl r
    have e := own_at (b := b) (L := hd L0 r) (h := 0) (by rw [hd_len]; exact hl)
    rw [hd_cons]
    have e' : geti (own b (hd L0 r)) 0 = geti (own b (hd L0 r)) ((0 : Nat) : Int) := rfl
    rw [e', e]
    have n1 := geti_nn (hd_nn h r) (((0 : Nat) : Int) + (rise b - 1))
    have n2 := geti_nn (hd_nn h r) (((0 : Nat) : Int) + (rise b + 1))
    cases b with
    | true =>
      have : (((0 : Nat) : Int) + (rise true - 1)) = 0 := rfl
      rw [this] at n1 ⊢
      omega
    | false =>
      have : (((0 : Nat) : Int) + (rise false + 1)) = 0 := rfl
      rw [this] at n2 ⊢
      omega
theorem geti_at {L : List Int} {j : Nat} (h : j < L.length) : atI (L.map V.int) (j : Int) = some (.int (geti L (j : Int))) := atI_nat (by
  unfold geti
  rw [if_pos ⟨by omega, by omega⟩, List.getElem?_map, List.getD_eq_getElem?_getD, Int.toNat_natCast, List.getElem?_eq_getElem h]
  rfl)
/-! ### lists of lists -/
def Lsts (H : Hp) (o : Addr) : List (List Int) → List V → Prop
  | [], vs => vs = []
  | L :: r, vs => ∃ p vr, vs = .ref p :: vr ∧ p ≠ o ∧ H p = some (.lst (L.map V.int)) ∧ Lsts H o r vr
theorem lsts_same {H H' : Hp} {o : Addr} (s : Same H H') : ∀ {Ls : List (List Int)} {vs : List V}, Lsts H o Ls vs → Lsts H' o Ls vs
  | [], _, h => h
  | L :: r, _, ⟨p, vr, e, n, h1, h2⟩ => ⟨p, vr, e, n, s _ _ h1, lsts_same s h2⟩
theorem lsts_upd {H : Hp} {o : Addr} {x : HO} : ∀ {Ls : List (List Int)} {vs : List V}, Lsts H o Ls vs → Lsts (upd H o x) o Ls vs
  | [], _, h => h
  | L :: r, _, ⟨p, vr, e, n, h1, h2⟩ => ⟨p, vr, e, n, by rw [upd_ne n]; exact h1, lsts_upd h2⟩
theorem lsts_len {H : Hp} {o : Addr} : ∀ {Ls : List (List Int)} {vs : List V}, Lsts H o Ls vs → vs.length = Ls.length
  | [], _, h => by
    cases h
    rfl
  | L :: r, _, ⟨p, vr, e, _, _, h2⟩ => by rw [e, List.length_cons, List.length_cons, lsts_len h2]
theorem lsts_at {H : Hp} {o : Addr} : ∀ {Ls : List (List Int)} {vs : List V} {k : Nat} {L : List Int}, Lsts H o Ls vs → Ls[k]? = some L → ∃ p, vs[k]? = some (.ref p) ∧ H p = some (.lst (L.map V.int))
  | [], _, k, L, h, e => by simp at e
  | M :: r, _, 0, L, ⟨p, vr, ev, _, h1, h2⟩, e => by
    have : M = L := Option.some.inj e
    subst this
    exact ⟨p, by rw [ev]; rfl, h1⟩
  | M :: r, _, k + 1, L, ⟨p, vr, ev, _, h1, h2⟩, e => by
    obtain ⟨p', e1, e2⟩ := lsts_at (k := k) h2 e
    exact ⟨p', by rw [ev]; exact e1, e2⟩
end HopR

set_option Elab.async false
set_option linter.all false
set_option maxRecDepth 100000
namespace HopR
open PySem L2
/-! ### lists of new tuples -/
def TupG {α : Type} (H : Hp) (f : α → List V) : List α → List V → Prop
  | [], vs => vs = []
  | a :: r, vs => ∃ p vr, vs = .ref p :: vr ∧ H p = some (.tup (f a)) ∧ TupG H f r vr
section
variable {α : Type} {H H' : Hp} {f : α → List V}
theorem tupG_same (s : Same H H') : ∀ {as : List α} {vs : List V}, TupG H f as vs → TupG H' f as vs
  | [], _, h => h
  | _ :: _, _, ⟨p, vr, e, h1, h2⟩ => ⟨p, vr, e, s _ _ h1, tupG_same s h2⟩
theorem tupG_upd {D : Addr} {xs : List V} {o : HO} (hD : H D = some (.lst xs)) : ∀ {as : List α} {vs : List V}, TupG H f as vs → TupG (upd H D o) f as vs
  | [], _, h => h
  | _ :: _, _, ⟨p, vr, e, h1, h2⟩ => ⟨p, vr, e, by
      rw [upd_ne (fun z => by rw [z, hD] at h1; cases h1)]
      exact h1, tupG_upd hD h2⟩
theorem tupG_add {a : α} {p : Addr} (h1 : H p = some (.tup (f a))) : ∀ {as : List α} {vs : List V}, TupG H f as vs → TupG H f (as ++ [a]) (vs ++ [.ref p])
  | [], _, h => by
    cases h
    exact ⟨p, [], rfl, h1, rfl⟩
  | _ :: _, _, ⟨p', vr, e, h2, h3⟩ => ⟨p', vr ++ [.ref p], by rw [e]; rfl, h2, tupG_add h1 h3⟩
theorem tupG_len : ∀ {as : List α} {vs : List V}, TupG H f as vs → vs.length = as.length
  | [], _, h => by
    cases h
    rfl
  | _ :: _, _, ⟨_, vr, e, _, h2⟩ => by rw [e, List.length_cons, List.length_cons, tupG_len h2]
theorem tupG_at : ∀ {as : List α} {vs : List V} {k : Nat} {a : α}, TupG H f as vs → as[k]? = some a → ∃ p, vs[k]? = some (.ref p) ∧ H p = some (.tup (f a))
  | [], _, k, a, h, e => by simp at e
  | b :: r, _, 0, a, ⟨p, vr, ev, h1, h2⟩, e => by
    have : b = a := Option.some.inj e
    subst this
    exact ⟨p, by rw [ev]; rfl, h1⟩
  | b :: r, _, k + 1, a, ⟨p, vr, ev, h1, h2⟩, e => by
    obtain ⟨p', e1, e2⟩ := tupG_at (k := k) h2 e
    exact ⟨p', by rw [ev]; exact e1, e2⟩
end
/-! ### from height to height -/
theorem geti_pos {L : List Int} {i : Int} (h : 0 < geti L i) : 0 ≤ i ∧ i < (L.length : Int) := by
  unfold geti at h
  split at h
  · assumption
  · omega
/-- the sign l leads on from height h -/
def leads (L : List Int) (h : Int) (u l : Bool) : Bool := decide (0 ≤ h + rise u + rise l) && decide (0 < geti L (h + rise u + rise l))
theorem some_leads {L : List Int} {h : Nat} {u : Bool} (hh : h < L.length) (hp : 0 < geti (own u L) (h : Int)) : ∃ l, leads L (h : Int) u l = true := by
  rw [own_at hh] at hp
  by_cases h1 : 0 < geti L ((h : Int) + (rise u - 1))
  · refine ⟨false, ?_⟩
    have e : (h : Int) + rise u + rise false = (h : Int) + (rise u - 1) := by
      show (h : Int) + rise u + (-1) = _
      omega
    unfold leads
    rw [e, decide_eq_true (geti_pos h1).1, decide_eq_true h1]
    rfl
  · have h2 : 0 < geti L ((h : Int) + (rise u + 1)) := by omega
    refine ⟨true, ?_⟩
    have e : (h : Int) + rise u + rise true = (h : Int) + (rise u + 1) := by
      show (h : Int) + rise u + 1 = _
      omega
    unfold leads
    rw [e, decide_eq_true (geti_pos h2).1, decide_eq_true h2]
    rfl
end HopR

set_option Elab.async false
set_option linter.all false
set_option maxRecDepth 100000
namespace HopR
open PySem L2
/-! ### fractions above nought -/
theorem num_pos {q : Rat} (h : 0 < q) : 0 < q.num := by
  have h1 : 0 ≤ q.num := Rat.num_nonneg.mpr (by grind)
  have h2 : q.num ≠ 0 := fun e => by
    have : q = 0 := Rat.num_eq_zero.mp e
    rw [this] at h
    exact absurd h (by decide)
  omega
theorem pos_num {q : Rat} (h : 0 < q.num) : 0 < q := by
  have h1 : 0 ≤ q := Rat.num_nonneg.mp (by omega)
  have h2 : q ≠ 0 := fun e => by
    rw [e] at h
    exact absurd h (by decide)
  grind
theorem add_above {x y : Rat} (h : 0 ≤ y) (h2 : 0 < x) : 0 < y + x := by grind
theorem le_above {x : Rat} (h : 0 < x) : 0 ≤ x := by grind
theorem div_ne {q r : Rat} (h : 0 < q) (h2 : 0 < r) : q / r ≠ 0 := by
  rw [Rat.div_def]
  intro e
  rcases Rat.mul_eq_zero.mp e with e | e
  · rw [e] at h
    exact absurd h (by decide)
  · have h3 : r = 0 := by rw [← Rat.inv_inv r, e, Rat.inv_zero]
    rw [h3] at h2
    exact absurd h2 (by decide)
theorem ne_above {x : Rat} (h : 0 < x) : x ≠ 0 := fun e => by
  rw [e] at h
  exact absurd h (by decide)
theorem nat_low (n : Nat) : (0 : Rat) ≤ ((n : Int) : Rat) := by exact_mod_cast Nat.zero_le n
theorem nat_above {n : Nat} (h : 0 < n) : (0 : Rat) < ((n : Int) : Rat) := by exact_mod_cast h
theorem rat_int (t : Int) : Rat.divInt t 1 = (t : Rat) := by
  rw [Rat.divInt_eq_div]
  show (t : Rat) / ((1 : Int) : Rat) = (t : Rat)
  rw [Rat.div_def]
  have e : ((1 : Int) : Rat)⁻¹ = 1 := by decide +kernel
  rw [e, Rat.mul_one]
theorem sz_int {n k : Nat} (h : n < 2 ^ k) (hk : 1 ≤ k) : Sz k ((n : Int) : Rat) := by
  refine ⟨h, ?_⟩
  show 1 < 2 ^ k
  exact Nat.one_lt_two_pow (by omega)
theorem sz_add {n m : Nat} {q r : Rat} (h1 : Sz n q) (h2 : Sz m r) : Sz (n + m + 1) (q + r) := by
  rw [add_eq]
  have b1 : (q.num * r.den).natAbs < 2 ^ (n + m) := by
    rw [Int.natAbs_mul, Nat.pow_add]
    exact Nat.mul_lt_mul'' h1.1 h2.2
  have b2 : (r.num * q.den).natAbs < 2 ^ (n + m) := by
    rw [Int.natAbs_mul, Nat.add_comm, Nat.pow_add]
    exact Nat.mul_lt_mul'' h2.1 h1.2
  refine sz_divInt (Int.mul_ne_zero (den_ne q) (den_ne r)) ?_ ?_
  · exact Nat.lt_of_le_of_lt (Int.natAbs_add_le _ _) (two_lt b1 b2)
  · rw [Int.natAbs_mul]
    have h3 : q.den * r.den < 2 ^ (n + m) := by
      rw [Nat.pow_add]
      exact Nat.mul_lt_mul'' h1.2 h2.2
    exact Nat.lt_of_lt_of_le h3 (Nat.pow_le_pow_right (by decide) (by omega))
theorem sz_mul {n m : Nat} {q r : Rat} (h1 : Sz n q) (h2 : Sz m r) : Sz (n + m) (q * r) := by
  rw [mul_eq]
  refine sz_divInt (Int.mul_ne_zero (den_ne q) (den_ne r)) ?_ ?_
  · rw [Int.natAbs_mul, Nat.pow_add]
    exact Nat.mul_lt_mul'' h1.1 h2.1
  · rw [Int.natAbs_mul, Nat.pow_add]
    exact Nat.mul_lt_mul'' h1.2 h2.2
theorem sz_inv {n : Nat} {r : Rat} (h : Sz n r) (h0 : r ≠ 0) : Sz n r⁻¹ := by
  rw [Rat.inv_def]
  exact sz_divInt (fun e => h0 (Rat.num_eq_zero.mp e)) h.2 h.1
theorem sz_div {n m : Nat} {q r : Rat} (h1 : Sz n q) (h2 : Sz m r) (h0 : r ≠ 0) : Sz (n + m) (q / r) := by
  rw [Rat.div_def]
  exact sz_mul h1 (sz_inv h2 h0)
/-! ### walls -/
theorem two_in {l : List Nat} {a b : Nat} (ha : a ∈ l) (hb : b ∈ l) (h : a ≠ b) : 2 ≤ l.length := by
  match l, ha, hb with
  | [x], ha, hb =>
    have h1 := List.mem_singleton.mp ha
    have h2 := List.mem_singleton.mp hb
    omega
  | _ :: _ :: _, _, _ => simp
theorem one_in {l : List Nat} {a : Nat} (ha : a ∈ l) : 1 ≤ l.length := by
  match l, ha with
  | _ :: _, _ => simp
end HopR

set_option Elab.async false
set_option linter.all false
set_option maxRecDepth 100000
namespace HopW
/-! ### weights of words -/
/-- a line's numbers, each with g of its place -/
def lp (g : Nat → Rat) : List Nat → Rat
  | [] => 0
  | m :: l => (m : Rat) * g 0 + lp (fun b => g (b + 1)) l
def tp (x : Rat) (g : Nat → Rat) : List (List Nat) → Rat
  | [] => 0
  | l :: t => lp g l + x * tp x g t
def sfx : List Nat → List Nat
  | [] => []
  | m :: l => (m + l.sum) :: sfx l
def go (s : Nat) : List (List Nat) → List (List Nat)
  | [] => [[s]]
  | l :: t => (s :: sfx l.tail) :: go l.sum t
def sg (h : Nat → Rat) : Nat → Rat
  | 0 => 0
  | b + 1 => h 0 + sg (fun j => h (j + 1)) b
def fg (x : Rat) (g : Nat → Rat) : Nat → Rat := fun b => x * g 0 + sg (fun j => g (j + 1)) b
def stT (T : List (List Nat)) (b : Bool) : List (List Nat) := if b then T.map (0 :: ·) else go 0 T
def gf (x : Rat) : List Bool → (Nat → Rat) → (Nat → Rat)
  | [], g => g
  | true :: w, g => fun b => gf x w g (b + 1)
  | false :: w, g => fg x (gf x w g)
theorem cast_add (a b : Nat) : ((a + b : Nat) : Rat) = (a : Rat) + (b : Rat) := by exact_mod_cast rfl
theorem lp_lin (c : Rat) (h : Nat → Rat) : ∀ l : List Nat, lp (fun b => c + h b) l = c * (l.sum : Rat) + lp h l := by
  intro l
  induction l generalizing h with
  | nil => show (0 : Rat) = c * ((0 : Nat) : Rat) + 0; grind
  | cons m l ih =>
    show (m : Rat) * (c + h 0) + lp (fun b => c + h (b + 1)) l = c * ((m :: l).sum : Rat) + ((m : Rat) * h 0 + lp (fun b => h (b + 1)) l)
    rw [ih (fun b => h (b + 1)), List.sum_cons, cast_add]
    grind
theorem lp_sfx (h : Nat → Rat) (m : Nat) : ∀ l : List Nat, lp (sg h) (m :: l) = lp h (sfx l) := by
  intro l
  induction l generalizing h m with
  | nil => show (m : Rat) * 0 + 0 = 0; grind
  | cons m' l ih =>
    show (m : Rat) * 0 + lp (fun b => h 0 + sg (fun j => h (j + 1)) b) (m' :: l) = ((m' + l.sum : Nat) : Rat) * h 0 + lp (fun b => h (b + 1)) (sfx l)
    rw [lp_lin, ih, List.sum_cons]
    grind
theorem lp_fg (x : Rat) (g : Nat → Rat) (l : List Nat) : lp (fg x g) l = x * ((l.sum : Rat) * g 0) + lp (fun b => g (b + 1)) (sfx l.tail) := by
  unfold fg
  rw [lp_lin]
  cases l with
  | nil => show x * g 0 * ((0 : Nat) : Rat) + 0 = x * (((0 : Nat) : Rat) * g 0) + 0; grind
  | cons m l =>
    rw [lp_sfx, List.tail_cons]
    grind
theorem tp_go (x : Rat) (g : Nat → Rat) : ∀ (T : List (List Nat)) (s : Nat), tp x g (go s T) = (s : Rat) * g 0 + tp x (fg x g) T := by
  intro T
  induction T with
  | nil =>
    intro s
    show ((s : Rat) * g 0 + 0) + x * 0 = (s : Rat) * g 0 + 0
    grind
  | cons l t ih =>
    intro s
    show ((s : Rat) * g 0 + lp (fun b => g (b + 1)) (sfx l.tail)) + x * tp x g (go l.sum t) = (s : Rat) * g 0 + (lp (fg x g) l + x * tp x (fg x g) t)
    rw [ih, lp_fg]
    grind
theorem tp_bead (x : Rat) (g : Nat → Rat) : ∀ T : List (List Nat), tp x g (T.map (0 :: ·)) = tp x (fun b => g (b + 1)) T := by
  intro T
  induction T with
  | nil => rfl
  | cons l t ih =>
    show (((0 : Nat) : Rat) * g 0 + lp (fun b => g (b + 1)) l) + x * tp x g (t.map (0 :: ·)) = lp (fun b => g (b + 1)) l + x * tp x (fun b => g (b + 1)) t
    rw [ih]
    grind
theorem tp_st (x : Rat) (g : Nat → Rat) (T : List (List Nat)) (b : Bool) : tp x g (stT T b) = tp x (gf x [b] g) T := by
  cases b with
  | true => exact tp_bead x g T
  | false =>
    show tp x g (go 0 T) = tp x (fg x g) T
    rw [tp_go]
    show ((0 : Nat) : Rat) * g 0 + tp x (fg x g) T = _
    grind
theorem gf_app (x : Rat) (g : Nat → Rat) : ∀ u v : List Bool, gf x (u ++ v) g = gf x u (gf x v g)
  | [], _ => rfl
  | true :: u, v => by
    show (fun b => gf x (u ++ v) g (b + 1)) = fun b => gf x u (gf x v g) (b + 1)
    rw [gf_app x g u v]
  | false :: u, v => by
    show fg x (gf x (u ++ v) g) = fg x (gf x u (gf x v g))
    rw [gf_app x g u v]
theorem tp_fold (x : Rat) (g : Nat → Rat) : ∀ (w : List Bool) (T : List (List Nat)), tp x g (w.foldl stT T) = tp x (gf x w g) T := by
  intro w
  induction w with
  | nil => intro T; rfl
  | cons b w ih =>
    intro T
    show tp x g (w.foldl stT (stT T b)) = _
    rw [ih, tp_st]
    show tp x (gf x [b] (gf x w g)) T = _
    rw [← gf_app]
    rfl
def tbl (w : List Bool) : List (List Nat) := w.foldl stT [[1]]
/-- the weight of a word: x for each free place left, y for each bead -/
def wt (x y : Rat) (w : List Bool) : Rat := gf x w (fun b => y ^ b) 0
theorem wt_tbl (x y : Rat) (w : List Bool) : tp x (fun b => y ^ b) (tbl w) = wt x y w := by
  unfold tbl wt
  rw [tp_fold]
  show (((1 : Nat) : Rat) * gf x w (fun b => y ^ b) 0 + 0) + x * 0 = _
  grind
/-! ### what the weights keep -/
theorem sg_add (h k : Nat → Rat) : ∀ b, sg (fun j => h j + k j) b = sg h b + sg k b := by
  intro b
  induction b generalizing h k with
  | zero => show (0 : Rat) = 0 + 0; grind
  | succ b ih =>
    show h 0 + k 0 + sg (fun j => h (j + 1) + k (j + 1)) b = (h 0 + sg (fun j => h (j + 1)) b) + (k 0 + sg (fun j => k (j + 1)) b)
    rw [ih]
    grind
theorem sg_mul (c : Rat) (h : Nat → Rat) : ∀ b, sg (fun j => c * h j) b = c * sg h b := by
  intro b
  induction b generalizing h with
  | zero => show (0 : Rat) = c * 0; grind
  | succ b ih =>
    show c * h 0 + sg (fun j => c * h (j + 1)) b = c * (h 0 + sg (fun j => h (j + 1)) b)
    rw [ih]
    grind
theorem gf_add (x : Rat) (h k : Nat → Rat) : ∀ (w : List Bool) (b : Nat), gf x w (fun j => h j + k j) b = gf x w h b + gf x w k b := by
  intro w
  induction w with
  | nil => intro b; rfl
  | cons s w ih =>
    intro b
    cases s with
    | true => exact ih (b + 1)
    | false =>
      show x * gf x w (fun j => h j + k j) 0 + sg (fun j => gf x w (fun j => h j + k j) (j + 1)) b = (x * gf x w h 0 + sg (fun j => gf x w h (j + 1)) b) + (x * gf x w k 0 + sg (fun j => gf x w k (j + 1)) b)
      rw [ih 0, show (fun j => gf x w (fun j => h j + k j) (j + 1)) = fun j => gf x w h (j + 1) + gf x w k (j + 1) from funext fun j => ih (j + 1), sg_add]
      grind
theorem gf_mul (x c : Rat) (h : Nat → Rat) : ∀ (w : List Bool) (b : Nat), gf x w (fun j => c * h j) b = c * gf x w h b := by
  intro w
  induction w with
  | nil => intro b; rfl
  | cons s w ih =>
    intro b
    cases s with
    | true => exact ih (b + 1)
    | false =>
      show x * gf x w (fun j => c * h j) 0 + sg (fun j => gf x w (fun j => c * h j) (j + 1)) b = c * (x * gf x w h 0 + sg (fun j => gf x w h (j + 1)) b)
      rw [ih 0, show (fun j => gf x w (fun j => c * h j) (j + 1)) = fun j => c * gf x w h (j + 1) from funext fun j => ih (j + 1), sg_mul]
      grind
theorem sg_last (h : Nat → Rat) : ∀ b, sg h (b + 1) = sg h b + h b := by
  intro b
  induction b generalizing h with
  | zero => show h 0 + 0 = 0 + h 0; grind
  | succ b ih =>
    show h 0 + sg (fun j => h (j + 1)) (b + 1) = (h 0 + sg (fun j => h (j + 1)) b) + h (b + 1)
    rw [ih]
    grind
/-- a bead that comes out is gone, or the free place is -/
theorem wt_of (x y : Rat) (u v : List Bool) : wt x y (u ++ true :: false :: v) = wt x y (u ++ true :: v) + wt x y (u ++ false :: v) := by
  unfold wt
  rw [gf_app, gf_app, gf_app, ← gf_add]
  congr 1
  funext b
  show x * gf x v (fun b => y ^ b) 0 + sg (fun j => gf x v (fun b => y ^ b) (j + 1)) (b + 1) = gf x v (fun b => y ^ b) (b + 1) + (x * gf x v (fun b => y ^ b) 0 + sg (fun j => gf x v (fun b => y ^ b) (j + 1)) b)
  rw [sg_last]
  grind
theorem wt_free (x y : Rat) (v : List Bool) : wt x y (false :: v) = x * wt x y v := by
  show x * gf x v (fun b => y ^ b) 0 + 0 = x * gf x v (fun b => y ^ b) 0
  grind
theorem wt_bead (x y : Rat) (v : List Bool) : wt x y (v ++ [true]) = y * wt x y v := by
  unfold wt
  rw [gf_app, ← gf_mul]
  congr 1
  funext b
  show y ^ (b + 1) = y * y ^ b
  rw [Rat.pow_succ, Rat.mul_comm]
theorem sg_pow {x y : Rat} (h : x * y = x + y) : ∀ b, x + sg (fun j => y ^ (j + 1)) b = x * y ^ b := by
  intro b
  induction b with
  | zero => show x + 0 = x * y ^ 0; rw [Rat.pow_zero]; grind
  | succ b ih =>
    rw [sg_last, Rat.pow_succ]
    have e : x * (y ^ b * y) = y ^ b * (x * y) := by grind
    rw [e, h]
    grind
theorem gf_one {x y : Rat} (h : x * y = x + y) : ∀ (w : List Bool) (b : Nat), gf x w (fun b => y ^ b) b = x ^ (w.count false) * y ^ (w.count true) * y ^ b := by
  intro w
  induction w with
  | nil => intro b; show y ^ b = x ^ 0 * y ^ 0 * y ^ b; rw [Rat.pow_zero, Rat.pow_zero]; grind
  | cons s w ih =>
    intro b
    cases s with
    | true =>
      show gf x w (fun b => y ^ b) (b + 1) = _
      rw [ih, List.count_cons_of_ne (by decide), List.count_cons_self, Rat.pow_succ, Rat.pow_succ]
      grind
    | false =>
      show x * gf x w (fun b => y ^ b) 0 + sg (fun j => gf x w (fun b => y ^ b) (j + 1)) b = _
      rw [ih, show (fun j => gf x w (fun b => y ^ b) (j + 1)) = fun j => (x ^ (w.count false) * y ^ (w.count true)) * y ^ (j + 1) from funext fun j => ih (j + 1), sg_mul, List.count_cons_self, List.count_cons_of_ne (by decide), Rat.pow_succ, Rat.pow_zero]
      have e := sg_pow h b
      grind
theorem wt_one {x y : Rat} (h : x * y = x + y) (w : List Bool) : wt x y w = x ^ (w.count false) * y ^ (w.count true) := by
  unfold wt
  rw [gf_one h, Rat.pow_zero]
  grind
/-! ### all heaps counted -/
def sn (h : Nat → Nat) : Nat → Nat
  | 0 => 0
  | b + 1 => h 0 + sn (fun j => h (j + 1)) b
def gn : List Bool → Nat → Nat
  | [], _ => 1
  | true :: w, b => gn w (b + 1)
  | false :: w, b => sn (gn w) (b + 1)
theorem sn_sg (h : Nat → Nat) : ∀ b, ((sn h b : Nat) : Rat) = sg (fun j => (h j : Rat)) b := by
  intro b
  induction b generalizing h with
  | zero => rfl
  | succ b ih =>
    show ((h 0 + sn (fun j => h (j + 1)) b : Nat) : Rat) = (h 0 : Rat) + sg (fun j => (h (j + 1) : Rat)) b
    rw [cast_add, ih]
theorem gn_gf : ∀ (w : List Bool) (b : Nat), ((gn w b : Nat) : Rat) = gf 1 w (fun b => 1 ^ b) b := by
  intro w
  induction w with
  | nil =>
    intro b
    show ((1 : Nat) : Rat) = 1 ^ b
    induction b with
    | zero => rfl
    | succ b ih => rw [Rat.pow_succ, ← ih, Rat.mul_one]
  | cons s w ih =>
    intro b
    cases s with
    | true => exact ih (b + 1)
    | false =>
      show ((sn (gn w) (b + 1) : Nat) : Rat) = 1 * gf 1 w (fun b => 1 ^ b) 0 + sg (fun j => gf 1 w (fun b => 1 ^ b) (j + 1)) b
      rw [sn_sg]
      show (gn w 0 : Rat) + sg (fun j => (gn w (j + 1) : Rat)) b = _
      rw [ih 0, show (fun j => (gn w (j + 1) : Rat)) = fun j => gf 1 w (fun b => 1 ^ b) (j + 1) from funext fun j => ih (j + 1)]
      grind
theorem gn_wt (w : List Bool) : ((gn w 0 : Nat) : Rat) = wt 1 1 w := gn_gf w 0
end HopW

set_option Elab.async false
set_option linter.all false
set_option maxRecDepth 100000
namespace HopW
open L2
/-! ### a dict that counts -/
section
variable {α κ : Type} [DecidableEq α] [DecidableEq κ]
def zv (ι : α → κ) (l : List (α × Int)) : List (κ × V) := l.map fun p => (ι p.1, .int p.2)
def gz (k : α) : List (α × Int) → Int
  | [] => 0
  | (j, v) :: l => if j = k then v else gz k l
def pz (k : α) (c : Int) : List (α × Int) → List (α × Int)
  | [] => [(k, c)]
  | (j, v) :: l => if j = k then (j, v + c) :: l else (j, v) :: pz k c l
def ds (φ : α → Rat) : List (α × Int) → Rat
  | [] => 0
  | (j, v) :: l => (v : Rat) * φ j + ds φ l
/-- the keys are told once each -/
def Once (l : List (α × Int)) : Prop := (l.map (·.1)).Nodup
theorem val_zv {ι : α → κ} (inj : ∀ a b, ι a = ι b → a = b) (k : α) : ∀ l : List (α × Int), (valV (zv ι l) (ι k)).getD (.int 0) = .int (gz k l)
  | [] => rfl
  | (j, v) :: l => by
    show (valV ((ι j, V.int v) :: zv ι l) (ι k)).getD (.int 0) = .int (if j = k then v else gz k l)
    by_cases e : j = k
    · rw [if_pos e, valV_pos (by rw [e])]; rfl
    · rw [if_neg e, valV_neg (fun z => e (inj _ _ z))]
      exact val_zv inj k l
theorem val_in {ι : α → κ} (inj : ∀ a b, ι a = ι b → a = b) {k : α} : ∀ {l : List (α × Int)} {i : Nat} {c : Int}, Once l → l[i]? = some (k, c) → valV (zv ι l) (ι k) = some (.int c)
  | (j, v) :: l, 0, c, _, h => by
    obtain ⟨rfl, rfl⟩ := Prod.mk.inj (Option.some.inj h)
    exact valV_pos rfl
  | (j, v) :: l, i + 1, c, o, h => by
    have o' : (j :: l.map (·.1)).Nodup := o
    have h' : l[i]? = some (k, c) := h
    obtain ⟨n1, n2⟩ := List.nodup_cons.mp o'
    have m : k ∈ l.map (·.1) := List.mem_map.mpr ⟨(k, c), List.mem_of_getElem? h', rfl⟩
    refine (valV_neg (fun z => n1 ?_)).trans (val_in inj (i := i) n2 h')
    rw [inj _ _ (show ι j = ι k from z)]; exact m
theorem no_key {ι : α → κ} (inj : ∀ a b, ι a = ι b → a = b) {k : α} : ∀ {l : List (α × Int)}, k ∉ l.map (·.1) → valV (zv ι l) (ι k) = none ∧ ∀ x, (zv ι l).map (fun kv => if kv.1 = ι k then (kv.1, x) else kv) = zv ι l
  | [], _ => ⟨rfl, fun _ => rfl⟩
  | (j, v) :: l, h => by
    have h' : k ∉ j :: l.map (·.1) := h
    have n1 : ¬ ι j = ι k := fun z => h' (by rw [inj _ _ z]; exact List.mem_cons_self ..)
    obtain ⟨a, b⟩ := no_key inj (l := l) (fun m => h' (List.mem_cons_of_mem _ m))
    refine ⟨(valV_neg n1).trans a, fun x => ?_⟩
    show (if ι j = ι k then (ι j, x) else (ι j, V.int v)) :: (zv ι l).map _ = (ι j, V.int v) :: zv ι l
    rw [if_neg n1, b x]
theorem any_zv {ι : α → κ} (k : α) (l : List (α × Int)) : ((zv ι l).any fun kv => decide (kv.1 = ι k)) = (valV (zv ι l) (ι k)).isSome := valV_any (ι k) _
theorem put_zv {ι : α → κ} (inj : ∀ a b, ι a = ι b → a = b) (k : α) (c : Int) : ∀ {l : List (α × Int)}, Once l → putK (zv ι l) (ι k) (.int (gz k l + c)) = zv ι (pz k c l)
  | [], _ => by
    rw [putK_new _ (show valV (zv ι ([] : List (α × Int))) (ι k) = none from rfl)]
    show [(ι k, V.int (0 + c))] = [(ι k, V.int c)]
    rw [Int.zero_add]
  | (j, v) :: l, o => by
    have o' : (j :: l.map (·.1)).Nodup := o
    obtain ⟨n1, n2⟩ := List.nodup_cons.mp o'
    by_cases e : j = k
    · subst e
      show putK ((ι j, V.int v) :: zv ι l) (ι j) (.int ((if j = j then v else gz j l) + c)) = zv ι (if j = j then (j, v + c) :: l else _)
      rw [if_pos rfl, if_pos rfl]
      have q := (no_key inj n1).2 (.int (v + c))
      unfold putK
      rw [if_pos (by simp)]
      show (if ι j = ι j then (ι j, V.int (v + c)) else _) :: (zv ι l).map _ = (ι j, V.int (v + c)) :: zv ι l
      rw [if_pos rfl, q]
    · have n3 : ¬ ι j = ι k := fun z => e (inj _ _ z)
      have ih := put_zv inj k c n2
      show putK ((ι j, V.int v) :: zv ι l) (ι k) (.int ((if j = k then v else gz k l) + c)) = zv ι (if j = k then _ else (j, v) :: pz k c l)
      rw [if_neg e, if_neg e]
      show _ = (ι j, V.int v) :: zv ι (pz k c l)
      rw [← ih]
      generalize V.int (gz k l + c) = x
      unfold putK
      rw [List.any_cons, show decide ((ι j, V.int v).1 = ι k) = false from decide_eq_false n3, Bool.false_or, List.map_cons, if_neg n3]
      by_cases t : ((zv ι l).any fun kv => decide (kv.1 = ι k)) = true
      · rw [if_pos t, if_pos t]
      · rw [if_neg t, if_neg t]; rfl
theorem ds_pz (φ : α → Rat) (k : α) (c : Int) : ∀ l : List (α × Int), ds φ (pz k c l) = ds φ l + (c : Rat) * φ k
  | [] => by show (c : Rat) * φ k + 0 = 0 + (c : Rat) * φ k; grind
  | (j, v) :: l => by
    unfold pz
    split
    · rename_i e; subst e
      show ((v + c : Int) : Rat) * φ j + ds φ l = (v : Rat) * φ j + ds φ l + (c : Rat) * φ j
      rw [Rat.intCast_add]; grind
    · show (v : Rat) * φ j + ds φ (pz k c l) = (v : Rat) * φ j + ds φ l + (c : Rat) * φ k
      rw [ds_pz φ k c l]; grind
theorem keys_pz {k x : α} {c : Int} : ∀ {l : List (α × Int)}, x ∈ (pz k c l).map (·.1) → x = k ∨ x ∈ l.map (·.1)
  | [], h => .inl (by simpa [pz] using h)
  | (j, v) :: l, h => by
    unfold pz at h
    split at h
    · exact .inr h
    · rcases List.mem_cons.mp h with e | m
      · exact .inr (by rw [e]; exact List.mem_cons_self ..)
      · rcases keys_pz m with e | m
        · exact .inl e
        · exact .inr (List.mem_cons_of_mem _ m)
theorem once_pz {k : α} {c : Int} : ∀ {l : List (α × Int)}, Once l → Once (pz k c l)
  | [], _ => by simp [Once, pz]
  | (j, v) :: l, o => by
    have o' : (j :: l.map (·.1)).Nodup := o
    obtain ⟨n1, n2⟩ := List.nodup_cons.mp o'
    unfold pz
    split
    · exact o
    · rename_i e
      exact List.nodup_cons.mpr ⟨fun m => (keys_pz m).elim e n1, once_pz n2⟩
theorem len_pz (k : α) (c : Int) : ∀ l : List (α × Int), (pz k c l).length ≤ l.length + 1
  | [] => Nat.le_refl _
  | (j, v) :: l => by
    unfold pz
    split
    · exact Nat.le_succ _
    · exact Nat.succ_le_succ (len_pz k c l)
theorem ds_app (φ : α → Rat) : ∀ l m : List (α × Int), ds φ (l ++ m) = ds φ l + ds φ m
  | [], m => by show ds φ m = 0 + ds φ m; grind
  | (j, v) :: l, m => by show (v : Rat) * φ j + ds φ (l ++ m) = (v : Rat) * φ j + ds φ l + ds φ m; rw [ds_app φ l m]; grind
theorem ds_take {φ : α → Rat} {l : List (α × Int)} {i : Nat} {k : α} {c : Int} (h : l[i]? = some (k, c)) : ds φ (l.take (i + 1)) = ds φ (l.take i) + (c : Rat) * φ k := by
  rw [List.take_succ, h, ds_app]
  show ds φ (l.take i) + ((c : Rat) * φ k + 0) = _
  grind
end
/-! ### a word without a bead before a free place -/
theorem wt_rest (x y : Rat) (f b : Nat) : wt x y (List.replicate f false ++ List.replicate b true) = x ^ f * y ^ b := by
  induction f with
  | zero =>
    induction b with
    | zero => simp [wt, gf]
    | succ b ih =>
      rw [List.replicate_succ', ← List.append_assoc, wt_bead, ih]
      grind
  | succ f ih =>
    rw [List.replicate_succ, List.cons_append, wt_free, ih]
    grind
end HopW

set_option Elab.async false
set_option linter.all false
set_option maxRecDepth 100000
namespace HopW
open L2
theorem all_pz {α : Type} [DecidableEq α] {R : α → Prop} {k : α} {c : Int} (hk : R k) (hc : 0 ≤ c) : ∀ {l : List (α × Int)}, (∀ p ∈ l, R p.1 ∧ 0 ≤ p.2) → ∀ p ∈ pz k c l, R p.1 ∧ 0 ≤ p.2
  | [], _, p, m => by
    obtain rfl := List.mem_singleton.mp m
    exact ⟨hk, hc⟩
  | (j, v) :: l, h, p, m => by
    have h0 := h _ (List.mem_cons_self ..)
    have h1 : ∀ p ∈ l, R p.1 ∧ 0 ≤ p.2 := fun p m => h p (List.mem_cons_of_mem _ m)
    unfold pz at m
    split at m
    · rcases List.mem_cons.mp m with rfl | m
      · exact ⟨h0.1, Int.add_nonneg h0.2 hc⟩
      · exact h1 p m
    · rcases List.mem_cons.mp m with rfl | m
      · exact h0
      · exact all_pz hk hc h1 p m
/-- what a dict of words, or of ends, keeps -/
structure Tl {α : Type} (R : α → Prop) (M : Nat) (l : List (α × Int)) : Prop where
  o : (l.map (·.1)).Nodup
  a : ∀ p ∈ l, R p.1 ∧ 0 ≤ p.2
  n : l.length ≤ M
theorem Tl.nil {α : Type} {R : α → Prop} {M : Nat} : Tl R M ([] : List (α × Int)) := ⟨List.nodup_nil, by simp, Nat.zero_le _⟩
theorem Tl.put {α : Type} [DecidableEq α] {R : α → Prop} {M : Nat} {l : List (α × Int)} {k : α} {c : Int} (t : Tl R M l) (hk : R k) (hc : 0 ≤ c) : Tl R (M + 1) (pz k c l) :=
  ⟨once_pz t.o, all_pz hk hc t.a, Nat.le_trans (len_pz k c l) (Nat.succ_le_succ t.n)⟩
theorem Tl.up {α : Type} {R : α → Prop} {M N : Nat} {l : List (α × Int)} (t : Tl R M l) (h : M ≤ N) : Tl R N l := ⟨t.o, t.a, Nat.le_trans t.n h⟩
theorem Tl.at {α : Type} {R : α → Prop} {M : Nat} {l : List (α × Int)} (t : Tl R M l) {i : Nat} {k : α} {c : Int} (h : l[i]? = some (k, c)) : R k ∧ 0 ≤ c := t.a _ (List.mem_of_getElem? h)
/-- one turn over a word: an end is told -/
theorem ds_end {x y : Rat} {f b : Nat} {c : Int} {T : List (List Bool × Int)} {i : Nat} (h : T[i]? = some (List.replicate f false ++ List.replicate b true, c)) (G : List ((Nat × Nat) × Int)) {Z : Rat} {L : List (List Bool × Int)}
    (e : ds (wt x y) L + ds (fun e => x ^ e.1 * y ^ e.2) G = ds (wt x y) (T.take i) + Z) : ds (wt x y) L + ds (fun e => x ^ e.1 * y ^ e.2) (pz (f, b) c G) = ds (wt x y) (T.take (i + 1)) + Z := by
  rw [ds_pz, ds_take h, wt_rest]
  show _ + (_ + (c : Rat) * (x ^ f * y ^ b)) = _
  grind
/-- two shorter words are told -/
theorem ds_two {x y : Rat} {u v : List Bool} {c : Int} {T : List (List Bool × Int)} {i : Nat} (h : T[i]? = some (u ++ true :: false :: v, c)) {Z g : Rat} {L : List (List Bool × Int)}
    (e : ds (wt x y) L + g = ds (wt x y) (T.take i) + Z) : ds (wt x y) (pz (u ++ false :: v) c (pz (u ++ true :: v) c L)) + g = ds (wt x y) (T.take (i + 1)) + Z := by
  rw [ds_pz, ds_pz, ds_take h, wt_of]
  grind
end HopW

set_option Elab.async false
set_option linter.all false
set_option maxRecDepth 100000
namespace HopW
open L2
/-! ### ends, weighed by any function of both their numbers -/
def stF (F : Nat → Nat → Rat) : Nat → Nat → Rat := fun a b => F (a + 1) 0 + sg (fun j => F a (j + 1)) b
def gF : List Bool → (Nat → Nat → Rat) → (Nat → Nat → Rat)
  | [], F => F
  | true :: w, F => fun a b => gF w F a (b + 1)
  | false :: w, F => stF (gF w F)
def tF (F : Nat → Nat → Rat) : List (List Nat) → Rat
  | [] => 0
  | l :: t => lp (F 0) l + tF (fun a => F (a + 1)) t
theorem lp_stF (F : Nat → Nat → Rat) (l : List Nat) : lp (stF F 0) l = (l.sum : Rat) * F 1 0 + lp (fun b => F 0 (b + 1)) (sfx l.tail) := by
  show lp (fun b => F 1 0 + sg (fun j => F 0 (j + 1)) b) l = _
  rw [lp_lin]
  cases l with
  | nil => show F 1 0 * ((0 : Nat) : Rat) + 0 = ((0 : Nat) : Rat) * F 1 0 + 0; grind
  | cons m l =>
    rw [lp_sfx, List.tail_cons]
    grind
theorem tF_go : ∀ (T : List (List Nat)) (F : Nat → Nat → Rat) (s : Nat), tF F (go s T) = (s : Rat) * F 0 0 + tF (stF F) T := by
  intro T
  induction T with
  | nil =>
    intro F s
    show ((s : Rat) * F 0 0 + 0) + 0 = (s : Rat) * F 0 0 + 0
    grind
  | cons l t ih =>
    intro F s
    show ((s : Rat) * F 0 0 + lp (fun b => F 0 (b + 1)) (sfx l.tail)) + tF (fun a => F (a + 1)) (go l.sum t) = (s : Rat) * F 0 0 + (lp (stF F 0) l + tF (fun a => stF F (a + 1)) t)
    rw [ih, lp_stF]
    show _ + ((l.sum : Rat) * F 1 0 + tF (stF (fun a => F (a + 1))) t) = _
    have e : (fun a => stF F (a + 1)) = stF (fun a => F (a + 1)) := rfl
    rw [e]
    grind
theorem tF_bead : ∀ (T : List (List Nat)) (F : Nat → Nat → Rat), tF F (T.map (0 :: ·)) = tF (fun a b => F a (b + 1)) T := by
  intro T
  induction T with
  | nil => intro F; rfl
  | cons l t ih =>
    intro F
    show (((0 : Nat) : Rat) * F 0 0 + lp (fun b => F 0 (b + 1)) l) + tF (fun a => F (a + 1)) (t.map (0 :: ·)) = lp (fun b => F 0 (b + 1)) l + tF (fun a b => F (a + 1) (b + 1)) t
    rw [ih]
    grind
theorem tF_st (F : Nat → Nat → Rat) (T : List (List Nat)) (b : Bool) : tF F (stT T b) = tF (gF [b] F) T := by
  cases b with
  | true => exact tF_bead T F
  | false =>
    show tF F (go 0 T) = tF (stF F) T
    rw [tF_go]
    show ((0 : Nat) : Rat) * F 0 0 + tF (stF F) T = _
    grind
theorem gF_app (F : Nat → Nat → Rat) : ∀ u v : List Bool, gF (u ++ v) F = gF u (gF v F)
  | [], _ => rfl
  | true :: u, v => by
    show (fun a b => gF (u ++ v) F a (b + 1)) = fun a b => gF u (gF v F) a (b + 1)
    rw [gF_app F u v]
  | false :: u, v => by
    show stF (gF (u ++ v) F) = stF (gF u (gF v F))
    rw [gF_app F u v]
theorem tF_fold (F : Nat → Nat → Rat) : ∀ (w : List Bool) (T : List (List Nat)), tF F (w.foldl stT T) = tF (gF w F) T := by
  intro w
  induction w with
  | nil => intro T; rfl
  | cons b w ih =>
    intro T
    show tF F (w.foldl stT (stT T b)) = _
    rw [ih, tF_st]
    show tF (gF [b] (gF w F)) T = _
    rw [← gF_app]
    rfl
def wF (F : Nat → Nat → Rat) (w : List Bool) : Rat := gF w F 0 0
theorem wF_tbl (F : Nat → Nat → Rat) (w : List Bool) : tF F (tbl w) = wF F w := by
  unfold tbl wF
  rw [tF_fold]
  show (((1 : Nat) : Rat) * gF w F 0 0 + 0) + 0 = _
  grind
theorem gF_add (F G : Nat → Nat → Rat) : ∀ (w : List Bool) (a b : Nat), gF w (fun i j => F i j + G i j) a b = gF w F a b + gF w G a b := by
  intro w
  induction w with
  | nil => intro a b; rfl
  | cons s w ih =>
    intro a b
    cases s with
    | true => exact ih a (b + 1)
    | false =>
      show gF w (fun i j => F i j + G i j) (a + 1) 0 + sg (fun j => gF w (fun i j => F i j + G i j) a (j + 1)) b = (gF w F (a + 1) 0 + sg (fun j => gF w F a (j + 1)) b) + (gF w G (a + 1) 0 + sg (fun j => gF w G a (j + 1)) b)
      rw [ih (a + 1) 0, show (fun j => gF w (fun i j => F i j + G i j) a (j + 1)) = fun j => gF w F a (j + 1) + gF w G a (j + 1) from funext fun j => ih a (j + 1), sg_add]
      grind
/-- a bead that comes out is gone, or the free place is -/
theorem wF_of (F : Nat → Nat → Rat) (u v : List Bool) : wF F (u ++ true :: false :: v) = wF F (u ++ true :: v) + wF F (u ++ false :: v) := by
  unfold wF
  rw [gF_app, gF_app, gF_app, ← gF_add]
  congr 1
  funext a b
  show gF v F (a + 1) 0 + sg (fun j => gF v F a (j + 1)) (b + 1) = gF v F a (b + 1) + (gF v F (a + 1) 0 + sg (fun j => gF v F a (j + 1)) b)
  rw [sg_last]
  grind
theorem gF_up (F : Nat → Nat → Rat) : ∀ (w : List Bool) (a b : Nat), gF w F (a + 1) b = gF w (fun i => F (i + 1)) a b := by
  intro w
  induction w with
  | nil => intro a b; rfl
  | cons s w ih =>
    intro a b
    cases s with
    | true => exact ih a (b + 1)
    | false =>
      show gF w F (a + 1 + 1) 0 + sg (fun j => gF w F (a + 1) (j + 1)) b = gF w (fun i => F (i + 1)) (a + 1) 0 + sg (fun j => gF w (fun i => F (i + 1)) a (j + 1)) b
      rw [ih (a + 1) 0, show (fun j => gF w F (a + 1) (j + 1)) = fun j => gF w (fun i => F (i + 1)) a (j + 1) from funext fun j => ih a (j + 1)]
theorem wF_free (F : Nat → Nat → Rat) (v : List Bool) : wF F (false :: v) = wF (fun i => F (i + 1)) v := by
  show gF v F 1 0 + 0 = gF v (fun i => F (i + 1)) 0 0
  rw [gF_up]
  grind
theorem wF_bead (F : Nat → Nat → Rat) (v : List Bool) : wF F (v ++ [true]) = wF (fun i j => F i (j + 1)) v := by
  unfold wF
  rw [gF_app]
  rfl
theorem wF_rest (F : Nat → Nat → Rat) (f b : Nat) : wF F (List.replicate f false ++ List.replicate b true) = F f b := by
  induction f generalizing F with
  | zero =>
    induction b generalizing F with
    | zero => rfl
    | succ b ih => rw [List.replicate_succ', ← List.append_assoc, wF_bead, ih]
  | succ f ih => rw [List.replicate_succ, List.cons_append, wF_free, ih]
theorem wF_frees (F : Nat → Nat → Rat) (v : List Bool) : ∀ k : Nat, wF F (List.replicate k false ++ v) = wF (fun i j => F (i + k) j) v := by
  intro k
  induction k generalizing F with
  | zero => rfl
  | succ k ih =>
    rw [List.replicate_succ, List.cons_append, wF_free, ih]
    congr 1
theorem wF_beads (F : Nat → Nat → Rat) (v : List Bool) : ∀ k : Nat, wF F (v ++ List.replicate k true) = wF (fun i j => F i (j + k)) v := by
  intro k
  induction k generalizing F with
  | zero => rw [List.replicate_zero, List.append_nil]; rfl
  | succ k ih =>
    rw [List.replicate_succ', ← List.append_assoc, wF_bead, ih]
    congr 1
/-- not too many ends -/
theorem two_add (m : Nat) : ∀ n : Nat, (2 : Rat) ^ (m + n) = 2 ^ m * 2 ^ n
  | 0 => by rw [Nat.add_zero, Rat.pow_zero, Rat.mul_one]
  | n + 1 => by rw [← Nat.add_assoc, Rat.pow_succ, Rat.pow_succ, two_add m n, Rat.mul_assoc]
theorem sg_two (c : Rat) (h : Nat → Rat) (hc : 0 ≤ c) : ∀ b : Nat, (∀ j, h j ≤ c * 2 ^ (j + 1)) → sg h b + c ≤ c * 2 ^ (b + 1) := by
  intro b
  induction b with
  | zero => intro _; show 0 + c ≤ c * 2 ^ 1; grind
  | succ b ih =>
    intro hh
    have h1 := ih hh
    have h2 := hh b
    rw [sg_last, Rat.pow_succ (n := b + 1)]
    grind
theorem gF_one : ∀ (w : List Bool) (a b : Nat), gF w (fun _ _ => 1) a b ≤ 2 ^ (w.length + b) := by
  intro w
  induction w with
  | nil =>
    intro a b
    show (1 : Rat) ≤ 2 ^ (0 + b)
    rw [Nat.zero_add]
    induction b with
    | zero => rw [Rat.pow_zero]; grind
    | succ b ih => rw [Rat.pow_succ]; grind
  | cons s w ih =>
    intro a b
    cases s with
    | true =>
      have := ih a (b + 1)
      show gF w (fun _ _ => 1) a (b + 1) ≤ 2 ^ (w.length + 1 + b)
      rw [show w.length + 1 + b = w.length + (b + 1) by omega]
      exact this
    | false =>
      have h0 := ih (a + 1) 0
      have p0 : (0 : Rat) ≤ 2 ^ w.length := Rat.le_of_lt (Rat.pow_pos (by decide))
      have h1 := sg_two (2 ^ w.length) (fun j => gF w (fun _ _ => 1) a (j + 1)) p0 b (fun j => by
        rw [← two_add]
        exact ih a (j + 1))
      rw [← two_add] at h1
      show gF w (fun _ _ => 1) (a + 1) 0 + sg (fun j => gF w (fun _ _ => 1) a (j + 1)) b ≤ 2 ^ (w.length + 1 + b)
      rw [show w.length + 1 + b = w.length + (b + 1) by omega]
      rw [Nat.add_zero] at h0
      grind
theorem wF_one (w : List Bool) : wF (fun _ _ => 1) w ≤ 2 ^ w.length := gF_one w 0 0
end HopW

set_option Elab.async false
set_option linter.all false
set_option maxRecDepth 100000
namespace HopW
/-! ### lists of ends: the ends of a table, sorted, and alone so -/
abbrev En := (Nat × Nat) × Int
def lt2 (p q : Nat × Nat) : Prop := p.1 < q.1 ∨ p.1 = q.1 ∧ p.2 < q.2
def Sd (l : List En) : Prop := l.Pairwise (fun a b => lt2 a.1 b.1) ∧ ∀ e ∈ l, 0 < e.2
theorem lt2_irr (p : Nat × Nat) : ¬ lt2 p p := by unfold lt2; omega
theorem lt2_tri (p q : Nat × Nat) : lt2 p q ∨ p = q ∨ lt2 q p := by
  obtain ⟨a, b⟩ := p
  obtain ⟨c, d⟩ := q
  unfold lt2
  simp only [Prod.mk.injEq]
  omega
theorem Sd.tail {e : En} {l : List En} (h : Sd (e :: l)) : Sd l := ⟨(List.pairwise_cons.mp h.1).2, fun x m => h.2 x (List.mem_cons_of_mem _ m)⟩
theorem Sd.head {e : En} {l : List En} (h : Sd (e :: l)) : 0 < e.2 ∧ ∀ x ∈ l, lt2 e.1 x.1 := ⟨h.2 e (List.mem_cons_self ..), (List.pairwise_cons.mp h.1).1⟩
def at1 (k : Nat × Nat) : Nat × Nat → Rat := fun e => if e = k then 1 else 0
theorem ds_off {k : Nat × Nat} : ∀ {l : List En}, (∀ x ∈ l, x.1 ≠ k) → ds (at1 k) l = 0
  | [], _ => rfl
  | (j, v) :: l, h => by
    show (v : Rat) * at1 k j + ds (at1 k) l = 0
    rw [ds_off (l := l) (fun x m => h x (List.mem_cons_of_mem _ m)), show at1 k j = 0 from if_neg (h (j, v) (List.mem_cons_self ..))]
    grind
theorem ds_head {e : En} {l : List En} (h : Sd (e :: l)) : ds (at1 e.1) (e :: l) = (e.2 : Rat) := by
  show (e.2 : Rat) * at1 e.1 e.1 + ds (at1 e.1) l = _
  rw [ds_off (l := l) (fun x m z => lt2_irr _ (by have := h.head.2 x m; rw [z] at this; exact this)), show at1 e.1 e.1 = 1 from if_pos rfl]
  grind
theorem ds_less {k : Nat × Nat} {e : En} {l : List En} (h : Sd (e :: l)) (hk : lt2 k e.1) : ds (at1 k) (e :: l) = 0 := ds_off fun x m z => by
  rcases List.mem_cons.mp m with rfl | m
  · rw [z] at hk; exact lt2_irr _ hk
  · have h2 := h.head.2 x m
    rw [z] at h2
    unfold lt2 at hk h2
    omega
theorem pos_cast {c : Int} (h : 0 < c) : ((c : Int) : Rat) ≠ 0 := fun e => by
  have := Rat.intCast_eq_zero_iff.mp e
  omega
/-- two such lists that weigh alike are the same -/
theorem sd_same : ∀ {l m : List En}, Sd l → Sd m → (∀ φ : Nat × Nat → Rat, ds φ l = ds φ m) → l = m
  | [], [], _, _, _ => rfl
  | [], e :: m, _, h, w => by
    have := w (at1 e.1)
    rw [ds_head h] at this
    exact absurd this.symm (pos_cast h.head.1)
  | e :: l, [], h, _, w => by
    have := w (at1 e.1)
    rw [ds_head h] at this
    exact absurd this (pos_cast h.head.1)
  | e :: l, e' :: m, h, h', w => by
    rcases lt2_tri e.1 e'.1 with c | c | c
    · have := w (at1 e.1)
      rw [ds_head h, ds_less h' c] at this
      exact absurd this (pos_cast h.head.1)
    · have w1 := w (at1 e.1)
      rw [ds_head h, c, ds_head h'] at w1
      have c2 : e.2 = e'.2 := Rat.intCast_inj.mp w1
      have ee : e = e' := Prod.ext c c2
      subst ee
      congr 1
      refine sd_same h.tail h'.tail fun φ => ?_
      have := w φ
      have this : (e.2 : Rat) * φ e.1 + ds φ l = (e.2 : Rat) * φ e.1 + ds φ m := this
      grind
    · have := w (at1 e'.1)
      rw [ds_head h', ds_less h c] at this
      exact absurd this.symm (pos_cast h'.head.1)
/-! ### the ends of a table -/
def enL (f b : Nat) : List Nat → List En
  | [] => []
  | m :: l => (if 0 < m then [((f, b), (m : Int))] else []) ++ enL f (b + 1) l
def enT (f : Nat) : List (List Nat) → List En
  | [] => []
  | l :: t => enL f 0 l ++ enT (f + 1) t
def φF (F : Nat → Nat → Rat) : Nat × Nat → Rat := fun e => F e.1 e.2
theorem ds_if (φ : Nat × Nat → Rat) (k : Nat × Nat) (m : Nat) : ds φ (if 0 < m then [(k, (m : Int))] else []) = (m : Rat) * φ k := by
  by_cases h : 0 < m
  · rw [if_pos h]
    show ((m : Int) : Rat) * φ k + 0 = _
    rw [Rat.intCast_natCast]; grind
  · rw [if_neg h, show m = 0 by omega]
    show (0 : Rat) = ((0 : Nat) : Rat) * φ k
    grind
theorem ds_enL (F : Nat → Nat → Rat) (f : Nat) : ∀ (l : List Nat) (b : Nat), ds (φF F) (enL f b l) = lp (fun j => F f (b + j)) l
  | [], _ => rfl
  | m :: l, b => by
    show ds (φF F) ((if 0 < m then [((f, b), (m : Int))] else []) ++ enL f (b + 1) l) = (m : Rat) * F f (b + 0) + lp (fun j => F f (b + (j + 1))) l
    rw [ds_app, ds_if, ds_enL F f l (b + 1), show (fun j => F f (b + 1 + j)) = fun j => F f (b + (j + 1)) from funext fun j => by rw [Nat.add_assoc, Nat.add_comm 1 j]]
    rfl
theorem ds_enT (F : Nat → Nat → Rat) : ∀ (T : List (List Nat)) (f : Nat), ds (φF F) (enT f T) = tF (fun a => F (f + a)) T
  | [], _ => rfl
  | l :: t, f => by
    show ds (φF F) (enL f 0 l ++ enT (f + 1) t) = lp (F (f + 0)) l + tF (fun a => F (f + (a + 1))) t
    rw [ds_app, ds_enL, ds_enT F t (f + 1), show (fun a => F (f + 1 + a)) = fun a => F (f + (a + 1)) from funext fun j => by rw [Nat.add_assoc, Nat.add_comm 1 j]]
    simp only [Nat.zero_add, Nat.add_zero]
theorem enL_mem {f : Nat} {e : En} : ∀ {l : List Nat} {b : Nat}, e ∈ enL f b l → e.1.1 = f ∧ b ≤ e.1.2 ∧ 0 < e.2
  | [], _, h => absurd h (by simp [enL])
  | m :: l, b, h => by
    rcases List.mem_append.mp h with h | h
    · by_cases hm : 0 < m
      · rw [if_pos hm] at h
        obtain rfl := List.mem_singleton.mp h
        exact ⟨rfl, Nat.le_refl _, by show (0 : Int) < (m : Int); omega⟩
      · rw [if_neg hm] at h
        exact absurd h (by simp)
    · obtain ⟨h1, h2, h3⟩ := enL_mem h
      exact ⟨h1, by omega, h3⟩
theorem enL_sd (f : Nat) : ∀ (l : List Nat) (b : Nat), (enL f b l).Pairwise (fun a b => lt2 a.1 b.1)
  | [], _ => List.Pairwise.nil
  | m :: l, b => by
    refine List.pairwise_append.mpr ⟨?_, enL_sd f l (b + 1), fun x hx y hy => ?_⟩
    · by_cases hm : 0 < m
      · rw [if_pos hm]; exact List.pairwise_singleton _ _
      · rw [if_neg hm]; exact List.Pairwise.nil
    · obtain ⟨y1, y2, _⟩ := enL_mem hy
      by_cases hm : 0 < m
      · rw [if_pos hm] at hx
        obtain rfl := List.mem_singleton.mp hx
        exact .inr ⟨y1.symm, by show b < _; omega⟩
      · rw [if_neg hm] at hx
        exact absurd hx (by simp)
theorem enT_mem {e : En} : ∀ {T : List (List Nat)} {f : Nat}, e ∈ enT f T → f ≤ e.1.1 ∧ 0 < e.2
  | [], _, h => absurd h (by simp [enT])
  | l :: t, f, h => by
    rcases List.mem_append.mp h with h | h
    · obtain ⟨h1, _, h3⟩ := enL_mem h
      exact ⟨by omega, h3⟩
    · obtain ⟨h1, h3⟩ := enT_mem h
      exact ⟨by omega, h3⟩
theorem enT_sd : ∀ (T : List (List Nat)) (f : Nat), (enT f T).Pairwise (fun a b => lt2 a.1 b.1)
  | [], _ => List.Pairwise.nil
  | l :: t, f => List.pairwise_append.mpr ⟨enL_sd f l 0, enT_sd t (f + 1), fun x hx y hy => .inl (by
      have := (enL_mem hx).1
      have := (enT_mem hy).1
      omega)⟩
/-- the ends of a word, sorted -/
def eN (w : List Bool) : List En := enT 0 (tbl w)
theorem eN_sd (w : List Bool) : Sd (eN w) := ⟨enT_sd _ _, fun e h => (enT_mem h).2⟩
theorem eN_ds (F : Nat → Nat → Rat) (w : List Bool) : ds (φF F) (eN w) = wF F w := by
  unfold eN
  rw [ds_enT, ← wF_tbl]
  congr 1
  funext a
  rw [Nat.zero_add]
theorem eN_is {l : List En} {w : List Bool} (h : Sd l) (hw : ∀ F : Nat → Nat → Rat, ds (φF F) l = wF F w) : l = eN w :=
  sd_same h (eN_sd w) fun φ => by
    have := hw (fun a b => φ (a, b))
    rw [← eN_ds] at this
    exact this
theorem le_ds {φ : Nat × Nat → Rat} (h1 : ∀ k, φ k = 1) : ∀ {l : List En}, (∀ e ∈ l, 0 < e.2) → 0 ≤ ds φ l ∧ ∀ e ∈ l, (e.2 : Rat) ≤ ds φ l
  | [], _ => ⟨Rat.le_refl, by simp⟩
  | (j, v) :: l, h => by
    obtain ⟨i1, i2⟩ := le_ds h1 (l := l) (fun x m => h x (List.mem_cons_of_mem _ m))
    have hv : (0 : Rat) ≤ (v : Rat) := by
      have : 0 < v := h (j, v) (List.mem_cons_self ..)
      exact Rat.intCast_nonneg.mpr (by omega)
    have e : ds φ ((j, v) :: l) = (v : Rat) + ds φ l := by
      show (v : Rat) * φ j + ds φ l = _
      rw [h1]; grind
    rw [e]
    refine ⟨by grind, fun x m => ?_⟩
    rcases List.mem_cons.mp m with rfl | m
    · show (v : Rat) ≤ _; grind
    · have := i2 x m; grind
theorem eN_most {w : List Bool} {e : En} (h : e ∈ eN w) : 0 < e.2 ∧ e.2.natAbs ≤ 2 ^ w.length := by
  have p := (eN_sd w).2 e h
  refine ⟨p, ?_⟩
  have h1 := (le_ds (φ := φF fun _ _ => 1) (fun _ => rfl) (eN_sd w).2).2 e h
  rw [eN_ds] at h1
  have h2 := Rat.le_trans h1 (wF_one w)
  have h3 : (e.2 : Rat) ≤ (((2 : Int) ^ w.length : Int) : Rat) := by
    rw [Rat.intCast_pow]; exact h2
  have h4 : e.2 ≤ (2 : Int) ^ w.length := Rat.intCast_le_intCast.mp h3
  have h5 : ((2 ^ w.length : Nat) : Int) = (2 : Int) ^ w.length := by simp
  omega
end HopW

set_option Elab.async false
set_option linter.all false
set_option maxRecDepth 100000
namespace HopW
/-! ### what a sorted list of ends is -/
def le3 (p q : En) : Prop := p.1.1 < q.1.1 ∨ p.1.1 = q.1.1 ∧ (p.1.2 < q.1.2 ∨ p.1.2 = q.1.2 ∧ p.2 ≤ q.2)
theorem sd_of : ∀ {l : List En}, l.Pairwise le3 → (l.map (·.1)).Nodup → (∀ e ∈ l, 0 < e.2) → Sd l
  | [], _, _, _ => ⟨.nil, by simp⟩
  | e :: l, h, n, p => by
    have h' := List.pairwise_cons.mp h
    have n' : (e.1 :: l.map (·.1)).Nodup := n
    have n2 := List.nodup_cons.mp n'
    have ih := sd_of h'.2 n2.2 (fun x m => p x (List.mem_cons_of_mem _ m))
    refine ⟨List.pairwise_cons.mpr ⟨fun x m => ?_, ih.1⟩, p⟩
    have h3 := h'.1 x m
    have ne : e.1 ≠ x.1 := fun z => n2.1 (List.mem_map.mpr ⟨x, m, z.symm⟩)
    obtain ⟨⟨a, b⟩, c⟩ := e
    obtain ⟨⟨a', b'⟩, c'⟩ := x
    have h3 : a < a' ∨ a = a' ∧ (b < b' ∨ b = b' ∧ c ≤ c') := h3
    show a < a' ∨ a = a' ∧ b < b'
    have ne : ¬ (a = a' ∧ b = b') := fun z => ne (by rw [z.1, z.2])
    omega
theorem all_pz1 {α : Type} [DecidableEq α] {R : α → Prop} {k : α} {c : Int} (hk : R k) (hc : 0 < c) : ∀ {l : List (α × Int)}, (∀ p ∈ l, R p.1 ∧ 0 < p.2) → ∀ p ∈ pz k c l, R p.1 ∧ 0 < p.2
  | [], _, p, m => by
    obtain rfl := List.mem_singleton.mp m
    exact ⟨hk, hc⟩
  | (j, v) :: l, h, p, m => by
    have h0 := h _ (List.mem_cons_self ..)
    have h1 : ∀ p ∈ l, R p.1 ∧ 0 < p.2 := fun p m => h p (List.mem_cons_of_mem _ m)
    have h0' : 0 < v := h0.2
    unfold pz at m
    split at m
    · rcases List.mem_cons.mp m with rfl | m
      · exact ⟨h0.1, by show 0 < v + c; omega⟩
      · exact h1 p m
    · rcases List.mem_cons.mp m with rfl | m
      · exact h0
      · exact all_pz1 hk hc h1 p m
/-- what a dict of words, or of ends, keeps: none told nought times -/
structure Tp {α : Type} (R : α → Prop) (M : Nat) (l : List (α × Int)) : Prop where
  o : (l.map (·.1)).Nodup
  a : ∀ p ∈ l, R p.1 ∧ 0 < p.2
  n : l.length ≤ M
theorem Tp.nil {α : Type} {R : α → Prop} {M : Nat} : Tp R M ([] : List (α × Int)) := ⟨List.nodup_nil, by simp, Nat.zero_le _⟩
theorem Tp.put {α : Type} [DecidableEq α] {R : α → Prop} {M : Nat} {l : List (α × Int)} {k : α} {c : Int} (t : Tp R M l) (hk : R k) (hc : 0 < c) : Tp R (M + 1) (pz k c l) :=
  ⟨once_pz t.o, all_pz1 hk hc t.a, Nat.le_trans (len_pz k c l) (Nat.succ_le_succ t.n)⟩
theorem Tp.up {α : Type} {R : α → Prop} {M N : Nat} {l : List (α × Int)} (t : Tp R M l) (h : M ≤ N) : Tp R N l := ⟨t.o, t.a, Nat.le_trans t.n h⟩
theorem Tp.at {α : Type} {R : α → Prop} {M : Nat} {l : List (α × Int)} (t : Tp R M l) {i : Nat} {k : α} {c : Int} (h : l[i]? = some (k, c)) : R k ∧ 0 < c := t.a _ (List.mem_of_getElem? h)
/-- one turn over a word: an end is told -/
theorem dsF_end {F : Nat → Nat → Rat} {f b : Nat} {c : Int} {T : List (List Bool × Int)} {i : Nat} (h : T[i]? = some (List.replicate f false ++ List.replicate b true, c)) (G : List En) {Z : Rat} {L : List (List Bool × Int)}
    (e : ds (wF F) L + ds (φF F) G = ds (wF F) (T.take i) + Z) : ds (wF F) L + ds (φF F) (pz (f, b) c G) = ds (wF F) (T.take (i + 1)) + Z := by
  rw [ds_pz, ds_take h, wF_rest]
  show _ + (_ + (c : Rat) * F f b) = _
  grind
/-- two shorter words are told -/
theorem dsF_two {F : Nat → Nat → Rat} {u v : List Bool} {c : Int} {T : List (List Bool × Int)} {i : Nat} (h : T[i]? = some (u ++ true :: false :: v, c)) {Z g : Rat} {L : List (List Bool × Int)}
    (e : ds (wF F) L + g = ds (wF F) (T.take i) + Z) : ds (wF F) (pz (u ++ false :: v) c (pz (u ++ true :: v) c L)) + g = ds (wF F) (T.take (i + 1)) + Z := by
  rw [ds_pz, ds_pz, ds_take h, wF_of]
  grind
theorem ds_permF {α : Type} (φ : α → Rat) {l m : List (α × Int)} (p : l.Perm m) : ds φ l = ds φ m := by
  induction p with
  | nil => rfl
  | cons x _ ih =>
    show (x.2 : Rat) * φ x.1 + ds φ _ = (x.2 : Rat) * φ x.1 + ds φ _
    rw [ih]
  | swap x y l =>
    show (y.2 : Rat) * φ y.1 + ((x.2 : Rat) * φ x.1 + ds φ l) = (x.2 : Rat) * φ x.1 + ((y.2 : Rat) * φ y.1 + ds φ l)
    grind
  | trans _ _ a b => exact a.trans b
theorem tp_sorted {R : Nat × Nat → Prop} {M : Nat} {l m : List En} (t : Tp R M l) (p : m.Perm l) (h : m.Pairwise le3) : Sd m :=
  sd_of h ((p.map (·.1)).nodup_iff.mpr t.o) (fun e he => (t.a e (p.mem_iff.mp he)).2)
/-! ### great words: so many beads ahead of so many free places -/
def Wb (F : Nat → Nat → Rat) (i j : Nat) : Rat := wF F (List.replicate i true ++ List.replicate j false)
theorem Wb_of (F : Nat → Nat → Rat) (i j : Nat) : Wb F (i + 1) (j + 1) = Wb F (i + 1) j + Wb F i (j + 1) := by
  unfold Wb
  have h := wF_of F (List.replicate i true) (List.replicate j false)
  rw [List.replicate_succ' (n := i), List.replicate_succ (n := j), List.append_assoc, List.append_assoc]
  exact h
theorem Wb_none (F : Nat → Nat → Rat) (j : Nat) : Wb F 0 j = F j 0 := by
  have h := wF_rest F j 0
  rw [List.replicate_zero, List.append_nil] at h
  exact h
theorem Wb_all (F : Nat → Nat → Rat) (i : Nat) : Wb F i 0 = F 0 i := by
  have h := wF_rest F 0 i
  unfold Wb
  rw [List.replicate_zero, List.append_nil]
  exact h
def sR (c : Nat → Rat) : Nat → Rat
  | 0 => 0
  | n + 1 => sR c n + c n
theorem sR_same {c d : Nat → Rat} : ∀ {n : Nat}, (∀ j, j < n → c j = d j) → sR c n = sR d n
  | 0, _ => rfl
  | n + 1, h => by
    show sR c n + c n = sR d n + d n
    rw [sR_same (fun j hj => h j (by omega)), h n (by omega)]
theorem sR_one {c d : Nat → Rat} {k : Nat} {z : Rat} : ∀ {n : Nat}, k < n → (∀ j, j ≠ k → d j = c j) → d k = c k + z → sR d n = sR c n + z
  | 0, h, _, _ => absurd h (by omega)
  | n + 1, h, h1, h2 => by
    show sR d n + d n = sR c n + c n + z
    by_cases e : k = n
    · subst e
      rw [sR_same (c := d) (d := c) (fun j hj => h1 j (by omega)), h2]
      grind
    · rw [sR_one (n := n) (by omega) h1 h2, h1 n (fun z => e z.symm)]
      grind
def rw1 (F : Nat → Nat → Rat) (M : Nat → Nat → Int) (i : Nat) : Nat → Rat := sR fun j => (M i j : Rat) * Wb F i j
/-- what is still to be looked at: all lines below s (fr places each), and m places of line s -/
def XM (F : Nat → Nat → Rat) (fr : Nat) (M : Nat → Nat → Int) (s m : Nat) : Rat := sR (fun i => rw1 F M i fr) s + rw1 F M s m
def addc (M : Nat → Nat → Int) (i0 j0 : Nat) (v : Int) : Nat → Nat → Int := fun i j => if i = i0 ∧ j = j0 then M i j + v else M i j
theorem rw1_off {F : Nat → Nat → Rat} {M : Nat → Nat → Int} {i0 j0 i m : Nat} {v : Int} (h : i ≠ i0 ∨ m ≤ j0) : rw1 F (addc M i0 j0 v) i m = rw1 F M i m := by
  refine sR_same fun j hj => ?_
  rw [show addc M i0 j0 v i j = M i j from if_neg (by omega)]
theorem rw1_on {F : Nat → Nat → Rat} {M : Nat → Nat → Int} {i0 j0 m : Nat} {v : Int} (h : j0 < m) : rw1 F (addc M i0 j0 v) i0 m = rw1 F M i0 m + (v : Rat) * Wb F i0 j0 := by
  refine sR_one h (fun j hj => ?_) ?_
  · rw [show addc M i0 j0 v i0 j = M i0 j from if_neg (by omega)]
  · rw [show addc M i0 j0 v i0 j0 = M i0 j0 + v from if_pos ⟨rfl, rfl⟩, Rat.intCast_add]
    grind
theorem XM_in {F : Nat → Nat → Rat} {fr : Nat} {M : Nat → Nat → Int} {s m j0 : Nat} {v : Int} (h : j0 < m) : XM F fr (addc M s j0 v) s m = XM F fr M s m + (v : Rat) * Wb F s j0 := by
  unfold XM
  rw [rw1_on h, sR_same (d := fun i => rw1 F M i fr) (fun i hi => rw1_off (.inl (by omega)))]
  grind
theorem XM_below {F : Nat → Nat → Rat} {fr : Nat} {M : Nat → Nat → Int} {s m j0 : Nat} {v : Int} (h : j0 < fr) : XM F fr (addc M s j0 v) (s + 1) m = XM F fr M (s + 1) m + (v : Rat) * Wb F s j0 := by
  unfold XM
  rw [rw1_off (i := s + 1) (.inl (by omega)), sR_one (c := fun i => rw1 F M i fr) (k := s) (z := (v : Rat) * Wb F s j0) (by omega) (fun i hi => rw1_off (.inl hi)) (rw1_on h)]
  grind
theorem XM_less (F : Nat → Nat → Rat) (fr : Nat) (M : Nat → Nat → Int) (s m : Nat) : XM F fr M s (m + 1) = XM F fr M s m + (M s m : Rat) * Wb F s m := by
  show sR (fun i => rw1 F M i fr) s + (rw1 F M s m + (M s m : Rat) * Wb F s m) = sR (fun i => rw1 F M i fr) s + rw1 F M s m + _
  grind
theorem XM_line (F : Nat → Nat → Rat) (fr : Nat) (M : Nat → Nat → Int) (s : Nat) : XM F fr M (s + 1) 0 = XM F fr M s fr := by
  show sR (fun i => rw1 F M i fr) s + rw1 F M s fr + 0 = sR (fun i => rw1 F M i fr) s + rw1 F M s fr
  grind
theorem XM_zero (F : Nat → Nat → Rat) (fr : Nat) (M : Nat → Nat → Int) : XM F fr M 0 0 = 0 := by
  show (0 : Rat) + 0 = 0
  grind
/-- a turn within: one way on each hand -/
theorem XM_turn {F : Nat → Nat → Rat} {fr : Nat} {M : Nat → Nat → Int} {s m : Nat} (h : m + 1 < fr) : XM F fr (addc (addc M (s + 1) m (M (s + 1) (m + 1))) s (m + 1) (M (s + 1) (m + 1))) (s + 1) (m + 1) = XM F fr M (s + 1) (m + 1 + 1) := by
  rw [XM_below h, XM_in (by omega), XM_less F fr M (s + 1) (m + 1), Wb_of]
  grind
theorem zero_sum {F : Nat → Nat → Rat} {i n : Nat} : rw1 F (fun _ _ => 0) i n = 0 := by
  unfold rw1
  induction n with
  | zero => rfl
  | succ n ih =>
    show sR _ n + ((0 : Int) : Rat) * Wb F i n = 0
    rw [ih]
    have : ((0 : Int) : Rat) = 0 := rfl
    grind
theorem zero_all {F : Nat → Nat → Rat} {fr s : Nat} : sR (fun i => rw1 F (fun _ _ => 0) i fr) s = 0 := by
  induction s with
  | zero => rfl
  | succ n ih =>
    show sR _ n + rw1 F (fun _ _ => 0) n fr = 0
    rw [ih, zero_sum]
    grind
theorem XM_start (F : Nat → Nat → Rat) (B f : Nat) : XM F (f + 1) (addc (fun _ _ => 0) B f 1) B (f + 1) = Wb F B f := by
  rw [XM_in (Nat.lt_succ_self f)]
  unfold XM
  rw [zero_sum, zero_all]
  have : ((1 : Int) : Rat) = 1 := rfl
  grind
theorem addc_nn {M : Nat → Nat → Int} (h : ∀ i j, 0 ≤ M i j) {i0 j0 : Nat} {v : Int} (hv : 0 ≤ v) : ∀ i j, 0 ≤ addc M i0 j0 v i j := fun i j => by
  unfold addc
  have := h i j
  split <;> omega
/-- ends moved on: free places ahead, beads behind -/
def mv (p q : Nat) (e : En) : En := ((e.1.1 + p, e.1.2 + q), e.2)
theorem ds_mv (F : Nat → Nat → Rat) (p q : Nat) : ∀ G : List En, ds (φF F) (G.map (mv p q)) = ds (φF fun i j => F (i + p) (j + q)) G
  | [] => rfl
  | e :: G => by
    show (e.2 : Rat) * F (e.1.1 + p) (e.1.2 + q) + ds (φF F) (G.map (mv p q)) = (e.2 : Rat) * F (e.1.1 + p) (e.1.2 + q) + ds _ G
    rw [ds_mv F p q G]
theorem once_mv {p q : Nat} : ∀ {G : List En}, (G.map (·.1)).Nodup → ((G.map (mv p q)).map (·.1)).Nodup
  | [], _ => List.nodup_nil
  | e :: G, h => by
    have h' : (e.1 :: G.map (·.1)).Nodup := h
    obtain ⟨n1, n2⟩ := List.nodup_cons.mp h'
    refine List.nodup_cons.mpr ⟨fun m => n1 ?_, once_mv n2⟩
    obtain ⟨x, mx, ex⟩ := List.mem_map.mp m
    obtain ⟨y, my, rfl⟩ := List.mem_map.mp mx
    refine List.mem_map.mpr ⟨y, my, ?_⟩
    have e1 : y.1.1 + p = e.1.1 + p := congrArg Prod.fst ex
    have e2 : y.1.2 + q = e.1.2 + q := congrArg Prod.snd ex
    exact Prod.ext (by omega) (by omega)
/-- the word of p free places, i beads, j free places, q beads -/
def gw (p i j q : Nat) : List Bool := List.replicate p false ++ (List.replicate i true ++ List.replicate j false) ++ List.replicate q true
theorem wF_gw (F : Nat → Nat → Rat) (p i j q : Nat) : wF F (gw p i j q) = Wb (fun a b => F (a + p) (b + q)) i j := by
  unfold gw
  rw [wF_beads, wF_frees]
  rfl
end HopW

set_option Elab.async false
set_option linter.all false
set_option maxRecDepth 100000
namespace HopR
open PySem PySem.Spec PyProof.Rows L2
/-! ### repr of a list that holds own objects beside data -/
section
variable {X : Cx}
/-- what repr tells of an item of the list at L, n defs deep, now and later -/
def Itm (X : Cx) (n : Nat) (L : Addr) (H : Hp) (x : V) (t : Str) : Prop :=
  ∀ (pins : List (Addr × Obj)) (σ : L2.St) (H1 : Hp) (s : Shared) (u : Value) (base : Nat) (A : Around) (g : List Code) (Q : Str → Shared → Prop), Same H H1 → Inv X pins σ H1 s → RelV x u → base + t.length ≤ sizeLine →
    Room n A → A.frames = X.A.frames → A.guards = some g → (∀ b, b ≠ L → Clear g b) → (∀ s' H2, Inv X pins σ H2 s' → Same H1 H2 → Q t s') → wpAny (model X.prog X.w) A (pyReprUnder base u) Q X.xe s
theorem vals_has {p : Addr} : ∀ {xs : List V} {us : List Value}, Vals xs us → V.ref p ∈ xs → Value.ref p ∈ us
  | _, _, .cons (a := x) (b := y) r t, h => by
    rcases List.mem_cons.mp h with e | h
    · rw [← e] at r
      cases (show y = Value.ref p from r)
      exact List.mem_cons_self ..
    · exact List.mem_cons_of_mem _ (vals_has t h)
theorem all_read {h : Heap} {v : Value} : ∀ {us : List Value} {ds : List PyData} {as : List Addr}, ReadsAll h us ds as → v ∈ us → ∃ d as', Reads h v d as'
  | _, _, _, .cons r t, hm => by
    rcases List.mem_cons.mp hm with e | hm
    · rw [e]
      exact ⟨_, _, r⟩
    · exact all_read t hm
/-- an own object is no datum -/
theorem no_datum {pins : List (Addr × Obj)} {σ : L2.St} {H : Hp} {s : Shared} {p C dx : Addr} {fs : List (Str × V)} (I : Inv X pins σ H s) (hp : H p = some (.ins C dx fs)) {d : PyData} {as : List Addr} : ¬ Reads s.heap (.ref p) d as := by
  obtain ⟨_, J, _⟩ := ins_get I.hok hp
  obtain ⟨od, J, _⟩ := J.look
  have h1 := J.at_
  have h2 := J.cls
  intro r
  cases r with
  | list a b _ _ =>
    rw [h1] at a
    cases a
    rw [h2] at b
    cases b
  | tuple a b _ _ =>
    rw [h1] at a
    cases a
    rw [h2] at b
    cases b
  | dict a b _ _ _ =>
    rw [h1] at a
    cases a
    rw [h2] at b
    cases b
/-- nor is a list that holds one -/
theorem no_datumL {pins : List (Addr × Obj)} {σ : L2.St} {H : Hp} {s : Shared} {L p C dx : Addr} {xs : List V} {fs : List (Str × V)} (I : Inv X pins σ H s) (hL : H L = some (.lst xs)) (hm : V.ref p ∈ xs) (hp : H p = some (.ins C dx fs)) {d : PyData} {as : List Addr} : ¬ Reads s.heap (.ref L) d as := by
  obtain ⟨its, rv, ⟨o, k, ho, hc, hs, hd⟩, _⟩ := I.list (SqL.of hL)
  have hi := vals_has rv hm
  intro r
  cases r with
  | list a _ c e =>
    rw [ho] at a
    cases a
    rw [hd] at c
    cases c
    obtain ⟨d', as', r'⟩ := all_read e (by simpa using hi)
    exact no_datum I hp r'
  | tuple a b _ _ =>
    rw [ho] at a
    cases a
    rw [hc] at b
    exact absurd (Value.type.inj b) (by decide)
  | dict a b _ _ _ =>
    rw [ho] at a
    cases a
    rw [hc] at b
    exact absurd (Value.type.inj b) (by decide)
theorem itm_data {n : Nat} {L : Addr} {H : Hp} {x : V} {d : PyData} (hd : ∀ H1, Same H H1 → Dp X.K H1 x d) (hs : d.showable = true) (hn : d.hasDict = false) (hdep : d.depth ≤ 64) (hz : d.shown.length ≤ sizeLine)
    (hL : ∀ pins σ H1 s, Same H H1 → Inv X pins σ H1 s → ∀ e as, ¬ Reads s.heap (.ref L) e as) : Itm X n L H x d.shown := by
  intro pins σ H1 s u base A g Q sm I ru hb room fr hg hcl hQ
  obtain ⟨as, rd⟩ := Dp.reads I d x u (hd H1 sm) ru
  obtain ⟨bs, few, tells⟩ := ReprK.of_reads (prog := X.prog) (w := X.w) rd hs (fun e => absurd (hn.symm.trans e) (by decide)) hz
  refine tells base hb A g X.xe s Q hg (fun b hb' => hcl b fun e => ?_) (by have := room.un; omega) (fun _ _ e => e) (fun h' tk hk => hQ _ H1 (I.kept hk) (Same.refl _))
  obtain ⟨d', as', r', _⟩ := few b hb'
  rw [e] at r'
  exact hL _ _ _ _ sm I _ _ r'
/-- a special method found in an own class, called by `last` -/
theorem special_own {M : Model} {A : Around} {E : Value → Shared → Prop} {s : Shared} {K : PySem.W.Frag} {x C f : Addr} {ox : Obj} {od : Option Obj} {name : Str} {last : Value → List Value → Sem Value} {Q : Option Value → Shared → Prop} (kin : K.In s.heap) (J : PySem.W.InstAt s.heap x ox C od)
    (has : PySem.W.findIn K (.ref C) name = some (some (.ref f))) (fn : PySem.W.isFn K (.ref f) = true) (run : wpAny M A (last (.ref f) [.ref x]) (fun v => Q (some v)) E s) : wpAny M A (callSpecialIfBoundBy? last (.ref x) name) Q E s := by
  have tell : wpAny M A (do let v ← last (.ref f) [.ref x]; pure (some v)) Q E s := wpAny_bind (wpAny_mono run (fun _ _ h => wpAny_pure h) fun _ _ h => h)
  have bound := PySem.W.bind_fn (M := M) kin (.ref x) (beq_iff_eq.mp fn)
  unfold callSpecialIfBoundBy? bindSpecialIfBound?
  refine wpAny_holding (wpAny_bind (wpAny_bind (wpAny_bind (J.type.here ((PySem.W.looks_findIn kin has).here (wpAny_bind (wpAny_askSetting (wpAny_ite ?_))))))))
  split
  · exact wpAny_bind (bound.here (wpAny_pure tell))
  · exact wpAny_tryCatch (wpAny_bind (bound.here (wpAny_pure tell)))
theorem itm_own {CX : CXT} {k n : Nat} {L a C dx f : Addr} {H : Hp} {fs : List (Str × V)} {fd : FuncData} {ps : List Str} {sp : Sp} {E : XK} {t : Str} (ha : H a = some (.ins C dx fs)) (rep : PySem.W.findIn X.K (.ref C) "__repr__" = some (some (.ref f))) (fn : PySem.W.isFn X.K (.ref f) = true)
    (F : FnOk X.prog X.w X.K X.mg X.base CX k f fd ps sp) (kn : k ≤ n) (bind : Binds X.K fd ps []) (lets : Passes CX X E) (prom : ∀ H1, Same H H1 → sp [.ref a] H1 (fun v H2 => v = .str t ∧ Same H1 H2) E) : Itm X n L H (.ref a) t := by
  intro pins σ H1 s u base A g Q sm I ru hb room fr hg hcl hQ
  cases (show u = Value.ref a from ru)
  obtain ⟨_, J, _⟩ := ins_get I.hok (sm _ _ ha)
  obtain ⟨od, J, _⟩ := J.look
  have un := room.un
  refine wpAny_pyReprUnder_ref (by omega) ?_
  unfold pyReprObjUnder pyReprObjBy
  refine wpAny_bind (wpAny_cRoomFor (by omega) (wpAny_bind (wpAny_bind (J.type.here ((PySem.W.looks_findIn I.kIn rep).here ?_)))))
  show wpAny _ _ (if (some (Value.ref f)).isNone = true then _ else _) _ _ _
  rw [if_neg (by simp)]
  refine wpAny_bind (special_own I.kIn J rep fn (thn (call_at F (room.mono kn) fr bind lets I (us := [.ref a]) (vs := [.ref a]) (.cons rfl .nil) (prom H1 sm)) ?_))
  rintro v s' ⟨z, H', I', rz, rfl, sm'⟩
  obtain ⟨tk, rfl⟩ := rz
  exact wpAny_bind (wpAny_isInstance (T := "str") (b := true) rfl isSubtype_str_str (wpAny_pure ⟨_, _, rfl, hQ s' H' I' sm'⟩))
theorem vals_at : ∀ {xs : List V} {us : List Value}, Vals xs us → ∀ (i : Nat) x u, xs[i]? = some x → us[i]? = some u → RelV x u
  | _, _, .cons r t, 0, x, u, h1, h2 => by
    cases h1
    cases h2
    exact r
  | _, _, .cons r t, i + 1, x, u, h1, h2 => vals_at t i x u h1 h2
theorem texts_of : ∀ {ts : List Str} {us : List Value}, Vals (ts.map V.str) us → ∃ l : List (Str × Tok), us = strValues l ∧ l.map (·.1) = ts
  | [], _, h => by
    cases h
    exact ⟨[], rfl, rfl⟩
  | t :: ts, _, h => by
    cases h with
    | cons r h =>
      obtain ⟨k, rfl⟩ := r
      obtain ⟨l, rfl, e⟩ := texts_of h
      exact ⟨(t, k) :: l, rfl, by rw [List.map_cons, e]⟩
theorem room_loop {k : Nat} {A : Around} (r : Room (k + 1) A) (args : Args) : Room k (A.under (.builtin "list.__repr__.loop" args)) :=
  ⟨r.hd, by
    have := r.dp
    have e : (A.under (.builtin "list.__repr__.loop" args)).depth ≤ A.depth + 1 := by
      first | exact Nat.le_refl _ | (simp [Around.under, Code.weight, Code.isCreation, Code.isGuard, Code.isCaller, Code.frames, Code.isFrame, guardIds])
    omega, by
    have := r.un
    rw [units_under_list_loop]
    omega⟩
theorem frames_loop {A : Around} (args : Args) : (A.under (.builtin "list.__repr__.loop" args)).frames = A.frames := by
  first | rfl | simp [Around.under, Code.envs, Code.isFrame, pushEnvs]
/-- all turns of the list's repr, the texts so far at P -/
theorem turns {A : Around} {n : Nat} {L P : Addr} {H : Hp} {xs : List V} {ts : List Str} {R : Result → Shared → Prop} (hg : A.guards = some []) (room : Room (n + 1) A) (fr : A.frames = X.A.frames) (hP : H P = none) (hL : H L = some (.lst xs)) (len : ts.length = xs.length)
    (tell : ∀ (i : Nat) x t, xs[i]? = some x → ts[i]? = some t → Itm X n L H x t) (fits : (listText ts).length ≤ sizeLine) (bad : ∀ e s', X.xe e s' → R (.error e) s') {pins : List (Addr × Obj)} {σ : L2.St}
    (good : ∀ s' H2 u, Inv X pins σ H2 s' → Same H H2 → R (.ok (.ret (.str (listText ts) u))) s') :
    ∀ (k i : Nat) (H1 : Hp) (s : Shared), xs.length - i = k → i ≤ xs.length → Inv X pins σ H1 s → Same H H1 → H1 P = some (.lst ((ts.take i).map V.str)) →
      codeAny (model X.prog X.w) A (.builtin "list.__repr__.loop" ⟨[.ref L, rawInt i, .ref P, rawInt ((piled (ts.take i) : Nat) : Int)], []⟩) R s := by
  have few := textFrom_len ts 0 "["
  have whole : (listText ts).length = (textFrom 0 "[" ts).length + 1 := by
    show (textFrom 0 "[" ts ++ "]").length = _
    rw [strLen_append]
    rfl
  intro k
  induction k with
  | zero =>
    intro i H1 s hk hi I sm eP
    obtain ⟨its, rv, ⟨o, m, ho, _, _, hd⟩, _⟩ := I.list (SqL.of (sm _ _ hL))
    obtain ⟨its2, rv2, ⟨o2, m2, ho2, _, _, hd2⟩, _⟩ := I.list (SqL.of eP)
    obtain ⟨l, el, e1⟩ := texts_of rv2
    have none_ : its.toArray[i]? = none := by
      have := rv.length
      simp
      omega
    rw [List.take_of_length_le (by omega)] at e1
    refine codeAny_builtin F.entry_list_repr_loop ?_
    show wpAny _ _ (Builtin.«list.__repr__.loop» ⟨[.ref L, .int i 0, .ref P, .int ((piled (ts.take i) : Nat) : Int) 0], []⟩) _ _ s
    rw [repr_loop_tree]
    refine wpAny_bind (wpAny_listItems ho hd ?_)
    rw [Int.toNat_natCast]
    simp only [none_]
    unfold reprEnd
    refine wpAny_bind (wpAny_listItems ho2 hd2 ?_)
    rw [show its2.toArray.toList = strValues l from el, repr_fold, e1]
    exact wpAny_bind (wpAny_pure (wpAny_bind (wpAny_mkStr (wpAny_pure (good _ H1 _ (I.tok _) sm)) fits)))
  | succ k ih =>
    intro i H1 s hk hi I sm eP
    have hlt : i < xs.length := by omega
    obtain ⟨its, rv, ⟨o, m, ho, _, _, hd⟩, _⟩ := I.list (SqL.of (sm _ _ hL))
    have hli := rv.length
    obtain ⟨t, ht⟩ : ∃ t, ts[i]? = some t := ⟨ts[i]'(by omega), List.getElem?_eq_getElem _⟩
    obtain ⟨x, hx⟩ : ∃ x, xs[i]? = some x := ⟨xs[i], List.getElem?_eq_getElem hlt⟩
    have here : its.toArray[i]? = some (its[i]'(by omega)) := by simp
    have rel : RelV x (its[i]'(by omega)) := vals_at rv i _ _ hx (List.getElem?_eq_getElem _)
    have p1 := piled_take_succ ht
    have p2 := piled_take_le ts (i + 1)
    have p3 := piled_le_listText ts
    refine codeAny_builtin F.entry_list_repr_loop ?_
    show wpAny _ _ (Builtin.«list.__repr__.loop» ⟨[.ref L, .int i 0, .ref P, .int ((piled (ts.take i) : Nat) : Int) 0], []⟩) _ _ s
    rw [repr_loop_tree]
    refine wpAny_bind (wpAny_listItems ho hd ?_)
    rw [Int.toNat_natCast]
    simp only [here]
    rw [Int.toNat_natCast]
    refine wpAny_bind (wpAny_holding (wpAny_mono (tell i x t hx ht pins σ H1 s _ (piled (ts.take i) + 1) _ _ _ sm I rel (by omega) (room_loop room _) ((frames_loop _).trans fr) (guards_under_guard (isGuard_list_loop _) hg) (fun b hb => (Clear.nil b).cons (a := L) fun e => hb e.symm) ?_) (fun _ _ h => h) bad))
    intro s' H2 I2 sm2
    refine wpAny_bind (wpAny_mkStr ?_ (Nat.le_trans (few.2.1 t (List.mem_of_getElem? ht)) (by omega)))
    refine wpAny_bind ?_
    show wpAny _ _ (updateSeq P _) _ _ _
    have eP2 := sm2 _ _ eP
    obtain ⟨hz2, its2, n2, rv2, e2⟩ := (show ObjOk X.prog X.w H2 s'.heap P (.lst ((ts.take i).map V.str)) from I2.hok P _ eP2)
    have hl2 := rv2.length
    have hl3 : ((ts.take i).map V.str).length = i := by
      rw [List.length_map, List.length_take]
      omega
    have few1 := few.1
    rw [if_neg (Nat.lt_irrefl 0)] at few1
    refine wpAny_updateSeq e2 rfl (wpAny_pure ⟨F.quiet_list_repr_loop _, ?_⟩) (by rw [List.size_toArray]; omega) (by rw [Array.size_push, List.size_toArray]; omega)
    have i1 : ((i : Int) + 1) = ((i + 1 : Nat) : Int) := by omega
    have i2 : piled (ts.take i) + (t.length + 2) = piled (ts.take (i + 1)) := by omega
    rw [i1, i2]
    have et : (ts.take (i + 1)).map V.str = (ts.take i).map V.str ++ [V.str t] := by
      rw [List.take_add_one, ht, List.map_append]
      rfl
    refine ih (i + 1) (upd H2 P (.lst ((ts.take (i + 1)).map V.str))) _ (by omega) hlt (I2.write (e := P) (by rw [eP2]; trivial) (.inl rfl) (fun b u hb q => (Heap.get?_update_other _ _ (Ne.symm hb)).trans q) ⟨_, Heap.get?_update_self _ e2 rfl⟩ ⟨?_, its2 ++ [.str t s'.toks], n2 + 1, ?_, ?_⟩) (same_new hP (sm.trans sm2)) upd_same
    · rw [et, List.length_append, hl3]
      show i + 1 ≤ sizeLine
      omega
    · rw [et]
      exact rv2.append (.cons ⟨_, rfl⟩ .nil)
    · refine (Heap.get?_update_self _ e2 rfl).trans ?_
      simp [Obj.mapSeq]
/-- repr(xs), xs no empty list, of data and of own objects -/
def rReprL (X : Cx) (n : Nat) : List V → Hp → VK → Prop := fun vs H Q => ∃ (L : Addr) (x : V) (xs : List V) (ts : List Str), vs = [.ref L] ∧ H L = some (.lst (x :: xs)) ∧ ts.length = (x :: xs).length ∧ (∀ (i : Nat) y t, (x :: xs)[i]? = some y → ts[i]? = some t → Itm X n L H y t) ∧
  (listText ts).length ≤ sizeLine ∧ ∀ H', Same H H' → Q (.str (listText ts)) H'
theorem cr_reprL {n : Nat} (hG : X.A.guards = some []) (room : Room (n + 3) X.A) : CallR X (.builtin "repr") (rReprL X n) := by
  rintro pins s σ H _ us Q I r ⟨L, x, xs, ts, rfl, hL, len, tell, fits, q⟩
  obtain ⟨u, rfl, rv⟩ := vals1 r
  cases (show u = Value.ref L from rv)
  obtain ⟨its, rv2, ⟨o, m, ho, hc, _, hd⟩, _⟩ := I.list (SqL.of hL)
  have un := room.un
  have type : s.TypeIs (.ref L) "list" := ⟨o, ho, hc⟩
  have nP : H s.heap.objs.size = none := I.hok.fresh (Nat.le_refl _)
  cases rv2 with
  | cons r1 r2 =>
    refine call_repr_slot (by omega) type F.slot_list_repr.toG ?_
    refine wpAny_call (codeAny_call_builtin F.slot_list_repr.plain F.entry_list_repr (F.slot_list_repr.check _ _ _ _ _ _ _ _ type (F.args_list_repr_1 _) ?_))
    refine wpAny_list_repr_head (A := X.A.in1.in1) hG (fun _ _ _ h => nomatch h) ho hd ?_
    refine wpAny_bind (m := newList []) (wpAny_newObj_type (wpAny_pure ⟨F.quiet_list_repr_loop _, ?_⟩))
    refine turns (A := X.A.in1) (n := n) hG (Room.mono (k := n + 2) (j := n + 1) room.in1 (Nat.le_succ _)) rfl nP hL len tell fits ?bad (pins := pins) (σ := σ) ?good _ 0 (upd H s.heap.objs.size (.lst [])) _ rfl (Nat.zero_le _) (I.laid (t' := s.toks) (fun b o e => Heap.get?_push_of_some _ e) (Nat.le_refl _) ⟨Nat.zero_le _, [], 0, .nil, Heap.get?_push_size _ rfl⟩) (same_upd nP) upd_same
    case bad => exact fun e s' h => h
    case good => exact fun s' H2 u I2 sm => ⟨_, _, rfl, .str _, H2, I2, ⟨_, rfl⟩, q H2 sm⟩
end
end HopR

set_option Elab.async false
set_option linter.all false
set_option maxRecDepth 100000
namespace HopR
open PySem PySem.Spec PyProof.Rows L2
/-! ### {o!r} in an f-string, o of an own class -/
section
variable {X : Cx} {CX : CXT} {n : Nat} {C f : Addr} {fd : FuncData} {ps : List Str} {sp : Sp} {E : XK} {e : Expr} {te : TE} {pos : Pos}
def tFmtO (C : Addr) (sp : Sp) (E : XK) (te : TE) : TE := fun σ H Q => te σ H fun x H1 => ∃ a dx fs, x = .ref a ∧ H1 a = some (.ins C dx fs) ∧ sp [.ref a] H1 (fun v H' => ∃ z : Str, v = .str z ∧ z.length ≤ sizeLine ∧ Q (.str z) H') E
theorem pe_fmtO (rep : PySem.W.findIn X.K (.ref C) "__repr__" = some (some (.ref f))) (fn : PySem.W.isFn X.K (.ref f) = true) (F : FnOk X.prog X.w X.K X.mg X.base CX n f fd ps sp) (room : Room (n + 1) X.A) (bind : Binds X.K fd ps []) (lets : Passes CX X E) (he : PE X e te) :
    PE X (.FormattedValue e 114 none pos) (tFmtO C sp E te) := by
  constructor
  intro pins s σ H Q I h
  refine wpAny_FormattedValue_repr (thn (he.run pins s σ H _ I h) ?_)
  rintro u s1 ⟨_, H1, I1, ru, a, dx, fs, rfl, ha, prom⟩
  cases (show u = Value.ref a from ru)
  obtain ⟨_, J, _⟩ := ins_get I1.hok ha
  obtain ⟨od, J, _⟩ := J.look
  have un := room.un
  rw [pyReprObj_eq_pyReprObjBy]
  unfold pyReprObjBy
  refine wpAny_bind (wpAny_cRoomFor (by omega) (wpAny_bind (wpAny_bind (J.type.here ((PySem.W.looks_findIn I1.kIn rep).here ?_)))))
  show wpAny _ _ (if (some (Value.ref f)).isNone = true then _ else _) _ _ _
  rw [if_neg (by simp)]
  refine wpAny_bind (special_own I1.kIn J rep fn (thn (call_at F (room.mono (Nat.le_succ n)) rfl bind lets I1 (us := [.ref a]) (vs := [.ref a]) (.cons rfl .nil) prom) ?_))
  rintro v s' ⟨_, H', I', rz, z, rfl, hz, q⟩
  obtain ⟨tk, rfl⟩ := rz
  refine wpAny_bind (wpAny_isInstance (T := "str") (b := true) rfl isSubtype_str_str (wpAny_pure ?_))
  exact wpAny_formatField_str ⟨.str z, H', I', ⟨_, rfl⟩, q⟩ ⟨.str z, H', I'.tok _, ⟨_, rfl⟩, q⟩ hz
/-- o == p by the class's own __eq__, told by its two facts alone -/
theorem op_eqTwo (eq : PySem.W.findIn X.K (.ref C) "__eq__" = some (some (.ref f))) (fn : PySem.W.isFn X.K (.ref f) = true) (F : FnOk X.prog X.w X.K X.mg X.base CX n f fd ps sp) (room : Room n X.A) (bind : Binds X.K fd ps []) (lets : Passes CX X E) : OpR X (compareOp .Eq) (rOwn C sp E false) := by
  rintro pins s σ H _ _ v u Q I rx ry ⟨a, b, dx, dy, fs, gs, rfl, rfl, ha, hb, prom⟩
  cases rx; cases ry
  obtain ⟨_, J, _⟩ := ins_get I.hok ha
  obtain ⟨_, J', _⟩ := ins_get I.hok hb
  obtain ⟨_, J, _⟩ := J.look
  obtain ⟨_, J', _⟩ := J'.look
  obtain ⟨m, F0⟩ := I.fr
  refine PySem.W.cmp_K (op := .Eq) (tb := .ref C) room.units0 F0 I.ok.mod.kin J J'.type (by simp [PySem.W.notFirst]) eq fn (thn (call_at F room rfl bind lets I two_refs prom) ?_)
  rintro w s' ⟨z, H', I', rz, k, rfl, q⟩
  cases rz
  rw [Bool.xor_false] at q
  exact ⟨.bl k, H', I', rfl, q⟩
end
/-! ### lists of new tuples -/
def TupH {α : Type} (H : Hp) (f : α → List V) : List α → List V → Prop
  | [], vs => vs = []
  | a :: r, vs => ∃ p vr, vs = .ref p :: vr ∧ H p = some (.tup (f a)) ∧ TupH H f r vr
section
variable {α : Type} {H H' : Hp} {f : α → List V}
theorem tupH_same (s : Same H H') : ∀ {as : List α} {vs : List V}, TupH H f as vs → TupH H' f as vs
  | [], _, h => h
  | _ :: _, _, ⟨p, vr, e, h1, h2⟩ => ⟨p, vr, e, s _ _ h1, tupH_same s h2⟩
theorem tupH_upd {D : Addr} {xs : List V} {o : HO} (hD : H D = some (.lst xs)) : ∀ {as : List α} {vs : List V}, TupH H f as vs → TupH (upd H D o) f as vs
  | [], _, h => h
  | _ :: _, _, ⟨p, vr, e, h1, h2⟩ => ⟨p, vr, e, by
      rw [upd_ne (fun z => by rw [z, hD] at h1; cases h1)]
      exact h1, tupH_upd hD h2⟩
theorem tupH_add {a : α} {p : Addr} (h1 : H p = some (.tup (f a))) : ∀ {as : List α} {vs : List V}, TupH H f as vs → TupH H f (as ++ [a]) (vs ++ [.ref p])
  | [], _, h => by
    cases h
    exact ⟨p, [], rfl, h1, rfl⟩
  | _ :: _, _, ⟨p', vr, e, h2, h3⟩ => ⟨p', vr ++ [.ref p], by rw [e]; rfl, h2, tupH_add h1 h3⟩
theorem tupH_len : ∀ {as : List α} {vs : List V}, TupH H f as vs → vs.length = as.length
  | [], _, h => by
    cases h
    rfl
  | _ :: _, _, ⟨_, vr, e, _, h2⟩ => by rw [e, List.length_cons, List.length_cons, tupH_len h2]
theorem tupH_at : ∀ {as : List α} {vs : List V} {k : Nat} {a : α}, TupH H f as vs → as[k]? = some a → ∃ p, vs[k]? = some (.ref p) ∧ H p = some (.tup (f a))
  | [], _, k, a, h, e => by simp at e
  | b :: r, _, 0, a, ⟨p, vr, ev, h1, h2⟩, e => by
    have : b = a := Option.some.inj e
    subst this
    exact ⟨p, by rw [ev]; rfl, h1⟩
  | b :: r, _, k + 1, a, ⟨p, vr, ev, h1, h2⟩, e => by
    obtain ⟨p', e1, e2⟩ := tupH_at (k := k) h2 e
    exact ⟨p', by rw [ev]; exact e1, e2⟩
end
end HopR

set_option Elab.async false
set_option linter.all false
set_option maxRecDepth 100000
namespace HopT
open PySem PySem.Spec PyProof.Rows L2
/-! ### sorted(tuples of ints, of any lengths but nought): the same tuples in some order -/
section
variable {prog : Program} {w : World} {A : Around} {E : Value → Shared → Prop} {s : Shared}
def Whole (u : Value) : Prop := ∃ (x : Int) (t : Tok), u = .int x t
def Begun (h : Heap) (v : Value) : Prop := ∃ a o f us n, v = .ref a ∧ h.get? a = some o ∧ o.cls = .type "tuple" ∧ o.data = .seq (f :: us).toArray n ∧ ∀ u ∈ f :: us, Whole u
/-- two rows of ints are always told apart or alike -/
theorem apart {b z : Bool} : ∀ (l : List (Value × Value)) (i : Nat), (∀ p ∈ l, Whole p.1 ∧ Whole p.2) → ∃ c : Bool, ∀ Q : Bool → Shared → Prop, Q c s → PySem.W.KatLex prog w A b z Q l i s
  | [], _, _ => ⟨z, fun _ q => PySem.W.kat_nil q⟩
  | (_, _) :: l, i, hl => by
    obtain ⟨⟨x, t, rfl⟩, ⟨y, u, rfl⟩⟩ := hl _ (List.mem_cons_self ..)
    obtain ⟨c, hc⟩ := apart l (i + 1) (fun p m => hl p (List.mem_cons_of_mem _ m))
    by_cases same : x = y
    · exact ⟨c, fun Q q => PySem.W.kat_cons (SeqAt.EqAt.int_int x t y u prog w _ _ (PySem.W.kat_go (fun _ => PySem.W.kat_yes (hc Q q)) (fun no => by simp [same] at no)))⟩
    · exact ⟨decide (x < y), fun Q q => PySem.W.kat_cons (SeqAt.EqAt.int_int x t y u prog w _ _ (PySem.W.kat_go (fun yes => absurd (by simpa using yes) same) (fun _ => PySem.W.kat_no (TS.oneLt_ints _ q))))⟩
theorem heads {h : Heap} : ∀ vs : List Value, (∀ v ∈ vs, Begun h v) → ∃ fs : List Value, PySem.W.KatTups h vs fs ∧ fs.length = vs.length ∧ ∀ f ∈ fs, Whole f
  | [], _ => ⟨[], .nil, rfl, by simp⟩
  | v :: vs, hv => by
    obtain ⟨fs, k, l, z⟩ := heads vs (fun u m => hv u (List.mem_cons_of_mem _ m))
    obtain ⟨a, o, f, us, n, rfl, g, c, d, i⟩ := hv v (List.mem_cons_self ..)
    refine ⟨f :: fs, .cons g c d (by simp) k, by simp [l], ?_⟩
    intro x m
    cases m with
    | head => exact i f (List.mem_cons_self ..)
    | tail _ m => exact z x m
theorem can_sort {a : Addr} {vs : List Value} (some' : vs ≠ []) (hv : ∀ v ∈ vs, Begun s.heap v) (na : ∀ o, s.heap.get? a = some o → o.cls ≠ .type "tuple") : Srt.Sortable prog w A s a vs := fun h' keep => by
  have hv' : ∀ v ∈ vs, Begun h' v := fun v m => by
    obtain ⟨b, o, f, us, n, e, g, c, r⟩ := hv v m
    exact ⟨b, o, f, us, n, e, keep b o (by rintro rfl; exact na o g c) g, c, r⟩
  obtain ⟨fs, k, l, z⟩ := heads vs hv'
  have p : 0 < fs.length := by rw [l]; exact List.length_pos_iff.mpr some'
  have nt : (Value.type "int" != Value.type "tuple") = true := by first | decide +kernel | rfl
  refine ⟨tuples' true, fun Q E q => PySem.W.kat_kind (T := .type "int") k p (fun f m => ?_) rfl (nt ▸ q), fun x y hx hy => ?_⟩
  · obtain ⟨i, t, rfl⟩ := z f m
    exact .now
  · obtain ⟨a1, o1, f1, us1, n1, e1, g1, c1, d1, i1⟩ := hv' _ hx
    obtain ⟨a2, o2, f2, us2, n2, e2, g2, c2, d2, i2⟩ := hv' _ hy
    obtain ⟨c, hc⟩ := apart (prog := prog) (w := w) (A := A) (s := { s with heap := h' }) (b := true) (z := decide ((f1 :: us1).toArray.size < (f2 :: us2).toArray.size)) ((f1 :: us1).zip (f2 :: us2)) 0 (fun p m => ⟨i1 _ (List.of_mem_zip m).1, i2 _ (List.of_mem_zip m).2⟩)
    rw [e1, e2]
    exact ⟨c, PySem.W.kat_lt g1 d1 g2 d2 (hc _ ⟨rfl, rfl⟩)⟩
end
def rSortedZ (K : PySem.W.Frag) : List V → Hp → VK → Prop := fun vs H Q => ∃ (a : Addr) (ts : List Addr), vs = [.ref a] ∧ SqL K H a (ts.map V.ref) ∧ (∀ t ∈ ts, ∃ (n : Int) (ns : List Int), H t = some (.tup ((n :: ns).map V.int))) ∧
  ∀ (ys : List Addr) p, ys.Perm ts → H p = none → Q (.ref p) (upd H p (.lst (ys.map V.ref)))
theorem refs_are : ∀ {ts : List Addr} {us : List Value}, Vals (ts.map V.ref) us → us = ts.map Value.ref
  | [], _, .nil => rfl
  | _ :: _, _, .cons r t => by cases r; rw [refs_are t]; rfl
theorem are_refs : ∀ ts : List Addr, Vals (ts.map V.ref) (ts.map Value.ref)
  | [] => .nil
  | _ :: ts => .cons rfl (are_refs ts)
theorem perm_refs {out : List Value} {ts : List Addr} (h : out.Perm (ts.map Value.ref)) : ∃ ys : List Addr, out = ys.map Value.ref ∧ ys.Perm ts := by
  let f : Value → Addr := fun v => match v with | .ref a => a | _ => 0
  have e : ∀ l : List Addr, (l.map Value.ref).map f = l := fun l => by induction l with
    | nil => rfl
    | cons x l ih => rw [List.map_cons, List.map_cons, ih]
  refine ⟨out.map f, ?_, by have := h.map f; rwa [e] at this⟩
  rw [List.map_map]
  refine (List.map_id out).symm.trans (List.map_congr_left fun v m => ?_)
  obtain ⟨a, _, rfl⟩ := List.mem_map.mp (h.mem_iff.mp m)
  rfl
theorem cr_sortedZ {X : Cx} : CallR X (.builtin "sorted") (rSortedZ X.K) := by
  rintro pins s σ H vs us Q I r ⟨a, ts, rfl, hs, ht, q⟩
  obtain ⟨its, rv, isl, big⟩ := I.list hs
  obtain rfl := refs_are rv
  rw [Vals.ref1 r]
  have beg : ∀ v ∈ ts.map Value.ref, Begun s.heap v := by
    intro v m
    obtain ⟨t, mt, rfl⟩ := List.mem_map.mp m
    obtain ⟨n, ns, e⟩ := ht t mt
    obtain ⟨_, vs', r', o, g, c, k, d⟩ := I.hok _ _ e
    have wh := SrtO.ints_mem r'.ints
    cases r' with
    | cons r0 rs => exact ⟨t, o, _, _, k, rfl, g, c, d, wh⟩
  refine Srt.sorted_any isl.isList (by simpa using big) (fun two h1 b hb kk => can_sort (by rintro e; rw [e] at two; simp at two) (fun v m => ?_) (fun o g => ?_)) (fun out po => ?_)
  · obtain ⟨t, o, f, us, n, e, g, rest⟩ := beg v m
    exact ⟨t, o, f, us, n, e, (kk _ _ g).2, rest⟩
  · obtain rfl := Option.some.inj (g.symm.trans hb)
    exact fun c => absurd (Value.type.inj c) (by decide)
  · obtain ⟨ys, rfl, py⟩ := perm_refs po
    obtain ⟨k, at'⟩ := sortedAll_at s.heap (ts.map Value.ref) (ys.map Value.ref).toArray
    have len : (ys.map V.ref).length ≤ sizeLine := by rw [List.length_map, py.length_eq]; simpa using big
    exact ⟨.ref _, upd H (s.heap.objs.size + 1) (.lst (ys.map V.ref)), I.laid (t' := s.toks) (fun _ _ => sortedAll_old) (Nat.le_succ _) ⟨len, _, k, are_refs ys, at'⟩, rfl, q ys _ py (I.hok.fresh (Nat.le_succ _))⟩
end HopT

set_option Elab.async false
set_option linter.all false
set_option maxRecDepth 100000
namespace HopT
open PySem PySem.Spec PyProof.Rows L2
/-! ### sorted(tuples of three ints), any number of them: rising -/
abbrev T3 := Int × Int × Int
def lexT (p q : T3) : Bool := if p.1 = q.1 then (if p.2.1 = q.2.1 then decide (p.2.2 < q.2.2) else decide (p.2.1 < q.2.1)) else decide (p.1 < q.1)
theorem lexT_iff {p q : T3} : lexT p q = true ↔ p.1 < q.1 ∨ (p.1 = q.1 ∧ (p.2.1 < q.2.1 ∨ (p.2.1 = q.2.1 ∧ p.2.2 < q.2.2))) := by
  unfold lexT
  by_cases e : p.1 = q.1
  · rw [if_pos e]
    by_cases e2 : p.2.1 = q.2.1
    · rw [if_pos e2, decide_eq_true_eq]; omega
    · rw [if_neg e2, decide_eq_true_eq]; omega
  · rw [if_neg e, decide_eq_true_eq]; omega
theorem lexT_no {p q : T3} : lexT p q = false ↔ ¬ (p.1 < q.1 ∨ (p.1 = q.1 ∧ (p.2.1 < q.2.1 ∨ (p.2.1 = q.2.1 ∧ p.2.2 < q.2.2)))) := by
  rw [← lexT_iff]
  cases lexT p q <;> simp
theorem swo_lexT (k : Value → T3) : SrtO.Swo fun v u => lexT (k v) (k u) := by
  refine ⟨fun x y h => ?_, fun x y z h1 h2 => ?_⟩
  · have a := lexT_iff.mp h
    refine lexT_no.mpr ?_
    omega
  · have a := lexT_no.mp h1
    have b := lexT_no.mp h2
    refine lexT_no.mpr ?_
    omega
def IsTrip (h : Heap) (v : Value) (x y z : Int) : Prop := ∃ a o t u r n, v = .ref a ∧ h.get? a = some o ∧ o.cls = .type "tuple" ∧ o.data = .seq [Value.int x t, Value.int y u, Value.int z r].toArray n
section
variable {prog : Program} {w : World} {A : Around} {E : Value → Shared → Prop} {s : Shared}
theorem trip_cmp {vs : List Value} {k : Value → T3} (hp : ∀ v ∈ vs, IsTrip s.heap v (k v).1 (k v).2.1 (k v).2.2) : SrtO.Cmp prog w A s (tuples' true) (fun p => p.1 ∈ vs) (SrtO.lt2 fun v u => lexT (k v) (k u)) := by
  intro p q hm hm'
  have h1 := hp _ hm
  have h2 := hp _ hm'
  show wpAny (model prog w) A (keyLt' (tuples' true) p.1 q.1) (fun r s' => s' = s ∧ r = lexT (k p.1) (k q.1)) (fun _ _ => False) s
  unfold lexT
  generalize (k p.1).1 = x at h1 ⊢
  generalize (k p.1).2.1 = y at h1 ⊢
  generalize (k p.1).2.2 = z at h1 ⊢
  generalize (k q.1).1 = x' at h2 ⊢
  generalize (k q.1).2.1 = y' at h2 ⊢
  generalize (k q.1).2.2 = z' at h2 ⊢
  obtain ⟨a, o, t, u, r, n, e, ho, hc, hd⟩ := h1
  obtain ⟨a', o', t', u', r', n', e', ho', hc', hd'⟩ := h2
  rw [e, e']
  refine PySem.W.kat_lt ho hd ho' hd' ?_
  show PySem.W.KatLex prog w A true (decide (3 < 3)) _ [(.int x t, .int x' t'), (.int y u, .int y' u'), (.int z r, .int z' r')] 0 s
  refine PySem.W.kat_cons (SeqAt.EqAt.int_int x t x' t' prog w _ _ ?_)
  refine PySem.W.kat_go (fun e1 => ?_) (fun e1 => ?_)
  · have ex : x = x' := by simpa using e1
    refine PySem.W.kat_yes (PySem.W.kat_cons (SeqAt.EqAt.int_int y u y' u' prog w _ _ ?_))
    refine PySem.W.kat_go (fun e2 => ?_) (fun e2 => ?_)
    · have ey : y = y' := by simpa using e2
      refine PySem.W.kat_yes (PySem.W.kat_cons (SeqAt.EqAt.int_int z r z' r' prog w _ _ ?_))
      refine PySem.W.kat_go (fun e3 => ?_) (fun e3 => ?_)
      · have ez : z = z' := by simpa using e3
        have e4 : (if x = x' then (if y = y' then decide (z < z') else decide (y < y')) else decide (x < x')) = false := by
          rw [if_pos ex, if_pos ey, ez]
          exact decide_eq_false (Int.lt_irrefl _)
        exact PySem.W.kat_yes (PySem.W.kat_nil ⟨rfl, e4.symm⟩)
      · have e4 : (if x = x' then (if y = y' then decide (z < z') else decide (y < y')) else decide (x < x')) = decide (z < z') := by rw [if_pos ex, if_pos ey]
        refine PySem.W.kat_no (TS.oneLt_ints _ ?_)
        exact (show s = s ∧ decide (z < z') = _ from ⟨rfl, e4.symm⟩)
    · have ey : ¬ y = y' := by simpa using e2
      have e4 : (if x = x' then (if y = y' then decide (z < z') else decide (y < y')) else decide (x < x')) = decide (y < y') := by rw [if_pos ex, if_neg ey]
      refine PySem.W.kat_no (TS.oneLt_ints _ ?_)
      exact (show s = s ∧ decide (y < y') = _ from ⟨rfl, e4.symm⟩)
  · have ex : ¬ x = x' := by simpa using e1
    have e4 : (if x = x' then (if y = y' then decide (z < z') else decide (y < y')) else decide (x < x')) = decide (x < x') := if_neg ex
    exact PySem.W.kat_no (TS.oneLt_ints _ (show s = s ∧ decide (x < x') = _ from ⟨rfl, e4.symm⟩))
theorem trips_sortableO {a : Addr} {vs : List Value} {k : Value → T3} (some' : vs ≠ []) (hp : ∀ v ∈ vs, IsTrip s.heap v (k v).1 (k v).2.1 (k v).2.2) (na : ∀ o, s.heap.get? a = some o → o.cls ≠ .type "tuple") : SrtO.SortableO prog w A s a vs fun v u => lexT (k v) (k u) := by
  intro h' keep
  have hp' : ∀ v ∈ vs, IsTrip h' v (k v).1 (k v).2.1 (k v).2.2 := fun v hm => by
    obtain ⟨b, o, t, u, r, n, e, ho, hc, hd⟩ := hp v hm
    exact ⟨b, o, t, u, r, n, e, keep b o (by rintro rfl; exact na o ho hc) ho, hc, hd⟩
  have hv' : ∀ v ∈ vs, Begun h' v := fun v hm => by
    obtain ⟨b, o, t, u, r, n, e, ho, hc, hd⟩ := hp' v hm
    refine ⟨b, o, _, _, n, e, ho, hc, hd, fun x hx => ?_⟩
    rcases List.mem_cons.mp hx with rfl | hx
    · exact ⟨_, _, rfl⟩
    rcases List.mem_cons.mp hx with rfl | hx
    · exact ⟨_, _, rfl⟩
    obtain rfl := List.mem_singleton.mp hx
    exact ⟨_, _, rfl⟩
  obtain ⟨fs, kt, l, z⟩ := heads vs hv'
  have p : 0 < fs.length := by rw [l]; exact List.length_pos_iff.mpr some'
  have nt : (Value.type "int" != Value.type "tuple") = true := by first | decide +kernel | rfl
  refine ⟨tuples' true, fun Q E q => PySem.W.kat_kind (T := .type "int") kt p (fun f m => ?_) rfl (nt ▸ q), trip_cmp hp'⟩
  obtain ⟨i, t, rfl⟩ := z f m
  exact .now
end
def rSortedQ (K : PySem.W.Frag) : List V → Hp → VK → Prop := fun vs H Q => ∃ (a : Addr) (ts : List Addr) (k : Addr → T3), vs = [.ref a] ∧ SqL K H a (ts.map V.ref) ∧ (∀ t ∈ ts, H t = some (.tup [.int (k t).1, .int (k t).2.1, .int (k t).2.2])) ∧
  ∀ (ys : List Addr) p, ys.Perm ts → ys.Pairwise (fun x y => lexT (k y) (k x) = false) → H p = none → Q (.ref p) (upd H p (.lst (ys.map V.ref)))
theorem cr_sortedQ {X : Cx} : CallR X (.builtin "sorted") (rSortedQ X.K) := by
  rintro pins s σ H vs us Q I r ⟨a, ts, k, rfl, hs, ht, q⟩
  obtain ⟨its, rv, isl, big⟩ := I.list hs
  obtain rfl := refs_are rv
  rw [Vals.ref1 r]
  let kv : Value → T3 := fun v => match v with | .ref a => k a | _ => (0, 0, 0)
  have beg : ∀ v ∈ ts.map Value.ref, IsTrip s.heap v (kv v).1 (kv v).2.1 (kv v).2.2 := by
    intro v m
    obtain ⟨t, mt, rfl⟩ := List.mem_map.mp m
    obtain ⟨_, vs', r', o, g, c, n, d⟩ := I.hok _ _ (ht t mt)
    cases r' with
    | cons r0 rs =>
      cases rs with
      | cons r1 rs =>
        cases rs with
        | cons r2 rs =>
          cases rs
          obtain ⟨t0, rfl⟩ := r0
          obtain ⟨t1, rfl⟩ := r1
          obtain ⟨t2, rfl⟩ := r2
          exact ⟨t, o, t0, t1, t2, n, rfl, g, c, d⟩
  refine SrtO.sorted_ord (swo_lexT kv) isl.isList (by simpa using big) (fun two h1 b hb kk => trips_sortableO (by rintro e; rw [e] at two; simp at two) (fun v m => ?_) (fun o g => ?_)) (fun out so st => ?_)
  · obtain ⟨b', o, t, u, r, n, e, g, rest⟩ := beg v m
    exact ⟨b', o, t, u, r, n, e, (kk _ _ g).2, rest⟩
  · obtain rfl := Option.some.inj (g.symm.trans hb)
    exact fun c => absurd (Value.type.inj c) (by decide)
  · obtain ⟨ys, rfl, py⟩ := perm_refs st.perm
    obtain ⟨kk, at'⟩ := sortedAll_at s.heap (ts.map Value.ref) (ys.map Value.ref).toArray
    have len : (ys.map V.ref).length ≤ sizeLine := by rw [List.length_map, py.length_eq]; simpa using big
    have so' : ys.Pairwise (fun x y => lexT (k y) (k x) = false) := List.pairwise_map.mp so
    exact ⟨.ref _, upd H (s.heap.objs.size + 1) (.lst (ys.map V.ref)), I.laid (t' := s.toks) (fun _ _ => sortedAll_old) (Nat.le_succ _) ⟨len, _, kk, are_refs ys, at'⟩, rfl, q ys _ py so' (I.hok.fresh (Nat.le_succ _))⟩
end HopT

set_option Elab.async false
set_option linter.all false
set_option maxRecDepth 100000
namespace HopR
open PySem L2
/-! ### data that can be shown -/
structure Okd (d : PyData) (k N : Nat) : Prop where
  sh : d.showable = true
  nd : d.hasDict = false
  dp : d.depth ≤ k
  ls : d.leavesShort 13 = true
  wt : d.weight ≤ N
structure Okds (ds : List PyData) (k N : Nat) : Prop where
  sh : PyData.showableAll ds = true
  nd : PyData.hasDictAll ds = false
  dp : PyData.depthAll ds ≤ k
  ls : PyData.leavesShortAll 13 ds = true
  wt : PyData.weightAll ds ≤ N
theorem Okds.nil {k : Nat} : Okds [] k 0 := ⟨rfl, rfl, Nat.zero_le _, rfl, Nat.le_refl _⟩
theorem Okds.cons {d : PyData} {ds : List PyData} {k N M : Nat} (a : Okd d k N) (b : Okds ds k M) : Okds (d :: ds) k (N + 1 + M) where
  sh := by simp only [PyData.showableAll, a.sh, b.sh, Bool.and_true]
  nd := by simp only [PyData.hasDictAll, a.nd, b.nd, Bool.or_false]
  dp := by
    simp only [PyData.depthAll]
    exact Nat.max_le.mpr ⟨a.dp, b.dp⟩
  ls := by simp only [PyData.leavesShortAll, a.ls, b.ls, Bool.and_true]
  wt := by
    simp only [PyData.weightAll]
    have := a.wt
    have := b.wt
    omega
theorem Okds.list {ds : List PyData} {k N : Nat} (a : Okds ds k N) : Okd (.list ds) (k + 1) N :=
  ⟨by simp only [PyData.showable, a.sh], by simp only [PyData.hasDict, a.nd], by simp only [PyData.depth]; exact Nat.succ_le_succ a.dp, by simp only [PyData.leavesShort, a.ls], by simp only [PyData.weight]; exact a.wt⟩
theorem Okds.tuple {ds : List PyData} {k N : Nat} (a : Okds ds k N) : Okd (.tuple ds) (k + 1) N :=
  ⟨by simp only [PyData.showable, a.sh], by simp only [PyData.hasDict, a.nd], by simp only [PyData.depth]; exact Nat.succ_le_succ a.dp, by simp only [PyData.leavesShort, a.ls], by simp only [PyData.weight]; exact a.wt⟩
theorem Okd.int {i : Int} {k : Nat} (h : i.natAbs < 1000000000000) : Okd (.int i) k 41 := by
  have hl : i.natAbs.log2 < 40 ∨ i.natAbs = 0 := by
    by_cases h0 : i.natAbs = 0
    · exact .inr h0
    · exact .inl ((Nat.log2_lt h0).mpr (by omega))
  have hl : i.natAbs.log2 < 40 := hl.elim id fun e => by
    rw [e]
    decide
  refine ⟨decide_eq_true (by omega), rfl, Nat.zero_le _, ?_, ?_⟩
  · simp only [PyData.leavesShort]
    exact decide_eq_true (PyData.shown_int_le h)
  · simp only [PyData.weight]
    split <;> omega
theorem Okd.bool {b : Bool} {k : Nat} : Okd (.bool b) k 0 := ⟨rfl, rfl, Nat.zero_le _, rfl, Nat.le_refl _⟩
theorem Okd.none {k : Nat} : Okd .none k 0 := ⟨rfl, rfl, Nat.zero_le _, rfl, Nat.le_refl _⟩
theorem Okd.tx {bs : List Bool} {k : Nat} : Okd (.str (tx bs)) k bs.length := by
  refine ⟨rfl, rfl, Nat.zero_le _, ?_, ?_⟩
  · simp only [PyData.leavesShort]
    rw [tx_list, List.all_map, List.all_eq_true]
    intro b _
    cases b <;> decide
  · simp only [PyData.weight]
    exact Nat.le_of_eq (tx_len bs)
theorem Okds.ints : ∀ {ks : List Nat} {k : Nat}, (∀ j ∈ ks, j < 1000000000000) → Okds (ks.map dw) k (42 * ks.length)
  | [], k, _ => Okds.nil
  | a :: r, k, h => by
    have h1 : Okd (dw a) k 41 := Okd.int (i := (a : Int)) (h a (List.mem_cons_self ..))
    have h2 : Okds (r.map dw) k (42 * r.length) := Okds.ints fun j hj => h j (List.mem_cons_of_mem _ hj)
    have := Okds.cons h1 h2
    rw [List.length_cons, show 42 * (r.length + 1) = 41 + 1 + 42 * r.length by omega]
    exact this
theorem Okd.mono {d : PyData} {k k' N N' : Nat} (a : Okd d k N) (hk : k ≤ k') (hN : N ≤ N') : Okd d k' N' := ⟨a.sh, a.nd, Nat.le_trans a.dp hk, a.ls, Nat.le_trans a.wt hN⟩
theorem Okd.fits {d : PyData} {k N : Nat} (a : Okd d k N) (hN : N ≤ 1048576) : d.shown.length ≤ sizeLine := PyData.shown_fits (B := 13) (by decide) (by decide) a.ls (Nat.le_trans a.wt hN)
end HopR

set_option Elab.async false
set_option linter.all false
set_option maxRecDepth 100000
namespace HopW
open PySem L2 HopR HopT
/-- an end: what stands in its tuple -/
def f3i (e : En) : List V := [.int (e.1.1 : Int), .int (e.1.2 : Int), .int e.2]
theorem paired_imp {α β : Type} {R S : α → β → Prop} (h : ∀ a b, R a b → S a b) : ∀ {l : List α} {m : List β}, Paired R l m → Paired S l m
  | _, _, .nil => .nil
  | _, _, .cons r t => .cons (h _ _ r) (paired_imp h t)
theorem paired_snoc {α β : Type} {R : α → β → Prop} {a : α} {b : β} : ∀ {l : List α} {m : List β}, Paired R l m → R a b → Paired R (l ++ [a]) (m ++ [b])
  | _, _, .nil, h => .cons h .nil
  | _, _, .cons r t, h => .cons r (paired_snoc t h)
theorem paired_left {α β : Type} {R : α → β → Prop} : ∀ {l : List α} {m : List β}, Paired R l m → ∀ a ∈ l, ∃ b, b ∈ m ∧ R a b
  | _, _, .nil, a, h => absurd h (by simp)
  | x :: l, _, .cons r t, a, h => by
    rcases List.mem_cons.mp h with rfl | h
    · exact ⟨_, List.mem_cons_self .., r⟩
    · obtain ⟨b, m, q⟩ := paired_left t a h
      exact ⟨b, List.mem_cons_of_mem _ m, q⟩
theorem paired_perm {α β : Type} {R : α → β → Prop} {k l : List α} (p : k.Perm l) : ∀ {m : List β}, Paired R l m → ∃ m', m'.Perm m ∧ Paired R k m' := by
  induction p with
  | nil => exact fun h => ⟨_, .refl _, h⟩
  | cons x _ ih =>
    intro m h
    cases h with
    | cons r t =>
      obtain ⟨m', p', h'⟩ := ih t
      exact ⟨_, p'.cons _, .cons r h'⟩
  | swap x y l =>
    intro m h
    cases h with
    | cons r t =>
      cases t with
      | cons r' t => exact ⟨_, .swap _ _ _, .cons r' (.cons r t)⟩
  | trans _ _ ih1 ih2 =>
    intro m h
    obtain ⟨m1, p1, h1⟩ := ih2 h
    obtain ⟨m2, p2, h2⟩ := ih1 h1
    exact ⟨m2, p2.trans p1, h2⟩
theorem paired_len {α β : Type} {R : α → β → Prop} : ∀ {l : List α} {m : List β}, Paired R l m → l.length = m.length
  | _, _, .nil => rfl
  | _, _, .cons _ t => congrArg (· + 1) (paired_len t)
theorem paired_right {α β : Type} {R : α → β → Prop} : ∀ {l : List α} {m : List β}, Paired R l m → ∀ b ∈ m, ∃ a, a ∈ l ∧ R a b
  | _, _, .nil, b, h => absurd h (by simp)
  | _, y :: m, .cons r t, b, h => by
    rcases List.mem_cons.mp h with rfl | h
    · exact ⟨_, List.mem_cons_self .., r⟩
    · obtain ⟨a, mm, q⟩ := paired_right t b h
      exact ⟨a, List.mem_cons_of_mem _ mm, q⟩
theorem paired_pw {α β : Type} {R : α → β → Prop} {S : α → α → Prop} {S' : β → β → Prop} (h : ∀ a b a' b', R a b → R a' b' → S a a' → S' b b') : ∀ {l : List α} {m : List β}, Paired R l m → l.Pairwise S → m.Pairwise S'
  | _, _, .nil, _ => .nil
  | _, _, .cons r t, p => by
    have p' := List.pairwise_cons.mp p
    refine List.pairwise_cons.mpr ⟨fun b hb => ?_, paired_pw h t p'.2⟩
    obtain ⟨a, ha, ra⟩ := paired_right t b hb
    exact h _ _ _ _ r ra (p'.1 a ha)
/-- what three ints stand at t -/
def trK (H : Hp) (t : Addr) : T3 := match H t with
  | some (.tup [.int a, .int b, .int c]) => (a, b, c)
  | _ => (0, 0, 0)
theorem trK_at {H : Hp} {t : Addr} {e : En} (h : H t = some (.tup (f3i e))) : trK H t = ((e.1.1 : Int), (e.1.2 : Int), e.2) := by
  unfold trK
  rw [h]
  rfl
theorem srt_keys {H : Hp} {ts : List Addr} {G : List En} (pr : Paired (fun t e => H t = some (.tup (f3i e))) ts G) : ∀ t ∈ ts, H t = some (.tup [.int (trK H t).1, .int (trK H t).2.1, .int (trK H t).2.2]) := fun t ht => by
  obtain ⟨e, _, h⟩ := paired_left pr t ht
  rw [trK_at h]
  exact h
theorem srt_ends {H : Hp} {ys : List Addr} {G : List En} (pr : Paired (fun t e => H t = some (.tup (f3i e))) ys G) (h : ys.Pairwise (fun x y => lexT (trK H y) (trK H x) = false)) : G.Pairwise le3 := by
  refine paired_pw (fun a b a' b' r r' s => ?_) pr h
  rw [trK_at r, trK_at r'] at s
  have s := lexT_no.mp s
  obtain ⟨⟨a, b⟩, c⟩ := b
  obtain ⟨⟨a', b'⟩, c'⟩ := b'
  have s : ¬ ((a' : Int) < a ∨ ((a' : Int) = a ∧ ((b' : Int) < b ∨ ((b' : Int) = b ∧ c' < c)))) := s
  show a < a' ∨ a = a' ∧ (b < b' ∨ b = b' ∧ c ≤ c')
  omega
theorem tupG_of {H : Hp} : ∀ {ts : List Addr} {G : List En}, Paired (fun t e => H t = some (.tup (f3i e))) ts G → TupG H f3i G (ts.map V.ref)
  | _, _, .nil => rfl
  | _, _, .cons r t => ⟨_, _, rfl, r, tupG_of t⟩
/-! ### a list of ends as data -/
def dE (G : List En) : PyData := .list (G.map fun e => .tuple [.int (e.1.1 : Int), .int (e.1.2 : Int), .int e.2])
theorem dp_ends {K : PySem.W.Frag} {H : Hp} : ∀ {G : List En} {vs : List V}, TupG H f3i G vs → DpAll K H vs (G.map fun e => .tuple [.int (e.1.1 : Int), .int (e.1.2 : Int), .int e.2])
  | [], _, h => by
    cases h
    exact .nil
  | e :: G, _, ⟨p, vr, ev, h1, h2⟩ => by
    rw [ev]
    exact .cons (.tup (SqT.of h1) (.cons (.int _) (.cons (.int _) (.cons (.int _) .nil)))) (dp_ends h2)
theorem dE_of {K : PySem.W.Frag} {H : Hp} {p : Addr} {vs : List V} {G : List En} (e : H p = some (.lst vs)) (g : TupG H f3i G vs) : Dp K H (.ref p) (dE G) := .lst (SqL.of e) (dp_ends g)
theorem lay_ends : ∀ G : List En, PyData.canLayAll0 (G.map fun e => .tuple [.int (e.1.1 : Int), .int (e.1.2 : Int), .int e.2]) = true
  | [] => rfl
  | e :: G => by
    rw [List.map_cons]
    simp only [PyData.canLayAll0, PyData.canLay0, lay_ends G, Bool.and_true]
theorem deep_ends : ∀ G : List En, PyData.depthAll (G.map fun e => .tuple [.int (e.1.1 : Int), .int (e.1.2 : Int), .int e.2]) ≤ 1
  | [] => Nat.zero_le _
  | e :: G => by
    rw [List.map_cons]
    have := deep_ends G
    simp only [PyData.depthAll, PyData.depth]
    omega
theorem dE_shaped (G : List En) : SeqAt.shaped (dE G) = true := by
  unfold SeqAt.shaped dE
  rw [Bool.and_eq_true]
  refine ⟨by simp only [PyData.canLay0, lay_ends], decide_eq_true ?_⟩
  have := deep_ends G
  simp only [PyData.depth]
  omega
theorem dE_self (G : List En) : PyData.eqv (dE G) (dE G) = true := SeqAt.eqv_refl _ (SeqAt.canLay_of_shaped (dE_shaped G))
theorem okd_ends : ∀ {G : List En}, (∀ e ∈ G, e.1.1 < 1000 ∧ e.1.2 < 1000 ∧ e.2.natAbs < 1000000000000) → Okds (G.map fun e => .tuple [.int (e.1.1 : Int), .int (e.1.2 : Int), .int e.2]) 1 (127 * G.length)
  | [], _ => Okds.nil
  | e :: G, h => by
    obtain ⟨h1, h2, h3⟩ := h e (List.mem_cons_self ..)
    have a1 : Okd (.int (e.1.1 : Int)) 0 41 := Okd.int (by omega)
    have a2 : Okd (.int (e.1.2 : Int)) 0 41 := Okd.int (by omega)
    have a3 : Okd (.int e.2) 0 41 := Okd.int h3
    have t := (Okds.cons a1 (Okds.cons a2 (Okds.cons a3 Okds.nil))).tuple
    have r := Okds.cons t (okd_ends (G := G) (fun e m => h e (List.mem_cons_of_mem _ m)))
    rw [List.length_cons, show 127 * (G.length + 1) = (41 + 1 + (41 + 1 + (41 + 1 + 0))) + 1 + 127 * G.length by omega]
    exact r
theorem okd_dE {G : List En} (h : ∀ e ∈ G, e.1.1 < 1000 ∧ e.1.2 < 1000 ∧ e.2.natAbs < 1000000000000) : Okd (dE G) 2 (127 * G.length) := (okd_ends h).list
theorem eN_near {w : List Bool} (hw : w.length ≤ 30) (hl : ∀ e ∈ eN w, e.1.1 < 1000 ∧ e.1.2 < 1000) : ∀ e ∈ eN w, e.1.1 < 1000 ∧ e.1.2 < 1000 ∧ e.2.natAbs < 1000000000000 := fun e he => by
  obtain ⟨h1, h2⟩ := hl e he
  refine ⟨h1, h2, Nat.lt_of_le_of_lt (eN_most he).2 (Nat.lt_of_le_of_lt (Nat.pow_le_pow_right (by decide) hw) (by decide))⟩
end HopW

set_option Elab.async false
set_option linter.all false
set_option maxRecDepth 100000
namespace HopR
open PySem PySem.Spec PyProof.Rows L2 TL
/-! ### where a word has a bead before a free place -/
theorem of_tx : ("o." : Str) = tx [true, false] := by decide +kernel
theorem sub_tx (bs : List Bool) (i : Nat) : Builtin.Str.subAt (tx bs) (tx [true, false]) i = true ↔ (bs.drop i).take 2 = [true, false] := by
  have e : (tx bs).cps.extract i (i + (tx [true, false]).length) = (tx ((bs.drop i).take 2)).cps := by
    apply Array.toList_inj.mp
    rw [Array.toList_extract, tx_list, tx_list, tx_len, List.extract_eq_drop_take, List.map_take, List.map_drop]
    show ((bs.map cd).drop i).take (i + 2 - i) = _
    rw [Nat.add_sub_cancel_left]
  unfold Builtin.Str.subAt
  rw [e, beq_iff_eq]
  constructor
  · intro h
    apply tx_inj
    exact congrArg Str.mk h
  · intro h; rw [h]
theorem no_pair : ∀ bs : List Bool, (∀ i, (bs.drop i).take 2 ≠ [true, false]) → ∃ f b, bs = List.replicate f false ++ List.replicate b true
  | [], _ => ⟨0, 0, rfl⟩
  | [true], _ => ⟨0, 1, rfl⟩
  | [false], _ => ⟨1, 0, rfl⟩
  | false :: y :: r, h => by
    obtain ⟨f, b, e⟩ := no_pair (y :: r) (fun i => h (i + 1))
    exact ⟨f + 1, b, by rw [e]; rfl⟩
  | true :: false :: r, h => absurd rfl (h 0)
  | true :: true :: r, h => by
    obtain ⟨f, b, e⟩ := no_pair (true :: r) (fun i => h (i + 1))
    cases f with
    | zero => exact ⟨0, b + 1, by rw [e]; rfl⟩
    | succ f => exact absurd (List.cons.inj e).1 (by decide)
theorem find_of (bs : List Bool) : (Txt.find (tx bs) "o." = -1 ∧ ∃ f b, bs = List.replicate f false ++ List.replicate b true) ∨
    ∃ u v, Txt.find (tx bs) "o." = (u.length : Int) ∧ bs = u ++ true :: false :: v := by
  rw [of_tx]
  rcases find_whole (tx bs) (tx [true, false]) with ⟨e, no⟩ | ⟨i, e, ⟨le, at'⟩, _⟩
  · refine .inl ⟨e, no_pair bs fun i h => no i ⟨?_, (sub_tx bs i).mpr h⟩⟩
    rw [tx_len, tx_len]
    have l := congrArg List.length h
    rw [List.length_take, List.length_drop] at l
    simp only [List.length_cons, List.length_nil] at l ⊢
    omega
  · have h := (sub_tx bs i).mp at'
    have l : i ≤ bs.length := by
      have l := congrArg List.length h
      rw [List.length_take, List.length_drop] at l
      simp only [List.length_cons, List.length_nil] at l
      omega
    refine .inr ⟨bs.take i, bs.drop (i + 2), ?_, ?_⟩
    · rw [e, List.length_take, Nat.min_eq_left l]
    · have q := List.take_append_drop 2 (bs.drop i)
      rw [h, List.drop_drop] at q
      have q2 := List.take_append_drop i bs
      rw [← q] at q2
      exact q2.symm
end HopR

set_option Elab.async false
set_option linter.all false
set_option maxRecDepth 100000
namespace HopR
open PySem PySem.Spec PyProof.Rows L2
/-! ### d != {} -/
def rNeD0 : R2 := fun x y H Q => ∃ (a b : Addr) (ks : List (Key × V)), x = .ref a ∧ y = .ref b ∧ H a = some (.dK ks) ∧ H b = some (.dK []) ∧ Q (.bl (!ks.isEmpty)) H
theorem op_neD0 {X : Cx} (hu : X.A.units < cLine) : OpR X (compareOp .NotEq) rNeD0 := by
  rintro pins s σ H _ _ v u Q I rx ry ⟨a, b, ks, rfl, rfl, ea, eb, q⟩
  cases ks with
  | nil => exact op_ne_dictA hu pins s σ H _ _ v u Q I rx ry ⟨a, b, [], [], rfl, rfl, ea, eb, rfl, by simp, q⟩
  | cons k ks =>
    obtain rfl : v = Value.ref a := rx
    obtain rfl : u = Value.ref b := ry
    obtain ⟨_, na, va, ra, da⟩ := dk_of I.hok ea
    obtain ⟨_, nb, vb, rb, db⟩ := dk_of I.hok eb
    have l : ¬ va.length = vb.length := by
      rw [← ra.length, ← rb.length]
      simp
    exact PySem.W.keq_ne (knd := mixKind X.prog X.w) (r := true) na nb da db hu (fun e => absurd e l) (fin_bl I q (by simp [l]))
end HopR

set_option Elab.async false
set_option linter.all false
set_option maxRecDepth 100000
set_option exponentiation.threshold 200000
namespace Hop
open PySem L2 HopR
def top (i : Nat) : Stmt := PySem.Challenge.pw_hopline_k24_ends_told.main.body.getD i (.Pass ⟨0, 0, 0, 0⟩)
abbrev sIsRow : Stmt := top 9
abbrev sIsWord : Stmt := top 11
abbrev sNeedWord : Stmt := top 12
abbrev sWithBead : Stmt := top 13
abbrev sWithFree : Stmt := top 14
abbrev sEndsOf : Stmt := top 15
abbrev sCellAt : Stmt := top 17
abbrev sDrawn : Stmt := top 18
abbrev sLRow : Stmt := top 19
abbrev sLEnds : Stmt := top 20
abbrev sLGreat : Stmt := top 21
abbrev sLNone : Stmt := top 22
abbrev sLRight : Stmt := top 23
abbrev sLHalved : Stmt := top 24
abbrev sLaw : Stmt := top 25
/-! ### what stands at the top -/
structure Txt (K : PySem.W.Frag) (w : World) (mg : Str → Option Value) (d : Addr) (es : Array DictEntry) (n : Nat) : Prop where
  len : mg "len" = none
  range : mg "range" = none
  all : mg "all" = none
  isi : mg "isinstance" = none
  str : mg "str" = none
  sorted : mg "sorted" = none
  list : mg "list" = none
  repr : mg "repr" = none
  bead : ∃ t, mg "BEAD" = some (.str "o" t)
  most : ∃ t, mg "MOST_PLACES" = some (.int 30 t)
  os : mg "OTHER_SIGN" = some (.ref d)
  D : KDict K w d es n
  keys : keysAre es
structure Er (K : PySem.W.Frag) (mg : Str → Option Value) (HE NN NW NP : Addr) : Prop where
  gHE : mg "HopError" = some (.ref HE)
  gNN : mg "NoNumber" = some (.ref NN)
  gNW : mg "NoWord" = some (.ref NW)
  gNP : mg "NoPlace" = some (.ref NP)
  W : Xc K NW bmV "ValueError.__new__"
  mW : PySem.W.exmOne K (.ref NW) (.ref HE) = some true
  w2 : PySem.W.kitAny K (.ref NW) [.ref NN, .ref NP] = some false
/-- a text in a written dict -/
def rInKd (K : PySem.W.Frag) (d : Addr) : R2 := fun x y H Q => ∃ (z : Str) (r : Option Value), x = .str z ∧ y = .ref d ∧ PySem.W.nsIn K d z = some r ∧ Q (.bl r.isSome) H
theorem op_inKd {X : Cx} {d : Addr} {es : Array DictEntry} {n : Nat} (D : KDict X.K X.w d es n) : OpR X (compareOp .In) (rInKd X.K d) := op_in_kd D
section
variable {P : Program} {w : World} {K : PySem.W.Frag} {mg : Str → Option Value} {base : Heap} {d : Addr} {es : Array DictEntry} {n : Nat}
/-! ### is_row -/
def spIsRow (K : PySem.W.Frag) : Sp := fun vs H Q _ => ∃ x b, vs = [x] ∧ RowB K H x b ∧ ∀ H', Same H H' → Q (.bl b) H'
theorem scIsRow : FnScope ["thing", "sign"] ["thing"] (defScope sIsRow) := ⟨rfl, rfl, rfl, by decide +kernel, rfl, by decide +kernel, by decide +kernel⟩
theorem ok_isrow {f : Addr} {fd : FuncData} {k : Nat} (F : Fun K "is_row" "is_row" sIsRow f fd) (T : Txt K w mg d es n) : FnOk P w K mg base CX0 (k + 1) f fd ["thing"] (spIsRow K) := by
  refine F.ok scIsRow (fun vs H Q E h => ?_) (fun cdv A outer s H vs Q E hr h => ?_)
  · obtain ⟨x, b, rfl, _⟩ := h
    rfl
  · obtain ⟨x, b, rfl, hb, q⟩ := h
    have nd := scIsRow.nd
    obtain ⟨tm, gm⟩ := T.most
    refine ⟨_, pss_cons (ps_if (PW.pt (pw_or (pt_not (pt_val (pe_callB call_isi (by rfl) T.isi (by decide +kernel) (pa_cons (pv 0) (pa_cons (pe_bltn (v := .ty "str") (by rfl) T.str (by decide +kernel) rfl) pa_nil)))))
          (pw_or (pt_cmpR op_lt (pe_callB call_len_str (by rfl) T.len PySem.boot_len (pa_cons (pv 0) pa_nil)) pe_int (nomark _))
          (pw_or1 (pt_cmpR op_gt (pe_callB call_len_str (by rfl) T.len PySem.boot_len (pa_cons (pv 0) pa_nil)) (pe_glob (v := .int 30) (by rfl) gm ⟨_, rfl⟩) (nomark _))))))
        (pss_one (ps_ret pe_bl)) pss_nil)
      (pss_one (ps_ret (pe_callB (cr_all rfl) (by rfl) T.all (by decide +kernel) (pa_cons
        (pe_lc (own := [("sign", 1)]) (g := gName 1) (tt := tYes) (te := tOp (rInKd K d) (tVar 1) (tC (.ref d))) rfl nd (pi_str (pv 0)) (blkOk_by (own := [("sign", 1)]) (N := ["thing", "sign"]) (sc := defScope sIsRow) (by decide +kernel))
          (fun _ _ _ _ _ => pg_name (i := 1) nd rfl (Or.inl rfl)) (fun _ _ _ _ _ => pts_nil)
          (fun _ _ _ _ _ => pe_cmpR (op_inKd T.D) (pv 1) (pe_glob (v := .ref d) (by rfl) T.os rfl) (by rfl)))
        pa_nil)))), ?_⟩
    rcases hb with ⟨⟨t, ty, kt⟩, rfl⟩ | ⟨z, rfl, hz, rfl⟩
    · exact ⟨x, rfl, x, .ty "str", t, .type "str", false, rfl, .ty _, ty, kt, false, rfl, q H (Same.refl _)⟩
    · refine ⟨.str z, rfl, .str z, .ty "str", .type "str", .type "str", true, rfl, .ty _, .base (.str _), kit_ty (by decide +kernel), true, rfl, iteF ?_⟩
      refine ⟨.str z, rfl, z, rfl, fit hz, _, _, rfl, rfl, _, rfl, ?_⟩
      by_cases h1 : z.length < 1
      · rw [decide_eq_true (show (z.length : Int) < 1 by omega)]
        have e : isRowB z = false := by
          unfold isRowB
          rw [decide_eq_false (by omega)]
          rfl
        rw [e] at q
        exact q H (Same.refl _)
      rw [decide_eq_false (show ¬ (z.length : Int) < 1 by omega)]
      refine iteF ⟨.str z, rfl, z, rfl, fit hz, _, _, rfl, rfl, _, rfl, ?_⟩
      by_cases h2 : 30 < z.length
      · rw [decide_eq_true (show (z.length : Int) > 30 by omega)]
        have e : isRowB z = false := by
          unfold isRowB
          rw [decide_eq_false (show ¬ z.length ≤ 30 by omega)]
          simp
        rw [e] at q
        exact q H (Same.refl _)
      rw [decide_eq_false (show ¬ (z.length : Int) > 30 by omega)]
      refine iteF ⟨.str z, rfl, z, rfl, fun D hD => ?_⟩
      refine lc_it walk_str (fun i H3 => Same H H3 ∧ H3 D = some (.lst (((z.cps.toList.take i).map okc).map V.bl))) ⟨same_upd hD, upd_same⟩ (fun _ _ _ _ => trivial) ?_ ?_
      · rintro i x H3 H' hi ⟨sm, eD⟩ ⟨rfl, c, hc, rfl⟩
        obtain ⟨r, e1, e2⟩ := sign_in T.D.at_ T.keys c
        refine ⟨rfl, .str ⟨#[c]⟩, rfl, ⟨#[c]⟩, r, rfl, rfl, e1, _, eD, ?_, same_new hD sm, ?_⟩
        · rw [List.length_map, List.length_map]
          refine fit' (Nat.le_trans (List.length_take_le _ _) ?_)
          have : i < z.length := hi
          omega
        · rw [upd_same, e2, List.take_add_one, Array.getElem?_toList, hc, List.map_append, List.map_append]
          rfl
      · rintro H3 ⟨sm, eD⟩
        refine ⟨D, (z.cps.toList.map okc), rfl, SqL.of ?_, ?_⟩
        · rw [eD, List.take_of_length_le (by rw [Array.length_toList]; exact Nat.le_refl _)]
        · have e : (z.cps.toList.map okc).all id = isRowB z := by
            unfold isRowB
            rw [decide_eq_true (show 1 ≤ z.length by omega), decide_eq_true (show z.length ≤ 30 by omega), List.all_map]
            rfl
          rw [e]
          exact q H3 sm
end
end Hop

set_option Elab.async false
set_option linter.all false
set_option maxRecDepth 100000
set_option exponentiation.threshold 200000
namespace Hop
open PySem L2 HopR
section
variable {P : Program} {w : World} {K : PySem.W.Frag} {mg : Str → Option Value} {base : Heap} {d : Addr} {es : Array DictEntry} {n : Nat} {HE NN NW NP : Addr}
/-! ### is_word, need_word -/
def spIsWord (K : PySem.W.Frag) : Sp := fun vs H Q _ => ∃ x b, vs = [x] ∧ WordB K H x b ∧ ∀ H', Same H H' → Q (.bl b) H'
theorem scIsWord : FnScope ["thing"] ["thing"] (defScope sIsWord) := ⟨rfl, rfl, rfl, by decide +kernel, rfl, by decide +kernel, by decide +kernel⟩
theorem ok_isword {f f1 : Addr} {fd fd1 : FuncData} {k : Nat} (F : Fun K "is_word" "is_word" sIsWord f fd) (N1 : Fn K mg "is_row" sIsRow ["thing"] f1 fd1) (T : Txt K w mg d es n) : FnOk P w K mg base CX0 (k + 2) f fd ["thing"] (spIsWord K) := by
  have G1 : FnOk P w K mg base CX0 (k + 1) f1 fd1 ["thing"] (spIsRow K) := ok_isrow N1.F T
  refine F.ok scIsWord (fun vs H Q E h => ?_) (fun cdv A outer s H vs Q E hr h => ?_)
  · obtain ⟨x, b, rfl, _⟩ := h
    rfl
  · obtain ⟨x, b, rfl, hb, q⟩ := h
    refine ⟨_, pss_one (ps_ret (pe_or (pe_call G1 hr (by rfl) N1.g N1.F.kp N1.b .nil pass0 (pa_cons (pv 0) pa_nil))
      (pe_one (pe_and (pe_callB call_isi (by rfl) T.isi (by decide +kernel) (pa_cons (pv 0) (pa_cons (pe_bltn (v := .ty "str") (by rfl) T.str (by decide +kernel) rfl) pa_nil))) (pe_one (pe_cmpR op_eq (pv 0) pe_str (nomark _))))))), ?_⟩
    rcases hb with ⟨hn, rfl⟩ | ⟨z, rfl, hz, rfl⟩
    · obtain ⟨t, ty, kt⟩ := hn
      refine ⟨x, rfl, x, false, rfl, .inl ⟨⟨t, ty, kt⟩, rfl⟩, fun H1 s1 => ⟨false, rfl, ?_⟩⟩
      exact ⟨x, rfl, x, .ty "str", t, .type "str", false, rfl, .ty _, tyx_same s1 ty, kt, false, rfl, q H1 s1⟩
    · refine ⟨.str z, rfl, .str z, isRowB z, rfl, .inr ⟨z, rfl, hz, rfl⟩, fun H1 s1 => ⟨isRowB z, rfl, ?_⟩⟩
      rw [isWord_or] at q
      cases hR : isRowB z with
      | true =>
        rw [hR] at q
        exact q H1 s1
      | false =>
        rw [hR, Bool.false_or] at q
        refine ⟨.str z, rfl, .str z, .ty "str", .type "str", .type "str", true, rfl, .ty _, .base (.str _), kit_ty (by decide +kernel), true, rfl, ?_⟩
        refine ⟨.str z, rfl, rfl, ?_⟩
        rw [dec_str (p := z = "") Iff.rfl]
        exact q H1 s1
def spNeed (K : PySem.W.Frag) (NW : Addr) : Sp := fun vs H Q E => ∃ x b, vs = [x] ∧ WordB K H x b ∧ (b = true → ∀ H', Same H H' → Q .non H') ∧ (b = false → ∀ H', Same H H' → E (.ref NW) none H')
theorem scNeed : FnScope ["thing"] ["thing"] (defScope sNeedWord) := ⟨rfl, rfl, rfl, by decide +kernel, rfl, by decide +kernel, by decide +kernel⟩
theorem ok_need {f f1 f2 : Addr} {fd fd1 fd2 : FuncData} {k : Nat} (F : Fun K "need_word" "need_word" sNeedWord f fd) (N1 : Fn K mg "is_row" sIsRow ["thing"] f1 fd1) (N2 : Fn K mg "is_word" sIsWord ["thing"] f2 fd2) (T : Txt K w mg d es n) (Z : Er K mg HE NN NW NP) :
    FnOk P w K mg base (L2.CX P w) (k + 3) f fd ["thing"] (spNeed K NW) := by
  have G2 : FnOk P w K mg base CX0 (k + 2) f2 fd2 ["thing"] (spIsWord K) := ok_isword N2.F N1 T
  refine F.okX scNeed (fun vs H Q E h => ?_) (fun cdv A outer s H vs Q E hr h => ?_)
  · obtain ⟨x, b, rfl, _⟩ := h
    rfl
  · obtain ⟨x, b, rfl, hb, q1, q2⟩ := h
    refine ⟨_, pss_one (ps_if (pt_not (pt_val (pe_call G2 hr (by rfl) N2.g N2.F.kp N2.b .nil pass0 (pa_cons (pv 0) pa_nil))))
      (pss_one (ps_raise rfl (takes_of rfl rfl rfl rfl) (pmk_own PySem.F.excBase_ValueError Z.W.x Z.gNW Z.W.k (raises_own Z.W.be Z.W.ty) rfl))) pss_nil), ?_⟩
    refine ⟨x, rfl, x, b, rfl, hb, fun H1 s1 => ⟨b, rfl, ?_⟩⟩
    cases b with
    | true => exact q1 rfl H1 s1
    | false => exact q2 rfl H1 s1
end
end Hop

set_option Elab.async false
set_option linter.all false
set_option maxRecDepth 100000
set_option exponentiation.threshold 200000
namespace Hop
open PySem L2 HopR
open C8 (InsC call_isC)
/-! ### lists of lists of counts -/
def LG (H : Hp) (o : Addr) : List (List Nat) → List V → Prop
  | [], vs => vs = []
  | L :: r, vs => ∃ p vr, vs = .ref p :: vr ∧ p ≠ o ∧ H p = some (.lst (L.map wv)) ∧ LG H o r vr
theorem lg_same {H H' : Hp} {o : Addr} (s : Same H H') : ∀ {Ls : List (List Nat)} {vs : List V}, LG H o Ls vs → LG H' o Ls vs
  | [], _, h => h
  | L :: r, _, ⟨p, vr, e, n, h1, h2⟩ => ⟨p, vr, e, n, s _ _ h1, lg_same s h2⟩
theorem lg_upd {H : Hp} {o : Addr} {x : HO} : ∀ {Ls : List (List Nat)} {vs : List V}, LG H o Ls vs → LG (upd H o x) o Ls vs
  | [], _, h => h
  | L :: r, _, ⟨p, vr, e, n, h1, h2⟩ => ⟨p, vr, e, n, by rw [upd_ne n]; exact h1, lg_upd h2⟩
theorem lg_to {H : Hp} {o o' : Addr} (hn : H o' = none) : ∀ {Ls : List (List Nat)} {vs : List V}, LG H o Ls vs → LG H o' Ls vs
  | [], _, h => h
  | L :: r, _, ⟨p, vr, e, n, h1, h2⟩ => ⟨p, vr, e, ne_of_none h1 hn, h1, lg_to hn h2⟩
theorem lg_len {H : Hp} {o : Addr} : ∀ {Ls : List (List Nat)} {vs : List V}, LG H o Ls vs → vs.length = Ls.length
  | [], _, h => by
    cases h
    rfl
  | L :: r, _, ⟨p, vr, e, _, _, h2⟩ => by rw [e, List.length_cons, List.length_cons, lg_len h2]
theorem lg_at {H : Hp} {o : Addr} : ∀ {Ls : List (List Nat)} {vs : List V} {k : Nat} {L : List Nat}, LG H o Ls vs → Ls[k]? = some L → ∃ p, vs[k]? = some (.ref p) ∧ H p = some (.lst (L.map wv))
  | [], _, k, L, h, e => by simp at e
  | M :: r, _, 0, L, ⟨p, vr, ev, _, h1, h2⟩, e => by
    have : M = L := Option.some.inj e
    subst this
    exact ⟨p, by rw [ev]; rfl, h1⟩
  | M :: r, _, k + 1, L, ⟨p, vr, ev, _, h1, h2⟩, e => by
    obtain ⟨p', e1, e2⟩ := lg_at (k := k) h2 e
    exact ⟨p', by rw [ev]; exact e1, e2⟩
theorem lg_add {H : Hp} {o p : Addr} {L : List Nat} (n : p ≠ o) (h1 : H p = some (.lst (L.map wv))) : ∀ {Ls : List (List Nat)} {vs : List V}, LG H o Ls vs → LG H o (Ls ++ [L]) (vs ++ [.ref p])
  | [], _, h => by
    cases h
    exact ⟨p, [], rfl, n, h1, rfl⟩
  | _ :: _, _, ⟨p', vr, e, n', h2, h3⟩ => ⟨p', vr ++ [.ref p], by rw [e]; rfl, n', h2, lg_add n h1 h3⟩
/-- the line that stands at a place -/
theorem lg_get {H : Hp} {o : Addr} {T : List (List Nat)} {vs : List V} {j : Nat} {x : V} (g : LG H o T vs) (hx : vs[j]? = some x) : ∃ p L, T[j]? = some L ∧ x = .ref p ∧ H p = some (.lst (L.map wv)) := by
  have hj : j < T.length := by
    rw [← lg_len g]
    exact (List.getElem?_eq_some_iff.mp hx).1
  obtain ⟨p, e1, e2⟩ := lg_at g (List.getElem?_eq_getElem hj)
  rw [hx] at e1
  exact ⟨p, _, List.getElem?_eq_getElem hj, Option.some.inj e1, e2⟩
/-- at a a table -/
def Tb (H : Hp) (a : Addr) (T : List (List Nat)) : Prop := ∃ vs, H a = some (.lst vs) ∧ LG H a T vs
theorem Tb.same {H H' : Hp} {a : Addr} {T : List (List Nat)} (s : Same H H') (h : Tb H a T) : Tb H' a T := let ⟨vs, e, g⟩ := h; ⟨vs, s _ _ e, lg_same s g⟩
/-- a new list that grows by a new line -/
def Gr (H0 H : Hp) (D : Addr) (T : List (List Nat)) : Prop := Same H0 H ∧ Tb H D T
theorem gr_nil {H0 : Hp} {D : Addr} (hD : H0 D = none) : Gr H0 (upd H0 D (.lst [])) D [] := ⟨same_upd hD, [], upd_same, rfl⟩
theorem gr_add {H0 H H4 : Hp} {D p : Addr} {T : List (List Nat)} {L : List Nat} {vs : List V} (hD : H0 D = none) (g : Gr H0 H D T) (s : Same H H4) (np : H p = none) (h1 : H4 p = some (.lst (L.map wv))) (ev : H D = some (.lst vs)) : Gr H0 (upd H4 D (.lst (vs ++ [.ref p]))) D (T ++ [L]) := by
  obtain ⟨s0, vs', e', gg⟩ := g
  rw [ev] at e'
  have e' : vs = vs' := by
    injection e' with e'
    injection e' with e'
  subst e'
  have np2 : p ≠ D := fun z => by
    rw [z, ev] at np
    cases np
  refine ⟨same_new hD (s0.trans s), _, upd_same, lg_upd (lg_add np2 h1 (lg_same s gg))⟩
def Small (T : List (List Nat)) : Prop := T.length ≤ 40 ∧ ∀ L ∈ T, L.length ≤ 40
theorem take_map_snoc {α β : Type} (f : α → β) {l : List α} {j : Nat} {a : α} (h : l[j]? = some a) : (l.take j).map f ++ [f a] = (l.take (j + 1)).map f := by
  rw [List.take_add_one, h, List.map_append]
  rfl
section
variable {P : Program} {w : World} {K : PySem.W.Frag} {mg : Str → Option Value} {base : Heap}
/-! ### with_bead -/
def spBead : Sp := fun vs H Q _ => ∃ (a : Addr) (T : List (List Nat)), vs = [.ref a] ∧ Tb H a T ∧ Small T ∧ ∀ H' p, Same H H' → H p = none → Tb H' p (T.map (0 :: ·)) → Q (.ref p) H'
abbrev nWB : List Str := ["table", "line"]
theorem scBead : FnScope nWB ["table"] (defScope sWithBead) := ⟨rfl, rfl, rfl, by decide +kernel, rfl, by decide +kernel, by decide +kernel⟩
theorem ok_bead {f : Addr} {fd : FuncData} {k : Nat} (F : Fun K "with_bead" "with_bead" sWithBead f fd) : FnOk P w K mg base CX0 (k + 1) f fd ["table"] spBead := by
  refine F.ok scBead (fun vs H Q E h => ?_) (fun cdv A outer s H vs Q E hr h => ?_)
  · obtain ⟨a, T, rfl, _⟩ := h
    rfl
  · obtain ⟨a, T, rfl, ⟨xs, ea, ga⟩, hT, q⟩ := h
    have nd := scBead.nd
    refine ⟨_, pss_one (ps_ret (pe_lc (own := [("line", 1)]) (g := gName 1) (tt := tYes) rfl nd (pi_list (pv 0)) (blkOk_by (own := [("line", 1)]) (N := nWB) (sc := defScope sWithBead) (by decide +kernel)) (fun _ _ _ _ _ => pg_name (i := 1) nd rfl (Or.inl rfl)) (fun _ _ _ _ _ => pts_nil) (fun _ _ _ _ _ => pe_op op_cat (pe_lst (pa_cons pe_int pa_nil)) (pv 1)))), ?_⟩
    refine ⟨.ref a, rfl, a, rfl, ⟨_, SqL.of ea⟩, fun D hD => ?_⟩
    refine lc_list (K := K) (a := a) (xs := xs) (fun j H3 => Gr H H3 D ((T.take j).map (0 :: ·))) (gr_nil hD) (fun j H3 _ h => SqL.of (h.1 _ _ ea)) ?_ ?_
    · rintro j x H3 hx g3
      obtain ⟨p, L, hL, rfl, ep⟩ := lg_get ga hx
      have hl := hT.2 L (List.mem_of_getElem? hL)
      have hj : j < T.length := (List.getElem?_eq_some_iff.mp hL).1
      have hT1 := hT.1
      obtain ⟨vD, eD, gD⟩ := g3.2
      refine ⟨rfl, (by show 1 ≤ sizeLine; decide), fun o1 n1 => ⟨.ref p, rfl, o1, p, _, L.map wv, rfl, rfl, upd_same, ?_, ?_, fun p5 n5 => ?_⟩⟩
      · exact (same_upd n1) _ _ (g3.1 _ _ ep)
      · rw [List.length_map]
        exact fit (by show 1 + L.length ≤ _; omega)
      · have s5 := (same_upd (o := .lst [.int 0]) n1).trans (same_upd (o := .lst ([V.int 0] ++ L.map wv)) n5)
        refine ⟨vD, s5 _ _ eD, ?_, ?_⟩
        · rw [lg_len gD, List.length_map]
          exact fit' (Nat.le_trans (List.length_take_le _ _) (by omega))
        · rw [← take_map_snoc _ hL]
          exact gr_add hD g3 s5 ((same_upd n1).free n5) upd_same eD
    · rintro H3 g3
      rw [lg_len ga, List.take_length] at g3
      exact q H3 D g3.1 hD g3.2
end
end Hop

set_option Elab.async false
set_option linter.all false
set_option maxRecDepth 100000
namespace HopR
open PySem PySem.Spec PyProof.Rows L2
/-! ### sum(whole numbers, start=0) -/
theorem may_start (l : Addr) (t : Tok) : checkBuiltinCall "sum" ⟨[.ref l], [(Str.ofString "start", .int 0 t)]⟩ = pure () := by
  have ok : argsOk "sum" ⟨[.ref l], [(Str.ofString "start", .int 0 t)]⟩ := by
    unfold argsOk
    kernel_rfl
  unfold checkBuiltinCall
  rw [F.kind_sum]
  unfold argsOk at ok
  cases h : Manifest.signature? "sum" with
  | none => rfl
  | some sig =>
    rw [h] at ok
    exact ok
section
variable {prog : Program} {w : World} {A : Around} {E : Value → Shared → Prop} {s : Shared}
theorem no_text {i : Int} {t : Tok} {T : String} {Q : Bool → Shared → Prop} (sub : isSubtype (.type "int") (.type T) = pure false) (q : Q false s) : wpAny (model prog w) A (isInstance (.int i t) (.type T)) Q E s := wpAny_isInstance (typeIs_int s i t) sub q
theorem sum_from {l : Addr} {t : Tok} {xs : Array (Int × Tok)} {Q : Value → Shared → Prop} (calm : A.handled = none) (hl : s.heap.IsList l (intItems xs))
    (fin : ∀ h' tk t', (∀ b o, s.heap.get? b = some o → h'.get? b = some o) → Q (.int (preSum (numAt xs) xs.size) t') { s with heap := h', toks := tk }) :
    wpAny (model prog w) A (call (.builtin "sum") [.ref l] [(Str.ofString "start", .int 0 t)]) Q E s := by
  refine wpAny_call (codeAny_call_builtin F.plain_sum F.entry_sum ?_)
  rw [may_start]
  refine wpAny_pure ?_
  unfold Builtin.«sum»
  simp only [List.length_cons, List.length_nil]
  rw [if_neg (by decide)]
  refine wpAny_bind (wpAny_of_eq (show Builtin.Builtins.bindParams "sum" ["start"] 0 ⟨[], [(Str.ofString "start", .int 0 t)]⟩ = pure [some (.int 0 t)] from by kernel_rfl) ?_)
  refine wpAny_bind (iter_intList hl fun s2 e at0 low here => ?_)
  subst e
  dsimp only
  refine wpAny_ite ?_
  split
  case isFalse no => exact absurd rfl no
  refine wpAny_bind (wpAny_rule (wpAny_bind (wpAny_mkInt (wpAny_bind (wpAny_pure ?_)))))
  simp only [List.forIn_cons, List.forIn_nil]
  refine wpAny_bind (wpAny_bind (wpAny_bind (no_text PySem.sub_int_str ?_)))
  rw [if_neg (by decide)]
  refine wpAny_pure (wpAny_bind (wpAny_bind (no_text PySem.sub_int_bytes ?_)))
  rw [if_neg (by decide)]
  refine wpAny_pure (wpAny_bind (wpAny_bind (no_text PySem.sub_int_bytearray ?_)))
  rw [if_neg (by decide)]
  refine wpAny_pure (wpAny_pure (wpAny_bind (wpAny_newObj_type ?_)))
  have W := Walks.list (prog := prog) (w := w) (A := A.in1) calm s.heap.objs.size l here (intItems xs)
  refine wpAny_pure ⟨plainId_quiet F.plain_sum_loop _, codeAny_sum_loopG W (numAt xs) (fun _ _ => intItems_at) _ (fun m => Nat.lt_irrefl _ (low _ m)) _ 0 _ _ 0 0 (.inl rfl) rfl (Nat.zero_le _) (W.frame _ _ _ at0 fun b _ o q => Heap.get?_push_of_some _ q) (Heap.get?_push_size _ rfl) ?_⟩
  intro h' tk t' old
  have q := fin h' tk t' fun b o e => ?_
  · simpa [intItems] using q
  · have lt := Heap.lt_size e
    refine old b o ?_ ?_ (Heap.get?_push_of_some _ (Heap.get?_push_of_some _ e))
    · intro m
      have m : b = s.heap.objs.size := by simpa using m
      exact absurd lt (by rw [m]; exact Nat.lt_irrefl _)
    · rw [Heap.size_push]
      exact Nat.ne_of_lt (Nat.lt_succ_of_lt lt)
end
section
variable {X : Cx}
def rSumK (K : PySem.W.Frag) : List V → List V → Hp → VK → Prop := fun vs zs H Q => ∃ (a : Addr) (ns : List Int), vs = [V.ref a] ∧ zs = [.int 0] ∧ SqL K H a (ns.map V.int) ∧ Q (.int ns.sum) H
theorem cr_sumK (calm : X.calm = true) : CallRK X (.builtin "sum") [Str.ofString "start"] (rSumK X.K) := by
  rintro pins s σ H _ _ us ws Q I r rz ⟨a, ns, rfl, rfl, hs, q⟩
  obtain rfl := Vals.ref1 r
  obtain ⟨_, rfl, t, rfl⟩ := vals1 rz
  obtain ⟨its, rv, hl, _⟩ := I.list hs
  obtain ⟨xs, e⟩ := rv.ints.allInts.items
  have hn : numsOf (intItems xs).toList = ns := by
    rw [← e]
    exact rv.ints.numsOf
  rw [nums_intItems] at hn
  have hl' := hl.isList
  rw [e] at hl'
  refine sum_from (I.ok.hd calm) hl' fun h' tk t' old => ⟨.int ns.sum, H, I.kept old, ⟨t', ?_⟩, q⟩
  rw [preSum_eq, List.take_of_length_le (by simp), hn]
end
end HopR

set_option Elab.async false
set_option linter.all false
set_option maxRecDepth 100000
set_option exponentiation.threshold 200000
namespace Hop
open PySem L2 HopR
open C8 (InsC call_isC)
theorem cutN_to (v : List Nat) (k : Nat) : cutV (v.map wv) none (some (k : Int)) = (v.take k).map wv := by
  unfold cutV
  rw [HT.sIx_nat, List.length_map, List.map_take]
  show ((v.map wv).drop 0).take (min k v.length - 0) = _
  rw [List.drop_zero, Nat.sub_zero]
  by_cases h : k ≤ v.length
  · rw [Nat.min_eq_left h]
  · rw [Nat.min_eq_right (by omega), List.take_of_length_le (by rw [List.length_map]; exact Nat.le_refl _), List.take_of_length_le (by rw [List.length_map]; omega)]
theorem cutN_from (v : List Nat) (k : Nat) : cutV (v.map wv) (some (k : Int)) none = (v.drop k).map wv := by
  unfold cutV
  rw [HT.sIx_nat, List.length_map, List.map_drop]
  show ((v.map wv).drop (min k v.length)).take (v.length - min k v.length) = _
  by_cases h : k ≤ v.length
  · rw [Nat.min_eq_left h, List.take_of_length_le (by rw [List.length_drop, List.length_map]; exact Nat.le_refl _)]
  · rw [Nat.min_eq_right (by omega), Nat.sub_self, List.take_zero, List.drop_of_length_le (by rw [List.length_map]; omega)]
theorem ints_of (v : List Nat) : v.map wv = (v.map fun k : Nat => (k : Int)).map V.int := by
  rw [List.map_map]
  rfl
theorem ints_sum : ∀ v : List Nat, (v.map fun k : Nat => (k : Int)).sum = ((v.sum : Nat) : Int)
  | [] => rfl
  | a :: r => by
    rw [List.map_cons, List.sum_cons, ints_sum r, List.sum_cons, Int.natCast_add]
/-- sum(xs) of counts -/
theorem sum_ok {K : PySem.W.Frag} {H : Hp} {a : Addr} {v : List Nat} {Q : VK} (e : H a = some (.lst (v.map wv))) (q : Q (wv v.sum) H) : rSum K [.ref a] H Q := by
  refine ⟨a, _, rfl, SqL.of (by rw [← ints_of]; exact e), ?_⟩
  rw [ints_sum]
  exact q
/-! ### with_free, by its three lists -/
def tl (l : List Nat) : List Nat := (List.range (l.length - 1)).map fun i => (l.drop (1 + i)).sum
theorem sfx_eq : ∀ l : List Nat, HopW.sfx l = (List.range l.length).map fun i => (l.drop i).sum
  | [] => rfl
  | m :: l => by
    rw [List.length_cons, List.range_succ_eq_map, List.map_cons, List.map_map]
    show (m + l.sum) :: HopW.sfx l = (m :: l).sum :: _
    rw [sfx_eq l, List.sum_cons]
    rfl
theorem tl_eq (l : List Nat) : tl l = HopW.sfx l.tail := by
  rw [sfx_eq, List.length_tail]
  unfold tl
  refine List.map_congr_left fun i _ => ?_
  rw [← List.drop_one, List.drop_drop]
def wf (T : List (List Nat)) : List (List Nat) := List.zipWith (fun h t => h :: t) (0 :: T.map List.sum) (T.map tl ++ [[]])
theorem wf_eq (T : List (List Nat)) : wf T = HopW.go 0 T := by
  unfold wf
  generalize 0 = s
  induction T generalizing s with
  | nil => rfl
  | cons l t ih =>
    show (s :: tl l) :: List.zipWith (fun h t => h :: t) (l.sum :: t.map List.sum) (t.map tl ++ [[]]) = (s :: HopW.sfx l.tail) :: HopW.go l.sum t
    rw [ih, tl_eq]
theorem wf_len (T : List (List Nat)) : (wf T).length = T.length + 1 := by
  unfold wf
  rw [List.length_zipWith, List.length_cons, List.length_map, List.length_append, List.length_map]
  show min (T.length + 1) (T.length + 1) = _
  omega
theorem tl_len (l : List Nat) : (tl l).length = l.length - 1 := by
  unfold tl
  rw [List.length_map, List.length_range]
def rLenQ (K : PySem.W.Frag) : List V → Hp → VK → Prop := fun xs H Q => ∃ p ys, xs = [.ref p] ∧ (SqL K H p ys ∨ SqT K H p ys) ∧ Q (.int ys.length) H
abbrev tTail (K : PySem.W.Frag) : TE := tCB (rSum K) (tCons (tSl (rSlL K) (tVar 3) (tPart (tVar 4)) tNoPart) tNil)
abbrev tTails (K : PySem.W.Frag) : TE := tLc (iRng2 (tCons (tC (.int 1)) (tCons (tCB (rLenQ K) (tCons (tVar 3) tNil)) tNil))) (gName 4) tYes (tTail K) [4]
def scLine : Scope := { kind := .function, names := [(".0", .local), ("line", .cell), ("range", .globalImplicit), ("len", .globalImplicit)], isGenerator := false, isCoroutine := false }
section
variable {P : Program} {w : World} {K : PySem.W.Frag} {mg : Str → Option Value} {base : Heap}
structure TxtL (mg : Str → Option Value) : Prop where
  sum : mg "sum" = none
  range : mg "range" = none
  len : mg "len" = none
  zip : mg "zip" = none
  enum : mg "enumerate" = none
  reversed : mg "reversed" = none
def spFree : Sp := fun vs H Q _ => ∃ (a : Addr) (T : List (List Nat)), vs = [.ref a] ∧ Tb H a T ∧ Small T ∧ ∀ H' p, Same H H' → H p = none → Tb H' p (wf T) → Q (.ref p) H'
abbrev nWF : List Str := ["table", "heads", "tails", "line", "beads", "head", "tail"]
theorem scFree : FnScope nWF ["table"] (defScope sWithFree) := ⟨rfl, rfl, rfl, by decide +kernel, rfl, by decide +kernel, by decide +kernel⟩
set_option maxHeartbeats 4000000 in
theorem ok_free {f : Addr} {fd : FuncData} {k : Nat} (F : Fun K "with_free" "with_free" sWithFree f fd) (T0 : TxtL mg) : FnOk P w K mg base CX0 (k + 1) f fd ["table"] spFree := by
  refine F.ok scFree (fun vs H Q E h => ?_) (fun cdv A outer s H vs Q E hr h => ?_)
  · obtain ⟨a, T, rfl, _⟩ := h
    rfl
  · obtain ⟨a, T, rfl, ⟨xs, ea, ga⟩, hT, q⟩ := h
    have nd := scFree.nd
    have hT1 := hT.1
    have hxl := lg_len ga
    refine ⟨_, pss_cons (ps_set (i := 1) nd rfl (.inl rfl) (pe_op op_cat (pe_lst (pa_cons pe_int pa_nil))
        (pe_lc (own := [("line", 3)]) (g := gName 3) (tt := tYes) (te := tCB (rSum K) (tCons (tVar 3) tNil)) rfl nd (pi_list (pv 0)) (blkOk_by (own := [("line", 3)]) (N := nWF) (sc := defScope sWithFree) (by decide +kernel)) (fun _ _ _ _ _ => pg_name (i := 3) nd rfl (Or.inl rfl)) (fun _ _ _ _ _ => pts_nil) (fun _ _ _ _ _ => pe_callB (show CallR _ (.builtin "sum") (rSum K) from cr_sum rfl) (by rfl) T0.sum (by decide +kernel) (pa_cons (pv 3) pa_nil)))))
      (pss_cons (ps_set (i := 2) nd rfl (.inl rfl) (pe_op op_cat
        (pe_lc (own := [("line", 3)]) (g := gName 3) (tt := tYes) (te := tTails K) rfl nd (pi_list (pv 0)) (blkOk_by (own := [("line", 3)]) (N := nWF) (sc := defScope sWithFree) (by decide +kernel)) (fun _ _ _ _ _ => pg_name (i := 3) nd rfl (Or.inr rfl)) (fun _ _ _ _ _ => pts_nil)
          (fun _ _ _ _ _ => pe_lc (own := [("beads", 4)]) (g := gName 4) (tt := tYes) (te := tTail K) rfl nd (pi_range2 (by rfl) T0.range (pa_cons pe_int (pa_cons (pe_callB (show CallR _ (.builtin "len") (rLenQ K) from call_len_seq) (by rfl) T0.len PySem.boot_len (pa_cons (pv 3) pa_nil)) pa_nil))) (blkOk_by (own := [("beads", 4)]) (N := nWF) (sc := relS scLine (defScope sWithFree)) (by decide +kernel)) (fun _ _ _ _ _ => pg_name (i := 4) nd rfl (Or.inl rfl)) (fun _ _ _ _ _ => pts_nil)
            (fun _ _ _ _ _ => pe_callB (show CallR _ (.builtin "sum") (rSum K) from cr_sum rfl) (by rfl) T0.sum (by decide +kernel) (pa_cons (pe_slice (show SlR _ (rSlL K) from sl_list) (pv 3) (po_some (pv 4)) po_none) pa_nil))))
        (pe_lst (pa_cons (pe_lst pa_nil) pa_nil))))
      (pss_one (ps_ret (pe_lc (own := [("head", 5), ("tail", 6)]) (g := gTup K 2 (gCons (gName 5) (gCons (gName 6) gNil))) (tt := tYes) rfl nd (pi_zip (by rfl) T0.zip (pa_cons (pv 1) (pa_cons (pv 2) pa_nil)))
        (blkOk_by (own := [("head", 5), ("tail", 6)]) (N := nWF) (sc := defScope sWithFree) (by decide +kernel))
        (fun _ _ _ _ _ => pg_tup (by rfl) (pgs_cons (pg_name (i := 5) nd rfl (.inl rfl)) (pgs_cons (pg_name (i := 6) nd rfl (.inl rfl)) pgs_nil))) (fun _ _ _ _ _ => pts_nil) (fun _ _ _ _ _ => pe_op op_cat (pe_lst (pa_cons (pv 5) pa_nil)) (pv 6)))))), ?_⟩
    refine ⟨(by show 1 ≤ sizeLine; decide), fun l1 n1 => ?_⟩
    have t1 := same_upd (o := .lst [.int 0]) n1
    have e1 : upd H l1 (.lst [.int 0]) l1 = some (.lst [.int 0]) := upd_same
    generalize upd H l1 (.lst [.int 0]) = H1 at t1 e1
    refine ⟨.ref a, rfl, a, rfl, ⟨_, SqL.of (t1 _ _ ea)⟩, fun D2 hD2 => ?_⟩
    refine lc_list (K := K) (a := a) (xs := xs) (fun j H3 => Same H1 H3 ∧ H3 D2 = some (.lst (((T.take j).map List.sum).map wv))) ⟨same_upd hD2, upd_same⟩ (fun j H3 _ h => SqL.of ((t1.trans h.1) _ _ ea)) ?_ ?_
    · rintro j x H3 hx ⟨s3, e3⟩
      obtain ⟨p, L, hL, rfl, ep⟩ := lg_get ga hx
      refine ⟨rfl, .ref p, rfl, p, _, rfl, SqL.of (by rw [← ints_of]; exact (t1.trans s3) _ _ ep), ?_⟩
      rw [ints_sum]
      refine ⟨_, e3, ?_, same_new hD2 s3, ?_⟩
      · rw [List.length_map, List.length_map]
        exact fit' (Nat.le_trans (List.length_take_le _ _) (by have := (List.getElem?_eq_some_iff.mp hL).1; omega))
      · rw [upd_same, ← take_map_snoc _ hL, List.map_append]
        rfl
    rintro H2 ⟨s2, e2⟩
    rw [hxl, List.take_length] at e2
    refine ⟨l1, D2, [.int 0], (T.map List.sum).map wv, rfl, rfl, s2 _ _ e1, e2, by rw [List.length_map, List.length_map]; exact fit (by show 1 + T.length ≤ _; omega), fun l3 n3 => ?_⟩
    have c3 : [V.int 0] ++ (T.map List.sum).map wv = (0 :: T.map List.sum).map wv := rfl
    rw [c3]
    have t3 : Same H (upd H2 l3 (.lst ((0 :: T.map List.sum).map wv))) := (t1.trans s2).trans (same_upd n3)
    have e3 : upd H2 l3 (.lst ((0 :: T.map List.sum).map wv)) l3 = some (.lst ((0 :: T.map List.sum).map wv)) := upd_same
    generalize upd H2 l3 (.lst ((0 :: T.map List.sum).map wv)) = H3 at t3 e3
    refine ⟨.ref a, rfl, a, rfl, ⟨_, SqL.of (t3 _ _ ea)⟩, fun D4 hD4 => ?_⟩
    refine lc_list (K := K) (a := a) (xs := xs) (fun j H5 => Gr H3 H5 D4 ((T.take j).map tl)) (gr_nil hD4) (fun j H5 _ h => SqL.of ((t3.trans h.1) _ _ ea)) ?_ ?_
    · rintro j x H5 hx g5
      obtain ⟨p, L, hL, rfl, ep⟩ := lg_get ga hx
      have hl := hT.2 L (List.mem_of_getElem? hL)
      have hj : j < T.length := (List.getElem?_eq_some_iff.mp hL).1
      have ep5 := (t3.trans g5.1) _ _ ep
      obtain ⟨vD, eD, gD⟩ := g5.2
      refine ⟨rfl, .ref p, rfl, p, _, rfl, .inl (SqL.of ep5), 1, _, rfl, ⟨by decide, by decide, by rw [List.length_map]; omega, by rw [List.length_map]; omega⟩, fun D6 hD6 => ?_⟩
      rw [show (((L.map wv).length : Int) - 1).toNat = L.length - 1 by rw [List.length_map]; omega]
      have tk : ∀ i, i < L.length - 1 → ((List.range (L.length - 1)).map fun i => (L.drop (1 + i)).sum)[i]? = some ((L.drop (1 + i)).sum) := fun i hi => by
        rw [List.getElem?_map, List.getElem?_range hi]
        rfl
      refine lc_range (lo := 1) (n := L.length - 1) (fun i H6 => Same H5 H6 ∧ H6 D6 = some (.lst (((tl L).take i).map wv))) ⟨same_upd hD6, upd_same⟩ ?_ ?_
      · rintro i H6 hi ⟨s6, e6⟩
        refine ⟨rfl, .ref p, rfl, .int (1 + (i : Int)), rfl, 1 + (i : Int), rfl, p, _, rfl, SqL.of (s6 _ _ ep5), fun p7 n7 => ?_⟩
        rw [show (1 : Int) + (i : Int) = ((1 + i : Nat) : Int) by omega, cutN_from]
        have s7 := same_upd (o := .lst ((L.drop (1 + i)).map wv)) n7
        have e7 : upd H6 p7 (.lst ((L.drop (1 + i)).map wv)) p7 = some (.lst ((L.drop (1 + i)).map wv)) := upd_same
        generalize upd H6 p7 (.lst ((L.drop (1 + i)).map wv)) = H7 at s7 e7
        refine ⟨p7, _, rfl, SqL.of (by rw [← ints_of]; exact e7), ?_⟩
        rw [ints_sum]
        refine ⟨_, s7 _ _ e6, ?_, same_new hD6 (s6.trans s7), ?_⟩
        · rw [List.length_map]
          exact fit' (Nat.le_trans (List.length_take_le _ _) (by omega))
        · rw [upd_same, List.take_add_one, show (tl L)[i]? = _ from tk i hi, List.map_append]
          rfl
      · rintro H6 ⟨s6, e6⟩
        rw [List.take_of_length_le (by rw [tl_len]; exact Nat.le_refl _)] at e6
        refine ⟨vD, s6 _ _ eD, ?_, ?_⟩
        · rw [lg_len gD, List.length_map]
          exact fit' (Nat.le_trans (List.length_take_le _ _) (by omega))
        · rw [← take_map_snoc _ hL]
          exact gr_add hD4 g5 s6 hD6 e6 eD
    rintro H5 g5
    rw [hxl, List.take_length] at g5
    obtain ⟨s5, vD, eD, gD⟩ := g5
    refine ⟨(by show 0 ≤ sizeLine; decide), fun l6 n6 => ⟨(by show 1 ≤ sizeLine; decide), fun l7 n7 => ?_⟩⟩
    have s6 := same_upd (o := .lst []) n6
    have e6 : upd H5 l6 (.lst []) l6 = some (.lst []) := upd_same
    generalize upd H5 l6 (.lst []) = H6 at s6 e6 n7
    have s7 := same_upd (o := .lst [.ref l6]) n7
    have e7 : upd H6 l7 (.lst [.ref l6]) l7 = some (.lst [.ref l6]) := upd_same
    generalize upd H6 l7 (.lst [.ref l6]) = H7 at s7 e7
    have s57 := s6.trans s7
    have hvl : vD.length = T.length := by rw [lg_len gD, List.length_map]
    refine ⟨D4, l7, vD, [.ref l6], rfl, rfl, s57 _ _ eD, e7, by rw [hvl]; exact fit (by show T.length + 1 ≤ _; omega), fun l8 n8 => ?_⟩
    have g8 : LG H7 l8 (T.map tl ++ [[]]) (vD ++ [.ref l6]) := lg_add (L := []) (ne_of_none (s7 _ _ e6) n8) (s7 _ _ e6) (lg_to n8 (lg_same s57 gD))
    have s8 := same_upd (o := .lst (vD ++ [.ref l6])) n8
    have e8 : upd H7 l8 (.lst (vD ++ [.ref l6])) l8 = some (.lst (vD ++ [.ref l6])) := upd_same
    have g8 := lg_same s8 g8
    generalize upd H7 l8 (.lst (vD ++ [.ref l6])) = H8 at s8 e8 g8
    have s38 : Same H3 H8 := s5.trans (s57.trans s8)
    have e38 := s38 _ _ e3
    have s08 := t3.trans s38
    generalize vD ++ [.ref l6] = ys at e8 g8
    have hyl : ys.length = T.length + 1 := by
      rw [lg_len g8, List.length_append, List.length_map]
      rfl
    refine ⟨.ref l3, rfl, .ref l8, rfl, l3, l8, _, _, rfl, SqL.of e38, SqL.of e8, fun D9 hD9 => ?_⟩
    refine lc_it (walk_zip (K := K) (a := l3) (b := l8) (xs := (0 :: T.map List.sum).map wv) (ys := ys) (n := T.length + 1) (by rw [List.length_map, List.length_cons, List.length_map, hyl, Nat.min_self]))
      (fun i H9 => Gr H8 H9 D9 ((wf T).take i)) (gr_nil hD9) (fun i H9 _ h => ⟨SqL.of (h.1 _ _ e38), SqL.of (h.1 _ _ e8)⟩) ?_ ?_
    · rintro i x H9 H10 hi g9 ⟨t, x1, x2, rfl, nt, rfl, hx1, hx2⟩
      have hx1 : ((0 :: T.map List.sum).map wv)[i]? = some x1 := hx1
      have hx2 : ys[i]? = some x2 := hx2
      rw [List.getElem?_map] at hx1
      obtain ⟨k1, hk1, rfl⟩ := Option.map_eq_some_iff.mp hx1
      obtain ⟨p, L, hL, rfl, ep⟩ := lg_get g8 hx2
      have hw : (wf T)[i]? = some (k1 :: L) := by
        unfold wf
        rw [List.getElem?_zipWith, hk1, hL]
      have hLl : L.length ≤ 40 := by
        rcases List.mem_append.mp (List.mem_of_getElem? hL) with z | z
        · obtain ⟨M, hM, rfl⟩ := List.mem_map.mp z
          rw [tl_len]
          have := hT.2 M hM
          omega
        · rw [List.mem_singleton.mp z]
          exact Nat.zero_le _
      have st := same_upd (o := .tup [wv k1, .ref p]) nt
      obtain ⟨s9, v9, e9, g9'⟩ := id g9
      refine ⟨t, _, rfl, SqT.of upd_same, rfl, _, _, rfl, _, _, rfl, rfl, rfl, wv k1, rfl, (by show 1 ≤ sizeLine; decide), fun o1 n1 => ?_⟩
      have s1 := st.trans (same_upd (o := .lst [wv k1]) n1)
      refine ⟨.ref p, rfl, o1, p, _, L.map wv, rfl, rfl, upd_same, s1 _ _ (s9 _ _ ep), ?_, fun p5 n5 => ?_⟩
      · rw [List.length_map]
        exact fit (by show 1 + L.length ≤ _; omega)
      · have s15 := s1.trans (same_upd (o := .lst ([wv k1] ++ L.map wv)) n5)
        refine ⟨v9, s15 _ _ e9, ?_, ?_⟩
        · rw [lg_len g9']
          exact fit' (Nat.le_trans (List.length_take_le _ _) (by omega))
        · rw [List.take_add_one, hw]
          exact gr_add (L := k1 :: L) hD9 g9 s15 (s1.free n5) upd_same e9
    · rintro H9 g9
      rw [List.take_of_length_le (by rw [wf_len]; exact Nat.le_refl _)] at g9
      exact q H9 D9 (s08.trans g9.1) (s08.free hD9) g9.2
end
end Hop

set_option Elab.async false
set_option linter.all false
set_option maxRecDepth 100000
set_option exponentiation.threshold 200000
namespace Hop
open PySem L2 HopR
open C8 (InsC call_isC)
/-! ### how large a table is -/
theorem sfx_len : ∀ l : List Nat, (HopW.sfx l).length = l.length
  | [] => rfl
  | _ :: l => by
    show (HopW.sfx l).length + 1 = l.length + 1
    rw [sfx_len l]
theorem go_len : ∀ (T : List (List Nat)) (s : Nat), (HopW.go s T).length = T.length + 1
  | [], _ => rfl
  | l :: t, s => by
    show (HopW.go l.sum t).length + 1 = t.length + 1 + 1
    rw [go_len t]
theorem go_line {m : Nat} (hm : 1 ≤ m) : ∀ (T : List (List Nat)) (s : Nat), (∀ L ∈ T, L.length ≤ m) → ∀ L ∈ HopW.go s T, L.length ≤ m
  | [], s, _, L, hL => by
    rw [List.mem_singleton.mp hL]
    exact hm
  | l :: t, s, h, L, hL => by
    rcases List.mem_cons.mp hL with rfl | hL
    · show (HopW.sfx l.tail).length + 1 ≤ m
      have := h l List.mem_cons_self
      rw [sfx_len, List.length_tail]
      omega
    · exact go_line hm t l.sum (fun L hL => h L (List.mem_cons_of_mem _ hL)) L hL
theorem fold_len : ∀ (w : List Bool) (T : List (List Nat)), (w.foldl HopW.stT T).length = T.length + w.count false
  | [], _ => rfl
  | true :: w, T => by
    rw [List.foldl_cons, fold_len w, List.count_cons_of_ne (by decide)]
    show (T.map (0 :: ·)).length + _ = _
    rw [List.length_map]
  | false :: w, T => by
    rw [List.foldl_cons, fold_len w, List.count_cons_self]
    show (HopW.go 0 T).length + _ = _
    rw [go_len]
    omega
theorem fold_line : ∀ (w : List Bool) (T : List (List Nat)) (m : Nat), 1 ≤ m → (∀ L ∈ T, L.length ≤ m) → ∀ L ∈ w.foldl HopW.stT T, L.length ≤ m + w.count true
  | [], _, _, _, h, L, hL => h L hL
  | true :: w, T, m, hm, h, L, hL => by
    rw [List.foldl_cons] at hL
    have := fold_line w (HopW.stT T true) (m + 1) (by omega) (fun M hM => by
      obtain ⟨M', h', rfl⟩ := List.mem_map.mp hM
      show M'.length + 1 ≤ m + 1
      have := h M' h'
      omega) L hL
    rw [List.count_cons_self]
    omega
  | false :: w, T, m, hm, h, L, hL => by
    rw [List.foldl_cons] at hL
    rw [List.count_cons_of_ne (by decide)]
    exact fold_line w (HopW.stT T false) m hm (go_line hm T 0 h) L hL
theorem tbl_len (w : List Bool) : (HopW.tbl w).length = w.count false + 1 := by
  unfold HopW.tbl
  rw [fold_len]
  show 1 + _ = _
  omega
theorem tbl_line {w : List Bool} {L : List Nat} (h : L ∈ HopW.tbl w) : L.length ≤ w.count true + 1 := by
  have := fold_line w [[1]] 1 (by decide) (fun L hL => by rw [List.mem_singleton.mp hL]; decide) L h
  omega
theorem tbl_small {w : List Bool} (h : w.length ≤ 30) : Small (HopW.tbl w) := by
  have h1 := List.count_le_length (a := false) (l := w)
  have h2 := List.count_le_length (a := true) (l := w)
  refine ⟨by rw [tbl_len]; omega, fun L hL => ?_⟩
  have := tbl_line hL
  omega
/-! ### the ends of a table -/
theorem eL_app (f : Nat) : ∀ (l r : List Nat) (b : Nat), HopW.enL f b (l ++ r) = HopW.enL f b l ++ HopW.enL f (b + l.length) r
  | [], r, b => rfl
  | m :: l, r, b => by
    show (if 0 < m then [((f, b), (m : Int))] else []) ++ HopW.enL f (b + 1) (l ++ r) = _
    rw [eL_app f l r (b + 1), ← List.append_assoc]
    show _ = _ ++ HopW.enL f (b + (l.length + 1)) r
    rw [show b + 1 + l.length = b + (l.length + 1) by omega]
    rfl
theorem eT_app : ∀ (l r : List (List Nat)) (f : Nat), HopW.enT f (l ++ r) = HopW.enT f l ++ HopW.enT (f + l.length) r
  | [], r, f => rfl
  | m :: l, r, f => by
    show HopW.enL f 0 m ++ HopW.enT (f + 1) (l ++ r) = _
    rw [eT_app l r (f + 1), ← List.append_assoc]
    show _ = _ ++ HopW.enT (f + (l.length + 1)) r
    rw [show f + 1 + l.length = f + (l.length + 1) by omega]
    rfl
theorem eL_take {f : Nat} {l : List Nat} {j m : Nat} (h : l[j]? = some m) : HopW.enL f 0 (l.take (j + 1)) = HopW.enL f 0 (l.take j) ++ (if 0 < m then [((f, j), (m : Int))] else []) := by
  have hj := (List.getElem?_eq_some_iff.mp h).1
  rw [List.take_add_one, h, eL_app, List.length_take, Nat.min_eq_left (by omega), Nat.zero_add]
  show _ ++ ((if 0 < m then [((f, j), (m : Int))] else []) ++ []) = _
  rw [List.append_nil]
theorem eT_take {T : List (List Nat)} {i : Nat} {l : List Nat} (h : T[i]? = some l) : HopW.enT 0 (T.take (i + 1)) = HopW.enT 0 (T.take i) ++ HopW.enL i 0 l := by
  have hj := (List.getElem?_eq_some_iff.mp h).1
  rw [List.take_add_one, h, eT_app, List.length_take, Nat.min_eq_left (by omega), Nat.zero_add]
  show _ ++ (HopW.enL i 0 l ++ []) = _
  rw [List.append_nil]
/-- a walk, whatever is done at each turn -/
theorem out_it {J : It} {n : Nat} {G : Hp → Prop} {Y : Nat → Hp → V → Hp → Prop} (w : Walk J n G Y) {B : (Hp → Prop) → V → Hp → Prop} {H1 : Hp} {Qd : Hp → Prop} (Pv : Nat → Hp → Prop) (h0 : Pv 0 H1) (hG : ∀ i H, i ≤ n → Pv i H → G H)
    (hs : ∀ i x H H', i < n → Pv i H → Y i H x H' → B (Pv (i + 1)) x H') (hd : ∀ H, Pv n H → Qd H) :
    ∃ W : Nat → Nat → Hp → Prop, (∃ m, W 0 m H1) ∧ ∀ i m H, W i m H → (J.stop i H ∧ Qd H) ∨ (J.go i H ∧ ∃ Nx : Hp → Prop, (∀ H', Nx H' → ∃ m', m' < m ∧ W (i + 1) m' H') ∧ ∀ x H', J.yld i H x H' → B Nx x H') := by
  refine ⟨fun i m H => i + m = n ∧ Pv i H, ⟨n, Nat.zero_add n, h0⟩, fun i m H h => ?_⟩
  obtain ⟨e, p⟩ := h
  have hg := hG i H (by omega) p
  cases m with
  | zero =>
    have e : i = n := e
    subst e
    exact .inl ⟨w.stops H hg, hd H p⟩
  | succ m =>
    exact .inr ⟨w.goes i H (by omega) hg, Pv (i + 1), fun H' p' => ⟨m, Nat.lt_succ_self m, by omega, p'⟩, fun x H' y => hs i x H H' (by omega) p (w.yields i H x H' (by omega) hg y)⟩
/-- a new list of new tuples -/
def GrT (H0 H : Hp) (D : Addr) (es : List HopW.En) (n : Nat) : Prop := Same H0 H ∧ ∃ acc, H D = some (.lst acc) ∧ TupG H HopW.f3i es acc ∧ acc.length ≤ n
section
variable {P : Program} {w : World} {K : PySem.W.Frag} {mg : Str → Option Value} {base : Heap} {d : Addr} {es : Array DictEntry} {n : Nat} {HE NN NW NP : Addr}
/-! ### ends_of -/
structure EnDefs (K : PySem.W.Frag) (mg : Str → Option Value) : Prop where
  R : ∃ r s, Fn K mg "is_row" sIsRow ["thing"] r s
  W : ∃ r s, Fn K mg "is_word" sIsWord ["thing"] r s
  N : ∃ r s, Fn K mg "need_word" sNeedWord ["thing"] r s
  B : ∃ r s, Fn K mg "with_bead" sWithBead ["table"] r s
  F : ∃ r s, Fn K mg "with_free" sWithFree ["table"] r s
def spEndsOf (K : PySem.W.Frag) (NW : Addr) : Sp := fun vs H Q E => ∃ x, vs = [x] ∧ ((∃ bs : List Bool, x = .str (tx bs) ∧ bs.length ≤ 30 ∧ ∀ H' p acc, Same H H' → H p = none → H' p = some (.lst acc) → TupG H' HopW.f3i (HopW.eN bs) acc → acc.length ≤ 1600 → Q (.ref p) H') ∨ (WordB K H x false ∧ ∀ H', Same H H' → E (.ref NW) none H'))
abbrev nEO : List Str := ["word", "table", "sign", "frees", "line", "beads", "many"]
theorem scEndsOf : FnScope nEO ["word"] (defScope sEndsOf) := ⟨rfl, rfl, rfl, by decide +kernel, rfl, by decide +kernel, by decide +kernel⟩
def rGtI : R2 := rI0 fun i j => .bl (decide (i > j))
theorem is_o (b : Bool) : decide (V.str (tx [b]) = V.str "o") = b := by
  rw [tx_o]
  cases b with
  | true => exact decide_eq_true rfl
  | false => exact decide_eq_false fun q => absurd (tx_inj (V.str.inj q)) (by decide)
theorem tbl_step {bs : List Bool} {i : Nat} {b : Bool} (h : bs[i]? = some b) : HopW.tbl (bs.take (i + 1)) = HopW.stT (HopW.tbl (bs.take i)) b := by
  unfold HopW.tbl
  rw [List.take_add_one, h, List.foldl_append]
  rfl
set_option maxHeartbeats 4000000 in
theorem ok_endsOf {f : Addr} {fd : FuncData} {k : Nat} (F : Fun K "ends_of" "ends_of" sEndsOf f fd) (N : EnDefs K mg) (T : Txt K w mg d es n) (T0 : TxtL mg) (Z : Er K mg HE NN NW NP) : FnOk P w K mg base (L2.CX P w) (k + 4) f fd ["word"] (spEndsOf K NW) := by
  obtain ⟨f1, g1, N1⟩ := N.R
  obtain ⟨f2, g2, N2⟩ := N.W
  obtain ⟨f3', g3, N3⟩ := N.N
  obtain ⟨f4, g4, N4⟩ := N.B
  obtain ⟨f5, g5, N5⟩ := N.F
  have G3 : FnOk P w K mg base (L2.CX P w) (k + 3) f3' g3 ["thing"] (spNeed K NW) := ok_need N3.F N1 N2 T Z
  have G4 : FnOk P w K mg base CX0 (k + 3) f4 g4 ["table"] spBead := ok_bead N4.F
  have G5 : FnOk P w K mg base CX0 (k + 3) f5 g5 ["table"] spFree := ok_free N5.F T0
  refine F.okX scEndsOf (fun vs H Q E h => ?_) (fun cdv A outer s H vs Q E hr h => ?_)
  · obtain ⟨x, rfl, _⟩ := h
    rfl
  · obtain ⟨x, rfl, h⟩ := h
    have nd := scEndsOf.nd
    obtain ⟨tb, gb⟩ := T.bead
    refine ⟨_, pss_cons (ps_expr (pe_call G3 hr (by rfl) N3.g N3.F.kp N3.b .nil (passes_call (E := E) (takes_of rfl rfl rfl rfl) (fun _ _ _ _ h => h)) (pa_cons (pv 0) pa_nil)))
      (PSs.nox (pss_cons (ps_set (i := 1) nd rfl (.inl rfl) (pe_lst (pa_cons (pe_lst (pa_cons pe_int pa_nil)) pa_nil)))
      (pss_cons (ps_for PassesOwn.never rfl (pi_str (pv 0)) (pg_name (i := 2) nd rfl (.inl rfl))
        (pss_one (ps_set (i := 1) nd rfl (.inl rfl) (pe_ifExp (pt_cmpR op_eq (pv 2) (pe_glob (v := .str "o") (by rfl) gb ⟨_, rfl⟩) (nomark _)) (pe_call G4 hr (by rfl) N4.g N4.F.kp N4.b .nil pass0 (pa_cons (pv 1) pa_nil)) (pe_call G5 hr (by rfl) N5.g N5.F.kp N5.b .nil pass0 (pa_cons (pv 1) pa_nil))))))
      (pss_one (ps_ret (pe_lc2 (own := [("frees", 3), ("line", 4), ("beads", 5), ("many", 6)]) (vs1 := [5, 6]) (g := gTup K 2 (gCons (gName 3) (gCons (gName 4) gNil))) (tt := tYes) (wi1 := iEnum K (tCons (tVar 4) tNil)) (g1 := gTup K 2 (gCons (gName 5) (gCons (gName 6) gNil))) (tt1 := tTest (tOp rGtI (tVar 6) (tC (.int 0)))) rfl nd
        (pi_enum (by rfl) T0.enum (pa_cons (pv 1) pa_nil)) (blkOk_by (own := [("frees", 3), ("line", 4), ("beads", 5), ("many", 6)]) (N := nEO) (sc := defScope sEndsOf) (by decide +kernel)) (by decide)
        (fun _ _ _ _ _ => pg_tup (by rfl) (pgs_cons (pg_name (i := 3) nd rfl (.inl rfl)) (pgs_cons (pg_name (i := 4) nd rfl (.inl rfl)) pgs_nil))) (fun _ _ _ _ _ => pts_nil)
        (fun _ _ _ _ _ => pi_enum (by rfl) T0.enum (pa_cons (pv 4) pa_nil))
        (fun _ _ _ _ _ => pg_tup (by rfl) (pgs_cons (pg_name (i := 5) nd rfl (.inl rfl)) (pgs_cons (pg_name (i := 6) nd rfl (.inl rfl)) pgs_nil)))
        (fun _ _ _ _ _ => pts_one (pt_cmpR (show OpR _ (compareOp .Gt) rGtI from op_gt) (pv 6) pe_int (nomark _)))
        (fun _ _ _ _ _ => pe_tup (pa_cons (pv 3) (pa_cons (pv 5) (pa_cons (pv 6) pa_nil)))))))))), ?_⟩
    rcases h with ⟨bs, rfl, h30, q⟩ | ⟨hw, q⟩
    case inr => exact ⟨x, rfl, x, false, rfl, hw, (fun z => nomatch z), fun _ H1 s1 => q H1 s1⟩
    refine ⟨.str (tx bs), rfl, .str (tx bs), true, rfl, .inr ⟨tx bs, rfl, by rw [tx_len]; omega, (isWord_tx h30).symm⟩, fun _ H1 s1 => ?_, fun z => nomatch z⟩
    refine ⟨(by show 1 ≤ sizeLine; decide), fun l2 n2 => ⟨(by show 1 ≤ sizeLine; decide), fun l3 n3 => ?_⟩⟩
    have s2 := same_upd (o := .lst [.int 1]) n2
    have e2 : upd H1 l2 (.lst [.int 1]) l2 = some (.lst [.int 1]) := upd_same
    generalize upd H1 l2 (.lst [.int 1]) = H2 at s2 e2 n3
    have s3 := same_upd (o := .lst [.ref l2]) n3
    have t3 : Tb (upd H2 l3 (.lst [.ref l2])) l3 [[1]] := ⟨_, upd_same, l2, [], rfl, ne_of_none e2 n3, s3 _ _ e2, rfl⟩
    generalize upd H2 l3 (.lst [.ref l2]) = H3 at s3 t3
    have s03 := s1.trans (s2.trans s3)
    refine ⟨.str (tx bs), rfl, tx bs, rfl, ?_⟩
    refine for_tx (bs := bs) (fun i σ H4 => ∃ (y2 : Option V) (p : Addr), σ = [some (.str (tx bs)), some (.ref p), y2, none, none, none, none] ∧ Same H H4 ∧ Tb H4 p (HopW.tbl (bs.take i))) ⟨_, l3, rfl, s03, t3⟩ ?_ ?_
    · rintro i b σ H4 hb ⟨y2, p, rfl, s4, t4⟩
      have hsm : Small (HopW.tbl (bs.take i)) := tbl_small (by rw [List.length_take]; omega)
      refine ⟨.str (tx [b]), rfl, rfl, _, rfl, ?_⟩
      rw [is_o]
      have hst := tbl_step hb
      cases b with
      | true =>
        refine iteT ⟨.ref p, rfl, p, _, rfl, t4, hsm, fun H5 p5 s5 n5 t5 => ⟨_, p5, rfl, s4.trans s5, ?_⟩⟩
        rw [hst]
        exact t5
      | false =>
        refine iteF ⟨.ref p, rfl, p, _, rfl, t4, hsm, fun H5 p5 s5 n5 t5 => ⟨_, p5, rfl, s4.trans s5, ?_⟩⟩
        rw [hst]
        rw [wf_eq] at t5
        exact t5
    · rintro σ H4 ⟨y2, p, rfl, s4, t4⟩
      rw [List.take_length] at t4
      have hsm : Small (HopW.tbl bs) := tbl_small h30
      unfold HopW.eN at q
      generalize HopW.tbl bs = U at t4 hsm q
      obtain ⟨xs, ep, gp⟩ := t4
      have hU := hsm.1
      refine ⟨.ref p, rfl, p, _, rfl, SqL.of ep, fun D hD => ?_⟩
      refine out_it (walk_enum (K := K) (a := p) (xs := xs)) (fun i H5 => GrT H4 H5 D (HopW.enT 0 (U.take i)) (40 * i)) ⟨same_upd hD, [], upd_same, rfl, Nat.le_refl _⟩ (fun i H5 _ h => SqL.of (h.1 _ _ ep)) ?_ ?_
      · rintro i x H5 H6 hi ⟨s5, acc, eD, gD, hl⟩ ⟨t, x1, x2, rfl, nt, rfl, hx1, hx2⟩
        have hx1 : some (V.int (i : Nat)) = some x1 := hx1
        obtain rfl := Option.some.inj hx1
        have hx2 : xs[i]? = some x2 := hx2
        obtain ⟨pl, L, hL, rfl, el⟩ := lg_get gp hx2
        have hLl := hsm.2 L (List.mem_of_getElem? hL)
        have hi2 : i < U.length := (List.getElem?_eq_some_iff.mp hL).1
        have st := same_upd (o := .tup [.int (i : Nat), .ref pl]) nt
        have et : upd H5 t (.tup [.int (i : Nat), .ref pl]) t = some (.tup [.int (i : Nat), .ref pl]) := upd_same
        generalize upd H5 t (.tup [.int (i : Nat), .ref pl]) = H6 at st et
        have el6 := (s5.trans st) _ _ el
        refine ⟨t, _, rfl, SqT.of et, rfl, _, _, rfl, _, _, rfl, rfl, rfl, ?_⟩
        refine ⟨.ref pl, rfl, pl, _, rfl, SqL.of el6, ?_⟩
        refine out_it (walk_enum (K := K) (a := pl) (xs := L.map wv)) (fun j H7 => GrT H4 H7 D (HopW.enT 0 (U.take i) ++ HopW.enL i 0 (L.take j)) (40 * i + j)) ⟨s5.trans st, acc, st _ _ eD, by
          show TupG H6 HopW.f3i (HopW.enT 0 (U.take i) ++ []) acc
          rw [List.append_nil]
          exact tupG_same st gD, hl⟩ (fun j H7 _ h => SqL.of (h.1 _ _ el)) ?_ ?_
        · rintro j x H7 H8 hj ⟨s7, acc7, eD7, gD7, hl7⟩ ⟨t', x1, x2, rfl, nt', rfl, hx1, hx2⟩
          have hx1 : some (V.int (j : Nat)) = some x1 := hx1
          obtain rfl := Option.some.inj hx1
          have hx2 : (L.map wv)[j]? = some x2 := hx2
          rw [List.getElem?_map] at hx2
          obtain ⟨m, hm, rfl⟩ := Option.map_eq_some_iff.mp hx2
          have hj2 : j < L.length := (List.getElem?_eq_some_iff.mp hm).1
          have st' := same_upd (o := .tup [.int (j : Nat), wv m]) nt'
          have et' : upd H7 t' (.tup [.int (j : Nat), wv m]) t' = some (.tup [.int (j : Nat), wv m]) := upd_same
          generalize upd H7 t' (.tup [.int (j : Nat), wv m]) = H8 at st' et'
          refine ⟨t', _, rfl, SqT.of et', rfl, _, _, rfl, _, _, rfl, rfl, rfl, ?_⟩
          refine ⟨wv m, rfl, _, _, rfl, rfl, _, rfl, ?_⟩
          have hE := eL_take (f := i) hm
          by_cases hm0 : 0 < m
          · rw [if_pos hm0] at hE
            rw [decide_eq_true (show (m : Int) > 0 by omega)]
            refine iteT ⟨.int (i : Nat), rfl, .int (j : Nat), rfl, wv m, rfl, (by show 3 ≤ sizeLine; decide), fun p9 n9 => ?_⟩
            have s9 := st'.trans (same_upd (o := .tup [.int (i : Nat), .int (j : Nat), wv m]) n9)
            have e9 : upd H8 p9 (.tup [.int (i : Nat), .int (j : Nat), wv m]) p9 = some (.tup (HopW.f3i ((i, j), (m : Int)))) := upd_same
            generalize upd H8 p9 (.tup [.int (i : Nat), .int (j : Nat), wv m]) = H9 at s9 e9
            refine ⟨acc7, s9 _ _ eD7, fit' (by omega), same_new hD (s7.trans s9), _, upd_same, ?_, ?_⟩
            · rw [hE, ← List.append_assoc]
              exact tupG_upd (s9 _ _ eD7) (tupG_add e9 (tupG_same s9 gD7))
            · rw [List.length_append]
              show acc7.length + 1 ≤ _
              omega
          · rw [if_neg hm0, List.append_nil] at hE
            rw [decide_eq_false (show ¬ (m : Int) > 0 by omega)]
            refine iteF ⟨s7.trans st', acc7, st' _ _ eD7, ?_, by omega⟩
            rw [hE]
            exact tupG_same st' gD7
        · rintro H7 ⟨s7, acc7, eD7, gD7, hl7⟩
          rw [List.length_map] at hl7 gD7
          rw [List.take_length] at gD7
          refine ⟨s7, acc7, eD7, ?_, by omega⟩
          rw [eT_take hL]
          exact gD7
      · rintro H5 ⟨s5, acc, eD, gD, hl⟩
        rw [lg_len gp] at gD hl
        rw [List.take_length] at gD
        exact q H5 D acc (s4.trans s5) (s4.free hD) eD gD (by omega)
end
end Hop

set_option Elab.async false
set_option linter.all false
set_option maxRecDepth 100000
namespace Hop
open PySem L2 HopR
/-! ### the draws, a cell, a row -/
section
variable {P : Program} {w : World} {K : PySem.W.Frag} {mg : Str → Option Value} {base : Heap}
theorem scDrawn : FnScope ["_law_cell", "_law_sizes", "_law_found", "_law_left", "_law_k", "_law_small", "_law_one", "_law_two"] ["_law_cell", "_law_sizes"] (defScope sDrawn) := ⟨rfl, rfl, rfl, by decide +kernel, rfl, by decide +kernel, by decide +kernel⟩
theorem ok_drawn {f : Addr} {fd : FuncData} {k : Nat} (F : Fun K "_law_drawn" "_law_drawn" sDrawn f fd) (mL : mg "len" = none) (mR : mg "range" = none) : FnOk P w K mg base CX0 (k + 1) f fd ["_law_cell", "_law_sizes"] (spDrawn K) := by
  refine F.ok scDrawn (fun vs H Q E h => ?_) (fun cdv A outer s H vs Q E hr h => ?_)
  · obtain ⟨c, a, zs, rfl, _⟩ := h
    rfl
  · obtain ⟨c, a, zs, rfl, hS, hz, hlen, q⟩ := h
    have nd := scDrawn.nd
    refine ⟨_, pss_cons (ps_set (i := 2) nd rfl (.inl rfl) (pe_lst pa_nil))
      (pss_cons (ps_set (i := 3) nd rfl (.inl rfl) (pv 0))
      (pss_cons (ps_for PassesOwn.never rfl (pi_range1 (by rfl) mR (pa_cons (pe_callB call_len_seq (by rfl) mL PySem.boot_len (pa_cons (pv 1) pa_nil)) pa_nil)) (pg_name (i := 4) nd rfl (.inl rfl))
        (pss_one (ps_if (pt_cmpR op_ge (pv 3) (pe_op op_pow pe_int pe_int) (nomark _))
          (pss_cons (ps_expr (pe_bm PySem.F.plainAttrs_list PySem.F.slot_list_append PySem.F.type_list_append mt_append (pv 2) (pa_cons (pe_op op_mod (pv 3) (pe_ix ix_list (pv 1) (pv 4) (fun _ _ => rfl))) pa_nil)))
            (pss_one (ps_set (i := 3) nd rfl (.inl rfl) (pe_op op_fdivW (pv 3) (pe_ix ix_list (pv 1) (pv 4) (fun _ _ => rfl))))))
          (pss_cons (ps_set (i := 5) nd rfl (.inl rfl) (pe_op op_mod (pv 3) (pe_op op_pow pe_int pe_int)))
          (pss_cons (ps_set (i := 6) nd rfl (.inl rfl) (pe_op op_mod (pe_op op_mul (pe_op op_add (pe_op op_add (pv 5) (pe_op op_mul pe_int (pv 4))) pe_int) (pe_op op_add pe_int (pe_op op_mul (pe_op op_mul pe_int (pv 4)) (pv 4)))) pe_int))
          (pss_cons (ps_set (i := 7) nd rfl (.inl rfl) (pe_op op_mod (pe_op op_mul (pe_op op_add (pe_op op_add (pe_op op_fdiv (pv 5) pe_int) (pe_op op_mul pe_int (pv 4))) pe_int) (pe_op op_add pe_int (pe_op op_mul pe_int (pv 4)))) pe_int))
          (pss_one (ps_expr (pe_bm PySem.F.plainAttrs_list PySem.F.slot_list_append PySem.F.type_list_append mt_append (pv 2) (pa_cons (pe_op op_mod (pe_op op_add (pe_op op_mul (pv 6) (pv 7)) (pe_op op_fdiv (pv 6) pe_int)) (pe_ix ix_list (pv 1) (pv 4) (fun _ _ => rfl))) pa_nil))))))))))
      (pss_one (ps_ret (pv 2))))), ?_⟩
    -- found = []; left = cell
    refine ⟨Nat.zero_le _, fun o no => ?_⟩
    have s1 : Same H (upd H o (.lst [])) := same_upd no
    refine ⟨.int c, rfl, .ref a, rfl, a, zs.map V.int, rfl, .inl (s1.seq hS), ((zs.map V.int).length : Int), rfl, by omega, (by rw [List.length_map]; omega), ?_⟩
    refine for_range (lo := 0) (n := zs.length) (fun i σ H3 => ∃ (l : Int) (y4 y5 y6 y7 : Option V) (ds : List Int), σ = [some (.int c), some (.ref a), some (.ref o), some (.int l), y4, y5, y6, y7] ∧
        Same H H3 ∧ H3 o = some (.lst (ds.map V.int)) ∧ ds.length = i ∧ ds ++ draws l i (zs.drop i) = draws c 0 zs)
      ⟨c, none, none, none, none, [], rfl, s1, upd_same, rfl, by simp⟩ ?_ ?_ |> (fun h => by rw [List.length_map]; exact h)
    · rintro i σ H3 hi ⟨l, y4, y5, y6, y7, ds, rfl, sm, eo, el, ed⟩
      have hA : SqL K H3 a (zs.map V.int) := sm.seq hS
      have hz1 := hz zs[i] (List.getElem_mem hi)
      have gz : zs[i]? = some zs[i] := List.getElem?_eq_getElem hi
      have g : atI (zs.map V.int) (i : Int) = some (.int zs[i]) := atI_nat (by rw [List.getElem?_map, gz]; rfl)
      have hd : zs.drop i = zs[i] :: zs.drop (i + 1) := List.drop_eq_getElem_cons hi
      rw [hd] at ed
      have ed' : (ds ++ [dval l i zs[i]]) ++ draws (dleft l zs[i]) (i + 1) (zs.drop (i + 1)) = draws c 0 zs := by
        rw [List.append_assoc]
        exact ed
      have small : (ds.map V.int).length < sizeLine := by
        rw [List.length_map]
        exact small1000 (by omega)
      rw [Int.zero_add]
      refine ⟨.int l, rfl, 10, 18, rfl, rfl, ⟨by decide, by decide, by decide⟩, l, 10 ^ 18, rfl, rfl, _, rfl, ite2 (fun e => ?_) (fun e => ?_)⟩
      · have e : (1000000000000000000 : Int) ≤ l := of_decide_eq_true e
        refine ⟨.ref o, rfl, .inl ⟨rfl, _, SqL.of eo⟩, .int l, rfl, .ref a, rfl, .int (i : Int), rfl, a, _, _, _, rfl, rfl, hA, g, l, zs[i], rfl, rfl, hz1.1, o, _, _, rfl, rfl, eo, small, ?_⟩
        have e1 : dval l i zs[i] = l % zs[i] := by
          unfold dval
          rw [if_pos e]
        have e2 : dleft l zs[i] = l / zs[i] := by
          unfold dleft
          rw [if_pos e]
        have sm2 : Same H (upd H3 o (.lst (ds.map V.int ++ [.int (l % zs[i])]))) := same_new no sm
        refine ⟨.int l, rfl, .ref a, rfl, .int (i : Int), rfl, a, _, _, _, rfl, rfl, sm2.seq hS, g, l, zs[i], rfl, rfl, wide_div hz1.1 (b := 64) (by have := hz1.2; have := hz1.1; omega) (by decide) (by decide), ?_⟩
        refine ⟨_, _, _, _, _, ds ++ [dval l i zs[i]], rfl, sm2, ?_, ?_, ?_⟩
        · rw [upd_same, e1, List.map_append]
          rfl
        · rw [List.length_append, el]
          rfl
        · rw [← e2]
          exact ed'
      · have e : ¬ (1000000000000000000 : Int) ≤ l := fun z => e (decide_eq_true z)
        have e2 : dleft l zs[i] = l := by
          unfold dleft
          rw [if_neg e]
        have hi1000 : (i : Int) < 1000 := by omega
        have s0 : 0 ≤ l % 1000000000000000000 := Int.emod_nonneg _ (by decide)
        have s9 : l % 1000000000000000000 < 1000000000000000000 := Int.emod_lt_of_pos _ (by decide)
        refine ⟨.int l, rfl, 10, 18, rfl, rfl, ⟨by decide, by decide, by decide⟩, l, 10 ^ 18, rfl, rfl, (show (0 : Int) < 10 ^ 18 by decide), ?_⟩
        refine ⟨_, rfl, .int (i : Int), rfl, 7, i, rfl, rfl, .inl ⟨by decide, by decide⟩, _, _, rfl, rfl, _, _, rfl, rfl, .int (i : Int), rfl, 2, i, rfl, rfl, .inl ⟨by decide, by decide⟩, .int (i : Int), rfl, _, _, rfl, rfl, .inl ⟨by omega, by omega⟩, _, _, rfl, rfl, _, _, rfl, rfl,
          .inl ⟨by show -(2 ^ 64) < l % 1000000000000000000 + 7 * (i : Int) + 1; omega, by show l % 1000000000000000000 + 7 * (i : Int) + 1 < 2 ^ 64; omega⟩, _, _, rfl, rfl, (show (0 : Int) < 2147483647 by decide), ?_⟩
        refine ⟨_, rfl, _, _, rfl, rfl, ⟨by decide, by decide⟩, .int (i : Int), rfl, 11, i, rfl, rfl, .inl ⟨by decide, by decide⟩, _, _, rfl, rfl, _, _, rfl, rfl, .int (i : Int), rfl, 6, i, rfl, rfl, .inl ⟨by decide, by decide⟩, _, _, rfl, rfl, _, _, rfl, rfl,
          .inl ⟨by show -(2 ^ 64) < l % 1000000000000000000 / 3 + 11 * (i : Int) + 5; omega, by show l % 1000000000000000000 / 3 + 11 * (i : Int) + 5 < 2 ^ 64; omega⟩, _, _, rfl, rfl, (show (0 : Int) < 2147483629 by decide), ?_⟩
        have o0 := Int.emod_nonneg ((l % 1000000000000000000 + 7 * (i : Int) + 1) * (48271 + 2 * (i : Int) * (i : Int))) (show (2147483647 : Int) ≠ 0 by decide)
        have o9 := Int.emod_lt_of_pos ((l % 1000000000000000000 + 7 * (i : Int) + 1) * (48271 + 2 * (i : Int) * (i : Int))) (show (0 : Int) < 2147483647 by decide)
        refine ⟨.ref o, rfl, .inl ⟨rfl, _, SqL.of eo⟩, _, rfl, _, rfl, _, _, rfl, rfl, .inl ⟨Int.lt_of_lt_of_le (by decide) o0, Int.lt_trans o9 (by decide)⟩, _, rfl, _, _, rfl, rfl, ⟨by decide, by decide⟩, _, _, rfl, rfl, .ref a, rfl, .int (i : Int), rfl, a, _, _, _, rfl, rfl, hA, g, _, zs[i], rfl, rfl, hz1.1, o, _, _, rfl, rfl, eo, small, ?_⟩
        have e1 : dval l i zs[i] = ((l % 1000000000000000000 + 7 * (i : Int) + 1) * (48271 + 2 * (i : Int) * (i : Int)) % 2147483647 * ((l % 1000000000000000000 / 3 + 11 * (i : Int) + 5) * (39373 + 6 * (i : Int)) % 2147483629) + (l % 1000000000000000000 + 7 * (i : Int) + 1) * (48271 + 2 * (i : Int) * (i : Int)) % 2147483647 / 64) % zs[i] := by
          unfold dval
          rw [if_neg e]
        refine ⟨_, _, _, _, _, ds ++ [dval l i zs[i]], rfl, same_new no sm, ?_, ?_, ?_⟩
        · rw [upd_same, e1, List.map_append]
          rfl
        · rw [List.length_append, el]
          rfl
        · rw [e2] at ed'
          exact ed'
    · rintro σ H3 ⟨l, y4, y5, y6, y7, ds, rfl, sm, eo, el, ed⟩
      rw [List.drop_length] at ed
      have ed : ds = draws c 0 zs := by
        rw [← ed]
        show ds = ds ++ []
        rw [List.append_nil]
      subst ed
      exact ⟨.ref o, rfl, q H3 o sm no eo⟩

/-! ### _law_cell_at -/
theorem scCell : FnScope ["_law_script", "_law_k"] ["_law_script", "_law_k"] (defScope sCellAt) := ⟨rfl, rfl, rfl, by decide +kernel, rfl, by decide +kernel, by decide +kernel⟩
theorem ok_cell {f : Addr} {fd : FuncData} {k : Nat} (F : Fun K "_law_cell_at" "_law_cell_at" sCellAt f fd) (mL : mg "len" = none) : FnOk P w K mg base CX0 (k + 1) f fd ["_law_script", "_law_k"] (spCellH K) := by
  refine F.ok scCell (fun vs H Q E h => ?_) (fun cdv A outer s H vs Q E hr h => ?_)
  · obtain ⟨a, ns, k, rfl, _⟩ := h
    rfl
  · obtain ⟨a, ns, k, rfl, hS, q⟩ := h
    refine ⟨_, pss_cons (ps_if (pt_cmpR op_lt (pv 1) (pe_callB call_len_seq (by rfl) mL PySem.boot_len (pa_cons (pv 0) pa_nil)) (nomark _)) (pss_one (ps_ret (pe_ix ix_list (pv 0) (pv 1) (fun _ _ => rfl)))) pss_nil) (pss_one (ps_ret pe_int)), ?_⟩
    refine ⟨_, rfl, .ref a, rfl, a, _, rfl, .inl hS, _, _, rfl, rfl, _, rfl, ite2 (fun e => ?_) (fun e => ?_)⟩
    · have e : (k : Int) < ((ns.map V.int).length : Int) := of_decide_eq_true e
      rw [List.length_map] at e
      have hk : k < ns.length := by omega
      exact ⟨.ref a, rfl, .int (k : Int), rfl, a, _, _, .int ns[k], rfl, rfl, hS, atI_nat (by rw [List.getElem?_map, List.getElem?_eq_getElem hk]; rfl), q _⟩
    · exact q 0
theorem scLRow : FnScope ["_law_cell", "_law_most", "_law_draws", "_law_row_here", "_law_draw"] ["_law_cell", "_law_most"] (defScope sLRow) := ⟨rfl, rfl, rfl, by decide +kernel, rfl, by decide +kernel, by decide +kernel⟩
theorem ok_lrow {f f1 : Addr} {fd fd1 : FuncData} {k : Nat} (F : Fun K "_law_row" "_law_row" sLRow f fd) (N1 : Fn K mg "_law_drawn" sDrawn ["_law_cell", "_law_sizes"] f1 fd1) (mL : mg "len" = none) (mR : mg "range" = none) (mS : mg "sorted" = none) : FnOk P w K mg base CX0 (k + 2) f fd ["_law_cell", "_law_most"] spLRow := by
  have G1 : FnOk P w K mg base CX0 (k + 1) f1 fd1 ["_law_cell", "_law_sizes"] (spDrawn K) := ok_drawn N1.F mL mR
  refine F.ok scLRow (fun vs H Q E h => ?_) (fun cdv A outer s H vs Q E hr h => ?_)
  · obtain ⟨c, M, rfl, _⟩ := h
    rfl
  · obtain ⟨c, M, rfl, hM1, hM, q⟩ := h
    have nd := scLRow.nd
    refine ⟨_, pss_cons (ps_set (i := 2) nd rfl (.inl rfl) (pe_call G1 hr (by rfl) N1.g N1.F.kp N1.b .nil pass0 (pa_cons (pv 0) (pa_cons (pe_op op_cat (pe_lst (pa_cons pe_int (pa_cons (pv 1) pa_nil))) (pe_op op_rep (pe_lst (pa_cons pe_int pa_nil)) (pv 1))) pa_nil))))
      (pss_cons (ps_set (i := 3) nd rfl (.inl rfl) (pe_join pe_str (pe_lc (own := [("_law_draw", 4)]) (g := gName 4) (tt := tYes) rfl nd (pi_list (pe_slice sl_list (pv 2) (po_some pe_int) (po_some (pe_op op_add pe_int (pe_ix ix_list (pv 2) pe_int (fun _ _ => rfl))))))
        (blkOk_by (own := [("_law_draw", 4)]) (N := ["_law_cell", "_law_most", "_law_draws", "_law_row_here", "_law_draw"]) (sc := defScope sLRow) (by decide +kernel))
        (fun _ _ _ _ _ => pg_name (i := 4) nd rfl (Or.inl rfl)) (fun _ _ _ _ _ => pts_nil) (fun _ _ _ _ _ => pe_ix ix_str pe_str (pv 4) (fun _ _ => rfl)))))
      (pss_cons (ps_if (pt_cmpR op_eq (pe_ix ix_list (pv 2) pe_int (fun _ _ => rfl)) pe_int (nomark _)) (pss_one (ps_ret (pe_join pe_str (pe_revL (pe_callB (cr_sortT rfl) (by rfl) mS (by decide +kernel) (pa_cons (pv 3) pa_nil)))))) pss_nil)
      (pss_cons (ps_if (pt_cmpR op_eq (pe_ix ix_list (pv 2) pe_int (fun _ _ => rfl)) pe_int (nomark _)) (pss_one (ps_ret (pe_slice sl_str (pe_op op_repS pe_str (pv 1)) po_none (po_some (pe_callB call_len_str (by rfl) mL PySem.boot_len (pa_cons (pv 3) pa_nil)))))) pss_nil)
      (pss_one (ps_ret (pv 3)))))), ?_⟩
    -- the sizes
    refine ⟨.int c, rfl, .int (M : Int), rfl, (by show 2 ≤ sizeLine; decide), fun l1 n1 => ⟨(by show 1 ≤ sizeLine; decide), fun l2 n2 => ?_⟩⟩
    refine ⟨.int (M : Int), rfl, l2, (M : Int), [.int 2], rfl, rfl, upd_same, by omega, by omega, (by rw [Int.toNat_natCast]; exact fit (by show 1 * M ≤ 10000; omega)), fun l3 n3 => ?_⟩
    rw [Int.toNat_natCast, flat_rep]
    have m2 := (same_upd n1).free n2
    have nl12 : l1 ≠ l2 := fun e => by
      rw [← e, upd_same] at n2
      cases n2
    have s2 : Same H (upd (upd H l1 (.lst [.int 6, .int (M : Int)])) l2 (.lst [.int 2])) := same_new m2 (same_upd n1)
    have m3 := s2.free n3
    have nl13 : l1 ≠ l3 := fun e => by
      rw [← e, upd_ne nl12, upd_same] at n3
      cases n3
    refine ⟨l1, l3, [.int 6, .int (M : Int)], _, rfl, rfl, ?_, upd_same, (by rw [List.length_replicate]; exact fit (by show 2 + M ≤ 10000; omega)), fun l4 n4 => ?_⟩
    · rw [upd_ne nl13, upd_ne nl12, upd_same]
    have s3 := same_new (o := .lst (List.replicate M (V.int 2))) m3 s2
    have m4 := s3.free n4
    have hsz : [V.int 6, .int (M : Int)] ++ List.replicate M (V.int 2) = ([6, (M : Int)] ++ List.replicate M 2).map V.int := by
      rw [List.map_append, List.map_replicate]
      rfl
    rw [hsz]
    have hsl : ([6, (M : Int)] ++ List.replicate M 2).length = M + 2 := by
      rw [List.length_append, List.length_replicate]
      show 2 + M = M + 2
      omega
    refine ⟨c, l4, [6, (M : Int)] ++ List.replicate M 2, rfl, SqL.of upd_same, ?_, by rw [hsl]; omega, fun H1 p s4 np ep => ?_⟩
    · intro z hz
      rcases List.mem_append.mp hz with h | h
      · rcases List.mem_cons.mp h with rfl | h
        · exact ⟨by decide, by decide⟩
        · rcases List.mem_cons.mp h with rfl | h
          · exact ⟨by omega, by omega⟩
          · cases h
      · rw [(List.mem_replicate.mp h).2]
        exact ⟨by decide, by decide⟩
    have sH1 : Same H H1 := (same_new m4 s3).trans s4
    generalize hds : draws c 0 ([6, (M : Int)] ++ List.replicate M 2) = ds at ep
    have hpos : ∀ z ∈ ([6, (M : Int)] ++ List.replicate M 2 : List Int), 0 < z := by
      intro z hz
      rcases List.mem_append.mp hz with h | h
      · rcases List.mem_cons.mp h with rfl | h
        · decide
        · obtain rfl := List.mem_singleton.mp h
          omega
      · rw [(List.mem_replicate.mp h).2]
        decide
    have hlen : ds.length = M + 2 := by
      rw [← hds, draws_len, hsl]
    have hok : ∀ (i : Nat) (x z : Int), ds[i]? = some x → ([6, (M : Int)] ++ List.replicate M 2 : List Int)[i]? = some z → 0 ≤ x ∧ x < z := by
      rw [← hds]
      exact draws_ok _ c 0 hpos
    obtain ⟨d0, e0⟩ : ∃ x, ds[0]? = some x := ⟨ds[0], List.getElem?_eq_getElem (by omega)⟩
    obtain ⟨d1, e1⟩ : ∃ x, ds[1]? = some x := ⟨ds[1], List.getElem?_eq_getElem (by omega)⟩
    have b1 := hok 1 d1 (M : Int) e1 rfl
    obtain ⟨m, rfl⟩ : ∃ m : Nat, d1 = (m : Int) := ⟨d1.toNat, by omega⟩
    have hcs : ∀ x ∈ (ds.drop 2).take (m + 1), 0 ≤ x ∧ x < 2 := fun x hx => by
      obtain ⟨j, hj⟩ := List.getElem?_of_mem (List.mem_of_mem_take hx)
      rw [List.getElem?_drop] at hj
      have hj2 : 2 + j < ds.length := (List.getElem?_eq_some_iff.mp hj).1
      refine hok (2 + j) x 2 hj ?_
      rw [List.getElem?_append_right (by show 2 ≤ 2 + j; omega), List.getElem?_replicate]
      show (if 2 + j - 2 < M then some (2 : Int) else none) = some 2
      rw [if_pos (by omega)]
    have hcl : ((ds.drop 2).take (m + 1)).length = m + 1 := by
      rw [List.length_take, List.length_drop, hlen]
      omega
    generalize hcd : (ds.drop 2).take (m + 1) = cs at hcs hcl
    have ecut : cutV (ds.map V.int) (some 2) (some (3 + (m : Int))) = cs.map V.int := by
      unfold cutV
      rw [show (some (2 : Int)) = some ((2 : Nat) : Int) from rfl, show (3 + (m : Int)) = ((3 + m : Nat) : Int) by omega, HT.sIx_nat, HT.sIx_nat, List.length_map, hlen, ← hcd, List.map_take, List.map_drop]
      have i1 : min 2 (M + 2) = 2 := by omega
      have i2 : min (3 + m) (M + 2) - 2 = m + 1 := by omega
      rw [i1, i2]
    have g1 : atI (ds.map V.int) 1 = some (.int (m : Int)) := atI_nat (j := 1) (by rw [List.getElem?_map, e1]; rfl)
    have g0 : atI (ds.map V.int) 0 = some (.int d0) := atI_nat (j := 0) (by rw [List.getElem?_map, e0]; rfl)
    have hbl : (bits cs).length = m + 1 := by
      unfold bits
      rw [List.length_map, hcl]
    have hRow : Row (bits cs) := by
      unfold Row
      rw [hbl]
      omega
    refine ⟨⟨_, rfl⟩, .ref p, rfl, 2, rfl, .ref p, rfl, p, _, 1, .int (m : Int), rfl, rfl, SqL.of ep, g1, 3, (m : Int), rfl, rfl, _, rfl, p, _, rfl, SqL.of ep, fun q1 nq1 => ?_⟩
    rw [ecut]
    have sq1 : Same H (upd H1 q1 (.lst (cs.map V.int))) := same_new (sH1.free nq1) sH1
    have npq : p ≠ q1 := ne_of_none ep nq1
    refine ⟨q1, rfl, ⟨_, SqL.of upd_same⟩, fun D hD => ?_⟩
    have nDq : q1 ≠ D := fun e => by
      rw [← e, upd_same] at hD
      cases hD
    have nDp : p ≠ D := fun e => by
      rw [← e, upd_ne npq, ep] at hD
      cases hD
    have hDH := sq1.free hD
    refine lc_list (K := K) (a := q1) (xs := cs.map V.int) (fun i H3 => Same H H3 ∧ H3 q1 = some (.lst (cs.map V.int)) ∧ H3 p = some (.lst (ds.map V.int)) ∧ H3 D = some (.lst (((bits (cs.take i)).map fun b => tx [b]).map V.str)))
      ⟨same_new hDH sq1, by rw [upd_ne nDq, upd_same], by rw [upd_ne nDp, upd_ne npq]; exact ep, upd_same⟩ (fun i H3 _ h => SqL.of h.2.1) ?_ ?_
    · rintro i x H3 hx ⟨sm, eq1, epp, eD⟩
      rw [List.getElem?_map] at hx
      obtain ⟨u, hu, rfl⟩ := Option.map_eq_some_iff.mp hx
      have hb := hcs u (List.mem_of_getElem? hu)
      refine ⟨rfl, .int u, rfl, ".o", u, _, rfl, rfl, (by decide), dot_o u hb.1 hb.2, _, eD, ?_, same_new hDH sm, ?_, ?_, ?_⟩
      · rw [List.length_map, List.length_map]
        unfold bits
        rw [List.length_map]
        exact small1000 (Nat.le_trans (List.length_take_le _ _) (by have := (List.getElem?_eq_some_iff.mp hu).1; omega))
      · rw [upd_ne nDq]
        exact eq1
      · rw [upd_ne nDp]
        exact epp
      · unfold bits
        rw [upd_same, List.take_add_one, hu, List.map_append, List.map_append, List.map_append]
        rfl
    · rintro H3 ⟨sm, eq1, epp, eD⟩
      rw [List.length_map, List.take_length] at eD
      refine ⟨"", D, _, rfl, rfl, .inl (SqL.of eD), join_fits (by have := hRow.2; omega), ?_⟩
      rw [join_tx]
      -- which kind
      refine ⟨.ref p, rfl, p, _, 0, _, rfl, rfl, SqL.of epp, g0, rfl, _, rfl, ite2 (fun _ => ?_) (fun _ => ?_)⟩
      · have h64 : (tx (bits cs)).length < 64 := by
          rw [tx_len]
          have := hRow.2
          omega
        refine ⟨⟨_, rfl⟩, .str (tx (bits cs)), rfl, tx (bits cs), rfl, h64, fun ys p1 hperm _ np1 => ⟨p1, _, rfl, SqL.of upd_same, fun p2 np2 => ?_⟩⟩
        rw [← List.map_reverse]
        obtain ⟨bs2, e2⟩ := signs_rows ys.reverse fun y hy => by
          have h1 := hperm.mem_iff.mp (List.mem_reverse.mp hy)
          rw [tx_sg] at h1
          obtain ⟨b, _, e⟩ := List.mem_map.mp h1
          exact ⟨b, e.symm⟩
        have hl2 : bs2.length = (bits cs).length := by
          have := congrArg List.length e2
          rw [List.length_reverse, hperm.length_eq, sg_len, tx_len, List.length_map] at this
          exact this.symm
        rw [e2]
        have hR2 : Row bs2 := by
          unfold Row
          rw [hl2]
          exact hRow
        refine ⟨"", p2, _, rfl, rfl, .inl (SqL.of upd_same), join_fits (by have := hR2.2; omega), ?_⟩
        rw [join_tx]
        have sp1 := same_new (o := .lst (ys.map V.str)) (sm.free np1) sm
        exact q _ _ (same_new (sp1.free np2) sp1) hR2.1 (by rw [hl2, hbl]; omega)
      · refine ⟨.ref p, rfl, p, _, 0, _, rfl, rfl, SqL.of epp, g0, rfl, _, rfl, ite2 (fun _ => ?_) (fun _ => ?_)⟩
        · have hrl := rep_of_len M
          refine ⟨.int (M : Int), rfl, "o.", M, rfl, rfl, (by rw [show ("o." : Str).length = 2 by decide +kernel]; omega), by omega, .str (tx (bits cs)), rfl, tx (bits cs), rfl, row_size hRow, _, rfl, _, rfl, ?_, ?_⟩
          · rw [rep_of]
            exact tx_fit (by omega)
          · rw [rep_of, cut_to, tx_len]
            refine q _ _ sm ?_ ?_
            · rw [List.length_take]
              omega
            · rw [List.length_take]
              omega
        · exact ⟨_, rfl, q _ _ sm hRow.1 (by omega)⟩
end
end Hop

set_option Elab.async false
set_option linter.all false
set_option maxRecDepth 100000
namespace Hop
open PySem L2 HopR HopW HopT
theorem count_tx (bs : List Bool) (b : Bool) : PySem.Txt.count (tx bs) (tx [b]) = ((bs.count b : Nat) : Int) := by
  have e1 : tx [b] = ⟨#[cd b]⟩ := by cases b <;> decide +kernel
  have e : PySem.Txt.count (tx bs) ⟨#[cd b]⟩ = PyProof.Rows.cnt (cd b) (tx bs).cps.toList := PyProof.Rows.count_is (tx bs) (cd b)
  rw [e1, e, tx_list]
  clear e e1
  induction bs with
  | nil => rfl
  | cons c r ih =>
    rw [List.map_cons, PyProof.Rows.cnt_cons, ih]
    by_cases h : c = b
    · subst h
      rw [List.count_cons_self, if_pos rfl]
      omega
    · rw [List.count_cons_of_ne h, if_neg (by cases b <;> cases c <;> first | (exact absurd rfl h) | decide)]
      omega
section
variable {P : Program} {w : World} {K : PySem.W.Frag} {mg : Str → Option Value} {base : Heap} {C d : Addr} {es : Array DictEntry} {n : Nat}
/-! ### _law_ends -/
def ιw (v : List Bool) : Key := .inr (tx v)
def ιe (e : Nat × Nat) : List Key := [.inl (e.1 : Int), .inl (e.2 : Int)]
theorem ιw_inj (u v : List Bool) (h : ιw u = ιw v) : u = v := tx_inj (Sum.inr.inj h)
theorem ιe_inj (a b : Nat × Nat) (h : ιe a = ιe b) : a = b := by
  obtain ⟨a1, a2⟩ := a
  obtain ⟨b1, b2⟩ := b
  have h' : [Sum.inl (a1 : Int), Sum.inl (a2 : Int)] = ([Sum.inl (b1 : Int), Sum.inl (b2 : Int)] : List Key) := h
  injection h' with h1 h2
  injection h2 with h2 _
  have e1 := Int.ofNat.inj (Sum.inl.inj h1)
  have e2 := Int.ofNat.inj (Sum.inl.inj h2)
  subst e1 e2
  rfl
def spLEnds : Sp := fun vs H Q _ => ∃ bs : List Bool, vs = [.str (tx bs)] ∧ 1 ≤ bs.length ∧ bs.length ≤ 11 ∧ ∀ H' p (ts : List Addr), Same H H' → H p = none → H' p = some (.lst (ts.map V.ref)) → Paired (fun t e => H' t = some (.tup (f3i e))) ts (eN bs) → Q (.ref p) H'
abbrev nLE : List Str := ["_law_word", "_law_tally", "_law_found", "_law_later", "_law_one", "_law_at", "_law_end", "_law_less"]
theorem scLE : FnScope nLE ["_law_word"] (defScope sLEnds) := ⟨rfl, rfl, rfl, by decide +kernel, rfl, by decide +kernel, by decide +kernel⟩
theorem lt_of_hu {a b : Nat} (h : a + 1 < b) : a < b := Nat.lt_of_succ_lt h
/-- between two turns of the loop: the words still to be shortened, the ends found -/
def WE (bs : List Bool) (H : Hp) (p2 : Addr) (m : Nat) (σ : St) (H2 : Hp) : Prop := ∃ (p : Addr) (T : List (List Bool × Int)) (G : List En) (i : Nat) (y3 y4 y5 y6 y7 : Option V),
  σ = [some (.str (tx bs)), some (.ref p), some (.ref p2), y3, y4, y5, y6, y7] ∧ m + i = 12 ∧ Same H H2 ∧ H p = none ∧ p ≠ p2 ∧ H2 p = some (.dK (zv ιw T)) ∧ H2 p2 = some (.dT (zv ιe G)) ∧
  Tp (fun v => v.length + i = bs.length ∧ 1 ≤ v.length) (2 ^ i) T ∧ Tp (fun e => e.1 + e.2 ≤ bs.length) (2 ^ i) G ∧ ∀ F : Nat → Nat → Rat, ds (wF F) T + ds (φF F) G = wF F bs
/-- within a turn: j words are looked at -/
def WT (bs : List Bool) (H : Hp) (p p2 p3 : Addr) (od : Obj) (T : List (List Bool × Int)) (G0 : List En) (i j : Nat) (σ : St) (H2 : Hp) : Prop := ∃ (L : List (List Bool × Int)) (G : List En) (y4 y5 y6 y7 : Option V),
  σ = [some (.str (tx bs)), some (.ref p), some (.ref p2), some (.ref p3), y4, y5, y6, y7] ∧ Same H H2 ∧ H2 p = some (.frz od (.dK (zv ιw T))) ∧ H2 p2 = some (.dT (zv ιe G)) ∧ H2 p3 = some (.dK (zv ιw L)) ∧
  Tp (fun v => v.length + (i + 1) = bs.length ∧ 1 ≤ v.length) (2 * j) L ∧ Tp (fun e => e.1 + e.2 ≤ bs.length) (2 ^ i + j) G ∧
  ∀ F : Nat → Nat → Rat, ds (wF F) L + ds (φF F) G = ds (wF F) (T.take j) + ds (φF F) G0
theorem zv_at {α κ : Type} {ι : α → κ} {l : List (α × Int)} {i : Nat} {k : κ} {v : V} (h : (zv ι l)[i]? = some (k, v)) : ∃ a c, l[i]? = some (a, c) ∧ k = ι a ∧ v = .int c := by
  have h' : (l.map fun p => (ι p.1, V.int p.2))[i]? = some (k, v) := h
  rw [List.getElem?_map] at h'
  obtain ⟨⟨a, c⟩, e, q⟩ := Option.map_eq_some_iff.mp h'
  obtain ⟨rfl, rfl⟩ := Prod.mk.inj q
  exact ⟨a, c, e, rfl, rfl⟩
theorem zv_len {α κ : Type} {ι : α → κ} (l : List (α × Int)) : (zv ι l).length = l.length := List.length_map ..
set_option maxHeartbeats 8000000 in
theorem ok_lends {f : Addr} {fd : FuncData} {k : Nat} (F : Fun K "_law_ends" "_law_ends" sLEnds f fd) (T : Txt K w mg d es n) : FnOk P w K mg base CX0 (k + 1) f fd ["_law_word"] spLEnds := by
  refine F.ok scLE (fun vs H Q E h => ?_) (fun cdv A outer s H vs Q E hr h => ?_)
  · obtain ⟨bs, rfl, _⟩ := h
    rfl
  · obtain ⟨bs, rfl, h1, h11, q⟩ := h
    have nd := scLE.nd
    have hu := hu_of hr
    refine ⟨_, pss_cons (ps_set (i := 1) nd rfl (.inl rfl) (pe_disp (pps_cons (pv 0) pe_int pps_nil) (by rfl) (by rfl) (fun z => by cases z) (by decide)))
      (pss_cons (ps_set (i := 2) nd rfl (.inr rfl) pe_dnewT)
      (pss_cons (ps_while PassesOwn.never (pt_cmpR (op_neD0 (lt_of_hu hu)) (pv 1) pe_dnewK (nomark _))
        (pss_cons (ps_set (i := 3) nd rfl (.inl rfl) pe_dnewK)
        (pss_cons (ps_lock (ps_for PassesOwn.never rfl (pi_keys (pv 1)) (pg_name (i := 4) nd rfl (.inl rfl))
          (pss_cons (ps_set (i := 5) nd rfl (.inl rfl) (pe_bm PySem.F.plainAttrs_str PySem.F.slot_str_find PySem.F.type_str_find mt_find (pv 4) (pa_cons pe_str pa_nil)))
          (pss_one (ps_if (pt_cmpR op_lt (pv 5) pe_int (nomark _))
            (pss_cons (ps_set (i := 6) nd rfl (.inl rfl) (pe_tup (pa_cons (pe_bm PySem.F.plainAttrs_str PySem.F.slot_str_count PySem.F.type_str_count mt_count (pv 4) (pa_cons pe_str pa_nil)) (pa_cons (pe_bm PySem.F.plainAttrs_str PySem.F.slot_str_count PySem.F.type_str_count mt_count (pv 4) (pa_cons pe_str pa_nil)) pa_nil))))
            (pss_one (ps_dput hu (pv 2) (pv 6) (pe_op op_add (pe_dget2 hu (pv 2) (pv 6) pe_int ⟨rfl, rfl, rfl, rfl⟩) (pe_dget hu (pv 1) (pv 4) (fun _ _ => rfl))) rfl)))
            (pss_one (ps_for PassesOwn.never rfl (pi_list (pe_lst (pa_cons (pe_op op_add_str (pe_slice sl_str (pv 4) po_none (po_some (pe_op op_add (pv 5) pe_int))) (pe_slice sl_str (pv 4) (po_some (pe_op op_add (pv 5) pe_int)) po_none)) (pa_cons (pe_op op_add_str (pe_slice sl_str (pv 4) po_none (po_some (pv 5))) (pe_slice sl_str (pv 4) (po_some (pe_op op_add (pv 5) pe_int)) po_none)) pa_nil)))) (pg_name (i := 7) nd rfl (.inl rfl))
              (pss_one (ps_dput hu (pv 3) (pv 7) (pe_op op_add (pe_dget2 hu (pv 3) (pv 7) pe_int ⟨rfl, rfl, rfl, rfl⟩) (pe_dget hu (pv 1) (pv 4) (fun _ _ => rfl))) rfl)))))))))
        (pss_one (ps_set (i := 1) nd rfl (.inl rfl) (pv 3))))))
      (pss_one (ps_ret (pe_callB (show CallR _ (.builtin "sorted") (rSortedQ K) from cr_sortedQ) (by rfl) T.sorted (by decide +kernel) (pa_cons (pe_lock (pe_lc (own := [("_law_end", 6)]) (g := gName 6) (tt := tYes) (by rfl) nd (pi_keys (pv 2)) (blkOk_by (own := [("_law_end", 6)]) (N := nLE) (sc := defScope sLEnds) (by decide +kernel)) (fun _ _ _ _ _ => pg_name (i := 6) nd rfl (.inl rfl)) (fun _ _ _ _ _ => pts_nil)
        (fun _ _ _ _ _ => pe_tup (pa_cons (pe_ix (show IxR _ (rIxT K) from ix_tup) (pv 6) pe_int (fun _ _ => rfl)) (pa_cons (pe_ix (show IxR _ (rIxT K) from ix_tup) (pv 6) pe_int (fun _ _ => rfl)) (pa_cons (pe_dget (by assumption) (pv 2) (pv 6) (fun _ _ => rfl)) pa_nil)))))) pa_nil)))))), ?_⟩
    refine fun p1 n1 => ⟨.str (tx bs), rfl, upd_same, [(ιw bs, .int 1)], rfl, (by show 1 ≤ 15; decide), ?_⟩
    rw [upd_upd, show mergeK [] [(ιw bs, V.int 1)] = zv ιw [(bs, 1)] from rfl]
    have s1 := same_upd (o := .dK (zv ιw [(bs, 1)])) n1
    have e1 : upd H p1 (.dK (zv ιw [(bs, 1)])) p1 = some (.dK (zv ιw [(bs, 1)])) := upd_same
    generalize upd H p1 (.dK (zv ιw [(bs, 1)])) = H1 at s1 e1
    refine fun p2 n2 => ?_
    have s2 := same_upd (o := .dT []) n2
    have e2 : upd H1 p2 (.dT []) p2 = some (.dT []) := upd_same
    have np2 := s1.free n2
    have ne12 : p1 ≠ p2 := ne_of_none e1 n2
    generalize upd H1 p2 (.dT []) = H2 at s2 e2
    refine ⟨WE bs H p2, ⟨12, p1, [(bs, 1)], [], 0, none, none, none, none, none, rfl, rfl, s1.trans s2, n1, ne12, s2 _ _ e1, e2, ⟨by simp, ?_, Nat.le_refl _⟩, .nil, fun F => ?_⟩, ?_⟩
    · intro z hz
      obtain rfl := List.mem_singleton.mp hz
      exact ⟨⟨rfl, h1⟩, (by show (0 : Int) < 1; decide)⟩
    · show ((1 : Int) : Rat) * wF F bs + 0 + 0 = wF F bs
      have : ((1 : Int) : Rat) = 1 := rfl
      grind
    clear e1 e2 s1 s2 n2 ne12 n1 H1 H2 p1
    rintro m σ H3 ⟨p, T, G, i, y3, y4, y5, y6, y7, rfl, hm, s3, np, npp, ep, e2, tT, tG, bal⟩
    refine ⟨.ref p, rfl, fun q0 nq => ⟨p, q0, zv ιw T, rfl, rfl, same_upd nq _ _ ep, upd_same, _, rfl, ?_⟩⟩
    have s4 := same_upd (o := .dK []) nq
    have s04 := s3.trans s4
    replace ep := s4 _ _ ep
    replace e2 := s4 _ _ e2
    clear s3 s4 nq
    generalize upd H3 q0 (.dK []) = H4 at s04 ep e2
    by_cases emp : T = []
    · subst emp
      refine iteF ?_
      have tot : ∀ F : Nat → Nat → Rat, ds (φF F) G = wF F bs := fun F => by
        have := bal F
        rw [show ds (wF F) ([] : List (List Bool × Int)) = 0 from rfl] at this
        grind
      refine ⟨p2, .dT (zv ιe G), e2, trivial, fun od => ?_⟩
      refine ⟨.ref p2, rfl, p2, od, rfl, .inr ⟨zv ιe G, upd_same, fun D nD => ?_⟩⟩
      have e5 : upd H4 p2 (.frz od (.dT (zv ιe G))) p2 = some (.frz od (.dT (zv ιe G))) := upd_same
      have s5 : Same H (upd H4 p2 (.frz od (.dT (zv ιe G)))) := same_new np2 s04
      have nD0 := s5.free nD
      have ne5 : p2 ≠ D := ne_of_none e5 nD
      generalize upd H4 p2 (.frz od (.dT (zv ιe G))) = H5 at e5 s5 nD
      refine lc_it walk_keysT (fun j H6 => Same H H6 ∧ H6 p2 = some (.frz od (.dT (zv ιe G))) ∧ ∃ ts : List Addr, H6 D = some (.lst (ts.map V.ref)) ∧ ts.length ≤ j ∧ Paired (fun t e => H6 t = some (.tup (f3i e))) ts (G.take j)) ⟨same_new nD0 s5, (by rw [upd_ne ne5]; exact e5), [], upd_same, Nat.le_refl _, .nil⟩ (fun j H6 _ h => h.2.1) ?_ ?_
      · rintro j v0 H6 H6b hj ⟨s6, f6, ts, eD, tl, pr⟩ ⟨rfl, k0, v, qk, hk, rfl, eq⟩
        obtain ⟨e, c, he, rfl, rfl⟩ := zv_at hk
        refine ⟨rfl, .ref qk, rfl, qk, _, 0, .int (e.1 : Int), rfl, rfl, SqT.of eq, rfl, .ref qk, rfl, qk, _, 1, .int (e.2 : Int), rfl, rfl, SqT.of eq, rfl, ?_⟩
        refine ⟨.ref p2, rfl, .ref qk, rfl, p2, .int c, rfl, .inr ⟨_, ιe e, qk, .inr ⟨od, f6⟩, rfl, eq, (val_in ιe_inj tG.o he).symm⟩, (by show 3 ≤ sizeLine; decide), fun t nt => ?_⟩
        have nDt : D ≠ t := ne_of_none eD nt
        have npt : p2 ≠ t := ne_of_none f6 nt
        have nHt := s6.free nt
        have gn := tG.n
        have jl : j < G.length := by rw [zv_len] at hj; exact hj
        have big : 2 ^ i ≤ 4096 := Nat.le_trans (Nat.pow_le_pow_right (by decide) (show i ≤ 12 by omega)) (by decide)
        refine ⟨ts.map V.ref, (by rw [upd_ne nDt]; exact eD), ?_, same_new nD0 (same_new nHt s6), ?_, ts ++ [t], ?_, ?_, ?_⟩
        · rw [List.length_map]; exact Nat.lt_of_lt_of_le (show ts.length < 10000 by omega) (by decide)
        · rw [upd_ne ne5, upd_ne npt]; exact f6
        · rw [upd_same, List.map_append]; rfl
        · rw [List.length_append]; exact Nat.succ_le_succ tl
        · rw [List.take_add_one, he]
          refine paired_snoc (paired_imp (fun a b h => ?_) pr) ?_
          · rw [upd_ne (fun z => by rw [z, eD] at h; cases h), upd_ne (fun z => by rw [z, nt] at h; cases h)]; exact h
          · rw [upd_ne (Ne.symm nDt), upd_same]; rfl
      · rintro H6 ⟨s6, f6, ts, eD, tl, pr⟩
        rw [zv_len, List.take_length] at pr
        have pr0 : Paired (fun t e => upd H6 p2 (.dT (zv ιe G)) t = some (.tup (f3i e))) ts G := paired_imp (fun a b h => by
          rw [upd_ne (fun z => by rw [z, f6] at h; cases h)]; exact h) pr
        refine ⟨f6, D, ts, trK (upd H6 p2 (.dT (zv ιe G))), rfl, SqL.of (by rw [upd_ne (Ne.symm ne5)]; exact eD), srt_keys pr0, fun ys p5 py sy n5 => ?_⟩
        obtain ⟨G2, pg, pr2⟩ := paired_perm py pr0
        have n6 := (same_new np2 s6).free n5
        have sd := tp_sorted tG pg (srt_ends pr2 sy)
        have eG : G2 = eN bs := eN_is sd fun F => (ds_permF _ pg).trans (tot F)
        subst eG
        refine q _ p5 ys (same_new n6 (same_new np2 s6)) n6 upd_same (paired_imp (fun a b h => ?_) pr2)
        rw [upd_ne (fun z => by rw [z, n5] at h; cases h)]; exact h
    · have em : (!(zv ιw T).isEmpty) = true := by
        cases T with
        | nil => exact absurd rfl emp
        | cons _ _ => rfl
      rw [em]
      refine iteT ⟨fun σ' H' => ∃ m', m' < m ∧ WE bs H p2 m' σ' H', fun _ _ h => h, ?_⟩
      refine fun p3 n3 => ?_
      have s5 := same_upd (o := .dK []) n3
      have e3 : upd H4 p3 (.dK []) p3 = some (.dK []) := upd_same
      have np3 := s04.free n3
      have ne1 : p ≠ p3 := ne_of_none ep n3
      have ne2 : p2 ≠ p3 := ne_of_none e2 n3
      have s05 := s04.trans s5
      replace ep := s5 _ _ ep
      replace e2 := s5 _ _ e2
      clear s04 s5 n3
      generalize upd H4 p3 (.dK []) = H5 at s05 ep e2 e3
      refine ⟨p, .dK (zv ιw T), ep, trivial, fun od => ?_⟩
      refine ⟨.ref p, rfl, p, od, rfl, .inl ⟨zv ιw T, upd_same, ?_⟩⟩
      refine for_it walk_keys (fun j σ H6 => WT bs H p p2 p3 od T G i j σ H6) ⟨[], G, y4, y5, y6, y7, rfl, same_new np s05, upd_same, ?_, ?_, .nil, tG, fun F => ?_⟩ (fun j σ H6 _ ⟨_, _, _, _, _, _, _, _, f, _⟩ => f) ?_ ?_
      · rw [upd_ne (Ne.symm npp)]; exact e2
      · rw [upd_ne (Ne.symm ne1)]; exact e3
      · show 0 + _ = 0 + _
        rfl
      · rintro j v0 σ H6 H6b hj ⟨L, G', z4, z5, z6, z7, rfl, s6, f6, e26, e36, tL, tG', bal6⟩ ⟨rfl, k0, v, hk, rfl⟩
        obtain ⟨t, c, ht, rfl, rfl⟩ := zv_at hk
        obtain ⟨⟨l1, l2⟩, hc⟩ := tT.at ht
        refine ⟨.str (tx t), rfl, rfl, tx t, "o.", rfl, rfl, ?_⟩
        have get1 : ∀ H', H' p = some (.frz od (.dK (zv ιw T))) → DGet H' p (.str (tx t)) (some (.int c)) := fun H' e => .inl ⟨zv ιw T, ιw t, .inr ⟨od, e⟩, rfl, (val_in ιw_inj tT.o ht).symm⟩
        have hj' : j < T.length := by rw [zv_len] at hj; exact hj
        have big : 2 ^ i ≤ 4096 := Nat.le_trans (Nat.pow_le_pow_right (by decide) (show i ≤ 12 by omega)) (by decide)
        have jn : j < 4096 := Nat.lt_of_lt_of_le hj' (Nat.le_trans tT.n big)
        rcases find_of t with ⟨ef, a, b, rfl⟩ | ⟨u, v, ef, rfl⟩
        · rw [ef]
          refine ⟨.int (-1), rfl, -1, 0, rfl, rfl, _, rfl, iteT ?_⟩
          have cf : PySem.Txt.count (tx (List.replicate a false ++ List.replicate b true)) "." = ((a : Nat) : Int) := by rw [tx_f, count_tx, List.count_append, List.count_replicate, List.count_replicate]; simp
          have co : PySem.Txt.count (tx (List.replicate a false ++ List.replicate b true)) "o" = ((b : Nat) : Int) := by rw [tx_o, count_tx, List.count_append, List.count_replicate, List.count_replicate]; simp
          refine ⟨.str (tx _), rfl, rfl, tx _, ".", rfl, rfl, .str (tx _), rfl, rfl, tx _, "o", rfl, rfl, (by show 2 ≤ sizeLine; decide), ?_⟩
          rw [cf, co]
          refine fun pe ne => ?_
          have ab : a + b ≤ bs.length := by
            simp only [List.length_append, List.length_replicate] at l1
            omega
          have s7 := same_upd (o := .tup [V.int (a : Int), V.int (b : Int)]) ne
          have epe : upd H6b pe (.tup [V.int (a : Int), V.int (b : Int)]) pe = some (.tup ((ιe (a, b)).map kV)) := upd_same
          have s07 := s6.trans s7
          replace f6 := s7 _ _ f6
          replace e26 := s7 _ _ e26
          replace e36 := s7 _ _ e36
          clear s6 s7 ne
          generalize upd H6b pe (.tup [V.int (a : Int), V.int (b : Int)]) = H7 at epe s07 f6 e26 e36
          refine ⟨.ref p2, rfl, p2, rfl, .inr ⟨_, .inl e26⟩, .ref pe, rfl, _, DGet.t (k := ιe (a, b)) e26 epe, .ref p, rfl, .str (tx _), rfl, p, .int c, rfl, get1 _ f6, gz (a, b) G', c, val_zv ιe_inj (a, b) G', rfl, ?_⟩
          have gl : (zv ιe G').length < sizeLine := by
            rw [zv_len]
            have := tG'.n
            exact Nat.lt_of_lt_of_le (show G'.length < 10000 by omega) (by decide)
          refine ⟨.ref p2, rfl, .ref pe, rfl, p2, _, rfl, DPut.t e26 epe gl, L, pz (a, b) c G', _, _, _, _, rfl, same_new np2 s07, ?_, ?_, ?_, ?_, ?_, fun F => dsF_end ht G' (bal6 F)⟩
          · rw [upd_ne npp]; exact f6
          · rw [upd_same, put_zv ιe_inj (a, b) c tG'.o]
          · rw [upd_ne (Ne.symm ne2)]; exact e36
          · exact tL.up (by omega)
          · exact tG'.put ab hc
        · rw [ef]
          refine ⟨.int (u.length : Int), rfl, (u.length : Int), 0, rfl, rfl, _, rfl, iteF ?_⟩
          have tl : (tx (u ++ true :: false :: v)).length ≤ sizeLine := tx_fit (by omega)
          have c1 : cutS (tx (u ++ true :: false :: v)) none (some ((u.length : Int) + 1)) = tx (u ++ [true]) := by
            rw [show (u.length : Int) + 1 = ((u.length + 1 : Nat) : Int) from rfl, cut_to, List.take_append]
            rw [List.take_of_length_le (Nat.le_succ _)]; simp
          have c2 : cutS (tx (u ++ true :: false :: v)) (some ((u.length : Int) + 2)) none = tx v := by
            rw [show (u.length : Int) + 2 = ((u.length + 2 : Nat) : Int) from rfl, cut_from, List.drop_append]
            rw [List.drop_eq_nil_of_le (show u.length ≤ u.length + 2 by omega)]; simp
          have c3 : cutS (tx (u ++ true :: false :: v)) none (some (u.length : Int)) = tx u := by
            rw [cut_to, List.take_append]
            simp
          have c4 : cutS (tx (u ++ true :: false :: v)) (some ((u.length : Int) + 1)) none = tx (false :: v) := by
            rw [show (u.length : Int) + 1 = ((u.length + 1 : Nat) : Int) from rfl, cut_from, List.drop_append]
            rw [List.drop_eq_nil_of_le (Nat.le_succ _)]; simp
          have l3 : u.length + v.length + 2 + i = bs.length := by
            simp only [List.length_append, List.length_cons] at l1
            omega
          refine ⟨.str (tx _), rfl, .int (u.length : Int), rfl, (u.length : Int), 1, rfl, rfl, _, rfl, tx _, rfl, tl, ?_⟩
          refine ⟨.str (tx _), rfl, .int (u.length : Int), rfl, (u.length : Int), 2, rfl, rfl, _, rfl, tx _, rfl, tl, ?_⟩
          rw [c1, c2]
          refine ⟨tx (u ++ [true]), tx v, rfl, rfl, (by rw [tx_len, tx_len, List.length_append]; exact Nat.le_trans (show _ ≤ 100 by simp; omega) (by decide)), ?_⟩
          refine ⟨.str (tx _), rfl, .int (u.length : Int), rfl, _, rfl, tx _, rfl, tl, ?_⟩
          refine ⟨.str (tx _), rfl, .int (u.length : Int), rfl, (u.length : Int), 1, rfl, rfl, _, rfl, tx _, rfl, tl, ?_⟩
          rw [c3, c4]
          refine ⟨tx u, tx (false :: v), rfl, rfl, (by rw [tx_len, tx_len]; exact Nat.le_trans (show _ ≤ 100 by simp; omega) (by decide)), ?_⟩
          rw [tx_app, tx_app, show u ++ [true] ++ v = u ++ true :: v by simp]
          refine ⟨(by show 2 ≤ sizeLine; decide), fun pl nl => ?_⟩
          have s7 := same_upd (o := .lst [V.str (tx (u ++ true :: v)), V.str (tx (u ++ false :: v))]) nl
          have el : upd H6b pl (.lst [V.str (tx (u ++ true :: v)), V.str (tx (u ++ false :: v))]) pl = some (.lst ([u ++ true :: v, u ++ false :: v].map fun w => V.str (tx w))) := upd_same
          have nl3 : pl ≠ p3 := Ne.symm (ne_of_none e36 nl)
          have s07 := s6.trans s7
          replace f6 := s7 _ _ f6
          replace e26 := s7 _ _ e26
          replace e36 := s7 _ _ e36
          clear s6 s7 nl c1 c2 c3 c4
          generalize upd H6b pl (.lst [V.str (tx (u ++ true :: v)), V.str (tx (u ++ false :: v))]) = H7 at el s07 f6 e26 e36
          refine ⟨pl, rfl, ⟨_, SqL.of el⟩, ?_⟩
          refine for_list (K := K) (a := pl) (xs := [u ++ true :: v, u ++ false :: v].map fun w => V.str (tx w)) (fun g σ H8 => ∃ y7 : Option V, σ = [some (.str (tx bs)), some (.ref p), some (.ref p2), some (.ref p3), some (.str (tx (u ++ true :: false :: v))), some (.int (u.length : Int)), z6, y7] ∧ Same H H8 ∧
            H8 pl = some (.lst ([u ++ true :: v, u ++ false :: v].map fun w => V.str (tx w))) ∧ H8 p = some (.frz od (.dK (zv ιw T))) ∧ H8 p2 = some (.dT (zv ιe G')) ∧ H8 p3 = some (.dK (zv ιw (([u ++ true :: v, u ++ false :: v].take g).foldl (fun l w => pz w c l) L))) ∧
            Tp (fun v => v.length + (i + 1) = bs.length ∧ 1 ≤ v.length) (2 * j + g) (([u ++ true :: v, u ++ false :: v].take g).foldl (fun l w => pz w c l) L))
            ⟨_, rfl, s07, el, f6, e26, e36, tL⟩ (fun g σ H8 _ ⟨_, _, _, e, _⟩ => SqL.of e) ?_ ?_
          · rintro g v1 σ H8 hv ⟨y7, rfl, s8, el8, f8, e28, e38, t8⟩
            rw [List.getElem?_map] at hv
            obtain ⟨w1, hw, rfl⟩ := Option.map_eq_some_iff.mp hv
            have wl : w1.length + (i + 1) = bs.length ∧ 1 ≤ w1.length := by
              rcases List.mem_cons.mp (List.mem_of_getElem? hw) with rfl | hm'
              · simp; omega
              · obtain rfl := List.mem_singleton.mp hm'
                simp; omega
            have g2 : g < 2 := (List.getElem?_eq_some_iff.mp hw).1
            have nx : ([u ++ true :: v, u ++ false :: v].take (g + 1)).foldl (fun l w => pz w c l) L = pz w1 c (([u ++ true :: v, u ++ false :: v].take g).foldl (fun l w => pz w c l) L) := by
              rw [List.take_add_one, hw, List.foldl_append]; rfl
            rw [nx]
            generalize ([u ++ true :: v, u ++ false :: v].take g).foldl (fun l w => pz w c l) L = L8 at e38 t8
            have gl : (zv ιw L8).length < sizeLine := by
              rw [zv_len]
              have := t8.n
              exact Nat.lt_of_lt_of_le (show L8.length < 10000 by omega) (by decide)
            refine ⟨.ref p3, rfl, p3, rfl, .inl ⟨_, .inl e38⟩, .str (tx w1), rfl, _, DGet.k (k := ιw w1) e38, .ref p, rfl, .str (tx _), rfl, p, .int c, rfl, get1 _ f8, gz w1 L8, c, val_zv ιw_inj w1 L8, rfl, ?_⟩
            refine ⟨.ref p3, rfl, .str (tx w1), rfl, p3, _, rfl, DPut.k (k := ιw w1) e38 gl, _, rfl, same_new np3 s8, ?_, ?_, ?_, ?_, t8.put wl hc⟩
            · rw [upd_ne nl3]; exact el8
            · rw [upd_ne ne1]; exact f8
            · rw [upd_ne ne2]; exact e28
            · rw [upd_same, put_zv ιw_inj w1 c t8.o]
          · rintro σ H8 ⟨y7, rfl, s8, el8, f8, e28, e38, t8⟩
            exact ⟨_, G', _, _, _, _, rfl, s8, f8, e28, e38, t8, tG'.up (by omega), fun F => dsF_two ht (bal6 F)⟩
      · rintro σ H6 ⟨L, G', z4, z5, z6, z7, rfl, s6, f6, e26, e36, tL, tG', bal6⟩
        have hi : i ≤ 10 := by
          cases T with
          | nil => exact absurd rfl emp
          | cons z T =>
            have := (tT.a z (List.mem_cons_self ..)).1
            omega
        have tn := tT.n
        rw [zv_len] at tL tG' bal6
        refine ⟨f6, .ref p3, rfl, m - 1, by omega, p3, L, G', i + 1, _, _, _, _, _, rfl, by omega, same_new np s6, np3, Ne.symm ne2, ?_, ?_, tL.up (by rw [Nat.pow_succ]; omega), tG'.up (by rw [Nat.pow_succ]; omega), fun F => ?_⟩
        · rw [upd_ne (Ne.symm ne1)]; exact e36
        · rw [upd_ne (Ne.symm npp)]; exact e26
        · rw [bal6 F, List.take_length]; exact bal F
end
end Hop

set_option Elab.async false
set_option linter.all false
set_option maxRecDepth 100000
set_option exponentiation.threshold 200000
namespace Hop
open PySem L2 HopR HopW HopT
/-! ### a table of lists, line by line -/
def row1 (f : Nat) (M : Nat → Nat → Int) (i : Nat) : List V := (List.range (f + 1)).map fun j => V.int (M i j)
theorem row1_len (f : Nat) (M : Nat → Nat → Int) (i : Nat) : (row1 f M i).length = f + 1 := by
  unfold row1
  rw [List.length_map, List.length_range]
theorem row1_at {f : Nat} {M : Nat → Nat → Int} {i j : Nat} (h : j ≤ f) : atI (row1 f M i) (j : Int) = some (.int (M i j)) := atI_nat (by
  unfold row1
  rw [List.getElem?_map, List.getElem?_range (by omega)]
  rfl)
theorem row1_set {f : Nat} {M : Nat → Nat → Int} {i j : Nat} {v : Int} (h : j ≤ f) : (row1 f M i).set j (V.int (M i j + v)) = row1 f (addc M i j v) i := by
  unfold row1
  refine List.ext_getElem (by simp) fun k h1 h2 => ?_
  simp only [List.getElem_set, List.getElem_map, List.getElem_range, addc]
  by_cases e : j = k
  · subst e
    simp
  · have e' : ¬ k = j := fun z => e z.symm
    simp [e, e']
theorem row1_off {f : Nat} {M : Nat → Nat → Int} {i i0 j : Nat} {v : Int} (h : i ≠ i0) : row1 f (addc M i0 j v) i = row1 f M i := by
  unfold row1
  refine List.map_congr_left fun k _ => ?_
  unfold addc
  rw [if_neg (fun z => h z.1)]
theorem row1_zero (f : Nat) (i : Nat) : row1 f (fun _ _ => 0) i = List.replicate (f + 1) (V.int 0) := by
  unfold row1
  rw [List.map_const', List.length_range]
def TbF (H : Hp) (rows : List Addr) (f : Nat) (M : Nat → Nat → Int) : Prop := ∀ i r, rows[i]? = some r → H r = some (.lst (row1 f M i))
theorem TbF.same {H H' : Hp} {rows : List Addr} {f : Nat} {M : Nat → Nat → Int} (s : Same H H') (h : TbF H rows f M) : TbF H' rows f M := fun i r e => s _ _ (h i r e)
theorem nd_inj {l : List Addr} (nd : l.Nodup) {i j : Nat} {a : Addr} (h1 : l[i]? = some a) (h2 : l[j]? = some a) : i = j := by
  obtain ⟨a1, b1⟩ := List.getElem?_eq_some_iff.mp h1
  obtain ⟨a2, b2⟩ := List.getElem?_eq_some_iff.mp h2
  exact (List.getElem_inj nd).mp (b1.trans b2.symm)
theorem TbF.set {H : Hp} {rows : List Addr} {f : Nat} {M : Nat → Nat → Int} (h : TbF H rows f M) (nd : rows.Nodup) {i j : Nat} {r : Addr} (hr : rows[i]? = some r) (hj : j ≤ f) (v : Int) : TbF (upd H r (.lst ((row1 f M i).set j (V.int (M i j + v))))) rows f (addc M i j v) := fun i' r' e => by
  by_cases er : r' = r
  · subst er
    have := nd_inj nd e hr
    subst this
    rw [upd_same, row1_set hj]
  · rw [upd_ne er, h i' r' e, row1_off (fun z => er (by
      subst z
      exact Option.some.inj (e.symm.trans hr)))]
theorem TbF.other {H : Hp} {rows : List Addr} {f : Nat} {M : Nat → Nat → Int} (h : TbF H rows f M) {p : Addr} {o : HO} (hp : ∀ r ∈ rows, r ≠ p) : TbF (upd H p o) rows f M := fun i r e => by
  rw [upd_ne (hp r (List.mem_of_getElem? e))]
  exact h i r e
theorem ixN_at {n j : Nat} (h : j < n) : ixN n (j : Int) = some j := by
  unfold ixN
  rw [if_pos (by omega), if_pos (by omega)]
  simp
section
variable {P : Program} {w : World} {K : PySem.W.Frag} {mg : Str → Option Value} {base : Heap} {d : Addr} {es : Array DictEntry} {n : Nat} {HE NN NW NP : Addr}
/-! ### _law_great -/
/-- what was found: each end once, told above nought times; those of lines from L on -/
structure Fd (B f L c : Nat) (rest : Nat × Nat → Prop) (G : List En) : Prop where
  o : (G.map (·.1)).Nodup
  p : ∀ e ∈ G, 0 < e.2 ∧ e.1.1 ≤ f ∧ e.1.2 ≤ B ∧ rest e.1
  n : G.length ≤ c
def spGreat : Sp := fun vs H Q _ => ∃ B f : Nat, vs = [wv B, wv f] ∧ B ≤ 12 ∧ f ≤ 12 ∧ ∀ H' p (G : List En), Same H H' → H p = none → H' p = some (.dT (zv ιe G)) → Fd B f 0 1000 (fun _ => True) G → (∀ F : Nat → Nat → Rat, ds (φF F) G = Wb F B f) → Q (.ref p) H'
abbrev nLG : List Str := ["_law_beads", "_law_frees", "_law_k", "_law_line", "_law_found", "_law_some", "_law_more", "_law_ways"]
theorem scLG : FnScope nLG ["_law_beads", "_law_frees"] (defScope sLGreat) := ⟨rfl, rfl, rfl, by decide +kernel, rfl, by decide +kernel, by decide +kernel⟩
/-- what stays in the heap through both loops -/
structure Lay (H H3 : Hp) (pl p2 : Addr) (rows : List Addr) (B f : Nat) (M : Nat → Nat → Int) (G : List En) : Prop where
  s : Same H H3
  l : H3 pl = some (.lst (rows.map V.ref))
  t : TbF H3 rows f M
  d : H3 p2 = some (.dT (zv ιe G))
  nn : ∀ i j, 0 ≤ M i j
set_option maxHeartbeats 8000000 in
theorem ok_lgreat {f0 : Addr} {fd : FuncData} {k : Nat} (F : Fun K "_law_great" "_law_great" sLGreat f0 fd) (T : Txt K w mg d es n) : FnOk P w K mg base CX0 (k + 1) f0 fd ["_law_beads", "_law_frees"] spGreat := by
  refine F.ok scLG (fun vs H Q E h => ?_) (fun cdv A outer s H vs Q E hr h => ?_)
  · obtain ⟨B, f, rfl, _⟩ := h
    rfl
  · obtain ⟨B, f, rfl, hB, hf, q⟩ := h
    have nd := scLG.nd
    have hu := hu_of hr
    refine ⟨_, pss_cons (ps_setLc (i := 3) (own := [("_law_k", 2)]) (g := gName 2) (tt := tYes) (by rfl) nd rfl rfl (sw_true rfl rfl rfl (by decide +kernel)) (pi_range1 (by rfl) T.range (pa_cons (pe_op op_add (pv 0) pe_int) pa_nil))
        (blkOk_by (own := [("_law_k", 2)]) (N := nLG) (sc := defScope sLGreat) (by decide +kernel)) (fun _ _ _ _ _ => pg_name (i := 2) nd rfl (.inl rfl)) (fun _ _ _ _ _ => pts_nil) (fun _ _ _ _ _ => pe_op op_rep (pe_lst (pa_cons pe_int pa_nil)) (pe_op op_add (pv 1) pe_int)))
      (pss_cons (ps_asg pe_int (pg_sub (pe_ix ix_list (pv 3) (pv 0) (fun _ _ => rfl)) (pv 1) set_list))
      (pss_cons (ps_set (i := 4) nd rfl (.inl rfl) pe_dnewT)
      (pss_cons (ps_for PassesOwn.never rfl (pi_range3 (by rfl) T.range (pa_cons (pv 0) (pa_cons (pe_un un_neg pe_int) (pa_cons (pe_un un_neg pe_int) pa_nil)))) (pg_name (i := 5) nd rfl (.inl rfl))
        (pss_one (ps_for PassesOwn.never rfl (pi_range3 (by rfl) T.range (pa_cons (pv 1) (pa_cons (pe_un un_neg pe_int) (pa_cons (pe_un un_neg pe_int) pa_nil)))) (pg_name (i := 6) nd rfl (.inl rfl))
          (pss_cons (ps_set (i := 7) nd rfl (.inl rfl) (pe_ix ix_list (pe_ix ix_list (pv 3) (pv 5) (fun _ _ => rfl)) (pv 6) (fun _ _ => rfl)))
          (pss_one (ps_if (PW.pt (pw_and (pt_cmpR op_gt (pv 5) pe_int (nomark _)) (pw_and1 (pt_cmpR op_gt (pv 6) pe_int (nomark _)))))
            (pss_cons (ps_asg (pe_op op_add (pe_ix ix_list (pe_ix ix_list (pv 3) (pv 5) (fun _ _ => rfl)) (pe_op op_sub (pv 6) pe_int) (fun _ _ => rfl)) (pv 7)) (pg_sub (pe_ix ix_list (pv 3) (pv 5) (fun _ _ => rfl)) (pe_op op_sub (pv 6) pe_int) set_list))
            (pss_one (ps_asg (pe_op op_add (pe_ix ix_list (pe_ix ix_list (pv 3) (pe_op op_sub (pv 5) pe_int) (fun _ _ => rfl)) (pv 6) (fun _ _ => rfl)) (pv 7)) (pg_sub (pe_ix ix_list (pv 3) (pe_op op_sub (pv 5) pe_int) (fun _ _ => rfl)) (pv 6) set_list))))
            (pss_one (ps_if (pt_cmpR op_gt (pv 7) pe_int (nomark _))
              (pss_one (ps_dput hu (pv 4) (pe_tup (pa_cons (pv 6) (pa_cons (pv 5) pa_nil))) (pv 7) rfl)) pss_nil))))))))
      (pss_one (ps_ret (pv 4)))))), ?_⟩
    refine ⟨wv B, rfl, (B : Int), 1, rfl, rfl, (B : Int) + 1, rfl, by omega, by omega, fun D hD => ?_⟩
    have eB : ((B : Int) + 1).toNat = B + 1 := by omega
    rw [eB]
    refine lc_range (lo := 0) (n := B + 1) (fun i H3 => Same H H3 ∧ ∃ rows : List Addr, H3 D = some (.lst (rows.map V.ref)) ∧ rows.length = i ∧ rows.Nodup ∧ ∀ r ∈ rows, r ≠ D ∧ H r = none ∧ H3 r = some (.lst (row1 f (fun _ _ => 0) 0))) ⟨same_upd hD, [], upd_same, rfl, List.nodup_nil, fun r h => absurd h (by simp)⟩ ?_ ?_
    · rintro i H3 hi ⟨s3, rows, eD, rl, rn, rr⟩
      refine ⟨rfl, (by show 1 ≤ sizeLine; decide), fun l1 n1 => ?_⟩
      refine ⟨wv f, rfl, (f : Int), 1, rfl, rfl, l1, (f : Int) + 1, [.int 0], rfl, rfl, upd_same, by omega, by omega, ?_, fun p3 n3 => ?_⟩
      · rw [show ((f : Int) + 1).toNat = f + 1 by omega]
        exact Nat.le_trans (show 1 * (f + 1) ≤ 100 by omega) (by decide)
      · rw [show ((f : Int) + 1).toNat = f + 1 by omega, flat_rep, ← row1_zero f 0]
        have st := same_upd (o := .lst [.int 0]) n1
        have n3' : H3 p3 = none := st.free n3
        have nD : D ≠ p3 := ne_of_none (st _ _ eD) n3
        have sp := st.trans (same_upd (o := .lst (row1 f (fun _ _ => 0) 0)) n3)
        refine ⟨rows.map V.ref, sp _ _ eD, ?_, same_new hD (s3.trans sp), rows ++ [p3], ?_, ?_, ?_, ?_⟩
        · rw [List.length_map, rl]; exact Nat.lt_of_lt_of_le (show i < 100 by omega) (by decide)
        · rw [upd_same, List.map_append]; rfl
        · rw [List.length_append, rl]; rfl
        · refine List.nodup_append.mpr ⟨rn, List.nodup_cons.mpr ⟨by simp, List.nodup_nil⟩, fun a ha b hb e => ?_⟩
          obtain rfl := List.mem_singleton.mp hb
          subst e
          have := (rr a ha).2.2
          rw [n3'] at this
          cases this
        · intro r hr
          rcases List.mem_append.mp hr with hr | hr
          · obtain ⟨a1, a2, a3⟩ := rr r hr
            exact ⟨a1, a2, by rw [upd_ne a1]; exact sp _ _ a3⟩
          · obtain rfl := List.mem_singleton.mp hr
            exact ⟨Ne.symm nD, s3.free n3', by rw [upd_ne (Ne.symm nD), upd_same]⟩
    · rintro H3 ⟨s3, rows, eD, rl, rn, rr⟩
      obtain ⟨r0, hr0⟩ : ∃ r, rows[B]? = some r := ⟨_, List.getElem?_eq_getElem (by omega)⟩
      have atR : ∀ {i : Nat} {r : Addr}, rows[i]? = some r → atI (rows.map V.ref) (i : Int) = some (.ref r) := fun {i r} e => atI_nat (by rw [List.getElem?_map, e]; rfl)
      have hr0' := rr r0 (List.mem_of_getElem? hr0)
      refine ⟨.ref D, rfl, wv B, rfl, D, _, _, .ref r0, rfl, rfl, SqL.of eD, atR hr0, wv f, rfl, r0, _, (f : Int), f, rfl, rfl, hr0'.2.2, (by rw [row1_len]; exact ixN_at (by omega)), ?_⟩
      have t0 : TbF H3 rows f (fun _ _ => 0) := fun i r e => (rr r (List.mem_of_getElem? e)).2.2
      have t1 : TbF (upd H3 r0 (.lst ((row1 f (fun _ _ => 0) 0).set f (V.int 1)))) rows f (addc (fun _ _ => 0) B f 1) := t0.set rn hr0 (Nat.le_refl f) 1
      have s4 : Same H (upd H3 r0 (.lst ((row1 f (fun _ _ => 0) 0).set f (V.int 1)))) := same_new hr0'.2.1 s3
      have eD4 : upd H3 r0 (.lst ((row1 f (fun _ _ => 0) 0).set f (V.int 1))) D = some (.lst (rows.map V.ref)) := by rw [upd_ne (Ne.symm hr0'.1)]; exact eD
      generalize upd H3 r0 (.lst ((row1 f (fun _ _ => 0) 0).set f (V.int 1))) = H4 at t1 s4 eD4
      refine fun p2 n2 => ?_
      have s5 := same_upd (o := .dT []) n2
      have np2 := s4.free n2
      have ne2 : D ≠ p2 := ne_of_none eD4 n2
      have nr2 : ∀ r ∈ rows, r ≠ p2 := fun r hr z => by
        obtain ⟨i, hi, e⟩ := List.getElem_of_mem hr
        have := t1 i r (by rw [List.getElem?_eq_getElem hi, e])
        rw [z, n2] at this
        cases this
      have L0 : Lay H (upd H4 p2 (.dT [])) D p2 rows B f (addc (fun _ _ => 0) B f 1) [] := ⟨s4.trans s5, s5 _ _ eD4, t1.same s5, upd_same, addc_nn (fun _ _ => Int.le_refl _) (by decide)⟩
      clear s5 t1 s4 eD4 t0 eD s3
      generalize upd H4 p2 (.dT []) = H5 at L0
      have en : ((B : Int) - -1).toNat = B + 1 := by omega
      have hrg := RgC.neg (i := (B : Int)) (j := -1) (by omega) (by omega) (by decide) (by decide)
      rw [en] at hrg
      have en2 : ((f : Int) - -1).toNat = f + 1 := by omega
      have hrg2 := RgC.neg (i := (f : Int)) (j := -1) (by omega) (by omega) (by decide) (by decide)
      rw [en2] at hrg2
      refine ⟨wv B, rfl, 1, rfl, 1, rfl, (B : Int), -1, -1, B + 1, rfl, hrg, ?_⟩
      refine for_rangeC (lo := (B : Int)) (c := -1) (n := B + 1) (fun i σ H6 => ∃ (M : Nat → Nat → Int) (G : List En) (y2 y5 y6 y7 : Option V), σ = [some (wv B), some (wv f), y2, some (.ref D), some (.ref p2), y5, y6, y7] ∧ Lay H H6 D p2 rows B f M G ∧ Fd B f 0 (13 * i) (fun e => B + 1 - i ≤ e.2) G ∧ ∀ F : Nat → Nat → Rat, sR (fun i' => rw1 F M i' (f + 1)) (B + 1 - i) + ds (φF F) G = Wb F B f)
        ⟨_, [], _, _, _, _, rfl, L0, ⟨List.nodup_nil, fun e h => absurd h (by simp), Nat.le_refl _⟩, fun F => ?_⟩ ?_ ?_
      · have := XM_start F B f
        show sR (fun i' => rw1 F (addc (fun _ _ => 0) B f 1) i' (f + 1)) B + rw1 F (addc (fun _ _ => 0) B f 1) B (f + 1) + 0 = Wb F B f
        unfold XM at this
        rw [this]
        grind
      · rintro i σ H6 hi ⟨M, G, y2, y5, y6, y7, rfl, L, hG, bal⟩
        obtain ⟨sN, es, hsB⟩ : ∃ sN : Nat, (B : Int) + (i : Int) * -1 = (sN : Int) ∧ sN + i = B := ⟨B - i, by omega, by omega⟩
        rw [es]
        rw [show B + 1 - i = sN + 1 by omega] at bal hG
        obtain ⟨rs, hrs⟩ : ∃ r, rows[sN]? = some r := ⟨_, List.getElem?_eq_getElem (by omega)⟩
        have hrs' := rr rs (List.mem_of_getElem? hrs)
        refine ⟨wv f, rfl, 1, rfl, 1, rfl, (f : Int), -1, -1, f + 1, rfl, hrg2, ?_⟩
        refine for_rangeC (lo := (f : Int)) (c := -1) (n := f + 1) (fun j σ H7 => ∃ (M : Nat → Nat → Int) (G : List En) (y6 y7 : Option V), σ = [some (wv B), some (wv f), y2, some (.ref D), some (.ref p2), some (wv sN), y6, y7] ∧ Lay H H7 D p2 rows B f M G ∧ Fd B f 0 (13 * i + j) (fun e => sN < e.2 ∨ sN = e.2 ∧ f + 1 - j ≤ e.1) G ∧ ∀ F : Nat → Nat → Rat, XM F (f + 1) M sN (f + 1 - j) + ds (φF F) G = Wb F B f)
          ⟨M, G, _, _, rfl, L, ⟨hG.o, fun e he => ⟨(hG.p e he).1, (hG.p e he).2.1, (hG.p e he).2.2.1, .inl (hG.p e he).2.2.2⟩, hG.n⟩, bal⟩ ?_ ?_
        · clear bal hG L M G
          rintro j σ H7 hj ⟨M, G, y6, y7, rfl, L, hG, bal⟩
          obtain ⟨m, em, hmf⟩ : ∃ m : Nat, (f : Int) + (j : Int) * -1 = (m : Int) ∧ m + j = f := ⟨f - j, by omega, by omega⟩
          rw [em]
          rw [show f + 1 - j = m + 1 by omega] at bal hG
          rw [show f + 1 - (j + 1) = m by omega]
          have erow := L.t sN rs hrs
          refine ⟨.ref D, rfl, wv sN, rfl, D, _, _, .ref rs, rfl, rfl, SqL.of L.l, atR hrs, wv m, rfl, rs, _, _, .int (M sN m), rfl, rfl, SqL.of erow, row1_at (by omega), ?_⟩
          refine ⟨wv sN, rfl, (sN : Int), 0, rfl, rfl, _, rfl, ?_⟩
          by_cases h1 : 0 < sN
          case neg =>
            rw [decide_eq_false (show ¬ ((sN : Int) > 0) by omega)]
            refine iteF ?_
            have h0 : sN = 0 ∨ m = 0 := .inl (by omega)
            refine ⟨.int (M sN m), rfl, M sN m, 0, rfl, rfl, _, rfl, ?_⟩
            have hw : ∀ F : Nat → Nat → Rat, Wb F sN m = F m sN := fun F => by
              rcases h0 with z | z
              · rw [z]; exact Wb_none F m
              · rw [z]; exact Wb_all F sN
            by_cases h3 : 0 < M sN m
            · rw [decide_eq_true (show M sN m > 0 from h3)]
              refine iteT ⟨.int (M sN m), rfl, .ref p2, rfl, wv m, rfl, wv sN, rfl, (by show 2 ≤ sizeLine; decide), fun pe ne => ?_⟩
              have sp := same_upd (o := .tup [wv m, wv sN]) ne
              have epe : upd H7 pe (.tup [wv m, wv sN]) pe = some (.tup ((ιe (m, sN)).map kV)) := upd_same
              have d8 := sp _ _ L.d
              have kn : (m, sN) ∉ G.map (·.1) := fun mm => by
                obtain ⟨e, he, ee⟩ := List.mem_map.mp mm
                have h := (hG.p e he).2.2.2
                rw [ee] at h
                have h : sN < sN ∨ sN = sN ∧ m + 1 ≤ m := h
                omega
              have gl : (zv ιe G).length < sizeLine := by
                rw [zv_len]
                have := hG.n
                exact Nat.lt_of_lt_of_le (show G.length < 10000 by omega) (by decide)
              refine ⟨p2, _, rfl, DPut.t d8 epe gl, M, G ++ [((m, sN), M sN m)], _, _, rfl, ⟨same_new np2 (L.s.trans sp), ?_, ?_, ?_, L.nn⟩, ⟨?_, ?_, ?_⟩, fun F => ?_⟩
              · rw [upd_ne ne2]; exact sp _ _ L.l
              · exact (L.t.same sp).other nr2
              · rw [upd_same, putK_new _ (no_key ιe_inj kn).1]
                show _ = some (HO.dT ((G ++ [((m, sN), M sN m)]).map fun p => (ιe p.1, V.int p.2)))
                rw [List.map_append]
                rfl
              · rw [List.map_append]
                refine List.nodup_append.mpr ⟨hG.o, List.nodup_cons.mpr ⟨by simp, List.nodup_nil⟩, fun a ha b hb e => ?_⟩
                have hb : b ∈ [(m, sN)] := hb
                obtain rfl := List.mem_singleton.mp hb
                subst e
                exact kn ha
              · intro e he
                rcases List.mem_append.mp he with he | he
                · exact ⟨(hG.p e he).1, (hG.p e he).2.1, (hG.p e he).2.2.1, (by have := (hG.p e he).2.2.2; omega)⟩
                · obtain rfl := List.mem_singleton.mp he
                  exact ⟨h3, (by show m ≤ f; omega), (by show sN ≤ B; omega), .inr ⟨rfl, Nat.le_refl _⟩⟩
              · rw [List.length_append]
                show G.length + 1 ≤ _
                have := hG.n
                omega
              · have b := bal F
                rw [XM_less, hw] at b
                rw [ds_app]
                show XM F (f + 1) M sN m + (ds (φF F) G + ((M sN m : Rat) * F m sN + 0)) = _
                grind
            · rw [decide_eq_false (show ¬ (M sN m > 0) from h3)]
              have hz : M sN m = 0 := by
                have := L.nn sN m
                omega
              refine iteF ⟨M, G, _, _, rfl, L, ⟨hG.o, fun e he => ⟨(hG.p e he).1, (hG.p e he).2.1, (hG.p e he).2.2.1, (by have := (hG.p e he).2.2.2; omega)⟩, Nat.le_succ_of_le hG.n⟩, fun F => ?_⟩
              have b := bal F
              rw [XM_less, hz] at b
              have z0 : ((0 : Int) : Rat) = 0 := rfl
              grind
          case pos =>
            rw [decide_eq_true (show ((sN : Int) > 0) by omega)]
            refine iteT ⟨wv m, rfl, (m : Int), 0, rfl, rfl, _, rfl, ?_⟩
            by_cases h2 : 0 < m
            case neg =>
              rw [decide_eq_false (show ¬ ((m : Int) > 0) by omega)]
              refine iteF ?_
              have h0 : sN = 0 ∨ m = 0 := .inr (by omega)
              refine ⟨.int (M sN m), rfl, M sN m, 0, rfl, rfl, _, rfl, ?_⟩
              have hw : ∀ F : Nat → Nat → Rat, Wb F sN m = F m sN := fun F => by
                rcases h0 with z | z
                · rw [z]; exact Wb_none F m
                · rw [z]; exact Wb_all F sN
              by_cases h3 : 0 < M sN m
              · rw [decide_eq_true (show M sN m > 0 from h3)]
                refine iteT ⟨.int (M sN m), rfl, .ref p2, rfl, wv m, rfl, wv sN, rfl, (by show 2 ≤ sizeLine; decide), fun pe ne => ?_⟩
                have sp := same_upd (o := .tup [wv m, wv sN]) ne
                have epe : upd H7 pe (.tup [wv m, wv sN]) pe = some (.tup ((ιe (m, sN)).map kV)) := upd_same
                have d8 := sp _ _ L.d
                have kn : (m, sN) ∉ G.map (·.1) := fun mm => by
                  obtain ⟨e, he, ee⟩ := List.mem_map.mp mm
                  have h := (hG.p e he).2.2.2
                  rw [ee] at h
                  have h : sN < sN ∨ sN = sN ∧ m + 1 ≤ m := h
                  omega
                have gl : (zv ιe G).length < sizeLine := by
                  rw [zv_len]
                  have := hG.n
                  exact Nat.lt_of_lt_of_le (show G.length < 10000 by omega) (by decide)
                refine ⟨p2, _, rfl, DPut.t d8 epe gl, M, G ++ [((m, sN), M sN m)], _, _, rfl, ⟨same_new np2 (L.s.trans sp), ?_, ?_, ?_, L.nn⟩, ⟨?_, ?_, ?_⟩, fun F => ?_⟩
                · rw [upd_ne ne2]; exact sp _ _ L.l
                · exact (L.t.same sp).other nr2
                · rw [upd_same, putK_new _ (no_key ιe_inj kn).1]
                  show _ = some (HO.dT ((G ++ [((m, sN), M sN m)]).map fun p => (ιe p.1, V.int p.2)))
                  rw [List.map_append]
                  rfl
                · rw [List.map_append]
                  refine List.nodup_append.mpr ⟨hG.o, List.nodup_cons.mpr ⟨by simp, List.nodup_nil⟩, fun a ha b hb e => ?_⟩
                  have hb : b ∈ [(m, sN)] := hb
                  obtain rfl := List.mem_singleton.mp hb
                  subst e
                  exact kn ha
                · intro e he
                  rcases List.mem_append.mp he with he | he
                  · exact ⟨(hG.p e he).1, (hG.p e he).2.1, (hG.p e he).2.2.1, (by have := (hG.p e he).2.2.2; omega)⟩
                  · obtain rfl := List.mem_singleton.mp he
                    exact ⟨h3, (by show m ≤ f; omega), (by show sN ≤ B; omega), .inr ⟨rfl, Nat.le_refl _⟩⟩
                · rw [List.length_append]
                  show G.length + 1 ≤ _
                  have := hG.n
                  omega
                · have b := bal F
                  rw [XM_less, hw] at b
                  rw [ds_app]
                  show XM F (f + 1) M sN m + (ds (φF F) G + ((M sN m : Rat) * F m sN + 0)) = _
                  grind
              · rw [decide_eq_false (show ¬ (M sN m > 0) from h3)]
                have hz : M sN m = 0 := by
                  have := L.nn sN m
                  omega
                refine iteF ⟨M, G, _, _, rfl, L, ⟨hG.o, fun e he => ⟨(hG.p e he).1, (hG.p e he).2.1, (hG.p e he).2.2.1, (by have := (hG.p e he).2.2.2; omega)⟩, Nat.le_succ_of_le hG.n⟩, fun F => ?_⟩
                have b := bal F
                rw [XM_less, hz] at b
                have z0 : ((0 : Int) : Rat) = 0 := rfl
                grind
            case pos =>
              rw [decide_eq_true (show ((m : Int) > 0) by omega)]
              refine iteT ?_
              obtain ⟨s', rfl⟩ : ∃ s', sN = s' + 1 := ⟨sN - 1, by omega⟩
              obtain ⟨m', rfl⟩ : ∃ m', m = m' + 1 := ⟨m - 1, by omega⟩
              have c1 : ((m' + 1 : Nat) : Int) - 1 = (m' : Int) := by omega
              have c2 : ((s' + 1 : Nat) : Int) - 1 = (s' : Int) := by omega
              obtain ⟨rq, hrq⟩ : ∃ r, rows[s']? = some r := ⟨_, List.getElem?_eq_getElem (by omega)⟩
              have hrq' := rr rq (List.mem_of_getElem? hrq)
              refine ⟨.ref D, rfl, wv (s' + 1), rfl, D, _, _, .ref rs, rfl, rfl, SqL.of L.l, atR hrs, wv (m' + 1), rfl, ((m' + 1 : Nat) : Int), 1, rfl, rfl, rs, _, _, .int (M (s' + 1) m'), rfl, rfl, SqL.of erow, (by rw [c1]; exact row1_at (by omega)), .int (M (s' + 1) (m' + 1)), rfl, _, _, rfl, rfl, ?_⟩
              refine ⟨.ref D, rfl, wv (s' + 1), rfl, D, _, _, .ref rs, rfl, rfl, SqL.of L.l, atR hrs, wv (m' + 1), rfl, ((m' + 1 : Nat) : Int), 1, rfl, rfl, rs, _, _, m', rfl, rfl, erow, (by rw [c1, row1_len]; exact ixN_at (by omega)), ?_⟩
              have t7 := L.t.set rn hrs (show m' ≤ f by omega) (M (s' + 1) (m' + 1))
              have eD7 : upd H7 rs (.lst ((row1 f M (s' + 1)).set m' (V.int (M (s' + 1) m' + M (s' + 1) (m' + 1))))) D = some (.lst (rows.map V.ref)) := by rw [upd_ne (Ne.symm hrs'.1)]; exact L.l
              have s7 := same_new (o := .lst ((row1 f M (s' + 1)).set m' (V.int (M (s' + 1) m' + M (s' + 1) (m' + 1))))) hrs'.2.1 L.s
              have d7 : upd H7 rs (.lst ((row1 f M (s' + 1)).set m' (V.int (M (s' + 1) m' + M (s' + 1) (m' + 1))))) p2 = some (.dT (zv ιe G)) := by rw [upd_ne (Ne.symm (nr2 rs (List.mem_of_getElem? hrs)))]; exact L.d
              generalize upd H7 rs (.lst ((row1 f M (s' + 1)).set m' (V.int (M (s' + 1) m' + M (s' + 1) (m' + 1))))) = H8 at t7 eD7 s7 d7
              have eq8 := t7 s' rq hrq
              have v8 : addc M (s' + 1) m' (M (s' + 1) (m' + 1)) s' (m' + 1) = M s' (m' + 1) := if_neg (by omega)
              have a8 : atI (row1 f (addc M (s' + 1) m' (M (s' + 1) (m' + 1))) s') ((m' + 1 : Nat) : Int) = some (.int (addc M (s' + 1) m' (M (s' + 1) (m' + 1)) s' (m' + 1))) := row1_at (by omega)
              refine ⟨.ref D, rfl, wv (s' + 1), rfl, ((s' + 1 : Nat) : Int), 1, rfl, rfl, D, _, _, .ref rq, rfl, rfl, SqL.of eD7, (by rw [c2]; exact atR hrq), wv (m' + 1), rfl, rq, _, _, _, rfl, rfl, SqL.of eq8, a8, .int (M (s' + 1) (m' + 1)), rfl, _, _, rfl, rfl, ?_⟩
              refine ⟨.ref D, rfl, wv (s' + 1), rfl, ((s' + 1 : Nat) : Int), 1, rfl, rfl, D, _, _, .ref rq, rfl, rfl, SqL.of eD7, (by rw [c2]; exact atR hrq), wv (m' + 1), rfl, rq, _, _, m' + 1, rfl, rfl, eq8, (by rw [row1_len]; exact ixN_at (by omega)), ?_⟩
              have t9 := t7.set rn hrq (show m' + 1 ≤ f by omega) (M (s' + 1) (m' + 1))
              refine ⟨_, G, _, _, rfl, ⟨same_new hrq'.2.1 s7, (by rw [upd_ne (Ne.symm hrq'.1)]; exact eD7), t9, (by rw [upd_ne (Ne.symm (nr2 rq (List.mem_of_getElem? hrq)))]; exact d7), addc_nn (addc_nn L.nn (L.nn _ _)) (L.nn _ _)⟩, ⟨hG.o, fun e he => ⟨(hG.p e he).1, (hG.p e he).2.1, (hG.p e he).2.2.1, (by have := (hG.p e he).2.2.2; omega)⟩, Nat.le_succ_of_le hG.n⟩, fun F => ?_⟩
              rw [XM_turn (show m' + 1 < f + 1 by omega)]
              exact bal F
        · rintro σ H7 ⟨M, G, y6, y7, rfl, L, hG, bal⟩
          refine ⟨M, G, _, _, _, _, rfl, L, ⟨hG.o, fun e he => ⟨(hG.p e he).1, (hG.p e he).2.1, (hG.p e he).2.2.1, (by have := (hG.p e he).2.2.2; omega)⟩, Nat.le_trans hG.n (by omega)⟩, fun F => ?_⟩
          have := bal F
          rw [Nat.sub_self] at this
          rw [show B + 1 - (i + 1) = sN by omega]
          unfold XM at this
          have z : rw1 F M sN 0 = 0 := rfl
          rw [z] at this
          grind
      · rintro σ H6 ⟨M, G, y2, y5, y6, y7, rfl, L, hG, bal⟩
        refine ⟨.ref p2, rfl, q H6 p2 G L.s np2 L.d ⟨hG.o, fun e he => ⟨(hG.p e he).1, (hG.p e he).2.1, (hG.p e he).2.2.1, trivial⟩, Nat.le_trans hG.n (by omega)⟩ fun F => ?_⟩
        have := bal F
        rw [Nat.sub_self] at this
        have z : sR (fun i' => rw1 F M i' (f + 1)) 0 = 0 := rfl
        rw [z] at this
        grind
end
end Hop

set_option Elab.async false
set_option linter.all false
set_option maxRecDepth 100000
namespace HopW
open PySem L2 HopR HopT
/-! ### how large lists of ends are -/
theorem enL_lt {f : Nat} {e : En} : ∀ {l : List Nat} {b : Nat}, e ∈ enL f b l → e.1.2 < b + l.length
  | [], _, h => absurd h (by simp [enL])
  | m :: l, b, h => by
    rw [List.length_cons]
    rcases List.mem_append.mp h with h | h
    · by_cases hm : 0 < m
      · rw [if_pos hm] at h
        obtain rfl := List.mem_singleton.mp h
        show b < _
        omega
      · rw [if_neg hm] at h
        exact absurd h (by simp)
    · have := enL_lt h
      omega
theorem enT_lt {e : En} {M : Nat} : ∀ {T : List (List Nat)} {f : Nat}, (∀ l ∈ T, l.length ≤ M) → e ∈ enT f T → e.1.1 < f + T.length ∧ e.1.2 < M
  | [], _, _, h => absurd h (by simp [enT])
  | l :: t, f, hl, h => by
    rw [List.length_cons]
    rcases List.mem_append.mp h with h | h
    · have h1 := (enL_mem h).1
      have h2 := enL_lt h
      have h3 := hl l (List.mem_cons_self ..)
      omega
    · have := enT_lt (fun x m => hl x (List.mem_cons_of_mem _ m)) h
      omega
theorem enL_len (f : Nat) : ∀ (l : List Nat) (b : Nat), (enL f b l).length ≤ l.length
  | [], _ => Nat.le_refl _
  | m :: l, b => by
    show ((if 0 < m then [((f, b), (m : Int))] else []) ++ enL f (b + 1) l).length ≤ l.length + 1
    rw [List.length_append]
    have := enL_len f l (b + 1)
    split
    · simp only [List.length_cons, List.length_nil]; omega
    · simp only [List.length_nil]; omega
theorem enT_len {M : Nat} : ∀ {T : List (List Nat)} (f : Nat), (∀ l ∈ T, l.length ≤ M) → (enT f T).length ≤ M * T.length
  | [], _, _ => Nat.zero_le _
  | l :: t, f, hl => by
    show (enL f 0 l ++ enT (f + 1) t).length ≤ _
    rw [List.length_append, List.length_cons, Nat.mul_succ]
    have h1 := enL_len f l 0
    have h2 := hl l (List.mem_cons_self ..)
    have h3 := enT_len (f + 1) (fun x m => hl x (List.mem_cons_of_mem _ m))
    omega
theorem tupG_app {α : Type} {H : Hp} {f : α → List V} : ∀ {as bs : List α} {vs us : List V}, TupG H f as vs → TupG H f bs us → TupG H f (as ++ bs) (vs ++ us)
  | [], _, _, _, h, g => by
    cases h
    exact g
  | _ :: _, _, _, _, ⟨p, vr, e, h1, h2⟩, g => ⟨p, vr ++ _, by rw [e]; rfl, h1, tupG_app h2 g⟩
/-- at p the list of these ends -/
def EndsAt (H : Hp) (p : Addr) (G : List En) : Prop := ∃ vs, H p = some (.lst vs) ∧ TupG H f3i G vs
theorem EndsAt.same {H H' : Hp} {p : Addr} {G : List En} (s : Same H H') (h : EndsAt H p G) : EndsAt H' p G := let ⟨vs, e, g⟩ := h; ⟨vs, s _ _ e, tupG_same s g⟩
theorem EndsAt.dp {K : PySem.W.Frag} {H : Hp} {p : Addr} {G : List En} (h : EndsAt H p G) : Dp K H (.ref p) (dE G) := let ⟨_, e, g⟩ := h; dE_of e g
theorem EndsAt.of {H : Hp} {p : Addr} {ts : List Addr} {G : List En} (e : H p = some (.lst (ts.map V.ref))) (pr : Paired (fun t e => H t = some (.tup (f3i e))) ts G) : EndsAt H p G := ⟨_, e, tupG_of pr⟩
/-- another list is changed -/
theorem EndsAt.other {H : Hp} {p q : Addr} {G : List En} {xs : List V} {o : HO} (h : EndsAt H p G) (hq : H q = some (.lst xs)) (n : p ≠ q) : EndsAt (upd H q o) p G := let ⟨vs, e, g⟩ := h; ⟨vs, by rw [upd_ne n]; exact e, tupG_upd hq g⟩
end HopW
namespace HopR
open PySem PySem.Spec PyProof.Rows L2 TL
theorem find3_of (bs : List Bool) (i : Int) : Txt.find3 (tx bs) "o." i = -1 ∨ ∃ u v, Txt.find3 (tx bs) "o." i = (u.length : Int) ∧ bs = u ++ true :: false :: v := by
  rw [of_tx]
  unfold Txt.find3
  rcases StrLaws.occ_head_from (tx bs) (tx [true, false]) _ 1 (Nat.le_refl 1) with ⟨h0, _⟩ | ⟨k, r, h0, _, hk, _⟩
  · rw [h0]; exact .inl rfl
  · rw [h0]
    have h := (sub_tx bs k).mp hk.2
    have l : k ≤ bs.length := by
      have l := congrArg List.length h
      rw [List.length_take, List.length_drop] at l
      simp only [List.length_cons, List.length_nil] at l
      omega
    refine .inr ⟨bs.take k, bs.drop (k + 2), ?_, ?_⟩
    · show ((k : Nat) : Int) = _
      rw [List.length_take, Nat.min_eq_left l]
    · have q := List.take_append_drop 2 (bs.drop k)
      rw [h, List.drop_drop] at q
      have q2 := List.take_append_drop k bs
      rw [← q] at q2
      exact q2.symm
end HopR

set_option Elab.async false
set_option linter.all false
set_option maxRecDepth 100000
set_option exponentiation.threshold 200000
namespace Hop
open PySem L2 HopR HopW HopT
section
variable {P : Program} {w : World} {K : PySem.W.Frag} {mg : Str → Option Value} {base : Heap} {d : Addr} {es : Array DictEntry} {n : Nat} {HE NN NW NP : Addr}
theorem eN_small {bs : List Bool} (h : bs.length ≤ 30) : (eN bs).length ≤ 1600 ∧ ∀ e ∈ eN bs, e.1.1 < 1000 ∧ e.1.2 < 1000 ∧ e.2.natAbs < 1000000000000 := by
  have hs := tbl_small h
  have h1 := hs.1
  refine ⟨?_, eN_near h fun e he => ?_⟩
  · have := enT_len (M := 40) 0 hs.2
    unfold eN
    omega
  · have := enT_lt (M := 40) hs.2 he
    omega
/-! ### _law_none -/
def spNone (K : PySem.W.Frag) : Sp := fun vs H Q _ => ∃ x, vs = [x] ∧ WordB K H x false ∧ ∀ H', Same H H' → Q (.bl true) H'
theorem scNone : FnScope ["_law_thing", "_law_error", "e"] ["_law_thing"] (defScope sLNone) := ⟨rfl, rfl, rfl, by decide +kernel, rfl, by decide +kernel, by decide +kernel⟩
theorem ok_lnone {f fe : Addr} {fd ge : FuncData} {k : Nat} (F : Fun K "_law_none" "_law_none" sLNone f fd) (Ne : Fn K mg "ends_of" sEndsOf ["word"] fe ge) (N : EnDefs K mg) (T : Txt K w mg d es n) (T0 : TxtL mg) (Z : Er K mg HE NN NW NP) :
    FnOk P w K mg base CX0 (k + 5) f fd ["_law_thing"] (spNone K) := by
  have Ge : FnOk P w K mg base (L2.CX P w) (k + 4) fe ge ["word"] (spEndsOf K NW) := ok_endsOf Ne.F N T T0 Z
  refine F.ok scNone (fun vs H Q E h => ?_) (fun cdv A outer s H vs Q E hr h => ?_)
  · obtain ⟨x, rfl, _⟩ := h
    rfl
  · obtain ⟨x, rfl, hw, q⟩ := h
    have nd := scNone.nd
    refine ⟨_, pss_cons (ps_set (i := 1) nd rfl (.inl rfl) pe_non)
      (pss_cons (ps_try_held (i := 2) (j := 1) rfl rfl nd rfl rfl rfl rfl rfl (tests_one ⟨rfl, by decide, .inl Z.gHE⟩)
          (fun W pn xe tk _ => pss_one (ps_expr (pe_callS Ge hr (by rfl) Ne.g Ne.F.kp Ne.b (fun σ => passAt tk σ) (pa_cons (pv 0) pa_nil))))
          (fun a oe pn => pss_one (ps_set (i := 1) nd rfl (.inl rfl) (pv 2))))
      (pss_one (ps_ret (pe_and (pe_callB call_isH (by rfl) T.isi (by decide +kernel) (pa_cons (pv 1) (pa_cons (pe_glob (v := .ref NW) (by rfl) Z.gNW rfl) pa_nil)))
        (pe_one (pe_not (pe_callB call_isHT (by rfl) T.isi (by decide +kernel) (pa_cons (pv 1) (pa_cons (pe_tup (pa_cons (pe_glob (v := .ref NN) (by rfl) Z.gNN rfl) (pa_cons (pe_glob (v := .ref NP) (by rfl) Z.gNP rfl) pa_nil))) pa_nil))))))))), ?_⟩
    refine ⟨x, rfl, x, rfl, .inr ⟨hw, fun H1 s1 => ?_⟩⟩
    refine ⟨Z.mW, fun a na => ?_⟩
    have sA : Same H (upd H1 a (ExH (.ref NW) none a)) := same_new (s1.free na) s1
    have ha : upd H1 a (ExH (.ref NW) none a) a = some (ExH (.ref NW) none a) := upd_same
    generalize upd H1 a (ExH (.ref NW) none a) = H2 at sA ha
    refine ⟨.ref a, rfl, a, NW, .ref NW, .ref NW, true, rfl, ha, Z.W.c, .own _, kit_me, true, rfl, ?_⟩
    refine ⟨.ref a, rfl, (by show 2 ≤ sizeLine; decide), fun tp nt => ?_⟩
    refine ⟨a, NW, tp, _, _, false, rfl, same_upd nt _ _ ha, Z.W.c, upd_same, .cons (.own _) (.cons (.own _) .nil), Z.w2, false, rfl, ?_⟩
    exact q _ (same_new (sA.free nt) sA)
/-! ### _law_right -/
def spRight : Sp := fun vs H Q _ => ∃ (bs : List Bool) (p : Addr), vs = [.str (tx bs), .ref p] ∧ bs.length ≤ 30 ∧ EndsAt H p (eN bs) ∧ ∀ H', Same H H' → Q (.bl true) H'
theorem scLRight : FnScope ["_law_word", "_law_due", "_law_found"] ["_law_word", "_law_due"] (defScope sLRight) := ⟨rfl, rfl, rfl, by decide +kernel, rfl, by decide +kernel, by decide +kernel⟩
theorem ok_lright {f fe : Addr} {fd ge : FuncData} {k : Nat} (F : Fun K "_law_right" "_law_right" sLRight f fd) (Ne : Fn K mg "ends_of" sEndsOf ["word"] fe ge) (N : EnDefs K mg) (T : Txt K w mg d es n) (T0 : TxtL mg) (Z : Er K mg HE NN NW NP) :
    FnOkG P w K mg base CX0 (k + 5) f fd ["_law_word", "_law_due"] spRight := by
  have Ge : FnOk P w K mg base (L2.CX P w) (k + 4) fe ge ["word"] (spEndsOf K NW) := ok_endsOf Ne.F N T T0 Z
  refine okG F scLRight (fun vs H Q E h => ?_) (fun cdv A outer s H vs Q E hG hr h => ?_)
  · obtain ⟨bs, p, rfl, _⟩ := h
    rfl
  · obtain ⟨bs, p, rfl, h30, hd, q⟩ := h
    have nd := scLRight.nd
    have hu := hu66 hr
    refine ⟨_, pss_cons (ps_set (i := 2) nd rfl (.inl rfl) (pe_call Ge hr (by rfl) Ne.g Ne.F.kp Ne.b .nil passL (pa_cons (pv 0) pa_nil)))
      (pss_cons (ps_if (PW.pt (pw_or (pt_not (pt_val (pe_callB call_isi (by rfl) T.isi (by decide +kernel) (pa_cons (pv 2) (pa_cons (pe_bltn (v := .ty "list") (by rfl) T.list (by decide +kernel) rfl) pa_nil)))))
          (pw_or1 (pt_cmpR op_ne (pe_callB (cr_reprD hG hu) (by rfl) T.repr (by decide +kernel) (pa_cons (pv 2) pa_nil)) (pe_callB (cr_reprD hG hu) (by rfl) T.repr (by decide +kernel) (pa_cons (pv 1) pa_nil)) (nomark _)))))
        (pss_one (ps_ret pe_bl)) pss_nil)
      (pss_cons (ps_expr (pe_bm0 PySem.F.plainAttrs_list PySem.F.slot_list_clear PySem.F.type_list_clear mt_clear (pv 2)))
      (pss_one (ps_ret (pe_cmpR op_eq (pe_callB (cr_reprD hG hu) (by rfl) T.repr (by decide +kernel) (pa_cons (pe_call Ge hr (by rfl) Ne.g Ne.F.kp Ne.b .nil passL (pa_cons (pv 0) pa_nil)) pa_nil)) (pe_callB (cr_reprD hG hu) (by rfl) T.repr (by decide +kernel) (pa_cons (pv 1) pa_nil)) (nomark _)))))), ?_⟩
    obtain ⟨hl, hn⟩ := eN_small h30
    have okk := okd_dE hn
    have fitk := okk.fits (by omega)
    refine ⟨.str (tx bs), rfl, .str (tx bs), rfl, .inl ⟨bs, rfl, h30, fun H1 p1 acc s1 n1 e1 g1 l1 => ?_⟩⟩
    refine ⟨.ref p1, rfl, .ref p1, .ty "list", .type "list", .type "list", true, rfl, .ty _, .base (.lst e1), kit_ty (by decide +kernel), true, rfl, iteF ?_⟩
    refine ⟨.ref p1, rfl, _, _, rfl, dE_of e1 g1, okk.sh, okk.nd, Nat.le_trans okk.dp (by decide), fitk, .ref p, rfl, _, _, rfl, (hd.same s1).dp, okk.sh, okk.nd, Nat.le_trans okk.dp (by decide), fitk, rfl, _, rfl, ?_⟩
    rw [decide_eq_true rfl]
    refine iteF ⟨.ref p1, rfl, .inl ⟨rfl, _, SqL.of e1⟩, p1, _, rfl, rfl, e1, ?_⟩
    have np : p ≠ p1 := by
      rintro rfl
      obtain ⟨vs, e, _⟩ := hd
      rw [n1] at e
      cases e
    have s2 : Same H (upd H1 p1 (.lst [])) := same_new n1 s1
    have hd2 : EndsAt (upd H1 p1 (.lst [])) p (eN bs) := (hd.same s1).other e1 np
    generalize upd H1 p1 (.lst []) = H2 at s2 hd2
    refine ⟨.str (tx bs), rfl, .str (tx bs), rfl, .inl ⟨bs, rfl, h30, fun H3 p3 acc3 s3 n3 e3 g3 l3 => ?_⟩⟩
    refine ⟨_, _, rfl, dE_of e3 g3, okk.sh, okk.nd, Nat.le_trans okk.dp (by decide), fitk, .ref p, rfl, _, _, rfl, (hd2.same s3).dp, okk.sh, okk.nd, Nat.le_trans okk.dp (by decide), fitk, rfl, ?_⟩
    rw [decide_eq_true rfl]
    exact q _ (s2.trans s3)
end
end Hop

set_option Elab.async false
set_option linter.all false
set_option maxRecDepth 100000
set_option exponentiation.threshold 200000
namespace Hop
open PySem L2 HopR HopW HopT
theorem tupG_updT {α : Type} {H : Hp} {f : α → List V} {D : Addr} {o : HO} (hD : ∀ xs, H D ≠ some (.tup xs)) : ∀ {as : List α} {vs : List V}, TupG H f as vs → TupG (upd H D o) f as vs
  | [], _, h => h
  | _ :: _, _, ⟨p, vr, e, h1, h2⟩ => ⟨p, vr, e, by
      rw [upd_ne (fun z => hD _ (by rw [z] at h1; exact h1))]
      exact h1, tupG_updT hD h2⟩
section
variable {P : Program} {w : World} {K : PySem.W.Frag} {mg : Str → Option Value} {base : Heap} {d : Addr} {es : Array DictEntry} {n : Nat} {HE NN NW NP : Addr}
/-! ### _law_halved -/
def spHalved (K : PySem.W.Frag) : Sp := fun vs H Q _ => ∃ (bs : List Bool) (a : Addr) (zs : List Int), vs = [.str (tx bs), .ref a] ∧ 1 ≤ bs.length ∧ bs.length ≤ 30 ∧ SqL K H a (zs.map V.int) ∧ zs.length ≤ 60 ∧ ∀ H', Same H H' → Q (.bl true) H'
abbrev nLH : List Str := ["_law_word", "_law_draws", "_law_draw", "_law_at", "_law_both", "_law_due", "_law_frees", "_law_beads", "_law_many", "_law_end"]
theorem scLH : FnScope nLH ["_law_word", "_law_draws"] (defScope sLHalved) := ⟨rfl, rfl, rfl, by decide +kernel, rfl, by decide +kernel, by decide +kernel⟩
set_option maxHeartbeats 16000000 in
theorem ok_lhalved {f fe : Addr} {fd ge : FuncData} {k : Nat} (F : Fun K "_law_halved" "_law_halved" sLHalved f fd) (Ne : Fn K mg "ends_of" sEndsOf ["word"] fe ge) (N : EnDefs K mg) (T : Txt K w mg d es n) (T0 : TxtL mg) (Z : Er K mg HE NN NW NP) :
    FnOk P w K mg base CX0 (k + 5) f fd ["_law_word", "_law_draws"] (spHalved K) := by
  have Ge : FnOk P w K mg base (L2.CX P w) (k + 4) fe ge ["word"] (spEndsOf K NW) := ok_endsOf Ne.F N T T0 Z
  refine F.ok scLH (fun vs H Q E h => ?_) (fun cdv A outer s H vs Q E hr h => ?_)
  · obtain ⟨bs, a, zs, rfl, _⟩ := h
    rfl
  · obtain ⟨bs, a, zs, rfl, h1, h30, hS, hzl, q⟩ := h
    have nd := scLH.nd
    have hu := hu_of hr
    have hu64 := hr.units
    refine ⟨_, pss_cons (ps_for PassesOwn.never rfl (pi_list (pv 1)) (pg_name (i := 2) nd rfl (.inl rfl))
        (pss_cons (ps_set (i := 3) nd rfl (.inl rfl) (pe_bm PySem.F.plainAttrs_str PySem.F.slot_str_find PySem.F.type_str_find mt_find3 (pv 0) (pa_cons pe_str (pa_cons (pe_op op_mod (pv 2) (pe_callB call_len_str (by rfl) T.len PySem.boot_len (pa_cons (pv 0) pa_nil))) pa_nil))))
        (pss_cons (ps_if (pt_cmpR op_lt (pv 3) pe_int (nomark _)) (pss_one (ps_set (i := 3) nd rfl (.inl rfl) (pe_bm PySem.F.plainAttrs_str PySem.F.slot_str_find PySem.F.type_str_find mt_find (pv 0) (pa_cons pe_str pa_nil)))) pss_nil)
        (pss_cons (ps_if (pt_cmpR op_lt (pv 3) pe_int (nomark _)) (pss_one (ps_ret pe_bl)) pss_nil)
        (pss_cons (ps_set (i := 4) nd rfl (.inl rfl) (pe_lst (pa_cons (pe_op op_add_str (pe_slice sl_str (pv 0) po_none (po_some (pe_op op_add (pv 3) pe_int))) (pe_slice sl_str (pv 0) (po_some (pe_op op_add (pv 3) pe_int)) po_none)) (pa_cons (pe_op op_add_str (pe_slice sl_str (pv 0) po_none (po_some (pv 3))) (pe_slice sl_str (pv 0) (po_some (pe_op op_add (pv 3) pe_int)) po_none)) pa_nil))))
        (pss_cons (ps_set (i := 5) nd rfl (.inr rfl) pe_dnewT)
        (pss_cons (ps_for PassesOwn.never rfl (pi_list (pe_op op_cat (pe_call Ge hr (by rfl) Ne.g Ne.F.kp Ne.b .nil passL (pa_cons (pe_ix ix_list (pv 4) pe_int (fun _ _ => rfl)) pa_nil)) (pe_call Ge hr (by rfl) Ne.g Ne.F.kp Ne.b .nil passL (pa_cons (pe_ix ix_list (pv 4) pe_int (fun _ _ => rfl)) pa_nil)))) (pg_tup (by rfl) (pgs_cons (pg_name (i := 6) nd rfl (.inl rfl)) (pgs_cons (pg_name (i := 7) nd rfl (.inl rfl)) (pgs_cons (pg_name (i := 8) nd rfl (.inl rfl)) pgs_nil))))
          (pss_one (ps_dput hu (pv 5) (pe_tup (pa_cons (pv 6) (pa_cons (pv 7) pa_nil))) (pe_op op_add (pe_dget2 hu (pv 5) (pe_tup (pa_cons (pv 6) (pa_cons (pv 7) pa_nil))) pe_int ⟨rfl, rfl, rfl, rfl⟩) (pv 8)) rfl)))
        (pss_cons (ps_if (pt_cmpR (op_neD hu64) (pe_call Ge hr (by rfl) Ne.g Ne.F.kp Ne.b .nil passL (pa_cons (pv 0) pa_nil))
          (pe_callB (show CallR _ (.builtin "sorted") (rSortedQ K) from cr_sortedQ) (by rfl) T.sorted (by decide +kernel) (pa_cons (pe_lock (pe_lc (own := [("_law_end", 9)]) (g := gName 9) (tt := tYes) (by rfl) nd (pi_keys (pv 5)) (blkOk_by (own := [("_law_end", 9)]) (N := nLH) (sc := defScope sLHalved) (by decide +kernel)) (fun _ _ _ _ _ => pg_name (i := 9) nd rfl (Or.inl rfl)) (fun _ _ _ _ _ => pts_nil)
          (fun _ _ _ _ _ => pe_tup (pa_cons (pe_ix (show IxR _ (rIxT K) from ix_tup) (pv 9) pe_int (fun _ _ => rfl)) (pa_cons (pe_ix (show IxR _ (rIxT K) from ix_tup) (pv 9) pe_int (fun _ _ => rfl)) (pa_cons (pe_dget (by assumption) (pv 5) (pv 9) (fun _ _ => rfl)) pa_nil)))))) pa_nil)) (nomark _)) (pss_one (ps_ret pe_bl)) pss_nil)
        (pss_one (ps_set (i := 0) nd rfl (.inl rfl) (pe_ix ix_list (pv 4) (pe_op op_mod (pv 2) pe_int) (fun _ _ => rfl))))))))))))
      (pss_one (ps_ret pe_bl)), ?_⟩
    refine ⟨.ref a, rfl, a, rfl, ⟨_, hS⟩, ?_⟩
    refine for_list (K := K) (a := a) (xs := zs.map V.int) (fun i σ H3 => ∃ (bs : List Bool) (y2 y3 y4 y5 y6 y7 y8 y9 : Option V), σ = [some (.str (tx bs)), some (.ref a), y2, y3, y4, y5, y6, y7, y8, y9] ∧ 1 ≤ bs.length ∧ bs.length ≤ 30 ∧ Same H H3)
      ⟨bs, _, _, _, _, _, _, _, _, rfl, h1, h30, Same.refl _⟩ (fun i σ H3 _ ⟨_, _, _, _, _, _, _, _, _, _, _, _, s⟩ => s.seq hS) ?_ ?_
    · clear h30 h1 bs
      rintro i x σ H3 hx ⟨bs, y2, y3, y4, y5, y6, y7, y8, y9, rfl, h1, h30, s3⟩
      rw [List.getElem?_map] at hx
      obtain ⟨z, _, rfl⟩ := Option.map_eq_some_iff.mp hx
      have hz : (tx bs).length ≤ sizeLine := tx_fit (by omega)
      refine ⟨.str (tx bs), rfl, rfl, .int z, rfl, .str (tx bs), rfl, tx bs, rfl, hz, z, ((tx bs).length : Int), rfl, rfl, (by rw [tx_len]; omega), tx bs, "o.", _, rfl, rfl, ?_⟩
      rcases find3_of bs (z % ((tx bs).length : Int)) with ef | ⟨u, v, ef, eb⟩
      · rw [ef]
        refine ⟨.int (-1), rfl, -1, 0, rfl, rfl, _, rfl, iteT ⟨.str (tx bs), rfl, rfl, tx bs, "o.", rfl, rfl, ?_⟩⟩
        rcases find_of bs with ⟨ef2, _⟩ | ⟨u, v, ef2, eb⟩
        · rw [ef2]
          exact ⟨.int (-1), rfl, -1, 0, rfl, rfl, _, rfl, iteT (q _ s3)⟩
        · rw [ef2]
          subst eb
          refine ⟨.int (u.length : Int), rfl, (u.length : Int), 0, rfl, rfl, _, rfl, iteF ?_⟩
          have tl : (tx (u ++ true :: false :: v)).length ≤ sizeLine := tx_fit (by omega)
          have c1 : cutS (tx (u ++ true :: false :: v)) none (some ((u.length : Int) + 1)) = tx (u ++ [true]) := by
            rw [show (u.length : Int) + 1 = ((u.length + 1 : Nat) : Int) from rfl, cut_to, List.take_append]
            rw [List.take_of_length_le (Nat.le_succ _)]; simp
          have c2 : cutS (tx (u ++ true :: false :: v)) (some ((u.length : Int) + 2)) none = tx v := by
            rw [show (u.length : Int) + 2 = ((u.length + 2 : Nat) : Int) from rfl, cut_from, List.drop_append]
            rw [List.drop_eq_nil_of_le (show u.length ≤ u.length + 2 by omega)]; simp
          have c3 : cutS (tx (u ++ true :: false :: v)) none (some (u.length : Int)) = tx u := by
            rw [cut_to, List.take_append]
            simp
          have c4 : cutS (tx (u ++ true :: false :: v)) (some ((u.length : Int) + 1)) none = tx (false :: v) := by
            rw [show (u.length : Int) + 1 = ((u.length + 1 : Nat) : Int) from rfl, cut_from, List.drop_append]
            rw [List.drop_eq_nil_of_le (Nat.le_succ _)]; simp
          have l3 : u.length + v.length + 2 ≤ 30 := by
            simp only [List.length_append, List.length_cons] at h30
            omega
          have hA : (u ++ true :: v).length ≤ 30 := by rw [List.length_append, List.length_cons]; omega
          have hB : (u ++ false :: v).length ≤ 30 := by rw [List.length_append, List.length_cons]; omega
          refine ⟨.str (tx _), rfl, .int (u.length : Int), rfl, (u.length : Int), 1, rfl, rfl, _, rfl, tx _, rfl, tl, ?_⟩
          refine ⟨.str (tx _), rfl, .int (u.length : Int), rfl, (u.length : Int), 2, rfl, rfl, _, rfl, tx _, rfl, tl, ?_⟩
          rw [c1, c2]
          refine ⟨tx (u ++ [true]), tx v, rfl, rfl, (by rw [tx_len, tx_len, List.length_append]; exact Nat.le_trans (show _ ≤ 100 by simp; omega) (by decide)), ?_⟩
          refine ⟨.str (tx _), rfl, .int (u.length : Int), rfl, _, rfl, tx _, rfl, tl, ?_⟩
          refine ⟨.str (tx _), rfl, .int (u.length : Int), rfl, (u.length : Int), 1, rfl, rfl, _, rfl, tx _, rfl, tl, ?_⟩
          rw [c3, c4]
          refine ⟨tx u, tx (false :: v), rfl, rfl, (by rw [tx_len, tx_len]; exact Nat.le_trans (show _ ≤ 100 by simp; omega) (by decide)), ?_⟩
          rw [tx_app, tx_app, show u ++ [true] ++ v = u ++ true :: v by simp]
          refine ⟨(by show 2 ≤ sizeLine; decide), fun pl nl => ?_⟩
          have s4 := s3.trans (same_upd (o := .lst [V.str (tx (u ++ true :: v)), V.str (tx (u ++ false :: v))]) nl)
          have npl := s3.free nl
          have el : upd H3 pl (.lst [V.str (tx (u ++ true :: v)), V.str (tx (u ++ false :: v))]) pl = some (.lst [V.str (tx (u ++ true :: v)), V.str (tx (u ++ false :: v))]) := upd_same
          clear c1 c2 c3 c4
          generalize upd H3 pl (.lst [V.str (tx (u ++ true :: v)), V.str (tx (u ++ false :: v))]) = H4 at el s4
          refine fun p5 n5 => ?_
          have s5 := s4.trans (same_upd (o := .dT []) n5)
          have np5 := s4.free n5
          have ne5 : pl ≠ p5 := ne_of_none el n5
          have e5 : upd H4 p5 (.dT []) p5 = some (.dT []) := upd_same
          replace el := same_upd (o := .dT []) n5 _ _ el
          generalize upd H4 p5 (.dT []) = H5 at el s5 e5
          refine ⟨.ref pl, rfl, pl, _, 0, .str (tx (u ++ true :: v)), rfl, rfl, SqL.of el, rfl, .str (tx (u ++ true :: v)), rfl, .inl ⟨u ++ true :: v, rfl, hA, fun H6 p6 acc6 s6 n6 e6 g6 l6 => ?_⟩⟩
          refine ⟨.ref pl, rfl, pl, _, 1, .str (tx (u ++ false :: v)), rfl, rfl, SqL.of (s6 _ _ el), rfl, .str (tx (u ++ false :: v)), rfl, .inl ⟨u ++ false :: v, rfl, hB, fun H7 p7 acc7 s7 n7 e7 g7 l7 => ?_⟩⟩
          refine ⟨p6, p7, acc6, acc7, rfl, rfl, s7 _ _ e6, e7, Nat.le_trans (show acc6.length + acc7.length ≤ 5000 by omega) (by decide), fun p8 n8 => ⟨p8, rfl, ⟨_, SqL.of upd_same⟩, ?_⟩⟩
          have t8 := same_upd (o := .lst (acc6 ++ acc7)) n8
          have g8 : TupG (upd H7 p8 (.lst (acc6 ++ acc7))) f3i (eN (u ++ true :: v) ++ eN (u ++ false :: v)) (acc6 ++ acc7) := tupG_same t8 (tupG_app (tupG_same s7 g6) g7)
          have s8 := s5.trans (s6.trans (s7.trans t8))
          have e8 : upd H7 p8 (.lst (acc6 ++ acc7)) p8 = some (.lst (acc6 ++ acc7)) := upd_same
          have ne8 : p5 ≠ p8 := ne_of_none (s7 _ _ (s6 _ _ e5)) n8
          replace el := t8 _ _ (s7 _ _ (s6 _ _ el))
          replace e5 := t8 _ _ (s7 _ _ (s6 _ _ e5))
          have lw : ∀ F : Nat → Nat → Rat, ds (φF F) (eN (u ++ true :: v) ++ eN (u ++ false :: v)) = wF F (u ++ true :: false :: v) := fun F => by
            rw [ds_app, eN_ds, eN_ds, wF_of]
          have lpos : ∀ e ∈ eN (u ++ true :: v) ++ eN (u ++ false :: v), 0 < e.2 := fun e he => by
            rcases List.mem_append.mp he with he | he
            · exact (eN_sd _).2 e he
            · exact (eN_sd _).2 e he
          have llen : (eN (u ++ true :: v) ++ eN (u ++ false :: v)).length ≤ 5000 := by
            rw [← tupG_len g8, List.length_append]
            omega
          generalize upd H7 p8 (.lst (acc6 ++ acc7)) = H8 at g8 s8 e8 el e5
          generalize eN (u ++ true :: v) ++ eN (u ++ false :: v) = LL at g8 lw lpos llen
          clear t8 s7 s6 s5 n8 n7 n6 e7 e6 g7 g6 l7 l6
          refine for_list (K := K) (a := p8) (xs := acc6 ++ acc7) (fun j σ H9 => ∃ (G : List En) (y6 y7 y8 : Option V), σ = [some (.str (tx (u ++ true :: false :: v))), some (.ref a), some (.int z), some (.int (u.length : Int)), some (.ref pl), some (.ref p5), y6, y7, y8, y9] ∧ Same H H9 ∧
            H9 pl = some (.lst [V.str (tx (u ++ true :: v)), V.str (tx (u ++ false :: v))]) ∧ H9 p8 = some (.lst (acc6 ++ acc7)) ∧ TupG H9 f3i LL (acc6 ++ acc7) ∧ H9 p5 = some (.dT (zv ιe G)) ∧ Tp (fun _ => True) j G ∧ ∀ F : Nat → Nat → Rat, ds (φF F) G = ds (φF F) (LL.take j))
            ⟨[], y6, y7, y8, rfl, s8, el, e8, g8, e5, .nil, fun F => rfl⟩ (fun j σ H9 _ ⟨_, _, _, _, _, _, _, e, _⟩ => SqL.of e) ?_ ?_
          · rintro j x σ H9 hx ⟨G, y6, y7, y8, rfl, s9, el9, e89, g9, e59, tG, bal⟩
            have hj : j < LL.length := by
              rw [← tupG_len g9]
              exact (List.getElem?_eq_some_iff.mp hx).1
            have hLj : LL[j]? = some LL[j] := List.getElem?_eq_getElem hj
            obtain ⟨pt, et1, et2⟩ := tupG_at g9 hLj
            rw [hx] at et1
            obtain rfl := Option.some.inj et1
            have ep := lpos LL[j] (List.getElem_mem hj)
            have bal' : ∀ F : Nat → Nat → Rat, ds (φF F) (LL.take (j + 1)) = ds (φF F) (LL.take j) + (LL[j].2 : Rat) * φF F LL[j].1 := fun F => ds_take hLj
            generalize LL[j] = e at et2 ep bal'
            obtain ⟨⟨ea, eb⟩, em⟩ := e
            refine ⟨pt, _, rfl, SqT.of et2, rfl, _, _, rfl, _, _, rfl, _, _, rfl, rfl, ?_⟩
            refine ⟨.ref p5, rfl, p5, rfl, .inr ⟨_, .inl e59⟩, .int (ea : Int), rfl, .int (eb : Int), rfl, (by show 2 ≤ sizeLine; decide), fun pe ne => ?_⟩
            have sp := same_upd (o := .tup [V.int (ea : Int), V.int (eb : Int)]) ne
            have epe : upd H9 pe (.tup [V.int (ea : Int), V.int (eb : Int)]) pe = some (.tup ((ιe (ea, eb)).map kV)) := upd_same
            refine ⟨_, DGet.t (k := ιe (ea, eb)) (sp _ _ e59) epe, .int em, rfl, gz (ea, eb) G, em, val_zv ιe_inj (ea, eb) G, rfl, ?_⟩
            have s10 := s9.trans sp
            replace e59 := sp _ _ e59
            replace el9 := sp _ _ el9
            replace e89 := sp _ _ e89
            replace g9 := tupG_same sp g9
            generalize upd H9 pe (.tup [V.int (ea : Int), V.int (eb : Int)]) = H10 at s10 e59 el9 e89 g9
            have gl : (zv ιe G).length < sizeLine := by
              rw [zv_len]
              have := tG.n
              exact Nat.lt_of_lt_of_le (show G.length < 10000 by omega) (by decide)
            refine ⟨.ref p5, rfl, .int (ea : Int), rfl, .int (eb : Int), rfl, (by show 2 ≤ sizeLine; decide), fun pe2 ne2 => ?_⟩
            have sq := same_upd (o := .tup [V.int (ea : Int), V.int (eb : Int)]) ne2
            have epe2 : upd H10 pe2 (.tup [V.int (ea : Int), V.int (eb : Int)]) pe2 = some (.tup ((ιe (ea, eb)).map kV)) := upd_same
            refine ⟨p5, _, rfl, DPut.t (sq _ _ e59) epe2 gl, pz (ea, eb) em G, _, _, _, rfl, same_new np5 (s10.trans sq), ?_, ?_, ?_, ?_, tG.put trivial ep, fun F => ?_⟩
            · rw [upd_ne ne5]; exact sq _ _ el9
            · rw [upd_ne (_root_.Ne.symm ne8)]; exact sq _ _ e89
            · exact tupG_updT (fun xs h => by rw [sq _ _ e59] at h; cases h) (tupG_same sq g9)
            · rw [upd_same, put_zv ιe_inj (ea, eb) em tG.o]
            · rw [ds_pz, bal F, bal' F]
          · rintro σ H9 ⟨G, y6, y7, y8, rfl, s9, el9, e89, g9, e59, tG, bal⟩
            rw [tupG_len g9] at tG bal
            have tot : ∀ F : Nat → Nat → Rat, ds (φF F) G = wF F (u ++ true :: false :: v) := fun F => by rw [bal F, List.take_length, lw F]
            have gn := tG.n
            clear bal g9 e89 lw lpos
            refine ⟨.str (tx (u ++ true :: false :: v)), rfl, .str (tx (u ++ true :: false :: v)), rfl, .inl ⟨u ++ true :: false :: v, rfl, h30, fun H10 p10 acc10 s10 n10 e10 g10 l10 => ?_⟩⟩
            replace e59 := s10 _ _ e59
            replace el9 := s10 _ _ el9
            have s10' := s9.trans s10
            clear s9 s10
            have d10 : EndsAt H10 p10 (eN (u ++ true :: false :: v)) := ⟨acc10, e10, g10⟩
            have ne10 : p10 ≠ p5 := fun z => by rw [z, e59] at e10; cases e10
            refine ⟨p5, .dT (zv ιe G), e59, trivial, fun od => ?_⟩
            refine ⟨.ref p5, rfl, p5, od, rfl, .inr ⟨zv ιe G, upd_same, fun D nD => ?_⟩⟩
            have e11 : upd H10 p5 (.frz od (.dT (zv ιe G))) p5 = some (.frz od (.dT (zv ιe G))) := upd_same
            have s11 : Same H (upd H10 p5 (.frz od (.dT (zv ιe G)))) := same_new np5 s10'
            have d11 : EndsAt (upd H10 p5 (.frz od (.dT (zv ιe G)))) p10 (eN (u ++ true :: false :: v)) := ⟨acc10, by rw [upd_ne ne10]; exact e10, tupG_updT (fun xs h => by rw [e59] at h; cases h) g10⟩
            have el11 : upd H10 p5 (.frz od (.dT (zv ιe G))) pl = some (.lst [V.str (tx (u ++ true :: v)), V.str (tx (u ++ false :: v))]) := by rw [upd_ne ne5]; exact el9
            have nD0 := s11.free nD
            have neD : p5 ≠ D := ne_of_none e11 nD
            have nlD : pl ≠ D := ne_of_none el11 nD
            have ndD : p10 ≠ D := fun z => by
              obtain ⟨_, e, _⟩ := d11
              rw [z, nD] at e
              cases e
            generalize upd H10 p5 (.frz od (.dT (zv ιe G))) = H11 at e11 s11 nD d11 el11
            refine lc_it walk_keysT (fun j H12 => Same H H12 ∧ H12 p5 = some (.frz od (.dT (zv ιe G))) ∧ EndsAt H12 p10 (eN (u ++ true :: false :: v)) ∧ H12 pl = some (.lst [V.str (tx (u ++ true :: v)), V.str (tx (u ++ false :: v))]) ∧ ∃ ts : List Addr, H12 D = some (.lst (ts.map V.ref)) ∧ ts.length ≤ j ∧ Paired (fun t e => H12 t = some (.tup (f3i e))) ts (G.take j))
              ⟨same_new nD0 s11, (by rw [upd_ne neD]; exact e11), d11.same (same_upd nD), (by rw [upd_ne nlD]; exact el11), [], upd_same, Nat.le_refl _, .nil⟩ (fun j H12 _ h => h.2.1) ?_ ?_
            · rintro j v0 H12 H12b hj ⟨s12, f12, d12, el12, ts, eD, tl2, pr⟩ ⟨rfl, k0, v1, qk, hk, rfl, eq⟩
              obtain ⟨e, c, he, rfl, rfl⟩ := zv_at hk
              refine ⟨rfl, .ref qk, rfl, qk, _, 0, .int (e.1 : Int), rfl, rfl, SqT.of eq, rfl, .ref qk, rfl, qk, _, 1, .int (e.2 : Int), rfl, rfl, SqT.of eq, rfl, ?_⟩
              refine ⟨.ref p5, rfl, .ref qk, rfl, p5, .int c, rfl, .inr ⟨_, ιe e, qk, .inr ⟨od, f12⟩, rfl, eq, (val_in ιe_inj tG.o he).symm⟩, (by show 3 ≤ sizeLine; decide), fun t nt => ?_⟩
              have st := same_upd (o := .tup [V.int (e.1 : Int), V.int (e.2 : Int), V.int c]) nt
              have jl : j < G.length := by rw [zv_len] at hj; exact hj
              have nDt : D ≠ t := ne_of_none eD nt
              refine ⟨ts.map V.ref, st _ _ eD, ?_, same_new nD0 (s12.trans st), ?_, ?_, ?_, ts ++ [t], ?_, ?_, ?_⟩
              · rw [List.length_map]; exact Nat.lt_of_lt_of_le (show ts.length < 10000 by omega) (by decide)
              · rw [upd_ne neD]; exact st _ _ f12
              · exact (d12.same st).other (st _ _ eD) ndD
              · rw [upd_ne nlD]; exact st _ _ el12
              · rw [upd_same, List.map_append]; rfl
              · rw [List.length_append]; exact Nat.succ_le_succ tl2
              · rw [List.take_add_one, he]
                refine paired_snoc (paired_imp (fun a b h => ?_) pr) ?_
                · rw [upd_ne (fun z => by rw [z, eD] at h; cases h)]; exact st _ _ h
                · rw [upd_ne (_root_.Ne.symm nDt), upd_same]; rfl
            · rintro H12 ⟨s12, f12, d12, el12, ts, eD, tl2, pr⟩
              rw [zv_len, List.take_length] at pr
              have pr0 : Paired (fun t e => upd H12 p5 (.dT (zv ιe G)) t = some (.tup (f3i e))) ts G := paired_imp (fun a b h => by
                rw [upd_ne (fun z => by rw [z, f12] at h; cases h)]; exact h) pr
              refine ⟨f12, D, ts, trK (upd H12 p5 (.dT (zv ιe G))), rfl, SqL.of (by rw [upd_ne (_root_.Ne.symm neD)]; exact eD), srt_keys pr0, fun ys p13 py sy n13 => ?_⟩
              obtain ⟨G2, pg, pr2⟩ := paired_perm py pr0
              have s13 : Same H (upd H12 p5 (.dT (zv ιe G))) := same_new np5 s12
              have t13 := same_upd (o := .lst (ys.map V.ref)) n13
              have sd := tp_sorted tG pg (srt_ends pr2 sy)
              have eG : G2 = eN (u ++ true :: false :: v) := eN_is sd fun F => (ds_permF _ pg).trans (tot F)
              subst eG
              have d13 : EndsAt (upd H12 p5 (.dT (zv ιe G))) p10 (eN (u ++ true :: false :: v)) := by
                obtain ⟨vs, e, g⟩ := d12
                exact ⟨vs, by rw [upd_ne ne10]; exact e, tupG_updT (fun xs h => by rw [f12] at h; cases h) g⟩
              have x13 : EndsAt (upd (upd H12 p5 (.dT (zv ιe G))) p13 (.lst (ys.map V.ref))) p13 (eN (u ++ true :: false :: v)) := EndsAt.of upd_same (paired_imp (fun a b h => t13 _ _ h) pr2)
              refine ⟨_, _, (d13.same t13).dp, x13.dp, dE_shaped _, dE_shaped _, _, rfl, ?_⟩
              rw [dE_self]
              have el13 : upd (upd H12 p5 (.dT (zv ιe G))) p13 (.lst (ys.map V.ref)) pl = some (.lst [V.str (tx (u ++ true :: v)), V.str (tx (u ++ false :: v))]) := t13 _ _ (by rw [upd_ne ne5]; exact el12)
              have z2 : z % 2 = 0 ∨ z % 2 = 1 := by omega
              obtain ⟨w2, hw2, hat, hw21, hw22⟩ : ∃ w2 : List Bool, (w2 = u ++ true :: v ∨ w2 = u ++ false :: v) ∧ atI [V.str (tx (u ++ true :: v)), V.str (tx (u ++ false :: v))] (z % 2) = some (.str (tx w2)) ∧ 1 ≤ w2.length ∧ w2.length ≤ 30 := by
                rcases z2 with h | h
                · rw [h]
                  exact ⟨_, .inl rfl, rfl, by rw [List.length_append, List.length_cons]; omega, hA⟩
                · rw [h]
                  exact ⟨_, .inr rfl, rfl, by rw [List.length_append, List.length_cons]; omega, hB⟩
              refine iteF ⟨.ref pl, rfl, .int z, rfl, z, 2, rfl, rfl, (show (0 : Int) < 2 by decide), pl, _, _, _, rfl, rfl, SqL.of el13, hat, ?_⟩
              exact ⟨w2, _, _, _, _, _, _, _, _, rfl, hw21, hw22, s13.trans t13⟩
      · rw [ef]
        subst eb
        refine ⟨.int (u.length : Int), rfl, (u.length : Int), 0, rfl, rfl, _, rfl, iteF ?_⟩
        refine ⟨.int (u.length : Int), rfl, (u.length : Int), 0, rfl, rfl, _, rfl, iteF ?_⟩
        have tl : (tx (u ++ true :: false :: v)).length ≤ sizeLine := tx_fit (by omega)
        have c1 : cutS (tx (u ++ true :: false :: v)) none (some ((u.length : Int) + 1)) = tx (u ++ [true]) := by
          rw [show (u.length : Int) + 1 = ((u.length + 1 : Nat) : Int) from rfl, cut_to, List.take_append]
          rw [List.take_of_length_le (Nat.le_succ _)]; simp
        have c2 : cutS (tx (u ++ true :: false :: v)) (some ((u.length : Int) + 2)) none = tx v := by
          rw [show (u.length : Int) + 2 = ((u.length + 2 : Nat) : Int) from rfl, cut_from, List.drop_append]
          rw [List.drop_eq_nil_of_le (show u.length ≤ u.length + 2 by omega)]; simp
        have c3 : cutS (tx (u ++ true :: false :: v)) none (some (u.length : Int)) = tx u := by
          rw [cut_to, List.take_append]
          simp
        have c4 : cutS (tx (u ++ true :: false :: v)) (some ((u.length : Int) + 1)) none = tx (false :: v) := by
          rw [show (u.length : Int) + 1 = ((u.length + 1 : Nat) : Int) from rfl, cut_from, List.drop_append]
          rw [List.drop_eq_nil_of_le (Nat.le_succ _)]; simp
        have l3 : u.length + v.length + 2 ≤ 30 := by
          simp only [List.length_append, List.length_cons] at h30
          omega
        have hA : (u ++ true :: v).length ≤ 30 := by rw [List.length_append, List.length_cons]; omega
        have hB : (u ++ false :: v).length ≤ 30 := by rw [List.length_append, List.length_cons]; omega
        refine ⟨.str (tx _), rfl, .int (u.length : Int), rfl, (u.length : Int), 1, rfl, rfl, _, rfl, tx _, rfl, tl, ?_⟩
        refine ⟨.str (tx _), rfl, .int (u.length : Int), rfl, (u.length : Int), 2, rfl, rfl, _, rfl, tx _, rfl, tl, ?_⟩
        rw [c1, c2]
        refine ⟨tx (u ++ [true]), tx v, rfl, rfl, (by rw [tx_len, tx_len, List.length_append]; exact Nat.le_trans (show _ ≤ 100 by simp; omega) (by decide)), ?_⟩
        refine ⟨.str (tx _), rfl, .int (u.length : Int), rfl, _, rfl, tx _, rfl, tl, ?_⟩
        refine ⟨.str (tx _), rfl, .int (u.length : Int), rfl, (u.length : Int), 1, rfl, rfl, _, rfl, tx _, rfl, tl, ?_⟩
        rw [c3, c4]
        refine ⟨tx u, tx (false :: v), rfl, rfl, (by rw [tx_len, tx_len]; exact Nat.le_trans (show _ ≤ 100 by simp; omega) (by decide)), ?_⟩
        rw [tx_app, tx_app, show u ++ [true] ++ v = u ++ true :: v by simp]
        refine ⟨(by show 2 ≤ sizeLine; decide), fun pl nl => ?_⟩
        have s4 := s3.trans (same_upd (o := .lst [V.str (tx (u ++ true :: v)), V.str (tx (u ++ false :: v))]) nl)
        have npl := s3.free nl
        have el : upd H3 pl (.lst [V.str (tx (u ++ true :: v)), V.str (tx (u ++ false :: v))]) pl = some (.lst [V.str (tx (u ++ true :: v)), V.str (tx (u ++ false :: v))]) := upd_same
        clear c1 c2 c3 c4
        generalize upd H3 pl (.lst [V.str (tx (u ++ true :: v)), V.str (tx (u ++ false :: v))]) = H4 at el s4
        refine fun p5 n5 => ?_
        have s5 := s4.trans (same_upd (o := .dT []) n5)
        have np5 := s4.free n5
        have ne5 : pl ≠ p5 := ne_of_none el n5
        have e5 : upd H4 p5 (.dT []) p5 = some (.dT []) := upd_same
        replace el := same_upd (o := .dT []) n5 _ _ el
        generalize upd H4 p5 (.dT []) = H5 at el s5 e5
        refine ⟨.ref pl, rfl, pl, _, 0, .str (tx (u ++ true :: v)), rfl, rfl, SqL.of el, rfl, .str (tx (u ++ true :: v)), rfl, .inl ⟨u ++ true :: v, rfl, hA, fun H6 p6 acc6 s6 n6 e6 g6 l6 => ?_⟩⟩
        refine ⟨.ref pl, rfl, pl, _, 1, .str (tx (u ++ false :: v)), rfl, rfl, SqL.of (s6 _ _ el), rfl, .str (tx (u ++ false :: v)), rfl, .inl ⟨u ++ false :: v, rfl, hB, fun H7 p7 acc7 s7 n7 e7 g7 l7 => ?_⟩⟩
        refine ⟨p6, p7, acc6, acc7, rfl, rfl, s7 _ _ e6, e7, Nat.le_trans (show acc6.length + acc7.length ≤ 5000 by omega) (by decide), fun p8 n8 => ⟨p8, rfl, ⟨_, SqL.of upd_same⟩, ?_⟩⟩
        have t8 := same_upd (o := .lst (acc6 ++ acc7)) n8
        have g8 : TupG (upd H7 p8 (.lst (acc6 ++ acc7))) f3i (eN (u ++ true :: v) ++ eN (u ++ false :: v)) (acc6 ++ acc7) := tupG_same t8 (tupG_app (tupG_same s7 g6) g7)
        have s8 := s5.trans (s6.trans (s7.trans t8))
        have e8 : upd H7 p8 (.lst (acc6 ++ acc7)) p8 = some (.lst (acc6 ++ acc7)) := upd_same
        have ne8 : p5 ≠ p8 := ne_of_none (s7 _ _ (s6 _ _ e5)) n8
        replace el := t8 _ _ (s7 _ _ (s6 _ _ el))
        replace e5 := t8 _ _ (s7 _ _ (s6 _ _ e5))
        have lw : ∀ F : Nat → Nat → Rat, ds (φF F) (eN (u ++ true :: v) ++ eN (u ++ false :: v)) = wF F (u ++ true :: false :: v) := fun F => by
          rw [ds_app, eN_ds, eN_ds, wF_of]
        have lpos : ∀ e ∈ eN (u ++ true :: v) ++ eN (u ++ false :: v), 0 < e.2 := fun e he => by
          rcases List.mem_append.mp he with he | he
          · exact (eN_sd _).2 e he
          · exact (eN_sd _).2 e he
        have llen : (eN (u ++ true :: v) ++ eN (u ++ false :: v)).length ≤ 5000 := by
          rw [← tupG_len g8, List.length_append]
          omega
        generalize upd H7 p8 (.lst (acc6 ++ acc7)) = H8 at g8 s8 e8 el e5
        generalize eN (u ++ true :: v) ++ eN (u ++ false :: v) = LL at g8 lw lpos llen
        clear t8 s7 s6 s5 n8 n7 n6 e7 e6 g7 g6 l7 l6
        refine for_list (K := K) (a := p8) (xs := acc6 ++ acc7) (fun j σ H9 => ∃ (G : List En) (y6 y7 y8 : Option V), σ = [some (.str (tx (u ++ true :: false :: v))), some (.ref a), some (.int z), some (.int (u.length : Int)), some (.ref pl), some (.ref p5), y6, y7, y8, y9] ∧ Same H H9 ∧
          H9 pl = some (.lst [V.str (tx (u ++ true :: v)), V.str (tx (u ++ false :: v))]) ∧ H9 p8 = some (.lst (acc6 ++ acc7)) ∧ TupG H9 f3i LL (acc6 ++ acc7) ∧ H9 p5 = some (.dT (zv ιe G)) ∧ Tp (fun _ => True) j G ∧ ∀ F : Nat → Nat → Rat, ds (φF F) G = ds (φF F) (LL.take j))
          ⟨[], y6, y7, y8, rfl, s8, el, e8, g8, e5, .nil, fun F => rfl⟩ (fun j σ H9 _ ⟨_, _, _, _, _, _, _, e, _⟩ => SqL.of e) ?_ ?_
        · rintro j x σ H9 hx ⟨G, y6, y7, y8, rfl, s9, el9, e89, g9, e59, tG, bal⟩
          have hj : j < LL.length := by
            rw [← tupG_len g9]
            exact (List.getElem?_eq_some_iff.mp hx).1
          have hLj : LL[j]? = some LL[j] := List.getElem?_eq_getElem hj
          obtain ⟨pt, et1, et2⟩ := tupG_at g9 hLj
          rw [hx] at et1
          obtain rfl := Option.some.inj et1
          have ep := lpos LL[j] (List.getElem_mem hj)
          have bal' : ∀ F : Nat → Nat → Rat, ds (φF F) (LL.take (j + 1)) = ds (φF F) (LL.take j) + (LL[j].2 : Rat) * φF F LL[j].1 := fun F => ds_take hLj
          generalize LL[j] = e at et2 ep bal'
          obtain ⟨⟨ea, eb⟩, em⟩ := e
          refine ⟨pt, _, rfl, SqT.of et2, rfl, _, _, rfl, _, _, rfl, _, _, rfl, rfl, ?_⟩
          refine ⟨.ref p5, rfl, p5, rfl, .inr ⟨_, .inl e59⟩, .int (ea : Int), rfl, .int (eb : Int), rfl, (by show 2 ≤ sizeLine; decide), fun pe ne => ?_⟩
          have sp := same_upd (o := .tup [V.int (ea : Int), V.int (eb : Int)]) ne
          have epe : upd H9 pe (.tup [V.int (ea : Int), V.int (eb : Int)]) pe = some (.tup ((ιe (ea, eb)).map kV)) := upd_same
          refine ⟨_, DGet.t (k := ιe (ea, eb)) (sp _ _ e59) epe, .int em, rfl, gz (ea, eb) G, em, val_zv ιe_inj (ea, eb) G, rfl, ?_⟩
          have s10 := s9.trans sp
          replace e59 := sp _ _ e59
          replace el9 := sp _ _ el9
          replace e89 := sp _ _ e89
          replace g9 := tupG_same sp g9
          generalize upd H9 pe (.tup [V.int (ea : Int), V.int (eb : Int)]) = H10 at s10 e59 el9 e89 g9
          have gl : (zv ιe G).length < sizeLine := by
            rw [zv_len]
            have := tG.n
            exact Nat.lt_of_lt_of_le (show G.length < 10000 by omega) (by decide)
          refine ⟨.ref p5, rfl, .int (ea : Int), rfl, .int (eb : Int), rfl, (by show 2 ≤ sizeLine; decide), fun pe2 ne2 => ?_⟩
          have sq := same_upd (o := .tup [V.int (ea : Int), V.int (eb : Int)]) ne2
          have epe2 : upd H10 pe2 (.tup [V.int (ea : Int), V.int (eb : Int)]) pe2 = some (.tup ((ιe (ea, eb)).map kV)) := upd_same
          refine ⟨p5, _, rfl, DPut.t (sq _ _ e59) epe2 gl, pz (ea, eb) em G, _, _, _, rfl, same_new np5 (s10.trans sq), ?_, ?_, ?_, ?_, tG.put trivial ep, fun F => ?_⟩
          · rw [upd_ne ne5]; exact sq _ _ el9
          · rw [upd_ne (_root_.Ne.symm ne8)]; exact sq _ _ e89
          · exact tupG_updT (fun xs h => by rw [sq _ _ e59] at h; cases h) (tupG_same sq g9)
          · rw [upd_same, put_zv ιe_inj (ea, eb) em tG.o]
          · rw [ds_pz, bal F, bal' F]
        · rintro σ H9 ⟨G, y6, y7, y8, rfl, s9, el9, e89, g9, e59, tG, bal⟩
          rw [tupG_len g9] at tG bal
          have tot : ∀ F : Nat → Nat → Rat, ds (φF F) G = wF F (u ++ true :: false :: v) := fun F => by rw [bal F, List.take_length, lw F]
          have gn := tG.n
          clear bal g9 e89 lw lpos
          refine ⟨.str (tx (u ++ true :: false :: v)), rfl, .str (tx (u ++ true :: false :: v)), rfl, .inl ⟨u ++ true :: false :: v, rfl, h30, fun H10 p10 acc10 s10 n10 e10 g10 l10 => ?_⟩⟩
          replace e59 := s10 _ _ e59
          replace el9 := s10 _ _ el9
          have s10' := s9.trans s10
          clear s9 s10
          have d10 : EndsAt H10 p10 (eN (u ++ true :: false :: v)) := ⟨acc10, e10, g10⟩
          have ne10 : p10 ≠ p5 := fun z => by rw [z, e59] at e10; cases e10
          refine ⟨p5, .dT (zv ιe G), e59, trivial, fun od => ?_⟩
          refine ⟨.ref p5, rfl, p5, od, rfl, .inr ⟨zv ιe G, upd_same, fun D nD => ?_⟩⟩
          have e11 : upd H10 p5 (.frz od (.dT (zv ιe G))) p5 = some (.frz od (.dT (zv ιe G))) := upd_same
          have s11 : Same H (upd H10 p5 (.frz od (.dT (zv ιe G)))) := same_new np5 s10'
          have d11 : EndsAt (upd H10 p5 (.frz od (.dT (zv ιe G)))) p10 (eN (u ++ true :: false :: v)) := ⟨acc10, by rw [upd_ne ne10]; exact e10, tupG_updT (fun xs h => by rw [e59] at h; cases h) g10⟩
          have el11 : upd H10 p5 (.frz od (.dT (zv ιe G))) pl = some (.lst [V.str (tx (u ++ true :: v)), V.str (tx (u ++ false :: v))]) := by rw [upd_ne ne5]; exact el9
          have nD0 := s11.free nD
          have neD : p5 ≠ D := ne_of_none e11 nD
          have nlD : pl ≠ D := ne_of_none el11 nD
          have ndD : p10 ≠ D := fun z => by
            obtain ⟨_, e, _⟩ := d11
            rw [z, nD] at e
            cases e
          generalize upd H10 p5 (.frz od (.dT (zv ιe G))) = H11 at e11 s11 nD d11 el11
          refine lc_it walk_keysT (fun j H12 => Same H H12 ∧ H12 p5 = some (.frz od (.dT (zv ιe G))) ∧ EndsAt H12 p10 (eN (u ++ true :: false :: v)) ∧ H12 pl = some (.lst [V.str (tx (u ++ true :: v)), V.str (tx (u ++ false :: v))]) ∧ ∃ ts : List Addr, H12 D = some (.lst (ts.map V.ref)) ∧ ts.length ≤ j ∧ Paired (fun t e => H12 t = some (.tup (f3i e))) ts (G.take j))
            ⟨same_new nD0 s11, (by rw [upd_ne neD]; exact e11), d11.same (same_upd nD), (by rw [upd_ne nlD]; exact el11), [], upd_same, Nat.le_refl _, .nil⟩ (fun j H12 _ h => h.2.1) ?_ ?_
          · rintro j v0 H12 H12b hj ⟨s12, f12, d12, el12, ts, eD, tl2, pr⟩ ⟨rfl, k0, v1, qk, hk, rfl, eq⟩
            obtain ⟨e, c, he, rfl, rfl⟩ := zv_at hk
            refine ⟨rfl, .ref qk, rfl, qk, _, 0, .int (e.1 : Int), rfl, rfl, SqT.of eq, rfl, .ref qk, rfl, qk, _, 1, .int (e.2 : Int), rfl, rfl, SqT.of eq, rfl, ?_⟩
            refine ⟨.ref p5, rfl, .ref qk, rfl, p5, .int c, rfl, .inr ⟨_, ιe e, qk, .inr ⟨od, f12⟩, rfl, eq, (val_in ιe_inj tG.o he).symm⟩, (by show 3 ≤ sizeLine; decide), fun t nt => ?_⟩
            have st := same_upd (o := .tup [V.int (e.1 : Int), V.int (e.2 : Int), V.int c]) nt
            have jl : j < G.length := by rw [zv_len] at hj; exact hj
            have nDt : D ≠ t := ne_of_none eD nt
            refine ⟨ts.map V.ref, st _ _ eD, ?_, same_new nD0 (s12.trans st), ?_, ?_, ?_, ts ++ [t], ?_, ?_, ?_⟩
            · rw [List.length_map]; exact Nat.lt_of_lt_of_le (show ts.length < 10000 by omega) (by decide)
            · rw [upd_ne neD]; exact st _ _ f12
            · exact (d12.same st).other (st _ _ eD) ndD
            · rw [upd_ne nlD]; exact st _ _ el12
            · rw [upd_same, List.map_append]; rfl
            · rw [List.length_append]; exact Nat.succ_le_succ tl2
            · rw [List.take_add_one, he]
              refine paired_snoc (paired_imp (fun a b h => ?_) pr) ?_
              · rw [upd_ne (fun z => by rw [z, eD] at h; cases h)]; exact st _ _ h
              · rw [upd_ne (_root_.Ne.symm nDt), upd_same]; rfl
          · rintro H12 ⟨s12, f12, d12, el12, ts, eD, tl2, pr⟩
            rw [zv_len, List.take_length] at pr
            have pr0 : Paired (fun t e => upd H12 p5 (.dT (zv ιe G)) t = some (.tup (f3i e))) ts G := paired_imp (fun a b h => by
              rw [upd_ne (fun z => by rw [z, f12] at h; cases h)]; exact h) pr
            refine ⟨f12, D, ts, trK (upd H12 p5 (.dT (zv ιe G))), rfl, SqL.of (by rw [upd_ne (_root_.Ne.symm neD)]; exact eD), srt_keys pr0, fun ys p13 py sy n13 => ?_⟩
            obtain ⟨G2, pg, pr2⟩ := paired_perm py pr0
            have s13 : Same H (upd H12 p5 (.dT (zv ιe G))) := same_new np5 s12
            have t13 := same_upd (o := .lst (ys.map V.ref)) n13
            have sd := tp_sorted tG pg (srt_ends pr2 sy)
            have eG : G2 = eN (u ++ true :: false :: v) := eN_is sd fun F => (ds_permF _ pg).trans (tot F)
            subst eG
            have d13 : EndsAt (upd H12 p5 (.dT (zv ιe G))) p10 (eN (u ++ true :: false :: v)) := by
              obtain ⟨vs, e, g⟩ := d12
              exact ⟨vs, by rw [upd_ne ne10]; exact e, tupG_updT (fun xs h => by rw [f12] at h; cases h) g⟩
            have x13 : EndsAt (upd (upd H12 p5 (.dT (zv ιe G))) p13 (.lst (ys.map V.ref))) p13 (eN (u ++ true :: false :: v)) := EndsAt.of upd_same (paired_imp (fun a b h => t13 _ _ h) pr2)
            refine ⟨_, _, (d13.same t13).dp, x13.dp, dE_shaped _, dE_shaped _, _, rfl, ?_⟩
            rw [dE_self]
            have el13 : upd (upd H12 p5 (.dT (zv ιe G))) p13 (.lst (ys.map V.ref)) pl = some (.lst [V.str (tx (u ++ true :: v)), V.str (tx (u ++ false :: v))]) := t13 _ _ (by rw [upd_ne ne5]; exact el12)
            have z2 : z % 2 = 0 ∨ z % 2 = 1 := by omega
            obtain ⟨w2, hw2, hat, hw21, hw22⟩ : ∃ w2 : List Bool, (w2 = u ++ true :: v ∨ w2 = u ++ false :: v) ∧ atI [V.str (tx (u ++ true :: v)), V.str (tx (u ++ false :: v))] (z % 2) = some (.str (tx w2)) ∧ 1 ≤ w2.length ∧ w2.length ≤ 30 := by
              rcases z2 with h | h
              · rw [h]
                exact ⟨_, .inl rfl, rfl, by rw [List.length_append, List.length_cons]; omega, hA⟩
              · rw [h]
                exact ⟨_, .inr rfl, rfl, by rw [List.length_append, List.length_cons]; omega, hB⟩
            refine iteF ⟨.ref pl, rfl, .int z, rfl, z, 2, rfl, rfl, (show (0 : Int) < 2 by decide), pl, _, _, _, rfl, rfl, SqL.of el13, hat, ?_⟩
            exact ⟨w2, _, _, _, _, _, _, _, _, rfl, hw21, hw22, s13.trans t13⟩
    · rintro σ H3 ⟨bs, y2, y3, y4, y5, y6, y7, y8, y9, rfl, h1, h30, s3⟩
      exact q _ s3
end
end Hop

set_option Elab.async false
set_option linter.all false
set_option maxRecDepth 100000
set_option exponentiation.threshold 200000
namespace HopR
open PySem L2
theorem isWord_app {z : Str} {c : Nat} (h : okc c = false) : isWordB (z ++ ⟨#[c]⟩) = false := by
  unfold isWordB
  have e : (z ++ (⟨#[c]⟩ : Str)).cps.toList = z.cps.toList ++ [c] := Array.toList_append
  rw [e, List.all_append, List.all_cons, h]
  simp
theorem isWord_long {z : Str} (h : 30 < z.length) : isWordB z = false := by
  unfold isWordB
  rw [decide_eq_false (by omega)]
  rfl
theorem app_len (z : Str) (c : Nat) : (z ++ (⟨#[c]⟩ : Str)).length = z.length + 1 := by
  show (z.cps ++ #[c]).size = z.cps.size + 1
  simp
theorem sign_x : ("x" : Str) = ⟨#[120]⟩ := by decide +kernel
theorem rep_sg (b : Bool) (m : Nat) : repS (tx [b]) m = tx (List.replicate m b) := by
  unfold repS tx
  congr 2
  show (List.replicate m ([b].map cd)).flatten = _
  rw [List.map_replicate]
  exact flat_rep (cd b) m
theorem rep_f (m : Nat) : repS "." m = tx (List.replicate m false) := by rw [tx_f, rep_sg]
theorem rep_o (m : Nat) : repS "o" m = tx (List.replicate m true) := by rw [tx_o, rep_sg]
theorem draws5 {c z0 z1 z2 z3 z4 : Int} (h0 : 0 < z0) (h1 : 0 < z1) (h2 : 0 < z2) (h3 : 0 < z3) (h4 : 0 < z4) : ∃ d0 d1 d2 d3 d4 : Int, draws c 0 [z0, z1, z2, z3, z4] = [d0, d1, d2, d3, d4] ∧ (0 ≤ d0 ∧ d0 < z0) ∧ (0 ≤ d1 ∧ d1 < z1) ∧ (0 ≤ d2 ∧ d2 < z2) ∧ (0 ≤ d3 ∧ d3 < z3) ∧ (0 ≤ d4 ∧ d4 < z4) := ⟨_, _, _, _, _, rfl, dval_ok h0, dval_ok h1, dval_ok h2, dval_ok h3, dval_ok h4⟩
theorem nat_of {d : Int} (h : 0 ≤ d) : ∃ m : Nat, d = (m : Int) := ⟨d.toNat, by omega⟩
end HopR
namespace Hop
open PySem L2 HopR HopW HopT
section
variable {P : Program} {w : World} {K : PySem.W.Frag} {mg : Str → Option Value} {base : Heap} {d : Addr} {es : Array DictEntry} {n : Nat} {HE NN NW NP : Addr}
/-! ### law -/
abbrev nLaw : List Str := ["_law_script", "_law_cell", "_law_word", "_law_draws", "_law_beads", "_law_frees", "_law_great_here", "_law_one", "_law_due", "_law_bad"]
theorem scLaw : FnScope nLaw ["_law_script"] (defScope sLaw) := ⟨rfl, rfl, rfl, by decide +kernel, rfl, by decide +kernel, by decide +kernel⟩
def spLaw (K : PySem.W.Frag) : Sp := fun vs H Q _ => ∃ (a : Addr) (ns : List Int), vs = [.ref a] ∧ SqL K H a (ns.map V.int) ∧ ns.length ≤ 63 ∧ ∀ H', Q (.bl true) H'
theorem tp_mv {B f L c p q : Nat} {rest : Nat × Nat → Prop} {G : List En} (h : Fd B f L c rest G) : Tp (fun _ => True) c (G.map (mv p q)) := ⟨once_mv h.o, fun e he => by
  obtain ⟨x, hx, rfl⟩ := List.mem_map.mp he
  exact ⟨trivial, (h.p x hx).1⟩, by rw [List.length_map]; exact h.n⟩
set_option maxHeartbeats 16000000 in
theorem ok_law {f fe fl fg fn fr fh fw fq : Addr} {fd ge gl gg gn gr gh gw' gq : FuncData} (F : Fun K "law" "law" sLaw f fd) (Ne : Fn K mg "ends_of" sEndsOf ["word"] fe ge) (N : EnDefs K mg)
    (Nl : Fn K mg "_law_ends" sLEnds ["_law_word"] fl gl) (Ng : Fn K mg "_law_great" sLGreat ["_law_beads", "_law_frees"] fg gg) (Nn : Fn K mg "_law_none" sLNone ["_law_thing"] fn gn) (Nr : Fn K mg "_law_right" sLRight ["_law_word", "_law_due"] fr gr)
    (Nh : Fn K mg "_law_halved" sLHalved ["_law_word", "_law_draws"] fh gh) (Nw : Fn K mg "_law_drawn" sDrawn ["_law_cell", "_law_sizes"] fw gw') (Nq : Fn K mg "_law_row" sLRow ["_law_cell", "_law_most"] fq gq)
    (T : Txt K w mg d es n) (T0 : TxtL mg) (Z : Er K mg HE NN NW NP) : FnOkG P w K mg base CX0 6 f fd ["_law_script"] (spLaw K) := by
  have Gl : FnOk P w K mg base CX0 5 fl gl ["_law_word"] spLEnds := ok_lends Nl.F T
  have Gg : FnOk P w K mg base CX0 5 fg gg ["_law_beads", "_law_frees"] spGreat := ok_lgreat Ng.F T
  have Gn : FnOk P w K mg base CX0 5 fn gn ["_law_thing"] (spNone K) := ok_lnone Nn.F Ne N T T0 Z
  have Gr : FnOkG P w K mg base CX0 5 fr gr ["_law_word", "_law_due"] spRight := ok_lright Nr.F Ne N T T0 Z
  have Gh : FnOk P w K mg base CX0 5 fh gh ["_law_word", "_law_draws"] (spHalved K) := ok_lhalved Nh.F Ne N T T0 Z
  have Gd : FnOk P w K mg base CX0 5 fw gw' ["_law_cell", "_law_sizes"] (spDrawn K) := ok_drawn Nw.F T.len T.range
  have Gq : FnOk P w K mg base CX0 5 fq gq ["_law_cell", "_law_most"] spLRow := ok_lrow Nq.F Nw T.len T.range T.sorted
  refine okG F scLaw (fun vs H Q E h => ?_) (fun cdv A outer s H vs Q E hG hr h => ?_)
  · obtain ⟨a, ns, rfl, _⟩ := h
    rfl
  · obtain ⟨a, ns, rfl, hS, hlen, q⟩ := h
    have nd := scLaw.nd
    have hu := hu_of hr
    refine ⟨_, pss_cons (ps_for PassesOwn.never rfl (pi_list (pe_op op_cat (pe_slice sl_list (pv 0) po_none (po_some pe_int)) (pe_lst (pa_cons pe_int pa_nil)))) (pg_name (i := 1) nd rfl (.inl rfl))
        (pss_cons (ps_set (i := 2) nd rfl (.inl rfl) (pe_call Gq hr (by rfl) Nq.g Nq.F.kp Nq.b .nil pass0 (pa_cons (pv 1) (pa_cons pe_int pa_nil))))
        (pss_cons (ps_if (PW.pt (pw_or (pt_not (pt_val (pe_callG Gr hG hr (by rfl) Nr.g Nr.F.kp Nr.b .nil pass0 (pa_cons (pv 2) (pa_cons (pe_call Gl hr (by rfl) Nl.g Nl.F.kp Nl.b .nil pass0 (pa_cons (pv 2) pa_nil)) pa_nil)))))
            (pw_or1 (pt_not (pt_val (pe_callG Gr hG hr (by rfl) Nr.g Nr.F.kp Nr.b .nil pass0 (pa_cons pe_str (pa_cons (pe_lst (pa_cons (pe_tup (pa_cons pe_int (pa_cons pe_int (pa_cons pe_int pa_nil)))) pa_nil)) pa_nil))))))))
          (pss_one (ps_ret pe_bl)) pss_nil)
        (pss_cons (ps_set (i := 3) nd rfl (.inr rfl) (pe_call Gd hr (by rfl) Nw.g Nw.F.kp Nw.b .nil pass0 (pa_cons (pe_op op_fdiv (pv 1) pe_int) (pa_cons (pe_lst (pa_cons pe_int (pa_cons pe_int (pa_cons pe_int (pa_cons pe_int (pa_cons pe_int pa_nil)))))) pa_nil))))
        (pss_cons (ps_par (i := 4) (j := 5) (by rfl) nd rfl rfl (by decide) rfl rfl (pa_cons (pe_op op_add pe_int (pe_ix ix_list (pv 3) pe_int (fun _ _ => rfl))) (pa_cons (pe_op op_add pe_int (pe_ix ix_list (pv 3) pe_int (fun _ _ => rfl))) pa_nil)) (by rfl))
        (pss_cons (ps_set (i := 6) nd rfl (.inr rfl) (pe_call Gg hr (by rfl) Ng.g Ng.F.kp Ng.b .nil pass0 (pa_cons (pv 4) (pa_cons (pv 5) pa_nil))))
        (pss_cons (ps_set (i := 8) nd rfl (.inl rfl) (pe_callB (show CallR _ (.builtin "sorted") (rSortedQ K) from cr_sortedQ) (by rfl) T.sorted (by decide +kernel) (pa_cons (pe_lock (pe_lc (own := [("_law_one", 7)]) (g := gName 7) (tt := tYes) (by rfl) nd (pi_keys (pv 6)) (blkOk_by (own := [("_law_one", 7)]) (N := nLaw) (sc := defScope sLaw) (by decide +kernel)) (fun _ _ _ _ _ => pg_name (i := 7) nd rfl (Or.inl rfl)) (fun _ _ _ _ _ => pts_nil)
          (fun _ _ _ _ _ => pe_tup (pa_cons (pe_op (show OpR _ (binaryOp .Add) (rI0 fun i j => V.int (i + j)) from op_add) (pe_ix (show IxR _ (rIxT K) from ix_tup) (pv 7) pe_int (fun _ _ => rfl)) (pe_ix (show IxR _ (rIxL K) from ix_list) (pv 3) pe_int (fun _ _ => rfl))) (pa_cons (pe_op (show OpR _ (binaryOp .Add) (rI0 fun i j => V.int (i + j)) from op_add) (pe_ix (show IxR _ (rIxT K) from ix_tup) (pv 7) pe_int (fun _ _ => rfl)) (pe_ix (show IxR _ (rIxL K) from ix_list) (pv 3) pe_int (fun _ _ => rfl))) (pa_cons (pe_dget (by assumption) (pv 6) (pv 7) (fun _ _ => rfl)) pa_nil)))))) pa_nil)))
        (pss_cons (ps_if (pt_not (pt_val (pe_callG Gr hG hr (by rfl) Nr.g Nr.F.kp Nr.b .nil pass0 (pa_cons (pe_op op_add_str (pe_op op_add_str (pe_op op_add_str (pe_op op_repS pe_str (pe_ix ix_list (pv 3) pe_int (fun _ _ => rfl))) (pe_op op_repS pe_str (pv 4))) (pe_op op_repS pe_str (pv 5))) (pe_op op_repS pe_str (pe_ix ix_list (pv 3) pe_int (fun _ _ => rfl)))) (pa_cons (pv 8) pa_nil)))))
          (pss_one (ps_ret pe_bl)) pss_nil)
        (pss_cons (ps_if (pt_not (pt_val (pe_call Gh hr (by rfl) Nh.g Nh.F.kp Nh.b .nil pass0 (pa_cons (pe_call Gq hr (by rfl) Nq.g Nq.F.kp Nq.b .nil pass0 (pa_cons (pe_op op_fdiv (pv 1) pe_int) (pa_cons pe_int pa_nil))) (pa_cons (pe_lst (pa_cons (pe_ix ix_list (pv 3) pe_int (fun _ _ => rfl)) (pa_cons (pe_ix ix_list (pv 3) pe_int (fun _ _ => rfl)) (pa_cons (pe_op op_add (pe_op op_mul pe_int (pe_ix ix_list (pv 3) pe_int (fun _ _ => rfl))) pe_int) (pa_cons (pe_ix ix_list (pv 3) pe_int (fun _ _ => rfl)) (pa_cons (pe_op op_mul pe_int (pe_ix ix_list (pv 3) pe_int (fun _ _ => rfl))) pa_nil)))))) pa_nil)))))
          (pss_one (ps_ret pe_bl)) pss_nil)
        (pss_cons (ps_set (i := 9) nd rfl (.inl rfl) (pe_ix ix_list (pe_lst (pa_cons pe_non (pa_cons pe_int (pa_cons pe_bl (pa_cons (pe_lst (pa_cons (pv 2) pa_nil)) (pa_cons (pe_tup (pa_cons (pv 2) pa_nil)) (pa_cons (pe_op op_add_str (pv 2) pe_str) (pa_cons (pe_op op_repS (pv 2) pe_int) (pa_cons pe_dnewK pa_nil))))))))) (pe_ix ix_list (pv 3) pe_int (fun _ _ => rfl)) (fun _ _ => rfl)))
        (pss_one (ps_if (pt_not (pt_val (pe_call Gn hr (by rfl) Nn.g Nn.F.kp Nn.b .nil pass0 (pa_cons (pv 9) pa_nil))))
          (pss_one (ps_ret pe_bl)) pss_nil))))))))))))
      (pss_one (ps_ret pe_bl)), ?_⟩
    refine ⟨.ref a, rfl, 20, rfl, a, _, rfl, hS, fun p np => ⟨(by show 1 ≤ sizeLine; decide), fun p2 np2 => ?_⟩⟩
    have npp : p ≠ p2 := fun e => by
      rw [← e, upd_same] at np2
      cases np2
    obtain ⟨zs, ez, hzl⟩ := cut_ints ns 20 hlen
    rw [ez]
    refine ⟨p, p2, zs.map V.int, [.int 0], rfl, rfl, by rw [upd_ne npp, upd_same], upd_same, ?_, fun p3 np3 => ?_⟩
    · rw [List.length_map]
      exact Nat.le_trans (Nat.add_le_add_right hzl 1) (by decide)
    have ecat : zs.map V.int ++ [V.int 0] = (zs ++ [0]).map V.int := by rw [List.map_append]; rfl
    rw [ecat]
    refine ⟨p3, rfl, ⟨_, SqL.of upd_same⟩, ?_⟩
    generalize hH2 : upd (upd (upd H p (.lst (zs.map V.int))) p2 (.lst [.int 0])) p3 (.lst ((zs ++ [0]).map V.int)) = H2
    have e3 : H2 p3 = some (.lst ((zs ++ [0]).map V.int)) := by
      rw [← hH2, upd_same]
    refine for_list (K := K) (a := p3) (xs := (zs ++ [0]).map V.int) (fun i σ H3 => ∃ y1 y2 y3 y4 y5 y6 y7 y8 y9, σ = [some (.ref a), y1, y2, y3, y4, y5, y6, y7, y8, y9] ∧ Same H2 H3) ⟨_, _, _, _, _, _, _, _, _, rfl, Same.refl _⟩ (fun i σ H3 _ ⟨_, _, _, _, _, _, _, _, _, _, h⟩ => SqL.of (h _ _ e3)) ?_ ?_
    · rintro i x σ H3 hx ⟨y1, y2, y3, y4, y5, y6, y7, y8, y9, rfl, s3⟩
      rw [List.getElem?_map] at hx
      obtain ⟨c, _, rfl⟩ := Option.map_eq_some_iff.mp hx
      -- the word, and its ends
      refine ⟨.int c, rfl, c, 11, rfl, by decide, by decide, fun H4 bs s4 h1 h11 => ?_⟩
      refine ⟨.str (tx bs), rfl, .str (tx bs), rfl, bs, rfl, h1, h11, fun H5 p5 ts s5 n5 e5 pr5 => ?_⟩
      refine ⟨bs, p5, rfl, Nat.le_trans h11 (by decide), EndsAt.of e5 pr5, fun H6 s6 => ⟨true, rfl, iteF ?_⟩⟩
      have s36 := s3.trans (s4.trans (s5.trans s6))
      clear s3 s4 s5 s6 e5 pr5 n5 H3 H4 H5
      refine ⟨(by show 3 ≤ sizeLine; decide), fun t7 n7 => ⟨(by show 1 ≤ sizeLine; decide), fun l7 m7 => ?_⟩⟩
      have u7 := same_upd (o := .tup [.int 0, .int 0, .int 1]) n7
      have e7 : upd H6 t7 (.tup [.int 0, .int 0, .int 1]) t7 = some (.tup (f3i ((0, 0), 1))) := upd_same
      generalize upd H6 t7 (.tup [.int 0, .int 0, .int 1]) = H7 at u7 e7 m7
      have v7 := same_upd (o := .lst [.ref t7]) m7
      refine ⟨[], l7, by rw [tx_nil]; rfl, by decide, ⟨_, upd_same, t7, [], rfl, v7 _ _ e7, rfl⟩, fun H8 s8 => ⟨true, rfl, iteF ?_⟩⟩
      have s38 := s36.trans (u7.trans (v7.trans s8))
      clear s36 u7 v7 s8 e7 n7 m7
      -- the draws
      refine ⟨.int c, rfl, c, 5, rfl, rfl, ⟨by decide, by decide⟩, (by show 5 ≤ sizeLine; decide), fun l8 n8 => ?_⟩
      refine ⟨c / 5, l8, [11, 11, 4, 4, 8], rfl, SqL.of upd_same, ?_, by decide, fun H9 p9 s9 n9 e9 => ?_⟩
      · intro z hz
        simp only [List.mem_cons, List.not_mem_nil, or_false] at hz
        rcases hz with rfl | rfl | rfl | rfl | rfl <;> exact ⟨by decide, by decide⟩
      obtain ⟨d0, d1, d2, d3, d4, ed, b0, b1, b2, b3, b4⟩ := draws5 (c := c / 5) (z0 := 11) (z1 := 11) (z2 := 4) (z3 := 4) (z4 := 8) (by decide) (by decide) (by decide) (by decide) (by decide)
      rw [ed] at e9
      have s39 := s38.trans ((same_upd n8).trans s9)
      clear s38 s9 n8 ed n9
      obtain ⟨m0, rfl⟩ := nat_of b0.1
      obtain ⟨m1, rfl⟩ := nat_of b1.1
      obtain ⟨m2, rfl⟩ := nat_of b2.1
      obtain ⟨m3, rfl⟩ := nat_of b3.1
      have e9 : H9 p9 = some (.lst [.int m0, .int m1, .int m2, .int m3, .int d4]) := e9
      refine ⟨.ref p9, rfl, p9, _, 0, .int m0, rfl, rfl, SqL.of e9, rfl, 2, (m0 : Int), rfl, rfl, .ref p9, rfl, p9, _, 1, .int m1, rfl, rfl, SqL.of e9, rfl, 2, (m1 : Int), rfl, rfl, _, _, rfl, ?_⟩
      obtain ⟨HA, hHA⟩ : ∃ HA, HA = H9 := ⟨H9, rfl⟩
      subst hHA
      have eA := e9
      have sA := s39
      clear e9 s39
      -- the great word
      refine ⟨.int (2 + (m0 : Int)), rfl, .int (2 + (m1 : Int)), rfl, 2 + m0, 2 + m1, rfl, by omega, by omega, fun HB pB G sB nB eB hG bal => ?_⟩
      refine ⟨pB, .dT (zv ιe G), eB, trivial, fun od => ⟨.ref pB, rfl, pB, od, rfl, .inr ⟨zv ιe G, upd_same, fun D nD => ?_⟩⟩⟩
      have eC : upd HB pB (.frz od (.dT (zv ιe G))) pB = some (.frz od (.dT (zv ιe G))) := upd_same
      have sC : Same HA (upd HB pB (.frz od (.dT (zv ιe G)))) := same_new nB sB
      have nD0 := sC.free nD
      have neD : pB ≠ D := ne_of_none eC nD
      generalize upd HB pB (.frz od (.dT (zv ιe G))) = HC at eC sC nD
      refine lc_it walk_keysT (fun j H12 => Same HA H12 ∧ H12 pB = some (.frz od (.dT (zv ιe G))) ∧ ∃ ts : List Addr, H12 D = some (.lst (ts.map V.ref)) ∧ ts.length ≤ j ∧ Paired (fun t e => H12 t = some (.tup (f3i e))) ts ((G.take j).map (mv m2 m3)))
        ⟨same_new nD0 sC, (by rw [upd_ne neD]; exact eC), [], upd_same, Nat.le_refl _, .nil⟩ (fun j H12 _ h => h.2.1) ?_ ?_
      · rintro j v0 H12 H12b hj ⟨s12, f12, ts, eD, tl2, pr⟩ ⟨rfl, k0, v1, qk, hk, rfl, eq⟩
        obtain ⟨e, cc, he, rfl, rfl⟩ := zv_at hk
        have eA12 := s12 _ _ eA
        refine ⟨rfl, .ref qk, rfl, qk, _, 0, .int (e.1 : Int), rfl, rfl, SqT.of eq, rfl, .ref p9, rfl, p9, _, 2, .int m2, rfl, rfl, SqL.of eA12, rfl, (e.1 : Int), (m2 : Int), rfl, rfl, ?_⟩
        refine ⟨.ref qk, rfl, qk, _, 1, .int (e.2 : Int), rfl, rfl, SqT.of eq, rfl, .ref p9, rfl, p9, _, 3, .int m3, rfl, rfl, SqL.of eA12, rfl, (e.2 : Int), (m3 : Int), rfl, rfl, ?_⟩
        refine ⟨.ref pB, rfl, .ref qk, rfl, pB, .int cc, rfl, .inr ⟨_, ιe e, qk, .inr ⟨od, f12⟩, rfl, eq, (val_in ιe_inj hG.o he).symm⟩, (by show 3 ≤ sizeLine; decide), fun t nt => ?_⟩
        have st := same_upd (o := .tup [V.int ((e.1 : Int) + (m2 : Int)), V.int ((e.2 : Int) + (m3 : Int)), V.int cc]) nt
        have jl : j < G.length := by rw [zv_len] at hj; exact hj
        have gn := hG.n
        have nDt : D ≠ t := ne_of_none eD nt
        refine ⟨ts.map V.ref, st _ _ eD, ?_, same_new nD0 (s12.trans st), ?_, ts ++ [t], ?_, ?_, ?_⟩
        · rw [List.length_map]; exact Nat.lt_of_lt_of_le (show ts.length < 10000 by omega) (by decide)
        · rw [upd_ne neD]; exact st _ _ f12
        · rw [upd_same, List.map_append]; rfl
        · rw [List.length_append]; exact Nat.succ_le_succ tl2
        · rw [List.take_add_one, he, List.map_append]
          refine paired_snoc (paired_imp (fun a b h => ?_) pr) ?_
          · rw [upd_ne (fun z => by rw [z, eD] at h; cases h)]; exact st _ _ h
          · rw [upd_ne (_root_.Ne.symm nDt), upd_same]; rfl
      · rintro H12 ⟨s12, f12, ts, eD, tl2, pr⟩
        rw [zv_len, List.take_length] at pr
        have pr0 : Paired (fun t e => upd H12 pB (.dT (zv ιe G)) t = some (.tup (f3i e))) ts (G.map (mv m2 m3)) := paired_imp (fun a b h => by
          rw [upd_ne (fun z => by rw [z, f12] at h; cases h)]; exact h) pr
        refine ⟨f12, D, ts, trK (upd H12 pB (.dT (zv ιe G))), rfl, SqL.of (by rw [upd_ne (_root_.Ne.symm neD)]; exact eD), srt_keys pr0, fun ys p13 py sy n13 => ?_⟩
        obtain ⟨G2, pg, pr2⟩ := paired_perm py pr0
        have s13 : Same HA (upd H12 pB (.dT (zv ιe G))) := same_new nB s12
        have t13 := same_upd (o := .lst (ys.map V.ref)) n13
        have sd := tp_sorted (tp_mv (p := m2) (q := m3) hG) pg (srt_ends pr2 sy)
        have eG : G2 = eN (gw m2 (2 + m0) (2 + m1) m3) := eN_is sd fun F => by rw [ds_permF _ pg, ds_mv, bal, wF_gw]
        subst eG
        have x13 : EndsAt (upd (upd H12 pB (.dT (zv ιe G))) p13 (.lst (ys.map V.ref))) p13 (eN (gw m2 (2 + m0) (2 + m1) m3)) := EndsAt.of upd_same (paired_imp (fun a b h => t13 _ _ h) pr2)
        have sX := sA.trans (s13.trans t13)
        have eX := t13 _ _ (s13 _ _ eA)
        generalize upd (upd H12 pB (.dT (zv ιe G))) p13 (.lst (ys.map V.ref)) = HX at x13 sX eX
        clear s13 t13 pr0 pr2 py sy sd pr eD f12 s12 n13 bal hG eC sC nD nD0 neD eB sB nB eA sA
        have lf : (".": Str).length = 1 := by decide +kernel
        have lo : ("o": Str).length = 1 := by decide +kernel
        refine ⟨.ref p9, rfl, p9, _, 2, .int m2, rfl, rfl, SqL.of eX, rfl, ".", m2, rfl, rfl, (by rw [lf]; omega), by omega, .int (2 + (m0 : Int)), rfl, "o", 2 + m0, rfl, rfl, (by rw [lo]; omega), by omega, ?_⟩
        rw [rep_f, rep_o]
        refine ⟨_, _, rfl, rfl, (by rw [tx_len, tx_len, List.length_replicate, List.length_replicate]; exact Nat.le_trans (show _ ≤ 100 by omega) (by decide)), .int (2 + (m1 : Int)), rfl, ".", 2 + m1, rfl, rfl, (by rw [lf]; omega), by omega, ?_⟩
        rw [rep_f, tx_app]
        refine ⟨_, _, rfl, rfl, (by rw [tx_len, tx_len, List.length_append, List.length_replicate, List.length_replicate, List.length_replicate]; exact Nat.le_trans (show _ ≤ 100 by omega) (by decide)), .ref p9, rfl, p9, _, 3, .int m3, rfl, rfl, SqL.of eX, rfl, "o", m3, rfl, rfl, (by rw [lo]; omega), by omega, ?_⟩
        rw [rep_o, tx_app]
        refine ⟨_, _, rfl, rfl, (by rw [tx_len, tx_len, List.length_append, List.length_append, List.length_replicate, List.length_replicate, List.length_replicate, List.length_replicate]; exact Nat.le_trans (show _ ≤ 100 by omega) (by decide)), ?_⟩
        rw [tx_app]
        have egw : List.replicate m2 false ++ List.replicate (2 + m0) true ++ List.replicate (2 + m1) false ++ List.replicate m3 true = gw m2 (2 + m0) (2 + m1) m3 := by
          unfold gw
          simp only [List.append_assoc]
        rw [egw]
        have lgw : (gw m2 (2 + m0) (2 + m1) m3).length ≤ 30 := by
          rw [← egw]
          simp only [List.length_append, List.length_replicate]
          omega
        refine ⟨.ref p13, rfl, gw m2 (2 + m0) (2 + m1) m3, p13, rfl, lgw, x13, fun HY sY => ⟨true, rfl, iteF ?_⟩⟩
        have eY := sY _ _ eX
        have sXY := sX.trans sY
        clear sX sY eX x13
        -- halved
        refine ⟨.int c, rfl, c, 7, rfl, rfl, ⟨by decide, by decide⟩, c / 7, 30, rfl, by decide, by decide, fun HZ bz sZ hz1 hz30 => ?_⟩
        have eZ := sZ _ _ eY
        refine ⟨.ref p9, rfl, p9, _, 0, .int m0, rfl, rfl, SqL.of eZ, rfl, .ref p9, rfl, p9, _, 1, .int m1, rfl, rfl, SqL.of eZ, rfl, ?_⟩
        refine ⟨.ref p9, rfl, p9, _, 0, .int m0, rfl, rfl, SqL.of eZ, rfl, 3, (m0 : Int), rfl, rfl, .inl ⟨by decide, by decide⟩, _, 1, rfl, rfl, ?_⟩
        refine ⟨.ref p9, rfl, p9, _, 2, .int m2, rfl, rfl, SqL.of eZ, rfl, .ref p9, rfl, p9, _, 1, .int m1, rfl, rfl, SqL.of eZ, rfl, 5, (m1 : Int), rfl, rfl, .inl ⟨by decide, by decide⟩, (by show 5 ≤ sizeLine; decide), fun lH nH => ?_⟩
        have uH := same_upd (o := .lst [.int m0, .int m1, .int (3 * (m0 : Int) + 1), .int m2, .int (5 * (m1 : Int))]) nH
        refine ⟨bz, lH, [(m0 : Int), m1, 3 * (m0 : Int) + 1, m2, 5 * (m1 : Int)], rfl, hz1, hz30, SqL.of upd_same, (by show 5 ≤ 60; decide), fun HI sI => ⟨true, rfl, iteF ?_⟩⟩
        have eI := sI _ _ (uH _ _ eZ)
        have sAI := sXY.trans (sZ.trans (uH.trans sI))
        clear sXY sZ uH sI eZ eY nH
        -- bad
        have h30 : bs.length ≤ 30 := Nat.le_trans h11 (by decide)
        have hzz : (tx bs).length ≤ sizeLine := tx_fit (by omega)
        refine ⟨.str (tx bs), rfl, (by show 1 ≤ sizeLine; decide), fun lA nA => ⟨.str (tx bs), rfl, (by show 1 ≤ sizeLine; decide), fun tB nB => ?_⟩⟩
        have lx : ("x" : Str).length = 1 := by decide +kernel
        refine ⟨.str (tx bs), rfl, tx bs, "x", rfl, rfl, (by rw [lx, tx_len]; exact fit (by omega)), ?_⟩
        refine ⟨.str (tx bs), rfl, tx bs, 31, rfl, rfl, (by rw [tx_len]; omega), by decide, fun dD nD => ?_⟩
        have uA := same_upd (o := .lst [.str (tx bs)]) nA
        have fA : upd HI lA (.lst [.str (tx bs)]) lA = some (.lst [.str (tx bs)]) := upd_same
        generalize upd HI lA (.lst [.str (tx bs)]) = J1 at uA fA nB nD
        have uB := same_upd (o := .tup [.str (tx bs)]) nB
        have fB : upd J1 tB (.tup [.str (tx bs)]) tB = some (.tup [.str (tx bs)]) := upd_same
        generalize upd J1 tB (.tup [.str (tx bs)]) = J2 at uB fB nD
        have uD := same_upd (o := .dK []) nD
        have fD : upd J2 dD (.dK []) dD = some (.dK []) := upd_same
        generalize upd J2 dD (.dK []) = J3 at uD fD
        refine ⟨(by show 8 ≤ sizeLine; decide), fun lE nE => ?_⟩
        have uE := same_upd (o := .lst [.non, .int 5, .bl true, .ref lA, .ref tB, .str (tx bs ++ "x"), .str (repS (tx bs) 31), .ref dD]) nE
        have fE : upd J3 lE (.lst [.non, .int 5, .bl true, .ref lA, .ref tB, .str (tx bs ++ "x"), .str (repS (tx bs) 31), .ref dD]) lE = some (.lst [.non, .int 5, .bl true, .ref lA, .ref tB, .str (tx bs ++ "x"), .str (repS (tx bs) 31), .ref dD]) := upd_same
        generalize upd J3 lE (.lst [.non, .int 5, .bl true, .ref lA, .ref tB, .str (tx bs ++ "x"), .str (repS (tx bs) 31), .ref dD]) = J4 at uE fE
        have eJ := uE _ _ (uD _ _ (uB _ _ (uA _ _ eI)))
        have sJ := sAI.trans (uA.trans (uB.trans (uD.trans uE)))
        obtain ⟨b, hb, hw⟩ : ∃ b, atI [V.non, .int 5, .bl true, .ref lA, .ref tB, .str (tx bs ++ "x"), .str (repS (tx bs) 31), .ref dD] d4 = some b ∧ WordB K J4 b false := by
          rcases (show d4 = 0 ∨ d4 = 1 ∨ d4 = 2 ∨ d4 = 3 ∨ d4 = 4 ∨ d4 = 5 ∨ d4 = 6 ∨ d4 = 7 by omega) with rfl | rfl | rfl | rfl | rfl | rfl | rfl | rfl
          · exact ⟨_, rfl, .inl ⟨notxt_non, rfl⟩⟩
          · exact ⟨_, rfl, .inl ⟨notxt_int, rfl⟩⟩
          · exact ⟨_, rfl, .inl ⟨notxt_bl, rfl⟩⟩
          · exact ⟨_, rfl, .inl ⟨notxt_lst ((uB.trans (uD.trans uE)) _ _ fA), rfl⟩⟩
          · exact ⟨_, rfl, .inl ⟨notxt_tup ((uD.trans uE) _ _ fB), rfl⟩⟩
          · exact ⟨_, rfl, .inr ⟨_, rfl, by rw [sign_x, app_len, tx_len]; omega, by rw [sign_x, isWord_app (by decide)]⟩⟩
          · have hrl := repS_len (tx bs) 31
            rw [tx_len] at hrl
            exact ⟨_, rfl, .inr ⟨_, rfl, by rw [hrl]; omega, by rw [isWord_long (by rw [hrl]; omega)]⟩⟩
          · exact ⟨_, rfl, .inl ⟨notxt_dK (uE _ _ fD), rfl⟩⟩
        refine ⟨.ref p9, rfl, p9, _, 4, .int d4, rfl, rfl, SqL.of eJ, rfl, lE, _, d4, b, rfl, rfl, SqL.of fE, hb, ?_⟩
        refine ⟨b, rfl, b, rfl, hw, fun HL sL => ⟨true, rfl, iteF ?_⟩⟩
        exact ⟨_, _, _, _, _, _, _, _, _, rfl, sJ.trans sL⟩
    · rintro σ H3 ⟨y1, y2, y3, y4, y5, y6, y7, y8, y9, rfl, s3⟩
      exact q _
end
end Hop

set_option Elab.async false
set_option linter.all false
set_option maxRecDepth 100000
namespace Hop
open PySem L2 HopR
/-! ### what the top has written -/
theorem all_mk {l : PySem.W.OpenLaw} {w : World} {K : PySem.W.Frag} {h : Heap} {mg : Str → Option Value} {fa : Addr} (X : K.In h) (G : h.Ns mainGlobals mg) (hfa : mg "law" = some (.ref fa))
    {f1 : Addr} {od1 an1 : Option Addr} {sl1 : Array (Option Value)} {oc1 kV1 dc1 pm1 cd1 ct1 : Value}
    {f2 : Addr} {od2 an2 : Option Addr} {sl2 : Array (Option Value)} {oc2 kV2 dc2 pm2 cd2 ct2 : Value}
    {f3 : Addr} {od3 an3 : Option Addr} {sl3 : Array (Option Value)} {oc3 kV3 dc3 pm3 cd3 ct3 : Value}
    {f4 : Addr} {od4 an4 : Option Addr} {sl4 : Array (Option Value)} {oc4 kV4 dc4 pm4 cd4 ct4 : Value}
    {f5 : Addr} {od5 an5 : Option Addr} {sl5 : Array (Option Value)} {oc5 kV5 dc5 pm5 cd5 ct5 : Value}
    {f6 : Addr} {od6 an6 : Option Addr} {sl6 : Array (Option Value)} {oc6 kV6 dc6 pm6 cd6 ct6 : Value}
    {f7 : Addr} {od7 an7 : Option Addr} {sl7 : Array (Option Value)} {oc7 kV7 dc7 pm7 cd7 ct7 : Value}
    {f8 : Addr} {od8 an8 : Option Addr} {sl8 : Array (Option Value)} {oc8 kV8 dc8 pm8 cd8 ct8 : Value}
    {f9 : Addr} {od9 an9 : Option Addr} {sl9 : Array (Option Value)} {oc9 kV9 dc9 pm9 cd9 ct9 : Value}
    {fr : Addr} {odr anr : Option Addr} {slr : Array (Option Value)} {ocr kVr dcr pmr cdr ctr : Value}
    {fv : Addr} {odv anv : Option Addr} {slv : Array (Option Value)} {ocv kVv dcv pmv cdv ctv : Value}
    {fw : Addr} {odw anw : Option Addr} {slw : Array (Option Value)} {ocw kVw dcw pmw cdw ctw : Value}
    {fq : Addr} {odq anq : Option Addr} {slq : Array (Option Value)} {ocq kVq dcq pmq cdq ctq : Value}
    {fL : Addr} {odL anL : Option Addr} {slL : Array (Option Value)} {ocL kVL dcL pmL cdL ctL : Value}
    {tb : Tok}
    {tm : Tok}
    {d : Addr} {es : Array DictEntry} {n : Nat}
    {HE NN NW NP : Addr}
    (a1 : PySem.W.nsIn K mainGlobals "is_row" = some (some (.ref f1))) (l1 : K.lookup f1 = some ⟨oc1, od1, .func (PySem.W.fnOf "is_row" "is_row" (defArgs sIsRow) (defBody sIsRow) (defScope sIsRow) .none kV1 dc1 pm1 an1 cd1 ct1), sl1⟩) (c1 : PySem.W.codeIn K cd1 "is_row" = true) (k1 : PySem.W.keepIn K (.ref f1) = true)
    (a2 : PySem.W.nsIn K mainGlobals "is_word" = some (some (.ref f2))) (l2 : K.lookup f2 = some ⟨oc2, od2, .func (PySem.W.fnOf "is_word" "is_word" (defArgs sIsWord) (defBody sIsWord) (defScope sIsWord) .none kV2 dc2 pm2 an2 cd2 ct2), sl2⟩) (c2 : PySem.W.codeIn K cd2 "is_word" = true) (k2 : PySem.W.keepIn K (.ref f2) = true)
    (a3 : PySem.W.nsIn K mainGlobals "need_word" = some (some (.ref f3))) (l3 : K.lookup f3 = some ⟨oc3, od3, .func (PySem.W.fnOf "need_word" "need_word" (defArgs sNeedWord) (defBody sNeedWord) (defScope sNeedWord) .none kV3 dc3 pm3 an3 cd3 ct3), sl3⟩) (c3 : PySem.W.codeIn K cd3 "need_word" = true) (k3 : PySem.W.keepIn K (.ref f3) = true)
    (a4 : PySem.W.nsIn K mainGlobals "with_bead" = some (some (.ref f4))) (l4 : K.lookup f4 = some ⟨oc4, od4, .func (PySem.W.fnOf "with_bead" "with_bead" (defArgs sWithBead) (defBody sWithBead) (defScope sWithBead) .none kV4 dc4 pm4 an4 cd4 ct4), sl4⟩) (c4 : PySem.W.codeIn K cd4 "with_bead" = true) (k4 : PySem.W.keepIn K (.ref f4) = true)
    (a5 : PySem.W.nsIn K mainGlobals "with_free" = some (some (.ref f5))) (l5 : K.lookup f5 = some ⟨oc5, od5, .func (PySem.W.fnOf "with_free" "with_free" (defArgs sWithFree) (defBody sWithFree) (defScope sWithFree) .none kV5 dc5 pm5 an5 cd5 ct5), sl5⟩) (c5 : PySem.W.codeIn K cd5 "with_free" = true) (k5 : PySem.W.keepIn K (.ref f5) = true)
    (a6 : PySem.W.nsIn K mainGlobals "ends_of" = some (some (.ref f6))) (l6 : K.lookup f6 = some ⟨oc6, od6, .func (PySem.W.fnOf "ends_of" "ends_of" (defArgs sEndsOf) (defBody sEndsOf) (defScope sEndsOf) .none kV6 dc6 pm6 an6 cd6 ct6), sl6⟩) (c6 : PySem.W.codeIn K cd6 "ends_of" = true) (k6 : PySem.W.keepIn K (.ref f6) = true)
    (a7 : PySem.W.nsIn K mainGlobals "_law_ends" = some (some (.ref f7))) (l7 : K.lookup f7 = some ⟨oc7, od7, .func (PySem.W.fnOf "_law_ends" "_law_ends" (defArgs sLEnds) (defBody sLEnds) (defScope sLEnds) .none kV7 dc7 pm7 an7 cd7 ct7), sl7⟩) (c7 : PySem.W.codeIn K cd7 "_law_ends" = true) (k7 : PySem.W.keepIn K (.ref f7) = true)
    (a8 : PySem.W.nsIn K mainGlobals "_law_great" = some (some (.ref f8))) (l8 : K.lookup f8 = some ⟨oc8, od8, .func (PySem.W.fnOf "_law_great" "_law_great" (defArgs sLGreat) (defBody sLGreat) (defScope sLGreat) .none kV8 dc8 pm8 an8 cd8 ct8), sl8⟩) (c8 : PySem.W.codeIn K cd8 "_law_great" = true) (k8 : PySem.W.keepIn K (.ref f8) = true)
    (a9 : PySem.W.nsIn K mainGlobals "_law_none" = some (some (.ref f9))) (l9 : K.lookup f9 = some ⟨oc9, od9, .func (PySem.W.fnOf "_law_none" "_law_none" (defArgs sLNone) (defBody sLNone) (defScope sLNone) .none kV9 dc9 pm9 an9 cd9 ct9), sl9⟩) (c9 : PySem.W.codeIn K cd9 "_law_none" = true) (k9 : PySem.W.keepIn K (.ref f9) = true)
    (ar : PySem.W.nsIn K mainGlobals "_law_right" = some (some (.ref fr))) (lr : K.lookup fr = some ⟨ocr, odr, .func (PySem.W.fnOf "_law_right" "_law_right" (defArgs sLRight) (defBody sLRight) (defScope sLRight) .none kVr dcr pmr anr cdr ctr), slr⟩) (cr : PySem.W.codeIn K cdr "_law_right" = true) (kr : PySem.W.keepIn K (.ref fr) = true)
    (av : PySem.W.nsIn K mainGlobals "_law_halved" = some (some (.ref fv))) (lv : K.lookup fv = some ⟨ocv, odv, .func (PySem.W.fnOf "_law_halved" "_law_halved" (defArgs sLHalved) (defBody sLHalved) (defScope sLHalved) .none kVv dcv pmv anv cdv ctv), slv⟩) (cv : PySem.W.codeIn K cdv "_law_halved" = true) (kv : PySem.W.keepIn K (.ref fv) = true)
    (aw : PySem.W.nsIn K mainGlobals "_law_drawn" = some (some (.ref fw))) (lw : K.lookup fw = some ⟨ocw, odw, .func (PySem.W.fnOf "_law_drawn" "_law_drawn" (defArgs sDrawn) (defBody sDrawn) (defScope sDrawn) .none kVw dcw pmw anw cdw ctw), slw⟩) (cw : PySem.W.codeIn K cdw "_law_drawn" = true) (kw : PySem.W.keepIn K (.ref fw) = true)
    (aq : PySem.W.nsIn K mainGlobals "_law_row" = some (some (.ref fq))) (lq : K.lookup fq = some ⟨ocq, odq, .func (PySem.W.fnOf "_law_row" "_law_row" (defArgs sLRow) (defBody sLRow) (defScope sLRow) .none kVq dcq pmq anq cdq ctq), slq⟩) (cq : PySem.W.codeIn K cdq "_law_row" = true) (kq : PySem.W.keepIn K (.ref fq) = true)
    (aL : PySem.W.nsIn K mainGlobals "law" = some (some (.ref fL))) (lL : K.lookup fL = some ⟨ocL, odL, .func (PySem.W.fnOf "law" "law" (defArgs sLaw) (defBody sLaw) (defScope sLaw) .none kVL dcL pmL anL cdL ctL), slL⟩) (cL : PySem.W.codeIn K cdL "law" = true) (kL : PySem.W.keepIn K (.ref fL) = true)
    (z0 : PySem.W.nsIn K mainGlobals "len" = some none)
    (z1 : PySem.W.nsIn K mainGlobals "range" = some none)
    (z2 : PySem.W.nsIn K mainGlobals "all" = some none)
    (z3 : PySem.W.nsIn K mainGlobals "isinstance" = some none)
    (z4 : PySem.W.nsIn K mainGlobals "str" = some none)
    (z5 : PySem.W.nsIn K mainGlobals "sorted" = some none)
    (z6 : PySem.W.nsIn K mainGlobals "list" = some none)
    (z7 : PySem.W.nsIn K mainGlobals "repr" = some none)
    (z8 : PySem.W.nsIn K mainGlobals "sum" = some none)
    (z9 : PySem.W.nsIn K mainGlobals "zip" = some none)
    (z10 : PySem.W.nsIn K mainGlobals "enumerate" = some none)
    (z11 : PySem.W.nsIn K mainGlobals "reversed" = some none)
    (gb : PySem.W.nsIn K mainGlobals "BEAD" = some (some (.str "o" tb)))
    (gm : PySem.W.nsIn K mainGlobals "MOST_PLACES" = some (some (.int 30 tm)))
    (gd : PySem.W.nsIn K mainGlobals "OTHER_SIGN" = some (some (.ref d)))
    (ld : K.lookup d = some ⟨.type "dict", none, .dict es n, #[]⟩)
    (kd : PySem.W.KeysLit w.params es.toList)
    (sd : (d == sysModules) = false)
    (ke : keysAre es)
    (g_HE : PySem.W.nsIn K mainGlobals "HopError" = some (some (.ref HE)))
    (g_NN : PySem.W.nsIn K mainGlobals "NoNumber" = some (some (.ref NN)))
    (g_NW : PySem.W.nsIn K mainGlobals "NoWord" = some (some (.ref NW)))
    (g_NP : PySem.W.nsIn K mainGlobals "NoPlace" = some (some (.ref NP)))
    (d_HE : PySem.W.hasDictIn K HE = true)
    (t_HE : PySem.W.typeIn K (.ref HE) = some (.type "type"))
    (d_NN : PySem.W.hasDictIn K NN = true)
    (t_NN : PySem.W.typeIn K (.ref NN) = some (.type "type"))
    (d_NW : PySem.W.hasDictIn K NW = true)
    (t_NW : PySem.W.typeIn K (.ref NW) = some (.type "type"))
    (d_NP : PySem.W.hasDictIn K NP = true)
    (t_NP : PySem.W.typeIn K (.ref NP) = some (.type "type"))
    (b_HE : PySem.W.subIn K (.ref HE) (.type "BaseException") = some true)
    (b_NW : PySem.W.subIn K (.ref NW) (.type "BaseException") = some true)
    (q_hn : PySem.W.specialIn K (.builtin "object.__class__") "__get__" = some (some (.builtin "getset_descriptor.__get__")))
    (q_htk : PySem.W.takesIn K (.builtin "object.__class__") = some true)
    (x_NW : PySem.W.excIn K NW [.type "ValueError", .type "Exception", .type "BaseException", .type "object"] "ValueError.__new__" = true)
    (k_NW : PySem.W.keepIn K (.ref NW) = true)
    (ga_NW : PySem.W.findIn K (.ref NW) "__getattribute__" = some (some (.builtin "BaseException.__getattribute__")))
    (gt_NW : PySem.W.findIn K (.ref NW) "__getattr__" = some none)
    (cl_NW : PySem.W.findIn K (.ref NW) "__class__" = some (some (.builtin "object.__class__")))
    (mo_NW : PySem.W.mroIn K NW (.type "object") = some true)
    (s_NW_HE : PySem.W.subIn K (.ref NW) (.ref HE) = some true)
    (s_NW_NN : PySem.W.subIn K (.ref NW) (.ref NN) = some false)
    (e_NW_NN : NW ≠ NN)
    (s_NW_NP : PySem.W.subIn K (.ref NW) (.ref NP) = some false)
    (e_NW_NP : NW ≠ NP)
    : ∃ fd : FuncData, (∀ (s : Shared) (v : Value), BindsTo s fd ⟨[v], []⟩ [("_law_script", v)]) ∧ ∀ base : Heap, K.In base → base.Ns mainGlobals mg → FnOkG l.prog w K mg base CX0 6 fa fd ["_law_script"] (spLaw K) := by
  have e := hfa.symm.trans (PySem.W.mg_of X G aL)
  cases e
  have F1 := fun_mk (st := sIsRow) l1 c1 k1
  have b1 := F1.binds (ps := ["thing"]) fun _ _ _ _ _ _ us hl => match us, hl with | [_], _ => rfl
  have N1 := Fn.mk (ps := ["thing"]) F1 b1 (PySem.W.mg_of X G a1)
  have F2 := fun_mk (st := sIsWord) l2 c2 k2
  have b2 := F2.binds (ps := ["thing"]) fun _ _ _ _ _ _ us hl => match us, hl with | [_], _ => rfl
  have N2 := Fn.mk (ps := ["thing"]) F2 b2 (PySem.W.mg_of X G a2)
  have F3 := fun_mk (st := sNeedWord) l3 c3 k3
  have b3 := F3.binds (ps := ["thing"]) fun _ _ _ _ _ _ us hl => match us, hl with | [_], _ => rfl
  have N3 := Fn.mk (ps := ["thing"]) F3 b3 (PySem.W.mg_of X G a3)
  have F4 := fun_mk (st := sWithBead) l4 c4 k4
  have b4 := F4.binds (ps := ["table"]) fun _ _ _ _ _ _ us hl => match us, hl with | [_], _ => rfl
  have N4 := Fn.mk (ps := ["table"]) F4 b4 (PySem.W.mg_of X G a4)
  have F5 := fun_mk (st := sWithFree) l5 c5 k5
  have b5 := F5.binds (ps := ["table"]) fun _ _ _ _ _ _ us hl => match us, hl with | [_], _ => rfl
  have N5 := Fn.mk (ps := ["table"]) F5 b5 (PySem.W.mg_of X G a5)
  have F6 := fun_mk (st := sEndsOf) l6 c6 k6
  have b6 := F6.binds (ps := ["word"]) fun _ _ _ _ _ _ us hl => match us, hl with | [_], _ => rfl
  have N6 := Fn.mk (ps := ["word"]) F6 b6 (PySem.W.mg_of X G a6)
  have F7 := fun_mk (st := sLEnds) l7 c7 k7
  have b7 := F7.binds (ps := ["_law_word"]) fun _ _ _ _ _ _ us hl => match us, hl with | [_], _ => rfl
  have N7 := Fn.mk (ps := ["_law_word"]) F7 b7 (PySem.W.mg_of X G a7)
  have F8 := fun_mk (st := sLGreat) l8 c8 k8
  have b8 := F8.binds (ps := ["_law_beads", "_law_frees"]) fun _ _ _ _ _ _ us hl => match us, hl with | [_, _], _ => rfl
  have N8 := Fn.mk (ps := ["_law_beads", "_law_frees"]) F8 b8 (PySem.W.mg_of X G a8)
  have F9 := fun_mk (st := sLNone) l9 c9 k9
  have b9 := F9.binds (ps := ["_law_thing"]) fun _ _ _ _ _ _ us hl => match us, hl with | [_], _ => rfl
  have N9 := Fn.mk (ps := ["_law_thing"]) F9 b9 (PySem.W.mg_of X G a9)
  have Fr := fun_mk (st := sLRight) lr cr kr
  have br := Fr.binds (ps := ["_law_word", "_law_due"]) fun _ _ _ _ _ _ us hl => match us, hl with | [_, _], _ => rfl
  have Nr := Fn.mk (ps := ["_law_word", "_law_due"]) Fr br (PySem.W.mg_of X G ar)
  have Fv := fun_mk (st := sLHalved) lv cv kv
  have bv := Fv.binds (ps := ["_law_word", "_law_draws"]) fun _ _ _ _ _ _ us hl => match us, hl with | [_, _], _ => rfl
  have Nv := Fn.mk (ps := ["_law_word", "_law_draws"]) Fv bv (PySem.W.mg_of X G av)
  have Fw := fun_mk (st := sDrawn) lw cw kw
  have bw := Fw.binds (ps := ["_law_cell", "_law_sizes"]) fun _ _ _ _ _ _ us hl => match us, hl with | [_, _], _ => rfl
  have Nw := Fn.mk (ps := ["_law_cell", "_law_sizes"]) Fw bw (PySem.W.mg_of X G aw)
  have Fq := fun_mk (st := sLRow) lq cq kq
  have bq := Fq.binds (ps := ["_law_cell", "_law_most"]) fun _ _ _ _ _ _ us hl => match us, hl with | [_, _], _ => rfl
  have Nq := Fn.mk (ps := ["_law_cell", "_law_most"]) Fq bq (PySem.W.mg_of X G aq)
  have y0 := PySem.W.mg_none_of X G z0
  have y1 := PySem.W.mg_none_of X G z1
  have y2 := PySem.W.mg_none_of X G z2
  have y3 := PySem.W.mg_none_of X G z3
  have y4 := PySem.W.mg_none_of X G z4
  have y5 := PySem.W.mg_none_of X G z5
  have y6 := PySem.W.mg_none_of X G z6
  have y7 := PySem.W.mg_none_of X G z7
  have y8 := PySem.W.mg_none_of X G z8
  have y9 := PySem.W.mg_none_of X G z9
  have y10 := PySem.W.mg_none_of X G z10
  have y11 := PySem.W.mg_none_of X G z11
  have wb := PySem.W.mg_of X G gb
  have wm := PySem.W.mg_of X G gm
  have T : Txt K w mg d es n := ⟨y0, y1, y2, y3, y4, y5, y6, y7, ⟨_, wb⟩, ⟨_, wm⟩, PySem.W.mg_of X G gd, ⟨ld, kd, sd⟩, ke⟩
  have T0 : TxtL mg := ⟨y8, y1, y0, y9, y10, y11⟩
  have Z : Er K mg HE NN NW NP := ⟨PySem.W.mg_of X G g_HE, PySem.W.mg_of X G g_NN, PySem.W.mg_of X G g_NW, PySem.W.mg_of X G g_NP, ⟨x_NW, k_NW, b_NW, t_NW, ⟨ga_NW, gt_NW, b_NW, d_NW, cl_NW, q_hn, q_htk, mo_NW⟩⟩, (PySem.W.exm_ref b_HE d_HE t_HE s_NW_HE), (HopR.kitAny_cons (kit_own e_NW_NN d_NN t_NN s_NW_NN) (HopR.kitAny_cons (kit_own e_NW_NP d_NP t_NP s_NW_NP) HopR.kitAny_nil))⟩
  exact ⟨PySem.W.fnOf "law" "law" (defArgs sLaw) (defBody sLaw) (defScope sLaw) .none kVL dcL pmL anL cdL ctL, fun s v => .of_eq rfl, fun base _ _ => ok_law (fun_mk (st := sLaw) lL cL kL) N6 ⟨⟨_, _, N1⟩, ⟨_, _, N2⟩, ⟨_, _, N3⟩, ⟨_, _, N4⟩, ⟨_, _, N5⟩⟩ N7 N8 N9 Nr Nv Nw Nq T T0 Z⟩
end Hop
open PySem PySem.W PyProof.Rows in
set_option maxRecDepth 100000 in
set_option maxHeartbeats 0 in
theorem PySem.Challenge.cw_hopline_k24_ends_told_holds : PySem.Challenge.rw_hopline_k24_ends_told.Holds := by
  w_on; o_law; k_head; (case hw => w_witness2)
  k_fill
  refine HopR.walk_ofG (l := PySem.Challenge.rw_hopline_k24_ends_told) (n := 63) (k := 6) (x := "_law_script") (sp := fun w => Hop.spLaw _) rfl (by decide) rfl ⟨rfl, by decide, by decide⟩ (fun w h Y => PySem.W.kIn_of Y) ?F (fun _ _ a ns hl _ _ hS => ⟨a, ns, rfl, hS, hl, fun _ => rfl⟩)
  case F =>
    intro w mg fa h KX G hmg
    refine' Hop.all_mk KX G hmg ?u_a1 ?u_l1 ?u_c1 ?u_k1 ?u_a2 ?u_l2 ?u_c2 ?u_k2 ?u_a3 ?u_l3 ?u_c3 ?u_k3 ?u_a4 ?u_l4 ?u_c4 ?u_k4 ?u_a5 ?u_l5 ?u_c5 ?u_k5 ?u_a6 ?u_l6 ?u_c6 ?u_k6 ?u_a7 ?u_l7 ?u_c7 ?u_k7 ?u_a8 ?u_l8 ?u_c8 ?u_k8 ?u_a9 ?u_l9 ?u_c9 ?u_k9 ?u_ar ?u_lr ?u_cr ?u_kr ?u_av ?u_lv ?u_cv ?u_kv ?u_aw ?u_lw ?u_cw ?u_kw ?u_aq ?u_lq ?u_cq ?u_kq ?u_aL ?u_lL ?u_cL ?u_kL ?u_z0 ?u_z1 ?u_z2 ?u_z3 ?u_z4 ?u_z5 ?u_z6 ?u_z7 ?u_z8 ?u_z9 ?u_z10 ?u_z11 ?u_gb ?u_gm ?u_gd ?u_ld ?u_kd ?u_sd ?u_ke ?u_g_HE ?u_g_NN ?u_g_NW ?u_g_NP ?u_d_HE ?u_t_HE ?u_d_NN ?u_t_NN ?u_d_NW ?u_t_NW ?u_d_NP ?u_t_NP ?u_b_HE ?u_b_NW ?u_q_hn ?u_q_htk ?u_x_NW ?u_k_NW ?u_ga_NW ?u_gt_NW ?u_cl_NW ?u_mo_NW ?u_s_NW_HE ?u_s_NW_NN ?u_e_NW_NN ?u_s_NW_NP ?u_e_NW_NP
    (case u_a1 => k_is)
    (case u_l1 => k_is)
    (case u_c1 => k_is)
    (case u_k1 => k_is)
    (case u_a2 => k_is)
    (case u_l2 => k_is)
    (case u_c2 => k_is)
    (case u_k2 => k_is)
    (case u_a3 => k_is)
    (case u_l3 => k_is)
    (case u_c3 => k_is)
    (case u_k3 => k_is)
    (case u_a4 => k_is)
    (case u_l4 => k_is)
    (case u_c4 => k_is)
    (case u_k4 => k_is)
    (case u_a5 => k_is)
    (case u_l5 => k_is)
    (case u_c5 => k_is)
    (case u_k5 => k_is)
    (case u_a6 => k_is)
    (case u_l6 => k_is)
    (case u_c6 => k_is)
    (case u_k6 => k_is)
    (case u_a7 => k_is)
    (case u_l7 => k_is)
    (case u_c7 => k_is)
    (case u_k7 => k_is)
    (case u_a8 => k_is)
    (case u_l8 => k_is)
    (case u_c8 => k_is)
    (case u_k8 => k_is)
    (case u_a9 => k_is)
    (case u_l9 => k_is)
    (case u_c9 => k_is)
    (case u_k9 => k_is)
    (case u_ar => k_is)
    (case u_lr => k_is)
    (case u_cr => k_is)
    (case u_kr => k_is)
    (case u_av => k_is)
    (case u_lv => k_is)
    (case u_cv => k_is)
    (case u_kv => k_is)
    (case u_aw => k_is)
    (case u_lw => k_is)
    (case u_cw => k_is)
    (case u_kw => k_is)
    (case u_aq => k_is)
    (case u_lq => k_is)
    (case u_cq => k_is)
    (case u_kq => k_is)
    (case u_aL => k_is)
    (case u_lL => k_is)
    (case u_cL => k_is)
    (case u_kL => k_is)
    (case u_z0 => k_is)
    (case u_z1 => k_is)
    (case u_z2 => k_is)
    (case u_z3 => k_is)
    (case u_z4 => k_is)
    (case u_z5 => k_is)
    (case u_z6 => k_is)
    (case u_z7 => k_is)
    (case u_z8 => k_is)
    (case u_z9 => k_is)
    (case u_z10 => k_is)
    (case u_z11 => k_is)
    (case u_gb => k_is)
    (case u_gm => k_is)
    (case u_gd => k_is)
    (case u_ld => k_is)
    (case u_kd => k_keys)
    (case u_sd => decide)
    (case u_ke => rfl)
    (case u_g_HE => k_is)
    (case u_g_NN => k_is)
    (case u_g_NW => k_is)
    (case u_g_NP => k_is)
    (case u_d_HE => k_is)
    (case u_t_HE => k_is)
    (case u_d_NN => k_is)
    (case u_t_NN => k_is)
    (case u_d_NW => k_is)
    (case u_t_NW => k_is)
    (case u_d_NP => k_is)
    (case u_t_NP => k_is)
    (case u_b_HE => k_is)
    (case u_b_NW => k_is)
    (case u_q_hn => k_is)
    (case u_q_htk => k_is)
    (case u_x_NW => k_exc)
    (case u_k_NW => k_is)
    (case u_ga_NW => k_is)
    (case u_gt_NW => k_is)
    (case u_cl_NW => k_is)
    (case u_mo_NW => k_is)
    (case u_s_NW_HE => k_is)
    (case u_s_NW_NN => k_is)
    (case u_e_NW_NN => decide)
    (case u_s_NW_NP => k_is)
    (case u_e_NW_NP => decide)
