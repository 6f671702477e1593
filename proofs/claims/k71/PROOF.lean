import PyProof.Rows.All
import Wide.All
import OpenK.AllK
import Wide.FinOn
import HandS.ForMost
import HandS.Wide
import HandS.Style
import HandS.RevTup
import HandS.Rev
import HandS.IsInst
import HandS.More
import HandS.Conv
import HandS.Defaults
import HandS.ForExc
import HandS.OwnEq
import HandS.Flow
import PyProof.ListStr
import HandS.Walk
import HandS.EndBits
import PyProof.ReprRoads
import PyProof.ReprLen
import HandS.Exc
import HandS.ExcIs
import HandS.TryOnly
import HandS.ExcOwn
import HandS.WordsExc
import HandS.Codes
import KE.KCallOwn
import HandS.FStr
import PyProof.FString3
import PyProof.InstNe
import PyProof.TupleOfStr
import HandS.SortKw
import HandS.SortInts
import KE.GoesZip
import KE.GoesMore
import PyProof.Draws
import PyProof.WalksT
import PySem.Challenge.RW_hopline_k71_still_tables_or_not
import PyProof.ReprReads
import PyProof.ReprNest
import HandS.Dict
import HandS.WideBits
import HandS.MakeKw
import HandS.Zip
import HandS.WordsDict
import KE.KExcLine

set_option Elab.async false
set_option linter.all false
set_option maxRecDepth 100000
namespace HopR
open PySem PySem.Spec PyProof.Rows L2
/-! rules of my own: texts -/
/-- the signs of a text, each a text -/
def sg (z : Str) : List Str := z.cps.toList.map fun c => ⟨#[c]⟩
theorem sg_len (z : Str) : (sg z).length = z.length := by
  unfold sg
  rw [List.length_map]
  rfl
theorem sg_get {z : Str} {i : Nat} {c : Nat} (h : z.cps[i]? = some c) : (sg z)[i]? = some ⟨#[c]⟩ := by
  unfold sg
  rw [List.getElem?_map, Array.getElem?_toList, h]
  rfl
theorem strsAre_of : ∀ (vs : List Value) (ys : List Str), vs.length = ys.length → (∀ (j : Nat) (v : Value), vs[j]? = some v → ∃ y t, ys[j]? = some y ∧ v = .str y t) → StrsAre vs ys
  | [], [], _, _ => .nil
  | v :: r, y :: q, hl, h => by
    obtain ⟨y', t, e1, e2⟩ := h 0 v rfl
    have e3 : y = y' := Option.some.inj e1
    subst e3 e2
    exact .cons y t (strsAre_of r q (by simpa using hl) fun j w hw => h (j + 1) w hw)
theorem signs_are {z : Str} {acc : Array Value} (h : ItemsOf (SignAt z) acc z.cps.size) : StrsAre acc.toList (sg z) := by
  refine strsAre_of _ _ (by rw [sg_len, Array.length_toList, h.1]; rfl) fun j v hv => ?_
  obtain ⟨c, u, hc, e⟩ := h.2 j v (by rw [← Array.getElem?_toList]; exact hv)
  exact ⟨⟨#[c]⟩, u, sg_get hc, e⟩
section
variable {X : Cx}
/-- sorted(text) -/
def rSortT : List V → Hp → VK → Prop := fun vs H Q => ∃ z : Str, vs = [.str z] ∧ z.length < 64 ∧ ∀ (ys : List Str) (p : Addr), ys.Perm (sg z) → sortedS ys = true → H p = none → Q (.ref p) (upd H p (.lst (ys.map V.str)))
theorem cr_sortT (hcm : X.calm = true) : CallR X (.builtin "sorted") rSortT := by
  intro pins s σ H xs us Q I r h
  obtain ⟨z, rfl, h64, q⟩ := h
  obtain ⟨u, rfl, t, rfl⟩ := vals1 r
  refine Calls.call_function_entry kind_sorted plain_sorted entry_sorted (args_sorted1 (.str z t)) ?_
  unfold Builtin.«sorted»
  refine wpAny_bind (m := checkCount "sorted" 1 1 [Value.str z t].length) (wpAny_pure ?_)
  have hz : z.cps.size < 64 := h64
  refine wpAny_bind (wpAny_collect_str (A := X.A.in1) (show X.A.in1.handled = none from I.ok.hd hcm) z t (fun s' acc hk hg hdr hos hit => ?_) (Nat.le_trans (Nat.le_of_lt hz) (by decide)))
  have hS := signs_are hit
  have es : s' = { s with heap := s'.heap, toks := s'.toks } := by
    cases s'
    cases s
    simp only at hg hdr hos
    subst hg hdr hos
    rfl
  have hal : acc.toList.length < 64 := by rw [Array.length_toList, hit.1]; exact hz
  refine wpAny_bind (wpAny_newList ?_ (Nat.le_trans (Nat.le_of_lt hal) (by decide)))
  have hoL : (s'.heap.push (seqObj "list" acc.toList.toArray 0)).get? s'.heap.objs.size = some (seqObj "list" acc.toList.toArray 0) := Heap.get?_push_size _ rfl
  refine wpAny_bind (wpAny_holding (wpAny_call_entry slot_list_sort ⟨_, hoL, rfl⟩ entry_list_sort (list_sort_treeK strKind_oneLt hoL hS.keysOf (fun v₁ v₂ rest e => keyKind_strs (by rw [← e]; exact hS)) hal fun st' hp hs => ⟨_, rfl, ?_⟩) (args_list_sort _)))
  obtain ⟨ys, g1, g2, g3⟩ := sorted_out_str hS hp hs
  obtain ⟨ep, he'⟩ := sortedHeap_at (vs := acc.toList) (out := (arrOf st').map (·.2)) hoL
  have I1 : Inv X pins σ H s' := by
    rw [es]
    exact I.kept hk
  have hlen : (ys.map V.str).length ≤ sizeLine := by
    rw [List.length_map, g2.length_eq, sg_len]
    exact Nat.le_trans (Nat.le_of_lt h64) (by decide)
  have hne : ∀ b o, s'.heap.get? b = some o → (sortedHeap (s'.heap.push (seqObj "list" acc.toList.toArray 0)) s'.heap.objs.size acc.toList ((arrOf st').map (·.2))).get? b = some o := fun b o e => by
    rw [sortedHeap_old (Nat.ne_of_lt (Heap.lt_size e)) (by rw [size_push']; exact Nat.lt_succ_of_lt (Heap.lt_size e))]
    exact Heap.get?_push_of_some _ e
  refine wpAny_pure ⟨_, rfl, .ref _, upd H s'.heap.objs.size (.lst (ys.map V.str)), I1.laid (t' := s'.toks) hne (Nat.le_refl _) ?_, rfl, q ys _ g2 g3 (I1.hok.fresh (Nat.le_refl _))⟩
  exact ⟨hlen, ((arrOf st').map (·.2)).toList, ep, vals_of_strs g1, by rw [Array.toArray_toList]; exact he'⟩
/-- list(text) -/
def rListT : List V → Hp → VK → Prop := fun vs H Q => ∃ z : Str, vs = [.str z] ∧ z.length ≤ sizeLine ∧ ∀ p : Addr, H p = none → Q (.ref p) (upd H p (.lst ((sg z).map V.str)))
theorem cr_listT (hcm : X.calm = true) : CallR X (.type "list") rListT := by
  intro pins s σ H xs us Q I r h
  obtain ⟨z, rfl, hz, q⟩ := h
  obtain ⟨u, rfl, t, rfl⟩ := vals1 r
  refine call_list_str (I.ok.hd hcm) z t (fun h' tk acc c' hk hS' hit => ?_) hz
  refine ⟨.ref _, upd H s.heap.objs.size (.lst ((sg z).map V.str)), I.laid hk (Nat.le_refl _) ?_, rfl, q _ (I.hok.fresh (Nat.le_refl _))⟩
  exact ⟨by rw [List.length_map, sg_len]; exact hz, acc.toList, c', vals_of_strs (signs_are hit), by rw [Array.toArray_toList]; exact hS'⟩
/-- text * n -/
def repS (z : Str) (n : Nat) : Str := ⟨((List.replicate n z.cps.toList).flatten).toArray⟩
theorem foldl_app : ∀ (n : Nat) (a b : Array Nat), ((List.replicate n a).foldl (· ++ ·) b).toList = b.toList ++ (List.replicate n a.toList).flatten
  | 0, a, b => by simp
  | n + 1, a, b => by
    rw [List.replicate_succ, List.foldl_cons, foldl_app n, List.replicate_succ, List.flatten_cons, Array.toList_append, List.append_assoc]
theorem repS_len (z : Str) (k : Nat) : (repS z k).length = z.length * k := by
  show ((List.replicate k z.cps.toList).flatten).toArray.size = z.cps.size * k
  rw [List.size_toArray, List.length_flatten, List.map_replicate, List.sum_replicate_nat, Array.length_toList, Nat.mul_comm]
def rRepS : R2 := fun x y H Q => ∃ (z : Str) (k : Nat), x = .str z ∧ y = .int (k : Int) ∧ z.length * k ≤ 1000000 ∧ k ≤ 1000000 ∧ Q (.str (repS z k)) H
theorem op_repS : OpR X (binaryOp .Mult) rRepS := by
  intro pins s σ H x y v u Q I rx ry h
  obtain ⟨z, k, rfl, rfl, hz, hk, q⟩ := h
  obtain ⟨t, rfl⟩ := rx
  obtain ⟨t', rfl⟩ := ry
  refine PySem.P.mul_str ?_ ?_ ?_ ?_
  · rw [decide_eq_false (by omega), decide_eq_false (by omega)]
    rfl
  · intro h1 _
    have h0 : (0 : Int) < (k : Int) := by omega
    have h2 : ((z.length * k : Nat) : Int) ≤ 2 ^ 63 - 1 := by omega
    rw [Int.natCast_mul] at h2
    have h3 := (Int.le_ediv_iff_mul_le h0).mpr h2
    omega
  · intro _ _
    unfold Builtin.Str.tooLong
    rw [Int.toNat_natCast, sizeLine_eq]
    exact decide_eq_false (by omega)
  · by_cases h1 : (k : Int) < 1
    · rw [if_pos h1]
      have e : repS z k = Str.empty := by
        have : k = 0 := by omega
        subst this
        rfl
      rw [e] at q
      exact ⟨by decide, .str _, H, I.tok _, ⟨_, rfl⟩, q⟩
    · rw [if_neg h1]
      by_cases h2 : ((k : Int) == 1 || z.length == 0) = true
      · rw [if_pos h2]
        have e : repS z k = z := by
          rw [Bool.or_eq_true] at h2
          rcases h2 with h2 | h2
          · have h3 : (k : Int) = 1 := by simpa using h2
            have h4 : k = 1 := by omega
            subst h4
            unfold repS
            simp
          · have h3 : z.length = 0 := by simpa using h2
            have h4 : z.cps = #[] := Array.eq_empty_of_size_eq_zero h3
            unfold repS
            cases z with | mk zc =>
            simp only at h4
            subst h4
            simp
        rw [e] at q
        exact ⟨.str z, H, I, ⟨t, rfl⟩, q⟩
      · rw [if_neg h2]
        have e : (⟨(List.replicate (k : Int).toNat z.cps).foldl (· ++ ·) #[]⟩ : Str) = repS z k := by
          unfold repS
          rw [Int.toNat_natCast, ← Array.toArray_toList (xs := (List.replicate k z.cps).foldl (· ++ ·) #[]), foldl_app]
          rfl
        rw [e]
        have hl : (repS z k).length ≤ sizeLine := by
          rw [repS_len, sizeLine_eq]
          omega
        exact ⟨hl, .str _, H, I.tok _, ⟨_, rfl⟩, q⟩
/-- text[::-1] -/
def revS (z : Str) : Str := ⟨z.cps.toList.reverse.toArray⟩
theorem revS_len (z : Str) : (revS z).length = z.length := by
  show z.cps.toList.reverse.toArray.size = z.cps.size
  rw [List.size_toArray, List.length_reverse, Array.length_toList]
theorem rev_pick (z : Str) : (⟨((PySem.Builtin.Str.strSliceIndices none none (-1) z.length).filterMap (z.cps[·]?)).toArray⟩ : Str) = revS z := by
  unfold revS
  have e : PySem.Builtin.Str.strSliceIndices none none (-1) z.length = (List.range z.length).reverse := by
    rw [← PySem.W.krv_range, ← PySem.W.krv_sliceRange]
    rfl
  have e2 := PySem.W.krv_all z.cps
  rw [e, List.filterMap_reverse]
  show (⟨((List.range z.cps.size).filterMap (z.cps[·]?)).reverse.toArray⟩ : Str) = _
  rw [e2]
def tRevS (te : TE) : TE := fun σ H Q => te σ H fun x H1 => ∃ z : Str, x = .str z ∧ z.length ≤ sizeLine ∧ Q (.str (revS z)) H1
theorem pe_revS {e : Expr} {te : TE} {k : Nat} {p1 p2 p3 pos : Pos} (he : PE X e te) : PE X (.Subscript e (.Slice none none (some (.UnaryOp .USub (.Constant (.int 1) k p1) p2)) p3) pos) (tRevS te) := by
  refine ⟨fun pins s σ H Q I h => Subscript_ (thn (he.run pins s σ H _ I h) fun v s1 ⟨x, H1, I1, r1, z, ex, hz, q⟩ => ?_)⟩
  subst ex
  obtain ⟨t, rfl⟩ := r1
  have hst : PO X (some (.UnaryOp .USub (.Constant (.int 1) k p1) p2)) (tPart (tUn (rU fun i => .int (-i)) (tC (.int 1)))) := po_some (pe_un un_neg pe_int)
  refine wpAny_Slice (thn (po_none.run pins s1 σ H1 (fun o K2 => o = none ∧ K2 = H1) I1 ⟨rfl, rfl⟩) fun vl s2 ⟨l, H2, I2, pl, el, e2⟩ => ?_)
  subst el e2
  refine thn (po_none.run pins s2 σ H2 (fun o K3 => o = none ∧ K3 = H2) I2 ⟨rfl, rfl⟩) fun vu s3 ⟨u, H3, I3, pu, eu, e3⟩ => ?_
  subst eu e3
  refine thn (hst.run pins s3 σ H3 (fun o K4 => o = some (-1) ∧ K4 = H3) I3 ⟨1, rfl, -1, rfl, rfl, rfl⟩) fun vs s4 ⟨o, H4, I4, ps, eo, e4⟩ => ?_
  subst eo e4
  obtain ⟨l, rfl, hl⟩ := IsPart.raw pl
  obtain ⟨u, rfl, hu⟩ := IsPart.raw pu
  obtain ⟨st, rfl, hst'⟩ := IsPart.raw ps
  have I5 : Inv X pins σ H4 { s4 with heap := s4.heap.push { cls := .type "slice", data := .fields #[partValue l, partValue u, partValue st] } } := I4.kept (t' := s4.toks) fun b ob qq => Heap.get?_push_of_some _ qq
  show wpAny (model X.prog X.w) X.A (subscriptTail e (.Slice none none (some (.UnaryOp .USub (.Constant (.int 1) k p1) p2)) p3) (.str z t) (.ref s4.heap.objs.size)) (EP X pins σ Q) X.xe { s4 with heap := s4.heap.push { cls := .type "slice", data := .fields #[partValue l, partValue u, partValue st] } }
  refine tail_any (ops := [.ref s4.heap.objs.size, .str z t]) (T := "str") (typeIs_str _ _ _) F.slot_str_getitem.lookup ?_ (by with_unfolding_all rfl)
  refine wpAny_getItem_str_slice (l := l) (u := u) (st := st) (Heap.IsSliceOf.new ..) (by rw [hst']; decide) ?_
  have em : sliceMade z t l u st = .str (revS z) := by
    unfold sliceMade slicePicked
    rw [hst', hl, hu]
    rw [if_neg (by simp)]
    rw [← rev_pick z]
    rfl
  rw [em]
  exact ⟨by rw [revS_len]; exact hz, .str _, H4, I5.tok _, ⟨_, rfl⟩, q⟩
end
end HopR

set_option Elab.async false
set_option linter.all false
set_option maxRecDepth 100000
namespace HopR
open PySem PySem.Spec PyProof.Rows L2
/-! rows as lists of truths -/
def cd (b : Bool) : Nat := if b then 111 else 46
def tx (bs : List Bool) : Str := ⟨(bs.map cd).toArray⟩
theorem cd_inj {a b : Bool} (h : cd a = cd b) : a = b := by
  cases a <;> cases b <;> first | rfl | (exact absurd h (by decide))
theorem map_cd_inj : ∀ {as bs : List Bool}, as.map cd = bs.map cd → as = bs
  | [], [], _ => rfl
  | [], _ :: _, h => by simp at h
  | _ :: _, [], h => by simp at h
  | a :: r, b :: q, h => by
    rw [List.map_cons, List.map_cons] at h
    injection h with h1 h2
    rw [cd_inj h1, map_cd_inj h2]
theorem tx_inj {as bs : List Bool} (h : tx as = tx bs) : as = bs := by
  unfold tx at h
  injection h with h
  exact map_cd_inj (by simpa using congrArg Array.toList h)
theorem tx_len (bs : List Bool) : (tx bs).length = bs.length := by
  show (bs.map cd).toArray.size = bs.length
  rw [List.size_toArray, List.length_map]
theorem tx_list (bs : List Bool) : (tx bs).cps.toList = bs.map cd := rfl
theorem tx_get {bs : List Bool} {i : Nat} {b : Bool} (h : bs[i]? = some b) : (tx bs).cps[i]? = some (cd b) := by
  show (bs.map cd).toArray[i]? = some (cd b)
  rw [List.getElem?_toArray, List.getElem?_map, h]
  rfl
theorem ext_str {a b : Str} (h : a.cps.toList = b.cps.toList) : a = b := by
  cases a with | mk x =>
  cases b with | mk y =>
  have e : x = y := Array.toList_inj.mp h
  rw [e]
theorem tx_app (as bs : List Bool) : tx as ++ tx bs = tx (as ++ bs) := by
  apply ext_str
  show ((as.map cd).toArray ++ (bs.map cd).toArray).toList = (as ++ bs).map cd
  rw [Array.toList_append, List.map_append]
theorem tx_rev (bs : List Bool) : revS (tx bs) = tx bs.reverse := by
  unfold revS tx
  simp
theorem tx_sg (bs : List Bool) : sg (tx bs) = bs.map fun b => tx [b] := by
  unfold sg
  rw [tx_list, List.map_map]
  rfl
theorem tx_o : ("o" : Str) = tx [true] := by decide +kernel
theorem tx_f : ("." : Str) = tx [false] := by decide +kernel
/-- a row walked sign by sign: a turn's sign is the text of that place's truth -/
theorem walk_tx {bs : List Bool} : Walk (Its (tx bs)) bs.length (fun _ => True) (fun i H v H' => H' = H ∧ ∃ b, bs[i]? = some b ∧ v = .str (tx [b])) := by
  have w := walk_str (z := tx bs)
  rw [show (tx bs).cps.size = bs.length from tx_len bs] at w
  refine w.mono (fun _ g => g) fun i H x H' hi _ y => ?_
  obtain ⟨e1, c, e2, e3⟩ := y
  have hb : bs[i]? = some bs[i] := List.getElem?_eq_getElem hi
  rw [tx_get hb] at e2
  cases e2
  exact ⟨e1, _, hb, e3⟩
def for_tx {bs : List Bool} {g : TG} {tb : TS} {D : Ends} {σ : L2.St} {H : Hp} (Pv : Nat → L2.St → Hp → Prop) (h0 : Pv 0 σ H)
    (hs : ∀ i b σ H, bs[i]? = some b → Pv i σ H → g (.str (tx [b])) σ H fun σ2 H2 => tb { D with nx := Pv (i + 1), ct := Pv (i + 1), bk := D.nx } σ2 H2) (hd : ∀ σ H, Pv bs.length σ H → D.nx σ H) :=
  for_it (walk_tx (bs := bs)) (g := g) (tb := tb) (D := D) (σ := σ) (H := H) Pv h0 (fun _ _ _ _ _ => trivial)
    (fun i x σ H H' _ p y => by
      obtain ⟨e1, b, hb, e2⟩ := y
      subst e1 e2
      exact hs i b σ _ hb p) hd
def lc_tx {bs : List Bool} {g : TG} {tt : TT} {te : TE} {vs : List Nat} {σ : L2.St} {H1 : Hp} {D : Addr} {Qd : Hp → Prop} (Pv : Nat → Hp → Prop) (h0 : Pv 0 (upd H1 D (.lst [])))
    (hs : ∀ i b H, bs[i]? = some b → Pv i H → g (.str (tx [b])) (wipe σ vs) H fun σ2 H2 => wipe σ2 vs = wipe σ vs ∧ tt σ2 H2 fun kept H3 =>
      if kept = true then (te σ2 H3 fun y H4 => ∃ acc, H4 D = some (.lst acc) ∧ acc.length < sizeLine ∧ Pv (i + 1) (upd H4 D (.lst (acc ++ [y])))) else Pv (i + 1) H3)
    (hd : ∀ H, Pv bs.length H → Qd H) :=
  lc_it (walk_tx (bs := bs)) (g := g) (tt := tt) (te := te) (vs := vs) (σ := σ) (H1 := H1) (D := D) (Qd := Qd) Pv h0 (fun _ _ _ _ => trivial)
    (fun i x H H' _ p y => by
      obtain ⟨e1, b, hb, e2⟩ := y
      subst e1 e2
      exact hs i b _ hb p) hd
end HopR

set_option Elab.async false
set_option linter.all false
set_option maxRecDepth 100000
namespace HopR
open PySem PySem.Spec PyProof.Rows L2 TL
theorem joinL_nil : ∀ ps : List (List Nat), joinL [] ps = ps.flatten
  | [] => rfl
  | [p] => by
    show p = p ++ []
    rw [List.append_nil]
  | p :: q :: r => by
    show p ++ ([] ++ joinL [] (q :: r)) = p ++ (q :: r).flatten
    rw [List.nil_append, joinL_nil (q :: r)]
theorem join0_list (ys : List Str) : (Txt.join "" ys).cps.toList = (ys.map fun y => y.cps.toList).flatten := by
  have e : Txt.join "" ys = Str.join "" ys := PySem.StrLaws.glued_eq_join "" ys
  rw [e]
  have h := tl_join "" ys
  have h2 : tl ("" : Str) = [] := by decide +kernel
  rw [h2, joinL_nil] at h
  exact h
theorem join_tx (bs : List Bool) : Txt.join "" (bs.map fun b => tx [b]) = tx bs := by
  apply ext_str
  rw [join0_list, List.map_map, tx_list]
  induction bs with
  | nil => rfl
  | cons b r ih =>
    rw [List.map_cons, List.flatten_cons, ih]
    rfl
theorem sum_ones : ∀ bs : List Bool, ((bs.map fun b => tx [b]).map (·.length)).sum = bs.length
  | [] => rfl
  | b :: r => by
    rw [List.map_cons, List.map_cons, List.sum_cons, sum_ones r, tx_len]
    show 1 + r.length = r.length + 1
    omega
theorem join_fits {bs : List Bool} (h : bs.length ≤ 1000) : ((bs.map fun b => tx [b]).map (·.length)).sum + (bs.map fun b => tx [b]).length * ("" : Str).length ≤ 16777216 := by
  have e : ("" : Str).length = 0 := by decide +kernel
  rw [sum_ones, e, Nat.mul_zero]
  omega
theorem cut_tx (bs : List Bool) (lo hi : Option Int) : cutS (tx bs) lo hi = tx ((bs.drop (HT.sIx bs.length 0 lo)).take (HT.sIx bs.length bs.length hi - HT.sIx bs.length 0 lo)) := by
  apply ext_str
  unfold cutS
  rw [tx_len, tx_list, tx_list, List.map_take, List.map_drop]
theorem cut_to (bs : List Bool) (k : Nat) : cutS (tx bs) none (some (k : Int)) = tx (bs.take k) := by
  rw [cut_tx, HT.sIx_none, HT.sIx_nat, List.drop_zero, Nat.sub_zero]
  by_cases h : k ≤ bs.length
  · rw [Nat.min_eq_left h]
  · rw [Nat.min_eq_right (by omega), List.take_length, List.take_of_length_le (by omega)]
theorem cut_from (bs : List Bool) (k : Nat) : cutS (tx bs) (some (k : Int)) none = tx (bs.drop k) := by
  rw [cut_tx, HT.sIx_none, HT.sIx_nat]
  by_cases h : k ≤ bs.length
  · rw [Nat.min_eq_left h, List.take_of_length_le (by rw [List.length_drop]; exact Nat.le_refl _)]
  · rw [Nat.min_eq_right (by omega), List.drop_length, List.drop_of_length_le (by omega), List.take_nil]
theorem cut_at (bs : List Bool) (k m : Nat) : cutS (tx bs) (some (k : Int)) (some ((k : Int) + (m : Int))) = tx ((bs.drop k).take m) := by
  have e : ((k : Int) + (m : Int)) = ((k + m : Nat) : Int) := by omega
  rw [e, cut_tx, HT.sIx_nat, HT.sIx_nat]
  by_cases h : k ≤ bs.length
  · rw [Nat.min_eq_left h]
    by_cases h2 : k + m ≤ bs.length
    · rw [Nat.min_eq_left h2, Nat.add_sub_cancel_left]
    · rw [Nat.min_eq_right (by omega), List.take_of_length_le (by rw [List.length_drop]; exact Nat.le_refl _), List.take_of_length_le (by rw [List.length_drop]; omega)]
  · rw [Nat.min_eq_right (by omega), Nat.min_eq_right (by omega), List.drop_length, List.drop_of_length_le (by omega), List.take_nil, List.take_nil]
theorem cut_mid (bs : List Bool) (h : 2 ≤ bs.length) : cutS (tx bs) (some 1) (some (-1)) = tx ((bs.drop 1).take (bs.length - 2)) := by
  rw [cut_tx]
  have e1 : HT.sIx bs.length 0 (some 1) = 1 := by
    rw [show (some (1 : Int)) = some ((1 : Nat) : Int) from rfl, HT.sIx_nat]
    omega
  have e2 : HT.sIx bs.length bs.length (some (-1)) = bs.length - 1 := by
    show (if (-1 : Int) < 0 then ((-1 : Int) + (bs.length : Int)).toNat else min (-1 : Int).toNat bs.length) = bs.length - 1
    rw [if_pos (by decide)]
    omega
  rw [e1, e2]
  congr 2
/-! ### rows: walls, changes, the mirror -/
def ends (bs : List Bool) : List Bool := true :: (bs ++ [false])
theorem ends_len (bs : List Bool) : (ends bs).length = bs.length + 2 := by
  unfold ends
  rw [List.length_cons, List.length_append]
  rfl
def opn (bs : List Bool) (k : Nat) : Bool := decide (((ends bs).drop k).take 2 = [true, false])
def walls (bs : List Bool) : List Nat := (List.range (bs.length + 1)).filter (opn bs)
def bhd (bs : List Bool) (k : Nat) : List Bool := (ends bs).take k ++ [false] ++ [true] ++ (ends bs).drop (k + 2)
def chg (bs : List Bool) (k : Nat) : List Bool := ((bhd bs k).drop 1).take ((bhd bs k).length - 2)
def mir (bs : List Bool) : List Bool := bs.reverse.map (!·)
def num (bs : List Bool) : Int := bs.foldl (fun n b => n * 2 + (if b then 1 else 0)) 0
theorem mem_walls {bs : List Bool} {k : Nat} : k ∈ walls bs ↔ k ≤ bs.length ∧ opn bs k = true := by
  unfold walls
  rw [List.mem_filter, List.mem_range, Nat.lt_succ_iff]
theorem mir_len (bs : List Bool) : (mir bs).length = bs.length := by
  unfold mir
  rw [List.length_map, List.length_reverse]
theorem walls_len (bs : List Bool) : (walls bs).length ≤ bs.length + 1 := by
  unfold walls
  exact Nat.le_trans (List.length_filter_le _ _) (by rw [List.length_range]; exact Nat.le_refl _)
theorem bhd_len {bs : List Bool} {k : Nat} (h : k ≤ bs.length) : (bhd bs k).length = bs.length + 2 := by
  unfold bhd
  rw [List.length_append, List.length_append, List.length_append, List.length_take, List.length_drop, ends_len]
  show min k (bs.length + 2) + 1 + 1 + (bs.length + 2 - (k + 2)) = bs.length + 2
  omega
theorem chg_len {bs : List Bool} {k : Nat} (h : k ≤ bs.length) : (chg bs k).length = bs.length := by
  unfold chg
  rw [List.length_take, List.length_drop, bhd_len h]
  omega
end HopR

set_option Elab.async false
set_option linter.all false
set_option maxRecDepth 100000
namespace HopR
open PySem PySem.Spec PyProof.Rows L2
/-! ### defs that are called where no repr is under way -/
/-- the promise sp of the def at f, kept wherever it is called while no repr is under way -/
structure FnOkG (P : Program) (w : World) (K : PySem.W.Frag) (mg : Str → Option Value) (base : Heap) (CX : CXT) (k : Nat) (f : Addr) (fd : FuncData) (ps : List Str) (sp : Sp) : Prop where
  arity : ∀ {vs H Q E}, sp vs H Q E → vs.length = ps.length
  calls : ∀ {A : Around} {outer : List Env} {s : Shared} {H : Hp} {args : Args} {us : List Value} {vs : List V} {Q : VK} {E : XK}, A.guards = some [] → Room k A → Env0 P w K mg base A outer s H →
    BindsTo s fd args (ps.zip us) → Vals vs us → sp vs H Q E → codeAny (model P w) A (.call (.ref f) args) (CR CX outer P w H s Q E) s
section
variable {P : Program} {w : World} {K : PySem.W.Frag} {mg : Str → Option Value} {base : Heap}
theorem FnOkG.of {CX : CXT} {k : Nat} {f : Addr} {fd : FuncData} {ps : List Str} {sp : Sp} (F : FnOk P w K mg base CX k f fd ps sp) : FnOkG P w K mg base CX k f fd ps sp where
  arity h := F.len _ _ _ _ h
  calls _ room e0 bind vals prom := F.run _ _ _ _ _ _ _ _ _ room e0 bind vals prom
/-- what the body's end says to the caller -/
theorem ends_say {CX : CXT} {N : List Str} {qual : Str} {scope : Scope} {f : Addr} {cdv : Value} {A : Around} {outer : List Env} {s : Shared} {H : Hp} {Q : VK} {E : XK} {fl : Flow} {s' : Shared}
    (h : SP (cxOf CX P w K mg base N qual scope f cdv A outer s H E) [] { nx := fun _ H' => Q .non H', rt := Q } fl s') :
    match fl with | .ret u => CE outer P w H s Q u s' | .next => CE outer P w H s Q Value.none s' | _ => False := by
  match fl, h with
  | .ret u, ⟨v, σ', H', J, rv, g⟩ => exact ⟨v, H', J.os, J.bare, J.base, J.hok, rv, g⟩
  | .next, ⟨σ', H', J, g⟩ => exact ⟨V.non, H', J.os, J.bare, J.base, J.hok, rfl, g⟩
  | .brk, ⟨_, _, _, g⟩ => exact g
  | .cont, ⟨_, _, _, g⟩ => exact g
theorem okG {x qual : Str} {st : Stmt} {f : Addr} {fd : FuncData} {N ps : List Str} {k : Nat} {sp : Sp} (F : Fun K x qual st f fd) (S : FnScope N ps (defScope st)) (len : ∀ vs H Q E, sp vs H Q E → vs.length = ps.length)
    (body : ∀ (cdv : Value) (A : Around) (outer : List Env) (s : Shared) (H : Hp) (vs : List V) (Q : VK) (E : XK), A.guards = some [] → Room k (A.deeper (envOfC qual (defScope st) s.heap.objs.size f cdv)) → sp vs H Q E →
      ∃ t, PSs (cxOf CX0 P w K mg base N qual (defScope st) f cdv A outer s H E).nox (defBody st) t ∧ t { nx := fun _ H' => Q .non H', rt := Q } (start N vs) H) : FnOkG P w K mg base CX0 (k + 1) f fd ps sp where
  arity h := len _ _ _ _ h
  calls {A outer s H args us vs Q E} free room e0 bind vals prom := by
    obtain ⟨_, _, _, _, _, _, cdv, _, _, rfl, lk, code⟩ := F.ex
    have old : ∀ b o, base.get? b = some o → s.heap.get? b = some o := fun b o e => (e0.bs b o e).1
    have here := e0.mod.kin.keeps old
    obtain ⟨t, pr, rd⟩ := body cdv A outer s H vs Q E free (room.deeper _) prom
    have kinds : ∀ y ∈ ps.zip us, (defScope st).names.lookup y.1 = some .local ∨ ((defScope st).names.lookup y.1 = some .cell ∧ ((cellsFrom (s.heap.objs.size + 1) (defScope st).names []).lookup y.1).isSome = true) := by
      intro y hy
      have hp : y.1 ∈ ps := by
        obtain ⟨y1, y2⟩ := y
        exact (List.of_mem_zip hy).1
      exact (S.par _ hp).imp id fun g => ⟨g, PySem.W.cellsFrom_some _ _ _ (.inl g)⟩
    refine codeAny_call_function room.depth (here _ _ lk) rfl S.co S.gen rfl (PySem.W.codeRec_of here code) (bind _ _ _ _ ?_)
    refine wpAny_newFunctionEnv_cells S.kind kinds fun _ e s1 x => ?_
    cases e
    refine ⟨(e0.mod.nolimit.keeps old).keeps x.toInCall.keep, codeAny_func ?_⟩
    have run := pr.nox.run [] s1 _ H _ (inv_start S room.hd e0 (len _ _ _ _ prom) vals x) rd
    refine wpAny_mono run (fun fl s' h => ?_) fun _ _ z => z
    have said := ends_say h
    cases fl with
    | ret _ => exact said
    | next => exact said
    | brk => exact said.elim
    | cont => exact said.elim
end
section
variable {X : Cx} {CX : CXT} {k : Nat} {f : Addr} {fd : FuncData} {ps : List Str} {sp : Sp} {ds : List Value} {dvs : List V} {E : XK}
theorem after_call {pins : List (Addr × Obj)} {σ : L2.St} {H : Hp} {s : Shared} {Q : VK} (hx : Passes CX X E) (I : Inv X pins σ H s) {r : Except Value Flow} {s' : Shared} (h : CR CX X.stack X.prog X.w H s Q E r s') :
    match r with | .ok (.ret u) => EP X pins σ Q u s' | .ok _ => False | .error e => X.xe e s' := by
  match r, h with
  | .error e, h => exact hx pins σ H s e s' I h
  | .ok (.ret u), h => exact I.after h
  | .ok .next, h => exact h
  | .ok .brk, h => exact h
  | .ok .cont, h => exact h
variable {x : Str} {p pos : Pos} {e : Expr} {es : List Expr} {t : TA}
/-- f(e, ..) at a place where no repr is under way -/
theorem pe_callG (F : FnOkG X.prog X.w X.K X.mg X.base CX k f fd ps sp) (hG : X.A.guards = some []) (hr : Room k X.A) (hg : Gl X x) (hm : X.mg x = some (.ref f)) (hk : PySem.W.keepIn X.K (.ref f) = true) (hb : Binds X.K fd ps ds) (hd : Vals dvs ds) (hx : Passes CX X E)
    (ha : PA X (e :: es) t) (hdb : (x == ("__debug__" : Str)) = false := by decide)
    (he : starEach (e :: es) X.env = (false, eval e X.env) :: starEach es X.env := by rfl) (hpl : (backTo pos (starEach es X.env)).any (·.1) = false := by rfl) :
    PE X (.Call (.Name x p) (e :: es) [] pos) (tCall sp dvs E t) := by
  constructor
  intro pins s σ H Q I h
  refine wpAny_Call_Name_kw (ld_glob I hg hm (PySem.W.callWith_K (h₀ := X.base) I.ok.mod.kin hk (thn (ha.run pos pins s σ H _ I h) ?_) he hpl) hdb)
  rintro us s1 ⟨vs, H1, I1, vals, prom⟩
  have all := vals.append hd
  have size : (us ++ ds).length = ps.length := all.length.symm.trans (F.arity prom)
  refine ⟨I1.kIn, wpAny_call (codeAny_mono (F.calls hG hr I1.env0 (hb s1 us I1.kIn size) all prom) fun r s' h => ?_)⟩
  have := after_call hx I1 h
  cases r with
  | error e => exact this
  | ok fl => cases fl <;> exact this
/-! ### repr of data -/
def rReprD (K : PySem.W.Frag) : List V → Hp → VK → Prop := fun vs H Q => ∃ (v : V) (d : PyData), vs = [v] ∧ Dp K H v d ∧ d.showable = true ∧ d.hasDict = false ∧ d.depth ≤ 64 ∧ d.shown.length ≤ sizeLine ∧ Q (.str d.shown) H
theorem cr_reprD (hG : X.A.guards = some []) (hu : X.A.units + 66 < cLine) : CallR X (.builtin "repr") (rReprD X.K) := by
  rintro pins s σ H _ us Q I r ⟨v, d, rfl, hd, hs, hn, hdep, hz, q⟩
  obtain ⟨u, rfl, rv⟩ := vals1 r
  obtain ⟨as, rd⟩ := Dp.reads I d v u hd rv
  cases hd with
  | non =>
    cases rv
    exact P.repr_of_none ⟨.str _, H, I.tok _, ⟨_, rfl⟩, q⟩
  | bl b =>
    cases rv
    exact P.repr_of_bool ⟨.str _, H, I.tok _, ⟨_, rfl⟩, q⟩
  | int i =>
    obtain ⟨t, rfl⟩ := rv
    have hb : i.natAbs.log2 < 1920 := of_decide_eq_true (by simpa only [PyData.showable] using hs)
    exact P.repr_of_int hb ⟨.str _, H, I.tok _, ⟨_, rfl⟩, by simpa only [PyData.shown] using q⟩
  | str x =>
    obtain ⟨t, rfl⟩ := rv
    exact P.repr_of_str ⟨.str _, H, I.tok _, ⟨_, rfl⟩, by simpa only [PyData.shown] using q⟩ (by simpa only [PyData.shown] using hz)
  | lst h1 h2 =>
    cases rv
    exact repr_of_reads' rd hs (fun e => absurd (hn.symm.trans e) (by decide)) hG (by omega) (fun _ _ e => e) (fun h' t tk hk => ⟨.str _, H, I.kept hk, ⟨_, rfl⟩, q⟩) hz
  | tup h1 h2 =>
    cases rv
    exact repr_of_reads' rd hs (fun e => absurd (hn.symm.trans e) (by decide)) hG (by omega) (fun _ _ e => e) (fun h' t tk hk => ⟨.str _, H, I.kept hk, ⟨_, rfl⟩, q⟩) hz
end
/-! ### the end -/
section
variable (K : PySem.W.Frag) (a : Addr) (vs : List Value) (ns : List Int)
/-- the script as the heap has it -/
abbrev scrO : Obj := { cls := .type "list", data := .seq vs.toArray }
/-- tracked is the script alone, locked, and not even that where the top wrote it -/
def scrH : Hp := fun b => if b = a ∧ K.lookup a = none then some (.frz (scrO vs) (.lst (ns.map V.int))) else none
theorem scrH_or (b : Addr) : scrH K a vs ns b = none ∨ (b = a ∧ K.lookup a = none ∧ scrH K a vs ns b = some (.frz (scrO vs) (.lst (ns.map V.int)))) := by
  unfold scrH
  by_cases h : b = a ∧ K.lookup a = none
  · exact .inr ⟨h.1, h.2, if_pos h⟩
  · exact .inl (if_neg h)
theorem scrH_only : Only (scrH K a vs ns) := fun b => (scrH_or K a vs ns b).imp id fun ⟨_, _, e⟩ => ⟨_, _, e⟩
end
section
variable {P : Program} {w : World} {K : PySem.W.Frag} {a : Addr} {vs : List Value} {ns : List Int} {h : Heap}
theorem scrH_sq (kin : K.In h) (at_ : h.get? a = some (scrO vs)) (hi : IntsAre vs ns) (few : ns.length ≤ sizeLine) : SqL K (scrH K a vs ns) a (ns.map V.int) := by
  cases hk : K.lookup a with
  | none => exact .inl (.inr ⟨scrO vs, if_pos ⟨rfl, hk⟩⟩)
  | some o =>
    obtain rfl : o = scrO vs := Option.some.inj ((kin a o hk).symm.trans at_)
    exact .inr ⟨_, vs.toArray, _, hk, rfl, rfl, rfl, by rw [List.size_toArray, hi.length]; exact few, by simpa using vals_ints hi⟩
theorem scrH_ok (at_ : h.get? a = some (scrO vs)) (hi : IntsAre vs ns) (few : ns.length ≤ sizeLine) : HOk P w (scrH K a vs ns) h := by
  intro b u e
  rcases scrH_or K a vs ns b with n | ⟨rfl, _, y⟩
  · exact absurd (n.symm.trans e) (by simp)
  · cases y.symm.trans e
    refine ⟨at_, ?_, vs, _, vals_ints hi, at_⟩
    rw [List.length_map]
    exact few
/-- what isn't the script, and what the top wrote, stands also where the tracked is hidden -/
theorem scrH_base (at_ : h.get? a = some (scrO vs)) {b : Addr} {o : Obj} (e : h.get? b = some o) (q : o ≠ scrO vs ∨ K.lookup b ≠ none) : (hidT h (scrH K a vs ns)).get? b = some o := by
  refine hidT_get e ((scrH_or K a vs ns b).resolve_right ?_)
  rintro ⟨rfl, n, _⟩
  exact q.elim (fun z => z (Option.some.inj (e.symm.trans at_))) fun z => z n
theorem scrH_ns (at_ : h.get? a = some (scrO vs)) {b : Addr} {m : Str → Option Value} : h.Ns b m → (hidT h (scrH K a vs ns)).Ns b m := by
  rintro ⟨o, es, ep, e, dd, r⟩
  refine ⟨o, es, ep, scrH_base at_ e (.inl ?_), dd, r⟩
  rintro rfl
  exact absurd dd (by simp)
end
/-- a law whose promise holds where no repr is under way: nothing is, where it is called -/
theorem walk_ofG {l : PySem.W.OpenLaw} {n k : Nat} {q : Program} {loose : List Str} {XP : (Str → Option Value) → Heap → Prop} {YP : World → Heap → Prop} {d : DefRec} {K : Params → PySem.W.Frag} {sp : World → Sp} {x : Str}
    (most : l.most = some n) (few : n ≤ sizeLine) (plain : d.params.defaults = []) (room : Room k callerA) (top : ∀ (w : World) (h : Heap), YP w h → (K w.params).In h)
    (F : ∀ (w : World) (mg : Str → Option Value) (fa : Addr) (h : Heap), (K w.params).In h → h.Ns mainGlobals mg → mg d.name = some (.ref fa) →
      ∃ fd : FuncData, (∀ (s : Shared) (u : Value), BindsTo s fd ⟨[u], []⟩ [(x, u)]) ∧ ∀ base : Heap, (K w.params).In base → base.Ns mainGlobals mg → FnOkG l.prog w (K w.params) mg base CX0 k fa fd [x] (sp w))
    (prom : ∀ (w : World) (H : Hp) (a : Addr) (ns : List Int), ns.length ≤ n → (∀ z ∈ ns, Builtin.Int.intBits z ≤ 1048576) → Only H → SqL (K w.params) H a (ns.map V.int) → sp w [.ref a] H (fun v _ => v = .bl true) fun _ _ _ => False) :
    PySem.W.WalkO q loose XP YP l.row.toRowW d [] (fun f vs => PySem.call f vs) := by
  apply Att.attach_callB most plain
  intro w s₀ s₁ mg mb fa o pm cd doc a vs ns G Y _ _ _ hmg at_ isI size bits gens
  have kin := top w _ Y
  obtain ⟨fd, bind, hF⟩ := F w mg fa _ kin G.T.g hmg
  have few' := Nat.le_trans size few
  have ok : HOk l.prog w (scrH (K w.params) a vs ns) s₁.heap := scrH_ok at_ isI few'
  have kin' : (K w.params).In (hidT s₁.heap (scrH (K w.params) a vs ns)) := fun b o e => scrH_base at_ (kin b o e) (.inr (by rw [e]; simp))
  have g' := scrH_ns (K := K w.params) (ns := ns) at_ G.T.g
  obtain ⟨mc, lim1, lim2⟩ := G.T.nolimit
  have e0 : Env0 l.prog w (K w.params) mg (hidT s₁.heap (scrH (K w.params) a vs ns)) callerA [] s₁ (scrH (K w.params) a vs ns) :=
    ⟨rfl, ⟨kin', g', ⟨mb, scrH_ns at_ G.T.b, G.T.builtins⟩, ⟨mc, scrH_ns at_ lim1, lim2⟩⟩, fun _ _ => of_hidT, Nat.le_of_eq (hidT_size _ _), trivial, (by intro _ z; cases z), ok, AllBare.of_eq gens⟩
  refine codeAny_mono ((hF _ kin' g').calls (us := [.ref a]) (vs := [.ref a]) rfl room e0 (bind s₁ (.ref a)) (.cons rfl .nil) (prom w _ a ns size bits (scrH_only (K w.params) a vs ns) (scrH_sq kin at_ isI few'))) fun r s' h => ?_
  match r, h with
  | .error e, h => exact h.elim
  | .ok .next, h => exact h.elim
  | .ok .brk, h => exact h.elim
  | .ok .cont, h => exact h.elim
  | .ok (.ret u), ⟨v, H', os, bare, un, ok', rel, is⟩ =>
    have is : v = .bl true := is
    subst is
    cases (show u = Value.bool true from rel)
    refine ⟨rfl, OldK.of_keep ?_, os, bare⟩
    intro b o e
    rcases scrH_or (K w.params) a vs ns b with z | ⟨rfl, _, z⟩
    · exact un.keep b o e z (fun m => nomatch m) (by simp)
    · cases at_.symm.trans e
      exact (ok' _ _ (un.frzs _ _ _ z)).1
end HopR

set_option Elab.async false
set_option linter.all false
set_option maxRecDepth 100000
namespace HopR
open PySem PySem.Spec PyProof.Rows L2
theorem hu66 {A : Around} {k : Nat} (hr : Room k A) : A.units + 66 < cLine := by
  have := hr.un
  omega
/-! ### f(k = v, ..), no value by its place -/
section
variable {X : Cx} {CX : CXT} {k : Nat} {f : Addr} {fd : FuncData} {ps ks : List Str} {sp : Sp} {E : XK} {x : Str} {p pos : Pos} {kws : List Keyword} {tk : TA}
def tCallKw (m : Nat) (sp : Sp) (gV : List V → List V) (E : XK) (tk : TA) : TE := fun σ H Q => tk σ H fun zs H2 => zs.length = m ∧ sp (gV zs) H2 Q E
theorem pe_callKw {g : List Value → List Value} {gV : List V → List V} (F : FnOk X.prog X.w X.K X.mg X.base CX k f fd ps sp) (hr : Room k X.A) (hg : Gl X x) (hm : X.mg x = some (.ref f)) (hk : PySem.W.keepIn X.K (.ref f) = true)
    (hb : ∀ (s : Shared) (ws : List Value), X.K.In s.heap → ws.length = ks.length → BindsTo s fd ⟨[], ks.zip ws⟩ (ps.zip (g ws))) (hrel : ∀ {zs : List V} {ws : List Value}, Vals zs ws → Vals (gV zs) (g ws)) (hx : Passes CX X E) (hkw : PK X kws tk)
    (hall : (backToKw pos (keywordEach kws X.env)).all (·.1.isSome) = true := by rfl) (hks : (backToKw pos (keywordEach kws X.env)).filterMap (·.1) = ks := by rfl) (hdb : (x == ("__debug__" : Str)) = false := by decide)
    (hpl : ((backTo pos (starEach [] X.env)).any (·.1) || (backToKw pos (keywordEach kws X.env)).any (·.1.isNone)) = false := by rfl) :
    PE X (.Call (.Name x p) [] kws pos) (tCallKw ks.length sp gV E tk) := by
  refine ⟨fun pins s σ H Q I h => wpAny_Call_Name_kw (ld_glob I hg hm ?_ hdb)⟩
  refine PySem.W.callWith_KW0 (h₀ := X.base) I.ok.mod.kin hk hall (thn (hkw.run pos pins s σ H _ I h) fun ws s2 ⟨zs, H2, I2, rz, l2, q2⟩ => ⟨I2.kIn, ?_⟩) hpl
  rw [hks]
  refine wpAny_call (codeAny_mono (F.run X.A X.stack s2 H2 ⟨[], ks.zip ws⟩ (g ws) (gV zs) Q E hr I2.env0 (hb s2 ws I2.kIn (rz.length.symm.trans l2)) (hrel rz) q2) fun r s' hq => ?_)
  match r, hq with
  | .error e, hq => exact hx pins σ H2 s2 e s' I2 hq
  | .ok (.ret u), hq => exact I2.after hq
  | .ok .next, hq => exact hq.elim
  | .ok .brk, hq => exact hq.elim
  | .ok .cont, hq => exact hq.elim
end
/-! ### lists of small numbers as data -/
def wv (k : Nat) : V := .int (k : Int)
def dw (k : Nat) : PyData := PyData.int (k : Int)
theorem dp_walls {K : PySem.W.Frag} {H : Hp} : ∀ ks : List Nat, DpAll K H (ks.map wv) (ks.map dw)
  | [] => .nil
  | k :: r => .cons (.int _) (dp_walls r)
theorem lay_dw : ∀ ks : List Nat, PyData.canLayAll0 (ks.map dw) = true
  | [] => rfl
  | k :: r => by
    rw [List.map_cons]
    simp only [PyData.canLayAll0, lay_dw r, Bool.and_true]
    rfl
theorem deep_dw : ∀ ks : List Nat, PyData.depthAll (ks.map dw) = 0
  | [] => rfl
  | k :: r => by
    rw [List.map_cons]
    simp only [PyData.depthAll, deep_dw r]
    rfl
theorem shaped_ints (ks : List Nat) : SeqAt.shaped (.list (ks.map dw)) = true := by
  unfold SeqAt.shaped
  rw [Bool.and_eq_true]
  refine ⟨?_, decide_eq_true ?_⟩
  · simp only [PyData.canLay0, lay_dw]
  · simp only [PyData.depth, deep_dw]
    decide
theorem show_dw : ∀ ks : List Nat, (∀ k ∈ ks, k ≤ 30) → PyData.showableAll (ks.map dw) = true
  | [], _ => rfl
  | k :: r, h => by
    have hk := h k (List.mem_cons_self ..)
    have e : PyData.showable (dw k) = true := by
      show decide ((k : Int).natAbs.log2 < 1920) = true
      refine decide_eq_true (Nat.lt_of_le_of_lt (Nat.log2_le_self _) ?_)
      show k < 1920
      omega
    rw [List.map_cons]
    simp only [PyData.showableAll, e, show_dw r fun q hq => h q (List.mem_cons_of_mem _ hq), Bool.and_true]
theorem nodict_dw : ∀ ks : List Nat, PyData.hasDictAll (ks.map dw) = false
  | [] => rfl
  | k :: r => by
    rw [List.map_cons]
    simp only [PyData.hasDictAll, nodict_dw r, Bool.or_false]
    rfl
theorem text30 : ∀ k < 31, (PyData.shown (dw k)).length ≤ 2 := by decide +kernel
theorem shown_len : ∀ ks : List Nat, (∀ k ∈ ks, k ≤ 30) → ((PyData.shownAll (ks.map dw)).map (·.length)).sum ≤ 2 * ks.length ∧ (PyData.shownAll (ks.map dw)).length = ks.length
  | [], _ => ⟨Nat.le_refl _, rfl⟩
  | k :: r, h => by
    obtain ⟨h1, h2⟩ := shown_len r fun q hq => h q (List.mem_cons_of_mem _ hq)
    have hk := text30 k (by have := h k (List.mem_cons_self ..); omega)
    rw [List.map_cons]
    simp only [PyData.shownAll, List.map_cons, List.sum_cons, List.length_cons]
    omega
theorem ints_show {ks : List Nat} (h : ∀ k ∈ ks, k ≤ 30) (hl : ks.length ≤ 1000) : (PyData.list (ks.map dw)).showable = true ∧ (PyData.list (ks.map dw)).hasDict = false ∧ (PyData.list (ks.map dw)).depth ≤ 64 ∧ (PyData.list (ks.map dw)).shown.length ≤ sizeLine := by
  obtain ⟨h1, h2⟩ := shown_len ks h
  refine ⟨?_, ?_, ?_, ?_⟩
  · simp only [PyData.showable, show_dw ks h]
  · simp only [PyData.hasDict, nodict_dw]
  · simp only [PyData.depth, deep_dw]
    decide
  · simp only [PyData.shown]
    have h3 := listText_len_le (PyData.shownAll (ks.map dw))
    rw [sizeLine_eq]
    omega
/-! ### the law's own words of walls and changes -/
theorem opn_eq {bs : List Bool} {k : Nat} (h : k ≤ bs.length) : opn bs k = ((decide (k = 0) || bs.getD (k - 1) false) && (decide (k = bs.length) || !bs.getD k true)) := by
  have hl := ends_len bs
  have e1 : (ends bs)[k]?.getD false = (decide (k = 0) || bs.getD (k - 1) false) := by
    unfold ends
    cases k with
    | zero => rfl
    | succ j =>
      rw [List.getElem?_cons_succ, List.getElem?_append_left (by omega), List.getD_eq_getElem?_getD]
      simp
  have e2 : (ends bs)[k + 1]?.getD true = (decide (k ≠ bs.length) && bs.getD k true) := by
    unfold ends
    rw [List.getElem?_cons_succ]
    by_cases hk : k = bs.length
    · subst hk
      rw [List.getElem?_append_right (Nat.le_refl _)]
      simp
    · rw [List.getElem?_append_left (by omega), List.getD_eq_getElem?_getD, decide_eq_true hk]
      rfl
  have e3 : opn bs k = (((ends bs)[k]?.getD false) && !((ends bs)[k + 1]?.getD true)) := by
    have g1 : (ends bs)[k]? = some (ends bs)[k] := List.getElem?_eq_getElem (by omega)
    have g2 : (ends bs)[k + 1]? = some (ends bs)[k + 1] := List.getElem?_eq_getElem (by omega)
    have g3 : ((ends bs).drop k).take 2 = [(ends bs)[k], (ends bs)[k + 1]] := by
      rw [List.drop_eq_getElem_cons (by omega), List.drop_eq_getElem_cons (by omega)]
      rfl
    unfold opn
    rw [g3, g1, g2]
    show decide ([(ends bs)[k], (ends bs)[k + 1]] = [true, false]) = ((ends bs)[k] && !(ends bs)[k + 1])
    cases (ends bs)[k] <;> cases (ends bs)[k + 1] <;> rfl
  rw [e3, e1, e2]
  by_cases hk : k = bs.length
  · simp [hk]
  · simp [hk]
def lbeh (bs : List Bool) (k : Nat) : List Bool := if k < bs.length then (if 0 < k then bs.set (k - 1) false else bs).set k true else (if 0 < k then bs.set (k - 1) false else bs)
theorem lbeh_len (bs : List Bool) (k : Nat) : (lbeh bs k).length = bs.length := by
  unfold lbeh
  split <;> split <;> simp
theorem chg_get {bs : List Bool} {k i : Nat} (h : k ≤ bs.length) (hi : i < bs.length) : (chg bs k)[i]? = some (if i + 1 = k then false else if i = k then true else bs[i]) := by
  have hl := ends_len bs
  have hb := bhd_len h
  have he : (ends bs)[i + 1]? = some bs[i] := by
    unfold ends
    rw [List.getElem?_cons_succ, List.getElem?_append_left hi, List.getElem?_eq_getElem hi]
  unfold chg
  rw [List.getElem?_take_of_lt (by rw [hb]; omega), List.getElem?_drop, Nat.add_comm 1 i]
  unfold bhd
  rw [List.append_assoc, List.append_assoc]
  by_cases h1 : i + 1 < k
  · rw [List.getElem?_append_left (by rw [List.length_take]; omega), List.getElem?_take_of_lt h1, he, if_neg (by omega), if_neg (by omega)]
  · rw [List.getElem?_append_right (by rw [List.length_take]; omega), List.length_take, Nat.min_eq_left (by omega)]
    by_cases h2 : i + 1 = k
    · rw [if_pos h2, h2, Nat.sub_self]
      rfl
    · rw [if_neg h2]
      by_cases h3 : i = k
      · rw [if_pos h3, show i + 1 - k = 1 by omega]
        rfl
      · rw [if_neg h3]
        obtain ⟨m, hm⟩ : ∃ m, i + 1 - k = m + 2 := ⟨i + 1 - k - 2, by omega⟩
        rw [hm]
        show ((ends bs).drop (k + 2))[m]? = some bs[i]
        rw [List.getElem?_drop, show k + 2 + m = i + 1 by omega, he]
theorem lbeh_eq {bs : List Bool} {k : Nat} (h : k ≤ bs.length) : lbeh bs k = chg bs k := by
  apply List.ext_getElem?
  intro i
  by_cases hi : i < bs.length
  · rw [chg_get h hi]
    unfold lbeh
    have g : bs[i]? = some bs[i] := List.getElem?_eq_getElem hi
    have inner : (if 0 < k then bs.set (k - 1) false else bs)[i]? = some (if i + 1 = k then false else bs[i]) := by
      by_cases hk : 0 < k
      · rw [if_pos hk, List.getElem?_set]
        by_cases e : k - 1 = i
        · rw [if_pos e, if_pos (by omega), if_pos (by omega)]
        · rw [if_neg e, if_neg (by omega), g]
      · rw [if_neg hk, if_neg (by omega), g]
    have il : (if 0 < k then bs.set (k - 1) false else bs).length = bs.length := by
      split <;> simp
    by_cases hk : k < bs.length
    · rw [if_pos hk, List.getElem?_set]
      by_cases e : k = i
      · rw [if_pos e, if_pos (by rw [il]; exact hk), if_neg (by omega), if_pos e.symm]
      · rw [if_neg e, inner]
        by_cases e2 : i + 1 = k
        · rw [if_pos e2, if_pos e2]
        · rw [if_neg e2, if_neg e2, if_neg (fun z => e z.symm)]
    · rw [if_neg hk, inner]
      by_cases e2 : i + 1 = k
      · rw [if_pos e2, if_pos e2]
      · rw [if_neg e2, if_neg e2, if_neg (by omega)]
  · rw [List.getElem?_eq_none (by rw [lbeh_len]; omega), List.getElem?_eq_none (by rw [chg_len h]; omega)]
end HopR

set_option Elab.async false
set_option linter.all false
set_option maxRecDepth 100000
namespace HopR
open PySem PySem.Spec PyProof.Rows L2
/-! ### an exception that is kept behind its suite -/
/-- the exception at a, of the class cls, its dict d, kept as a value -/
def ExH (cls : Value) (d : Option Addr) (a : Addr) : HO := .ext fun h => ∃ (oe : Obj) (vs : Array Value), h.get? a = some oe ∧ Zc cls d oe ∧ oe.data = .fields vs
theorem exH_ok {P : Program} {w : World} {H : Hp} {h : Heap} {a : Addr} {cls : Value} {d : Option Addr} {oe : Obj} {vs : Array Value} (e : h.get? a = some oe) (z : Zc cls d oe) (q : oe.data = .fields vs) : ObjOk P w H h a (ExH cls d a) :=
  ⟨⟨oe, vs, e, z, q⟩, ⟨oe, e⟩, fun _ _ ⟨o, v, q, r⟩ k => ⟨o, v, k o q, r⟩⟩
section
variable {X : Cx} {pins : List (Addr × Obj)} {σ σ0 : L2.St} {H H0 : Hp} {s sI : Shared} {a : Addr} {oe : Obj} {vs : Array Value} {o : HO}
/-- an object that came behind the entry is tracked from now on -/
theorem track (I : Inv X pins σ H s) (J : Inv X pins σ0 H0 sI) (hI : sI.heap.get? a = none) (hx : X.ex = []) (na : H a = none) (nL : a ≠ X.env.locals) (ha : s.heap.get? a = some oe) (hd : oe.data = .fields vs) (new : ObjOk X.prog X.w (upd H a o) s.heap a o) : Inv X pins σ (upd H a o) s := by
  have n0 : ∀ b u, X.s_0.heap.get? b = some u → b ≠ a := by
    intro b u e z
    subst z
    obtain ⟨u2, q⟩ := J.base.there b u e (by rw [hx]; exact fun z => nomatch z)
    rw [hI] at q
    cases q
  have nN : ∀ {b : Addr} {u : HO}, H b = some u → b ≠ a := fun e => ne_of_none e na
  have bs := I.base
  refine ⟨I.ok, I.os, I.bare, ⟨bs.keep, bs.slot, ?_, bs.there, ?_, ?_, ?_⟩, I.loc, I.cell, ?_, ?_, ?_, ?_, I.len⟩
  · intro b u e n q
    rw [upd_ne (n0 b u e)]
    exact bs.free b u e n q
  · intro b xs e
    have q := bs.tups b xs e
    rw [upd_ne (nN q)]
    exact q
  · intro b ob u e
    have q := bs.frzs b ob u e
    rw [upd_ne (nN q)]
    exact q
  · intro b ps e
    obtain ⟨m, q⟩ := bs.tbls b ps e
    exact ⟨m, by rw [upd_ne (nN q)]; exact q⟩
  · rw [upd_ne nL.symm]
    exact I.free
  · intro x c e
    have nc : c ≠ a := by
      intro z
      subst z
      obtain ⟨v, oc, e1, e2⟩ := I.cell x c e
      rw [ha] at e1
      cases e1
      rw [hd] at e2
      cases e2
    rw [upd_ne nc]
    exact I.freeC x c e
  · intro p hp
    have np : p.1 ≠ a := by
      intro z
      have q := (J.pin p hp).1
      rw [z, hI] at q
      cases q
    obtain ⟨e, n, r⟩ := I.pin p hp
    exact ⟨e, by rw [upd_ne np]; exact n, r⟩
  · intro b u e
    by_cases hb : b = a
    · subst hb
      rw [upd_same] at e
      cases e
      exact new
    · rw [upd_ne hb] at e
      refine (I.hok b u e).stay (fun c v _ q => q) (fun c q => ?_) (fun c xs q => ?_)
      · rw [upd_ne (nN q)]
        exact q
      · rw [upd_ne (nN q)]
        exact q
end
theorem fly_keeps {B h h' : Heap} {l : List Env} {a : Addr} {Z : Obj → Prop} (x : HandSPX.FlyingZ B l a Z h) (k : ∀ b o, h.get? b = some o → h'.get? b = some o) : HandSPX.FlyingZ B l a Z h' := by
  obtain ⟨x1, x2, x3, oe, vs, T, oT, ts, e1, e2, e3, e4, e5, e6, e7, e8, e9⟩ := x
  exact ⟨fun b o e => k b o (x1 b o e), x2, x3.of_keeps (fun b o e _ => ⟨o, k b o e, rfl⟩), oe, vs, T, oT, ts, k _ _ e1, e2, e3, e4, e5, e6, k _ _ e7, e8, e9⟩
/-- the clause's test takes the exceptions whose class has m -/
def Tests (X : Cx) (t : Expr) (m : Value → Prop) : Prop :=
  ∀ (a : Addr) (oe : Obj) (pn pins : List (Addr × Obj)) (σ : L2.St) (H : Hp) (s : Shared) (cls : Value) (Q : Value → Shared → Prop) (E : Value → Shared → Prop), Inv (X.suite a ((a, oe) :: pn)) pins σ H s → s.heap.get? a = some oe → oe.cls = cls → m cls →
    (∀ (c : Value) (h' : Heap), (∀ b o, s.heap.get? b = some o → h'.get? b = some o) → PySem.W.Looks (model X.prog X.w) h' (excMatches (.ref a) c) true → Q c { s with heap := h' }) → wpAny (model X.prog X.w) (X.A.mark (some (.ref a))) (eval t X.env) Q E s
theorem ld_nm {X : Cx} {x : Str} {c : Value} {pins : List (Addr × Obj)} {σ : L2.St} {H : Hp} {s : Shared} {Q : Value → Shared → Prop} {E : Value → Shared → Prop} {p : Pos} (I : Inv X pins σ H s) (hc : Names X x c) (q : Q c s) : wpAny (model X.prog X.w) X.A (eval (.Name x p) X.env) Q E s := by
  obtain ⟨g, nd, h | ⟨h1, h2, h3⟩⟩ := hc
  · exact ld_glob I g h q nd
  · exact ld_blt I g h1 h2 q h3 nd
theorem ty_looks {P : Program} {w : World} {h : Heap} {a : Addr} {oe : Obj} {cls : Value} (e : h.get? a = some oe) (c : oe.cls = cls) : PySem.W.Looks (model P w) h (typeOf (.ref a)) cls := by
  intro A Q E s k q
  exact wpAny_typeOf_ref (k _ _ e) (by rw [c]; exact q)
theorem tests_one {X : Cx} {x : Str} {c : Value} {p : Pos} (hc : Names X x c) : Tests X (.Name x p) fun cls => PySem.W.exmOne X.K cls c = some true := by
  intro a oe pn pins σ H s cls Q E I ha hcl hm k
  exact ld_nm (X := X.suite a ((a, oe) :: pn)) I hc (k c s.heap (fun _ _ z => z) (PySem.W.exm_one I.kIn (ty_looks ha hcl) hm))
theorem tests_two {X : Cx} {x1 x2 : Str} {c1 c2 : Value} {p1 p2 pos : Pos} {u} (h1 : Names X x1 c1) (h2 : Names X x2 c2) : Tests X (.Tuple [.Name x1 p1, .Name x2 p2] u pos) fun cls => PySem.W.exmAny X.K cls [c1, c2] = some true := by
  intro a oe pn pins σ H s cls Q E I ha hcl hm k
  refine wpAny_Tuple_spliced ?_
  refine Calls.spliced_cons (ld_nm (X := X.suite a ((a, oe) :: pn)) I h1 ?_)
  refine Calls.spliced_cons (ld_nm (X := X.suite a ((a, oe) :: pn)) I h2 (Calls.spliced_nil ⟨by show 2 ≤ sizeLine; decide, ?_⟩))
  have hk : ∀ b o, s.heap.get? b = some o → (s.heap.push { cls := .type "tuple", data := .seq [c1, c2].toArray }).get? b = some o := fun b o e => Heap.get?_push_of_some _ e
  refine k (.ref s.heap.objs.size) _ hk ?_
  exact PySem.W.exm_tup2 (fun b o e => hk b o (I.kIn b o e)) (ty_looks (hk _ _ ha) hcl) (Heap.get?_push_size _ rfl) hm
/-- what 'except .. as n: v = n' wishes of an exception of the body: it is taken, and kept in slot j; slot i, n's, is empty behind it -/
def wHeld (m : Value → Prop) (i j : Nat) (D : Ends) : WX := fun cls d σ H => m cls ∧ ∀ a, H a = none → D.nx (((σ.set i (some (.ref a))).set j (some (.ref a))).set i none) (upd H a (ExH cls d a))
section
variable {X : Cx} {n v : Str} {i j : Nat} {t : Expr} {m : Value → Prop} {body : List Stmt} {pos pos' p1 p2 p3 : Pos} {tb : WX → TS}
theorem ps_try_held (hs : X.stack = X.env :: X.outer) (hf : X.env.frame = some X.env.locals) (hN : X.N.Nodup) (hi : X.N[i]? = some n) (hj : X.N[j]? = some v) (hln : X.env.kindOf n = some .local) (hlv : X.env.kindOf v = some .local) (hx : X.ex = []) (ht : Tests X t m)
    (hb : ∀ (W : WX) (pn : List (Addr × Obj)) (xe : Value → Shared → Prop), Takes (X.tr pn xe) W → PassesOwn (model X.prog X.w) X.A X.env xe → PSs (X.tr pn xe) body (tb W))
    (hsu : ∀ (a : Addr) (oe : Obj) (pn : List (Addr × Obj)), PSs (X.suite a ((a, oe) :: pn)) [.Assign [.Name v p1] (.Name n p2) p3] (tAsg (tVar i) (gName j))) :
    PS X (.Try body [.ExceptHandler (some t) (some n) [.Assign [.Name v p1] (.Name n p2) p3] pos'] [] [] pos) (fun D σ H => tb (wHeld m i j D) D σ H) := by
  constructor
  intro pins s σ H D I h
  have ok := I.ok
  have frm : X.A.frames = some (X.env :: X.outer) := ok.frames.trans (congrArg some hs)
  have body_ := hb (wHeld m i j D) (X.pn ++ pins) (fun e s₁ => wpAny (model X.prog X.w) X.A (noteFrame e X.env) (fun _ s₂ => wpAny (model X.prog X.w) X.A (setFlight e none) (fun _ s₃ => wpAny (model X.prog X.w) X.A (handleBy e X.env [.ExceptHandler (some t) (some n) [.Assign [.Name v p1] (.Name n p2) p3] pos']) (SP X pins D) X.xe s₃) X.xe s₂) X.xe s₁) ?caught PassesOwn.looking
  · refine wpAny_Try_except (wpAny_mono (body_.run [] s σ H D (I.toTry _) h) ?_ fun _ _ z => z)
    intro f s1 hsp
    match f, hsp with
    | .next, ⟨σ', H', J', q⟩ => exact wpAny_execs_nil ⟨σ', H', J'.ofTry ok, q⟩
    | .brk, ⟨σ', H', J', q⟩ => exact ⟨σ', H', J'.ofTry ok, q⟩
    | .cont, ⟨σ', H', J', q⟩ => exact ⟨σ', H', J'.ofTry ok, q⟩
    | .ret u, ⟨v, σ', H', J', r, q⟩ => exact ⟨v, σ', H', J'.ofTry ok, r, q⟩
  case caught =>
    rintro u s' ⟨a, B, sI, pins', σ', H', cls, d, rfl, J', nb, up, sky, na, os, ag, hm, hk⟩
    have J : Inv X pins σ' H' sI := J'.ofTry ok
    have sk2 : Sky B (X.env :: X.outer) a (Zc cls d) X.env.locals s'.heap := hs ▸ sky
    show wpAny (model X.prog X.w) X.A (noteFrame (.ref a) X.env) _ _ _
    refine Sky.land Zc.steady frm hf sk2 fun h3 fl3 up3 => ?_
    have notF : ∀ {g : Heap}, HandSPX.FlyingZ B (X.env :: X.outer) a (Zc cls d) g → a ∉ frs (X.env :: X.outer) := by
      intro g fl hmem
      obtain ⟨o1, v1, e1, _, e3⟩ := fl.there
      obtain ⟨_, o2, e2, hn2⟩ := fl.2.2.1.mem hmem
      rw [e1] at e2
      cases e2
      exact hn2 _ e3
    have nfr := notF fl3
    have nL : a ≠ X.env.locals := by
      intro z
      exact nfr (List.mem_filterMap.mpr ⟨X.env, List.mem_cons_self, hf.trans (congrArg some z.symm)⟩)
    have nF : a ∉ X.fs := by
      intro z
      obtain ⟨e, he, q⟩ := List.mem_filterMap.mp z
      exact nfr (List.mem_filterMap.mpr ⟨e, List.mem_cons_of_mem _ he, q⟩)
    have nI : sI.heap.get? a = none := by
      cases e : sI.heap.get? a with
      | none => rfl
      | some o =>
        have q := nb a o e (by rw [hs]; exact nfr)
        rw [fl3.2.1] at q
        cases q
    obtain ⟨oe3, vs3, he3, hz3, hd3⟩ := fl3.there
    have J3 : Inv X pins σ' H' { s' with heap := h3 } := J.landed nb fl3.1 (up.trans up3) os ag
    refine wpAny_handleBy_cons (codeAny_handlers_test ?_) (fun q => nomatch q)
    refine ht a oe3 _ _ _ _ _ cls _ _ (J3.suite he3 hd3 na nL nF) he3 hz3.1 hm fun c h' kp lk => lk.here ?_
    refine codeAny_handlers_suite_as (HandSPX.lands_againZ (fly_keeps fl3 kp) fun h4 fl4 up4 => ?_)
    have upA : sI.heap.UpToSlots h4 := ((up.trans up3).trans (Heap.UpToSlots.of_keeps kp)).trans up4
    have J4 : Inv X pins σ' H' { s' with heap := h4 } := J.landed nb fl4.1 upA os ag
    obtain ⟨oe4, vs4, he4, hz4, hd4⟩ := fl4.there
    refine store_ok (X := X.suite a ((a, oe4) :: (X.pn ++ pins))) (v := .ref a) (J4.suite he4 hd4 na nL nF) hN hi (.inl hln) rfl (fun s5 S5 => ?_) (.inr hln)
    have hlen : i < σ'.length := by
      rw [J.len]
      exact (List.getElem?_eq_some_iff.mp hi).1
    refine wpAny_mono ((hsu a oe4 (X.pn ++ pins)).run [] s5 _ H' { nx := fun σ6 H6 => σ6 = (σ'.set i (some (.ref a))).set j (some (.ref a)) ∧ H6 = H', rt := fun _ _ => False } S5 ?_) (fun f s6 hsp => ?_) (fun _ _ z => False.elim z)
    · exact ⟨.ref a, by simp [hlen], rfl, rfl⟩
    match f, hsp with
    | .next, ⟨σ6, H6, S6, e6, e7⟩ =>
      subst e6 e7
      refine gone_ok (X := X.suite a ((a, oe4) :: (X.pn ++ pins))) S6 hN hi hln fun s7 S7 => ?_
      have ha7 := (S7.pin (a, oe4) (List.mem_append_left _ List.mem_cons_self)).1
      exact ⟨_, _, track (S7.unsuite ok) J nI hx na nL ha7 hd4 (exH_ok ha7 hz4 hd4), hk a na⟩
    | .brk, ⟨_, _, _, z⟩ => exact z.elim
    | .cont, ⟨_, _, _, z⟩ => exact z.elim
    | .ret u, ⟨_, _, _, _, _, z⟩ => exact z.elim
end
end HopR

set_option Elab.async false
set_option linter.all false
set_option maxRecDepth 100000
namespace HopR
open PySem PySem.Spec PyProof.Rows L2
/-! ### isinstance of a kept exception without a dict -/
section
variable {X : Cx}
theorem held_at {pins : List (Addr × Obj)} {σ : L2.St} {H : Hp} {s : Shared} {a D : Addr} (I : Inv X pins σ H s) (ha : H a = some (ExH (.ref D) none a)) : ∃ oe, PySem.W.InstAt s.heap a oe D none := by
  obtain ⟨⟨oe, vs, e, ⟨z1, z2⟩, q⟩, _, _⟩ := I.hok a _ ha
  obtain ⟨oc, od, oda, osl⟩ := oe
  dsimp only at z1 z2 q
  subst z1 z2 q
  exact ⟨_, e, rfl, rfl, trivial⟩
/-- isinstance(kept, c) -/
def rIsH (K : PySem.W.Frag) : List V → Hp → VK → Prop := fun xs H Q => ∃ (a D : Addr) (c : V) (cv : Value) (b : Bool), xs = [.ref a, c] ∧ H a = some (ExH (.ref D) none a) ∧ ExcC K D ∧ ClsV c cv ∧ PySem.W.kitOne K (.ref D) cv = some b ∧ Q (.bl b) H
theorem call_isH : CallR X (.builtin "isinstance") (rIsH X.K) := by
  rintro pins s σ H xs us Q I r ⟨a, D, c, cv, b, rfl, ha, C, kc, e, q⟩
  obtain ⟨u1, u2, rfl, r1, r2⟩ := vals2 r
  obtain rfl := kc.eq r2
  cases (show u1 = Value.ref a from r1)
  obtain ⟨oe, J⟩ := held_at I ha
  exact PySem.W.kia_one (PySem.W.handS_kitx_exc C.hg C.hk C.hs C.hd C.ha C.hn C.ht C.hm) I.kIn J e (fun z => nomatch z) fun tk => ⟨.bl b, H, I.tok tk, rfl, q⟩
/-- isinstance(kept, (c1, c2, ..)) -/
def rIsHT (K : PySem.W.Frag) : List V → Hp → VK → Prop := fun xs H Q => ∃ (a D tp : Addr) (cs : List V) (ws : List Value) (b : Bool), xs = [.ref a, .ref tp] ∧ H a = some (ExH (.ref D) none a) ∧ ExcC K D ∧ H tp = some (.tup cs) ∧ Paired ClsV cs ws ∧ PySem.W.kitAny K (.ref D) ws = some b ∧ Q (.bl b) H
theorem call_isHT : CallR X (.builtin "isinstance") (rIsHT X.K) := by
  rintro pins s σ H xs us Q I r ⟨a, D, tp, cs, ws, b, rfl, ha, C, ht, kc, e, q⟩
  obtain ⟨u1, u2, rfl, r1, r2⟩ := vals2 r
  cases (show u1 = Value.ref a from r1)
  cases (show u2 = Value.ref tp from r2)
  obtain ⟨oe, J⟩ := held_at I ha
  have hT : ObjOk X.prog X.w H s.heap tp (.tup cs) := I.hok tp _ ht
  obtain ⟨_, its, rv, ⟨oc, od, dt, osl⟩, g1, g2, n, g3⟩ := hT
  obtain rfl := ClsV.all kc rv
  simp only at g2 g3
  subst g2 g3
  exact PySem.W.kia_tup (PySem.W.handS_kitx_exc C.hg C.hk C.hs C.hd C.ha C.hn C.ht C.hm) I.kIn J g1 e (fun z => nomatch z) fun tk => ⟨.bl b, H, I.tok tk, rfl, q⟩
end
/-! ### things that are whole numbers or not -/
/-- x is of a built-in type that is no whole number's -/
def Odd (K : PySem.W.Frag) (H : Hp) (x : V) : Prop := ∃ t bI, TyX K H x t ∧ PySem.W.kitOne K t (.type "int") = some bI ∧ (bI = true → PySem.W.kitOne K t (.type "bool") = some true)
theorem odd_non {K : PySem.W.Frag} {H : Hp} : Odd K H .non := ⟨_, false, .base .non, kit_ty (by decide +kernel), fun z => nomatch z⟩
theorem odd_bl {K : PySem.W.Frag} {H : Hp} {b : Bool} : Odd K H (.bl b) := ⟨_, true, .base (.bl b), kit_ty (by decide +kernel), fun _ => kit_ty (by decide +kernel)⟩
theorem odd_str {K : PySem.W.Frag} {H : Hp} {z : Str} : Odd K H (.str z) := ⟨_, false, .base (.str z), kit_ty (by decide +kernel), fun z => nomatch z⟩
theorem odd_lst {K : PySem.W.Frag} {H : Hp} {a : Addr} {xs : List V} (e : H a = some (.lst xs)) : Odd K H (.ref a) := ⟨_, false, .base (.lst e), kit_ty (by decide +kernel), fun z => nomatch z⟩
theorem odd_tup {K : PySem.W.Frag} {H : Hp} {a : Addr} {xs : List V} (e : H a = some (.tup xs)) : Odd K H (.ref a) := ⟨_, false, .base (.tup e), kit_ty (by decide +kernel), fun z => nomatch z⟩
theorem odd_dK {K : PySem.W.Frag} {H : Hp} {a : Addr} {xs : List (Key × V)} (e : H a = some (.dK xs)) : Odd K H (.ref a) := ⟨_, false, .base (.dK e), kit_ty (by decide +kernel), fun z => nomatch z⟩
end HopR

set_option Elab.async false
set_option linter.all false
set_option maxRecDepth 100000
namespace HopR
open PySem L2
theorem same_upd {H : Hp} {p : Addr} {o : HO} (h : H p = none) : Same H (upd H p o) := fun b x e => by
  rw [upd_ne (ne_of_none e h)]
  exact e
theorem same_new {H H1 : Hp} {p : Addr} {o : HO} (h : H p = none) (s : Same H H1) : Same H (upd H1 p o) := fun b x e => by
  rw [upd_ne (ne_of_none e h)]
  exact s _ _ e
/-- a def of the text, its binding, where its name leads -/
structure Fn (K : PySem.W.Frag) (mg : Str → Option Value) (x : Str) (st : Stmt) (ps : List Str) (f : Addr) (fd : FuncData) : Prop where
  F : Fun K x x st f fd
  b : Binds K fd ps []
  g : mg x = some (.ref f)
end HopR

set_option Elab.async false
set_option linter.all false
set_option maxRecDepth 100000
namespace HopR
open PySem L2
/-! ### classes of refusals -/
theorem kit_own {K : PySem.W.Frag} {D C : Addr} {b : Bool} (ne : D ≠ C) (hd : PySem.W.hasDictIn K C = true) (ht : PySem.W.typeIn K (.ref C) = some (.type "type")) (h : PySem.W.subIn K (.ref D) (.ref C) = some b) : PySem.W.kitOne K (.ref D) (.ref C) = some b := by
  obtain ⟨cd, hc, _⟩ := PySem.W.any_some hd
  have e1 : ((Value.ref D == Value.ref C) = true) = False := by
    rw [eq_iff_iff]
    exact ⟨fun z => ne (Value.ref.inj (beq_iff_eq.mp z)), False.elim⟩
  have e2 : ((PySem.W.clsIn K C).isSome && PySem.W.typeIn K (.ref C) == some (.type "type")) = true := by rw [hc, ht] <;> rfl
  unfold PySem.W.kitOne
  rw [if_neg (by rw [e1]; exact id)]
  show (if ((PySem.W.clsIn K C).isSome && PySem.W.typeIn K (.ref C) == some (.type "type")) = true then PySem.W.subIn K (.ref D) (.ref C) else none) = some b
  rw [if_pos e2]
  exact h
theorem kit_me {K : PySem.W.Frag} {D : Addr} : PySem.W.kitOne K (.ref D) (.ref D) = some true := by
  unfold PySem.W.kitOne
  rw [if_pos (by simp)]
theorem kit_blt {K : PySem.W.Frag} {D : Addr} {T : String} {b : Bool} (m : PySem.W.kitMeta T = true) (h : PySem.W.subIn K (.ref D) (.type T) = some b) : PySem.W.kitOne K (.ref D) (.type T) = some b := by
  have e1 : ¬ ((Value.ref D == Value.type T) = true) := fun z => nomatch (beq_iff_eq.mp z)
  unfold PySem.W.kitOne
  rw [if_neg e1]
  show (if PySem.W.kitMeta T = true then PySem.W.subIn K (.ref D) (.type T) else none) = some b
  rw [if_pos m]
  exact h
theorem kitAny_cons {K : PySem.W.Frag} {t c : Value} {r : List Value} (h : PySem.W.kitOne K t c = some false) (q : PySem.W.kitAny K t r = some false) : PySem.W.kitAny K t (c :: r) = some false := by
  simp only [PySem.W.kitAny, h, q]
theorem kitAny_nil {K : PySem.W.Frag} {t : Value} : PySem.W.kitAny K t [] = some false := by simp only [PySem.W.kitAny]
theorem exmAny2 {K : PySem.W.Frag} {t c1 c2 : Value} {b1 b2 : Bool} (h1 : PySem.W.exmOne K t c1 = some b1) (h2 : PySem.W.exmOne K t c2 = some b2) : PySem.W.exmAny K t [c1, c2] = some (b1 || b2) := by
  simp only [PySem.W.exmAny, h1, h2, Bool.or_false]
/-- an own exception class, as its instances are made and asked -/
structure Xc (K : PySem.W.Frag) (D : Addr) (bm : List Value) (nw : String) : Prop where
  x : PySem.W.excIn K D bm nw = true
  k : PySem.W.keepIn K (.ref D) = true
  be : PySem.W.subIn K (.ref D) (.type "BaseException") = some true
  ty : PySem.W.typeIn K (.ref D) = some (.type "type")
  c : ExcC K D
abbrev bmV : List Value := [.type "ValueError", .type "Exception", .type "BaseException", .type "object"]
abbrev bmZ : List Value := [.type "ZeroDivisionError", .type "ArithmeticError", .type "Exception", .type "BaseException", .type "object"]
/-! ### things by their kind -/
theorem tyx_same {K : PySem.W.Frag} {H H' : Hp} {x : V} {t : Value} (s : Same H H') (ty : TyX K H x t) : TyX K H' x t := by
  cases ty with
  | base h =>
    cases h with
    | non => exact .base .non
    | bl x => exact .base (.bl x)
    | int i => exact .base (.int i)
    | str x => exact .base (.str x)
    | flt x => exact .base (.flt x)
    | lst e => exact .base (.lst (s _ _ e))
    | frz e => exact .base (.frz (s _ _ e))
    | tup e => exact .base (.tup (s _ _ e))
    | dK e => exact .base (.dK (s _ _ e))
    | dT e => exact .base (.dT (s _ _ e))
    | ins e a b c d f => exact .base (.ins (s _ _ e) a b c d f)
  | byt b => exact .byt b
  | set e => exact .set (s _ _ e)
  | kList e c => exact .kList e c
  | kTuple e c => exact .kTuple e c
  | kDict e c => exact .kDict e c
  | fTuple e => exact .fTuple (s _ _ e)
  | fDict e => exact .fDict (s _ _ e)
theorem odd_same {K : PySem.W.Frag} {H H' : Hp} {x : V} (s : Same H H') (h : Odd K H x) : Odd K H' x := by
  obtain ⟨t, b, ty, k⟩ := h
  exact ⟨t, b, tyx_same s ty, k⟩
/-- x is no text -/
def NoTxt (K : PySem.W.Frag) (H : Hp) (x : V) : Prop := ∃ t, TyX K H x t ∧ PySem.W.kitOne K t (.type "str") = some false
theorem notxt_non {K : PySem.W.Frag} {H : Hp} : NoTxt K H .non := ⟨_, .base .non, kit_ty (by decide +kernel)⟩
theorem notxt_bl {K : PySem.W.Frag} {H : Hp} {b : Bool} : NoTxt K H (.bl b) := ⟨_, .base (.bl b), kit_ty (by decide +kernel)⟩
theorem notxt_int {K : PySem.W.Frag} {H : Hp} {i : Int} : NoTxt K H (.int i) := ⟨_, .base (.int i), kit_ty (by decide +kernel)⟩
theorem notxt_lst {K : PySem.W.Frag} {H : Hp} {a : Addr} {xs : List V} (e : H a = some (.lst xs)) : NoTxt K H (.ref a) := ⟨_, .base (.lst e), kit_ty (by decide +kernel)⟩
theorem notxt_tup {K : PySem.W.Frag} {H : Hp} {a : Addr} {xs : List V} (e : H a = some (.tup xs)) : NoTxt K H (.ref a) := ⟨_, .base (.tup e), kit_ty (by decide +kernel)⟩
theorem notxt_dK {K : PySem.W.Frag} {H : Hp} {a : Addr} {xs : List (Key × V)} (e : H a = some (.dK xs)) : NoTxt K H (.ref a) := ⟨_, .base (.dK e), kit_ty (by decide +kernel)⟩
theorem notxt_same {K : PySem.W.Frag} {H H' : Hp} {x : V} (s : Same H H') (h : NoTxt K H x) : NoTxt K H' x := by
  obtain ⟨t, ty, k⟩ := h
  exact ⟨t, tyx_same s ty, k⟩
/-! ### signs in the written dict of both signs -/
/-- the sign is a bead or a free place -/
def okc (c : Nat) : Bool := decide (c = 111) || decide (c = 46)
theorem okc_cd (b : Bool) : okc (cd b) = true := by cases b <;> rfl
def keyText : Value → Option Str
  | .str s _ => some s
  | _ => none
theorem keyText_str {v : Value} {s : Str} (h : keyText v = some s) : ∃ t, v = .str s t := by
  cases v <;> simp [keyText] at h
  exact ⟨_, by rw [h]⟩
def keysAre (es : Array DictEntry) : Prop := es.toList.map (fun e => keyText e.key) = [some ("o" : Str), some ("." : Str)]
theorem sign_in {K : PySem.W.Frag} {d : Addr} {es : Array DictEntry} {n : Nat} (l : K.lookup d = some ⟨.type "dict", none, .dict es n, #[]⟩) (hk : keysAre es) (c : Nat) : ∃ r, PySem.W.nsIn K d ⟨#[c]⟩ = some r ∧ r.isSome = okc c := by
  unfold keysAre at hk
  obtain ⟨e1, e2, hes⟩ : ∃ e1 e2, es.toList = [e1, e2] := by
    have hl := congrArg List.length hk
    rw [List.length_map] at hl
    match h : es.toList, hl with
    | [e1, e2], _ => exact ⟨e1, e2, rfl⟩
  rw [hes] at hk
  obtain ⟨t1, k1⟩ := keyText_str (List.cons.inj hk).1
  obtain ⟨t2, k2⟩ := keyText_str (List.cons.inj (List.cons.inj hk).2).1
  have i1 : e1.key.isStr ⟨#[c]⟩ = decide (c = 111) := by
    rw [k1]
    by_cases h : c = 111
    · subst h
      show (("o" : Str) == ⟨#[111]⟩) = true
      decide +kernel
    · rw [decide_eq_false h]
      have : ¬ (("o" : Str) = ⟨#[c]⟩) := fun z => by
        have z2 := congrArg (fun q : Str => q.cps.toList) z
        have z3 : [111] = [c] := z2
        exact h (List.cons.inj z3).1.symm
      simp [Value.isStr, this]
  have i2 : e2.key.isStr ⟨#[c]⟩ = decide (c = 46) := by
    rw [k2]
    by_cases h : c = 46
    · subst h
      show (("." : Str) == ⟨#[46]⟩) = true
      decide +kernel
    · rw [decide_eq_false h]
      have : ¬ (("." : Str) = ⟨#[c]⟩) := fun z => by
        have z2 := congrArg (fun q : Str => q.cps.toList) z
        have z3 : [46] = [c] := z2
        exact h (List.cons.inj z3).1.symm
      simp [Value.isStr, this]
  have r1 : e1.refKey = false := by unfold DictEntry.refKey; rw [k1]
  have r2 : e2.refKey = false := by unfold DictEntry.refKey; rw [k2]
  unfold PySem.W.nsIn
  rw [l]
  simp only [hes, List.find?, i1, i2, List.any_cons, r1, r2, List.any_nil, Bool.or_false]
  unfold okc
  by_cases h1 : c = 111
  · simp [h1]
  · by_cases h2 : c = 46
    · simp [h2]
    · simp [h1, h2]
/-- x is no row: no text, or one that is too short, too long, or has another sign -/
def NotRow (K : PySem.W.Frag) (H : Hp) (x : V) : Prop := NoTxt K H x ∨ ∃ z : Str, x = .str z ∧ z.length ≤ 10000 ∧ (z.length = 0 ∨ 30 < z.length ∨ ∃ c ∈ z.cps.toList, okc c = false)
def NotWord (K : PySem.W.Frag) (H : Hp) (x : V) : Prop := NoTxt K H x ∨ ∃ z : Str, x = .str z ∧ z.length ≤ 10000 ∧ (30 < z.length ∨ ∃ c ∈ z.cps.toList, okc c = false)
theorem notrow_same {K : PySem.W.Frag} {H H' : Hp} {x : V} (s : Same H H') (h : NotRow K H x) : NotRow K H' x := h.imp (notxt_same s) id
theorem notword_same {K : PySem.W.Frag} {H H' : Hp} {x : V} (s : Same H H') (h : NotWord K H x) : NotWord K H' x := h.imp (notxt_same s) id
theorem notword_row {K : PySem.W.Frag} {H : Hp} {x : V} (h : NotWord K H x) : NotRow K H x := h.imp id fun ⟨z, e, l, q⟩ => ⟨z, e, l, .inr q⟩
end HopR

set_option Elab.async false
set_option linter.all false
set_option maxRecDepth 100000
namespace HopR
open PySem L2
/-! ### words: where they can be shortened, and to what -/
def shp (bs : List Bool) (i : Nat) : Bool := decide ((bs.drop i).take 2 = [true, false])
def plc (bs : List Bool) : List Nat := (List.range bs.length).filter (shp bs)
def shA (bs : List Bool) (k : Nat) : List Bool := bs.take (k + 1) ++ bs.drop (k + 2)
def shB (bs : List Bool) (k : Nat) : List Bool := bs.take k ++ bs.drop (k + 1)
theorem shp_split {bs : List Bool} {i : Nat} (h : shp bs i = true) : bs = bs.take i ++ true :: false :: bs.drop (i + 2) ∧ i + 2 ≤ bs.length := by
  have h := of_decide_eq_true h
  have e : bs.drop i = [true, false] ++ (bs.drop i).drop 2 := by
    conv => lhs; rw [← List.take_append_drop 2 (bs.drop i), h]
  rw [List.drop_drop] at e
  have hl := congrArg List.length e
  rw [List.length_drop, List.length_append, List.length_drop] at hl
  have hl2 : bs.length - i = 2 + (bs.length - (i + 2)) := hl
  refine ⟨?_, by omega⟩
  conv => lhs; rw [← List.take_append_drop i bs, e]
  rfl
theorem plc_shp {bs : List Bool} {k : Nat} (h : k ∈ plc bs) : shp bs k = true ∧ k < bs.length := ⟨(List.mem_filter.mp h).2, List.mem_range.mp (List.mem_filter.mp h).1⟩
theorem plc_few (bs : List Bool) : (plc bs).length ≤ bs.length := by
  refine Nat.le_trans (List.length_filter_le _ _) ?_
  rw [List.length_range]
  exact Nat.le_refl _
theorem shA_len {bs : List Bool} {k : Nat} (h : k + 2 ≤ bs.length) : (shA bs k).length + 1 = bs.length := by
  unfold shA
  rw [List.length_append, List.length_take, List.length_drop]
  omega
theorem shB_len {bs : List Bool} {k : Nat} (h : k + 2 ≤ bs.length) : (shB bs k).length + 1 = bs.length := by
  unfold shB
  rw [List.length_append, List.length_take, List.length_drop]
  omega
theorem shA_eq {bs : List Bool} {k : Nat} (h : k ∈ plc bs) : shA bs k = bs.take k ++ [true] ++ bs.drop (k + 2) := by
  obtain ⟨e, hl⟩ := shp_split (plc_shp h).1
  unfold shA
  have e2 : bs.take (k + 1) = bs.take k ++ [true] := by
    rw [List.take_add_one]
    congr 1
    rw [e, List.getElem?_append_right (by rw [List.length_take]; omega), List.length_take, show k - min k bs.length = 0 by omega]
    rfl
  rw [e2]
theorem shB_eq {bs : List Bool} {k : Nat} (h : k ∈ plc bs) : shB bs k = bs.take k ++ [false] ++ bs.drop (k + 2) := by
  obtain ⟨e, hl⟩ := shp_split (plc_shp h).1
  unfold shB
  rw [List.append_assoc]
  congr 1
  have e3 : bs.drop (k + 1) = false :: bs.drop (k + 2) := by
    have h1 : k + 1 < bs.length := by omega
    rw [List.drop_eq_getElem_cons h1]
    congr 1
    have h2 : bs[k + 1]? = some false := by
      rw [e, List.getElem?_append_right (by rw [List.length_take]; omega), List.length_take, show k + 1 - min k bs.length = 1 by omega]
      rfl
    rw [List.getElem?_eq_getElem h1] at h2
    exact Option.some.inj h2
  rw [e3]
  rfl
/-! ### words and other things -/
def isRowB (z : Str) : Bool := decide (1 ≤ z.length) && (decide (z.length ≤ 30) && z.cps.toList.all okc)
def isWordB (z : Str) : Bool := decide (z.length ≤ 30) && z.cps.toList.all okc
/-- whether x is a row -/
def RowB (K : PySem.W.Frag) (H : Hp) (x : V) (b : Bool) : Prop := (NoTxt K H x ∧ b = false) ∨ ∃ z : Str, x = .str z ∧ z.length ≤ 10000 ∧ b = isRowB z
/-- whether x is a word -/
def WordB (K : PySem.W.Frag) (H : Hp) (x : V) (b : Bool) : Prop := (NoTxt K H x ∧ b = false) ∨ ∃ z : Str, x = .str z ∧ z.length ≤ 10000 ∧ b = isWordB z
theorem wordB_same {K : PySem.W.Frag} {H H' : Hp} {x : V} {b : Bool} (s : Same H H') (h : WordB K H x b) : WordB K H' x b := h.imp (fun ⟨q, e⟩ => ⟨notxt_same s q, e⟩) id
theorem rowB_same {K : PySem.W.Frag} {H H' : Hp} {x : V} {b : Bool} (s : Same H H') (h : RowB K H x b) : RowB K H' x b := h.imp (fun ⟨q, e⟩ => ⟨notxt_same s q, e⟩) id
theorem okc_tx (bs : List Bool) : (tx bs).cps.toList.all okc = true := by
  rw [tx_list, List.all_map, List.all_eq_true]
  exact fun b _ => okc_cd b
theorem isWord_tx {bs : List Bool} (h : bs.length ≤ 30) : isWordB (tx bs) = true := by
  unfold isWordB
  rw [okc_tx, tx_len, decide_eq_true h]
  rfl
theorem isRow_tx {bs : List Bool} (h1 : 1 ≤ bs.length) (h : bs.length ≤ 30) : isRowB (tx bs) = true := by
  unfold isRowB
  rw [okc_tx, tx_len, decide_eq_true h, decide_eq_true h1]
  rfl
theorem len0 {z : Str} (h : z.length = 0) : z = "" := by
  apply ext_str
  have : z.cps = #[] := Array.eq_empty_of_size_eq_zero h
  rw [this]
  rfl
/-- as the program tells it: a row, or the text without signs -/
theorem isWord_or (z : Str) : isWordB z = (isRowB z || decide (z = "")) := by
  unfold isWordB isRowB
  by_cases h : z.length = 0
  · rw [len0 h]
    decide +kernel
  · have ne : ¬ z = "" := fun e => h (by rw [e]; decide +kernel)
    rw [decide_eq_false ne, decide_eq_true (show 1 ≤ z.length by omega)]
    simp
/-- a spot at which the word of bs can't be shortened -/
def BadSpot (K : PySem.W.Frag) (H : Hp) (y : V) (ks : List Nat) : Prop := Odd K H y ∨ ∃ i : Int, y = .int i ∧ ∀ k ∈ ks, i ≠ (k : Int)
theorem badspot_same {K : PySem.W.Frag} {H H' : Hp} {y : V} {ks : List Nat} (s : Same H H') (h : BadSpot K H y ks) : BadSpot K H' y ks := h.imp (odd_same s) id
theorem inV_in {ks : List Nat} {k : Nat} (h : k ∈ ks) : inV (wv k) (ks.map wv) = true := by
  unfold inV
  rw [List.any_eq_true]
  exact ⟨wv k, List.mem_map_of_mem h, by unfold wv eqV; simp⟩
theorem inV_no {ks : List Nat} {i : Int} (h : ∀ k ∈ ks, i ≠ (k : Int)) : inV (.int i) (ks.map wv) = false := by
  unfold inV
  rw [List.any_eq_false]
  intro x hx
  obtain ⟨k, hk, rfl⟩ := List.mem_map.mp hx
  unfold wv eqV
  simp
  have := h k hk
  omega
theorem flat_ks (ks : List Nat) : (ks.map wv).all flatV = true := by
  rw [List.all_eq_true]
  intro x hx
  obtain ⟨k, _, rfl⟩ := List.mem_map.mp hx
  rfl
theorem fit {m : Nat} (h : m ≤ 10000) : m ≤ sizeLine := Nat.le_trans h (by decide)
theorem fit' {m : Nat} (h : m ≤ 10000) : m < sizeLine := Nat.lt_of_le_of_lt h (by decide)
theorem tx_fit {bs : List Bool} (h : bs.length ≤ 10000) : (tx bs).length ≤ sizeLine := by
  rw [tx_len]
  exact fit h
theorem tx_nil : ("" : Str) = tx [] := by decide +kernel
theorem dec_str {a b : Str} {p : Prop} [Decidable p] (h : a = b ↔ p) : decide (V.str a = V.str b) = decide p := by
  by_cases q : p
  · rw [decide_eq_true q, decide_eq_true (by rw [h.mpr q])]
  · rw [decide_eq_false q, decide_eq_false fun z => q (h.mp (V.str.inj z))]
end HopR

set_option Elab.async false
set_option linter.all false
set_option maxRecDepth 100000
namespace HopR
open PySem L2
/-! ### the draws -/
def dval (left : Int) (k : Nat) (z : Int) : Int :=
  if (1000000000000000000 : Int) ≤ left then left % z
  else
    let small := left % 1000000000000000000
    let one := (small + 7 * (k : Int) + 1) * (48271 + 2 * (k : Int) * (k : Int)) % 2147483647
    let two := (small / 3 + 11 * (k : Int) + 5) * (39373 + 6 * (k : Int)) % 2147483629
    (one * two + one / 64) % z
def dleft (left : Int) (z : Int) : Int := if (1000000000000000000 : Int) ≤ left then left / z else left
def draws : Int → Nat → List Int → List Int
  | _, _, [] => []
  | left, k, z :: r => dval left k z :: draws (dleft left z) (k + 1) r
theorem draws_len : ∀ (zs : List Int) (c : Int) (k : Nat), (draws c k zs).length = zs.length
  | [], _, _ => rfl
  | z :: r, c, k => by
    show (draws (dleft c z) (k + 1) r).length + 1 = r.length + 1
    rw [draws_len r]
theorem dval_ok {c : Int} {k : Nat} {z : Int} (h : 0 < z) : 0 ≤ dval c k z ∧ dval c k z < z := by
  unfold dval
  split
  · exact ⟨Int.emod_nonneg _ (by omega), Int.emod_lt_of_pos _ h⟩
  · exact ⟨Int.emod_nonneg _ (by omega), Int.emod_lt_of_pos _ h⟩
theorem draws_ok : ∀ (zs : List Int) (c : Int) (k : Nat), (∀ z ∈ zs, 0 < z) → ∀ (i : Nat) (d z : Int), (draws c k zs)[i]? = some d → zs[i]? = some z → 0 ≤ d ∧ d < z
  | [], _, _, _, i, d, z, _, h => by simp at h
  | y :: r, c, k, hp, 0, d, z, h1, h2 => by
    have e1 : dval c k y = d := Option.some.inj h1
    have e2 : y = z := Option.some.inj h2
    subst e1 e2
    exact dval_ok (hp y (List.mem_cons_self ..))
  | y :: r, c, k, hp, i + 1, d, z, h1, h2 => draws_ok r _ _ (fun q hq => hp q (List.mem_cons_of_mem _ hq)) i d z h1 h2
/-- the size of a draw is one that is reckoned with -/
def SizeOk (z : Int) : Prop := 0 < z ∧ z < 18446744073709551616
def bits (cs : List Int) : List Bool := cs.map fun c => decide (c = 1)
theorem signs_rows : ∀ (ys : List Str), (∀ y ∈ ys, ∃ b, y = tx [b]) → ∃ bs : List Bool, ys = bs.map fun b => tx [b]
  | [], _ => ⟨[], rfl⟩
  | y :: r, h => by
    obtain ⟨b, e⟩ := h y (List.mem_cons_self ..)
    obtain ⟨bs, e2⟩ := signs_rows r fun z hz => h z (List.mem_cons_of_mem _ hz)
    exact ⟨b :: bs, by rw [e, e2]; rfl⟩
theorem dot_o (c : Int) (h0 : 0 ≤ c) (h2 : c < 2) : atI (".o" : Str).cps.toList c = some (cd (decide (c = 1))) := by
  have e : (".o" : Str).cps.toList = [46, 111] := by decide +kernel
  rw [e]
  rcases (show c = 0 ∨ c = 1 by omega) with rfl | rfl
  · decide
  · decide
/-- a row -/
def Row (bs : List Bool) : Prop := 1 ≤ bs.length ∧ bs.length ≤ 30
theorem row_size {bs : List Bool} (h : Row bs) : (tx bs).length ≤ sizeLine := tx_fit (Nat.le_trans h.2 (by decide))
theorem flat_rep {α : Type} (x : α) : ∀ m : Nat, (List.replicate m [x]).flatten = List.replicate m x
  | 0 => rfl
  | m + 1 => by
    rw [List.replicate_succ, List.flatten_cons, flat_rep x m]
    rfl
theorem rep_of (m : Nat) : repS "o." m = tx (List.replicate m [true, false]).flatten := by
  unfold repS tx
  have e : ("o." : Str).cps.toList = [true, false].map cd := by decide +kernel
  rw [e, List.map_flatten, List.map_replicate]
theorem rep_of_len (m : Nat) : (List.replicate m [true, false]).flatten.length = 2 * m := by
  rw [List.length_flatten, List.map_replicate, List.sum_replicate_nat]
  show m * 2 = 2 * m
  omega
def spDrawn (K : PySem.W.Frag) : Sp := fun vs H Q _ => ∃ (c : Int) (a : Addr) (zs : List Int), vs = [.int c, .ref a] ∧ SqL K H a (zs.map V.int) ∧ (∀ z ∈ zs, SizeOk z) ∧ zs.length ≤ 1000 ∧
  ∀ H' p, Same H H' → H p = none → H' p = some (.lst ((draws c 0 zs).map V.int)) → Q (.ref p) H'
def spCellH (K : PySem.W.Frag) : Sp := fun vs H Q _ => ∃ (a : Addr) (ns : List Int) (k : Nat), vs = [.ref a, .int (k : Int)] ∧ SqL K H a (ns.map V.int) ∧ ∀ c : Int, Q (.int c) H
def spLRow : Sp := fun vs H Q _ => ∃ (c : Int) (M : Nat), vs = [.int c, .int (M : Int)] ∧ 1 ≤ M ∧ M ≤ 30 ∧ ∀ H' bs, Same H H' → 1 ≤ bs.length → bs.length ≤ M → Q (.str (tx bs)) H'
end HopR

set_option Elab.async false
set_option linter.all false
set_option maxRecDepth 100000
namespace HopR
open PySem PySem.Spec PyProof.Rows L2
/-! ### numbers: // by any number but 0 -/
def CDivWN (_ j : Int) : Prop := j ≠ 0 ∧ j.natAbs.log2 < 9000
theorem op_fdivWN {X : Cx} : OpR X (binaryOp .FloorDiv) (rI CDivWN fun i j => .int (i.fdiv j)) := opI fun i j _ _ _ _ _ hc q => floordiv_int hc.1 q (.inl (PyProof.noPylong_of_log2 hc.2))
theorem gcd_fmod (a b : Int) : Int.gcd b (a.fmod b) = Int.gcd a b := by
  rw [Int.fmod_def, Int.mul_comm, Int.gcd_sub_mul_right_right, Int.gcd_comm]
theorem fmod_less (a : Int) {b : Int} (h : b ≠ 0) : (a.fmod b).natAbs < b.natAbs := by
  have h1 := Int.emod_nonneg a h
  have h2 := Int.emod_lt a h
  rw [Int.fmod_eq_emod]
  by_cases h3 : 0 ≤ b ∨ b ∣ a
  · rw [if_pos h3]
    omega
  · rw [if_neg h3]
    have h4 : a % b ≠ 0 := fun e => h3 (.inr (Int.dvd_of_emod_eq_zero e))
    have h5 : b < 0 := by
      refine Int.not_le.mp fun e => h3 (.inl e)
    omega
/-! ### fractions -/
theorem low_num {t b : Int} (h : b ≠ 0) : (t.fdiv (if b < 0 then -(Int.gcd t b : Int) else (Int.gcd t b : Int))) = (Rat.divInt t b).num := by
  have hd : ((Int.gcd t b : Nat) : Int) ∣ t := Int.gcd_dvd_left ..
  rw [Rat.num_divInt, Int.gcd_comm b t]
  by_cases hb : b < 0
  · rw [if_pos hb, Int.fdiv_eq_ediv_of_dvd (by rw [Int.neg_dvd]; exact hd), Int.ediv_neg, Int.sign_eq_neg_one_of_neg hb, Int.neg_one_mul, Int.neg_ediv_of_dvd hd]
  · have hb2 : 0 < b := by omega
    rw [if_neg hb, Int.fdiv_eq_ediv_of_dvd hd, Int.sign_eq_one_of_pos hb2, Int.one_mul]
theorem low_den {t b : Int} (h : b ≠ 0) : (b.fdiv (if b < 0 then -(Int.gcd t b : Int) else (Int.gcd t b : Int))) = ((Rat.divInt t b).den : Int) := by
  have hd : ((Int.gcd t b : Nat) : Int) ∣ b := Int.gcd_dvd_right ..
  rw [Rat.den_divInt, if_neg h, Int.gcd_comm b t]
  rw [Int.natCast_ediv]
  by_cases hb : b < 0
  · rw [if_pos hb, Int.fdiv_eq_ediv_of_dvd (by rw [Int.neg_dvd]; exact hd), Int.ediv_neg, Int.ofNat_natAbs_of_nonpos (by omega), Int.neg_ediv_of_dvd hd]
  · rw [if_neg hb, Int.fdiv_eq_ediv_of_dvd hd, Int.natAbs_of_nonneg (by omega)]
theorem gcd_pos {t b : Int} (h : b ≠ 0) : 0 < Int.gcd t b := Int.gcd_pos_of_ne_zero_right _ h
/-- both numbers of the fraction are below 2 ^ n -/
def Sz (n : Nat) (q : Rat) : Prop := q.num.natAbs < 2 ^ n ∧ q.den < 2 ^ n
theorem Sz.mono {n m : Nat} {q : Rat} (h : Sz n q) (hm : n ≤ m) : Sz m q := ⟨Nat.lt_of_lt_of_le h.1 (Nat.pow_le_pow_right (by decide) hm), Nat.lt_of_lt_of_le h.2 (Nat.pow_le_pow_right (by decide) hm)⟩
theorem sz_divInt {t b : Int} {n : Nat} (h : b ≠ 0) (ht : t.natAbs < 2 ^ n) (hb : b.natAbs < 2 ^ n) : Sz n (Rat.divInt t b) := by
  have g := gcd_pos (t := t) h
  constructor
  · rw [Rat.num_divInt]
    refine Nat.lt_of_le_of_lt (Int.natAbs_ediv_le_natAbs _ _) ?_
    rw [Int.natAbs_mul]
    rcases Int.lt_or_gt_of_ne h with h | h
    · rw [Int.sign_eq_neg_one_of_neg h]; simpa using ht
    · rw [Int.sign_eq_one_of_pos h]; simpa using ht
  · rw [Rat.den_divInt, if_neg h]
    exact Nat.lt_of_le_of_lt (Nat.div_le_self _ _) hb
theorem den_ne (q : Rat) : ((q.den : Nat) : Int) ≠ 0 := by
  have := q.den_nz
  omega
theorem pos_two (n : Nat) : 0 < 2 ^ n := Nat.pow_pos (by decide)
theorem two_lt {a b : Nat} {n : Nat} (ha : a < 2 ^ n) (hb : b < 2 ^ n) : a + b < 2 ^ (n + 1) := by
  rw [Nat.pow_succ]
  omega
theorem add_eq (q r : Rat) : q + r = Rat.divInt (q.num * r.den + r.num * q.den) ((q.den : Int) * (r.den : Int)) := by
  conv => lhs; rw [← Rat.num_divInt_den q, ← Rat.num_divInt_den r]
  exact Rat.divInt_add_divInt _ _ (den_ne q) (den_ne r)
theorem sub_eq (q r : Rat) : q - r = Rat.divInt (q.num * r.den - r.num * q.den) ((q.den : Int) * (r.den : Int)) := by
  conv => lhs; rw [← Rat.num_divInt_den q, ← Rat.num_divInt_den r]
  exact Rat.divInt_sub_divInt _ _ (den_ne q) (den_ne r)
theorem mul_eq (q r : Rat) : q * r = Rat.divInt (q.num * r.num) ((q.den : Int) * (r.den : Int)) := by
  conv => lhs; rw [← Rat.num_divInt_den q, ← Rat.num_divInt_den r]
  exact Rat.divInt_mul_divInt _ _
theorem div_eq (q r : Rat) : q / r = Rat.divInt (q.num * r.den) ((q.den : Int) * r.num) := by
  rw [Rat.div_def]
  conv => lhs; rw [← Rat.num_divInt_den q, ← Rat.num_divInt_den r]
  rw [Rat.inv_divInt]
  exact Rat.divInt_mul_divInt _ _
end HopR

set_option Elab.async false
set_option linter.all false
set_option maxRecDepth 100000
namespace HopR
open PySem PySem.Spec PyProof.Rows L2
/-! ### products, divided out crosswise -/
theorem mul_num (q r : Rat) : (q.num.fdiv (Int.gcd q.num (r.den : Int) : Int)) * (r.num.fdiv (Int.gcd r.num (q.den : Int) : Int)) = (q * r).num := by
  have h1 : ((Int.gcd q.num (r.den : Int) : Nat) : Int) ∣ q.num := Int.gcd_dvd_left ..
  have h2 : ((Int.gcd r.num (q.den : Int) : Nat) : Int) ∣ r.num := Int.gcd_dvd_left ..
  rw [Int.fdiv_eq_ediv_of_dvd h1, Int.fdiv_eq_ediv_of_dvd h2]
  show _ = (Rat.mul q r).num
  unfold Rat.mul
  rfl
theorem mul_den (q r : Rat) : ((q.den : Int).fdiv (Int.gcd r.num (q.den : Int) : Int)) * ((r.den : Int).fdiv (Int.gcd q.num (r.den : Int) : Int)) = ((q * r).den : Int) := by
  have h1 : ((Int.gcd q.num (r.den : Int) : Nat) : Int) ∣ (r.den : Int) := Int.gcd_dvd_right ..
  have h2 : ((Int.gcd r.num (q.den : Int) : Nat) : Int) ∣ (q.den : Int) := Int.gcd_dvd_right ..
  rw [Int.fdiv_eq_ediv_of_dvd h1, Int.fdiv_eq_ediv_of_dvd h2]
  show _ = ((Rat.mul q r).den : Int)
  unfold Rat.mul
  rfl
end HopR

set_option Elab.async false
set_option linter.all false
set_option maxRecDepth 100000
namespace HopR
open PySem PySem.Spec PyProof.Rows L2
/-! ### len, str and repr of objects of an own class; an attribute as a target -/
section
variable {X : Cx} {CX : CXT} {n : Nat} {C f : Addr} {fd : FuncData} {ps : List Str} {sp : Sp} {E : XK}
/-- a def called by a built-in that runs in the same frames -/
theorem call_at {A : Around} {pins : List (Addr × Obj)} {σ : L2.St} {H : Hp} {s : Shared} {Q : VK} {us : List Value} {vs : List V} (F : FnOk X.prog X.w X.K X.mg X.base CX n f fd ps sp) (room : Room n A) (frames : A.frames = X.A.frames) (bind : Binds X.K fd ps []) (lets : Passes CX X E)
    (I : Inv X pins σ H s) (vals : Vals vs us) (prom : sp vs H Q E) : wpAny (model X.prog X.w) A (call (.ref f) us) (EP X pins σ Q) X.xe s := by
  have I0 := I.env0
  have here : Env0 X.prog X.w X.K X.mg X.base A X.stack s H := { frames := frames.trans I0.frames, mod := I0.mod, bs := I0.bs, bsz := I0.bsz, funs := I0.funs, frf := I0.frf, hok := I0.hok, bare := I0.bare }
  have size := vals.length.symm.trans (F.len _ _ _ _ prom)
  have bound := bind s us I.kIn (by rw [List.append_nil]; exact size)
  rw [List.append_nil] at bound
  refine wpAny_call (codeAny_mono (F.run A X.stack s H ⟨us, []⟩ us vs Q E room here bound vals prom) fun r s' h => ?_)
  have said := after_call lets I h
  cases r with
  | error e => exact said
  | ok fl => cases fl <;> exact said
/-- one object of the class, and what its method promises of it -/
def rOwn1 (C : Addr) (sp : Sp) (E : XK) (R : V → Hp → VK → Prop) : List V → Hp → VK → Prop := fun xs H Q => ∃ a dx fs, xs = [.ref a] ∧ H a = some (.ins C dx fs) ∧ sp [.ref a] H (fun v H' => R v H' Q) E
def isLen : V → Hp → VK → Prop := fun v H Q => ∃ i : Int, v = .int i ∧ (0 ≤ i ∧ i < 2 ^ 63) ∧ Q (.int i) H
def isTxt : V → Hp → VK → Prop := fun v H Q => ∃ z : Str, v = .str z ∧ Q (.str z) H
/-- len(o) -/
theorem cr_lenOwn (len : PySem.W.findIn X.K (.ref C) "__len__" = some (some (.ref f))) (fn : PySem.W.isFn X.K (.ref f) = true) (F : FnOk X.prog X.w X.K X.mg X.base CX n f fd ps sp) (room : Room (n + 1) X.A) (bind : Binds X.K fd ps []) (lets : Passes CX X E) :
    CallR X (.builtin "len") (rOwn1 C sp E isLen) := by
  rintro pins s σ H _ us Q I r ⟨a, dx, fs, rfl, ha, prom⟩
  obtain ⟨u, rfl, rv⟩ := vals1 r
  cases rv
  obtain ⟨_, J, _⟩ := ins_get I.hok ha
  obtain ⟨od, J, _⟩ := J.look
  obtain ⟨m, F0⟩ := I.fr
  refine PySem.W.len_K F0 I.ok.mod.kin J len fn (thn (call_at F room.in1 rfl bind lets I (us := [.ref a]) (vs := [.ref a]) (.cons rfl .nil) prom) ?_)
  rintro w s' ⟨z, H', I', rz, i, rfl, hi, q⟩
  obtain ⟨t, rfl⟩ := rz
  exact ⟨hi, .int i, H', I'.tok _, ⟨_, rfl⟩, q⟩
/-- str(o) -/
theorem cr_strOwn (str : PySem.W.findIn X.K (.ref C) "__str__" = some (some (.ref f))) (fn : PySem.W.isFn X.K (.ref f) = true) (F : FnOk X.prog X.w X.K X.mg X.base CX n f fd ps sp) (room : Room (n + 2) X.A) (bind : Binds X.K fd ps []) (lets : Passes CX X E) :
    CallR X (.type "str") (rOwn1 C sp E isTxt) := by
  rintro pins s σ H _ us Q I r ⟨a, dx, fs, rfl, ha, prom⟩
  obtain ⟨u, rfl, rv⟩ := vals1 r
  cases rv
  obtain ⟨_, J, _⟩ := ins_get I.hok ha
  obtain ⟨od, J, _⟩ := J.look
  have un := room.un
  refine PySem.W.kso_call (by show X.A.units + 1 + 1 < cLine; omega) I.kIn J str fn (thn (call_at F room.in1.in1 rfl bind lets I (us := [.ref a]) (vs := [.ref a]) (.cons rfl .nil) prom) ?_)
  rintro w s' ⟨z, H', I', rz, y, rfl, q⟩
  obtain ⟨t, rfl⟩ := rz
  exact ⟨.str y, H', I', ⟨_, rfl⟩, q⟩
/-- repr(o) -/
theorem cr_reprOwn (rep : PySem.W.findIn X.K (.ref C) "__repr__" = some (some (.ref f))) (fn : PySem.W.isFn X.K (.ref f) = true) (F : FnOk X.prog X.w X.K X.mg X.base CX n f fd ps sp) (room : Room (n + 1) X.A) (bind : Binds X.K fd ps []) (lets : Passes CX X E) :
    CallR X (.builtin "repr") (rOwn1 C sp E isTxt) := by
  rintro pins s σ H _ us Q I r ⟨a, dx, fs, rfl, ha, prom⟩
  obtain ⟨u, rfl, rv⟩ := vals1 r
  cases rv
  obtain ⟨_, J, _⟩ := ins_get I.hok ha
  obtain ⟨od, J, _⟩ := J.look
  obtain ⟨m, F0⟩ := I.fr
  have un := room.un
  refine PySem.W.repr_K (by show X.A.units + 1 < cLine; omega) F0 I.ok.mod.kin J rep fn (thn (call_at F room.in1 rfl bind lets I (us := [.ref a]) (vs := [.ref a]) (.cons rfl .nil) prom) ?_)
  rintro w s' ⟨z, H', I', rz, y, rfl, q⟩
  obtain ⟨t, rfl⟩ := rz
  exact ⟨.str y, H', I', ⟨_, rfl⟩, q⟩
end
section
variable {X : Cx}
/-- o.f as a target: the field is put -/
def gFld (K : PySem.W.Frag) (to : TE) (f : Str) : TG := fun v σ H Q => to σ H fun o H1 => ∃ a C dx fs, o = .ref a ∧ H1 a = some (.ins C dx fs) ∧ Cls K C ∧ NoAttr K C f ∧ fs.length < 1000 ∧ Q σ (upd H1 a (.ins C dx (putF f v fs)))
theorem pg_fld {o : Expr} {to : TE} {f : Str} {pos : Pos} (ho : PE X o to) : PG X (.Attribute o f pos) (gFld X.K to f) := by
  constructor
  intro pins s σ H v u Q I r h
  rw [assign_Attribute]
  refine wpAny_bind (wpAny_holding (thn (ho.run pins s σ H _ I h) ?_))
  rintro ov s1 ⟨x, H1, I1, rx, a, C, dx, fs, rfl, ea, c, na, few, q⟩
  cases rx
  refine wpAny_bind (wpAny_standAt (wpAny_bind (wpAny_holding (setattr_ok I1 ea c na few r fun s2 I2 => ?_))))
  exact wpAny_release ⟨σ, _, I2, q⟩
end
end HopR

set_option Elab.async false
set_option linter.all false
set_option maxRecDepth 100000
namespace HopR
open PySem PySem.Spec PyProof.Rows L2
open Builtin Builtin.Str Builtin.Int
/-! ### f"{n:b}" for n to 100 -/
/-- the figures of n by twos -/
def binText (n : Nat) : Str := ⟨((Nat.toDigits 2 n).map Char.toNat).toArray⟩
set_option maxHeartbeats 8000000 in
theorem gives_b : ∀ (n : Nat) (t u : Tok), n < 101 → Gives («int.__format__» ⟨[.int (n : Int) t, .str "b" u], []⟩) (.str (binText n))
  | 0, _, _, _ => .of_eq rfl
  | 1, _, _, _ => .of_eq rfl
  | 2, _, _, _ => .of_eq rfl
  | 3, _, _, _ => .of_eq rfl
  | 4, _, _, _ => .of_eq rfl
  | 5, _, _, _ => .of_eq rfl
  | 6, _, _, _ => .of_eq rfl
  | 7, _, _, _ => .of_eq rfl
  | 8, _, _, _ => .of_eq rfl
  | 9, _, _, _ => .of_eq rfl
  | 10, _, _, _ => .of_eq rfl
  | 11, _, _, _ => .of_eq rfl
  | 12, _, _, _ => .of_eq rfl
  | 13, _, _, _ => .of_eq rfl
  | 14, _, _, _ => .of_eq rfl
  | 15, _, _, _ => .of_eq rfl
  | 16, _, _, _ => .of_eq rfl
  | 17, _, _, _ => .of_eq rfl
  | 18, _, _, _ => .of_eq rfl
  | 19, _, _, _ => .of_eq rfl
  | 20, _, _, _ => .of_eq rfl
  | 21, _, _, _ => .of_eq rfl
  | 22, _, _, _ => .of_eq rfl
  | 23, _, _, _ => .of_eq rfl
  | 24, _, _, _ => .of_eq rfl
  | 25, _, _, _ => .of_eq rfl
  | 26, _, _, _ => .of_eq rfl
  | 27, _, _, _ => .of_eq rfl
  | 28, _, _, _ => .of_eq rfl
  | 29, _, _, _ => .of_eq rfl
  | 30, _, _, _ => .of_eq rfl
  | 31, _, _, _ => .of_eq rfl
  | 32, _, _, _ => .of_eq rfl
  | 33, _, _, _ => .of_eq rfl
  | 34, _, _, _ => .of_eq rfl
  | 35, _, _, _ => .of_eq rfl
  | 36, _, _, _ => .of_eq rfl
  | 37, _, _, _ => .of_eq rfl
  | 38, _, _, _ => .of_eq rfl
  | 39, _, _, _ => .of_eq rfl
  | 40, _, _, _ => .of_eq rfl
  | 41, _, _, _ => .of_eq rfl
  | 42, _, _, _ => .of_eq rfl
  | 43, _, _, _ => .of_eq rfl
  | 44, _, _, _ => .of_eq rfl
  | 45, _, _, _ => .of_eq rfl
  | 46, _, _, _ => .of_eq rfl
  | 47, _, _, _ => .of_eq rfl
  | 48, _, _, _ => .of_eq rfl
  | 49, _, _, _ => .of_eq rfl
  | 50, _, _, _ => .of_eq rfl
  | 51, _, _, _ => .of_eq rfl
  | 52, _, _, _ => .of_eq rfl
  | 53, _, _, _ => .of_eq rfl
  | 54, _, _, _ => .of_eq rfl
  | 55, _, _, _ => .of_eq rfl
  | 56, _, _, _ => .of_eq rfl
  | 57, _, _, _ => .of_eq rfl
  | 58, _, _, _ => .of_eq rfl
  | 59, _, _, _ => .of_eq rfl
  | 60, _, _, _ => .of_eq rfl
  | 61, _, _, _ => .of_eq rfl
  | 62, _, _, _ => .of_eq rfl
  | 63, _, _, _ => .of_eq rfl
  | 64, _, _, _ => .of_eq rfl
  | 65, _, _, _ => .of_eq rfl
  | 66, _, _, _ => .of_eq rfl
  | 67, _, _, _ => .of_eq rfl
  | 68, _, _, _ => .of_eq rfl
  | 69, _, _, _ => .of_eq rfl
  | 70, _, _, _ => .of_eq rfl
  | 71, _, _, _ => .of_eq rfl
  | 72, _, _, _ => .of_eq rfl
  | 73, _, _, _ => .of_eq rfl
  | 74, _, _, _ => .of_eq rfl
  | 75, _, _, _ => .of_eq rfl
  | 76, _, _, _ => .of_eq rfl
  | 77, _, _, _ => .of_eq rfl
  | 78, _, _, _ => .of_eq rfl
  | 79, _, _, _ => .of_eq rfl
  | 80, _, _, _ => .of_eq rfl
  | 81, _, _, _ => .of_eq rfl
  | 82, _, _, _ => .of_eq rfl
  | 83, _, _, _ => .of_eq rfl
  | 84, _, _, _ => .of_eq rfl
  | 85, _, _, _ => .of_eq rfl
  | 86, _, _, _ => .of_eq rfl
  | 87, _, _, _ => .of_eq rfl
  | 88, _, _, _ => .of_eq rfl
  | 89, _, _, _ => .of_eq rfl
  | 90, _, _, _ => .of_eq rfl
  | 91, _, _, _ => .of_eq rfl
  | 92, _, _, _ => .of_eq rfl
  | 93, _, _, _ => .of_eq rfl
  | 94, _, _, _ => .of_eq rfl
  | 95, _, _, _ => .of_eq rfl
  | 96, _, _, _ => .of_eq rfl
  | 97, _, _, _ => .of_eq rfl
  | 98, _, _, _ => .of_eq rfl
  | 99, _, _, _ => .of_eq rfl
  | 100, _, _, _ => .of_eq rfl
  | n + 101, _, _, h => False.elim (Nat.not_lt_of_le (Nat.le_add_left 101 n) h)
end HopR

set_option Elab.async false
set_option linter.all false
set_option maxRecDepth 100000
namespace HopR
open PySem PySem.Spec PyProof.Rows L2
def tFmtB (te : TE) : TE := fun σ H Q => te σ H fun x H1 => ∃ n : Nat, x = .int (n : Int) ∧ n < 101 ∧ Q (.str (binText n)) H1
theorem bin_small : ∀ n < 101, (binText n).length ≤ sizeLine := by decide +kernel
theorem len_b : (("b" : Str).length == 0) = false := by decide +kernel
theorem fit_b : ("b" : Str).length ≤ sizeLine := by decide +kernel
theorem field_b {prog : Program} {w : World} {A : Around} {E : Value → Shared → Prop} {s : Shared} {n : Nat} {t : Tok} {Q : Value → Shared → Prop} (hn : n < 101) (h : Q (.str (binText n) (s.toks + 1)) { s with toks := s.toks + 1 + 1 }) : wpAny (model prog w) A (formatField (.int (n : Int) t) "b") Q E s :=
  wpAny_formatField_spec (T := "int") (idf := "int.__format__") (B := PySem.Builtin.«int.__format__») (v := .int (n : Int) t) (sp := "b") (x := binText n) len_b (fun s' => typeIs_int s' (n : Int) t) PySem.F.slot_int_format PySem.F.entry_int_format PySem.F.args_int_format_2 (fun u => @gives_b n t u hn) h fit_b (bin_small n hn)
theorem pe_fmtB {X : Cx} {e : Expr} {te : TE} {pos p1 p2 : Pos} {k : Nat} (he : PE X e te) : PE X (.FormattedValue e (-1) (some (.JoinedStr [.Constant (.str "b") k p1] p2)) pos) (tFmtB te) := by
  constructor
  intro pins s σ H Q I h
  refine wpAny_FormattedValue_spec (thn (he.run pins s σ H _ I h) ?_)
  rintro v s1 ⟨x, H1, I1, rx, n, rfl, hn, q⟩
  obtain ⟨t, rfl⟩ := rx
  have js : PE X (.JoinedStr [.Constant (.str "b") k p1] p2) (tC (.str "b")) := pe_joined1 pe_str
  refine thn (js.run pins s1 σ H1 (fun y H2 => y = .str "b" ∧ H2 = H1) I1 ⟨rfl, rfl⟩) ?_
  rintro r s2 ⟨y, H2, I2, ry, rfl, rfl⟩
  obtain ⟨t2, rfl⟩ := ry
  exact ⟨_, t2, rfl, field_b hn ⟨.str (binText n), H2, I2.tok _, ⟨_, rfl⟩, q⟩⟩
end HopR

set_option Elab.async false
set_option linter.all false
set_option maxRecDepth 100000
namespace HopR
open PySem PySem.Spec PyProof.Rows L2
section
variable {X : Cx}
/-! ### x *= y, wide -/
def ipMulW : TIp := fun x y H Q => ∃ i j, x = .int i ∧ y = .int j ∧ CMulW i j ∧ Q (.int (i * j)) H
theorem ip_mulW : PIp X .Mult ipMulW := by
  intro pins s σ H x y v u Q I r1 r2 h
  obtain ⟨i, j, e1, e2, c, q⟩ := h
  subst e1; subst e2
  obtain ⟨t, rfl⟩ := r1
  obtain ⟨t', rfl⟩ := r2
  exact imul_int ⟨.int _, H, I.tok _, ⟨_, rfl⟩, q⟩ c.ok
/-! ### a body in a try whose exceptions are wished for by their class and heap alone -/
def tSome (W : WX) (tb : XK → TS) : TS := fun D σ H => ∃ E1 : XK, (∀ cls d σ' H', E1 cls d H' → W cls d σ' H') ∧ tb E1 D σ H
theorem pss_some {W : WX} {body : List Stmt} {tb : XK → TS} (h : ∀ E1 : XK, (∀ cls d σ' H', E1 cls d H' → W cls d σ' H') → PSs X body (tb E1)) : PSs X body (tSome W tb) :=
  ⟨fun pins s σ H D I ⟨E1, hW, q⟩ => (h E1 hW).run pins s σ H D I q⟩
end
/-! ### the figures of n by twos, from the left -/
def step2 (m c : Nat) : Nat := 2 * m + (if c = 49 then 1 else 0)
theorem bin_fold : ∀ n < 101, (binText n).cps.toList.foldl step2 0 = n := by decide +kernel
theorem step2_le : ∀ (cs : List Nat) (m : Nat), m ≤ cs.foldl step2 m
  | [], m => Nat.le_refl m
  | c :: r, m => by
    rw [List.foldl_cons]
    refine Nat.le_trans ?_ (step2_le r _)
    unfold step2
    omega
theorem bin_le {n i c : Nat} (hn : n < 101) (h : (binText n).cps[i]? = some c) : step2 (((binText n).cps.toList.take i).foldl step2 0) c = ((binText n).cps.toList.take (i + 1)).foldl step2 0 ∧ step2 (((binText n).cps.toList.take i).foldl step2 0) c ≤ n := by
  have e : ((binText n).cps.toList.take (i + 1)).foldl step2 0 = step2 (((binText n).cps.toList.take i).foldl step2 0) c := by
    have h2 : (binText n).cps.toList[i]? = some c := by
      rw [Array.getElem?_toList]
      exact h
    rw [List.take_add_one, h2, List.foldl_append]
    rfl
  refine ⟨e.symm, ?_⟩
  rw [← e]
  have := step2_le ((binText n).cps.toList.drop (i + 1)) (((binText n).cps.toList.take (i + 1)).foldl step2 0)
  rw [← List.foldl_append, List.take_append_drop, bin_fold n hn] at this
  exact this
theorem pow_lt {x : Int} {e m n : Nat} (h : x.natAbs < 2 ^ e) (hm : m ≤ n) : (x ^ m).natAbs < 2 ^ (e * n + 1) := by
  rw [Int.natAbs_pow]
  have h1 : x.natAbs ^ m ≤ (2 ^ e) ^ m := Nat.pow_le_pow_left (Nat.le_of_lt h) m
  rw [← Nat.pow_mul] at h1
  have h2 : 2 ^ (e * m) ≤ 2 ^ (e * n) := Nat.pow_le_pow_right (by decide) (Nat.mul_le_mul_left e hm)
  have h3 : 2 ^ (e * n) < 2 ^ (e * n + 1) := Nat.pow_lt_pow_right (by decide) (by omega)
  omega
end HopR

set_option Elab.async false
set_option linter.all false
set_option maxRecDepth 100000
namespace HopR
open PySem L2
/-! ### fractions above nought -/
theorem num_pos {q : Rat} (h : 0 < q) : 0 < q.num := by
  have h1 : 0 ≤ q.num := Rat.num_nonneg.mpr (by grind)
  have h2 : q.num ≠ 0 := fun e => by
    have : q = 0 := Rat.num_eq_zero.mp e
    rw [this] at h
    exact absurd h (by decide)
  omega
theorem pos_num {q : Rat} (h : 0 < q.num) : 0 < q := by
  have h1 : 0 ≤ q := Rat.num_nonneg.mp (by omega)
  have h2 : q ≠ 0 := fun e => by
    rw [e] at h
    exact absurd h (by decide)
  grind
theorem add_above {x y : Rat} (h : 0 ≤ y) (h2 : 0 < x) : 0 < y + x := by grind
theorem le_above {x : Rat} (h : 0 < x) : 0 ≤ x := by grind
theorem div_ne {q r : Rat} (h : 0 < q) (h2 : 0 < r) : q / r ≠ 0 := by
  rw [Rat.div_def]
  intro e
  rcases Rat.mul_eq_zero.mp e with e | e
  · rw [e] at h
    exact absurd h (by decide)
  · have h3 : r = 0 := by rw [← Rat.inv_inv r, e, Rat.inv_zero]
    rw [h3] at h2
    exact absurd h2 (by decide)
theorem ne_above {x : Rat} (h : 0 < x) : x ≠ 0 := fun e => by
  rw [e] at h
  exact absurd h (by decide)
theorem nat_low (n : Nat) : (0 : Rat) ≤ ((n : Int) : Rat) := by exact_mod_cast Nat.zero_le n
theorem nat_above {n : Nat} (h : 0 < n) : (0 : Rat) < ((n : Int) : Rat) := by exact_mod_cast h
theorem rat_int (t : Int) : Rat.divInt t 1 = (t : Rat) := by
  rw [Rat.divInt_eq_div]
  show (t : Rat) / ((1 : Int) : Rat) = (t : Rat)
  rw [Rat.div_def]
  have e : ((1 : Int) : Rat)⁻¹ = 1 := by decide +kernel
  rw [e, Rat.mul_one]
theorem sz_int {n k : Nat} (h : n < 2 ^ k) (hk : 1 ≤ k) : Sz k ((n : Int) : Rat) := by
  refine ⟨h, ?_⟩
  show 1 < 2 ^ k
  exact Nat.one_lt_two_pow (by omega)
theorem sz_add {n m : Nat} {q r : Rat} (h1 : Sz n q) (h2 : Sz m r) : Sz (n + m + 1) (q + r) := by
  rw [add_eq]
  have b1 : (q.num * r.den).natAbs < 2 ^ (n + m) := by
    rw [Int.natAbs_mul, Nat.pow_add]
    exact Nat.mul_lt_mul'' h1.1 h2.2
  have b2 : (r.num * q.den).natAbs < 2 ^ (n + m) := by
    rw [Int.natAbs_mul, Nat.add_comm, Nat.pow_add]
    exact Nat.mul_lt_mul'' h2.1 h1.2
  refine sz_divInt (Int.mul_ne_zero (den_ne q) (den_ne r)) ?_ ?_
  · exact Nat.lt_of_le_of_lt (Int.natAbs_add_le _ _) (two_lt b1 b2)
  · rw [Int.natAbs_mul]
    have h3 : q.den * r.den < 2 ^ (n + m) := by
      rw [Nat.pow_add]
      exact Nat.mul_lt_mul'' h1.2 h2.2
    exact Nat.lt_of_lt_of_le h3 (Nat.pow_le_pow_right (by decide) (by omega))
theorem sz_mul {n m : Nat} {q r : Rat} (h1 : Sz n q) (h2 : Sz m r) : Sz (n + m) (q * r) := by
  rw [mul_eq]
  refine sz_divInt (Int.mul_ne_zero (den_ne q) (den_ne r)) ?_ ?_
  · rw [Int.natAbs_mul, Nat.pow_add]
    exact Nat.mul_lt_mul'' h1.1 h2.1
  · rw [Int.natAbs_mul, Nat.pow_add]
    exact Nat.mul_lt_mul'' h1.2 h2.2
theorem sz_inv {n : Nat} {r : Rat} (h : Sz n r) (h0 : r ≠ 0) : Sz n r⁻¹ := by
  rw [Rat.inv_def]
  exact sz_divInt (fun e => h0 (Rat.num_eq_zero.mp e)) h.2 h.1
theorem sz_div {n m : Nat} {q r : Rat} (h1 : Sz n q) (h2 : Sz m r) (h0 : r ≠ 0) : Sz (n + m) (q / r) := by
  rw [Rat.div_def]
  exact sz_mul h1 (sz_inv h2 h0)
/-! ### walls -/
theorem two_in {l : List Nat} {a b : Nat} (ha : a ∈ l) (hb : b ∈ l) (h : a ≠ b) : 2 ≤ l.length := by
  match l, ha, hb with
  | [x], ha, hb =>
    have h1 := List.mem_singleton.mp ha
    have h2 := List.mem_singleton.mp hb
    omega
  | _ :: _ :: _, _, _ => simp
theorem one_in {l : List Nat} {a : Nat} (ha : a ∈ l) : 1 ≤ l.length := by
  match l, ha with
  | _ :: _, _ => simp
end HopR

set_option Elab.async false
set_option linter.all false
set_option maxRecDepth 100000
namespace HopR
open PySem PySem.Spec PyProof.Rows L2
/-! ### == and != by an own __eq__ of a class of the text, whose own names hold no __ne__ -/
structure EqC (K : PySem.W.Frag) (C f : Addr) : Prop where
  eq : PySem.W.findIn K (.ref C) "__eq__" = some (some (.ref f))
  fn : PySem.W.isFn K (.ref f) = true
  own : ∃ nm q N bs hd sn sub ab col dd k0 k1 k2 k3 k5 nw, K.lookup C = some (excClassObj nm q C N bs [.type "object"] hd sn sub ab col dd k0 k1 k2 k3 k5 nw) ∧ PySem.W.nsOkIn K N = true ∧ PySem.W.nsIn K N "__eq__" = some (some (.ref f)) ∧ PySem.W.nsIn K N "__ne__" = some none
theorem name_here {K : PySem.W.Frag} {h : Heap} {N : Addr} {mg : Str → Option Value} {x : Str} {v : Value} (kin : K.In h) (names : h.Ns N mg) (e : PySem.W.nsIn K N x = some (some v)) : mg x = some v := by
  rcases names with ⟨o, es, ep, at_, data, -, find⟩
  rw [← find]
  revert e
  unfold PySem.W.nsIn
  cases look : K.lookup N with
  | none => exact fun e => nomatch e
  | some ob =>
    obtain rfl : ob = o := Option.some.inj ((kin _ _ look).symm.trans at_)
    obtain ⟨cls, dict, dat, slots⟩ := ob
    obtain rfl : dat = .dict es ep := data
    intro e
    unfold nsFind findBy
    rw [← Array.find?_toList]
    cases hit : es.toList.find? (·.key.isStr x) with
    | none =>
      simp only [hit] at e
      split at e <;> cases e
    | some en =>
      simp only [hit] at e
      cases e
      rfl
theorem fn_here {K : PySem.W.Frag} {h : Heap} {f : Addr} (kin : K.In h) (fn : PySem.W.isFn K (.ref f) = true) : ∃ o, h.get? f = some o ∧ o.cls = .type "function" := by
  have e : (K.lookup f).map (·.cls) = some (Value.type "function") := beq_iff_eq.mp fn
  obtain ⟨o, look, cls⟩ := Option.map_eq_some_iff.mp e
  exact ⟨o, kin _ _ look, cls⟩
theorem EqC.here {K : PySem.W.Frag} {h : Heap} {C f a : Addr} {o : Obj} (c : EqC K C f) (kin : K.In h) (at_ : h.get? a = some o) (cls : o.cls = .ref C) : h.OwnEqNoNe a C f "object" [.type "object"] := by
  obtain ⟨nm, q, N, bs, hd, sn, sub, ab, col, dd, k0, k1, k2, k3, k5, nw, look, ok, heq, hne⟩ := c.own
  obtain ⟨of, hf, hc⟩ := fn_here kin c.fn
  have names : h.Ns N (h.nsMap N) := .of_isNs (PySem.W.isNs_of_in kin ok)
  exact ⟨o, of, nm, q, N, bs, hd, sn, sub, ab, col, dd, k0, k1, k2, k3, k5, nw, h.nsMap N, _, at_, cls, kin _ _ look, names, name_here kin names heq, hf, hc, PySem.F.cmp_object.mro, PySem.F.cmp_object.eq.lookup, PySem.W.nsMap_none_of_in kin ok hne⟩
section
variable {X : Cx} {CX : CXT} {n : Nat} {C f : Addr} {fd : FuncData} {ps : List Str} {sp : Sp} {E : XK}
/-- two instances of the class; what its __eq__ promises of them, a truth -/
def rOwn (C : Addr) (sp : Sp) (E : XK) (neg : Bool) : R2 := fun x y H Q => ∃ a b dx dy fs gs, x = .ref a ∧ y = .ref b ∧ H a = some (.ins C dx fs) ∧ H b = some (.ins C dy gs) ∧ sp [.ref a, .ref b] H (fun v H' => ∃ k : Bool, v = .bl k ∧ Q (.bl (k ^^ neg)) H') E
theorem two_refs {a b : Addr} : Vals [V.ref a, V.ref b] [Value.ref a, Value.ref b] := .cons rfl (.cons rfl .nil)
theorem op_eqOwn (c : EqC X.K C f) (F : FnOk X.prog X.w X.K X.mg X.base CX n f fd ps sp) (room : Room n X.A) (bind : Binds X.K fd ps []) (lets : Passes CX X E) : OpR X (compareOp .Eq) (rOwn C sp E false) := by
  rintro pins s σ H _ _ v u Q I rx ry ⟨a, b, dx, dy, fs, gs, rfl, rfl, ha, hb, prom⟩
  cases rx; cases ry
  obtain ⟨_, J, _⟩ := ins_get I.hok ha
  obtain ⟨_, J', _⟩ := ins_get I.hok hb
  obtain ⟨_, J, _⟩ := J.look
  obtain ⟨_, J', _⟩ := J'.look
  obtain ⟨m, F0⟩ := I.fr
  refine PySem.W.cmp_K (op := .Eq) (tb := .ref C) room.units0 F0 I.ok.mod.kin J J'.type (by simp [PySem.W.notFirst]) c.eq c.fn (thn (call_at F room rfl bind lets I two_refs prom) ?_)
  rintro w s' ⟨z, H', I', rz, k, rfl, q⟩
  cases rz
  refine ⟨.bl k, H', I', rfl, ?_⟩
  rw [Bool.xor_false] at q
  exact q
theorem op_neOwn (c : EqC X.K C f) (F : FnOk X.prog X.w X.K X.mg X.base CX n f fd ps sp) (room : Room (n + 1) X.A) (bind : Binds X.K fd ps []) (lets : Passes CX X E) : OpR X (compareOp .NotEq) (rOwn C sp E true) := by
  rintro pins ⟨hp, g, d, t, os⟩ σ H _ _ v u Q I rx ry ⟨a, b, dx, dy, fs, gs, rfl, rfl, ha, hb, prom⟩
  cases rx; cases ry
  obtain ⟨_, J, _⟩ := ins_get I.hok ha
  obtain ⟨_, J', _⟩ := ins_get I.hok hb
  obtain ⟨_, J, _⟩ := J.look
  obtain ⟨_, J', _⟩ := J'.look
  have un := room.un
  refine compareOp_ne_ownEq PySem.F.cmp_object (c.here I.kIn J.at_ J.cls) J'.at_ J'.cls (by omega) (thn (call_at (A := X.A.in1) F room.in1 rfl bind lets I two_refs prom) ?_)
  rintro w s' ⟨z, H', I', rz, k, rfl, q⟩
  cases rz
  refine ⟨k, rfl, .bl (!k), H', I', rfl, ?_⟩
  rw [Bool.xor_true] at q
  exact q
end
end HopR

set_option Elab.async false
set_option linter.all false
set_option maxRecDepth 100000
namespace HopR
open PySem L2
/-- a list of draws by its places -/
theorem draws2 {c z0 z1 : Int} (h0 : 0 < z0) (h1 : 0 < z1) : ∃ d0 d1 : Int, draws c 0 [z0, z1] = [d0, d1] ∧ (0 ≤ d0 ∧ d0 < z0) ∧ (0 ≤ d1 ∧ d1 < z1) := by
  have hl := draws_len [z0, z1] c 0
  match hd : draws c 0 [z0, z1], hl with
  | [d0, d1], _ =>
    have hp : ∀ z ∈ [z0, z1], 0 < z := by
      intro z hz
      simp only [List.mem_cons, List.not_mem_nil, or_false] at hz
      rcases hz with rfl | rfl
      · exact h0
      · exact h1
    exact ⟨d0, d1, rfl, draws_ok _ c 0 hp 0 d0 z0 (by rw [hd]; rfl) rfl, draws_ok _ c 0 hp 1 d1 z1 (by rw [hd]; rfl) rfl⟩
end HopR

set_option Elab.async false
set_option linter.all false
set_option maxRecDepth 100000
namespace HopR
open PySem L2
/-! ### texts by their codes -/
def rt (cs : List Nat) : Str := ⟨cs.toArray⟩
def one (c : Nat) : Str := ⟨#[c]⟩
theorem rt_list (cs : List Nat) : (rt cs).cps.toList = cs := by simp [rt]
theorem rt_len (cs : List Nat) : (rt cs).length = cs.length := by
  show cs.toArray.size = cs.length
  simp
theorem rt_of (z : Str) : rt z.cps.toList = z := ext_str (rt_list _)
theorem rt_inj {a b : List Nat} (h : rt a = rt b) : a = b := by
  have := congrArg (fun q : Str => q.cps.toList) h
  simpa only [rt_list] using this
theorem rt_app (a b : List Nat) : rt a ++ rt b = rt (a ++ b) := by
  apply ext_str
  rw [rt_list]
  show ((rt a).cps ++ (rt b).cps).toList = a ++ b
  rw [Array.toList_append, rt_list, rt_list]
theorem rt_fit {cs : List Nat} (h : cs.length ≤ 10000) : (rt cs).length ≤ sizeLine := by
  rw [rt_len]
  exact fit h
theorem sg_rt (cs : List Nat) : sg (rt cs) = cs.map one := by
  unfold sg
  rw [rt_list]
  rfl
theorem join_rt (cs : List Nat) : Txt.join "" (cs.map one) = rt cs := by
  apply ext_str
  rw [join0_list, List.map_map, rt_list]
  induction cs with
  | nil => rfl
  | cons b r ih =>
    rw [List.map_cons, List.flatten_cons, ih]
    rfl
theorem ones_sum : ∀ cs : List Nat, ((cs.map one).map (·.length)).sum = cs.length
  | [] => rfl
  | c :: r => by
    rw [List.map_cons, List.map_cons, List.sum_cons, ones_sum r]
    show 1 + r.length = r.length + 1
    omega
theorem join_rt_fits {cs : List Nat} (h : cs.length ≤ 1000) : ((cs.map one).map (·.length)).sum + (cs.map one).length * ("" : Str).length ≤ 16777216 := by
  have e : ("" : Str).length = 0 := by decide +kernel
  rw [ones_sum, e, Nat.mul_zero]
  omega
theorem cut_rt (cs : List Nat) (lo hi : Option Int) : cutS (rt cs) lo hi = rt ((cs.drop (HT.sIx cs.length 0 lo)).take (HT.sIx cs.length cs.length hi - HT.sIx cs.length 0 lo)) := by
  apply ext_str
  unfold cutS
  rw [rt_len, rt_list, rt_list]
theorem cut_rt_to (cs : List Nat) (k : Nat) : cutS (rt cs) none (some (k : Int)) = rt (cs.take k) := by
  rw [cut_rt, HT.sIx_none, HT.sIx_nat, List.drop_zero, Nat.sub_zero]
  by_cases h : k ≤ cs.length
  · rw [Nat.min_eq_left h]
  · rw [Nat.min_eq_right (by omega), List.take_length, List.take_of_length_le (by omega)]
theorem cut_rt_from (cs : List Nat) (k : Nat) : cutS (rt cs) (some (k : Int)) none = rt (cs.drop k) := by
  rw [cut_rt, HT.sIx_none, HT.sIx_nat]
  by_cases h : k ≤ cs.length
  · rw [Nat.min_eq_left h, List.take_of_length_le (by rw [List.length_drop]; exact Nat.le_refl _)]
  · rw [Nat.min_eq_right (by omega), List.drop_length, List.drop_of_length_le (by omega), List.take_nil]
theorem one_inj {a b : Nat} (h : one a = one b) : a = b := by
  have := congrArg (fun q : Str => q.cps.toList) h
  exact (List.cons.inj this).1
theorem one_eq (a b : Nat) : (one a == one b) = decide (a = b) := by
  by_cases h : a = b
  · subst h
    simp
  · rw [decide_eq_false h]
    have : ¬ (one a = one b) := fun z => h (one_inj z)
    simp [this]
/-! ### signs in a written dict -/
theorem find_key (c : Nat) : ∀ (ts : List Nat) (L : List DictEntry), L.map (fun e => keyText e.key) = ts.map (fun q => some (one q)) → (L.find? (·.key.isStr (one c))).isSome = decide (c ∈ ts) ∧ L.any (·.refKey) = false
  | [], [], _ => ⟨by simp, rfl⟩
  | [], e :: r, h => by simp at h
  | q :: ts, [], h => by simp at h
  | q :: ts, e :: r, h => by
    rw [List.map_cons, List.map_cons] at h
    obtain ⟨h1, h2⟩ := List.cons.inj h
    obtain ⟨t, hk⟩ := keyText_str h1
    obtain ⟨i1, i2⟩ := find_key c ts r h2
    have e1 : e.key.isStr (one c) = decide (q = c) := by
      rw [hk]
      exact one_eq q c
    refine ⟨?_, ?_⟩
    · rw [List.find?_cons, e1]
      by_cases hq : q = c
      · rw [decide_eq_true hq]
        simp [hq]
      · rw [decide_eq_false hq]
        show (r.find? (·.key.isStr (one c))).isSome = _
        rw [i1]
        have : ¬ c = q := fun z => hq z.symm
        simp [this]
    · rw [List.any_cons, i2, Bool.or_false]
      unfold DictEntry.refKey
      rw [hk]
theorem key_in {K : PySem.W.Frag} {d : Addr} {es : Array DictEntry} {n : Nat} {ts : List Nat} (l : K.lookup d = some ⟨.type "dict", none, .dict es n, #[]⟩) (hk : es.toList.map (fun e => keyText e.key) = ts.map (fun q => some (one q))) (c : Nat) :
    ∃ r, PySem.W.nsIn K d (one c) = some r ∧ r.isSome = decide (c ∈ ts) := by
  obtain ⟨h1, h2⟩ := find_key c ts es.toList hk
  unfold PySem.W.nsIn
  rw [l]
  simp only
  cases hf : es.toList.find? (·.key.isStr (one c)) with
  | some e =>
    rw [hf] at h1
    exact ⟨_, rfl, h1⟩
  | none =>
    rw [hf] at h1
    simp only [h2]
    exact ⟨_, rfl, h1⟩
/-! ### rings -/
def okr (c : Nat) : Bool := decide (c ∈ [97, 98, 46])
def isRingB (z : Str) : Bool := decide (2 ≤ z.length) && (decide (z.length ≤ 12) && z.cps.toList.all okr)
/-- whether x is a ring -/
def RingB (K : PySem.W.Frag) (H : Hp) (x : V) (b : Bool) : Prop := (NoTxt K H x ∧ b = false) ∨ ∃ z : Str, x = .str z ∧ z.length ≤ 10000 ∧ b = isRingB z
theorem ringB_same {K : PySem.W.Frag} {H H' : Hp} {x : V} {b : Bool} (s : Same H H') (h : RingB K H x b) : RingB K H' x b := h.imp (fun ⟨q, e⟩ => ⟨notxt_same s q, e⟩) id
/-- a ring by its codes -/
structure Rg (cs : List Nat) : Prop where
  lo : 2 ≤ cs.length
  hi : cs.length ≤ 12
  ok : ∀ c ∈ cs, c ∈ [97, 98, 46]
theorem Rg.isB {cs : List Nat} (h : Rg cs) : isRingB (rt cs) = true := by
  unfold isRingB
  rw [rt_len, rt_list, decide_eq_true h.lo, decide_eq_true h.hi]
  show cs.all okr = true
  rw [List.all_eq_true]
  exact fun c hc => decide_eq_true (h.ok c hc)
/-- how far above the others a sign stands -/
def rk (c : Nat) : Nat := if c = 97 then 2 else if c = 98 then 1 else 0
def nxt (cs : List Nat) (i : Nat) : Nat := (i + 1) % cs.length
theorem nxt_lt {cs : List Nat} (h : Rg cs) (i : Nat) : nxt cs i < cs.length := Nat.mod_lt _ (Nat.lt_of_lt_of_le (by decide) h.lo)
/-- the signs at a place and at the next one exchanged -/
def swp (cs : List Nat) (i : Nat) : List Nat := (cs.set i (cs.getD (nxt cs i) 0)).set (nxt cs i) (cs.getD i 0)
theorem swp_len (cs : List Nat) (i : Nat) : (swp cs i).length = cs.length := by
  unfold swp
  rw [List.length_set, List.length_set]
def ups (cs : List Nat) (i : Nat) : Bool := decide (rk (cs.getD (nxt cs i) 0) < rk (cs.getD i 0))
def rchg (cs : List Nat) (m : Nat) : List Nat := (List.range m).filter (ups cs)
theorem rchg_succ (cs : List Nat) (i : Nat) : rchg cs (i + 1) = rchg cs i ++ (if ups cs i then [i] else []) := by
  unfold rchg
  rw [List.range_succ, List.filter_append]
  congr 1
  cases h : ups cs i with
  | true => simp [h]
  | false => simp [h]
theorem rchg_few (cs : List Nat) (m : Nat) : (rchg cs m).length ≤ m := by
  refine Nat.le_trans (List.length_filter_le _ _) ?_
  rw [List.length_range]
  exact Nat.le_refl _
/-- the data of the changes -/
def dchg (cs : List Nat) (ks : List Nat) : List PyData := ks.map fun (k : Nat) => PyData.tuple [.int (k : Int), .str (rt (swp cs k))]
/-- a list of tuples (place, ring) -/
def Tups (H : Hp) (cs : List Nat) : List Nat → List V → Prop
  | [], vs => vs = []
  | k :: r, vs => ∃ p vr, vs = .ref p :: vr ∧ H p = some (.tup [.int (k : Int), .str (rt (swp cs k))]) ∧ Tups H cs r vr
theorem tups_same {H H' : Hp} {cs : List Nat} (s : Same H H') : ∀ {ks : List Nat} {vs : List V}, Tups H cs ks vs → Tups H' cs ks vs
  | [], _, h => h
  | k :: r, _, ⟨p, vr, e, h1, h2⟩ => ⟨p, vr, e, s _ _ h1, tups_same s h2⟩
theorem tups_add {H : Hp} {cs : List Nat} {k : Nat} {p : Addr} (h1 : H p = some (.tup [.int (k : Int), .str (rt (swp cs k))])) : ∀ {ks : List Nat} {vs : List V}, Tups H cs ks vs → Tups H cs (ks ++ [k]) (vs ++ [.ref p])
  | [], _, h => by
    cases h
    exact ⟨p, [], rfl, h1, rfl⟩
  | q :: r, _, ⟨p', vr, e, h2, h3⟩ => ⟨p', vr ++ [.ref p], by rw [e]; rfl, h2, tups_add h1 h3⟩
theorem tups_upd {H : Hp} {cs : List Nat} {D : Addr} {xs : List V} {o : HO} (hD : H D = some (.lst xs)) : ∀ {ks : List Nat} {vs : List V}, Tups H cs ks vs → Tups (upd H D o) cs ks vs
  | [], _, h => h
  | k :: r, _, ⟨p, vr, e, h1, h2⟩ => ⟨p, vr, e, by
      rw [upd_ne (fun z => by rw [z, hD] at h1; cases h1)]
      exact h1, tups_upd hD h2⟩
theorem tups_len {H : Hp} {cs : List Nat} : ∀ {ks : List Nat} {vs : List V}, Tups H cs ks vs → vs.length = ks.length
  | [], _, h => by
    cases h
    rfl
  | k :: r, _, ⟨p, vr, e, _, h2⟩ => by
    rw [e, List.length_cons, List.length_cons, tups_len h2]
theorem tups_dp {K : PySem.W.Frag} {H : Hp} {cs : List Nat} : ∀ {ks : List Nat} {vs : List V}, Tups H cs ks vs → DpAll K H vs (dchg cs ks)
  | [], _, h => by
    cases h
    exact .nil
  | k :: r, _, ⟨p, vr, e, h1, h2⟩ => by
    rw [e]
    exact .cons (.tup (SqT.of h1) (.cons (.int _) (.cons (.str _) .nil))) (tups_dp h2)
theorem getD_small {cs : List Nat} (h : Rg cs) (i : Nat) : cs.getD i 0 < 1114112 := by
  rw [List.getD_eq_getElem?_getD]
  cases e : cs[i]? with
  | none => show 0 < 1114112; decide
  | some c =>
    have := h.ok c (List.mem_of_getElem? e)
    simp only [List.mem_cons, List.not_mem_nil, or_false] at this
    show c < 1114112
    omega
theorem strOk_swp {cs : List Nat} (h : Rg cs) (i : Nat) : PyData.strOk (rt (swp cs i)) = true := by
  unfold PyData.strOk
  rw [← Array.all_toList, rt_list, List.all_eq_true]
  intro c hc
  refine decide_eq_true ?_
  unfold swp at hc
  rcases List.mem_or_eq_of_mem_set hc with h1 | rfl
  · rcases List.mem_or_eq_of_mem_set h1 with h2 | rfl
    · have := h.ok c h2
      simp only [List.mem_cons, List.not_mem_nil, or_false] at this
      omega
    · exact getD_small h _
  · exact getD_small h _
theorem lay_dchg {cs : List Nat} (h : Rg cs) : ∀ ks : List Nat, PyData.canLayAll0 (dchg cs ks) = true
  | [] => rfl
  | k :: r => by
    show PyData.canLayAll0 (.tuple [.int (k : Int), .str (rt (swp cs k))] :: dchg cs r) = true
    simp only [PyData.canLayAll0, lay_dchg h r, Bool.and_true, PyData.canLay0, strOk_swp h]
theorem deep_dchg (cs : List Nat) : ∀ ks : List Nat, PyData.depthAll (dchg cs ks) ≤ 1
  | [] => by show 0 ≤ 1; decide
  | k :: r => by
    show PyData.depthAll (.tuple [.int (k : Int), .str (rt (swp cs k))] :: dchg cs r) ≤ 1
    have := deep_dchg cs r
    simp only [PyData.depthAll, PyData.depth]
    omega
theorem shaped_dchg {cs : List Nat} (h : Rg cs) (ks : List Nat) : SeqAt.shaped (.list (dchg cs ks)) = true := by
  unfold SeqAt.shaped
  rw [Bool.and_eq_true]
  refine ⟨?_, decide_eq_true ?_⟩
  · simp only [PyData.canLay0, lay_dchg h]
  · have := deep_dchg cs ks
    simp only [PyData.depth]
    omega
theorem eqv_dchg {cs : List Nat} (h : Rg cs) (ks : List Nat) : PyData.eqv (.list (dchg cs ks)) (.list (dchg cs ks)) = true := PySem.SeqAt.eqv_refl _ (by simp only [PyData.canLay0, lay_dchg h])
end HopR

set_option Elab.async false
set_option linter.all false
set_option maxRecDepth 100000
namespace HopR
open PySem PySem.Spec PyProof.Rows L2
section
variable {X : Cx}
/-- tuple(text) -/
def rTupT : List V → Hp → VK → Prop := fun vs H Q => ∃ z : Str, vs = [.str z] ∧ z.length ≤ sizeLine ∧ ∀ p : Addr, H p = none → Q (.ref p) (upd H p (.tup ((sg z).map V.str)))
theorem cr_tupT (hcm : X.calm = true) : CallR X (.type "tuple") rTupT := by
  rintro pins s σ H _ us Q I r ⟨z, rfl, hz, q⟩
  obtain ⟨_, rfl, t, rfl⟩ := vals1 r
  refine call_tuple_str (I.ok.hd hcm) z t (fun h' tk acc old items => ?_) hz
  have after : Inv X pins σ H { s with heap := h', toks := tk } := I.kept old
  refine ⟨.ref h'.objs.size, _, after.laid (t' := tk) (fun b o e => Heap.get?_push_of_some _ e) (Nat.le_refl _) ?_, rfl, q _ (after.hok.fresh (Nat.le_refl _))⟩
  refine ⟨by rw [List.length_map, sg_len]; exact hz, acc.toList, vals_of_strs (signs_are items), ?_⟩
  rw [Array.toArray_toList]
  exact IsTup.new _ _
end
/-! ### lists of whole numbers as data -/
def dis (zs : List Int) : List PyData := zs.map PyData.int
theorem dp_ints {K : PySem.W.Frag} {H : Hp} : ∀ zs : List Int, DpAll K H (zs.map V.int) (dis zs)
  | [] => .nil
  | z :: r => .cons (.int z) (dp_ints r)
theorem lay_ints : ∀ zs : List Int, PyData.canLayAll0 (dis zs) = true
  | [] => rfl
  | z :: r => by
    show PyData.canLayAll0 (.int z :: dis r) = true
    simp only [PyData.canLayAll0, lay_ints r, Bool.and_true]
    rfl
theorem deep_ints : ∀ zs : List Int, PyData.depthAll (dis zs) = 0
  | [] => rfl
  | z :: r => by
    show PyData.depthAll (.int z :: dis r) = 0
    simp only [PyData.depthAll, deep_ints r]
    rfl
theorem shaped_zs (zs : List Int) : SeqAt.shaped (.list (dis zs)) = true := by
  unfold SeqAt.shaped
  rw [Bool.and_eq_true]
  refine ⟨?_, decide_eq_true ?_⟩
  · simp only [PyData.canLay0, lay_ints]
  · simp only [PyData.depth, deep_ints]
    decide
theorem cut_ints (ns : List Int) (hi : Int) (hl : ns.length ≤ 63) : ∃ zs : List Int, cutV (ns.map V.int) none (some hi) = zs.map V.int ∧ zs.length ≤ 63 := by
  unfold cutV
  refine ⟨(ns.drop (HT.sIx (ns.map V.int).length 0 none)).take (HT.sIx (ns.map V.int).length (ns.map V.int).length (some hi) - HT.sIx (ns.map V.int).length 0 none), by rw [List.map_take, List.map_drop], ?_⟩
  rw [List.length_take, List.length_drop]
  omega
end HopR

set_option Elab.async false
set_option linter.all false
set_option maxRecDepth 100000
namespace HopR
open PySem PySem.Spec PyProof.Rows L2
/-! ### sorted(texts, reverse=True): the same texts, in some order -/
def ltS (v u : Value) : Bool := decide ((strOf v).cps.toList < (strOf u).cps.toList)
theorem swo_txt : SrtO.Swo ltS where
  asym x y h := decide_eq_false (List.lt_asymm (of_decide_eq_true h))
  tr x y z h1 h2 := by
    have a := List.not_lt.mp (of_decide_eq_false h1)
    have b := List.not_lt.mp (of_decide_eq_false h2)
    exact decide_eq_false (List.not_lt.mpr (List.le_trans a b))
section
variable {prog : Program} {w : World} {A : Around} {s : Shared}
theorem texts_sortable {l : Addr} {vs : List Value} {ss : List Str} (are : StrsAre vs ss) (two : 2 ≤ vs.length) : SrtO.SortableO prog w A s l vs ltS := by
  intro h' _
  refine ⟨oneType', fun Q E q => ?_, fun x y hx hy => ?_⟩
  · obtain ⟨a, b, r, rfl⟩ : ∃ a b r, vs = a :: b :: r := by
      match vs, two with
      | a :: b :: r, _ => exact ⟨a, b, r, rfl⟩
    rw [keyKind_strs are]
    exact wpAny_pure q
  · obtain ⟨a, t, ea⟩ := are.all _ hx
    obtain ⟨b, u, eb⟩ := are.all _ hy
    show wpAny (model prog w) A (keyLt' oneType' x.1 y.1) (fun r s' => s' = _ ∧ r = ltS x.1 y.1) (fun _ _ => False) _
    rw [ea, eb, keyLt'_oneType]
    exact oneLt_str ⟨rfl, rfl⟩
end
section
variable {X : Cx}
def rSortTR (K : PySem.W.Frag) : List V → List V → Hp → VK → Prop := fun vs zs H Q => ∃ (a : Addr) (xs : List Str), vs = [.ref a] ∧ zs = [.bl true] ∧ SqL K H a (xs.map V.str) ∧ ∀ (ys : List Str) (p : Addr), ys.Perm xs → H p = none → Q (.ref p) (upd H p (.lst (ys.map V.str)))
theorem strs_of_vals : ∀ {xs : List Str} {us : List Value}, Vals (xs.map V.str) us → StrsAre us xs
  | [], _, h => by
    cases h
    exact .nil
  | x :: r, _, h => by
    cases h with
    | cons a b =>
      obtain ⟨t, rfl⟩ := a
      exact .cons x t (strs_of_vals b)
theorem cr_sortTR : CallRK X (.builtin "sorted") [Str.ofString "reverse"] (rSortTR X.K) := by
  rintro pins s σ H _ _ us ws Q I r rz ⟨a, xs, rfl, rfl, hs, q⟩
  obtain rfl := Vals.ref1 r
  obtain ⟨w1, rfl, e1⟩ := vals1 rz
  obtain rfl : w1 = Value.bool true := e1
  obtain ⟨its, rv, hl, hz⟩ := I.list hs
  have are := strs_of_vals rv
  refine SrtR.sorted_ordK (b := true) (fun _ => rfl) (args_sorted_rev _ _) (fun _ => args_list_sort_rev _ _) swo_txt hl.isList (by rw [← rv.length]; exact hz) (fun two _ _ _ _ => texts_sortable are two) fun out _ stb => ?_
  have pm : out.reverse.Perm its := out.reverse_perm.trans (stb.perm.trans its.reverse_perm)
  have are' : StrsAre out.reverse (out.reverse.map strOf) := strsAre_map _ fun v hv => are.all v (pm.mem_iff.mp hv)
  have pm' : (out.reverse.map strOf).Perm xs := by
    have := pm.map strOf
    rw [are.strs] at this
    exact this
  obtain ⟨ep, at_⟩ := sortedAll_at s.heap its (if true = true then out.toArray.reverse else out.toArray)
  have hlen : ((out.reverse.map strOf).map V.str).length ≤ sizeLine := by
    rw [List.length_map, pm'.length_eq]
    rw [List.length_map] at hz
    exact hz
  refine ⟨.ref (s.heap.objs.size + 1), upd H (s.heap.objs.size + 1) (.lst ((out.reverse.map strOf).map V.str)), I.laid (t' := s.toks) (fun _ _ => sortedAll_old) (Nat.le_succ _) ⟨hlen, out.reverse, ep, vals_of_strs are', ?_⟩, rfl, q _ _ pm' (I.hok.fresh (Nat.le_succ _))⟩
  rw [at_]
  simp
end
end HopR

set_option Elab.async false
set_option linter.all false
set_option maxRecDepth 100000
namespace HopR
open PySem PySem.Spec PyProof.Rows L2
/-! ### walks that hand out new tuples -/
/-- n turns; at each a new tuple of items that Y tells -/
def ItTup (n : Nat) (Y : Nat → List V → Prop) : It :=
  ⟨fun i _ => i < n, fun i H v H' => ∃ T xs, v = .ref T ∧ H T = none ∧ H' = upd H T (.tup xs) ∧ Y i xs, fun i _ => n ≤ i⟩
theorem turn_tup {P : Program} {w : World} {K : PySem.W.Frag} {elts : List Expr} {kk : Nat} {tpos : Pos} {it : Addr} {fp wr : List Addr} {n : Nat} {Pt : Nat → Array Value → Prop} {St : Nat → Heap → Prop} {Mid : Nat → Addr → Heap → Prop} {Y : Nat → List V → Prop}
    (mem : it ∈ fp) (obj : ∀ i h, St i h → ∀ b ∈ fp, ∃ o, h.get? b = some o ∧ ∀ v, o.data ≠ .cell v) (W : ∀ A : Around, A.handled = none → WalksT P w A it fp wr n Pt St Mid)
    (tells : ∀ i vals, Pt i vals → ∃ xs, xs.length ≤ sizeLine ∧ Vals xs vals.toList ∧ Y i xs) (self : ∀ (A : Around) (i : Nat) (s : Shared) (Q : Value → Shared → Prop) (E : Value → Shared → Prop), St i s.heap → Q (.ref it) s → wpAny (model P w) A (pyIter (.ref it)) Q E s)
    (W0 : WalksT P w callerA it fp wr n Pt St Mid) :
    Turn P w K (.Tuple elts kk tpos) (ItTup n Y) fp it (fun i h => i ≤ n ∧ St i h) where
  mem := mem
  obj i h st := obj i h st.2
  keep i h h' st k := ⟨st.1, W0.frame i h h' st.2 k⟩
  item := by
    intro X hP hw hK calm i pins s σ H E I free st go
    subst hP hw hK
    have V := W X.A (I.ok.hd calm)
    refine V.item i s _ E go st.2 fun T vals h1 tk told new tup mid old => ⟨.ref T, rfl, ?_⟩
    refine V.go elts kk tpos i T _ _ E mid fun h2 st2 old2 => ?_
    obtain ⟨xs, few, are, y⟩ := tells i vals told
    have out := V.apart i T h1 mid
    obtain ⟨o, ho, hr⟩ := tup
    have tup2 : h2.IsTuple T vals := ⟨o, old2 T o out ho, hr⟩
    have ok : ObjOk X.prog X.w (upd H T (.tup xs)) h2 T (.tup xs) := ⟨few, vals.toList, are, by rw [Array.toArray_toList]; exact tup2⟩
    have J : Inv X pins σ (upd H T (.tup xs)) { s with heap := h2, toks := tk } := I.turnedNew (ch := fp) (fun b ob nb q => old2 b ob (fun z => nb (V.sub b z)) (old b ob (fun z => nb (V.sub b z)) q)) free new ok
    refine ⟨.ref T, _, J, rfl, ⟨T, xs, rfl, I.hok.fresh new, rfl, y⟩, ⟨go, st2⟩, fun b hb => ?_⟩
    obtain ⟨ob, q, _⟩ := obj i s.heap st.2 b hb
    rw [upd_ne (Nat.ne_of_lt (Nat.lt_of_lt_of_le (Heap.lt_size q) new))]
    exact (free b hb).1
  done := by
    intro X hP hw hK calm i pins s σ H E I free st stop
    subst hP hw hK
    have V := W X.A (I.ok.hd calm)
    obtain rfl : i = n := Nat.le_antisymm st.1 stop
    exact V.done s _ E st.2 fun h1 tk old => ⟨rfl, I.turnedL (ch := fp) (fun b o nb q => old b o (fun z => nb (V.sub b z)) q) free⟩
  self A i s Q E st q := self A i s Q E st.2 q
/-- a loop over such a walk -/
theorem walk_tup {n : Nat} {Y : Nat → List V → Prop} : Walk (ItTup n Y) n (fun _ => True) (fun i H v H' => ∃ T xs, v = .ref T ∧ H T = none ∧ H' = upd H T (.tup xs) ∧ Y i xs) :=
  ⟨fun _ _ lt _ => lt, fun _ _ => Nat.le_refl _, fun _ _ _ _ _ _ y => y⟩
/-! ### zip(text, text) -/
theorem draws_txt {prog : Program} {w : World} {A : Around} (hh : A.handled = none) (it : Addr) (x : Str) (t : Tok) :
    Draws prog w A it [it] x.cps.size (fun i v => ∃ c u, x.cps[i]? = some c ∧ v = .str ⟨#[c]⟩ u) (fun i h => h.IsStrIter it (strIterType x) x t i) := by
  unfold strIterType
  split
  · exact .strAscii hh it x t
  · exact .strWide hh it x t
/-- the signs of both texts, place by place -/
def ZipY (x y : Str) (i : Nat) (vs : List V) : Prop := ∃ c e, x.cps[i]? = some c ∧ y.cps[i]? = some e ∧ vs = [.str ⟨#[c]⟩, .str ⟨#[e]⟩]
def iZipS (ta : TA) : TI := fun σ H R => ta σ H fun vs H1 => ∃ x y : Str, vs = [.str x, .str y] ∧ R (ItTup (min x.cps.size y.cps.size) (ZipY x y)) H1
theorem pi_zipS {X : Cx} {e e2 : Expr} {ta : TA} {p pos tpos : Pos} {elts : List Expr} {kk : Nat} (hg : Gl X "zip") (hm : X.mg "zip" = none) (ha : PA X [e, e2] ta)
    (hs : starEach [e, e2] X.env = (false, eval e X.env) :: starEach [e2] X.env := by rfl) (hpl : (backTo pos (starEach [e2] X.env)).any (·.1) = false := by rfl) :
    PI X (.Tuple elts kk tpos) (.Call (.Name "zip" p) [e, e2] [] pos) (iZipS ta) := by
  constructor
  intro pins s σ H R I h
  refine Call_ (ld_blt I hg hm boot_zip (callWith_type1 (thn (ha.run pos pins s σ H _ I h) ?_) hs hpl))
  rintro us s1 ⟨_, H1, J, rel, x, y, rfl, q⟩
  obtain ⟨_, _, rfl, ⟨t, rfl⟩, u, rfl⟩ := vals2 rel
  refine zip_begins2 (begins_text x t) (begins_text y u) trivial trivial fun h' isz pin pout at1 at2 _ old => wpAny_pyIter_zip isz ?_
  have sep : ZipSep2 (s1.heap.objs.size + 4) (s1.heap.objs.size + 2) (s1.heap.objs.size + 3) s1.heap.objs.size (s1.heap.objs.size + 1) [s1.heap.objs.size] [s1.heap.objs.size + 1] := by
    constructor <;> simp
  have W : ∀ A : Around, A.handled = none → WalksT X.prog X.w A (s1.heap.objs.size + 4) _ _ _ _ _ _ := fun A hh => WalksT.zipD2 sep (draws_txt (A := A.in1) hh s1.heap.objs.size x t) (draws_txt (A := A.in1) hh (s1.heap.objs.size + 1) y u)
  refine ⟨s1.heap.objs.size + 4, _, _, _, H1, rfl, J.kept (t' := s1.toks) old, turn_tup (Y := ZipY x y) (by simp) ?_ W ?_ ?_ (W callerA rfl), ⟨Nat.zero_le _, isz, pin, ⟨_, _, pout⟩, ⟨_, at1, rfl, rfl⟩, ⟨_, at2, rfl, rfl⟩⟩, ?_, q⟩
  · rintro i h ⟨hz, h1, ⟨_, _, h2⟩, ⟨o1, g1, _, d1⟩, ⟨o2, g2, _, d2⟩⟩ b hb
    have hb : b = s1.heap.objs.size + 4 ∨ b = s1.heap.objs.size + 2 ∨ b = s1.heap.objs.size + 3 ∨ b = s1.heap.objs.size ∨ b = s1.heap.objs.size + 1 := by simpa using hb
    rcases hb with rfl | rfl | rfl | rfl | rfl
    · exact ⟨_, hz, fun v q => nomatch q⟩
    · exact ⟨_, h1, fun v q => nomatch q⟩
    · exact ⟨_, h2, fun v q => nomatch q⟩
    · exact ⟨o1, g1, fun v q => by rw [d1] at q; cases q⟩
    · exact ⟨o2, g2, fun v q => by rw [d2] at q; cases q⟩
  · rintro i vals ⟨_, _, ⟨c, t1, hc, rfl⟩, ⟨e, t2, he, rfl⟩, rfl⟩
    exact ⟨[.str ⟨#[c]⟩, .str ⟨#[e]⟩], by show 2 ≤ sizeLine; decide, .cons ⟨t1, rfl⟩ (.cons ⟨t2, rfl⟩ .nil), c, e, hc, he, rfl⟩
  · exact fun A i s Q E st q => wpAny_pyIter_zip st.1 q
  · intro b hb
    have hb : b = s1.heap.objs.size + 4 ∨ b = s1.heap.objs.size + 2 ∨ b = s1.heap.objs.size + 3 ∨ b = s1.heap.objs.size ∨ b = s1.heap.objs.size + 1 := by simpa using hb
    have le : s1.heap.objs.size ≤ b := by
      rcases hb with rfl | rfl | rfl | rfl | rfl
      · exact Nat.le_add_right _ _
      · exact Nat.le_add_right _ _
      · exact Nat.le_add_right _ _
      · exact Nat.le_refl _
      · exact Nat.le_add_right _ _
    exact J.fpOk le (J.hok.fresh le)
end HopR

set_option Elab.async false
set_option linter.all false
set_option maxRecDepth 100000
namespace HopR
open PySem L2
/-! ### a row beneath a row -/
def ust (u l : Bool) : Int := (if u then 1 else 0) - (if l then 0 else 1)
def bn : Int → List Bool → List Bool → Bool
  | o, u :: us, l :: ls => if o + ust u l < 0 then false else bn (o + ust u l) us ls
  | o, _, _ => decide (o = 0)
theorem bn_nil (o : Int) (ls : List Bool) : bn o [] ls = decide (o = 0) := by
  cases ls <;> rfl
theorem bn_cons (o : Int) (u l : Bool) (us ls : List Bool) : bn o (u :: us) (l :: ls) = if o + ust u l < 0 then false else bn (o + ust u l) us ls := rfl
def rise (b : Bool) : Int := if b then 1 else -1
theorem rise_two (u l : Bool) : rise u + rise l = 2 * ust u l := by cases u <;> cases l <;> rfl
/-- as the law looks -/
def lb : Int → List Bool → List Nat → Bool
  | h, u :: us, c :: cs => if okc c = false then false else if h + rise u + rise (decide (c = 111)) < 0 then false else lb (h + rise u + rise (decide (c = 111))) us cs
  | h, _, _ => decide (h = 0)
def bls (cs : List Nat) : List Bool := cs.map fun c => decide (c = 111)
theorem lb_eq : ∀ (us : List Bool) (cs : List Nat) (o : Int), us.length = cs.length → lb (2 * o) us cs = (cs.all okc && bn o us (bls cs))
  | [], [], o, _ => by
    show decide (2 * o = 0) = (true && decide (o = 0))
    by_cases h : o = 0
    · rw [decide_eq_true h, decide_eq_true (by omega)]; rfl
    · rw [decide_eq_false h, decide_eq_false (by omega)]; rfl
  | [], c :: cs, o, h => by simp at h
  | u :: us, [], o, h => by simp at h
  | u :: us, c :: cs, o, h => by
    have hl : us.length = cs.length := by simpa using h
    show (if okc c = false then false else if 2 * o + rise u + rise (decide (c = 111)) < 0 then false else lb (2 * o + rise u + rise (decide (c = 111))) us cs) = ((okc c && cs.all okc) && (if o + ust u (decide (c = 111)) < 0 then false else bn (o + ust u (decide (c = 111))) us (bls cs)))
    cases hc : okc c with
    | false => rfl
    | true =>
      rw [if_neg (by decide)]
      have e := rise_two u (decide (c = 111))
      have e2 : 2 * o + rise u + rise (decide (c = 111)) = 2 * (o + ust u (decide (c = 111))) := by omega
      rw [e2, lb_eq us cs _ hl, Bool.true_and]
      by_cases hn : o + ust u (decide (c = 111)) < 0
      · rw [if_pos hn, if_pos (by omega), Bool.and_false]
      · rw [if_neg hn, if_neg (by omega)]
/-- whether x is beneath the row of bs -/
def bnB (bs : List Bool) (cs : List Nat) : Bool := decide (cs.length = bs.length) && (cs.all okc && bn 0 bs (bls cs))
def BnB (K : PySem.W.Frag) (H : Hp) (bs : List Bool) (x : V) (b : Bool) : Prop := (NoTxt K H x ∧ b = false) ∨ ∃ cs : List Nat, x = .str (rt cs) ∧ cs.length ≤ 10000 ∧ b = bnB bs cs
theorem bnB_same {K : PySem.W.Frag} {H H' : Hp} {bs : List Bool} {x : V} {b : Bool} (s : Same H H') (h : BnB K H bs x b) : BnB K H' bs x b := h.imp (fun ⟨q, e⟩ => ⟨notxt_same s q, e⟩) id
theorem tx_rt (bs : List Bool) : tx bs = rt (bs.map cd) := ext_str (by rw [tx_list, rt_list])
theorem bls_tx (bs : List Bool) : bls (bs.map cd) = bs := by
  unfold bls
  rw [List.map_map]
  conv => rhs; rw [← List.map_id bs]
  congr 1
  funext b
  cases b <;> rfl
theorem okc_map (bs : List Bool) : (bs.map cd).all okc = true := by
  rw [List.all_map, List.all_eq_true]
  exact fun b _ => okc_cd b
theorem okc_row {cs : List Nat} (h : cs.all okc = true) : rt cs = tx (bls cs) := by
  rw [tx_rt]
  congr 1
  unfold bls
  rw [List.map_map]
  conv => lhs; rw [← List.map_id cs]
  apply List.map_congr_left
  intro c hc
  have := List.all_eq_true.mp h c hc
  unfold okc at this
  simp only [Bool.or_eq_true, decide_eq_true_eq] at this
  rcases this with rfl | rfl <;> rfl
theorem bnB_tx (bs ls : List Bool) : bnB bs (ls.map cd) = (decide (ls.length = bs.length) && bn 0 bs ls) := by
  unfold bnB
  rw [List.length_map, okc_map, bls_tx, Bool.true_and]
end HopR

set_option Elab.async false
set_option linter.all false
set_option maxRecDepth 100000
namespace HopR
open PySem L2
/-! ### how many ways lead on from each height -/
def geti (L : List Int) (i : Int) : Int := if 0 ≤ i ∧ i < (L.length : Int) then L.getD i.toNat 0 else 0
def own (b : Bool) (L : List Int) : List Int := (List.range L.length).map fun h : Nat => geti L ((h : Int) + (rise b - 1)) + geti L ((h : Int) + (rise b + 1))
def tab (L0 : List Int) : List Bool → List (List Int)
  | [] => [L0]
  | b :: bs => own b ((tab L0 bs).headD []) :: tab L0 bs
theorem own_len (b : Bool) (L : List Int) : (own b L).length = L.length := by
  unfold own
  rw [List.length_map, List.length_range]
theorem own_at {b : Bool} {L : List Int} {h : Nat} (hh : h < L.length) : geti (own b L) (h : Int) = geti L ((h : Int) + (rise b - 1)) + geti L ((h : Int) + (rise b + 1)) := by
  conv => lhs; unfold geti
  rw [if_pos ⟨by omega, by rw [own_len]; omega⟩]
  unfold own
  rw [Int.toNat_natCast, List.getD_eq_getElem?_getD, List.getElem?_map, List.getElem?_range hh]
  rfl
/-- the table from the row's beginning on -/
def hd (L0 : List Int) (bs : List Bool) : List Int := (tab L0 bs).headD []
theorem tab_hd (L0 : List Int) (bs : List Bool) : ∃ r, tab L0 bs = hd L0 bs :: r := by
  cases bs with
  | nil => exact ⟨[], rfl⟩
  | cons b r => exact ⟨tab L0 r, rfl⟩
theorem hd_cons (L0 : List Int) (b : Bool) (bs : List Bool) : hd L0 (b :: bs) = own b (hd L0 bs) := rfl
theorem hd_len (L0 : List Int) : ∀ bs : List Bool, (hd L0 bs).length = L0.length
  | [] => rfl
  | b :: r => by rw [hd_cons, own_len, hd_len L0 r]
theorem tab_len (L0 : List Int) : ∀ bs : List Bool, (tab L0 bs).length = bs.length + 1
  | [] => rfl
  | b :: r => by
    show (tab L0 r).length + 1 = r.length + 1 + 1
    rw [tab_len L0 r]
theorem tab_at (L0 : List Int) : ∀ (bs : List Bool) (k : Nat), k ≤ bs.length → (tab L0 bs)[k]? = some (hd L0 (bs.drop k))
  | bs, 0, _ => by
    obtain ⟨r, e⟩ := tab_hd L0 bs
    rw [e]
    rfl
  | [], k + 1, h => by simp at h
  | b :: r, k + 1, h => by
    show (tab L0 r)[k]? = some (hd L0 (r.drop k))
    exact tab_at L0 r k (by simpa using h)
theorem geti_nn {L : List Int} (h : ∀ x ∈ L, 0 ≤ x) (i : Int) : 0 ≤ geti L i := by
  unfold geti
  split
  · rw [List.getD_eq_getElem?_getD]
    cases e : L[i.toNat]? with
    | none => exact Int.le_refl _
    | some x => exact h x (List.mem_of_getElem? e)
  · exact Int.le_refl _
theorem own_nn {b : Bool} {L : List Int} (h : ∀ x ∈ L, 0 ≤ x) : ∀ x ∈ own b L, 0 ≤ x := by
  intro x hx
  obtain ⟨i, _, rfl⟩ := List.mem_map.mp hx
  have h1 := geti_nn h ((i : Int) + (rise b - 1))
  have h2 := geti_nn h ((i : Int) + (rise b + 1))
  omega
theorem hd_nn {L0 : List Int} (h : ∀ x ∈ L0, 0 ≤ x) : ∀ bs : List Bool, ∀ x ∈ hd L0 bs, 0 ≤ x
  | [] => h
  | b :: r => by
    rw [hd_cons]
    exact own_nn (hd_nn h r)
/-- something always leads on from height 0 -/
theorem hd_zero {L0 : List Int} (h : ∀ x ∈ L0, 0 ≤ x) (h0 : 0 < geti L0 0) (hl : 0 < L0.length) : ∀ bs : List Bool, 0 < geti (hd L0 bs) 0
  | [] => h0
  | b :: r => by
    have ih := hd_zero h h0 hl r
    have e := own_at (b := b) (L := hd L0 r) (h := 0) (by rw [hd_len]; exact hl)
    rw [hd_cons]
    have e' : geti (own b (hd L0 r)) 0 = geti (own b (hd L0 r)) ((0 : Nat) : Int) := rfl
    rw [e', e]
    have n1 := geti_nn (hd_nn h r) (((0 : Nat) : Int) + (rise b - 1))
    have n2 := geti_nn (hd_nn h r) (((0 : Nat) : Int) + (rise b + 1))
    cases b with
    | true =>
      have : (((0 : Nat) : Int) + (rise true - 1)) = 0 := rfl
      rw [this] at n1 ⊢
      omega
    | false =>
      have : (((0 : Nat) : Int) + (rise false + 1)) = 0 := rfl
      rw [this] at n2 ⊢
      omega
theorem geti_at {L : List Int} {j : Nat} (h : j < L.length) : atI (L.map V.int) (j : Int) = some (.int (geti L (j : Int))) := atI_nat (by
  unfold geti
  rw [if_pos ⟨by omega, by omega⟩, List.getElem?_map, List.getD_eq_getElem?_getD, Int.toNat_natCast, List.getElem?_eq_getElem h]
  rfl)
/-! ### lists of lists -/
def Lsts (H : Hp) (o : Addr) : List (List Int) → List V → Prop
  | [], vs => vs = []
  | L :: r, vs => ∃ p vr, vs = .ref p :: vr ∧ p ≠ o ∧ H p = some (.lst (L.map V.int)) ∧ Lsts H o r vr
theorem lsts_same {H H' : Hp} {o : Addr} (s : Same H H') : ∀ {Ls : List (List Int)} {vs : List V}, Lsts H o Ls vs → Lsts H' o Ls vs
  | [], _, h => h
  | L :: r, _, ⟨p, vr, e, n, h1, h2⟩ => ⟨p, vr, e, n, s _ _ h1, lsts_same s h2⟩
theorem lsts_upd {H : Hp} {o : Addr} {x : HO} : ∀ {Ls : List (List Int)} {vs : List V}, Lsts H o Ls vs → Lsts (upd H o x) o Ls vs
  | [], _, h => h
  | L :: r, _, ⟨p, vr, e, n, h1, h2⟩ => ⟨p, vr, e, n, by rw [upd_ne n]; exact h1, lsts_upd h2⟩
theorem lsts_len {H : Hp} {o : Addr} : ∀ {Ls : List (List Int)} {vs : List V}, Lsts H o Ls vs → vs.length = Ls.length
  | [], _, h => by
    cases h
    rfl
  | L :: r, _, ⟨p, vr, e, _, _, h2⟩ => by rw [e, List.length_cons, List.length_cons, lsts_len h2]
theorem lsts_at {H : Hp} {o : Addr} : ∀ {Ls : List (List Int)} {vs : List V} {k : Nat} {L : List Int}, Lsts H o Ls vs → Ls[k]? = some L → ∃ p, vs[k]? = some (.ref p) ∧ H p = some (.lst (L.map V.int))
  | [], _, k, L, h, e => by simp at e
  | M :: r, _, 0, L, ⟨p, vr, ev, _, h1, h2⟩, e => by
    have : M = L := Option.some.inj e
    subst this
    exact ⟨p, by rw [ev]; rfl, h1⟩
  | M :: r, _, k + 1, L, ⟨p, vr, ev, _, h1, h2⟩, e => by
    obtain ⟨p', e1, e2⟩ := lsts_at (k := k) h2 e
    exact ⟨p', by rw [ev]; exact e1, e2⟩
end HopR

set_option Elab.async false
set_option linter.all false
set_option maxRecDepth 100000
namespace HopR
open PySem L2
/-! ### lists of new tuples -/
def TupG {α : Type} (H : Hp) (f : α → List V) : List α → List V → Prop
  | [], vs => vs = []
  | a :: r, vs => ∃ p vr, vs = .ref p :: vr ∧ H p = some (.tup (f a)) ∧ TupG H f r vr
section
variable {α : Type} {H H' : Hp} {f : α → List V}
theorem tupG_same (s : Same H H') : ∀ {as : List α} {vs : List V}, TupG H f as vs → TupG H' f as vs
  | [], _, h => h
  | _ :: _, _, ⟨p, vr, e, h1, h2⟩ => ⟨p, vr, e, s _ _ h1, tupG_same s h2⟩
theorem tupG_upd {D : Addr} {xs : List V} {o : HO} (hD : H D = some (.lst xs)) : ∀ {as : List α} {vs : List V}, TupG H f as vs → TupG (upd H D o) f as vs
  | [], _, h => h
  | _ :: _, _, ⟨p, vr, e, h1, h2⟩ => ⟨p, vr, e, by
      rw [upd_ne (fun z => by rw [z, hD] at h1; cases h1)]
      exact h1, tupG_upd hD h2⟩
theorem tupG_add {a : α} {p : Addr} (h1 : H p = some (.tup (f a))) : ∀ {as : List α} {vs : List V}, TupG H f as vs → TupG H f (as ++ [a]) (vs ++ [.ref p])
  | [], _, h => by
    cases h
    exact ⟨p, [], rfl, h1, rfl⟩
  | _ :: _, _, ⟨p', vr, e, h2, h3⟩ => ⟨p', vr ++ [.ref p], by rw [e]; rfl, h2, tupG_add h1 h3⟩
theorem tupG_len : ∀ {as : List α} {vs : List V}, TupG H f as vs → vs.length = as.length
  | [], _, h => by
    cases h
    rfl
  | _ :: _, _, ⟨_, vr, e, _, h2⟩ => by rw [e, List.length_cons, List.length_cons, tupG_len h2]
theorem tupG_at : ∀ {as : List α} {vs : List V} {k : Nat} {a : α}, TupG H f as vs → as[k]? = some a → ∃ p, vs[k]? = some (.ref p) ∧ H p = some (.tup (f a))
  | [], _, k, a, h, e => by simp at e
  | b :: r, _, 0, a, ⟨p, vr, ev, h1, h2⟩, e => by
    have : b = a := Option.some.inj e
    subst this
    exact ⟨p, by rw [ev]; rfl, h1⟩
  | b :: r, _, k + 1, a, ⟨p, vr, ev, h1, h2⟩, e => by
    obtain ⟨p', e1, e2⟩ := tupG_at (k := k) h2 e
    exact ⟨p', by rw [ev]; exact e1, e2⟩
end
/-! ### from height to height -/
theorem geti_pos {L : List Int} {i : Int} (h : 0 < geti L i) : 0 ≤ i ∧ i < (L.length : Int) := by
  unfold geti at h
  split at h
  · assumption
  · omega
/-- the sign l leads on from height h -/
def leads (L : List Int) (h : Int) (u l : Bool) : Bool := decide (0 ≤ h + rise u + rise l) && decide (0 < geti L (h + rise u + rise l))
theorem some_leads {L : List Int} {h : Nat} {u : Bool} (hh : h < L.length) (hp : 0 < geti (own u L) (h : Int)) : ∃ l, leads L (h : Int) u l = true := by
  rw [own_at hh] at hp
  by_cases h1 : 0 < geti L ((h : Int) + (rise u - 1))
  · refine ⟨false, ?_⟩
    have e : (h : Int) + rise u + rise false = (h : Int) + (rise u - 1) := by
      show (h : Int) + rise u + (-1) = _
      omega
    unfold leads
    rw [e, decide_eq_true (geti_pos h1).1, decide_eq_true h1]
    rfl
  · have h2 : 0 < geti L ((h : Int) + (rise u + 1)) := by omega
    refine ⟨true, ?_⟩
    have e : (h : Int) + rise u + rise true = (h : Int) + (rise u + 1) := by
      show (h : Int) + rise u + 1 = _
      omega
    unfold leads
    rw [e, decide_eq_true (geti_pos h2).1, decide_eq_true h2]
    rfl
end HopR

set_option Elab.async false
set_option linter.all false
set_option maxRecDepth 100000
namespace HopW
/-! ### weights of words -/
/-- a line's numbers, each with g of its place -/
def lp (g : Nat → Rat) : List Nat → Rat
  | [] => 0
  | m :: l => (m : Rat) * g 0 + lp (fun b => g (b + 1)) l
def tp (x : Rat) (g : Nat → Rat) : List (List Nat) → Rat
  | [] => 0
  | l :: t => lp g l + x * tp x g t
def sfx : List Nat → List Nat
  | [] => []
  | m :: l => (m + l.sum) :: sfx l
def go (s : Nat) : List (List Nat) → List (List Nat)
  | [] => [[s]]
  | l :: t => (s :: sfx l.tail) :: go l.sum t
def sg (h : Nat → Rat) : Nat → Rat
  | 0 => 0
  | b + 1 => h 0 + sg (fun j => h (j + 1)) b
def fg (x : Rat) (g : Nat → Rat) : Nat → Rat := fun b => x * g 0 + sg (fun j => g (j + 1)) b
def stT (T : List (List Nat)) (b : Bool) : List (List Nat) := if b then T.map (0 :: ·) else go 0 T
def gf (x : Rat) : List Bool → (Nat → Rat) → (Nat → Rat)
  | [], g => g
  | true :: w, g => fun b => gf x w g (b + 1)
  | false :: w, g => fg x (gf x w g)
theorem cast_add (a b : Nat) : ((a + b : Nat) : Rat) = (a : Rat) + (b : Rat) := by exact_mod_cast rfl
theorem lp_lin (c : Rat) (h : Nat → Rat) : ∀ l : List Nat, lp (fun b => c + h b) l = c * (l.sum : Rat) + lp h l := by
  intro l
  induction l generalizing h with
  | nil => show (0 : Rat) = c * ((0 : Nat) : Rat) + 0; grind
  | cons m l ih =>
    show (m : Rat) * (c + h 0) + lp (fun b => c + h (b + 1)) l = c * ((m :: l).sum : Rat) + ((m : Rat) * h 0 + lp (fun b => h (b + 1)) l)
    rw [ih (fun b => h (b + 1)), List.sum_cons, cast_add]
    grind
theorem lp_sfx (h : Nat → Rat) (m : Nat) : ∀ l : List Nat, lp (sg h) (m :: l) = lp h (sfx l) := by
  intro l
  induction l generalizing h m with
  | nil => show (m : Rat) * 0 + 0 = 0; grind
  | cons m' l ih =>
    show (m : Rat) * 0 + lp (fun b => h 0 + sg (fun j => h (j + 1)) b) (m' :: l) = ((m' + l.sum : Nat) : Rat) * h 0 + lp (fun b => h (b + 1)) (sfx l)
    rw [lp_lin, ih, List.sum_cons]
    grind
theorem lp_fg (x : Rat) (g : Nat → Rat) (l : List Nat) : lp (fg x g) l = x * ((l.sum : Rat) * g 0) + lp (fun b => g (b + 1)) (sfx l.tail) := by
  unfold fg
  rw [lp_lin]
  cases l with
  | nil => show x * g 0 * ((0 : Nat) : Rat) + 0 = x * (((0 : Nat) : Rat) * g 0) + 0; grind
  | cons m l =>
    rw [lp_sfx, List.tail_cons]
    grind
theorem tp_go (x : Rat) (g : Nat → Rat) : ∀ (T : List (List Nat)) (s : Nat), tp x g (go s T) = (s : Rat) * g 0 + tp x (fg x g) T := by
  intro T
  induction T with
  | nil =>
    intro s
    show ((s : Rat) * g 0 + 0) + x * 0 = (s : Rat) * g 0 + 0
    grind
  | cons l t ih =>
    intro s
    show ((s : Rat) * g 0 + lp (fun b => g (b + 1)) (sfx l.tail)) + x * tp x g (go l.sum t) = (s : Rat) * g 0 + (lp (fg x g) l + x * tp x (fg x g) t)
    rw [ih, lp_fg]
    grind
theorem tp_bead (x : Rat) (g : Nat → Rat) : ∀ T : List (List Nat), tp x g (T.map (0 :: ·)) = tp x (fun b => g (b + 1)) T := by
  intro T
  induction T with
  | nil => rfl
  | cons l t ih =>
    show (((0 : Nat) : Rat) * g 0 + lp (fun b => g (b + 1)) l) + x * tp x g (t.map (0 :: ·)) = lp (fun b => g (b + 1)) l + x * tp x (fun b => g (b + 1)) t
    rw [ih]
    grind
theorem tp_st (x : Rat) (g : Nat → Rat) (T : List (List Nat)) (b : Bool) : tp x g (stT T b) = tp x (gf x [b] g) T := by
  cases b with
  | true => exact tp_bead x g T
  | false =>
    show tp x g (go 0 T) = tp x (fg x g) T
    rw [tp_go]
    show ((0 : Nat) : Rat) * g 0 + tp x (fg x g) T = _
    grind
theorem gf_app (x : Rat) (g : Nat → Rat) : ∀ u v : List Bool, gf x (u ++ v) g = gf x u (gf x v g)
  | [], _ => rfl
  | true :: u, v => by
    show (fun b => gf x (u ++ v) g (b + 1)) = fun b => gf x u (gf x v g) (b + 1)
    rw [gf_app x g u v]
  | false :: u, v => by
    show fg x (gf x (u ++ v) g) = fg x (gf x u (gf x v g))
    rw [gf_app x g u v]
theorem tp_fold (x : Rat) (g : Nat → Rat) : ∀ (w : List Bool) (T : List (List Nat)), tp x g (w.foldl stT T) = tp x (gf x w g) T := by
  intro w
  induction w with
  | nil => intro T; rfl
  | cons b w ih =>
    intro T
    show tp x g (w.foldl stT (stT T b)) = _
    rw [ih, tp_st]
    show tp x (gf x [b] (gf x w g)) T = _
    rw [← gf_app]
    rfl
def tbl (w : List Bool) : List (List Nat) := w.foldl stT [[1]]
/-- the weight of a word: x for each free place left, y for each bead -/
def wt (x y : Rat) (w : List Bool) : Rat := gf x w (fun b => y ^ b) 0
theorem wt_tbl (x y : Rat) (w : List Bool) : tp x (fun b => y ^ b) (tbl w) = wt x y w := by
  unfold tbl wt
  rw [tp_fold]
  show (((1 : Nat) : Rat) * gf x w (fun b => y ^ b) 0 + 0) + x * 0 = _
  grind
/-! ### what the weights keep -/
theorem sg_add (h k : Nat → Rat) : ∀ b, sg (fun j => h j + k j) b = sg h b + sg k b := by
  intro b
  induction b generalizing h k with
  | zero => show (0 : Rat) = 0 + 0; grind
  | succ b ih =>
    show h 0 + k 0 + sg (fun j => h (j + 1) + k (j + 1)) b = (h 0 + sg (fun j => h (j + 1)) b) + (k 0 + sg (fun j => k (j + 1)) b)
    rw [ih]
    grind
theorem sg_mul (c : Rat) (h : Nat → Rat) : ∀ b, sg (fun j => c * h j) b = c * sg h b := by
  intro b
  induction b generalizing h with
  | zero => show (0 : Rat) = c * 0; grind
  | succ b ih =>
    show c * h 0 + sg (fun j => c * h (j + 1)) b = c * (h 0 + sg (fun j => h (j + 1)) b)
    rw [ih]
    grind
theorem gf_add (x : Rat) (h k : Nat → Rat) : ∀ (w : List Bool) (b : Nat), gf x w (fun j => h j + k j) b = gf x w h b + gf x w k b := by
  intro w
  induction w with
  | nil => intro b; rfl
  | cons s w ih =>
    intro b
    cases s with
    | true => exact ih (b + 1)
    | false =>
      show x * gf x w (fun j => h j + k j) 0 + sg (fun j => gf x w (fun j => h j + k j) (j + 1)) b = (x * gf x w h 0 + sg (fun j => gf x w h (j + 1)) b) + (x * gf x w k 0 + sg (fun j => gf x w k (j + 1)) b)
      rw [ih 0, show (fun j => gf x w (fun j => h j + k j) (j + 1)) = fun j => gf x w h (j + 1) + gf x w k (j + 1) from funext fun j => ih (j + 1), sg_add]
      grind
theorem gf_mul (x c : Rat) (h : Nat → Rat) : ∀ (w : List Bool) (b : Nat), gf x w (fun j => c * h j) b = c * gf x w h b := by
  intro w
  induction w with
  | nil => intro b; rfl
  | cons s w ih =>
    intro b
    cases s with
    | true => exact ih (b + 1)
    | false =>
      show x * gf x w (fun j => c * h j) 0 + sg (fun j => gf x w (fun j => c * h j) (j + 1)) b = c * (x * gf x w h 0 + sg (fun j => gf x w h (j + 1)) b)
      rw [ih 0, show (fun j => gf x w (fun j => c * h j) (j + 1)) = fun j => c * gf x w h (j + 1) from funext fun j => ih (j + 1), sg_mul]
      grind
theorem sg_last (h : Nat → Rat) : ∀ b, sg h (b + 1) = sg h b + h b := by
  intro b
  induction b generalizing h with
  | zero => show h 0 + 0 = 0 + h 0; grind
  | succ b ih =>
    show h 0 + sg (fun j => h (j + 1)) (b + 1) = (h 0 + sg (fun j => h (j + 1)) b) + h (b + 1)
    rw [ih]
    grind
/-- a bead that comes out is gone, or the free place is -/
theorem wt_of (x y : Rat) (u v : List Bool) : wt x y (u ++ true :: false :: v) = wt x y (u ++ true :: v) + wt x y (u ++ false :: v) := by
  unfold wt
  rw [gf_app, gf_app, gf_app, ← gf_add]
  congr 1
  funext b
  show x * gf x v (fun b => y ^ b) 0 + sg (fun j => gf x v (fun b => y ^ b) (j + 1)) (b + 1) = gf x v (fun b => y ^ b) (b + 1) + (x * gf x v (fun b => y ^ b) 0 + sg (fun j => gf x v (fun b => y ^ b) (j + 1)) b)
  rw [sg_last]
  grind
theorem wt_free (x y : Rat) (v : List Bool) : wt x y (false :: v) = x * wt x y v := by
  show x * gf x v (fun b => y ^ b) 0 + 0 = x * gf x v (fun b => y ^ b) 0
  grind
theorem wt_bead (x y : Rat) (v : List Bool) : wt x y (v ++ [true]) = y * wt x y v := by
  unfold wt
  rw [gf_app, ← gf_mul]
  congr 1
  funext b
  show y ^ (b + 1) = y * y ^ b
  rw [Rat.pow_succ, Rat.mul_comm]
theorem sg_pow {x y : Rat} (h : x * y = x + y) : ∀ b, x + sg (fun j => y ^ (j + 1)) b = x * y ^ b := by
  intro b
  induction b with
  | zero => show x + 0 = x * y ^ 0; rw [Rat.pow_zero]; grind
  | succ b ih =>
    rw [sg_last, Rat.pow_succ]
    have e : x * (y ^ b * y) = y ^ b * (x * y) := by grind
    rw [e, h]
    grind
theorem gf_one {x y : Rat} (h : x * y = x + y) : ∀ (w : List Bool) (b : Nat), gf x w (fun b => y ^ b) b = x ^ (w.count false) * y ^ (w.count true) * y ^ b := by
  intro w
  induction w with
  | nil => intro b; show y ^ b = x ^ 0 * y ^ 0 * y ^ b; rw [Rat.pow_zero, Rat.pow_zero]; grind
  | cons s w ih =>
    intro b
    cases s with
    | true =>
      show gf x w (fun b => y ^ b) (b + 1) = _
      rw [ih, List.count_cons_of_ne (by decide), List.count_cons_self, Rat.pow_succ, Rat.pow_succ]
      grind
    | false =>
      show x * gf x w (fun b => y ^ b) 0 + sg (fun j => gf x w (fun b => y ^ b) (j + 1)) b = _
      rw [ih, show (fun j => gf x w (fun b => y ^ b) (j + 1)) = fun j => (x ^ (w.count false) * y ^ (w.count true)) * y ^ (j + 1) from funext fun j => ih (j + 1), sg_mul, List.count_cons_self, List.count_cons_of_ne (by decide), Rat.pow_succ, Rat.pow_zero]
      have e := sg_pow h b
      grind
theorem wt_one {x y : Rat} (h : x * y = x + y) (w : List Bool) : wt x y w = x ^ (w.count false) * y ^ (w.count true) := by
  unfold wt
  rw [gf_one h, Rat.pow_zero]
  grind
/-! ### all heaps counted -/
def sn (h : Nat → Nat) : Nat → Nat
  | 0 => 0
  | b + 1 => h 0 + sn (fun j => h (j + 1)) b
def gn : List Bool → Nat → Nat
  | [], _ => 1
  | true :: w, b => gn w (b + 1)
  | false :: w, b => sn (gn w) (b + 1)
theorem sn_sg (h : Nat → Nat) : ∀ b, ((sn h b : Nat) : Rat) = sg (fun j => (h j : Rat)) b := by
  intro b
  induction b generalizing h with
  | zero => rfl
  | succ b ih =>
    show ((h 0 + sn (fun j => h (j + 1)) b : Nat) : Rat) = (h 0 : Rat) + sg (fun j => (h (j + 1) : Rat)) b
    rw [cast_add, ih]
theorem gn_gf : ∀ (w : List Bool) (b : Nat), ((gn w b : Nat) : Rat) = gf 1 w (fun b => 1 ^ b) b := by
  intro w
  induction w with
  | nil =>
    intro b
    show ((1 : Nat) : Rat) = 1 ^ b
    induction b with
    | zero => rfl
    | succ b ih => rw [Rat.pow_succ, ← ih, Rat.mul_one]
  | cons s w ih =>
    intro b
    cases s with
    | true => exact ih (b + 1)
    | false =>
      show ((sn (gn w) (b + 1) : Nat) : Rat) = 1 * gf 1 w (fun b => 1 ^ b) 0 + sg (fun j => gf 1 w (fun b => 1 ^ b) (j + 1)) b
      rw [sn_sg]
      show (gn w 0 : Rat) + sg (fun j => (gn w (j + 1) : Rat)) b = _
      rw [ih 0, show (fun j => (gn w (j + 1) : Rat)) = fun j => gf 1 w (fun b => 1 ^ b) (j + 1) from funext fun j => ih (j + 1)]
      grind
theorem gn_wt (w : List Bool) : ((gn w 0 : Nat) : Rat) = wt 1 1 w := gn_gf w 0
end HopW

set_option Elab.async false
set_option linter.all false
set_option maxRecDepth 100000
set_option exponentiation.threshold 200000
namespace Hop
open PySem L2 HopR
open C8 (InsC call_isC)
def top (i : Nat) : Stmt := PySem.Challenge.pw_hopline_k71_still_tables_or_not.main.body.getD i (.Pass ⟨0, 0, 0, 0⟩)
abbrev sLTimes : Stmt := top 59
abbrev sLPlus : Stmt := top 61
abbrev sLOwn : Stmt := top 53
abbrev sAllRows : Stmt := top 56
abbrev sBentT : Stmt := top 55
abbrev sLIsTable : Stmt := top 57
abbrev sLChanges : Stmt := top 58
abbrev sPaceAt : Stmt := top 60
abbrev sLIsStill : Stmt := top 62
abbrev sLaw : Stmt := top 63
abbrev sIsWhole : Stmt := top 12
abbrev sNeedNum : Stmt := top 13
abbrev sDivisor : Stmt := top 14
abbrev sPower : Stmt := top 15
abbrev sInit : Stmt := inClass (top 17) 0
abbrev sPlus : Stmt := inClass (top 17) 1
abbrev sTimes : Stmt := inClass (top 17) 3
abbrev sOver : Stmt := inClass (top 17) 4
abbrev sRaised : Stmt := inClass (top 17) 5
abbrev sEq : Stmt := inClass (top 17) 7
abbrev sLowest : Stmt := top 18
abbrev sIsRow : Stmt := top 24
abbrev sNeedRow : Stmt := top 25
abbrev sPaceFrom : Stmt := top 28
abbrev sPacesFrom : Stmt := top 29
abbrev sIsWord : Stmt := top 31
abbrev sNeedWord : Stmt := top 32
abbrev sWithBead : Stmt := top 33
abbrev sWithFree : Stmt := top 34
abbrev sEndsOf : Stmt := top 35
abbrev sShare : Stmt := top 37
abbrev sWeight : Stmt := top 38
abbrev sDrawn : Stmt := top 50
abbrev sRowAt : Stmt := top 26
abbrev sAllR : Stmt := top 41
abbrev sTable : Stmt := top 42
abbrev sAbove : Stmt := top 43
abbrev sLine : Stmt := top 44
abbrev sIsTable : Stmt := top 45
abbrev sBetween : Stmt := top 46
abbrev sTimesTold : Stmt := top 47
abbrev sStill : Stmt := top 48
abbrev sLPart : Stmt := top 54
abbrev sLLow : Stmt := top 51
abbrev sLSmall : Stmt := top 52
abbrev sLow : Stmt := top 51
/-! ### a Part -/
theorem tb_ : ¬ (("top" : Str) = "bottom") := by decide +kernel
def pf (q : Rat) : List (Str × V) := putF "bottom" (.int (q.den : Int)) (putF "top" (.int q.num) [])
theorem pf_top (q : Rat) : (pf q).lookup ("top" : Str) = some (.int q.num) := by
  unfold pf
  rw [lookup_putF, if_neg tb_, lookup_putF, if_pos rfl]
theorem pf_bottom (q : Rat) : (pf q).lookup ("bottom" : Str) = some (.int (q.den : Int)) := by
  unfold pf
  rw [lookup_putF, if_pos rfl]
theorem pf_no (q : Rat) {m : Str} (h1 : ¬ m = "bottom") (h2 : ¬ m = "top") : (pf q).lookup m = none := by
  unfold pf
  rw [lookup_putF, if_neg h1, lookup_putF, if_neg h2]
  rfl
/-- at a a Part of q -/
def PA (C : Addr) (H : Hp) (a : Addr) (q : Rat) : Prop := ∃ dx, H a = some (.ins C dx (pf q))
theorem PA.same {C : Addr} {H H' : Hp} {a : Addr} {q : Rat} (s : Same H H') (h : PA C H a q) : PA C H' a q := let ⟨dx, e⟩ := h; ⟨dx, s _ _ e⟩
/-- what is known of the class and of the built-ins -/
structure TxtP (K : PySem.W.Frag) (mg : Str → Option Value) (C : Addr) : Prop where
  len : mg "len" = none
  range : mg "range" = none
  abs : mg "abs" = none
  isi : mg "isinstance" = none
  int : mg "int" = none
  bool : mg "bool" = none
  ins : InsC K C
  nT : NoAttr K C "top"
  nB : NoAttr K C "bottom"
  mgC : mg "Part" = some (.ref C)
section
variable {P : Program} {w : World} {K : PySem.W.Frag} {mg : Str → Option Value} {base : Heap} {C : Addr}
def spWhole : Sp := fun vs H Q _ => ∃ i : Int, vs = [.int i] ∧ Q (.bl true) H
theorem scWhole : FnScope ["thing"] ["thing"] (defScope sIsWhole) := ⟨rfl, rfl, rfl, by decide +kernel, rfl, by decide +kernel, by decide +kernel⟩
theorem ok_whole {f : Addr} {fd : FuncData} {k : Nat} (F : Fun K "is_whole" "is_whole" sIsWhole f fd) (T : TxtP K mg C) : FnOk P w K mg base CX0 (k + 1) f fd ["thing"] spWhole := by
  refine F.ok scWhole (fun vs H Q E h => ?_) (fun cdv A outer s H vs Q E hr h => ?_)
  · obtain ⟨i, rfl, _⟩ := h
    rfl
  · obtain ⟨i, rfl, q⟩ := h
    refine ⟨_, pss_one (ps_ret (pe_and (pe_callB call_isi (by rfl) T.isi (by decide +kernel) (pa_cons (pv 0) (pa_cons (pe_bltn (v := .ty "int") (by rfl) T.int (by decide +kernel) rfl) pa_nil)))
      (pe_one (pe_not (pe_callB call_isi (by rfl) T.isi (by decide +kernel) (pa_cons (pv 0) (pa_cons (pe_bltn (v := .ty "bool") (by rfl) T.bool (by decide +kernel) rfl) pa_nil))))))), ?_⟩
    refine ⟨.int i, rfl, .int i, .ty "int", .type "int", .type "int", true, rfl, .ty _, .base (.int _), kit_ty (by decide +kernel), true, rfl, ?_⟩
    exact ⟨.int i, rfl, .int i, .ty "bool", .type "int", .type "bool", false, rfl, .ty _, .base (.int _), kit_ty (by decide +kernel), false, rfl, q⟩
def spDivisor : Sp := fun vs H Q _ => ∃ a b : Int, vs = [.int a, .int b] ∧ Q (.int (Int.gcd a b : Int)) H
theorem scDivisor : FnScope ["one", "other"] ["one", "other"] (defScope sDivisor) := ⟨rfl, rfl, rfl, by decide +kernel, rfl, by decide +kernel, by decide +kernel⟩
theorem ok_divisor {f : Addr} {fd : FuncData} {k : Nat} (F : Fun K "common_divisor" "common_divisor" sDivisor f fd) (T : TxtP K mg C) : FnOk P w K mg base CX0 (k + 1) f fd ["one", "other"] spDivisor := by
  refine F.ok scDivisor (fun vs H Q E h => ?_) (fun cdv A outer s H vs Q E hr h => ?_)
  · obtain ⟨a, b, rfl, _⟩ := h
    rfl
  · obtain ⟨a, b, rfl, q⟩ := h
    have nd := scDivisor.nd
    refine ⟨_, pss_cons (ps_while PassesOwn.never (pt_cmpR op_ne (pv 1) pe_int (nomark _)) (pss_one (ps_par (by rfl) nd (i := 0) (j := 1) rfl rfl (by decide) rfl rfl (pa_cons (pv 1) (pa_cons (pe_op op_modN (pv 0) (pv 1)) pa_nil)) (by rfl))))
      (pss_one (ps_ret (pe_callB call_abs (by rfl) T.abs (by decide +kernel) (pa_cons (pv 0) pa_nil)))), ?_⟩
    refine while_by (fun σ H1 => ∃ x y : Int, σ = [some (.int x), some (.int y)] ∧ Int.gcd x y = Int.gcd a b ∧ H1 = H) (fun σ _ => match σ with | [_, some (.int y)] => y.natAbs | _ => 0) ⟨a, b, rfl, rfl, rfl⟩ ?_ ?_
    · rintro σ H1 ⟨x, y, rfl, e, rfl⟩
      refine ⟨.int y, rfl, rfl, _, rfl, ?_⟩
      by_cases hy : y = 0
      · subst hy
        refine iteNS rfl ⟨.int x, rfl, x, rfl, ?_⟩
        have e2 : (if x < 0 then -x else x) = (Int.gcd a b : Int) := by
          rw [← e, Int.gcd_zero_right]
          split <;> omega
        show Q (.int (if x < 0 then -x else x)) H1
        rw [e2]
        exact q
      · rw [decide_eq_false (fun z => hy (V.int.inj z))]
        refine iteT ⟨.int y, rfl, .int x, rfl, .int y, rfl, x, y, rfl, rfl, hy, _, _, rfl, ⟨y, x.fmod y, rfl, (gcd_fmod x y).trans e, rfl⟩, fmod_less x hy⟩
    · rintro σ H1 Q1 Q2 hm h
      obtain ⟨v, e1, e2, k2, e3, h⟩ := h
      exact ⟨v, e1, e2, k2, e3, hm _ _ h⟩
/-! ### Part.__init__ -/
theorem scInit : FnScope ["self", "top", "bottom", "divisor"] ["self", "top", "bottom"] (defScope sInit) := ⟨rfl, rfl, rfl, by decide +kernel, rfl, by decide +kernel, by decide +kernel⟩
def spInit (C : Addr) : Sp := fun vs H Q _ => ∃ (p dx : Addr) (t b : Int), vs = [.ref p, .int t, .int b] ∧ b ≠ 0 ∧ b.natAbs < 2 ^ 8000 ∧ H p = some (.ins C dx []) ∧ Q .non (upd H p (.ins C dx (pf (Rat.divInt t b))))
theorem ok_init {f f1 f2 : Addr} {fd fd1 fd2 : FuncData} {k : Nat} (F : FunD K "__init__" "Part.__init__" (defArgs sInit) (defBody sInit) (defScope sInit) [.int 1] [] f fd) (N1 : Fn K mg "is_whole" sIsWhole ["thing"] f1 fd1) (N2 : Fn K mg "common_divisor" sDivisor ["one", "other"] f2 fd2) (T : TxtP K mg C) :
    FnOk P w K mg base CX0 (k + 2) f fd ["self", "top", "bottom"] (spInit C) := by
  have G1 : FnOk P w K mg base CX0 (k + 1) f1 fd1 ["thing"] spWhole := ok_whole N1.F T
  have G2 : FnOk P w K mg base CX0 (k + 1) f2 fd2 ["one", "other"] spDivisor := ok_divisor N2.F T
  refine F.ok scInit (fun vs H Q E h => ?_) (fun cdv A outer s H vs Q E hr h => ?_)
  · obtain ⟨p, dx, t, b, rfl, _⟩ := h
    rfl
  · obtain ⟨p, dx, t, b, rfl, hb, hb2, hp, q⟩ := h
    have nd := scInit.nd
    refine ⟨_, PSs.nox (pss_cons (ps_if (pt_not (pt_val (pe_call G1 hr (by rfl) N1.g N1.F.kp N1.b .nil pass0 (pa_cons (pv 1) pa_nil)))) (pss_one ps_never) pss_nil)
      (pss_cons (ps_if (pt_not (pt_val (pe_call G1 hr (by rfl) N1.g N1.F.kp N1.b .nil pass0 (pa_cons (pv 2) pa_nil)))) (pss_one ps_never) pss_nil)
      (pss_cons (ps_if (pt_cmpR op_eq (pv 2) pe_int (nomark _)) (pss_one ps_never) pss_nil)
      (pss_cons (ps_set (i := 3) nd rfl (.inl rfl) (pe_call G2 hr (by rfl) N2.g N2.F.kp N2.b .nil pass0 (pa_cons (pv 1) (pa_cons (pv 2) pa_nil))))
      (pss_cons (ps_if (pt_cmpR op_lt (pv 2) pe_int (nomark _)) (pss_one (ps_set (i := 3) nd rfl (.inl rfl) (pe_un un_neg (pv 3)))) pss_nil)
      (pss_cons (ps_fld (pv 0) (pe_op op_fdivWN (pv 1) (pv 3)) rfl)
      (pss_one (ps_fld (pv 0) (pe_op op_fdivWN (pv 2) (pv 3)) rfl)))))))), ?_⟩
    refine ⟨.int t, rfl, t, rfl, true, rfl, iteF ⟨.int b, rfl, b, rfl, true, rfl, iteF ⟨.int b, rfl, rfl, _, rfl, ?_⟩⟩⟩
    rw [decide_eq_false (fun z => hb (V.int.inj z))]
    refine iteF ⟨.int t, rfl, .int b, rfl, t, b, rfl, ?_⟩
    have hg := gcd_pos (t := t) hb
    have hgl : (Int.gcd t b).log2 < 9000 := by
      have h1 : Int.gcd t b ≤ b.natAbs := Nat.le_of_dvd (by omega) (Int.gcd_dvd_natAbs_right ..)
      exact Nat.lt_of_lt_of_le (PySem.Flt.log2_lt_of (by decide) (Nat.lt_of_le_of_lt h1 hb2)) (by decide)
    have fin : ∀ g : Int, g = (if b < 0 then -(Int.gcd t b : Int) else (Int.gcd t b : Int)) → CDivWN t g ∧ CDivWN b g := fun g e => by
      have e2 : g.natAbs = Int.gcd t b := by
        rw [e]
        split <;> omega
      unfold CDivWN
      rw [e2]
      exact ⟨⟨by omega, hgl⟩, ⟨by omega, hgl⟩⟩
    have done : ∀ g : Int, g = (if b < 0 then -(Int.gcd t b : Int) else (Int.gcd t b : Int)) → Q .non (upd (upd H p (.ins C dx (putF "top" (.int (t.fdiv g)) []))) p (.ins C dx (putF "bottom" (.int (b.fdiv g)) (putF "top" (.int (t.fdiv g)) [])))) := fun g e => by
      rw [upd_upd, e, low_num hb, low_den hb]
      exact q
    refine ⟨.int b, rfl, _, _, rfl, rfl, _, rfl, ite2 (fun e => ?_) (fun e => ?_)⟩
    · have e : b < 0 := of_decide_eq_true e
      have eg : -(Int.gcd t b : Int) = (if b < 0 then -(Int.gcd t b : Int) else (Int.gcd t b : Int)) := (if_pos e).symm
      obtain ⟨c1, c2⟩ := fin _ eg
      refine ⟨_, rfl, _, rfl, ?_⟩
      refine ⟨.int t, rfl, _, rfl, t, _, rfl, rfl, c1, .ref p, rfl, p, C, dx, _, rfl, hp, T.ins.cl, T.nT, (by show 0 < 1000; decide), ?_⟩
      exact ⟨.int b, rfl, _, rfl, b, _, rfl, rfl, c2, .ref p, rfl, p, C, dx, _, rfl, upd_same, T.ins.cl, T.nB, (by show 1 < 1000; decide), done _ eg⟩
    · have e : ¬ b < 0 := fun z => e (decide_eq_true z)
      have eg : (Int.gcd t b : Int) = (if b < 0 then -(Int.gcd t b : Int) else (Int.gcd t b : Int)) := (if_neg e).symm
      obtain ⟨c1, c2⟩ := fin _ eg
      refine ⟨.int t, rfl, _, rfl, t, _, rfl, rfl, c1, .ref p, rfl, p, C, dx, _, rfl, hp, T.ins.cl, T.nT, (by show 0 < 1000; decide), ?_⟩
      exact ⟨.int b, rfl, _, rfl, b, _, rfl, rfl, c2, .ref p, rfl, p, C, dx, _, rfl, upd_same, T.ins.cl, T.nB, (by show 1 < 1000; decide), done _ eg⟩
/-! ### the methods -/
/-- what a Part is made with: its class, its __init__ and how that binds -/
structure Mks (K : PySem.W.Frag) (mg : Str → Option Value) (C fi f1 f2 : Addr) (gi g1 g2 : FuncData) (d1 : Value) : Prop where
  M : Mk K C fi
  F : FunD K "__init__" "Part.__init__" (defArgs sInit) (defBody sInit) (defScope sInit) [.int 1] [] fi gi
  b3 : Binds K gi ["self", "top", "bottom"] []
  b2 : Binds K gi ["self", "top", "bottom"] [d1]
  r1 : RelV (.int 1) d1
  N1 : Fn K mg "is_whole" sIsWhole ["thing"] f1 g1
  N2 : Fn K mg "common_divisor" sDivisor ["one", "other"] f2 g2
/-- a new Part, behind H -/
def New (C : Addr) (H : Hp) (q : Rat) (Q : VK) : Prop := ∀ H' p, Same H H' → H p = none → PA C H' p q → Q (.ref p) H'
theorem made {C : Addr} {H : Hp} {t b : Int} {Q : VK} {E : XK} (hb : b ≠ 0) (hz : b.natAbs < 2 ^ 8000) (h : New C H (Rat.divInt t b) Q) :
    ∀ x dx, H x = none → H dx = none → dx ≠ x → spInit C (.ref x :: ([.int t, .int b] ++ [])) (upd (upd H dx (.own x)) x (.ins C dx [])) (fun v H2 => v = .non ∧ Q (.ref x) H2) E := by
  intro x dx hx hdx ne
  refine ⟨x, dx, t, b, rfl, hb, hz, upd_same, rfl, ?_⟩
  rw [upd_upd]
  refine h _ _ (fun c o e => ?_) hx ⟨dx, upd_same⟩
  rw [upd_ne (ne_of_none e hx), upd_ne (ne_of_none e hdx)]
  exact e
theorem made1 {C : Addr} {H : Hp} {t : Int} {Q : VK} {E : XK} (h : New C H (Rat.divInt t 1) Q) :
    ∀ x dx, H x = none → H dx = none → dx ≠ x → spInit C (.ref x :: ([.int t] ++ [.int 1])) (upd (upd H dx (.own x)) x (.ins C dx [])) (fun v H2 => v = .non ∧ Q (.ref x) H2) E :=
  made (t := t) (b := 1) (by decide) (Nat.one_lt_two_pow (by decide)) h
def spOp (C : Addr) (ok : Rat → Rat → Prop) (g : Rat → Rat → Rat) : Sp := fun vs H Q _ => ∃ a b q r, vs = [.ref a, .ref b] ∧ PA C H a q ∧ PA C H b r ∧ Sz 4000 q ∧ Sz 3900 r ∧ ok q r ∧ New C H (g q r) Q
theorem den_pos (q : Rat) : 0 < q.den := Nat.pos_of_ne_zero q.den_nz
theorem sz_den {q r : Rat} (h1 : Sz 4000 q) (h2 : Sz 3900 r) : ((q.den : Int) * (r.den : Int)).natAbs < 2 ^ 8000 := by
  have h := wide_lt (i := (q.den : Int)) (j := (r.den : Int)) (a := 4000) (b := 3900) (by simpa using h1.2) (by simpa using h2.2)
  exact Nat.lt_of_lt_of_le h (Nat.pow_le_pow_right (by decide) (by decide))
theorem mulW {i j : Int} (h1 : i.natAbs < 2 ^ 4000) (h2 : j.natAbs < 2 ^ 4000) : CMulW i j := wide_mul h1 h2 (by decide) (by decide) (by decide)
theorem up39 {n : Nat} (h : n < 2 ^ 3900) : n < 2 ^ 4000 := Nat.lt_of_lt_of_le h (Nat.pow_le_pow_right (by decide) (by decide))
theorem scPlus : FnScope ["self", "other"] ["self", "other"] (defScope sPlus) := ⟨rfl, rfl, rfl, by decide +kernel, rfl, by decide +kernel, by decide +kernel⟩
theorem ok_plus {f fi f1 f2 : Addr} {fd gi g1 g2 : FuncData} {d1 : Value} {k : Nat} (F : Fun K "plus" "Part.plus" sPlus f fd) (N : Mks K mg C fi f1 f2 gi g1 g2 d1) (T : TxtP K mg C) : FnOk P w K mg base CX0 (k + 4) f fd ["self", "other"] (spOp C (fun _ _ => True) (fun q r => q + r)) := by
  have GI : FnOk P w K mg base CX0 (k + 2) fi gi ["self", "top", "bottom"] (spInit C) := ok_init N.F N.N1 N.N2 T
  refine F.ok scPlus (fun vs H Q E h => ?_) (fun cdv A outer s H vs Q E hr h => ?_)
  · obtain ⟨a, b, q, r, rfl, _⟩ := h
    rfl
  · obtain ⟨a, b, q, r, rfl, ⟨dx, ha⟩, ⟨dy, hb⟩, zq, zr, _, h⟩ := h
    refine ⟨_, pss_one (ps_ret (pe_make N.M GI hr (by rfl) T.mgC N.b3 .nil pass0 (pa_cons (pe_op op_add (pe_op op_mulW (pe_fld (pv 0) rfl) (pe_fld (pv 1) rfl)) (pe_op op_mulW (pe_fld (pv 1) rfl) (pe_fld (pv 0) rfl))) (pa_cons (pe_op op_mulW (pe_fld (pv 0) rfl) (pe_fld (pv 1) rfl)) pa_nil)))), ?_⟩
    refine ⟨.ref a, rfl, a, C, dx, _, _, rfl, ha, T.ins.cl, T.nT, pf_top q, .ref b, rfl, b, C, dy, _, _, rfl, hb, T.ins.cl, T.nB, pf_bottom r, _, _, rfl, rfl, mulW zq.1 (by simpa using up39 zr.2), ?_⟩
    refine ⟨.ref b, rfl, b, C, dy, _, _, rfl, hb, T.ins.cl, T.nT, pf_top r, .ref a, rfl, a, C, dx, _, _, rfl, ha, T.ins.cl, T.nB, pf_bottom q, _, _, rfl, rfl, mulW (up39 zr.1) (by simpa using zq.2), _, _, rfl, rfl, ?_⟩
    refine ⟨.ref a, rfl, a, C, dx, _, _, rfl, ha, T.ins.cl, T.nB, pf_bottom q, .ref b, rfl, b, C, dy, _, _, rfl, hb, T.ins.cl, T.nB, pf_bottom r, _, _, rfl, rfl, mulW (by simpa using zq.2) (by simpa using up39 zr.2), ?_⟩
    refine made (Int.mul_ne_zero (den_ne q) (den_ne r)) (sz_den zq zr) ?_
    rw [← add_eq]
    exact h
/-! ### lowest, times, over -/
theorem mk_facts {H : Hp} {x dx : Addr} {q : Rat} (hx : H x = none) (hdx : H dx = none) : Same H (upd (upd H dx (.own x)) x (.ins C dx (pf q))) ∧ PA C (upd (upd H dx (.own x)) x (.ins C dx (pf q))) x q := by
  refine ⟨fun c o e => ?_, dx, upd_same⟩
  rw [upd_ne (ne_of_none e hx), upd_ne (ne_of_none e hdx)]
  exact e
/-! ### _law_together -/
theorem pf_set (q r : Rat) : putF "bottom" (.int (q.den : Int)) (putF "top" (.int q.num) (pf r)) = pf q := by
  unfold pf
  simp [putF, tb_]
theorem few_pf (q : Rat) : (pf q).length < 1000 := by
  unfold pf
  simp [putF, tb_]
theorem few_pf1 (q : Rat) (x : V) : (putF "top" x (pf q)).length < 1000 := by
  unfold pf
  simp [putF, tb_]
theorem scLowest : FnScope ["top", "bottom", "result"] ["top", "bottom"] (defScope sLowest) := ⟨rfl, rfl, rfl, by decide +kernel, rfl, by decide +kernel, by decide +kernel⟩
def spLowest (C : Addr) : Sp := fun vs H Q _ => ∃ q : Rat, vs = [.int q.num, .int (q.den : Int)] ∧ New C H q Q
theorem ok_lowest {f fi f1 f2 : Addr} {fd gi g1 g2 : FuncData} {d1 : Value} {k : Nat} (F : Fun K "lowest" "lowest" sLowest f fd) (N : Mks K mg C fi f1 f2 gi g1 g2 d1) (T : TxtP K mg C) : FnOk P w K mg base CX0 (k + 4) f fd ["top", "bottom"] (spLowest C) := by
  have GI : FnOk P w K mg base CX0 (k + 2) fi gi ["self", "top", "bottom"] (spInit C) := ok_init N.F N.N1 N.N2 T
  refine F.ok scLowest (fun vs H Q E h => ?_) (fun cdv A outer s H vs Q E hr h => ?_)
  · obtain ⟨q, rfl, _⟩ := h
    rfl
  · obtain ⟨q, rfl, h⟩ := h
    have nd := scLowest.nd
    refine ⟨_, pss_cons (ps_set (i := 2) nd rfl (.inl rfl) (pe_make N.M GI hr (by rfl) T.mgC N.b2 (.cons N.r1 .nil) pass0 (pa_cons pe_int pa_nil)))
      (pss_cons (ps_fld (pv 2) (pv 0) rfl) (pss_cons (ps_fld (pv 2) (pv 1) rfl) (pss_one (ps_ret (pv 2))))), ?_⟩
    intro p dx np hdx ne
    refine ⟨p, dx, 1, 1, rfl, by decide, Nat.one_lt_two_pow (by decide), upd_same, rfl, ?_⟩
    rw [upd_upd]
    refine ⟨.int q.num, rfl, .ref p, rfl, p, C, dx, _, rfl, upd_same, T.ins.cl, T.nT, few_pf _, ?_⟩
    refine ⟨.int (q.den : Int), rfl, .ref p, rfl, p, C, dx, _, rfl, upd_same, T.ins.cl, T.nB, few_pf1 _ _, ?_⟩
    refine ⟨.ref p, rfl, ?_⟩
    rw [upd_upd, upd_upd, pf_set]
    refine h _ p (fun c o e => ?_) np ⟨dx, upd_same⟩
    rw [upd_ne (ne_of_none e np), upd_ne (ne_of_none e hdx)]
    exact e
def spMul (C : Addr) : Sp := fun vs H Q _ => ∃ a b q r, vs = [.ref a, .ref b] ∧ PA C H a q ∧ PA C H b r ∧ Sz 100000 q ∧ Sz 3900 r ∧ (r ≠ 0 ∨ Sz 8000 q) ∧ New C H (q * r) Q
theorem fdiv_le {t : Int} {g n : Nat} (h : t.natAbs < 2 ^ n) (d : (g : Int) ∣ t) : (t.fdiv (g : Int)).natAbs < 2 ^ n := by
  rw [Int.fdiv_eq_ediv_of_dvd d]
  exact Nat.lt_of_le_of_lt (Int.natAbs_ediv_le_natAbs _ _) h
theorem scTimes : FnScope ["self", "other", "first", "second"] ["self", "other"] (defScope sTimes) := ⟨rfl, rfl, rfl, by decide +kernel, rfl, by decide +kernel, by decide +kernel⟩
theorem ok_mul {f fi f1 f2 fz : Addr} {fd gi g1 g2 gz : FuncData} {d1 : Value} {k : Nat} (F : Fun K "times" "Part.times" sTimes f fd) (N : Mks K mg C fi f1 f2 gi g1 g2 d1) (Nz : Fn K mg "lowest" sLowest ["top", "bottom"] fz gz) (T : TxtP K mg C) :
    FnOk P w K mg base CX0 (k + 5) f fd ["self", "other"] (spMul C) := by
  have G2 : FnOk P w K mg base CX0 (k + 4) f2 g2 ["one", "other"] spDivisor := ok_divisor N.N2.F T
  have GZ : FnOk P w K mg base CX0 (k + 4) fz gz ["top", "bottom"] (spLowest C) := ok_lowest Nz.F N T
  refine F.ok scTimes (fun vs H Q E h => ?_) (fun cdv A outer s H vs Q E hr h => ?_)
  · obtain ⟨a, b, q, r, rfl, _⟩ := h
    rfl
  · obtain ⟨a, b, q, r, rfl, ⟨dx, ha⟩, ⟨dy, hb⟩, zq, zr, hs, h⟩ := h
    have nd := scTimes.nd
    refine ⟨_, pss_cons (ps_set (i := 2) nd rfl (.inl rfl) (pe_call G2 hr (by rfl) N.N2.g N.N2.F.kp N.N2.b .nil pass0 (pa_cons (pe_fld (pv 0) rfl) (pa_cons (pe_fld (pv 1) rfl) pa_nil))))
      (pss_cons (ps_set (i := 3) nd rfl (.inl rfl) (pe_call G2 hr (by rfl) N.N2.g N.N2.F.kp N.N2.b .nil pass0 (pa_cons (pe_fld (pv 1) rfl) (pa_cons (pe_fld (pv 0) rfl) pa_nil))))
      (pss_one (ps_ret (pe_call GZ hr (by rfl) Nz.g Nz.F.kp Nz.b .nil pass0 (pa_cons (pe_op op_mulW (pe_op op_fdivWN (pe_fld (pv 0) rfl) (pv 2)) (pe_op op_fdivWN (pe_fld (pv 1) rfl) (pv 3)))
        (pa_cons (pe_op op_mulW (pe_op op_fdivWN (pe_fld (pv 0) rfl) (pv 3)) (pe_op op_fdivWN (pe_fld (pv 1) rfl) (pv 2))) pa_nil)))))), ?_⟩
    have p1 := gcd_pos (t := q.num) (den_ne r)
    have p2 := gcd_pos (t := r.num) (den_ne q)
    have l1 : (Int.gcd q.num (r.den : Int)).log2 < 9000 := by
      have h1 : Int.gcd q.num (r.den : Int) ≤ r.den := Nat.le_of_dvd (Nat.pos_of_ne_zero r.den_nz) (Int.gcd_dvd_natAbs_right ..)
      exact Nat.lt_of_lt_of_le (PySem.Flt.log2_lt_of (by decide) (Nat.lt_of_le_of_lt h1 zr.2)) (by decide)
    have l2 : (Int.gcd r.num (q.den : Int)).log2 < 9000 := by
      rcases hs with h0 | h0
      · have h1 : Int.gcd r.num (q.den : Int) ≤ r.num.natAbs := Nat.le_of_dvd (Int.natAbs_pos.mpr fun e => h0 (Rat.num_eq_zero.mp e)) (Int.gcd_dvd_natAbs_left ..)
        exact Nat.lt_of_lt_of_le (PySem.Flt.log2_lt_of (by decide) (Nat.lt_of_le_of_lt h1 zr.1)) (by decide)
      · have h1 : Int.gcd r.num (q.den : Int) ≤ q.den := Nat.le_of_dvd (Nat.pos_of_ne_zero q.den_nz) (Int.gcd_dvd_natAbs_right ..)
        exact Nat.lt_of_lt_of_le (PySem.Flt.log2_lt_of (by decide) (Nat.lt_of_le_of_lt h1 h0.2)) (by decide)
    have c1 : ∀ t : Int, CDivWN t (Int.gcd q.num (r.den : Int) : Int) := fun t => ⟨by omega, l1⟩
    have c2 : ∀ t : Int, CDivWN t (Int.gcd r.num (q.den : Int) : Int) := fun t => ⟨by omega, l2⟩
    refine ⟨.ref a, rfl, a, C, dx, _, _, rfl, ha, T.ins.cl, T.nT, pf_top q, .ref b, rfl, b, C, dy, _, _, rfl, hb, T.ins.cl, T.nB, pf_bottom r, q.num, (r.den : Int), rfl, ?_⟩
    refine ⟨.ref b, rfl, b, C, dy, _, _, rfl, hb, T.ins.cl, T.nT, pf_top r, .ref a, rfl, a, C, dx, _, _, rfl, ha, T.ins.cl, T.nB, pf_bottom q, r.num, (q.den : Int), rfl, ?_⟩
    refine ⟨.ref a, rfl, a, C, dx, _, _, rfl, ha, T.ins.cl, T.nT, pf_top q, _, rfl, _, _, rfl, rfl, c1 _, .ref b, rfl, b, C, dy, _, _, rfl, hb, T.ins.cl, T.nT, pf_top r, _, rfl, _, _, rfl, rfl, c2 _, _, _, rfl, rfl, ?_, ?_⟩
    · exact wide_mul (fdiv_le zq.1 (Int.gcd_dvd_left ..)) (fdiv_le zr.1 (Int.gcd_dvd_left ..)) (by decide) (by decide) (by decide)
    refine ⟨.ref a, rfl, a, C, dx, _, _, rfl, ha, T.ins.cl, T.nB, pf_bottom q, _, rfl, _, _, rfl, rfl, c2 _, .ref b, rfl, b, C, dy, _, _, rfl, hb, T.ins.cl, T.nB, pf_bottom r, _, rfl, _, _, rfl, rfl, c1 _, _, _, rfl, rfl, ?_, ?_⟩
    · exact wide_mul (fdiv_le (t := (q.den : Int)) zq.2 (Int.gcd_dvd_right ..)) (fdiv_le (t := (r.den : Int)) zr.2 (Int.gcd_dvd_right ..)) (by decide) (by decide) (by decide)
    refine ⟨q * r, ?_, h⟩
    show [V.int (_ * _), V.int (_ * _)] = _
    rw [mul_num, mul_den]
theorem ok_times {f fi f1 f2 fz : Addr} {fd gi g1 g2 gz : FuncData} {d1 : Value} {k : Nat} (F : Fun K "times" "Part.times" sTimes f fd) (N : Mks K mg C fi f1 f2 gi g1 g2 d1) (Nz : Fn K mg "lowest" sLowest ["top", "bottom"] fz gz) (T : TxtP K mg C) :
    FnOk P w K mg base CX0 (k + 5) f fd ["self", "other"] (spOp C (fun _ _ => True) (fun q r => q * r)) :=
  (ok_mul F N Nz T).imp fun vs H Q E ⟨a, b, q, r, e, ha, hb, zq, zr, _, h⟩ => ⟨a, b, q, r, e, ha, hb, zq.mono (by decide), zr, .inr (zq.mono (by decide)), h⟩
def spDiv (C : Addr) : Sp := fun vs H Q _ => ∃ a b q r, vs = [.ref a, .ref b] ∧ PA C H a q ∧ PA C H b r ∧ Sz 100000 q ∧ Sz 3900 r ∧ r ≠ 0 ∧ New C H (q / r) Q
theorem scOver : FnScope ["self", "other"] ["self", "other"] (defScope sOver) := ⟨rfl, rfl, rfl, by decide +kernel, rfl, by decide +kernel, by decide +kernel⟩
theorem no_times (q : Rat) : (pf q).lookup ("times" : Str) = none := pf_no q (by decide +kernel) (by decide +kernel)
theorem ok_div {f fi f1 f2 fz ft : Addr} {fd gi g1 g2 gz gt : FuncData} {d1 : Value} {k : Nat} (F : Fun K "over" "Part.over" sOver f fd) (N : Mks K mg C fi f1 f2 gi g1 g2 d1) (Nz : Fn K mg "lowest" sLowest ["top", "bottom"] fz gz) (Ft : Fun K "times" "Part.times" sTimes ft gt) (bt : Binds K gt ["self", "other"] []) (mt : Meth K C "times" ft) (T : TxtP K mg C) :
    FnOk P w K mg base CX0 (k + 6) f fd ["self", "other"] (spDiv C) := by
  have GI : FnOk P w K mg base CX0 (k + 4) fi gi ["self", "top", "bottom"] (spInit C) := ok_init N.F N.N1 N.N2 T
  have GT : FnOk P w K mg base CX0 (k + 5) ft gt ["self", "other"] (spMul C) := ok_mul Ft N Nz T
  refine F.ok scOver (fun vs H Q E h => ?_) (fun cdv A outer s H vs Q E hr h => ?_)
  · obtain ⟨a, b, q, r, rfl, _⟩ := h
    rfl
  · obtain ⟨a, b, q, r, rfl, ⟨dx, ha⟩, ⟨dy, hb⟩, zq, zr, hr0, h⟩ := h
    have hn0 : r.num ≠ 0 := fun e => hr0 (Rat.num_eq_zero.mp e)
    have up : ∀ {n : Nat}, n < 2 ^ 3900 → n < 2 ^ 8000 := fun h => Nat.lt_of_lt_of_le h (Nat.pow_le_pow_right (by decide) (by decide))
    refine ⟨_, pss_one (ps_ret (pe_meth (pv 0) T.ins.cl mt GT hr bt .nil pass0 (pa_cons (pe_make N.M GI hr (by rfl) T.mgC N.b3 .nil pass0 (pa_cons (pe_fld (pv 1) rfl) (pa_cons (pe_fld (pv 1) rfl) pa_nil))) pa_nil))), ?_⟩
    refine ⟨.ref a, rfl, a, dx, _, rfl, ha, no_times q, ?_⟩
    refine ⟨.ref b, rfl, b, C, dy, _, _, rfl, hb, T.ins.cl, T.nB, pf_bottom r, .ref b, rfl, b, C, dy, _, _, rfl, hb, T.ins.cl, T.nT, pf_top r, ?_⟩
    intro p dz np hdz ne
    refine ⟨p, dz, (r.den : Int), r.num, rfl, hn0, up zr.1, upd_same, rfl, ?_⟩
    rw [upd_upd]
    obtain ⟨s1, pa⟩ := mk_facts (C := C) (q := Rat.divInt (r.den : Int) r.num) np hdz
    generalize upd (upd H dz (.own p)) p (.ins C dz (pf (Rat.divInt (r.den : Int) r.num))) = H1 at s1 pa
    have er : Rat.divInt (r.den : Int) r.num = r⁻¹ := (Rat.inv_def r).symm
    have z1 : Sz 3900 (Rat.divInt (r.den : Int) r.num) := sz_divInt hn0 zr.2 zr.1
    rw [er] at pa z1
    refine ⟨a, p, q, r⁻¹, rfl, PA.same s1 ⟨dx, ha⟩, pa, zq, z1, .inl ?_, fun H2 p2 s2 n2 pa2 => ?_⟩
    · intro e
      refine hr0 ?_
      rw [← Rat.inv_inv r, e]
      exact Rat.inv_zero
    · refine h H2 p2 (s1.trans s2) (s1.free n2) ?_
      rw [Rat.div_def]
      exact pa2
theorem ok_over {f fi f1 f2 fz ft : Addr} {fd gi g1 g2 gz gt : FuncData} {d1 : Value} {k : Nat} (F : Fun K "over" "Part.over" sOver f fd) (N : Mks K mg C fi f1 f2 gi g1 g2 d1) (Nz : Fn K mg "lowest" sLowest ["top", "bottom"] fz gz) (Ft : Fun K "times" "Part.times" sTimes ft gt) (bt : Binds K gt ["self", "other"] []) (mt : Meth K C "times" ft) (T : TxtP K mg C) :
    FnOk P w K mg base CX0 (k + 6) f fd ["self", "other"] (spOp C (fun _ r => r ≠ 0) (fun q r => q / r)) :=
  (ok_div F N Nz Ft bt mt T).imp fun vs H Q E ⟨a, b, q, r, e, ha, hb, zq, zr, h0, h⟩ => ⟨a, b, q, r, e, ha, hb, zq.mono (by decide), zr, h0, h⟩
end
/-! ### what stands at the top -/
structure TxtR (K : PySem.W.Frag) (w : World) (mg : Str → Option Value) (d : Addr) (es : Array DictEntry) (n : Nat) : Prop where
  len : mg "len" = none
  range : mg "range" = none
  all : mg "all" = none
  isi : mg "isinstance" = none
  str : mg "str" = none
  int : mg "int" = none
  bool : mg "bool" = none
  reversed : mg "reversed" = none
  sorted : mg "sorted" = none
  list : mg "list" = none
  repr : mg "repr" = none
  bead : ∃ t, mg "BEAD" = some (.str "o" t)
  free : ∃ t, mg "FREE" = some (.str "." t)
  most : ∃ t, mg "MOST_PLACES" = some (.int 30 t)
  os : mg "OTHER_SIGN" = some (.ref d)
  D : KDict K w d es n
  osO : ∃ t, PySem.W.nsIn K d "o" = some (some (.str "." t))
  osF : ∃ t, PySem.W.nsIn K d "." = some (some (.str "o" t))
/-- a text in a written dict -/
def rInKd (K : PySem.W.Frag) (d : Addr) : R2 := fun x y H Q => ∃ (z : Str) (r : Option Value), x = .str z ∧ y = .ref d ∧ PySem.W.nsIn K d z = some r ∧ Q (.bl r.isSome) H
theorem op_inKd {X : Cx} {d : Addr} {es : Array DictEntry} {n : Nat} (D : KDict X.K X.w d es n) : OpR X (compareOp .In) (rInKd X.K d) := op_in_kd D
def spIsRow : Sp := fun vs H Q _ => ∃ bs, vs = [.str (tx bs)] ∧ Row bs ∧ ∀ H', Same H H' → Q (.bl true) H'
theorem scIsRow : FnScope ["thing", "sign"] ["thing"] (defScope sIsRow) := ⟨rfl, rfl, rfl, by decide +kernel, rfl, by decide +kernel, by decide +kernel⟩
section
variable {P : Program} {w : World} {K : PySem.W.Frag} {mg : Str → Option Value} {base : Heap} {d : Addr} {es : Array DictEntry} {n : Nat}
theorem in_os (T : TxtR K w mg d es n) (b : Bool) : ∃ r, PySem.W.nsIn K d (tx [b]) = some (some r) ∧ ∃ t, r = .str (tx [!b]) t := by
  cases b with
  | true =>
    obtain ⟨t, e⟩ := T.osO
    rw [tx_o] at e
    exact ⟨_, e, t, by rw [tx_f]; rfl⟩
  | false =>
    obtain ⟨t, e⟩ := T.osF
    rw [tx_f] at e
    exact ⟨_, e, t, by rw [tx_o]; rfl⟩
theorem ok_isrow {f : Addr} {fd : FuncData} {k : Nat} (F : Fun K "is_row" "is_row" sIsRow f fd) (T : TxtR K w mg d es n) : FnOk P w K mg base CX0 (k + 1) f fd ["thing"] spIsRow := by
  refine F.ok scIsRow (fun vs H Q E h => ?_) (fun cdv A outer s H vs Q E hr h => ?_)
  · obtain ⟨bs, rfl, _⟩ := h
    rfl
  · obtain ⟨bs, rfl, hR, q⟩ := h
    have nd := scIsRow.nd
    obtain ⟨tm, gm⟩ := T.most
    refine ⟨_, pss_cons (ps_if (PW.pt (pw_or (pt_not (pt_val (pe_callB call_isi (by rfl) T.isi (by decide +kernel) (pa_cons (pv 0) (pa_cons (pe_bltn (v := .ty "str") (by rfl) T.str (by decide +kernel) rfl) pa_nil)))))
          (pw_or (pt_cmpR op_lt (pe_callB call_len_str (by rfl) T.len PySem.boot_len (pa_cons (pv 0) pa_nil)) pe_int (nomark _))
          (pw_or1 (pt_cmpR op_gt (pe_callB call_len_str (by rfl) T.len PySem.boot_len (pa_cons (pv 0) pa_nil)) (pe_glob (v := .int 30) (by rfl) gm ⟨_, rfl⟩) (nomark _))))))
        (pss_one (ps_ret pe_bl)) pss_nil)
      (pss_one (ps_ret (pe_callB (cr_all rfl) (by rfl) T.all (by decide +kernel) (pa_cons
        (pe_lc (own := [("sign", 1)]) (g := gName 1) (tt := tYes) (te := tOp (rInKd K d) (tVar 1) (tC (.ref d))) rfl nd (pi_str (pv 0)) (blkOk_by (own := [("sign", 1)]) (N := ["thing", "sign"]) (sc := defScope sIsRow) (by decide +kernel))
          (fun _ _ _ _ _ => pg_name (i := 1) nd rfl (Or.inl rfl)) (fun _ _ _ _ _ => pts_nil)
          (fun _ _ _ _ _ => pe_cmpR (op_inKd T.D) (pv 1) (pe_glob (v := .ref d) (by rfl) T.os rfl) (by rfl)))
        pa_nil)))), ?_⟩
    have hz := row_size hR
    refine ⟨.str (tx bs), rfl, .str (tx bs), .ty "str", .type "str", .type "str", true, rfl, .ty _, .base (.str _), kit_ty (by decide +kernel), true, rfl, iteF ?_⟩
    refine ⟨.str (tx bs), rfl, tx bs, rfl, hz, _, _, rfl, rfl, _, rfl, ?_⟩
    rw [tx_len, decide_eq_false (by have := hR.1; omega)]
    refine iteF ⟨.str (tx bs), rfl, tx bs, rfl, hz, _, _, rfl, rfl, _, rfl, ?_⟩
    rw [tx_len, decide_eq_false (by have := hR.2; omega)]
    refine iteF ⟨.str (tx bs), rfl, tx bs, rfl, fun D hD => ?_⟩
    refine lc_tx (bs := bs) (fun i H3 => Same H H3 ∧ H3 D = some (.lst ((List.replicate i true).map V.bl)) ∧ i ≤ 30) ⟨same_upd hD, upd_same, by decide⟩ ?_ ?_
    · rintro i b H3 hb ⟨sm, eD, hi⟩
      obtain ⟨r, e1, t, e2⟩ := in_os T b
      have hi2 : i < bs.length := (List.getElem?_eq_some_iff.mp hb).1
      refine ⟨rfl, .str (tx [b]), rfl, tx [b], some r, rfl, rfl, e1, _, eD, ?_, same_new hD sm, ?_, ?_⟩
      · rw [List.length_map, List.length_replicate]
        exact small1000 (by omega)
      · rw [upd_same, List.replicate_succ', List.map_append]
        rfl
      · have := hR.2
        omega
    · rintro H3 ⟨sm, eD, hi⟩
      refine ⟨D, List.replicate bs.length true, rfl, SqL.of eD, ?_⟩
      have e : (List.replicate bs.length true).all id = true := by simp
      rw [e]
      exact q H3 sm
def spNeed : Sp := fun vs H Q _ => ∃ bs, vs = [.str (tx bs)] ∧ Row bs ∧ ∀ H', Same H H' → Q .non H'
theorem scNeed : FnScope ["thing"] ["thing"] (defScope sNeedRow) := ⟨rfl, rfl, rfl, by decide +kernel, rfl, by decide +kernel, by decide +kernel⟩
theorem ok_need {f f1 : Addr} {fd fd1 : FuncData} {k : Nat} (F : Fun K "need_row" "need_row" sNeedRow f fd) (N1 : Fn K mg "is_row" sIsRow ["thing"] f1 fd1) (T : TxtR K w mg d es n) : FnOk P w K mg base CX0 (k + 2) f fd ["thing"] spNeed := by
  have G1 : FnOk P w K mg base CX0 (k + 1) f1 fd1 ["thing"] spIsRow := ok_isrow N1.F T
  refine F.ok scNeed (fun vs H Q E h => ?_) (fun cdv A outer s H vs Q E hr h => ?_)
  · obtain ⟨bs, rfl, _⟩ := h
    rfl
  · obtain ⟨bs, rfl, hR, q⟩ := h
    refine ⟨_, pss_one (ps_if (pt_not (pt_val (pe_call G1 hr (by rfl) N1.g N1.F.kp N1.b .nil pass0 (pa_cons (pv 0) pa_nil)))) (pss_one ps_never) pss_nil), ?_⟩
    exact ⟨.str (tx bs), rfl, bs, rfl, hR, fun H1 s1 => ⟨true, rfl, iteF (q H1 s1)⟩⟩
end
section
variable {P : Program} {w : World} {K : PySem.W.Frag} {mg : Str → Option Value} {base : Heap} {C : Addr}
/-- at a a pace -/
def PC (C : Addr) (H : Hp) (a : Addr) (q : Rat) : Prop := PA C H a q ∧ 0 < q ∧ Sz 45 q
theorem PC.same {H H' : Hp} {a : Addr} {q : Rat} (s : Same H H') (h : PC C H a q) : PC C H' a q := ⟨h.1.same s, h.2⟩
/-- what is handed in as a pace, and the pace that it is -/
def Pw (C : Addr) (H : Hp) (x : V) (q : Rat) : Prop := (x = .non ∧ q = 1) ∨ ∃ a, x = .ref a ∧ PC C H a q
theorem Pw.same {H H' : Hp} {x : V} {q : Rat} (s : Same H H') (h : Pw C H x q) : Pw C H' x q := h.imp id fun ⟨a, e, p⟩ => ⟨a, e, p.same s⟩
theorem Pw.pos {H : Hp} {x : V} {q : Rat} (h : Pw C H x q) : 0 < q := by
  rcases h with ⟨_, rfl⟩ | ⟨_, _, p⟩
  · decide
  · exact p.2.1
theorem pc_one {H : Hp} {p : Addr} (h : PA C H p (Rat.divInt 1 1)) : PC C H p 1 := by
  have e : Rat.divInt 1 1 = 1 := by decide +kernel
  rw [e] at h
  exact ⟨h, by decide, ⟨by decide, by decide⟩⟩
variable {fi f1 f2 : Addr} {gi g1 g2 : FuncData} {d1 : Value}
/-! ### pace_from, paces_from -/
def spPaceFrom (C : Addr) : Sp := fun vs H Q _ => ∃ x q, vs = [x] ∧ Pw C H x q ∧ ∀ H' a, Same H H' → PC C H' a q → Q (.ref a) H'
theorem scPaceFrom : FnScope ["thing"] ["thing"] (defScope sPaceFrom) := ⟨rfl, rfl, rfl, by decide +kernel, rfl, by decide +kernel, by decide +kernel⟩
theorem ok_paceFrom {f : Addr} {fd : FuncData} {k : Nat} (F : Fun K "pace_from" "pace_from" sPaceFrom f fd) (M : Mks K mg C fi f1 f2 gi g1 g2 d1) (T : TxtP K mg C) : FnOk P w K mg base CX0 (k + 4) f fd ["thing"] (spPaceFrom C) := by
  have GI : FnOk P w K mg base CX0 (k + 2) fi gi ["self", "top", "bottom"] (spInit C) := ok_init M.F M.N1 M.N2 T
  refine F.ok scPaceFrom (fun vs H Q E h => ?_) (fun cdv A outer s H vs Q E hr h => ?_)
  · obtain ⟨x, q, rfl, _⟩ := h
    rfl
  · obtain ⟨x, q, rfl, hx, h⟩ := h
    refine ⟨_, PSs.nox (pss_cons (ps_if (pt_cmpR op_isN (pv 0) pe_non (nomark _)) (pss_one (ps_ret (pe_make M.M GI hr (by rfl) T.mgC M.b2 (.cons M.r1 .nil) pass0 (pa_cons pe_int pa_nil)))) pss_nil)
      (pss_cons (ps_if (PW.pt (pw_or (pt_not (pt_val (pe_callB (call_isC T.ins) (by rfl) T.isi (by decide +kernel) (pa_cons (pv 0) (pa_cons (pe_glob (v := .ref C) (by rfl) T.mgC rfl) pa_nil))))) (pw_or1 (pt_cmpR op_lt (pe_fld (pv 0) rfl) pe_int (nomark _))))) (pss_one ps_never) pss_nil)
      (pss_one (ps_ret (pv 0))))), ?_⟩
    rcases hx with ⟨rfl, rfl⟩ | ⟨a, rfl, ⟨⟨dx, ha⟩, h0, hz⟩⟩
    · refine ⟨.non, rfl, rfl, _, rfl, ?_⟩
      rw [decide_eq_true rfl]
      refine iteT ?_
      intro p dx np hdx ne
      refine ⟨p, dx, 1, 1, rfl, by decide, Nat.one_lt_two_pow (by decide), upd_same, rfl, ?_⟩
      rw [upd_upd]
      obtain ⟨s3, pa3⟩ := mk_facts (C := C) (q := Rat.divInt 1 1) np hdx
      exact h _ p s3 (pc_one pa3)
    · refine ⟨.ref a, rfl, rfl, _, rfl, ?_⟩
      rw [decide_eq_false (fun z => nomatch z)]
      refine iteF ⟨.ref a, rfl, a, dx, _, rfl, ha, true, rfl, iteF ?_⟩
      refine ⟨.ref a, rfl, a, C, dx, _, _, rfl, ha, T.ins.cl, T.nT, pf_top q, _, _, rfl, rfl, _, rfl, ?_⟩
      have hp := num_pos h0
      rw [decide_eq_false (show ¬ q.num < 1 by omega)]
      exact iteF ⟨.ref a, rfl, h _ _ (Same.refl _) ⟨⟨dx, ha⟩, h0, hz⟩⟩
def spPacesFrom (C : Addr) : Sp := fun vs H Q _ => ∃ x y q r, vs = [x, y] ∧ Pw C H x q ∧ Pw C H y r ∧ ∀ H' p a b, Same H H' → H p = none → H' p = some (.tup [.ref a, .ref b]) → PC C H' a q → PC C H' b r → Q (.ref p) H'
theorem scPacesFrom : FnScope ["inn", "out", "first"] ["inn", "out"] (defScope sPacesFrom) := ⟨rfl, rfl, rfl, by decide +kernel, rfl, by decide +kernel, by decide +kernel⟩
theorem ok_pacesFrom {f p1 : Addr} {fd q1 : FuncData} {k : Nat} (F : Fun K "paces_from" "paces_from" sPacesFrom f fd) (N1 : Fn K mg "pace_from" sPaceFrom ["thing"] p1 q1) (M : Mks K mg C fi f1 f2 gi g1 g2 d1) (T : TxtP K mg C) : FnOk P w K mg base CX0 (k + 5) f fd ["inn", "out"] (spPacesFrom C) := by
  have G1 : FnOk P w K mg base CX0 (k + 4) p1 q1 ["thing"] (spPaceFrom C) := ok_paceFrom N1.F M T
  refine F.ok scPacesFrom (fun vs H Q E h => ?_) (fun cdv A outer s H vs Q E hr h => ?_)
  · obtain ⟨x, y, q, r, rfl, _⟩ := h
    rfl
  · obtain ⟨x, y, q, r, rfl, pa, pb, h⟩ := h
    have nd := scPacesFrom.nd
    refine ⟨_, pss_cons (ps_set (i := 2) nd rfl (.inl rfl) (pe_call G1 hr (by rfl) N1.g N1.F.kp N1.b .nil pass0 (pa_cons (pv 0) pa_nil)))
      (pss_one (ps_ret (pe_tup (pa_cons (pv 2) (pa_cons (pe_call G1 hr (by rfl) N1.g N1.F.kp N1.b .nil pass0 (pa_cons (pv 1) pa_nil)) pa_nil))))), ?_⟩
    refine ⟨x, rfl, x, q, rfl, pa, fun H1 a s1 p1 => ⟨.ref a, rfl, y, rfl, y, r, rfl, pb.same s1, fun H2 b s2 p2 => ⟨(by show 2 ≤ sizeLine; decide), fun p np => ?_⟩⟩⟩
    have s12 := s1.trans s2
    exact h _ p a b (s12.trans (same_upd np)) (s12.free np) upd_same (p1.same (s2.trans (same_upd np))) (p2.same (same_upd np))
/-! ### power -/
theorem scPower : FnScope ["number", "many", "result", "bit"] ["number", "many"] (defScope sPower) := ⟨rfl, rfl, rfl, by decide +kernel, rfl, by decide +kernel, by decide +kernel⟩
def spPower : Sp := fun vs H Q _ => ∃ (x : Int) (n e : Nat), vs = [.int x, .int (n : Int)] ∧ n < 101 ∧ x.natAbs < 2 ^ e ∧ e * n ≤ 3000 ∧ e ≤ 3000 ∧ Q (.int (x ^ n)) H
theorem one_49 : ("1" : Str) = ⟨#[49]⟩ := by decide +kernel
theorem ok_power {f : Addr} {fd : FuncData} {k : Nat} (F : Fun K "power" "power" sPower f fd) : FnOk P w K mg base CX0 (k + 1) f fd ["number", "many"] spPower := by
  refine F.ok scPower (fun vs H Q E h => ?_) (fun cdv A outer s H vs Q E hr h => ?_)
  · obtain ⟨x, n, e, rfl, _⟩ := h
    rfl
  · obtain ⟨x, n, e, rfl, hn, hx, he, he2, q⟩ := h
    have nd := scPower.nd
    refine ⟨_, pss_cons (ps_set (i := 2) nd rfl (.inl rfl) pe_int)
      (pss_cons (ps_for PassesOwn.never rfl (pi_str (pe_joined1 (pe_fmtB (pv 1)))) (pg_name (i := 3) nd rfl (.inl rfl))
        (pss_cons (ps_aug (i := 2) nd rfl (.inl rfl) (pv 2) ip_mulW)
        (pss_one (ps_if (pt_cmpR op_eq (pv 3) pe_str (nomark _)) (pss_one (ps_aug (i := 2) nd rfl (.inl rfl) (pv 0) ip_mulW)) pss_nil))))
      (pss_one (ps_ret (pv 2)))), ?_⟩
    refine ⟨.int (n : Int), rfl, n, rfl, hn, binText n, rfl, ?_⟩
    have up : ∀ m, m ≤ n → (x ^ m).natAbs < 2 ^ 3001 := fun m hm => Nat.lt_of_lt_of_le (pow_lt hx hm) (Nat.pow_le_pow_right (by decide) (by omega))
    refine for_it (walk_str (z := binText n)) (fun i σ H3 => ∃ y3, σ = [some (.int x), some (.int (n : Int)), some (.int (x ^ (((binText n).cps.toList.take i).foldl step2 0))), y3] ∧ H3 = H) ⟨none, by rw [List.take_zero, List.foldl_nil, Int.pow_zero]; rfl, rfl⟩ (fun _ _ _ _ _ => trivial) ?_ ?_
    · rintro i v σ H3 H4 _ ⟨y3, rfl, rfl⟩ ⟨rfl, c, hc, rfl⟩
      obtain ⟨e1, e2⟩ := bin_le hn hc
      generalize ((binText n).cps.toList.take i).foldl step2 0 = m at e1 e2 ⊢
      have e3 : 2 * m ≤ n := by
        unfold step2 at e2
        omega
      refine ⟨_, rfl, _, rfl, _, _, rfl, rfl, wide_mul (up m (by omega)) (up m (by omega)) (by decide) (by decide) (by decide), ?_⟩
      have e4 : x ^ m * x ^ m = x ^ (2 * m) := by rw [← Int.pow_add, Nat.two_mul]
      rw [e4]
      refine ⟨_, rfl, rfl, _, rfl, ?_⟩
      by_cases h49 : c = 49
      · have ec : decide (V.str ⟨#[c]⟩ = V.str "1") = true := decide_eq_true (by rw [one_49, h49])
        rw [ec]
        refine iteT ⟨_, rfl, _, rfl, _, _, rfl, rfl, wide_mul (up (2 * m) e3) (by have := up 1 (by unfold step2 at e2; rw [if_pos h49] at e2; omega); rw [Int.pow_one] at this; exact this) (by decide) (by decide) (by decide), ?_⟩
        refine ⟨some (.str ⟨#[c]⟩), ?_, rfl⟩
        rw [← e1]
        unfold step2
        rw [if_pos h49, Int.pow_succ]
        rfl
      · have ec : decide (V.str ⟨#[c]⟩ = V.str "1") = false := decide_eq_false fun z => by
          rw [one_49] at z
          have z := V.str.inj z
          injection z with z
          exact h49 (by simpa using z)
        rw [ec]
        refine iteF ⟨some (.str ⟨#[c]⟩), ?_, rfl⟩
        rw [← e1]
        unfold step2
        rw [if_neg h49]
        rfl
    · rintro σ H3 ⟨y3, rfl, rfl⟩
      refine ⟨_, rfl, ?_⟩
      have : ((binText n).cps.toList.take (binText n).cps.size).foldl step2 0 = n := by
        rw [← Array.length_toList, List.take_length, bin_fold n hn]
      rw [this]
      exact q
/-! ### Parts alike -/
def spPEq (C : Addr) : Sp := fun vs H Q _ => ∃ a b q r, vs = [.ref a, .ref b] ∧ PA C H a q ∧ PA C H b r ∧ Q (.bl (decide (q = r))) H
theorem scEq : FnScope ["self", "other"] ["self", "other"] (defScope sEq) := ⟨rfl, rfl, rfl, by decide +kernel, rfl, by decide +kernel, by decide +kernel⟩
theorem ok_eq {f : Addr} {fd : FuncData} {k : Nat} (F : Fun K "__eq__" "Part.__eq__" sEq f fd) (T : TxtP K mg C) : FnOk P w K mg base CX0 (k + 1) f fd ["self", "other"] (spPEq C) := by
  refine F.ok scEq (fun vs H Q E h => ?_) (fun cdv A outer s H vs Q E hr h => ?_)
  · obtain ⟨a, b, q, r, rfl, _⟩ := h
    rfl
  · obtain ⟨a, b, q, r, rfl, ⟨dx, ha⟩, ⟨dy, hb⟩, h⟩ := h
    refine ⟨_, pss_one (ps_ret (pe_and (pe_callB (call_isC T.ins) (by rfl) T.isi (by decide +kernel) (pa_cons (pv 1) (pa_cons (pe_glob (v := .ref C) (by rfl) T.mgC rfl) pa_nil)))
      (pe_and (pe_cmpR op_eq (pe_fld (pv 0) rfl) (pe_fld (pv 1) rfl) (nomark _)) (pe_one (pe_cmpR op_eq (pe_fld (pv 0) rfl) (pe_fld (pv 1) rfl) (nomark _)))))), ?_⟩
    refine ⟨.ref b, rfl, b, dy, _, rfl, hb, true, rfl, ?_⟩
    refine ⟨.ref a, rfl, a, C, dx, _, _, rfl, ha, T.ins.cl, T.nT, pf_top q, .ref b, rfl, b, C, dy, _, _, rfl, hb, T.ins.cl, T.nT, pf_top r, rfl, _, rfl, ?_⟩
    by_cases e1 : q.num = r.num
    · rw [decide_eq_true (show V.int q.num = V.int r.num by rw [e1])]
      refine ⟨.ref a, rfl, a, C, dx, _, _, rfl, ha, T.ins.cl, T.nB, pf_bottom q, .ref b, rfl, b, C, dy, _, _, rfl, hb, T.ins.cl, T.nB, pf_bottom r, rfl, ?_⟩
      have e : decide (V.int (q.den : Int) = V.int (r.den : Int)) = decide (q = r) := by
        by_cases e2 : q.den = r.den
        · rw [decide_eq_true (show V.int (q.den : Int) = V.int (r.den : Int) by rw [e2]), decide_eq_true (Rat.ext e1 e2)]
        · rw [decide_eq_false fun z => e2 (by have := V.int.inj z; omega), decide_eq_false fun z => e2 (by rw [z])]
      show Q (.bl (decide (V.int (q.den : Int) = V.int (r.den : Int)))) H
      rw [e]
      exact h
    · rw [decide_eq_false fun z => e1 (V.int.inj z)]
      rw [decide_eq_false (show ¬ q = r from fun z => e1 (by rw [z]))] at h
      exact h
end
end Hop

set_option Elab.async false
set_option linter.all false
set_option maxRecDepth 100000
set_option exponentiation.threshold 200000
namespace Hop
open PySem L2 HopR
open C8 (InsC call_isC)
/-! ### lists of lists of counts -/
def LG (H : Hp) (o : Addr) : List (List Nat) → List V → Prop
  | [], vs => vs = []
  | L :: r, vs => ∃ p vr, vs = .ref p :: vr ∧ p ≠ o ∧ H p = some (.lst (L.map wv)) ∧ LG H o r vr
theorem lg_same {H H' : Hp} {o : Addr} (s : Same H H') : ∀ {Ls : List (List Nat)} {vs : List V}, LG H o Ls vs → LG H' o Ls vs
  | [], _, h => h
  | L :: r, _, ⟨p, vr, e, n, h1, h2⟩ => ⟨p, vr, e, n, s _ _ h1, lg_same s h2⟩
theorem lg_upd {H : Hp} {o : Addr} {x : HO} : ∀ {Ls : List (List Nat)} {vs : List V}, LG H o Ls vs → LG (upd H o x) o Ls vs
  | [], _, h => h
  | L :: r, _, ⟨p, vr, e, n, h1, h2⟩ => ⟨p, vr, e, n, by rw [upd_ne n]; exact h1, lg_upd h2⟩
theorem lg_to {H : Hp} {o o' : Addr} (hn : H o' = none) : ∀ {Ls : List (List Nat)} {vs : List V}, LG H o Ls vs → LG H o' Ls vs
  | [], _, h => h
  | L :: r, _, ⟨p, vr, e, n, h1, h2⟩ => ⟨p, vr, e, ne_of_none h1 hn, h1, lg_to hn h2⟩
theorem lg_len {H : Hp} {o : Addr} : ∀ {Ls : List (List Nat)} {vs : List V}, LG H o Ls vs → vs.length = Ls.length
  | [], _, h => by
    cases h
    rfl
  | L :: r, _, ⟨p, vr, e, _, _, h2⟩ => by rw [e, List.length_cons, List.length_cons, lg_len h2]
theorem lg_at {H : Hp} {o : Addr} : ∀ {Ls : List (List Nat)} {vs : List V} {k : Nat} {L : List Nat}, LG H o Ls vs → Ls[k]? = some L → ∃ p, vs[k]? = some (.ref p) ∧ H p = some (.lst (L.map wv))
  | [], _, k, L, h, e => by simp at e
  | M :: r, _, 0, L, ⟨p, vr, ev, _, h1, h2⟩, e => by
    have : M = L := Option.some.inj e
    subst this
    exact ⟨p, by rw [ev]; rfl, h1⟩
  | M :: r, _, k + 1, L, ⟨p, vr, ev, _, h1, h2⟩, e => by
    obtain ⟨p', e1, e2⟩ := lg_at (k := k) h2 e
    exact ⟨p', by rw [ev]; exact e1, e2⟩
theorem lg_add {H : Hp} {o p : Addr} {L : List Nat} (n : p ≠ o) (h1 : H p = some (.lst (L.map wv))) : ∀ {Ls : List (List Nat)} {vs : List V}, LG H o Ls vs → LG H o (Ls ++ [L]) (vs ++ [.ref p])
  | [], _, h => by
    cases h
    exact ⟨p, [], rfl, n, h1, rfl⟩
  | _ :: _, _, ⟨p', vr, e, n', h2, h3⟩ => ⟨p', vr ++ [.ref p], by rw [e]; rfl, n', h2, lg_add n h1 h3⟩
/-- the line that stands at a place -/
theorem lg_get {H : Hp} {o : Addr} {T : List (List Nat)} {vs : List V} {j : Nat} {x : V} (g : LG H o T vs) (hx : vs[j]? = some x) : ∃ p L, T[j]? = some L ∧ x = .ref p ∧ H p = some (.lst (L.map wv)) := by
  have hj : j < T.length := by
    rw [← lg_len g]
    exact (List.getElem?_eq_some_iff.mp hx).1
  obtain ⟨p, e1, e2⟩ := lg_at g (List.getElem?_eq_getElem hj)
  rw [hx] at e1
  exact ⟨p, _, List.getElem?_eq_getElem hj, Option.some.inj e1, e2⟩
/-- at a a table -/
def Tb (H : Hp) (a : Addr) (T : List (List Nat)) : Prop := ∃ vs, H a = some (.lst vs) ∧ LG H a T vs
theorem Tb.same {H H' : Hp} {a : Addr} {T : List (List Nat)} (s : Same H H') (h : Tb H a T) : Tb H' a T := let ⟨vs, e, g⟩ := h; ⟨vs, s _ _ e, lg_same s g⟩
/-- a new list that grows by a new line -/
def Gr (H0 H : Hp) (D : Addr) (T : List (List Nat)) : Prop := Same H0 H ∧ Tb H D T
theorem gr_nil {H0 : Hp} {D : Addr} (hD : H0 D = none) : Gr H0 (upd H0 D (.lst [])) D [] := ⟨same_upd hD, [], upd_same, rfl⟩
theorem gr_add {H0 H H4 : Hp} {D p : Addr} {T : List (List Nat)} {L : List Nat} {vs : List V} (hD : H0 D = none) (g : Gr H0 H D T) (s : Same H H4) (np : H p = none) (h1 : H4 p = some (.lst (L.map wv))) (ev : H D = some (.lst vs)) : Gr H0 (upd H4 D (.lst (vs ++ [.ref p]))) D (T ++ [L]) := by
  obtain ⟨s0, vs', e', gg⟩ := g
  rw [ev] at e'
  have e' : vs = vs' := by
    injection e' with e'
    injection e' with e'
  subst e'
  have np2 : p ≠ D := fun z => by
    rw [z, ev] at np
    cases np
  refine ⟨same_new hD (s0.trans s), _, upd_same, lg_upd (lg_add np2 h1 (lg_same s gg))⟩
def Small (T : List (List Nat)) : Prop := T.length ≤ 40 ∧ ∀ L ∈ T, L.length ≤ 40
theorem take_map_snoc {α β : Type} (f : α → β) {l : List α} {j : Nat} {a : α} (h : l[j]? = some a) : (l.take j).map f ++ [f a] = (l.take (j + 1)).map f := by
  rw [List.take_add_one, h, List.map_append]
  rfl
section
variable {P : Program} {w : World} {K : PySem.W.Frag} {mg : Str → Option Value} {base : Heap}
/-! ### with_bead -/
def spBead : Sp := fun vs H Q _ => ∃ (a : Addr) (T : List (List Nat)), vs = [.ref a] ∧ Tb H a T ∧ Small T ∧ ∀ H' p, Same H H' → H p = none → Tb H' p (T.map (0 :: ·)) → Q (.ref p) H'
abbrev nWB : List Str := ["table", "line"]
theorem scBead : FnScope nWB ["table"] (defScope sWithBead) := ⟨rfl, rfl, rfl, by decide +kernel, rfl, by decide +kernel, by decide +kernel⟩
theorem ok_bead {f : Addr} {fd : FuncData} {k : Nat} (F : Fun K "with_bead" "with_bead" sWithBead f fd) : FnOk P w K mg base CX0 (k + 1) f fd ["table"] spBead := by
  refine F.ok scBead (fun vs H Q E h => ?_) (fun cdv A outer s H vs Q E hr h => ?_)
  · obtain ⟨a, T, rfl, _⟩ := h
    rfl
  · obtain ⟨a, T, rfl, ⟨xs, ea, ga⟩, hT, q⟩ := h
    have nd := scBead.nd
    refine ⟨_, pss_one (ps_ret (pe_lc (own := [("line", 1)]) (g := gName 1) (tt := tYes) rfl nd (pi_list (pv 0)) (blkOk_by (own := [("line", 1)]) (N := nWB) (sc := defScope sWithBead) (by decide +kernel)) (fun _ _ _ _ _ => pg_name (i := 1) nd rfl (Or.inl rfl)) (fun _ _ _ _ _ => pts_nil) (fun _ _ _ _ _ => pe_op op_cat (pe_lst (pa_cons pe_int pa_nil)) (pv 1)))), ?_⟩
    refine ⟨.ref a, rfl, a, rfl, ⟨_, SqL.of ea⟩, fun D hD => ?_⟩
    refine lc_list (K := K) (a := a) (xs := xs) (fun j H3 => Gr H H3 D ((T.take j).map (0 :: ·))) (gr_nil hD) (fun j H3 _ h => SqL.of (h.1 _ _ ea)) ?_ ?_
    · rintro j x H3 hx g3
      obtain ⟨p, L, hL, rfl, ep⟩ := lg_get ga hx
      have hl := hT.2 L (List.mem_of_getElem? hL)
      have hj : j < T.length := (List.getElem?_eq_some_iff.mp hL).1
      have hT1 := hT.1
      obtain ⟨vD, eD, gD⟩ := g3.2
      refine ⟨rfl, (by show 1 ≤ sizeLine; decide), fun o1 n1 => ⟨.ref p, rfl, o1, p, _, L.map wv, rfl, rfl, upd_same, ?_, ?_, fun p5 n5 => ?_⟩⟩
      · exact (same_upd n1) _ _ (g3.1 _ _ ep)
      · rw [List.length_map]
        exact fit (by show 1 + L.length ≤ _; omega)
      · have s5 := (same_upd (o := .lst [.int 0]) n1).trans (same_upd (o := .lst ([V.int 0] ++ L.map wv)) n5)
        refine ⟨vD, s5 _ _ eD, ?_, ?_⟩
        · rw [lg_len gD, List.length_map]
          exact fit' (Nat.le_trans (List.length_take_le _ _) (by omega))
        · rw [← take_map_snoc _ hL]
          exact gr_add hD g3 s5 ((same_upd n1).free n5) upd_same eD
    · rintro H3 g3
      rw [lg_len ga, List.take_length] at g3
      exact q H3 D g3.1 hD g3.2
end
end Hop

set_option Elab.async false
set_option linter.all false
set_option maxRecDepth 100000
namespace HopR
open PySem PySem.Spec PyProof.Rows L2
/-! ### repr of a list that holds own objects beside data -/
section
variable {X : Cx}
/-- what repr tells of an item of the list at L, n defs deep, now and later -/
def Itm (X : Cx) (n : Nat) (L : Addr) (H : Hp) (x : V) (t : Str) : Prop :=
  ∀ (pins : List (Addr × Obj)) (σ : L2.St) (H1 : Hp) (s : Shared) (u : Value) (base : Nat) (A : Around) (g : List Code) (Q : Str → Shared → Prop), Same H H1 → Inv X pins σ H1 s → RelV x u → base + t.length ≤ sizeLine →
    Room n A → A.frames = X.A.frames → A.guards = some g → (∀ b, b ≠ L → Clear g b) → (∀ s' H2, Inv X pins σ H2 s' → Same H1 H2 → Q t s') → wpAny (model X.prog X.w) A (pyReprUnder base u) Q X.xe s
theorem vals_has {p : Addr} : ∀ {xs : List V} {us : List Value}, Vals xs us → V.ref p ∈ xs → Value.ref p ∈ us
  | _, _, .cons (a := x) (b := y) r t, h => by
    rcases List.mem_cons.mp h with e | h
    · rw [← e] at r
      cases (show y = Value.ref p from r)
      exact List.mem_cons_self ..
    · exact List.mem_cons_of_mem _ (vals_has t h)
theorem all_read {h : Heap} {v : Value} : ∀ {us : List Value} {ds : List PyData} {as : List Addr}, ReadsAll h us ds as → v ∈ us → ∃ d as', Reads h v d as'
  | _, _, _, .cons r t, hm => by
    rcases List.mem_cons.mp hm with e | hm
    · rw [e]
      exact ⟨_, _, r⟩
    · exact all_read t hm
/-- an own object is no datum -/
theorem no_datum {pins : List (Addr × Obj)} {σ : L2.St} {H : Hp} {s : Shared} {p C dx : Addr} {fs : List (Str × V)} (I : Inv X pins σ H s) (hp : H p = some (.ins C dx fs)) {d : PyData} {as : List Addr} : ¬ Reads s.heap (.ref p) d as := by
  obtain ⟨_, J, _⟩ := ins_get I.hok hp
  obtain ⟨od, J, _⟩ := J.look
  have h1 := J.at_
  have h2 := J.cls
  intro r
  cases r with
  | list a b _ _ =>
    rw [h1] at a
    cases a
    rw [h2] at b
    cases b
  | tuple a b _ _ =>
    rw [h1] at a
    cases a
    rw [h2] at b
    cases b
  | dict a b _ _ _ =>
    rw [h1] at a
    cases a
    rw [h2] at b
    cases b
/-- nor is a list that holds one -/
theorem no_datumL {pins : List (Addr × Obj)} {σ : L2.St} {H : Hp} {s : Shared} {L p C dx : Addr} {xs : List V} {fs : List (Str × V)} (I : Inv X pins σ H s) (hL : H L = some (.lst xs)) (hm : V.ref p ∈ xs) (hp : H p = some (.ins C dx fs)) {d : PyData} {as : List Addr} : ¬ Reads s.heap (.ref L) d as := by
  obtain ⟨its, rv, ⟨o, k, ho, hc, hs, hd⟩, _⟩ := I.list (SqL.of hL)
  have hi := vals_has rv hm
  intro r
  cases r with
  | list a _ c e =>
    rw [ho] at a
    cases a
    rw [hd] at c
    cases c
    obtain ⟨d', as', r'⟩ := all_read e (by simpa using hi)
    exact no_datum I hp r'
  | tuple a b _ _ =>
    rw [ho] at a
    cases a
    rw [hc] at b
    exact absurd (Value.type.inj b) (by decide)
  | dict a b _ _ _ =>
    rw [ho] at a
    cases a
    rw [hc] at b
    exact absurd (Value.type.inj b) (by decide)
theorem itm_data {n : Nat} {L : Addr} {H : Hp} {x : V} {d : PyData} (hd : ∀ H1, Same H H1 → Dp X.K H1 x d) (hs : d.showable = true) (hn : d.hasDict = false) (hdep : d.depth ≤ 64) (hz : d.shown.length ≤ sizeLine)
    (hL : ∀ pins σ H1 s, Same H H1 → Inv X pins σ H1 s → ∀ e as, ¬ Reads s.heap (.ref L) e as) : Itm X n L H x d.shown := by
  intro pins σ H1 s u base A g Q sm I ru hb room fr hg hcl hQ
  obtain ⟨as, rd⟩ := Dp.reads I d x u (hd H1 sm) ru
  obtain ⟨bs, few, tells⟩ := ReprK.of_reads (prog := X.prog) (w := X.w) rd hs (fun e => absurd (hn.symm.trans e) (by decide)) hz
  refine tells base hb A g X.xe s Q hg (fun b hb' => hcl b fun e => ?_) (by have := room.un; omega) (fun _ _ e => e) (fun h' tk hk => hQ _ H1 (I.kept hk) (Same.refl _))
  obtain ⟨d', as', r', _⟩ := few b hb'
  rw [e] at r'
  exact hL _ _ _ _ sm I _ _ r'
/-- a special method found in an own class, called by `last` -/
theorem special_own {M : Model} {A : Around} {E : Value → Shared → Prop} {s : Shared} {K : PySem.W.Frag} {x C f : Addr} {ox : Obj} {od : Option Obj} {name : Str} {last : Value → List Value → Sem Value} {Q : Option Value → Shared → Prop} (kin : K.In s.heap) (J : PySem.W.InstAt s.heap x ox C od)
    (has : PySem.W.findIn K (.ref C) name = some (some (.ref f))) (fn : PySem.W.isFn K (.ref f) = true) (run : wpAny M A (last (.ref f) [.ref x]) (fun v => Q (some v)) E s) : wpAny M A (callSpecialIfBoundBy? last (.ref x) name) Q E s := by
  have tell : wpAny M A (do let v ← last (.ref f) [.ref x]; pure (some v)) Q E s := wpAny_bind (wpAny_mono run (fun _ _ h => wpAny_pure h) fun _ _ h => h)
  have bound := PySem.W.bind_fn (M := M) kin (.ref x) (beq_iff_eq.mp fn)
  unfold callSpecialIfBoundBy? bindSpecialIfBound?
  refine wpAny_holding (wpAny_bind (wpAny_bind (wpAny_bind (J.type.here ((PySem.W.looks_findIn kin has).here (wpAny_bind (wpAny_askSetting (wpAny_ite ?_))))))))
  split
  · exact wpAny_bind (bound.here (wpAny_pure tell))
  · exact wpAny_tryCatch (wpAny_bind (bound.here (wpAny_pure tell)))
theorem itm_own {CX : CXT} {k n : Nat} {L a C dx f : Addr} {H : Hp} {fs : List (Str × V)} {fd : FuncData} {ps : List Str} {sp : Sp} {E : XK} {t : Str} (ha : H a = some (.ins C dx fs)) (rep : PySem.W.findIn X.K (.ref C) "__repr__" = some (some (.ref f))) (fn : PySem.W.isFn X.K (.ref f) = true)
    (F : FnOk X.prog X.w X.K X.mg X.base CX k f fd ps sp) (kn : k ≤ n) (bind : Binds X.K fd ps []) (lets : Passes CX X E) (prom : ∀ H1, Same H H1 → sp [.ref a] H1 (fun v H2 => v = .str t ∧ Same H1 H2) E) : Itm X n L H (.ref a) t := by
  intro pins σ H1 s u base A g Q sm I ru hb room fr hg hcl hQ
  cases (show u = Value.ref a from ru)
  obtain ⟨_, J, _⟩ := ins_get I.hok (sm _ _ ha)
  obtain ⟨od, J, _⟩ := J.look
  have un := room.un
  refine wpAny_pyReprUnder_ref (by omega) ?_
  unfold pyReprObjUnder pyReprObjBy
  refine wpAny_bind (wpAny_cRoomFor (by omega) (wpAny_bind (wpAny_bind (J.type.here ((PySem.W.looks_findIn I.kIn rep).here ?_)))))
  show wpAny _ _ (if (some (Value.ref f)).isNone = true then _ else _) _ _ _
  rw [if_neg (by simp)]
  refine wpAny_bind (special_own I.kIn J rep fn (thn (call_at F (room.mono kn) fr bind lets I (us := [.ref a]) (vs := [.ref a]) (.cons rfl .nil) (prom H1 sm)) ?_))
  rintro v s' ⟨z, H', I', rz, rfl, sm'⟩
  obtain ⟨tk, rfl⟩ := rz
  exact wpAny_bind (wpAny_isInstance (T := "str") (b := true) rfl isSubtype_str_str (wpAny_pure ⟨_, _, rfl, hQ s' H' I' sm'⟩))
theorem vals_at : ∀ {xs : List V} {us : List Value}, Vals xs us → ∀ (i : Nat) x u, xs[i]? = some x → us[i]? = some u → RelV x u
  | _, _, .cons r t, 0, x, u, h1, h2 => by
    cases h1
    cases h2
    exact r
  | _, _, .cons r t, i + 1, x, u, h1, h2 => vals_at t i x u h1 h2
theorem texts_of : ∀ {ts : List Str} {us : List Value}, Vals (ts.map V.str) us → ∃ l : List (Str × Tok), us = strValues l ∧ l.map (·.1) = ts
  | [], _, h => by
    cases h
    exact ⟨[], rfl, rfl⟩
  | t :: ts, _, h => by
    cases h with
    | cons r h =>
      obtain ⟨k, rfl⟩ := r
      obtain ⟨l, rfl, e⟩ := texts_of h
      exact ⟨(t, k) :: l, rfl, by rw [List.map_cons, e]⟩
theorem room_loop {k : Nat} {A : Around} (r : Room (k + 1) A) (args : Args) : Room k (A.under (.builtin "list.__repr__.loop" args)) :=
  ⟨r.hd, by
    have := r.dp
    have e : (A.under (.builtin "list.__repr__.loop" args)).depth ≤ A.depth + 1 := by
      first | exact Nat.le_refl _ | (simp [Around.under, Code.weight, Code.isCreation, Code.isGuard, Code.isCaller, Code.frames, Code.isFrame, guardIds])
    omega, by
    have := r.un
    rw [units_under_list_loop]
    omega⟩
theorem frames_loop {A : Around} (args : Args) : (A.under (.builtin "list.__repr__.loop" args)).frames = A.frames := by
  first | rfl | simp [Around.under, Code.envs, Code.isFrame, pushEnvs]
/-- all turns of the list's repr, the texts so far at P -/
theorem turns {A : Around} {n : Nat} {L P : Addr} {H : Hp} {xs : List V} {ts : List Str} {R : Result → Shared → Prop} (hg : A.guards = some []) (room : Room (n + 1) A) (fr : A.frames = X.A.frames) (hP : H P = none) (hL : H L = some (.lst xs)) (len : ts.length = xs.length)
    (tell : ∀ (i : Nat) x t, xs[i]? = some x → ts[i]? = some t → Itm X n L H x t) (fits : (listText ts).length ≤ sizeLine) (bad : ∀ e s', X.xe e s' → R (.error e) s') {pins : List (Addr × Obj)} {σ : L2.St}
    (good : ∀ s' H2 u, Inv X pins σ H2 s' → Same H H2 → R (.ok (.ret (.str (listText ts) u))) s') :
    ∀ (k i : Nat) (H1 : Hp) (s : Shared), xs.length - i = k → i ≤ xs.length → Inv X pins σ H1 s → Same H H1 → H1 P = some (.lst ((ts.take i).map V.str)) →
      codeAny (model X.prog X.w) A (.builtin "list.__repr__.loop" ⟨[.ref L, rawInt i, .ref P, rawInt ((piled (ts.take i) : Nat) : Int)], []⟩) R s := by
  have few := textFrom_len ts 0 "["
  have whole : (listText ts).length = (textFrom 0 "[" ts).length + 1 := by
    show (textFrom 0 "[" ts ++ "]").length = _
    rw [strLen_append]
    rfl
  intro k
  induction k with
  | zero =>
    intro i H1 s hk hi I sm eP
    obtain ⟨its, rv, ⟨o, m, ho, _, _, hd⟩, _⟩ := I.list (SqL.of (sm _ _ hL))
    obtain ⟨its2, rv2, ⟨o2, m2, ho2, _, _, hd2⟩, _⟩ := I.list (SqL.of eP)
    obtain ⟨l, el, e1⟩ := texts_of rv2
    have none_ : its.toArray[i]? = none := by
      have := rv.length
      simp
      omega
    rw [List.take_of_length_le (by omega)] at e1
    refine codeAny_builtin F.entry_list_repr_loop ?_
    show wpAny _ _ (Builtin.«list.__repr__.loop» ⟨[.ref L, .int i 0, .ref P, .int ((piled (ts.take i) : Nat) : Int) 0], []⟩) _ _ s
    rw [repr_loop_tree]
    refine wpAny_bind (wpAny_listItems ho hd ?_)
    rw [Int.toNat_natCast]
    simp only [none_]
    unfold reprEnd
    refine wpAny_bind (wpAny_listItems ho2 hd2 ?_)
    rw [show its2.toArray.toList = strValues l from el, repr_fold, e1]
    exact wpAny_bind (wpAny_pure (wpAny_bind (wpAny_mkStr (wpAny_pure (good _ H1 _ (I.tok _) sm)) fits)))
  | succ k ih =>
    intro i H1 s hk hi I sm eP
    have hlt : i < xs.length := by omega
    obtain ⟨its, rv, ⟨o, m, ho, _, _, hd⟩, _⟩ := I.list (SqL.of (sm _ _ hL))
    have hli := rv.length
    obtain ⟨t, ht⟩ : ∃ t, ts[i]? = some t := ⟨ts[i]'(by omega), List.getElem?_eq_getElem _⟩
    obtain ⟨x, hx⟩ : ∃ x, xs[i]? = some x := ⟨xs[i], List.getElem?_eq_getElem hlt⟩
    have here : its.toArray[i]? = some (its[i]'(by omega)) := by simp
    have rel : RelV x (its[i]'(by omega)) := vals_at rv i _ _ hx (List.getElem?_eq_getElem _)
    have p1 := piled_take_succ ht
    have p2 := piled_take_le ts (i + 1)
    have p3 := piled_le_listText ts
    refine codeAny_builtin F.entry_list_repr_loop ?_
    show wpAny _ _ (Builtin.«list.__repr__.loop» ⟨[.ref L, .int i 0, .ref P, .int ((piled (ts.take i) : Nat) : Int) 0], []⟩) _ _ s
    rw [repr_loop_tree]
    refine wpAny_bind (wpAny_listItems ho hd ?_)
    rw [Int.toNat_natCast]
    simp only [here]
    rw [Int.toNat_natCast]
    refine wpAny_bind (wpAny_holding (wpAny_mono (tell i x t hx ht pins σ H1 s _ (piled (ts.take i) + 1) _ _ _ sm I rel (by omega) (room_loop room _) ((frames_loop _).trans fr) (guards_under_guard (isGuard_list_loop _) hg) (fun b hb => (Clear.nil b).cons (a := L) fun e => hb e.symm) ?_) (fun _ _ h => h) bad))
    intro s' H2 I2 sm2
    refine wpAny_bind (wpAny_mkStr ?_ (Nat.le_trans (few.2.1 t (List.mem_of_getElem? ht)) (by omega)))
    refine wpAny_bind ?_
    show wpAny _ _ (updateSeq P _) _ _ _
    have eP2 := sm2 _ _ eP
    obtain ⟨hz2, its2, n2, rv2, e2⟩ := (show ObjOk X.prog X.w H2 s'.heap P (.lst ((ts.take i).map V.str)) from I2.hok P _ eP2)
    have hl2 := rv2.length
    have hl3 : ((ts.take i).map V.str).length = i := by
      rw [List.length_map, List.length_take]
      omega
    have few1 := few.1
    rw [if_neg (Nat.lt_irrefl 0)] at few1
    refine wpAny_updateSeq e2 rfl (wpAny_pure ⟨F.quiet_list_repr_loop _, ?_⟩) (by rw [List.size_toArray]; omega) (by rw [Array.size_push, List.size_toArray]; omega)
    have i1 : ((i : Int) + 1) = ((i + 1 : Nat) : Int) := by omega
    have i2 : piled (ts.take i) + (t.length + 2) = piled (ts.take (i + 1)) := by omega
    rw [i1, i2]
    have et : (ts.take (i + 1)).map V.str = (ts.take i).map V.str ++ [V.str t] := by
      rw [List.take_add_one, ht, List.map_append]
      rfl
    refine ih (i + 1) (upd H2 P (.lst ((ts.take (i + 1)).map V.str))) _ (by omega) hlt (I2.write (e := P) (by rw [eP2]; trivial) (.inl rfl) (fun b u hb q => (Heap.get?_update_other _ _ (Ne.symm hb)).trans q) ⟨_, Heap.get?_update_self _ e2 rfl⟩ ⟨?_, its2 ++ [.str t s'.toks], n2 + 1, ?_, ?_⟩) (same_new hP (sm.trans sm2)) upd_same
    · rw [et, List.length_append, hl3]
      show i + 1 ≤ sizeLine
      omega
    · rw [et]
      exact rv2.append (.cons ⟨_, rfl⟩ .nil)
    · refine (Heap.get?_update_self _ e2 rfl).trans ?_
      simp [Obj.mapSeq]
/-- repr(xs), xs no empty list, of data and of own objects -/
def rReprL (X : Cx) (n : Nat) : List V → Hp → VK → Prop := fun vs H Q => ∃ (L : Addr) (x : V) (xs : List V) (ts : List Str), vs = [.ref L] ∧ H L = some (.lst (x :: xs)) ∧ ts.length = (x :: xs).length ∧ (∀ (i : Nat) y t, (x :: xs)[i]? = some y → ts[i]? = some t → Itm X n L H y t) ∧
  (listText ts).length ≤ sizeLine ∧ ∀ H', Same H H' → Q (.str (listText ts)) H'
theorem cr_reprL {n : Nat} (hG : X.A.guards = some []) (room : Room (n + 3) X.A) : CallR X (.builtin "repr") (rReprL X n) := by
  rintro pins s σ H _ us Q I r ⟨L, x, xs, ts, rfl, hL, len, tell, fits, q⟩
  obtain ⟨u, rfl, rv⟩ := vals1 r
  cases (show u = Value.ref L from rv)
  obtain ⟨its, rv2, ⟨o, m, ho, hc, _, hd⟩, _⟩ := I.list (SqL.of hL)
  have un := room.un
  have type : s.TypeIs (.ref L) "list" := ⟨o, ho, hc⟩
  have nP : H s.heap.objs.size = none := I.hok.fresh (Nat.le_refl _)
  cases rv2 with
  | cons r1 r2 =>
    refine call_repr_slot (by omega) type F.slot_list_repr.toG ?_
    refine wpAny_call (codeAny_call_builtin F.slot_list_repr.plain F.entry_list_repr (F.slot_list_repr.check _ _ _ _ _ _ _ _ type (F.args_list_repr_1 _) ?_))
    refine wpAny_list_repr_head (A := X.A.in1.in1) hG (fun _ _ _ h => nomatch h) ho hd ?_
    refine wpAny_bind (m := newList []) (wpAny_newObj_type (wpAny_pure ⟨F.quiet_list_repr_loop _, ?_⟩))
    refine turns (A := X.A.in1) (n := n) hG (Room.mono (k := n + 2) (j := n + 1) room.in1 (Nat.le_succ _)) rfl nP hL len tell fits ?bad (pins := pins) (σ := σ) ?good _ 0 (upd H s.heap.objs.size (.lst [])) _ rfl (Nat.zero_le _) (I.laid (t' := s.toks) (fun b o e => Heap.get?_push_of_some _ e) (Nat.le_refl _) ⟨Nat.zero_le _, [], 0, .nil, Heap.get?_push_size _ rfl⟩) (same_upd nP) upd_same
    case bad => exact fun e s' h => h
    case good => exact fun s' H2 u I2 sm => ⟨_, _, rfl, .str _, H2, I2, ⟨_, rfl⟩, q H2 sm⟩
end
end HopR

set_option Elab.async false
set_option linter.all false
set_option maxRecDepth 100000
namespace HopR
open PySem PySem.Spec PyProof.Rows L2
/-! ### {o!r} in an f-string, o of an own class -/
section
variable {X : Cx} {CX : CXT} {n : Nat} {C f : Addr} {fd : FuncData} {ps : List Str} {sp : Sp} {E : XK} {e : Expr} {te : TE} {pos : Pos}
def tFmtO (C : Addr) (sp : Sp) (E : XK) (te : TE) : TE := fun σ H Q => te σ H fun x H1 => ∃ a dx fs, x = .ref a ∧ H1 a = some (.ins C dx fs) ∧ sp [.ref a] H1 (fun v H' => ∃ z : Str, v = .str z ∧ z.length ≤ sizeLine ∧ Q (.str z) H') E
theorem pe_fmtO (rep : PySem.W.findIn X.K (.ref C) "__repr__" = some (some (.ref f))) (fn : PySem.W.isFn X.K (.ref f) = true) (F : FnOk X.prog X.w X.K X.mg X.base CX n f fd ps sp) (room : Room (n + 1) X.A) (bind : Binds X.K fd ps []) (lets : Passes CX X E) (he : PE X e te) :
    PE X (.FormattedValue e 114 none pos) (tFmtO C sp E te) := by
  constructor
  intro pins s σ H Q I h
  refine wpAny_FormattedValue_repr (thn (he.run pins s σ H _ I h) ?_)
  rintro u s1 ⟨_, H1, I1, ru, a, dx, fs, rfl, ha, prom⟩
  cases (show u = Value.ref a from ru)
  obtain ⟨_, J, _⟩ := ins_get I1.hok ha
  obtain ⟨od, J, _⟩ := J.look
  have un := room.un
  rw [pyReprObj_eq_pyReprObjBy]
  unfold pyReprObjBy
  refine wpAny_bind (wpAny_cRoomFor (by omega) (wpAny_bind (wpAny_bind (J.type.here ((PySem.W.looks_findIn I1.kIn rep).here ?_)))))
  show wpAny _ _ (if (some (Value.ref f)).isNone = true then _ else _) _ _ _
  rw [if_neg (by simp)]
  refine wpAny_bind (special_own I1.kIn J rep fn (thn (call_at F (room.mono (Nat.le_succ n)) rfl bind lets I1 (us := [.ref a]) (vs := [.ref a]) (.cons rfl .nil) prom) ?_))
  rintro v s' ⟨_, H', I', rz, z, rfl, hz, q⟩
  obtain ⟨tk, rfl⟩ := rz
  refine wpAny_bind (wpAny_isInstance (T := "str") (b := true) rfl isSubtype_str_str (wpAny_pure ?_))
  exact wpAny_formatField_str ⟨.str z, H', I', ⟨_, rfl⟩, q⟩ ⟨.str z, H', I'.tok _, ⟨_, rfl⟩, q⟩ hz
/-- o == p by the class's own __eq__, told by its two facts alone -/
theorem op_eqTwo (eq : PySem.W.findIn X.K (.ref C) "__eq__" = some (some (.ref f))) (fn : PySem.W.isFn X.K (.ref f) = true) (F : FnOk X.prog X.w X.K X.mg X.base CX n f fd ps sp) (room : Room n X.A) (bind : Binds X.K fd ps []) (lets : Passes CX X E) : OpR X (compareOp .Eq) (rOwn C sp E false) := by
  rintro pins s σ H _ _ v u Q I rx ry ⟨a, b, dx, dy, fs, gs, rfl, rfl, ha, hb, prom⟩
  cases rx; cases ry
  obtain ⟨_, J, _⟩ := ins_get I.hok ha
  obtain ⟨_, J', _⟩ := ins_get I.hok hb
  obtain ⟨_, J, _⟩ := J.look
  obtain ⟨_, J', _⟩ := J'.look
  obtain ⟨m, F0⟩ := I.fr
  refine PySem.W.cmp_K (op := .Eq) (tb := .ref C) room.units0 F0 I.ok.mod.kin J J'.type (by simp [PySem.W.notFirst]) eq fn (thn (call_at F room rfl bind lets I two_refs prom) ?_)
  rintro w s' ⟨z, H', I', rz, k, rfl, q⟩
  cases rz
  rw [Bool.xor_false] at q
  exact ⟨.bl k, H', I', rfl, q⟩
end
/-! ### lists of new tuples -/
def TupH {α : Type} (H : Hp) (f : α → List V) : List α → List V → Prop
  | [], vs => vs = []
  | a :: r, vs => ∃ p vr, vs = .ref p :: vr ∧ H p = some (.tup (f a)) ∧ TupH H f r vr
section
variable {α : Type} {H H' : Hp} {f : α → List V}
theorem tupH_same (s : Same H H') : ∀ {as : List α} {vs : List V}, TupH H f as vs → TupH H' f as vs
  | [], _, h => h
  | _ :: _, _, ⟨p, vr, e, h1, h2⟩ => ⟨p, vr, e, s _ _ h1, tupH_same s h2⟩
theorem tupH_upd {D : Addr} {xs : List V} {o : HO} (hD : H D = some (.lst xs)) : ∀ {as : List α} {vs : List V}, TupH H f as vs → TupH (upd H D o) f as vs
  | [], _, h => h
  | _ :: _, _, ⟨p, vr, e, h1, h2⟩ => ⟨p, vr, e, by
      rw [upd_ne (fun z => by rw [z, hD] at h1; cases h1)]
      exact h1, tupH_upd hD h2⟩
theorem tupH_add {a : α} {p : Addr} (h1 : H p = some (.tup (f a))) : ∀ {as : List α} {vs : List V}, TupH H f as vs → TupH H f (as ++ [a]) (vs ++ [.ref p])
  | [], _, h => by
    cases h
    exact ⟨p, [], rfl, h1, rfl⟩
  | _ :: _, _, ⟨p', vr, e, h2, h3⟩ => ⟨p', vr ++ [.ref p], by rw [e]; rfl, h2, tupH_add h1 h3⟩
theorem tupH_len : ∀ {as : List α} {vs : List V}, TupH H f as vs → vs.length = as.length
  | [], _, h => by
    cases h
    rfl
  | _ :: _, _, ⟨_, vr, e, _, h2⟩ => by rw [e, List.length_cons, List.length_cons, tupH_len h2]
theorem tupH_at : ∀ {as : List α} {vs : List V} {k : Nat} {a : α}, TupH H f as vs → as[k]? = some a → ∃ p, vs[k]? = some (.ref p) ∧ H p = some (.tup (f a))
  | [], _, k, a, h, e => by simp at e
  | b :: r, _, 0, a, ⟨p, vr, ev, h1, h2⟩, e => by
    have : b = a := Option.some.inj e
    subst this
    exact ⟨p, by rw [ev]; rfl, h1⟩
  | b :: r, _, k + 1, a, ⟨p, vr, ev, h1, h2⟩, e => by
    obtain ⟨p', e1, e2⟩ := tupH_at (k := k) h2 e
    exact ⟨p', by rw [ev]; exact e1, e2⟩
end
end HopR

set_option Elab.async false
set_option linter.all false
set_option maxRecDepth 100000
namespace HopR
open PySem PySem.Spec PyProof.Rows L2
/-! ### sum(whole numbers, start=0) -/
theorem may_start (l : Addr) (t : Tok) : checkBuiltinCall "sum" ⟨[.ref l], [(Str.ofString "start", .int 0 t)]⟩ = pure () := by
  have ok : argsOk "sum" ⟨[.ref l], [(Str.ofString "start", .int 0 t)]⟩ := by
    unfold argsOk
    kernel_rfl
  unfold checkBuiltinCall
  rw [F.kind_sum]
  unfold argsOk at ok
  cases h : Manifest.signature? "sum" with
  | none => rfl
  | some sig =>
    rw [h] at ok
    exact ok
section
variable {prog : Program} {w : World} {A : Around} {E : Value → Shared → Prop} {s : Shared}
theorem no_text {i : Int} {t : Tok} {T : String} {Q : Bool → Shared → Prop} (sub : isSubtype (.type "int") (.type T) = pure false) (q : Q false s) : wpAny (model prog w) A (isInstance (.int i t) (.type T)) Q E s := wpAny_isInstance (typeIs_int s i t) sub q
theorem sum_from {l : Addr} {t : Tok} {xs : Array (Int × Tok)} {Q : Value → Shared → Prop} (calm : A.handled = none) (hl : s.heap.IsList l (intItems xs))
    (fin : ∀ h' tk t', (∀ b o, s.heap.get? b = some o → h'.get? b = some o) → Q (.int (preSum (numAt xs) xs.size) t') { s with heap := h', toks := tk }) :
    wpAny (model prog w) A (call (.builtin "sum") [.ref l] [(Str.ofString "start", .int 0 t)]) Q E s := by
  refine wpAny_call (codeAny_call_builtin F.plain_sum F.entry_sum ?_)
  rw [may_start]
  refine wpAny_pure ?_
  unfold Builtin.«sum»
  simp only [List.length_cons, List.length_nil]
  rw [if_neg (by decide)]
  refine wpAny_bind (wpAny_of_eq (show Builtin.Builtins.bindParams "sum" ["start"] 0 ⟨[], [(Str.ofString "start", .int 0 t)]⟩ = pure [some (.int 0 t)] from by kernel_rfl) ?_)
  refine wpAny_bind (iter_intList hl fun s2 e at0 low here => ?_)
  subst e
  dsimp only
  refine wpAny_ite ?_
  split
  case isFalse no => exact absurd rfl no
  refine wpAny_bind (wpAny_rule (wpAny_bind (wpAny_mkInt (wpAny_bind (wpAny_pure ?_)))))
  simp only [List.forIn_cons, List.forIn_nil]
  refine wpAny_bind (wpAny_bind (wpAny_bind (no_text PySem.sub_int_str ?_)))
  rw [if_neg (by decide)]
  refine wpAny_pure (wpAny_bind (wpAny_bind (no_text PySem.sub_int_bytes ?_)))
  rw [if_neg (by decide)]
  refine wpAny_pure (wpAny_bind (wpAny_bind (no_text PySem.sub_int_bytearray ?_)))
  rw [if_neg (by decide)]
  refine wpAny_pure (wpAny_pure (wpAny_bind (wpAny_newObj_type ?_)))
  have W := Walks.list (prog := prog) (w := w) (A := A.in1) calm s.heap.objs.size l here (intItems xs)
  refine wpAny_pure ⟨plainId_quiet F.plain_sum_loop _, codeAny_sum_loopG W (numAt xs) (fun _ _ => intItems_at) _ (fun m => Nat.lt_irrefl _ (low _ m)) _ 0 _ _ 0 0 (.inl rfl) rfl (Nat.zero_le _) (W.frame _ _ _ at0 fun b _ o q => Heap.get?_push_of_some _ q) (Heap.get?_push_size _ rfl) ?_⟩
  intro h' tk t' old
  have q := fin h' tk t' fun b o e => ?_
  · simpa [intItems] using q
  · have lt := Heap.lt_size e
    refine old b o ?_ ?_ (Heap.get?_push_of_some _ (Heap.get?_push_of_some _ e))
    · intro m
      have m : b = s.heap.objs.size := by simpa using m
      exact absurd lt (by rw [m]; exact Nat.lt_irrefl _)
    · rw [Heap.size_push]
      exact Nat.ne_of_lt (Nat.lt_succ_of_lt lt)
end
section
variable {X : Cx}
def rSumK (K : PySem.W.Frag) : List V → List V → Hp → VK → Prop := fun vs zs H Q => ∃ (a : Addr) (ns : List Int), vs = [V.ref a] ∧ zs = [.int 0] ∧ SqL K H a (ns.map V.int) ∧ Q (.int ns.sum) H
theorem cr_sumK (calm : X.calm = true) : CallRK X (.builtin "sum") [Str.ofString "start"] (rSumK X.K) := by
  rintro pins s σ H _ _ us ws Q I r rz ⟨a, ns, rfl, rfl, hs, q⟩
  obtain rfl := Vals.ref1 r
  obtain ⟨_, rfl, t, rfl⟩ := vals1 rz
  obtain ⟨its, rv, hl, _⟩ := I.list hs
  obtain ⟨xs, e⟩ := rv.ints.allInts.items
  have hn : numsOf (intItems xs).toList = ns := by
    rw [← e]
    exact rv.ints.numsOf
  rw [nums_intItems] at hn
  have hl' := hl.isList
  rw [e] at hl'
  refine sum_from (I.ok.hd calm) hl' fun h' tk t' old => ⟨.int ns.sum, H, I.kept old, ⟨t', ?_⟩, q⟩
  rw [preSum_eq, List.take_of_length_le (by simp), hn]
end
end HopR

set_option Elab.async false
set_option linter.all false
set_option maxRecDepth 100000
set_option exponentiation.threshold 200000
namespace Hop
open PySem L2 HopR
open C8 (InsC call_isC)
theorem cutN_to (v : List Nat) (k : Nat) : cutV (v.map wv) none (some (k : Int)) = (v.take k).map wv := by
  unfold cutV
  rw [HT.sIx_nat, List.length_map, List.map_take]
  show ((v.map wv).drop 0).take (min k v.length - 0) = _
  rw [List.drop_zero, Nat.sub_zero]
  by_cases h : k ≤ v.length
  · rw [Nat.min_eq_left h]
  · rw [Nat.min_eq_right (by omega), List.take_of_length_le (by rw [List.length_map]; exact Nat.le_refl _), List.take_of_length_le (by rw [List.length_map]; omega)]
theorem cutN_from (v : List Nat) (k : Nat) : cutV (v.map wv) (some (k : Int)) none = (v.drop k).map wv := by
  unfold cutV
  rw [HT.sIx_nat, List.length_map, List.map_drop]
  show ((v.map wv).drop (min k v.length)).take (v.length - min k v.length) = _
  by_cases h : k ≤ v.length
  · rw [Nat.min_eq_left h, List.take_of_length_le (by rw [List.length_drop, List.length_map]; exact Nat.le_refl _)]
  · rw [Nat.min_eq_right (by omega), Nat.sub_self, List.take_zero, List.drop_of_length_le (by rw [List.length_map]; omega)]
theorem ints_of (v : List Nat) : v.map wv = (v.map fun k : Nat => (k : Int)).map V.int := by
  rw [List.map_map]
  rfl
theorem ints_sum : ∀ v : List Nat, (v.map fun k : Nat => (k : Int)).sum = ((v.sum : Nat) : Int)
  | [] => rfl
  | a :: r => by
    rw [List.map_cons, List.sum_cons, ints_sum r, List.sum_cons, Int.natCast_add]
/-- sum(xs) of counts -/
theorem sum_ok {K : PySem.W.Frag} {H : Hp} {a : Addr} {v : List Nat} {Q : VK} (e : H a = some (.lst (v.map wv))) (q : Q (wv v.sum) H) : rSum K [.ref a] H Q := by
  refine ⟨a, _, rfl, SqL.of (by rw [← ints_of]; exact e), ?_⟩
  rw [ints_sum]
  exact q
/-! ### with_free, by its three lists -/
def tl (l : List Nat) : List Nat := (List.range (l.length - 1)).map fun i => (l.drop (1 + i)).sum
theorem sfx_eq : ∀ l : List Nat, HopW.sfx l = (List.range l.length).map fun i => (l.drop i).sum
  | [] => rfl
  | m :: l => by
    rw [List.length_cons, List.range_succ_eq_map, List.map_cons, List.map_map]
    show (m + l.sum) :: HopW.sfx l = (m :: l).sum :: _
    rw [sfx_eq l, List.sum_cons]
    rfl
theorem tl_eq (l : List Nat) : tl l = HopW.sfx l.tail := by
  rw [sfx_eq, List.length_tail]
  unfold tl
  refine List.map_congr_left fun i _ => ?_
  rw [← List.drop_one, List.drop_drop]
def wf (T : List (List Nat)) : List (List Nat) := List.zipWith (fun h t => h :: t) (0 :: T.map List.sum) (T.map tl ++ [[]])
theorem wf_eq (T : List (List Nat)) : wf T = HopW.go 0 T := by
  unfold wf
  generalize 0 = s
  induction T generalizing s with
  | nil => rfl
  | cons l t ih =>
    show (s :: tl l) :: List.zipWith (fun h t => h :: t) (l.sum :: t.map List.sum) (t.map tl ++ [[]]) = (s :: HopW.sfx l.tail) :: HopW.go l.sum t
    rw [ih, tl_eq]
theorem wf_len (T : List (List Nat)) : (wf T).length = T.length + 1 := by
  unfold wf
  rw [List.length_zipWith, List.length_cons, List.length_map, List.length_append, List.length_map]
  show min (T.length + 1) (T.length + 1) = _
  omega
theorem tl_len (l : List Nat) : (tl l).length = l.length - 1 := by
  unfold tl
  rw [List.length_map, List.length_range]
def rLenQ (K : PySem.W.Frag) : List V → Hp → VK → Prop := fun xs H Q => ∃ p ys, xs = [.ref p] ∧ (SqL K H p ys ∨ SqT K H p ys) ∧ Q (.int ys.length) H
abbrev tTail (K : PySem.W.Frag) : TE := tCB (rSum K) (tCons (tSl (rSlL K) (tVar 3) (tPart (tVar 4)) tNoPart) tNil)
abbrev tTails (K : PySem.W.Frag) : TE := tLc (iRng2 (tCons (tC (.int 1)) (tCons (tCB (rLenQ K) (tCons (tVar 3) tNil)) tNil))) (gName 4) tYes (tTail K) [4]
def scLine : Scope := { kind := .function, names := [(".0", .local), ("line", .cell), ("range", .globalImplicit), ("len", .globalImplicit)], isGenerator := false, isCoroutine := false }
section
variable {P : Program} {w : World} {K : PySem.W.Frag} {mg : Str → Option Value} {base : Heap}
structure TxtL (mg : Str → Option Value) : Prop where
  sum : mg "sum" = none
  range : mg "range" = none
  len : mg "len" = none
  zip : mg "zip" = none
  enum : mg "enumerate" = none
  reversed : mg "reversed" = none
def spFree : Sp := fun vs H Q _ => ∃ (a : Addr) (T : List (List Nat)), vs = [.ref a] ∧ Tb H a T ∧ Small T ∧ ∀ H' p, Same H H' → H p = none → Tb H' p (wf T) → Q (.ref p) H'
abbrev nWF : List Str := ["table", "heads", "tails", "line", "beads", "head", "tail"]
theorem scFree : FnScope nWF ["table"] (defScope sWithFree) := ⟨rfl, rfl, rfl, by decide +kernel, rfl, by decide +kernel, by decide +kernel⟩
set_option maxHeartbeats 4000000 in
theorem ok_free {f : Addr} {fd : FuncData} {k : Nat} (F : Fun K "with_free" "with_free" sWithFree f fd) (T0 : TxtL mg) : FnOk P w K mg base CX0 (k + 1) f fd ["table"] spFree := by
  refine F.ok scFree (fun vs H Q E h => ?_) (fun cdv A outer s H vs Q E hr h => ?_)
  · obtain ⟨a, T, rfl, _⟩ := h
    rfl
  · obtain ⟨a, T, rfl, ⟨xs, ea, ga⟩, hT, q⟩ := h
    have nd := scFree.nd
    have hT1 := hT.1
    have hxl := lg_len ga
    refine ⟨_, pss_cons (ps_set (i := 1) nd rfl (.inl rfl) (pe_op op_cat (pe_lst (pa_cons pe_int pa_nil))
        (pe_lc (own := [("line", 3)]) (g := gName 3) (tt := tYes) (te := tCB (rSum K) (tCons (tVar 3) tNil)) rfl nd (pi_list (pv 0)) (blkOk_by (own := [("line", 3)]) (N := nWF) (sc := defScope sWithFree) (by decide +kernel)) (fun _ _ _ _ _ => pg_name (i := 3) nd rfl (Or.inl rfl)) (fun _ _ _ _ _ => pts_nil) (fun _ _ _ _ _ => pe_callB (show CallR _ (.builtin "sum") (rSum K) from cr_sum rfl) (by rfl) T0.sum (by decide +kernel) (pa_cons (pv 3) pa_nil)))))
      (pss_cons (ps_set (i := 2) nd rfl (.inl rfl) (pe_op op_cat
        (pe_lc (own := [("line", 3)]) (g := gName 3) (tt := tYes) (te := tTails K) rfl nd (pi_list (pv 0)) (blkOk_by (own := [("line", 3)]) (N := nWF) (sc := defScope sWithFree) (by decide +kernel)) (fun _ _ _ _ _ => pg_name (i := 3) nd rfl (Or.inr rfl)) (fun _ _ _ _ _ => pts_nil)
          (fun _ _ _ _ _ => pe_lc (own := [("beads", 4)]) (g := gName 4) (tt := tYes) (te := tTail K) rfl nd (pi_range2 (by rfl) T0.range (pa_cons pe_int (pa_cons (pe_callB (show CallR _ (.builtin "len") (rLenQ K) from call_len_seq) (by rfl) T0.len PySem.boot_len (pa_cons (pv 3) pa_nil)) pa_nil))) (blkOk_by (own := [("beads", 4)]) (N := nWF) (sc := relS scLine (defScope sWithFree)) (by decide +kernel)) (fun _ _ _ _ _ => pg_name (i := 4) nd rfl (Or.inl rfl)) (fun _ _ _ _ _ => pts_nil)
            (fun _ _ _ _ _ => pe_callB (show CallR _ (.builtin "sum") (rSum K) from cr_sum rfl) (by rfl) T0.sum (by decide +kernel) (pa_cons (pe_slice (show SlR _ (rSlL K) from sl_list) (pv 3) (po_some (pv 4)) po_none) pa_nil))))
        (pe_lst (pa_cons (pe_lst pa_nil) pa_nil))))
      (pss_one (ps_ret (pe_lc (own := [("head", 5), ("tail", 6)]) (g := gTup K 2 (gCons (gName 5) (gCons (gName 6) gNil))) (tt := tYes) rfl nd (pi_zip (by rfl) T0.zip (pa_cons (pv 1) (pa_cons (pv 2) pa_nil)))
        (blkOk_by (own := [("head", 5), ("tail", 6)]) (N := nWF) (sc := defScope sWithFree) (by decide +kernel))
        (fun _ _ _ _ _ => pg_tup (by rfl) (pgs_cons (pg_name (i := 5) nd rfl (.inl rfl)) (pgs_cons (pg_name (i := 6) nd rfl (.inl rfl)) pgs_nil))) (fun _ _ _ _ _ => pts_nil) (fun _ _ _ _ _ => pe_op op_cat (pe_lst (pa_cons (pv 5) pa_nil)) (pv 6)))))), ?_⟩
    refine ⟨(by show 1 ≤ sizeLine; decide), fun l1 n1 => ?_⟩
    have t1 := same_upd (o := .lst [.int 0]) n1
    have e1 : upd H l1 (.lst [.int 0]) l1 = some (.lst [.int 0]) := upd_same
    generalize upd H l1 (.lst [.int 0]) = H1 at t1 e1
    refine ⟨.ref a, rfl, a, rfl, ⟨_, SqL.of (t1 _ _ ea)⟩, fun D2 hD2 => ?_⟩
    refine lc_list (K := K) (a := a) (xs := xs) (fun j H3 => Same H1 H3 ∧ H3 D2 = some (.lst (((T.take j).map List.sum).map wv))) ⟨same_upd hD2, upd_same⟩ (fun j H3 _ h => SqL.of ((t1.trans h.1) _ _ ea)) ?_ ?_
    · rintro j x H3 hx ⟨s3, e3⟩
      obtain ⟨p, L, hL, rfl, ep⟩ := lg_get ga hx
      refine ⟨rfl, .ref p, rfl, p, _, rfl, SqL.of (by rw [← ints_of]; exact (t1.trans s3) _ _ ep), ?_⟩
      rw [ints_sum]
      refine ⟨_, e3, ?_, same_new hD2 s3, ?_⟩
      · rw [List.length_map, List.length_map]
        exact fit' (Nat.le_trans (List.length_take_le _ _) (by have := (List.getElem?_eq_some_iff.mp hL).1; omega))
      · rw [upd_same, ← take_map_snoc _ hL, List.map_append]
        rfl
    rintro H2 ⟨s2, e2⟩
    rw [hxl, List.take_length] at e2
    refine ⟨l1, D2, [.int 0], (T.map List.sum).map wv, rfl, rfl, s2 _ _ e1, e2, by rw [List.length_map, List.length_map]; exact fit (by show 1 + T.length ≤ _; omega), fun l3 n3 => ?_⟩
    have c3 : [V.int 0] ++ (T.map List.sum).map wv = (0 :: T.map List.sum).map wv := rfl
    rw [c3]
    have t3 : Same H (upd H2 l3 (.lst ((0 :: T.map List.sum).map wv))) := (t1.trans s2).trans (same_upd n3)
    have e3 : upd H2 l3 (.lst ((0 :: T.map List.sum).map wv)) l3 = some (.lst ((0 :: T.map List.sum).map wv)) := upd_same
    generalize upd H2 l3 (.lst ((0 :: T.map List.sum).map wv)) = H3 at t3 e3
    refine ⟨.ref a, rfl, a, rfl, ⟨_, SqL.of (t3 _ _ ea)⟩, fun D4 hD4 => ?_⟩
    refine lc_list (K := K) (a := a) (xs := xs) (fun j H5 => Gr H3 H5 D4 ((T.take j).map tl)) (gr_nil hD4) (fun j H5 _ h => SqL.of ((t3.trans h.1) _ _ ea)) ?_ ?_
    · rintro j x H5 hx g5
      obtain ⟨p, L, hL, rfl, ep⟩ := lg_get ga hx
      have hl := hT.2 L (List.mem_of_getElem? hL)
      have hj : j < T.length := (List.getElem?_eq_some_iff.mp hL).1
      have ep5 := (t3.trans g5.1) _ _ ep
      obtain ⟨vD, eD, gD⟩ := g5.2
      refine ⟨rfl, .ref p, rfl, p, _, rfl, .inl (SqL.of ep5), 1, _, rfl, ⟨by decide, by decide, by rw [List.length_map]; omega, by rw [List.length_map]; omega⟩, fun D6 hD6 => ?_⟩
      rw [show (((L.map wv).length : Int) - 1).toNat = L.length - 1 by rw [List.length_map]; omega]
      have tk : ∀ i, i < L.length - 1 → ((List.range (L.length - 1)).map fun i => (L.drop (1 + i)).sum)[i]? = some ((L.drop (1 + i)).sum) := fun i hi => by
        rw [List.getElem?_map, List.getElem?_range hi]
        rfl
      refine lc_range (lo := 1) (n := L.length - 1) (fun i H6 => Same H5 H6 ∧ H6 D6 = some (.lst (((tl L).take i).map wv))) ⟨same_upd hD6, upd_same⟩ ?_ ?_
      · rintro i H6 hi ⟨s6, e6⟩
        refine ⟨rfl, .ref p, rfl, .int (1 + (i : Int)), rfl, 1 + (i : Int), rfl, p, _, rfl, SqL.of (s6 _ _ ep5), fun p7 n7 => ?_⟩
        rw [show (1 : Int) + (i : Int) = ((1 + i : Nat) : Int) by omega, cutN_from]
        have s7 := same_upd (o := .lst ((L.drop (1 + i)).map wv)) n7
        have e7 : upd H6 p7 (.lst ((L.drop (1 + i)).map wv)) p7 = some (.lst ((L.drop (1 + i)).map wv)) := upd_same
        generalize upd H6 p7 (.lst ((L.drop (1 + i)).map wv)) = H7 at s7 e7
        refine ⟨p7, _, rfl, SqL.of (by rw [← ints_of]; exact e7), ?_⟩
        rw [ints_sum]
        refine ⟨_, s7 _ _ e6, ?_, same_new hD6 (s6.trans s7), ?_⟩
        · rw [List.length_map]
          exact fit' (Nat.le_trans (List.length_take_le _ _) (by omega))
        · rw [upd_same, List.take_add_one, show (tl L)[i]? = _ from tk i hi, List.map_append]
          rfl
      · rintro H6 ⟨s6, e6⟩
        rw [List.take_of_length_le (by rw [tl_len]; exact Nat.le_refl _)] at e6
        refine ⟨vD, s6 _ _ eD, ?_, ?_⟩
        · rw [lg_len gD, List.length_map]
          exact fit' (Nat.le_trans (List.length_take_le _ _) (by omega))
        · rw [← take_map_snoc _ hL]
          exact gr_add hD4 g5 s6 hD6 e6 eD
    rintro H5 g5
    rw [hxl, List.take_length] at g5
    obtain ⟨s5, vD, eD, gD⟩ := g5
    refine ⟨(by show 0 ≤ sizeLine; decide), fun l6 n6 => ⟨(by show 1 ≤ sizeLine; decide), fun l7 n7 => ?_⟩⟩
    have s6 := same_upd (o := .lst []) n6
    have e6 : upd H5 l6 (.lst []) l6 = some (.lst []) := upd_same
    generalize upd H5 l6 (.lst []) = H6 at s6 e6 n7
    have s7 := same_upd (o := .lst [.ref l6]) n7
    have e7 : upd H6 l7 (.lst [.ref l6]) l7 = some (.lst [.ref l6]) := upd_same
    generalize upd H6 l7 (.lst [.ref l6]) = H7 at s7 e7
    have s57 := s6.trans s7
    have hvl : vD.length = T.length := by rw [lg_len gD, List.length_map]
    refine ⟨D4, l7, vD, [.ref l6], rfl, rfl, s57 _ _ eD, e7, by rw [hvl]; exact fit (by show T.length + 1 ≤ _; omega), fun l8 n8 => ?_⟩
    have g8 : LG H7 l8 (T.map tl ++ [[]]) (vD ++ [.ref l6]) := lg_add (L := []) (ne_of_none (s7 _ _ e6) n8) (s7 _ _ e6) (lg_to n8 (lg_same s57 gD))
    have s8 := same_upd (o := .lst (vD ++ [.ref l6])) n8
    have e8 : upd H7 l8 (.lst (vD ++ [.ref l6])) l8 = some (.lst (vD ++ [.ref l6])) := upd_same
    have g8 := lg_same s8 g8
    generalize upd H7 l8 (.lst (vD ++ [.ref l6])) = H8 at s8 e8 g8
    have s38 : Same H3 H8 := s5.trans (s57.trans s8)
    have e38 := s38 _ _ e3
    have s08 := t3.trans s38
    generalize vD ++ [.ref l6] = ys at e8 g8
    have hyl : ys.length = T.length + 1 := by
      rw [lg_len g8, List.length_append, List.length_map]
      rfl
    refine ⟨.ref l3, rfl, .ref l8, rfl, l3, l8, _, _, rfl, SqL.of e38, SqL.of e8, fun D9 hD9 => ?_⟩
    refine lc_it (walk_zip (K := K) (a := l3) (b := l8) (xs := (0 :: T.map List.sum).map wv) (ys := ys) (n := T.length + 1) (by rw [List.length_map, List.length_cons, List.length_map, hyl, Nat.min_self]))
      (fun i H9 => Gr H8 H9 D9 ((wf T).take i)) (gr_nil hD9) (fun i H9 _ h => ⟨SqL.of (h.1 _ _ e38), SqL.of (h.1 _ _ e8)⟩) ?_ ?_
    · rintro i x H9 H10 hi g9 ⟨t, x1, x2, rfl, nt, rfl, hx1, hx2⟩
      have hx1 : ((0 :: T.map List.sum).map wv)[i]? = some x1 := hx1
      have hx2 : ys[i]? = some x2 := hx2
      rw [List.getElem?_map] at hx1
      obtain ⟨k1, hk1, rfl⟩ := Option.map_eq_some_iff.mp hx1
      obtain ⟨p, L, hL, rfl, ep⟩ := lg_get g8 hx2
      have hw : (wf T)[i]? = some (k1 :: L) := by
        unfold wf
        rw [List.getElem?_zipWith, hk1, hL]
      have hLl : L.length ≤ 40 := by
        rcases List.mem_append.mp (List.mem_of_getElem? hL) with z | z
        · obtain ⟨M, hM, rfl⟩ := List.mem_map.mp z
          rw [tl_len]
          have := hT.2 M hM
          omega
        · rw [List.mem_singleton.mp z]
          exact Nat.zero_le _
      have st := same_upd (o := .tup [wv k1, .ref p]) nt
      obtain ⟨s9, v9, e9, g9'⟩ := id g9
      refine ⟨t, _, rfl, SqT.of upd_same, rfl, _, _, rfl, _, _, rfl, rfl, rfl, wv k1, rfl, (by show 1 ≤ sizeLine; decide), fun o1 n1 => ?_⟩
      have s1 := st.trans (same_upd (o := .lst [wv k1]) n1)
      refine ⟨.ref p, rfl, o1, p, _, L.map wv, rfl, rfl, upd_same, s1 _ _ (s9 _ _ ep), ?_, fun p5 n5 => ?_⟩
      · rw [List.length_map]
        exact fit (by show 1 + L.length ≤ _; omega)
      · have s15 := s1.trans (same_upd (o := .lst ([wv k1] ++ L.map wv)) n5)
        refine ⟨v9, s15 _ _ e9, ?_, ?_⟩
        · rw [lg_len g9']
          exact fit' (Nat.le_trans (List.length_take_le _ _) (by omega))
        · rw [List.take_add_one, hw]
          exact gr_add (L := k1 :: L) hD9 g9 s15 (s1.free n5) upd_same e9
    · rintro H9 g9
      rw [List.take_of_length_le (by rw [wf_len]; exact Nat.le_refl _)] at g9
      exact q H9 D9 (s08.trans g9.1) (s08.free hD9) g9.2
end
end Hop

set_option Elab.async false
set_option linter.all false
set_option maxRecDepth 100000
set_option exponentiation.threshold 200000
namespace Hop
open PySem L2 HopR
open C8 (InsC call_isC)
/-! ### how large a table is -/
theorem sfx_len : ∀ l : List Nat, (HopW.sfx l).length = l.length
  | [] => rfl
  | _ :: l => by
    show (HopW.sfx l).length + 1 = l.length + 1
    rw [sfx_len l]
theorem go_len : ∀ (T : List (List Nat)) (s : Nat), (HopW.go s T).length = T.length + 1
  | [], _ => rfl
  | l :: t, s => by
    show (HopW.go l.sum t).length + 1 = t.length + 1 + 1
    rw [go_len t]
theorem go_line {m : Nat} (hm : 1 ≤ m) : ∀ (T : List (List Nat)) (s : Nat), (∀ L ∈ T, L.length ≤ m) → ∀ L ∈ HopW.go s T, L.length ≤ m
  | [], s, _, L, hL => by
    rw [List.mem_singleton.mp hL]
    exact hm
  | l :: t, s, h, L, hL => by
    rcases List.mem_cons.mp hL with rfl | hL
    · show (HopW.sfx l.tail).length + 1 ≤ m
      have := h l List.mem_cons_self
      rw [sfx_len, List.length_tail]
      omega
    · exact go_line hm t l.sum (fun L hL => h L (List.mem_cons_of_mem _ hL)) L hL
theorem fold_len : ∀ (w : List Bool) (T : List (List Nat)), (w.foldl HopW.stT T).length = T.length + w.count false
  | [], _ => rfl
  | true :: w, T => by
    rw [List.foldl_cons, fold_len w, List.count_cons_of_ne (by decide)]
    show (T.map (0 :: ·)).length + _ = _
    rw [List.length_map]
  | false :: w, T => by
    rw [List.foldl_cons, fold_len w, List.count_cons_self]
    show (HopW.go 0 T).length + _ = _
    rw [go_len]
    omega
theorem fold_line : ∀ (w : List Bool) (T : List (List Nat)) (m : Nat), 1 ≤ m → (∀ L ∈ T, L.length ≤ m) → ∀ L ∈ w.foldl HopW.stT T, L.length ≤ m + w.count true
  | [], _, _, _, h, L, hL => h L hL
  | true :: w, T, m, hm, h, L, hL => by
    rw [List.foldl_cons] at hL
    have := fold_line w (HopW.stT T true) (m + 1) (by omega) (fun M hM => by
      obtain ⟨M', h', rfl⟩ := List.mem_map.mp hM
      show M'.length + 1 ≤ m + 1
      have := h M' h'
      omega) L hL
    rw [List.count_cons_self]
    omega
  | false :: w, T, m, hm, h, L, hL => by
    rw [List.foldl_cons] at hL
    rw [List.count_cons_of_ne (by decide)]
    exact fold_line w (HopW.stT T false) m hm (go_line hm T 0 h) L hL
theorem tbl_len (w : List Bool) : (HopW.tbl w).length = w.count false + 1 := by
  unfold HopW.tbl
  rw [fold_len]
  show 1 + _ = _
  omega
theorem tbl_line {w : List Bool} {L : List Nat} (h : L ∈ HopW.tbl w) : L.length ≤ w.count true + 1 := by
  have := fold_line w [[1]] 1 (by decide) (fun L hL => by rw [List.mem_singleton.mp hL]; decide) L h
  omega
theorem tbl_small {w : List Bool} (h : w.length ≤ 30) : Small (HopW.tbl w) := by
  have h1 := List.count_le_length (a := false) (l := w)
  have h2 := List.count_le_length (a := true) (l := w)
  refine ⟨by rw [tbl_len]; omega, fun L hL => ?_⟩
  have := tbl_line hL
  omega
/-! ### the ends of a table -/
def eL (f b : Nat) : List Nat → List (Nat × Nat × Nat)
  | [] => []
  | m :: l => (if 0 < m then [(f, b, m)] else []) ++ eL f (b + 1) l
def eT (f : Nat) : List (List Nat) → List (Nat × Nat × Nat)
  | [] => []
  | l :: t => eL f 0 l ++ eT (f + 1) t
theorem eL_app (f : Nat) : ∀ (l r : List Nat) (b : Nat), eL f b (l ++ r) = eL f b l ++ eL f (b + l.length) r
  | [], r, b => rfl
  | m :: l, r, b => by
    show (if 0 < m then [(f, b, m)] else []) ++ eL f (b + 1) (l ++ r) = _
    rw [eL_app f l r (b + 1), ← List.append_assoc]
    show _ = _ ++ eL f (b + (l.length + 1)) r
    rw [show b + 1 + l.length = b + (l.length + 1) by omega]
    rfl
theorem eT_app : ∀ (l r : List (List Nat)) (f : Nat), eT f (l ++ r) = eT f l ++ eT (f + l.length) r
  | [], r, f => rfl
  | m :: l, r, f => by
    show eL f 0 m ++ eT (f + 1) (l ++ r) = _
    rw [eT_app l r (f + 1), ← List.append_assoc]
    show _ = _ ++ eT (f + (l.length + 1)) r
    rw [show f + 1 + l.length = f + (l.length + 1) by omega]
    rfl
theorem eL_take {f : Nat} {l : List Nat} {j m : Nat} (h : l[j]? = some m) : eL f 0 (l.take (j + 1)) = eL f 0 (l.take j) ++ (if 0 < m then [(f, j, m)] else []) := by
  have hj := (List.getElem?_eq_some_iff.mp h).1
  rw [List.take_add_one, h, eL_app, List.length_take, Nat.min_eq_left (by omega), Nat.zero_add]
  show _ ++ ((if 0 < m then [(f, j, m)] else []) ++ []) = _
  rw [List.append_nil]
theorem eT_take {T : List (List Nat)} {i : Nat} {l : List Nat} (h : T[i]? = some l) : eT 0 (T.take (i + 1)) = eT 0 (T.take i) ++ eL i 0 l := by
  have hj := (List.getElem?_eq_some_iff.mp h).1
  rw [List.take_add_one, h, eT_app, List.length_take, Nat.min_eq_left (by omega), Nat.zero_add]
  show _ ++ (eL i 0 l ++ []) = _
  rw [List.append_nil]
def f3 (e : Nat × Nat × Nat) : List V := [wv e.1, wv e.2.1, wv e.2.2]
/-- a walk, whatever is done at each turn -/
theorem out_it {J : It} {n : Nat} {G : Hp → Prop} {Y : Nat → Hp → V → Hp → Prop} (w : Walk J n G Y) {B : (Hp → Prop) → V → Hp → Prop} {H1 : Hp} {Qd : Hp → Prop} (Pv : Nat → Hp → Prop) (h0 : Pv 0 H1) (hG : ∀ i H, i ≤ n → Pv i H → G H)
    (hs : ∀ i x H H', i < n → Pv i H → Y i H x H' → B (Pv (i + 1)) x H') (hd : ∀ H, Pv n H → Qd H) :
    ∃ W : Nat → Nat → Hp → Prop, (∃ m, W 0 m H1) ∧ ∀ i m H, W i m H → (J.stop i H ∧ Qd H) ∨ (J.go i H ∧ ∃ Nx : Hp → Prop, (∀ H', Nx H' → ∃ m', m' < m ∧ W (i + 1) m' H') ∧ ∀ x H', J.yld i H x H' → B Nx x H') := by
  refine ⟨fun i m H => i + m = n ∧ Pv i H, ⟨n, Nat.zero_add n, h0⟩, fun i m H h => ?_⟩
  obtain ⟨e, p⟩ := h
  have hg := hG i H (by omega) p
  cases m with
  | zero =>
    have e : i = n := e
    subst e
    exact .inl ⟨w.stops H hg, hd H p⟩
  | succ m =>
    exact .inr ⟨w.goes i H (by omega) hg, Pv (i + 1), fun H' p' => ⟨m, Nat.lt_succ_self m, by omega, p'⟩, fun x H' y => hs i x H H' (by omega) p (w.yields i H x H' (by omega) hg y)⟩
/-- a new list of new tuples -/
def GrT (H0 H : Hp) (D : Addr) (es : List (Nat × Nat × Nat)) (n : Nat) : Prop := Same H0 H ∧ ∃ acc, H D = some (.lst acc) ∧ TupG H f3 es acc ∧ acc.length ≤ n
section
variable {P : Program} {w : World} {K : PySem.W.Frag} {mg : Str → Option Value} {base : Heap} {d : Addr} {es : Array DictEntry} {n : Nat}
/-! ### is_word, need_word of a row -/
theorem scIsWord : FnScope ["thing"] ["thing"] (defScope sIsWord) := ⟨rfl, rfl, rfl, by decide +kernel, rfl, by decide +kernel, by decide +kernel⟩
theorem ok_isword {f f1 : Addr} {fd fd1 : FuncData} {k : Nat} (F : Fun K "is_word" "is_word" sIsWord f fd) (N1 : Fn K mg "is_row" sIsRow ["thing"] f1 fd1) (T : TxtR K w mg d es n) : FnOk P w K mg base CX0 (k + 2) f fd ["thing"] spIsRow := by
  have G1 : FnOk P w K mg base CX0 (k + 1) f1 fd1 ["thing"] spIsRow := ok_isrow N1.F T
  refine F.ok scIsWord (fun vs H Q E h => ?_) (fun cdv A outer s H vs Q E hr h => ?_)
  · obtain ⟨bs, rfl, _⟩ := h
    rfl
  · obtain ⟨bs, rfl, hR, q⟩ := h
    refine ⟨_, pss_one (ps_ret (pe_or (pe_call G1 hr (by rfl) N1.g N1.F.kp N1.b .nil pass0 (pa_cons (pv 0) pa_nil))
      (pe_one (pe_and (pe_callB call_isi (by rfl) T.isi (by decide +kernel) (pa_cons (pv 0) (pa_cons (pe_bltn (v := .ty "str") (by rfl) T.str (by decide +kernel) rfl) pa_nil))) (pe_one (pe_cmpR op_eq (pv 0) pe_str (nomark _))))))), ?_⟩
    exact ⟨.str (tx bs), rfl, bs, rfl, hR, fun H1 s1 => ⟨true, rfl, q H1 s1⟩⟩
theorem scNeedW : FnScope ["thing"] ["thing"] (defScope sNeedWord) := ⟨rfl, rfl, rfl, by decide +kernel, rfl, by decide +kernel, by decide +kernel⟩
theorem ok_needw {f f1 f2 : Addr} {fd fd1 fd2 : FuncData} {k : Nat} (F : Fun K "need_word" "need_word" sNeedWord f fd) (N1 : Fn K mg "is_row" sIsRow ["thing"] f1 fd1) (N2 : Fn K mg "is_word" sIsWord ["thing"] f2 fd2) (T : TxtR K w mg d es n) : FnOk P w K mg base CX0 (k + 3) f fd ["thing"] spNeed := by
  have G1 : FnOk P w K mg base CX0 (k + 2) f2 fd2 ["thing"] spIsRow := ok_isword N2.F N1 T
  refine F.ok scNeedW (fun vs H Q E h => ?_) (fun cdv A outer s H vs Q E hr h => ?_)
  · obtain ⟨bs, rfl, _⟩ := h
    rfl
  · obtain ⟨bs, rfl, hR, q⟩ := h
    refine ⟨_, pss_one (ps_if (pt_not (pt_val (pe_call G1 hr (by rfl) N2.g N2.F.kp N2.b .nil pass0 (pa_cons (pv 0) pa_nil)))) (pss_one ps_never) pss_nil), ?_⟩
    exact ⟨.str (tx bs), rfl, bs, rfl, hR, fun H1 s1 => ⟨true, rfl, iteF (q H1 s1)⟩⟩
/-! ### ends_of -/
structure EnDefs (K : PySem.W.Frag) (mg : Str → Option Value) : Prop where
  R : ∃ r s, Fn K mg "is_row" sIsRow ["thing"] r s
  W : ∃ r s, Fn K mg "is_word" sIsWord ["thing"] r s
  N : ∃ r s, Fn K mg "need_word" sNeedWord ["thing"] r s
  B : ∃ r s, Fn K mg "with_bead" sWithBead ["table"] r s
  F : ∃ r s, Fn K mg "with_free" sWithFree ["table"] r s
def spEndsOf : Sp := fun vs H Q _ => ∃ bs, vs = [.str (tx bs)] ∧ Row bs ∧ ∀ H' p acc, Same H H' → H p = none → H' p = some (.lst acc) → TupG H' f3 (eT 0 (HopW.tbl bs)) acc → acc.length ≤ 1600 → Q (.ref p) H'
abbrev nEO : List Str := ["word", "table", "sign", "frees", "line", "beads", "many"]
theorem scEndsOf : FnScope nEO ["word"] (defScope sEndsOf) := ⟨rfl, rfl, rfl, by decide +kernel, rfl, by decide +kernel, by decide +kernel⟩
def rGtI : R2 := rI0 fun i j => .bl (decide (i > j))
theorem is_o (b : Bool) : decide (V.str (tx [b]) = V.str "o") = b := by
  rw [tx_o]
  cases b with
  | true => exact decide_eq_true rfl
  | false => exact decide_eq_false fun q => absurd (tx_inj (V.str.inj q)) (by decide)
theorem tbl_step {bs : List Bool} {i : Nat} {b : Bool} (h : bs[i]? = some b) : HopW.tbl (bs.take (i + 1)) = HopW.stT (HopW.tbl (bs.take i)) b := by
  unfold HopW.tbl
  rw [List.take_add_one, h, List.foldl_append]
  rfl
set_option maxHeartbeats 4000000 in
theorem ok_endsOf {f : Addr} {fd : FuncData} {k : Nat} (F : Fun K "ends_of" "ends_of" sEndsOf f fd) (N : EnDefs K mg) (T : TxtR K w mg d es n) (T0 : TxtL mg) : FnOk P w K mg base CX0 (k + 4) f fd ["word"] spEndsOf := by
  obtain ⟨f1, g1, N1⟩ := N.R
  obtain ⟨f2, g2, N2⟩ := N.W
  obtain ⟨f3', g3, N3⟩ := N.N
  obtain ⟨f4, g4, N4⟩ := N.B
  obtain ⟨f5, g5, N5⟩ := N.F
  have G3 : FnOk P w K mg base CX0 (k + 3) f3' g3 ["thing"] spNeed := ok_needw N3.F N1 N2 T
  have G4 : FnOk P w K mg base CX0 (k + 3) f4 g4 ["table"] spBead := ok_bead N4.F
  have G5 : FnOk P w K mg base CX0 (k + 3) f5 g5 ["table"] spFree := ok_free N5.F T0
  refine F.ok scEndsOf (fun vs H Q E h => ?_) (fun cdv A outer s H vs Q E hr h => ?_)
  · obtain ⟨bs, rfl, _⟩ := h
    rfl
  · obtain ⟨bs, rfl, hR, q⟩ := h
    have nd := scEndsOf.nd
    obtain ⟨tb, gb⟩ := T.bead
    have h30 := hR.2
    refine ⟨_, pss_cons (ps_expr (pe_call G3 hr (by rfl) N3.g N3.F.kp N3.b .nil pass0 (pa_cons (pv 0) pa_nil)))
      (pss_cons (ps_set (i := 1) nd rfl (.inl rfl) (pe_lst (pa_cons (pe_lst (pa_cons pe_int pa_nil)) pa_nil)))
      (pss_cons (ps_for PassesOwn.never rfl (pi_str (pv 0)) (pg_name (i := 2) nd rfl (.inl rfl))
        (pss_one (ps_set (i := 1) nd rfl (.inl rfl) (pe_ifExp (pt_cmpR op_eq (pv 2) (pe_glob (v := .str "o") (by rfl) gb ⟨_, rfl⟩) (nomark _)) (pe_call G4 hr (by rfl) N4.g N4.F.kp N4.b .nil pass0 (pa_cons (pv 1) pa_nil)) (pe_call G5 hr (by rfl) N5.g N5.F.kp N5.b .nil pass0 (pa_cons (pv 1) pa_nil))))))
      (pss_one (ps_ret (pe_lc2 (own := [("frees", 3), ("line", 4), ("beads", 5), ("many", 6)]) (vs1 := [5, 6]) (g := gTup K 2 (gCons (gName 3) (gCons (gName 4) gNil))) (tt := tYes) (wi1 := iEnum K (tCons (tVar 4) tNil)) (g1 := gTup K 2 (gCons (gName 5) (gCons (gName 6) gNil))) (tt1 := tTest (tOp rGtI (tVar 6) (tC (.int 0)))) rfl nd
        (pi_enum (by rfl) T0.enum (pa_cons (pv 1) pa_nil)) (blkOk_by (own := [("frees", 3), ("line", 4), ("beads", 5), ("many", 6)]) (N := nEO) (sc := defScope sEndsOf) (by decide +kernel)) (by decide)
        (fun _ _ _ _ _ => pg_tup (by rfl) (pgs_cons (pg_name (i := 3) nd rfl (.inl rfl)) (pgs_cons (pg_name (i := 4) nd rfl (.inl rfl)) pgs_nil))) (fun _ _ _ _ _ => pts_nil)
        (fun _ _ _ _ _ => pi_enum (by rfl) T0.enum (pa_cons (pv 4) pa_nil))
        (fun _ _ _ _ _ => pg_tup (by rfl) (pgs_cons (pg_name (i := 5) nd rfl (.inl rfl)) (pgs_cons (pg_name (i := 6) nd rfl (.inl rfl)) pgs_nil)))
        (fun _ _ _ _ _ => pts_one (pt_cmpR (show OpR _ (compareOp .Gt) rGtI from op_gt) (pv 6) pe_int (nomark _)))
        (fun _ _ _ _ _ => pe_tup (pa_cons (pv 3) (pa_cons (pv 5) (pa_cons (pv 6) pa_nil))))))))), ?_⟩
    refine ⟨.str (tx bs), rfl, bs, rfl, hR, fun H1 s1 => ?_⟩
    refine ⟨(by show 1 ≤ sizeLine; decide), fun l2 n2 => ⟨(by show 1 ≤ sizeLine; decide), fun l3 n3 => ?_⟩⟩
    have s2 := same_upd (o := .lst [.int 1]) n2
    have e2 : upd H1 l2 (.lst [.int 1]) l2 = some (.lst [.int 1]) := upd_same
    generalize upd H1 l2 (.lst [.int 1]) = H2 at s2 e2 n3
    have s3 := same_upd (o := .lst [.ref l2]) n3
    have t3 : Tb (upd H2 l3 (.lst [.ref l2])) l3 [[1]] := ⟨_, upd_same, l2, [], rfl, ne_of_none e2 n3, s3 _ _ e2, rfl⟩
    generalize upd H2 l3 (.lst [.ref l2]) = H3 at s3 t3
    have s03 := s1.trans (s2.trans s3)
    refine ⟨.str (tx bs), rfl, tx bs, rfl, ?_⟩
    refine for_tx (bs := bs) (fun i σ H4 => ∃ (y2 : Option V) (p : Addr), σ = [some (.str (tx bs)), some (.ref p), y2, none, none, none, none] ∧ Same H H4 ∧ Tb H4 p (HopW.tbl (bs.take i))) ⟨_, l3, rfl, s03, t3⟩ ?_ ?_
    · rintro i b σ H4 hb ⟨y2, p, rfl, s4, t4⟩
      have hsm : Small (HopW.tbl (bs.take i)) := tbl_small (by rw [List.length_take]; omega)
      refine ⟨.str (tx [b]), rfl, rfl, _, rfl, ?_⟩
      rw [is_o]
      have hst := tbl_step hb
      cases b with
      | true =>
        refine iteT ⟨.ref p, rfl, p, _, rfl, t4, hsm, fun H5 p5 s5 n5 t5 => ⟨_, p5, rfl, s4.trans s5, ?_⟩⟩
        rw [hst]
        exact t5
      | false =>
        refine iteF ⟨.ref p, rfl, p, _, rfl, t4, hsm, fun H5 p5 s5 n5 t5 => ⟨_, p5, rfl, s4.trans s5, ?_⟩⟩
        rw [hst]
        rw [wf_eq] at t5
        exact t5
    · rintro σ H4 ⟨y2, p, rfl, s4, t4⟩
      rw [List.take_length] at t4
      have hsm : Small (HopW.tbl bs) := tbl_small h30
      generalize HopW.tbl bs = U at t4 hsm q
      obtain ⟨xs, ep, gp⟩ := t4
      have hU := hsm.1
      refine ⟨.ref p, rfl, p, _, rfl, SqL.of ep, fun D hD => ?_⟩
      refine out_it (walk_enum (K := K) (a := p) (xs := xs)) (fun i H5 => GrT H4 H5 D (eT 0 (U.take i)) (40 * i)) ⟨same_upd hD, [], upd_same, rfl, Nat.le_refl _⟩ (fun i H5 _ h => SqL.of (h.1 _ _ ep)) ?_ ?_
      · rintro i x H5 H6 hi ⟨s5, acc, eD, gD, hl⟩ ⟨t, x1, x2, rfl, nt, rfl, hx1, hx2⟩
        have hx1 : some (V.int (i : Nat)) = some x1 := hx1
        obtain rfl := Option.some.inj hx1
        have hx2 : xs[i]? = some x2 := hx2
        obtain ⟨pl, L, hL, rfl, el⟩ := lg_get gp hx2
        have hLl := hsm.2 L (List.mem_of_getElem? hL)
        have hi2 : i < U.length := (List.getElem?_eq_some_iff.mp hL).1
        have st := same_upd (o := .tup [.int (i : Nat), .ref pl]) nt
        have et : upd H5 t (.tup [.int (i : Nat), .ref pl]) t = some (.tup [.int (i : Nat), .ref pl]) := upd_same
        generalize upd H5 t (.tup [.int (i : Nat), .ref pl]) = H6 at st et
        have el6 := (s5.trans st) _ _ el
        refine ⟨t, _, rfl, SqT.of et, rfl, _, _, rfl, _, _, rfl, rfl, rfl, ?_⟩
        refine ⟨.ref pl, rfl, pl, _, rfl, SqL.of el6, ?_⟩
        refine out_it (walk_enum (K := K) (a := pl) (xs := L.map wv)) (fun j H7 => GrT H4 H7 D (eT 0 (U.take i) ++ eL i 0 (L.take j)) (40 * i + j)) ⟨s5.trans st, acc, st _ _ eD, by
          show TupG H6 f3 (eT 0 (U.take i) ++ []) acc
          rw [List.append_nil]
          exact tupG_same st gD, hl⟩ (fun j H7 _ h => SqL.of (h.1 _ _ el)) ?_ ?_
        · rintro j x H7 H8 hj ⟨s7, acc7, eD7, gD7, hl7⟩ ⟨t', x1, x2, rfl, nt', rfl, hx1, hx2⟩
          have hx1 : some (V.int (j : Nat)) = some x1 := hx1
          obtain rfl := Option.some.inj hx1
          have hx2 : (L.map wv)[j]? = some x2 := hx2
          rw [List.getElem?_map] at hx2
          obtain ⟨m, hm, rfl⟩ := Option.map_eq_some_iff.mp hx2
          have hj2 : j < L.length := (List.getElem?_eq_some_iff.mp hm).1
          have st' := same_upd (o := .tup [.int (j : Nat), wv m]) nt'
          have et' : upd H7 t' (.tup [.int (j : Nat), wv m]) t' = some (.tup [.int (j : Nat), wv m]) := upd_same
          generalize upd H7 t' (.tup [.int (j : Nat), wv m]) = H8 at st' et'
          refine ⟨t', _, rfl, SqT.of et', rfl, _, _, rfl, _, _, rfl, rfl, rfl, ?_⟩
          refine ⟨wv m, rfl, _, _, rfl, rfl, _, rfl, ?_⟩
          have hE := eL_take (f := i) hm
          by_cases hm0 : 0 < m
          · rw [if_pos hm0] at hE
            rw [decide_eq_true (show (m : Int) > 0 by omega)]
            refine iteT ⟨.int (i : Nat), rfl, .int (j : Nat), rfl, wv m, rfl, (by show 3 ≤ sizeLine; decide), fun p9 n9 => ?_⟩
            have s9 := st'.trans (same_upd (o := .tup [.int (i : Nat), .int (j : Nat), wv m]) n9)
            have e9 : upd H8 p9 (.tup [.int (i : Nat), .int (j : Nat), wv m]) p9 = some (.tup (f3 (i, j, m))) := upd_same
            generalize upd H8 p9 (.tup [.int (i : Nat), .int (j : Nat), wv m]) = H9 at s9 e9
            refine ⟨acc7, s9 _ _ eD7, fit' (by omega), same_new hD (s7.trans s9), _, upd_same, ?_, ?_⟩
            · rw [hE, ← List.append_assoc]
              exact tupG_upd (s9 _ _ eD7) (tupG_add e9 (tupG_same s9 gD7))
            · rw [List.length_append]
              show acc7.length + 1 ≤ _
              omega
          · rw [if_neg hm0, List.append_nil] at hE
            rw [decide_eq_false (show ¬ (m : Int) > 0 by omega)]
            refine iteF ⟨s7.trans st', acc7, st' _ _ eD7, ?_, by omega⟩
            rw [hE]
            exact tupG_same st' gD7
        · rintro H7 ⟨s7, acc7, eD7, gD7, hl7⟩
          rw [List.length_map] at hl7 gD7
          rw [List.take_length] at gD7
          refine ⟨s7, acc7, eD7, ?_, by omega⟩
          rw [eT_take hL]
          exact gD7
      · rintro H5 ⟨s5, acc, eD, gD, hl⟩
        rw [lg_len gp] at gD hl
        rw [List.take_length] at gD
        exact q H5 D acc (s4.trans s5) (s4.free hD) eD gD (by omega)
end
end Hop

set_option Elab.async false
set_option linter.all false
set_option maxRecDepth 100000
set_option exponentiation.threshold 200000
namespace Hop
open PySem L2 HopR
open C8 (InsC call_isC)
theorem count_tx (bs : List Bool) (b : Bool) : PySem.Txt.count (tx bs) (tx [b]) = ((bs.count b : Nat) : Int) := by
  have e1 : tx [b] = ⟨#[cd b]⟩ := by cases b <;> decide +kernel
  have e : PySem.Txt.count (tx bs) ⟨#[cd b]⟩ = PyProof.Rows.cnt (cd b) (tx bs).cps.toList := PyProof.Rows.count_is (tx bs) (cd b)
  rw [e1, e, tx_list]
  clear e e1
  induction bs with
  | nil => rfl
  | cons c r ih =>
    rw [List.map_cons, PyProof.Rows.cnt_cons, ih]
    by_cases h : c = b
    · subst h
      rw [List.count_cons_self, if_pos rfl]
      omega
    · rw [List.count_cons_of_ne h, if_neg (by cases b <;> cases c <;> first | (exact absurd rfl h) | decide)]
      omega
/-! ### how large the numbers of a table are -/
theorem sfx_sum : ∀ l : List Nat, (HopW.sfx l).sum ≤ l.length * l.sum
  | [] => Nat.le_refl _
  | m :: l => by
    show ((m + l.sum) :: HopW.sfx l).sum ≤ (l.length + 1) * (m :: l).sum
    rw [List.sum_cons, List.sum_cons]
    have h1 := sfx_sum l
    have h2 : l.length * l.sum ≤ l.length * (m + l.sum) := Nat.mul_le_mul_left _ (Nat.le_add_left _ _)
    rw [Nat.add_mul, Nat.one_mul]
    omega
theorem go_sum {M : Nat} : ∀ (T : List (List Nat)) (s : Nat), s ≤ M → (∀ L ∈ T, L.length ≤ 40 ∧ L.sum ≤ M) → ∀ L ∈ HopW.go s T, L.sum ≤ 64 * M
  | [], s, hs, _, L, hL => by
    rw [List.mem_singleton.mp hL]
    show s + 0 ≤ _
    omega
  | l :: t, s, hs, h, L, hL => by
    have hl := h l List.mem_cons_self
    rcases List.mem_cons.mp hL with rfl | hL
    · rw [List.sum_cons]
      have h1 := sfx_sum l.tail
      have h2 : l.tail.sum ≤ l.sum := by
        cases l with
        | nil => exact Nat.le_refl _
        | cons m r =>
          rw [List.tail_cons, List.sum_cons]
          omega
      have h3 : l.tail.length * l.tail.sum ≤ 40 * M := Nat.mul_le_mul (by rw [List.length_tail]; omega) (by omega)
      omega
    · exact go_sum t l.sum hl.2 (fun L hL => h L (List.mem_cons_of_mem _ hL)) L hL
theorem tbl_sum {bs : List Bool} (h : bs.length ≤ 30) : ∀ i, i ≤ bs.length → ∀ L ∈ HopW.tbl (bs.take i), L.sum ≤ 64 ^ i
  | 0, _, L, hL => by
    rw [List.take_zero] at hL
    rw [List.mem_singleton.mp hL]
    decide
  | i + 1, hi, L, hL => by
    have ih := tbl_sum h i (by omega)
    rw [tbl_step (List.getElem?_eq_getElem (show i < bs.length by omega))] at hL
    have hs := tbl_small (w := bs.take i) (by rw [List.length_take]; omega)
    have hp : 64 ^ (i + 1) = 64 * 64 ^ i := by rw [Nat.pow_succ, Nat.mul_comm]
    rw [hp]
    cases hb : bs[i] with
    | true =>
      rw [hb] at hL
      obtain ⟨M, hM, rfl⟩ := List.mem_map.mp hL
      have := ih M hM
      rw [List.sum_cons]
      omega
    | false =>
      rw [hb] at hL
      exact go_sum _ 0 (Nat.zero_le _) (fun L hL => ⟨hs.2 L hL, ih L hL⟩) L hL
theorem mem_sum : ∀ {l : List Nat} {m : Nat}, m ∈ l → m ≤ l.sum
  | a :: l, m, h => by
    rw [List.sum_cons]
    rcases List.mem_cons.mp h with rfl | h
    · omega
    · have := mem_sum h
      omega
theorem eL_mem {f : Nat} : ∀ {l : List Nat} {b : Nat} {e : Nat × Nat × Nat}, e ∈ eL f b l → e.1 = f ∧ e.2.1 < b + l.length ∧ e.2.2 ∈ l
  | [], _, _, h => nomatch h
  | m :: l, b, e, h => by
    rcases List.mem_append.mp h with h | h
    · by_cases hm : 0 < m
      · rw [if_pos hm] at h
        rw [List.mem_singleton.mp h]
        exact ⟨rfl, by show b < b + (l.length + 1); omega, List.mem_cons_self⟩
      · rw [if_neg hm] at h
        exact nomatch h
    · obtain ⟨h1, h2, h3⟩ := eL_mem h
      exact ⟨h1, by show e.2.1 < b + (l.length + 1); omega, List.mem_cons_of_mem _ h3⟩
theorem eT_mem : ∀ {T : List (List Nat)} {f : Nat} {e : Nat × Nat × Nat}, e ∈ eT f T → e.1 < f + T.length ∧ ∃ L ∈ T, e.2.1 < L.length ∧ e.2.2 ∈ L
  | [], _, _, h => nomatch h
  | l :: t, f, e, h => by
    rcases List.mem_append.mp h with h | h
    · obtain ⟨h1, h2, h3⟩ := eL_mem h
      exact ⟨by show e.1 < f + (t.length + 1); omega, l, List.mem_cons_self, by omega, h3⟩
    · obtain ⟨h1, L, h2, h3⟩ := eT_mem h
      exact ⟨by show e.1 < f + (t.length + 1); omega, L, List.mem_cons_of_mem _ h2, h3⟩
/-- an end of a row -/
structure EndOf (bs : List Bool) (e : Nat × Nat × Nat) : Prop where
  f : e.1 ≤ bs.count false
  b : e.2.1 ≤ bs.count true
  m : e.2.2 < 2 ^ 200
theorem end_of {bs : List Bool} (h : bs.length ≤ 30) {e : Nat × Nat × Nat} (he : e ∈ eT 0 (HopW.tbl bs)) : EndOf bs e := by
  obtain ⟨h1, L, hL, h2, h3⟩ := eT_mem he
  have hs := tbl_sum h bs.length (Nat.le_refl _) L (by rw [List.take_length]; exact hL)
  have hl := tbl_line hL
  rw [tbl_len] at h1
  refine ⟨by omega, by omega, Nat.lt_of_le_of_lt (Nat.le_trans (mem_sum h3) hs) ?_⟩
  refine Nat.lt_of_le_of_lt (Nat.pow_le_pow_right (n := 64) (j := 30) (by decide) h) (by decide)
/-! ### the sum that is made -/
def tI (q r : Rat) (F B : Nat) (e : Nat × Nat × Nat) : Int := (e.2.2 : Int) * ((q.den : Int) ^ e.1 * q.num ^ (F - e.1)) * ((r.den : Int) ^ e.2.1 * r.num ^ (B - e.2.1))
def sI (q r : Rat) (F B : Nat) : List (Nat × Nat × Nat) → Int
  | [] => 0
  | e :: l => tI q r F B e + sI q r F B l
def rs (x y : Rat) : List (Nat × Nat × Nat) → Rat
  | [] => 0
  | e :: l => (e.2.2 : Rat) * x ^ e.1 * y ^ e.2.1 + rs x y l
theorem sI_app (q r : Rat) (F B : Nat) : ∀ l k : List (Nat × Nat × Nat), sI q r F B (l ++ k) = sI q r F B l + sI q r F B k
  | [], k => by show _ = 0 + _; rw [Int.zero_add]; rfl
  | e :: l, k => by
    show tI q r F B e + sI q r F B (l ++ k) = tI q r F B e + sI q r F B l + _
    rw [sI_app q r F B l k, Int.add_assoc]
theorem rs_app (x y : Rat) : ∀ l k : List (Nat × Nat × Nat), rs x y (l ++ k) = rs x y l + rs x y k
  | [], k => by show rs x y k = 0 + _; rw [Rat.zero_add]
  | e :: l, k => by
    show _ + rs x y (l ++ k) = _ + rs x y l + _
    rw [rs_app x y l k, Rat.add_assoc]
theorem rs_eL (x y : Rat) (f : Nat) : ∀ (l : List Nat) (b : Nat), rs x y (eL f b l) = x ^ f * HopW.lp (fun j => y ^ (b + j)) l
  | [], b => by show (0 : Rat) = x ^ f * 0; grind
  | m :: l, b => by
    show rs x y ((if 0 < m then [(f, b, m)] else []) ++ eL f (b + 1) l) = x ^ f * ((m : Rat) * y ^ (b + 0) + HopW.lp (fun j => y ^ (b + (j + 1))) l)
    rw [rs_app, rs_eL x y f l (b + 1), show (fun j => y ^ (b + 1 + j)) = fun j => y ^ (b + (j + 1)) from funext fun j => by rw [show b + 1 + j = b + (j + 1) by omega], Nat.add_zero]
    by_cases hm : 0 < m
    · rw [if_pos hm]
      show (m : Rat) * x ^ f * y ^ b + 0 + _ = _
      grind
    · rw [if_neg hm, show m = 0 by omega]
      show (0 : Rat) + _ = x ^ f * (((0 : Nat) : Rat) * y ^ b + _)
      grind
theorem rs_eT (x y : Rat) : ∀ (T : List (List Nat)) (f : Nat), rs x y (eT f T) = x ^ f * HopW.tp x (fun j => y ^ j) T
  | [], f => by show (0 : Rat) = x ^ f * 0; grind
  | l :: t, f => by
    show rs x y (eL f 0 l ++ eT (f + 1) t) = x ^ f * (HopW.lp (fun j => y ^ j) l + x * HopW.tp x (fun j => y ^ j) t)
    rw [rs_app, rs_eL, rs_eT x y t (f + 1), show (fun j => y ^ (0 + j)) = fun j => y ^ j from funext fun j => by rw [Nat.zero_add], Rat.pow_succ]
    grind
theorem rmul_pow (x p : Rat) : ∀ n : Nat, (x * p) ^ n = x ^ n * p ^ n
  | 0 => by rw [Rat.pow_zero, Rat.pow_zero, Rat.pow_zero, Rat.mul_one]
  | n + 1 => by
    rw [Rat.pow_succ, Rat.pow_succ, Rat.pow_succ, rmul_pow x p n]
    grind
theorem rpow_add (x : Rat) (a b : Nat) : x ^ (a + b) = x ^ a * x ^ b := by grind
theorem share_is {x p d : Rat} (h : x * p = d) {f F : Nat} (hf : f ≤ F) : d ^ f * p ^ (F - f) = x ^ f * p ^ F := by
  rw [← h, rmul_pow, Rat.mul_assoc, ← rpow_add, show f + (F - f) = F by omega]
theorem inv_num {q : Rat} (h : 0 < q) : q⁻¹ * ((q.num : Int) : Rat) = ((q.den : Nat) : Rat) := by
  have hn : ((q.num : Int) : Rat) ≠ 0 := fun e => ne_above h (Rat.num_eq_zero.mp (Rat.intCast_eq_zero_iff.mp e))
  have hd : ((q.den : Nat) : Rat) ≠ 0 := fun e => q.den_nz (by exact_mod_cast e)
  have e : q = ((q.num : Int) : Rat) / ((q.den : Nat) : Rat) := by
    conv => lhs; rw [← Rat.num_divInt_den q, Rat.divInt_eq_div]
    rfl
  have e2 : q * ((q.den : Nat) : Rat) = ((q.num : Int) : Rat) := by
    conv => lhs; lhs; rw [e]
    exact Rat.div_mul_cancel hd
  rw [← e2, ← Rat.mul_assoc, Rat.inv_mul_cancel q (ne_above h), Rat.one_mul]
theorem tI_rat {q r : Rat} (hq : 0 < q) (hr : 0 < r) {F B : Nat} {e : Nat × Nat × Nat} (h1 : e.1 ≤ F) (h2 : e.2.1 ≤ B) :
    ((tI q r F B e : Int) : Rat) = ((q.num : Int) : Rat) ^ F * ((r.num : Int) : Rat) ^ B * ((e.2.2 : Rat) * q⁻¹ ^ e.1 * r⁻¹ ^ e.2.1) := by
  unfold tI
  rw [Rat.intCast_mul, Rat.intCast_mul, Rat.intCast_mul, Rat.intCast_mul, Rat.intCast_pow, Rat.intCast_pow, Rat.intCast_pow, Rat.intCast_pow, Rat.intCast_natCast, Rat.intCast_natCast, Rat.intCast_natCast, share_is (inv_num hq) h1, share_is (inv_num hr) h2]
  grind
theorem sI_rat {q r : Rat} (hq : 0 < q) (hr : 0 < r) {F B : Nat} : ∀ {l : List (Nat × Nat × Nat)}, (∀ e ∈ l, e.1 ≤ F ∧ e.2.1 ≤ B) → ((sI q r F B l : Int) : Rat) = ((q.num : Int) : Rat) ^ F * ((r.num : Int) : Rat) ^ B * rs q⁻¹ r⁻¹ l
  | [], _ => by show ((0 : Int) : Rat) = _ * 0; grind
  | e :: l, h => by
    have he := h e List.mem_cons_self
    show ((tI q r F B e + sI q r F B l : Int) : Rat) = _ * (_ + rs q⁻¹ r⁻¹ l)
    rw [Rat.intCast_add, tI_rat hq hr he.1 he.2, sI_rat hq hr (fun e he => h e (List.mem_cons_of_mem _ he))]
    grind
theorem num_ne {q : Rat} (h : 0 < q) : q.num ≠ 0 := fun e => ne_above h (Rat.num_eq_zero.mp e)
theorem weight_is {q r : Rat} (hq : 0 < q) (hr : 0 < r) {bs : List Bool} (h : bs.length ≤ 30) :
    Rat.divInt (sI q r (bs.count false) (bs.count true) (eT 0 (HopW.tbl bs))) (q.num ^ (bs.count false) * r.num ^ (bs.count true)) = HopW.wt q⁻¹ r⁻¹ bs := by
  have hn : ((q.num : Int) : Rat) ^ (bs.count false) * ((r.num : Int) : Rat) ^ (bs.count true) ≠ 0 := by
    rw [← Rat.intCast_pow, ← Rat.intCast_pow, ← Rat.intCast_mul]
    intro e
    exact Int.mul_ne_zero (Int.pow_ne_zero (num_ne hq)) (Int.pow_ne_zero (num_ne hr)) (Rat.intCast_eq_zero_iff.mp e)
  rw [Rat.divInt_eq_div, sI_rat hq hr (fun e he => ⟨(end_of h he).f, (end_of h he).b⟩), Rat.intCast_mul, Rat.intCast_pow, Rat.intCast_pow, rs_eT, Rat.pow_zero, Rat.one_mul, HopW.wt_tbl, Rat.mul_comm, Rat.mul_div_cancel hn]
/-! ### sizes -/
theorem pow_le {x : Int} {e : Nat} (h : x.natAbs < 2 ^ e) (m : Nat) : (x ^ m).natAbs ≤ 2 ^ (e * m) := by
  rw [Int.natAbs_pow, Nat.pow_mul]
  exact Nat.pow_le_pow_left (Nat.le_of_lt h) m
theorem share_le {q : Rat} (h : Sz 45 q) {f F : Nat} (hf : f ≤ F) : ((q.den : Int) ^ f * q.num ^ (F - f)).natAbs ≤ 2 ^ (45 * F) := by
  have h1 := pow_le (x := (q.den : Int)) h.2 f
  have h2 := pow_le h.1 (F - f)
  rw [Int.natAbs_mul]
  refine Nat.le_trans (Nat.mul_le_mul h1 h2) ?_
  rw [← Nat.pow_add, ← Nat.mul_add, show f + (F - f) = F by omega]
  exact Nat.le_refl _
theorem share_lt {q : Rat} (h : Sz 45 q) {f F : Nat} (hf : f ≤ F) (hF : F ≤ 30) : ((q.den : Int) ^ f * q.num ^ (F - f)).natAbs < 2 ^ 1351 :=
  Nat.lt_of_le_of_lt (share_le h hf) (Nat.pow_lt_pow_right (by decide) (by omega))
theorem tI_lt {q r : Rat} (hq : Sz 45 q) (hr : Sz 45 r) {bs : List Bool} (h : bs.length ≤ 30) {e : Nat × Nat × Nat} (he : EndOf bs e) : (tI q r (bs.count false) (bs.count true) e).natAbs < 2 ^ 2902 := by
  have c1 := List.count_le_length (a := false) (l := bs)
  have c2 := List.count_le_length (a := true) (l := bs)
  have h1 := share_lt hq he.f (by omega)
  have h2 := share_lt hr he.b (by omega)
  have h3 : ((e.2.2 : Int)).natAbs < 2 ^ 200 := he.m
  exact wide_lt (wide_lt h3 h1) h2
theorem sI_lt {q r : Rat} (hq : Sz 45 q) (hr : Sz 45 r) {bs : List Bool} (h : bs.length ≤ 30) : ∀ {l : List (Nat × Nat × Nat)}, (∀ e ∈ l, EndOf bs e) → (sI q r (bs.count false) (bs.count true) l).natAbs ≤ l.length * 2 ^ 2902
  | [], _ => Nat.zero_le _
  | e :: l, he => by
    have h1 := tI_lt hq hr h (he e List.mem_cons_self)
    have h2 := sI_lt hq hr h (l := l) (fun e h => he e (List.mem_cons_of_mem _ h))
    show (tI q r (bs.count false) (bs.count true) e + sI q r (bs.count false) (bs.count true) l).natAbs ≤ (l.length + 1) * _
    refine Nat.le_trans (Int.natAbs_add_le _ _) ?_
    rw [Nat.add_mul, Nat.one_mul]
    omega
theorem weight_sz {q r : Rat} (pq : 0 < q) (pr : 0 < r) (hq : Sz 45 q) (hr : Sz 45 r) {bs : List Bool} (h : bs.length ≤ 30) (hl : (eT 0 (HopW.tbl bs)).length ≤ 1600) : Sz 2920 (HopW.wt q⁻¹ r⁻¹ bs) := by
  rw [← weight_is pq pr h]
  have c1 := List.count_le_length (a := false) (l := bs)
  have c2 := List.count_le_length (a := true) (l := bs)
  refine sz_divInt (Int.mul_ne_zero (Int.pow_ne_zero (num_ne pq)) (Int.pow_ne_zero (num_ne pr))) ?_ ?_
  · refine Nat.lt_of_le_of_lt (sI_lt hq hr h (fun e he => end_of h he)) ?_
    refine Nat.lt_of_le_of_lt (Nat.mul_le_mul_right _ hl) ?_
    rw [show (2 : Nat) ^ 2920 = 2 ^ 18 * 2 ^ 2902 by rw [← Nat.pow_add]]
    exact Nat.mul_lt_mul_of_pos_right (by decide) (Nat.pow_pos (by decide))
  · rw [Int.natAbs_mul]
    refine Nat.lt_of_le_of_lt (Nat.mul_le_mul (pow_le hq.1 _) (pow_le hr.1 _)) ?_
    rw [← Nat.pow_add]
    exact Nat.pow_lt_pow_right (by decide) (by omega)
end Hop

set_option Elab.async false
set_option linter.all false
set_option maxRecDepth 100000
set_option exponentiation.threshold 200000
namespace Hop
open PySem L2 HopR
open C8 (InsC call_isC)
section
variable {P : Program} {w : World} {K : PySem.W.Frag} {mg : Str → Option Value} {base : Heap} {C d : Addr} {es : Array DictEntry} {n : Nat}
variable {fi f1 f2 : Addr} {gi g1 g2 : FuncData} {d1 : Value}
/-! ### share -/
def spShare (C : Addr) : Sp := fun vs H Q _ => ∃ (a : Addr) (q : Rat) (m M : Nat), vs = [.ref a, wv m, wv M] ∧ PC C H a q ∧ m ≤ M ∧ M ≤ 30 ∧ Q (.int ((q.den : Int) ^ m * q.num ^ (M - m))) H
theorem scShare : FnScope ["pace", "many", "most"] ["pace", "many", "most"] (defScope sShare) := ⟨rfl, rfl, rfl, by decide +kernel, rfl, by decide +kernel, by decide +kernel⟩
theorem ok_share {f : Addr} {fd : FuncData} {k : Nat} (F : Fun K "share" "share" sShare f fd) (Np : ∃ r s, Fn K mg "power" sPower ["number", "many"] r s) (T : TxtP K mg C) : FnOk P w K mg base CX0 (k + 2) f fd ["pace", "many", "most"] (spShare C) := by
  obtain ⟨fp, gp, Np⟩ := Np
  have GP : FnOk P w K mg base CX0 (k + 1) fp gp ["number", "many"] spPower := ok_power Np.F
  refine F.ok scShare (fun vs H Q E h => ?_) (fun cdv A outer s H vs Q E hr h => ?_)
  · obtain ⟨a, q, m, M, rfl, _⟩ := h
    rfl
  · obtain ⟨a, q, m, M, rfl, ⟨⟨dx, ha⟩, h0, hz⟩, hm, hM, h⟩ := h
    refine ⟨_, pss_one (ps_ret (pe_op op_mulW (pe_call GP hr (by rfl) Np.g Np.F.kp Np.b .nil pass0 (pa_cons (pe_fld (pv 0) rfl) (pa_cons (pv 1) pa_nil))) (pe_call GP hr (by rfl) Np.g Np.F.kp Np.b .nil pass0 (pa_cons (pe_fld (pv 0) rfl) (pa_cons (pe_op op_sub (pv 2) (pv 1)) pa_nil))))), ?_⟩
    refine ⟨.ref a, rfl, a, C, dx, _, _, rfl, ha, T.ins.cl, T.nB, pf_bottom q, wv m, rfl, (q.den : Int), m, 45, rfl, by omega, hz.2, by omega, by decide, ?_⟩
    refine ⟨.ref a, rfl, a, C, dx, _, _, rfl, ha, T.ins.cl, T.nT, pf_top q, wv M, rfl, wv m, rfl, _, _, rfl, rfl, q.num, M - m, 45, ?_, by omega, hz.1, by omega, by decide, ?_⟩
    · show [V.int q.num, V.int ((M : Int) - (m : Int))] = _
      rw [show (M : Int) - (m : Int) = ((M - m : Nat) : Int) by omega]
    · refine ⟨_, _, rfl, rfl, ?_, h⟩
      exact wide_mul (pow_lt (x := (q.den : Int)) (n := 30) hz.2 (by omega)) (pow_lt (n := 30) hz.1 (by omega)) (by decide) (by decide) (by decide)
/-! ### weight -/
structure WtDefs (K : PySem.W.Frag) (mg : Str → Option Value) (C fi f1 f2 fw : Addr) (gi g1 g2 gw : FuncData) (d1 dA dB : Value) : Prop where
  M : Mks K mg C fi f1 f2 gi g1 g2 d1
  E : EnDefs K mg
  nr : ∃ r s, Fn K mg "need_row" sNeedRow ["thing"] r s
  p1 : ∃ r s, Fn K mg "pace_from" sPaceFrom ["thing"] r s
  p2 : ∃ r s, Fn K mg "paces_from" sPacesFrom ["inn", "out"] r s
  eo : ∃ r s, Fn K mg "ends_of" sEndsOf ["word"] r s
  sh : ∃ r s, Fn K mg "share" sShare ["pace", "many", "most"] r s
  pw : ∃ r s, Fn K mg "power" sPower ["number", "many"] r s
  W : FunD K "weight" "weight" (defArgs sWeight) (defBody sWeight) (defScope sWeight) [.non, .non] [] fw gw
  b3 : Binds K gw ["row", "inn", "out"] []
  b1 : Binds K gw ["row", "inn", "out"] [dA, dB]
  rA : RelV .non dA
  rB : RelV .non dB
  g : mg "weight" = some (.ref fw)
def spWeight (C : Addr) : Sp := fun vs H Q _ => ∃ (bs : List Bool) (x y : V) (q r : Rat), vs = [.str (tx bs), x, y] ∧ Row bs ∧ Pw C H x q ∧ Pw C H y r ∧ (Sz 45 q → Sz 45 r → Sz 2920 (HopW.wt q⁻¹ r⁻¹ bs) → New C H (HopW.wt q⁻¹ r⁻¹ bs) Q)
abbrev nWt : List Str := ["row", "inn", "out", "first", "last", "most_frees", "most_beads", "top", "frees", "beads", "many"]
theorem scWeight : FnScope nWt ["row", "inn", "out"] (defScope sWeight) := ⟨rfl, rfl, rfl, by decide +kernel, rfl, by decide +kernel, by decide +kernel⟩
variable {fw : Addr} {gw : FuncData} {dA dB : Value}
set_option maxHeartbeats 4000000 in
theorem ok_weight {k : Nat} (N : WtDefs K mg C fi f1 f2 fw gi g1 g2 gw d1 dA dB) (T : TxtP K mg C) (TR : TxtR K w mg d es n) (T0 : TxtL mg) : FnOk P w K mg base CX0 (k + 6) fw gw ["row", "inn", "out"] (spWeight C) := by
  obtain ⟨r1, s1, R1⟩ := N.E.R
  obtain ⟨r2, s2, R2⟩ := N.nr
  obtain ⟨r3, s3, R3⟩ := N.p1
  obtain ⟨r4, s4, R4⟩ := N.p2
  obtain ⟨r5, s5, R5⟩ := N.eo
  obtain ⟨r6, s6, R6⟩ := N.sh
  obtain ⟨r7, s7, R7⟩ := N.pw
  have GI : FnOk P w K mg base CX0 (k + 4) fi gi ["self", "top", "bottom"] (spInit C) := ok_init N.M.F N.M.N1 N.M.N2 T
  have G2 : FnOk P w K mg base CX0 (k + 5) r2 s2 ["thing"] spNeed := ok_need R2.F R1 TR
  have G4 : FnOk P w K mg base CX0 (k + 5) r4 s4 ["inn", "out"] (spPacesFrom C) := ok_pacesFrom R4.F R3 N.M T
  have G5 : FnOk P w K mg base CX0 (k + 5) r5 s5 ["word"] spEndsOf := ok_endsOf R5.F N.E TR T0
  have G6 : FnOk P w K mg base CX0 (k + 5) r6 s6 ["pace", "many", "most"] (spShare C) := ok_share R6.F N.pw T
  have G7 : FnOk P w K mg base CX0 (k + 5) r7 s7 ["number", "many"] spPower := ok_power R7.F
  refine N.W.ok scWeight (fun vs H Q E h => ?_) (fun cdv A outer s H vs Q E hr h => ?_)
  · obtain ⟨bs, x, y, q, r, rfl, _⟩ := h
    rfl
  · obtain ⟨bs, x, y, q, r, rfl, hR, hx, hy, h⟩ := h
    have nd := scWeight.nd
    obtain ⟨tb, gb⟩ := TR.bead
    obtain ⟨tf, gf⟩ := TR.free
    have h30 := hR.2
    have c1 := List.count_le_length (a := false) (l := bs)
    have c2 := List.count_le_length (a := true) (l := bs)
    refine ⟨_, PSs.nox (pss_cons (ps_expr (pe_call G2 hr (by rfl) R2.g R2.F.kp R2.b .nil pass0 (pa_cons (pv 0) pa_nil)))
      (pss_cons (ps_asg (pe_call G4 hr (by rfl) R4.g R4.F.kp R4.b .nil pass0 (pa_cons (pv 1) (pa_cons (pv 2) pa_nil))) (pg_tup (by rfl) (pgs_cons (pg_name (i := 3) nd rfl (.inl rfl)) (pgs_cons (pg_name (i := 4) nd rfl (.inl rfl)) pgs_nil))))
      (pss_cons (ps_set (i := 5) nd rfl (.inl rfl) (pe_bm PySem.F.plainAttrs_str PySem.F.slot_str_count PySem.F.type_str_count mt_count (pv 0) (pa_cons (pe_glob (v := .str ".") (by rfl) gf ⟨_, rfl⟩) pa_nil)))
      (pss_cons (ps_set (i := 6) nd rfl (.inl rfl) (pe_bm PySem.F.plainAttrs_str PySem.F.slot_str_count PySem.F.type_str_count mt_count (pv 0) (pa_cons (pe_glob (v := .str "o") (by rfl) gb ⟨_, rfl⟩) pa_nil)))
      (pss_cons (ps_set (i := 7) nd rfl (.inl rfl) pe_int)
      (pss_cons (ps_for PassesOwn.never rfl (pi_list (pe_call G5 hr (by rfl) R5.g R5.F.kp R5.b .nil pass0 (pa_cons (pv 0) pa_nil))) (pg_tup (by rfl) (pgs_cons (pg_name (i := 8) nd rfl (.inl rfl)) (pgs_cons (pg_name (i := 9) nd rfl (.inl rfl)) (pgs_cons (pg_name (i := 10) nd rfl (.inl rfl)) pgs_nil))))
        (pss_one (ps_aug (i := 7) nd rfl (.inl rfl) (pe_op op_mulW (pe_op op_mulW (pv 10) (pe_call G6 hr (by rfl) R6.g R6.F.kp R6.b .nil pass0 (pa_cons (pv 3) (pa_cons (pv 8) (pa_cons (pv 5) pa_nil))))) (pe_call G6 hr (by rfl) R6.g R6.F.kp R6.b .nil pass0 (pa_cons (pv 4) (pa_cons (pv 9) (pa_cons (pv 6) pa_nil))))) ip_add)))
      (pss_one (ps_ret (pe_make N.M.M GI hr (by rfl) T.mgC N.M.b3 .nil pass0 (pa_cons (pv 7) (pa_cons (pe_op op_mulW (pe_call G7 hr (by rfl) R7.g R7.F.kp R7.b .nil pass0 (pa_cons (pe_fld (pv 3) rfl) (pa_cons (pv 5) pa_nil))) (pe_call G7 hr (by rfl) R7.g R7.F.kp R7.b .nil pass0 (pa_cons (pe_fld (pv 4) rfl) (pa_cons (pv 6) pa_nil)))) pa_nil))))))))))), ?_⟩
    refine ⟨.str (tx bs), rfl, bs, rfl, hR, fun H1 s1 => ?_⟩
    refine ⟨x, rfl, y, rfl, x, y, q, r, rfl, hx.same s1, hy.same s1, fun H2 p2 a b s2 n2 e2 pa pb => ?_⟩
    have s02 := s1.trans s2
    refine ⟨p2, _, rfl, SqT.of e2, rfl, _, _, rfl, _, _, rfl, rfl, ?_⟩
    refine ⟨.str (tx bs), rfl, rfl, tx bs, ".", rfl, rfl, .str (tx bs), rfl, rfl, tx bs, "o", rfl, rfl, ?_⟩
    have cf : PySem.Txt.count (tx bs) "." = ((bs.count false : Nat) : Int) := by rw [tx_f]; exact count_tx bs false
    have co : PySem.Txt.count (tx bs) "o" = ((bs.count true : Nat) : Int) := by rw [tx_o]; exact count_tx bs true
    rw [cf, co]
    refine ⟨.str (tx bs), rfl, bs, rfl, hR, fun H3 p3 acc s3 n3 e3 g3 hl3 => ?_⟩
    have s03 := s02.trans s3
    have hes : (eT 0 (HopW.tbl bs)).length ≤ 1600 := by rw [← tupG_len g3]; exact hl3
    have wsz := weight_sz pa.2.1 pb.2.1 pa.2.2 pb.2.2 h30 hes
    have wis := weight_is pa.2.1 pb.2.1 h30
    have hend := fun e (he : e ∈ eT 0 (HopW.tbl bs)) => end_of h30 he
    generalize eT 0 (HopW.tbl bs) = U at g3 hend wis hes
    refine ⟨p3, rfl, ⟨_, SqL.of e3⟩, ?_⟩
    refine for_list (K := K) (a := p3) (xs := acc) (fun i σ H4 => ∃ (y8 y9 y10 : Option V), σ = [some (.str (tx bs)), some x, some y, some (.ref a), some (.ref b), some (wv (bs.count false)), some (wv (bs.count true)), some (.int (sI q r (bs.count false) (bs.count true) (U.take i))), y8, y9, y10] ∧ H4 = H3) ⟨_, _, _, rfl, rfl⟩ (fun i σ H4 _ ⟨_, _, _, _, h⟩ => by rw [h]; exact SqL.of e3) ?_ ?_
    · rintro i v σ H4 hv ⟨y8, y9, y10, rfl, rfl⟩
      have hi : i < U.length := by
        rw [← tupG_len g3]
        exact (List.getElem?_eq_some_iff.mp hv).1
      have hUi : U[i]? = some U[i] := List.getElem?_eq_getElem hi
      obtain ⟨pt, et1, et2⟩ := tupG_at g3 hUi
      rw [hv] at et1
      obtain rfl := Option.some.inj et1
      have he := hend U[i] (List.getElem_mem hi)
      have eS : sI q r (bs.count false) (bs.count true) (U.take (i + 1)) = sI q r (bs.count false) (bs.count true) (U.take i) + tI q r (bs.count false) (bs.count true) U[i] := by
        rw [List.take_add_one, hUi, sI_app]
        show _ + (_ + 0) = _
        rw [Int.add_zero]
      generalize U[i] = e at he eS et2
      obtain ⟨ef, eb, em⟩ := e
      have h3 : ((em : Int)).natAbs < 2 ^ 200 := he.m
      have hs1 := share_lt pa.2.2 he.f (by omega)
      have hs2 := share_lt pb.2.2 he.b (by omega)
      refine ⟨pt, _, rfl, SqT.of et2, rfl, _, _, rfl, _, _, rfl, _, _, rfl, rfl, ?_⟩
      refine ⟨_, rfl, wv em, rfl, .ref a, rfl, wv ef, rfl, wv (bs.count false), rfl, a, q, ef, bs.count false, rfl, pa.same s3, he.f, by omega, ?_⟩
      refine ⟨_, _, rfl, rfl, wide_mul h3 hs1 (by decide) (by decide) (by decide), .ref b, rfl, wv eb, rfl, wv (bs.count true), rfl, b, r, eb, bs.count true, rfl, pb.same s3, he.b, by omega, ?_⟩
      refine ⟨_, _, rfl, rfl, wide_mul (wide_lt h3 hs1) hs2 (by decide) (by decide) (by decide), _, _, rfl, rfl, ?_⟩
      refine ⟨some (wv ef), some (wv eb), some (wv em), ?_, rfl⟩
      rw [eS]
      rfl
    · rintro σ H4 ⟨y8, y9, y10, rfl, rfl⟩
      rw [show acc.length = U.length from tupG_len g3, List.take_length]
      obtain ⟨dx, ha⟩ := (pa.same s3).1
      obtain ⟨dy, hb⟩ := (pb.same s3).1
      have b1 := pow_le pa.2.2.1 (bs.count false)
      have b2 := pow_le pb.2.2.1 (bs.count true)
      have b1' : (q.num ^ (bs.count false)).natAbs < 2 ^ 1351 := Nat.lt_of_le_of_lt b1 (Nat.pow_lt_pow_right (by decide) (by omega))
      have b2' : (r.num ^ (bs.count true)).natAbs < 2 ^ 1351 := Nat.lt_of_le_of_lt b2 (Nat.pow_lt_pow_right (by decide) (by omega))
      refine ⟨_, rfl, .ref a, rfl, a, C, dx, _, _, rfl, ha, T.ins.cl, T.nT, pf_top q, wv (bs.count false), rfl, q.num, bs.count false, 45, rfl, by omega, pa.2.2.1, by omega, by decide, ?_⟩
      refine ⟨.ref b, rfl, b, C, dy, _, _, rfl, hb, T.ins.cl, T.nT, pf_top r, wv (bs.count true), rfl, r.num, bs.count true, 45, rfl, by omega, pb.2.2.1, by omega, by decide, ?_⟩
      refine ⟨_, _, rfl, rfl, wide_mul b1' b2' (by decide) (by decide) (by decide), ?_⟩
      refine made (Int.mul_ne_zero (Int.pow_ne_zero (num_ne pa.2.1)) (Int.pow_ne_zero (num_ne pb.2.1))) (Nat.lt_of_lt_of_le (wide_lt b1' b2') (Nat.pow_le_pow_right (by decide) (by decide))) ?_
      rw [wis]
      exact fun H5 p5 s5 n5 pa5 => h pa.2.2 pb.2.2 wsz H5 p5 (s03.trans s5) (s03.free n5) pa5
end
end Hop

set_option linter.all false
namespace HopR
open PySem L2
theorem mir_mir (bs : List Bool) : mir (mir bs) = bs := by
  unfold mir
  rw [← List.map_reverse, List.reverse_reverse, List.map_map]
  have e : ((fun x => !x) ∘ fun x => !x) = (id : Bool → Bool) := by
    funext b
    cases b <;> rfl
  rw [e, List.map_id]
theorem ends_get (bs : List Bool) (k : Nat) (h : k ≤ bs.length) : opn bs k = (((ends bs)[k]?.getD false) && !((ends bs)[k + 1]?.getD true)) := by
  have hl := ends_len bs
  have e1 : (ends bs)[k]? = some (ends bs)[k] := List.getElem?_eq_getElem (by omega)
  have e2 : (ends bs)[k + 1]? = some (ends bs)[k + 1] := List.getElem?_eq_getElem (by omega)
  have e3 : ((ends bs).drop k).take 2 = [(ends bs)[k], (ends bs)[k + 1]] := by
    rw [List.drop_eq_getElem_cons (by omega), List.drop_eq_getElem_cons (by omega)]
    rfl
  unfold opn
  rw [e3, e1, e2]
  show decide ([(ends bs)[k], (ends bs)[k + 1]] = [true, false]) = ((ends bs)[k] && !(ends bs)[k + 1])
  cases (ends bs)[k] <;> cases (ends bs)[k + 1] <;> rfl
theorem ends_mir (bs : List Bool) : ends (mir bs) = mir (ends bs) := by
  unfold ends mir
  simp
theorem mir_get {l : List Bool} {k : Nat} (h : k < l.length) : (mir l)[k]? = some (!(l[l.length - 1 - k]'(by omega))) := by
  unfold mir
  rw [List.getElem?_map, List.getElem?_reverse h, List.getElem?_eq_getElem (by omega)]
  rfl
theorem opn_mir {bs : List Bool} {k : Nat} (h : k ≤ bs.length) : opn (mir bs) k = opn bs (bs.length - k) := by
  have hl := ends_len bs
  rw [ends_get (mir bs) k (by rw [mir_len]; exact h), ends_get bs (bs.length - k) (by omega), ends_mir, mir_get (by omega), mir_get (by omega)]
  have e1 : (ends bs)[bs.length - k]? = some ((ends bs)[bs.length - k]'(by omega)) := List.getElem?_eq_getElem (by omega)
  have e2 : (ends bs)[bs.length - k + 1]? = some ((ends bs)[bs.length - k + 1]'(by omega)) := List.getElem?_eq_getElem (by omega)
  rw [e1, e2]
  have i1 : (ends bs).length - 1 - k = bs.length - k + 1 := by omega
  have i2 : (ends bs).length - 1 - (k + 1) = bs.length - k := by omega
  simp only [i1, i2, Option.getD_some]
  cases (ends bs)[bs.length - k]'(by omega) <;> cases (ends bs)[bs.length - k + 1]'(by omega) <;> rfl
theorem range_rev (n : Nat) : (List.range (n + 1)).map (fun k => n - k) = (List.range (n + 1)).reverse := by
  apply List.ext_getElem
  · simp
  · intro i h1 h2
    rw [List.getElem_map, List.getElem_reverse, List.getElem_range, List.getElem_range, List.length_range]
    omega
theorem walls_mir (bs : List Bool) : walls (mir bs) = ((walls bs).map (fun k => bs.length - k)).reverse := by
  unfold walls
  rw [mir_len]
  have e : (List.range (bs.length + 1)).filter (opn (mir bs)) = (List.range (bs.length + 1)).filter (fun k => opn bs (bs.length - k)) := by
    apply List.filter_congr
    intro k hk
    exact opn_mir (by have := List.mem_range.mp hk; omega)
  rw [e, ← List.map_reverse, ← List.filter_reverse, ← range_rev, List.filter_map, List.map_map]
  have e2 : (List.range (bs.length + 1)).filter (opn bs ∘ fun k => bs.length - k) = (List.range (bs.length + 1)).filter (fun k => opn bs (bs.length - k)) := rfl
  rw [e2]
  conv => lhs; rw [← List.map_id ((List.range (bs.length + 1)).filter fun k => opn bs (bs.length - k))]
  apply List.map_congr_left
  intro k hk
  have := List.mem_range.mp (List.mem_filter.mp hk).1
  show k = bs.length - (bs.length - k)
  omega
theorem mir_app (as bs : List Bool) : mir (as ++ bs) = mir bs ++ mir as := by
  unfold mir
  rw [List.reverse_append, List.map_append]
theorem mir_take (l : List Bool) (k : Nat) (h : k ≤ l.length) : mir (l.take k) = (mir l).drop (l.length - k) := by
  have e := mir_app (l.take k) (l.drop k)
  rw [List.take_append_drop] at e
  rw [e, List.drop_append_of_le_length (by rw [mir_len, List.length_drop]; exact Nat.le_refl _), List.drop_of_length_le (by rw [mir_len, List.length_drop]; exact Nat.le_refl _), List.nil_append]
theorem mir_drop (l : List Bool) (k : Nat) (h : k ≤ l.length) : mir (l.drop k) = (mir l).take (l.length - k) := by
  have e := mir_app (l.take k) (l.drop k)
  rw [List.take_append_drop] at e
  rw [e, List.take_append_of_le_length (by rw [mir_len, List.length_drop]; exact Nat.le_refl _), List.take_of_length_le (by rw [mir_len, List.length_drop]; exact Nat.le_refl _)]
theorem bhd_mir {bs : List Bool} {k : Nat} (h : k ≤ bs.length) : mir (bhd bs k) = bhd (mir bs) (bs.length - k) := by
  have hl := ends_len bs
  unfold bhd
  rw [mir_app, mir_app, mir_app, mir_drop _ _ (by omega), mir_take _ _ (by omega), ends_mir, hl]
  have e1 : bs.length + 2 - (k + 2) = bs.length - k := by omega
  have e2 : bs.length + 2 - k = bs.length - k + 2 := by omega
  rw [e1, e2]
  show (mir (ends bs)).take (bs.length - k) ++ ([false] ++ ([true] ++ (mir (ends bs)).drop (bs.length - k + 2))) = _
  rw [List.append_assoc, List.append_assoc]
theorem chg_mir {bs : List Bool} {k : Nat} (h : k ≤ bs.length) : mir (chg bs k) = chg (mir bs) (bs.length - k) := by
  have hb := bhd_len h
  have hb2 : (bhd (mir bs) (bs.length - k)).length = bs.length + 2 := by
    rw [← bhd_mir h, mir_len, hb]
  unfold chg
  rw [mir_take _ _ (by rw [List.length_drop]; omega), mir_drop _ _ (by omega), List.length_drop, hb, hb2, bhd_mir h]
  have e1 : bs.length + 2 - 1 - (bs.length + 2 - 2) = 1 := by omega
  have e2 : bs.length + 2 - 1 = bs.length + 1 := by omega
  rw [e1, e2, List.drop_take]
  rfl
theorem num_snoc (bs : List Bool) (b : Bool) : num (bs ++ [b]) = num bs * 2 + (if b then 1 else 0) := by
  unfold num
  rw [List.foldl_append]
  rfl
theorem num_not (n : Nat) : ∀ bs : List Bool, bs.length = n → num bs + num (bs.map (!·)) = 2 ^ bs.length - 1 := by
  induction n with
  | zero =>
    intro bs h
    have : bs = [] := List.length_eq_zero_iff.mp h
    subst this
    rfl
  | succ n ih =>
    intro bs h
    have hne : bs ≠ [] := by
      intro e
      rw [e] at h
      cases h
    obtain ⟨as, b, rfl⟩ : ∃ as b, bs = as ++ [b] := ⟨bs.dropLast, bs.getLast hne, (List.dropLast_concat_getLast hne).symm⟩
    have hl : as.length = n := by
      rw [List.length_append] at h
      simpa using h
    have := ih as hl
    rw [List.map_append, List.map_cons, List.map_nil, num_snoc, num_snoc, List.length_append]
    show num as * 2 + _ + (num (as.map (!·)) * 2 + _) = 2 ^ (as.length + 1) - 1
    rw [Int.pow_succ]
    cases b with
    | true =>
      show num as * 2 + 1 + (num (as.map (!·)) * 2 + 0) = 2 ^ as.length * 2 - 1
      omega
    | false =>
      show num as * 2 + 0 + (num (as.map (!·)) * 2 + 1) = 2 ^ as.length * 2 - 1
      omega
theorem num_mir (bs : List Bool) : num bs + num (mir bs).reverse = 2 ^ bs.length - 1 := by
  have e : (mir bs).reverse = bs.map (!·) := by
    unfold mir
    rw [← List.map_reverse, List.reverse_reverse]
  rw [e]
  exact num_not _ bs rfl
theorem walls_ne (bs : List Bool) : walls bs ≠ [] := by
  -- the first place of a free one, or the last wall
  have key : ∃ k, k ≤ bs.length ∧ opn bs k = true := by
    have h : ∀ (l : List Bool), l ≠ [] → l.head? = some true → l.getLast? = some false → ∃ k, k + 1 < l.length ∧ l[k]? = some true ∧ l[k + 1]? = some false := by
      intro l
      induction l with
      | nil => intro h; exact absurd rfl h
      | cons a r ih =>
        intro _ h1 h2
        have ea : a = true := Option.some.inj h1
        subst ea
        cases r with
        | nil =>
          have : true = false := Option.some.inj h2
          cases this
        | cons b q =>
          cases b with
          | false => exact ⟨0, by simp, rfl, rfl⟩
          | true =>
            obtain ⟨k, g1, g2, g3⟩ := ih (by simp) rfl (by rw [List.getLast?_cons_cons] at h2; exact h2)
            exact ⟨k + 1, by simpa using g1, by simpa using g2, by simpa using g3⟩
    obtain ⟨k, g1, g2, g3⟩ := h (ends bs) (by unfold ends; simp) rfl (by unfold ends; rw [List.getLast?_cons]; simp)
    have hl := ends_len bs
    refine ⟨k, by omega, ?_⟩
    rw [ends_get bs k (by omega), g2, g3]
    rfl
  obtain ⟨k, h1, h2⟩ := key
  exact List.ne_nil_of_mem (mem_walls.mpr ⟨h1, h2⟩)
end HopR

set_option Elab.async false
set_option linter.all false
set_option maxRecDepth 100000
set_option exponentiation.threshold 200000
namespace Hop
open PySem L2 HopR
open C8 (InsC call_isC)
section
variable {P : Program} {w : World} {K : PySem.W.Frag} {mg : Str → Option Value} {base : Heap} {d : Addr} {es : Array DictEntry} {n : Nat}
/-! ### the draws -/
theorem scDrawn : FnScope ["_law_cell", "_law_sizes", "_law_found", "_law_left", "_law_k", "_law_small", "_law_one", "_law_two"] ["_law_cell", "_law_sizes"] (defScope sDrawn) := ⟨rfl, rfl, rfl, by decide +kernel, rfl, by decide +kernel, by decide +kernel⟩
theorem ok_drawn {f : Addr} {fd : FuncData} {k : Nat} (F : Fun K "_law_drawn" "_law_drawn" sDrawn f fd) (mL : mg "len" = none) (mR : mg "range" = none) : FnOk P w K mg base CX0 (k + 1) f fd ["_law_cell", "_law_sizes"] (spDrawn K) := by
  refine F.ok scDrawn (fun vs H Q E h => ?_) (fun cdv A outer s H vs Q E hr h => ?_)
  · obtain ⟨c, a, zs, rfl, _⟩ := h
    rfl
  · obtain ⟨c, a, zs, rfl, hS, hz, hlen, q⟩ := h
    have nd := scDrawn.nd
    refine ⟨_, pss_cons (ps_set (i := 2) nd rfl (.inl rfl) (pe_lst pa_nil))
      (pss_cons (ps_set (i := 3) nd rfl (.inl rfl) (pv 0))
      (pss_cons (ps_for PassesOwn.never rfl (pi_range1 (by rfl) mR (pa_cons (pe_callB call_len_seq (by rfl) mL PySem.boot_len (pa_cons (pv 1) pa_nil)) pa_nil)) (pg_name (i := 4) nd rfl (.inl rfl))
        (pss_one (ps_if (pt_cmpR op_ge (pv 3) (pe_op op_pow pe_int pe_int) (nomark _))
          (pss_cons (ps_expr (pe_bm PySem.F.plainAttrs_list PySem.F.slot_list_append PySem.F.type_list_append mt_append (pv 2) (pa_cons (pe_op op_mod (pv 3) (pe_ix ix_list (pv 1) (pv 4) (fun _ _ => rfl))) pa_nil)))
            (pss_one (ps_set (i := 3) nd rfl (.inl rfl) (pe_op op_fdivW (pv 3) (pe_ix ix_list (pv 1) (pv 4) (fun _ _ => rfl))))))
          (pss_cons (ps_set (i := 5) nd rfl (.inl rfl) (pe_op op_mod (pv 3) (pe_op op_pow pe_int pe_int)))
          (pss_cons (ps_set (i := 6) nd rfl (.inl rfl) (pe_op op_mod (pe_op op_mul (pe_op op_add (pe_op op_add (pv 5) (pe_op op_mul pe_int (pv 4))) pe_int) (pe_op op_add pe_int (pe_op op_mul (pe_op op_mul pe_int (pv 4)) (pv 4)))) pe_int))
          (pss_cons (ps_set (i := 7) nd rfl (.inl rfl) (pe_op op_mod (pe_op op_mul (pe_op op_add (pe_op op_add (pe_op op_fdiv (pv 5) pe_int) (pe_op op_mul pe_int (pv 4))) pe_int) (pe_op op_add pe_int (pe_op op_mul pe_int (pv 4)))) pe_int))
          (pss_one (ps_expr (pe_bm PySem.F.plainAttrs_list PySem.F.slot_list_append PySem.F.type_list_append mt_append (pv 2) (pa_cons (pe_op op_mod (pe_op op_add (pe_op op_mul (pv 6) (pv 7)) (pe_op op_fdiv (pv 6) pe_int)) (pe_ix ix_list (pv 1) (pv 4) (fun _ _ => rfl))) pa_nil))))))))))
      (pss_one (ps_ret (pv 2))))), ?_⟩
    -- found = []; left = cell
    refine ⟨Nat.zero_le _, fun o no => ?_⟩
    have s1 : Same H (upd H o (.lst [])) := same_upd no
    refine ⟨.int c, rfl, .ref a, rfl, a, zs.map V.int, rfl, .inl (s1.seq hS), ((zs.map V.int).length : Int), rfl, by omega, (by rw [List.length_map]; omega), ?_⟩
    refine for_range (lo := 0) (n := zs.length) (fun i σ H3 => ∃ (l : Int) (y4 y5 y6 y7 : Option V) (ds : List Int), σ = [some (.int c), some (.ref a), some (.ref o), some (.int l), y4, y5, y6, y7] ∧
        Same H H3 ∧ H3 o = some (.lst (ds.map V.int)) ∧ ds.length = i ∧ ds ++ draws l i (zs.drop i) = draws c 0 zs)
      ⟨c, none, none, none, none, [], rfl, s1, upd_same, rfl, by simp⟩ ?_ ?_ |> (fun h => by rw [List.length_map]; exact h)
    · rintro i σ H3 hi ⟨l, y4, y5, y6, y7, ds, rfl, sm, eo, el, ed⟩
      have hA : SqL K H3 a (zs.map V.int) := sm.seq hS
      have hz1 := hz zs[i] (List.getElem_mem hi)
      have gz : zs[i]? = some zs[i] := List.getElem?_eq_getElem hi
      have g : atI (zs.map V.int) (i : Int) = some (.int zs[i]) := atI_nat (by rw [List.getElem?_map, gz]; rfl)
      have hd : zs.drop i = zs[i] :: zs.drop (i + 1) := List.drop_eq_getElem_cons hi
      rw [hd] at ed
      have ed' : (ds ++ [dval l i zs[i]]) ++ draws (dleft l zs[i]) (i + 1) (zs.drop (i + 1)) = draws c 0 zs := by
        rw [List.append_assoc]
        exact ed
      have small : (ds.map V.int).length < sizeLine := by
        rw [List.length_map]
        exact small1000 (by omega)
      rw [Int.zero_add]
      refine ⟨.int l, rfl, 10, 18, rfl, rfl, ⟨by decide, by decide, by decide⟩, l, 10 ^ 18, rfl, rfl, _, rfl, ite2 (fun e => ?_) (fun e => ?_)⟩
      · have e : (1000000000000000000 : Int) ≤ l := of_decide_eq_true e
        refine ⟨.ref o, rfl, .inl ⟨rfl, _, SqL.of eo⟩, .int l, rfl, .ref a, rfl, .int (i : Int), rfl, a, _, _, _, rfl, rfl, hA, g, l, zs[i], rfl, rfl, hz1.1, o, _, _, rfl, rfl, eo, small, ?_⟩
        have e1 : dval l i zs[i] = l % zs[i] := by
          unfold dval
          rw [if_pos e]
        have e2 : dleft l zs[i] = l / zs[i] := by
          unfold dleft
          rw [if_pos e]
        have sm2 : Same H (upd H3 o (.lst (ds.map V.int ++ [.int (l % zs[i])]))) := same_new no sm
        refine ⟨.int l, rfl, .ref a, rfl, .int (i : Int), rfl, a, _, _, _, rfl, rfl, sm2.seq hS, g, l, zs[i], rfl, rfl, wide_div hz1.1 (b := 64) (by have := hz1.2; have := hz1.1; omega) (by decide) (by decide), ?_⟩
        refine ⟨_, _, _, _, _, ds ++ [dval l i zs[i]], rfl, sm2, ?_, ?_, ?_⟩
        · rw [upd_same, e1, List.map_append]
          rfl
        · rw [List.length_append, el]
          rfl
        · rw [← e2]
          exact ed'
      · have e : ¬ (1000000000000000000 : Int) ≤ l := fun z => e (decide_eq_true z)
        have e2 : dleft l zs[i] = l := by
          unfold dleft
          rw [if_neg e]
        have hi1000 : (i : Int) < 1000 := by omega
        have s0 : 0 ≤ l % 1000000000000000000 := Int.emod_nonneg _ (by decide)
        have s9 : l % 1000000000000000000 < 1000000000000000000 := Int.emod_lt_of_pos _ (by decide)
        refine ⟨.int l, rfl, 10, 18, rfl, rfl, ⟨by decide, by decide, by decide⟩, l, 10 ^ 18, rfl, rfl, (show (0 : Int) < 10 ^ 18 by decide), ?_⟩
        refine ⟨_, rfl, .int (i : Int), rfl, 7, i, rfl, rfl, .inl ⟨by decide, by decide⟩, _, _, rfl, rfl, _, _, rfl, rfl, .int (i : Int), rfl, 2, i, rfl, rfl, .inl ⟨by decide, by decide⟩, .int (i : Int), rfl, _, _, rfl, rfl, .inl ⟨by omega, by omega⟩, _, _, rfl, rfl, _, _, rfl, rfl,
          .inl ⟨by show -(2 ^ 64) < l % 1000000000000000000 + 7 * (i : Int) + 1; omega, by show l % 1000000000000000000 + 7 * (i : Int) + 1 < 2 ^ 64; omega⟩, _, _, rfl, rfl, (show (0 : Int) < 2147483647 by decide), ?_⟩
        refine ⟨_, rfl, _, _, rfl, rfl, ⟨by decide, by decide⟩, .int (i : Int), rfl, 11, i, rfl, rfl, .inl ⟨by decide, by decide⟩, _, _, rfl, rfl, _, _, rfl, rfl, .int (i : Int), rfl, 6, i, rfl, rfl, .inl ⟨by decide, by decide⟩, _, _, rfl, rfl, _, _, rfl, rfl,
          .inl ⟨by show -(2 ^ 64) < l % 1000000000000000000 / 3 + 11 * (i : Int) + 5; omega, by show l % 1000000000000000000 / 3 + 11 * (i : Int) + 5 < 2 ^ 64; omega⟩, _, _, rfl, rfl, (show (0 : Int) < 2147483629 by decide), ?_⟩
        have o0 := Int.emod_nonneg ((l % 1000000000000000000 + 7 * (i : Int) + 1) * (48271 + 2 * (i : Int) * (i : Int))) (show (2147483647 : Int) ≠ 0 by decide)
        have o9 := Int.emod_lt_of_pos ((l % 1000000000000000000 + 7 * (i : Int) + 1) * (48271 + 2 * (i : Int) * (i : Int))) (show (0 : Int) < 2147483647 by decide)
        refine ⟨.ref o, rfl, .inl ⟨rfl, _, SqL.of eo⟩, _, rfl, _, rfl, _, _, rfl, rfl, .inl ⟨Int.lt_of_lt_of_le (by decide) o0, Int.lt_trans o9 (by decide)⟩, _, rfl, _, _, rfl, rfl, ⟨by decide, by decide⟩, _, _, rfl, rfl, .ref a, rfl, .int (i : Int), rfl, a, _, _, _, rfl, rfl, hA, g, _, zs[i], rfl, rfl, hz1.1, o, _, _, rfl, rfl, eo, small, ?_⟩
        have e1 : dval l i zs[i] = ((l % 1000000000000000000 + 7 * (i : Int) + 1) * (48271 + 2 * (i : Int) * (i : Int)) % 2147483647 * ((l % 1000000000000000000 / 3 + 11 * (i : Int) + 5) * (39373 + 6 * (i : Int)) % 2147483629) + (l % 1000000000000000000 + 7 * (i : Int) + 1) * (48271 + 2 * (i : Int) * (i : Int)) % 2147483647 / 64) % zs[i] := by
          unfold dval
          rw [if_neg e]
        refine ⟨_, _, _, _, _, ds ++ [dval l i zs[i]], rfl, same_new no sm, ?_, ?_, ?_⟩
        · rw [upd_same, e1, List.map_append]
          rfl
        · rw [List.length_append, el]
          rfl
        · rw [e2] at ed'
          exact ed'
    · rintro σ H3 ⟨l, y4, y5, y6, y7, ds, rfl, sm, eo, el, ed⟩
      rw [List.drop_length] at ed
      have ed : ds = draws c 0 zs := by
        rw [← ed]
        show ds = ds ++ []
        rw [List.append_nil]
      subst ed
      exact ⟨.ref o, rfl, q H3 o sm no eo⟩

/-! ### _law_row -/
def tl5 (bs : List Bool) : List V := (bs.map fun b => tx [b]).map V.str
theorem tl5_len (bs : List Bool) : (tl5 bs).length = bs.length := by
  unfold tl5
  rw [List.length_map, List.length_map]
theorem sizes32 : ∀ z ∈ ([30, 4] ++ List.replicate 30 2 : List Int), SizeOk z := by
  intro z hz
  rcases List.mem_append.mp hz with h | h
  · rcases List.mem_cons.mp h with rfl | h
    · exact ⟨by decide, by decide⟩
    · obtain rfl := List.mem_singleton.mp h
      exact ⟨by decide, by decide⟩
  · rw [(List.mem_replicate.mp h).2]
    exact ⟨by decide, by decide⟩
end
/-! ### _law_low -/
section
variable {P : Program} {w : World} {K : PySem.W.Frag} {mg : Str → Option Value} {base : Heap} {C : Addr}
theorem scLow : FnScope ["_law_top", "_law_bottom", "_law_one", "_law_other"] ["_law_top", "_law_bottom"] (defScope sLLow) := ⟨rfl, rfl, rfl, by decide +kernel, rfl, by decide +kernel, by decide +kernel⟩
def tq (q : Rat) : List V := [.int q.num, .int (q.den : Int)]
def spLow : Sp := fun vs H Q _ => ∃ t b : Int, vs = [.int t, .int b] ∧ b ≠ 0 ∧ b.natAbs < 2 ^ 8000 ∧ ∀ H' p, Same H H' → H p = none → H' p = some (.tup (tq (Rat.divInt t b))) → Q (.ref p) H'
theorem abs_nat (x : Int) : (if x < 0 then -x else x) = (x.natAbs : Int) := by
  split <;> omega
theorem ok_low {f : Addr} {fd : FuncData} {k : Nat} (F : Fun K "_law_low" "_law_low" sLLow f fd) (T : TxtP K mg C) : FnOk P w K mg base CX0 (k + 1) f fd ["_law_top", "_law_bottom"] spLow := by
  refine F.ok scLow (fun vs H Q E h => ?_) (fun cdv A outer s H vs Q E hr h => ?_)
  · obtain ⟨a, b, rfl, _⟩ := h
    rfl
  · obtain ⟨t, b, rfl, hb, hb2, q⟩ := h
    have nd := scLow.nd
    refine ⟨_, pss_cons (ps_set (i := 2) nd rfl (.inl rfl) (pe_callB call_abs (by rfl) T.abs (by decide +kernel) (pa_cons (pv 0) pa_nil)))
      (pss_cons (ps_set (i := 3) nd rfl (.inl rfl) (pe_callB call_abs (by rfl) T.abs (by decide +kernel) (pa_cons (pv 1) pa_nil)))
      (pss_cons (ps_while PassesOwn.never (pt_cmpR op_gt (pv 3) pe_int (nomark _)) (pss_one (ps_par (by rfl) nd (i := 2) (j := 3) rfl rfl (by decide) rfl rfl (pa_cons (pv 3) (pa_cons (pe_op op_modN (pv 2) (pv 3)) pa_nil)) (by rfl))))
      (pss_cons (ps_if (pt_cmpR op_lt (pv 1) pe_int (nomark _)) (pss_one (ps_set (i := 2) nd rfl (.inl rfl) (pe_op op_sub pe_int (pv 2)))) pss_nil)
      (pss_one (ps_ret (pe_tup (pa_cons (pe_op op_fdivWN (pv 0) (pv 2)) (pa_cons (pe_op op_fdivWN (pv 1) (pv 2)) pa_nil)))))))), ?_⟩
    refine ⟨.int t, rfl, t, rfl, .int b, rfl, b, rfl, ?_⟩
    rw [abs_nat, abs_nat]
    have hg := gcd_pos (t := t) hb
    have hgl : (Int.gcd t b).log2 < 9000 := by
      have h1 : Int.gcd t b ≤ b.natAbs := Nat.le_of_dvd (by omega) (Int.gcd_dvd_natAbs_right ..)
      exact Nat.lt_of_lt_of_le (PySem.Flt.log2_lt_of (by decide) (Nat.lt_of_le_of_lt h1 hb2)) (by decide)
    have fin : ∀ g : Int, g = (if b < 0 then -(Int.gcd t b : Int) else (Int.gcd t b : Int)) → CDivWN t g ∧ CDivWN b g := fun g e => by
      have e2 : g.natAbs = Int.gcd t b := by
        rw [e]
        split <;> omega
      unfold CDivWN
      rw [e2]
      exact ⟨⟨by omega, hgl⟩, ⟨by omega, hgl⟩⟩
    have done : ∀ g : Int, g = (if b < 0 then -(Int.gcd t b : Int) else (Int.gcd t b : Int)) → ∀ p, H p = none → Q (.ref p) (upd H p (.tup [.int (t.fdiv g), .int (b.fdiv g)])) := fun g e p hp => by
      rw [e, low_num hb, low_den hb]
      exact q _ _ (same_upd hp) hp upd_same
    refine while_by (fun σ H1 => ∃ x y : Nat, σ = [some (.int t), some (.int b), some (.int (x : Int)), some (.int (y : Int))] ∧ Nat.gcd x y = Int.gcd t b ∧ H1 = H) (fun σ _ => match σ with | [_, _, _, some (.int y)] => y.natAbs | _ => 0) ⟨t.natAbs, b.natAbs, rfl, rfl, rfl⟩ ?_ ?_
    · rintro σ H1 ⟨x, y, rfl, e, rfl⟩
      refine ⟨_, rfl, _, _, rfl, rfl, _, rfl, ?_⟩
      by_cases hy : y = 0
      · subst hy
        rw [Nat.gcd_zero_right] at e
        subst e
        rw [decide_eq_false (show ¬ (((0 : Nat) : Int) > 0) by decide)]
        refine iteF ⟨.int b, rfl, _, _, rfl, rfl, _, rfl, ite2 (fun e => ?_) (fun e => ?_)⟩
        · have e : b < 0 := of_decide_eq_true e
          have eg : (0 : Int) - (Int.gcd t b : Int) = (if b < 0 then -(Int.gcd t b : Int) else (Int.gcd t b : Int)) := by
            rw [if_pos e]
            omega
          obtain ⟨c1, c2⟩ := fin _ eg
          exact ⟨_, rfl, _, _, rfl, rfl, .int t, rfl, _, rfl, t, _, rfl, rfl, c1, .int b, rfl, _, rfl, b, _, rfl, rfl, c2, (by show 2 ≤ sizeLine; decide), fun p hp => done _ eg p hp⟩
        · have e : ¬ b < 0 := fun z => e (decide_eq_true z)
          have eg : (Int.gcd t b : Int) = (if b < 0 then -(Int.gcd t b : Int) else (Int.gcd t b : Int)) := (if_neg e).symm
          obtain ⟨c1, c2⟩ := fin _ eg
          exact ⟨.int t, rfl, _, rfl, t, _, rfl, rfl, c1, .int b, rfl, _, rfl, b, _, rfl, rfl, c2, (by show 2 ≤ sizeLine; decide), fun p hp => done _ eg p hp⟩
      · have hyi : (y : Int) ≠ 0 := by omega
        have em : ((x : Int).fmod (y : Int)) = ((x % y : Nat) : Int) := by
          rw [Int.fmod_eq_emod_of_nonneg _ (by omega)]
          exact (Int.natCast_emod x y).symm
        rw [decide_eq_true (show (y : Int) > 0 by omega)]
        refine iteT ⟨_, rfl, _, rfl, _, rfl, _, _, rfl, rfl, hyi, _, _, rfl, ⟨y, x % y, (by show [some (V.int t), some (V.int b), some (V.int (y : Int)), some (V.int ((x : Int).fmod (y : Int)))] = _; rw [em]), ?_, rfl⟩, ?_⟩
        · rw [← e, Nat.gcd_comm y, ← Nat.gcd_rec, Nat.gcd_comm]
        · exact fmod_less (x : Int) hyi
    · rintro σ H1 Q1 Q2 hm h
      obtain ⟨v, e1, i1, j1, e2, e3, k2, e4, h⟩ := h
      exact ⟨v, e1, i1, j1, e2, e3, k2, e4, hm _ _ h⟩
end
/-! ### paces of the law -/
/-- a pace, told by the law: None, or a tuple -/
def Pt (H : Hp) (v : V) (q : Rat) : Prop := (v = .non ∧ q = 1) ∨ ∃ a, v = .ref a ∧ H a = some (.tup (tq q)) ∧ 0 < q ∧ Sz 4 q
theorem Pt.same {H H' : Hp} {v : V} {q : Rat} (s : Same H H') (h : Pt H v q) : Pt H' v q := h.imp id fun ⟨a, e, t, p⟩ => ⟨a, e, s _ _ t, p⟩
theorem Pt.sz {H : Hp} {v : V} {q : Rat} (h : Pt H v q) : Sz 4 q := by
  rcases h with ⟨_, rfl⟩ | ⟨_, _, _, _, z⟩
  · exact ⟨by decide, by decide⟩
  · exact z
theorem draws3 {c z0 z1 z2 : Int} (h : ∀ z ∈ [z0, z1, z2], 0 < z) : ∃ d0 d1 d2 : Int, draws c 0 [z0, z1, z2] = [d0, d1, d2] ∧ (0 ≤ d0 ∧ d0 < z0) ∧ (0 ≤ d1 ∧ d1 < z1) ∧ (0 ≤ d2 ∧ d2 < z2) := by
  have hl := draws_len [z0, z1, z2] c 0
  match hd : draws c 0 [z0, z1, z2], hl with
  | [d0, d1, d2], _ =>
    have k := draws_ok [z0, z1, z2] c 0 h
    rw [hd] at k
    exact ⟨d0, d1, d2, rfl, k 0 d0 z0 rfl rfl, k 1 d1 z1 rfl rfl, k 2 d2 z2 rfl rfl⟩
theorem draws1 {c z0 : Int} (h : 0 < z0) : ∃ d0 : Int, draws c 0 [z0] = [d0] ∧ 0 ≤ d0 ∧ d0 < z0 := by
  have hl := draws_len [z0] c 0
  match hd : draws c 0 [z0], hl with
  | [d0], _ =>
    have k := draws_ok [z0] c 0 (fun z hz => by rw [List.mem_singleton.mp hz]; exact h)
    rw [hd] at k
    exact ⟨d0, rfl, k 0 d0 z0 rfl rfl⟩
theorem frac_above {t b : Int} (ht : 0 < t) (hb : 0 < b) : 0 < Rat.divInt t b := by
  refine pos_num ?_
  rw [Rat.num_divInt, Int.sign_eq_one_of_pos hb, Int.one_mul]
  exact Int.ediv_pos_of_pos_of_dvd ht (by omega) (Int.gcd_dvd_right ..)
section
variable {P : Program} {w : World} {K : PySem.W.Frag} {mg : Str → Option Value} {base : Heap} {C : Addr}
variable {fi f1 f2 : Addr} {gi g1 g2 : FuncData} {d1 : Value}
def spLPart (C : Addr) : Sp := fun vs H Q _ => ∃ (v : V) (q : Rat), vs = [v] ∧ Pt H v q ∧ ∀ H' x, Same H H' → Pw C H' x q → Q x H'
theorem scLPart : FnScope ["_law_pace"] ["_law_pace"] (defScope sLPart) := ⟨rfl, rfl, rfl, by decide +kernel, rfl, by decide +kernel, by decide +kernel⟩
theorem ok_lpart {f : Addr} {fd : FuncData} {k : Nat} (F : Fun K "_law_part" "_law_part" sLPart f fd) (N : Mks K mg C fi f1 f2 gi g1 g2 d1) (T : TxtP K mg C) : FnOk P w K mg base CX0 (k + 4) f fd ["_law_pace"] (spLPart C) := by
  have GI : FnOk P w K mg base CX0 (k + 2) fi gi ["self", "top", "bottom"] (spInit C) := ok_init N.F N.N1 N.N2 T
  refine F.ok scLPart (fun vs H Q E h => ?_) (fun cdv A outer s H vs Q E hr h => ?_)
  · obtain ⟨v, q, rfl, _⟩ := h
    rfl
  · obtain ⟨v, q, rfl, hv, h⟩ := h
    refine ⟨_, pss_cons (ps_if (pt_cmpR op_isN (pv 0) pe_non (nomark _)) (pss_one (ps_ret pe_non)) pss_nil)
      (pss_one (ps_ret (pe_make N.M GI hr (by rfl) T.mgC N.b3 .nil pass0 (pa_cons (pe_ix ix_tup (pv 0) pe_int (fun _ _ => rfl)) (pa_cons (pe_ix ix_tup (pv 0) pe_int (fun _ _ => rfl)) pa_nil))))), ?_⟩
    rcases hv with ⟨rfl, rfl⟩ | ⟨a, rfl, ea, p, z⟩
    · refine ⟨.non, rfl, rfl, _, rfl, ?_⟩
      rw [decide_eq_true rfl]
      exact iteT (h H .non (Same.refl _) (.inl ⟨rfl, rfl⟩))
    · refine ⟨.ref a, rfl, rfl, _, rfl, ?_⟩
      rw [decide_eq_false (fun z => nomatch z)]
      refine iteF ⟨.ref a, rfl, a, _, 0, .int q.num, rfl, rfl, SqT.of ea, rfl, .ref a, rfl, a, _, 1, .int (q.den : Int), rfl, rfl, SqT.of ea, rfl, ?_⟩
      refine made (den_ne q) (Nat.lt_of_lt_of_le (show ((q.den : Nat) : Int).natAbs < 2 ^ 4 from z.2) (Nat.pow_le_pow_right (by decide) (by decide))) ?_
      rw [Rat.num_divInt_den]
      exact fun H5 p5 s5 n5 w5 => h H5 (.ref p5) s5 (.inr ⟨p5, rfl, w5, p, z.mono (by decide)⟩)
def spSmall : Sp := fun vs H Q _ => ∃ c : Int, vs = [.int c] ∧ ∀ H' v q, Same H H' → Pt H' v q → Q v H'
abbrev nSm : List Str := ["_law_cell", "_law_way", "_law_one", "_law_two"]
theorem scLSmall : FnScope nSm ["_law_cell"] (defScope sLSmall) := ⟨rfl, rfl, rfl, by decide +kernel, rfl, by decide +kernel, by decide +kernel⟩
theorem ok_lsmall {f : Addr} {fd : FuncData} {k : Nat} (F : Fun K "_law_small_pace" "_law_small_pace" sLSmall f fd) (N1 : ∃ r s, Fn K mg "_law_drawn" sDrawn ["_law_cell", "_law_sizes"] r s) (N2 : ∃ r s, Fn K mg "_law_low" sLLow ["_law_top", "_law_bottom"] r s) (T : TxtP K mg C) : FnOk P w K mg base CX0 (k + 2) f fd ["_law_cell"] spSmall := by
  obtain ⟨r1, s1, N1⟩ := N1
  obtain ⟨r2, s2, N2⟩ := N2
  have G1 : FnOk P w K mg base CX0 (k + 1) r1 s1 ["_law_cell", "_law_sizes"] (spDrawn K) := ok_drawn N1.F T.len T.range
  have G2 : FnOk P w K mg base CX0 (k + 1) r2 s2 ["_law_top", "_law_bottom"] spLow := ok_low N2.F T
  refine F.ok scLSmall (fun vs H Q E h => ?_) (fun cdv A outer s H vs Q E hr h => ?_)
  · obtain ⟨c, rfl, _⟩ := h
    rfl
  · obtain ⟨c, rfl, q⟩ := h
    have nd := scLSmall.nd
    refine ⟨_, pss_cons (ps_asg (pe_call G1 hr (by rfl) N1.g N1.F.kp N1.b .nil pass0 (pa_cons (pv 0) (pa_cons (pe_lst (pa_cons pe_int (pa_cons pe_int (pa_cons pe_int pa_nil)))) pa_nil))) (pg_lst (by rfl) (pgs_cons (pg_name (i := 1) nd rfl (.inl rfl)) (pgs_cons (pg_name (i := 2) nd rfl (.inl rfl)) (pgs_cons (pg_name (i := 3) nd rfl (.inl rfl)) pgs_nil)))))
      (pss_cons (ps_if (pt_cmpR op_eq (pv 1) pe_int (nomark _)) (pss_one (ps_ret pe_non)) pss_nil)
      (pss_one (ps_ret (pe_call G2 hr (by rfl) N2.g N2.F.kp N2.b .nil pass0 (pa_cons (pe_op op_add pe_int (pv 2)) (pa_cons (pe_op op_add pe_int (pv 3)) pa_nil)))))), ?_⟩
    refine ⟨.int c, rfl, (by show 3 ≤ sizeLine; decide), fun l1 n1 => ?_⟩
    refine ⟨c, l1, [6, 9, 9], rfl, SqL.of upd_same, ?_, by decide, fun H1 p1 s1 n2 e1 => ?_⟩
    · intro z hz
      simp only [List.mem_cons, List.not_mem_nil, or_false] at hz
      rcases hz with rfl | rfl | rfl <;> exact ⟨by decide, by decide⟩
    obtain ⟨d0, d1, d2, ed, b0, b1, b2⟩ := draws3 (c := c) (z0 := 6) (z1 := 9) (z2 := 9) (by decide)
    rw [ed] at e1
    have sH1 : Same H H1 := (same_upd n1).trans s1
    refine ⟨p1, _, rfl, SqL.of e1, rfl, _, _, rfl, _, _, rfl, _, _, rfl, rfl, ?_⟩
    refine ⟨.int d0, rfl, rfl, _, rfl, ite2 (fun _ => q H1 .non 1 sH1 (.inl ⟨rfl, rfl⟩)) (fun _ => ?_)⟩
    refine ⟨.int d1, rfl, 1, d1, rfl, rfl, .int d2, rfl, 1, d2, rfl, rfl, 1 + d1, 1 + d2, rfl, by omega, ?_, fun H2 p2 s2 n2 e2 => ?_⟩
    · exact Nat.lt_of_lt_of_le (show (1 + d2).natAbs < 2 ^ 4 by omega) (Nat.pow_le_pow_right (by decide) (by decide))
    · exact q H2 (.ref p2) _ (sH1.trans s2) (.inr ⟨p2, rfl, e2, frac_above (by omega) (by omega), sz_divInt (by omega) (show (1 + d1).natAbs < 2 ^ 4 by omega) (show (1 + d2).natAbs < 2 ^ 4 by omega)⟩)
end
section
variable {P : Program} {w : World} {K : PySem.W.Frag} {mg : Str → Option Value} {base : Heap} {C : Addr}
/-! ### need_number, raised -/
theorem scNeedNum : FnScope ["thing", "least", "most"] ["thing", "least", "most"] (defScope sNeedNum) := ⟨rfl, rfl, rfl, by decide +kernel, rfl, by decide +kernel, by decide +kernel⟩
def spNum : Sp := fun vs H Q _ => ∃ i lo hi : Int, vs = [.int i, .int lo, .int hi] ∧ lo ≤ i ∧ i ≤ hi ∧ Q .non H
theorem ok_num {f f1 : Addr} {fd g1 : FuncData} {k : Nat} (F : Fun K "need_number" "need_number" sNeedNum f fd) (N1 : Fn K mg "is_whole" sIsWhole ["thing"] f1 g1) (T : TxtP K mg C) : FnOk P w K mg base CX0 (k + 2) f fd ["thing", "least", "most"] spNum := by
  have G1 : FnOk P w K mg base CX0 (k + 1) f1 g1 ["thing"] spWhole := ok_whole N1.F T
  refine F.ok scNeedNum (fun vs H Q E h => ?_) (fun cdv A outer s H vs Q E hr h => ?_)
  · obtain ⟨i, lo, hi, rfl, _⟩ := h
    rfl
  · obtain ⟨i, lo, hi, rfl, h1, h2, q⟩ := h
    refine ⟨_, pss_one (ps_if (PW.pt (pw_or (pt_not (pt_val (pe_call G1 hr (by rfl) N1.g N1.F.kp N1.b .nil pass0 (pa_cons (pv 0) pa_nil)))) (pw_or (pt_cmpR op_lt (pv 0) (pv 1) (nomark _)) (pw_or1 (pt_cmpR op_gt (pv 0) (pv 2) (nomark _)))))) (pss_one ps_never) pss_nil), ?_⟩
    refine ⟨.int i, rfl, i, rfl, true, rfl, iteF ⟨.int i, rfl, .int lo, rfl, _, _, rfl, rfl, _, rfl, ?_⟩⟩
    rw [decide_eq_false (show ¬ i < lo by omega)]
    refine iteF ⟨.int i, rfl, .int hi, rfl, _, _, rfl, rfl, _, rfl, ?_⟩
    rw [decide_eq_false (show ¬ i > hi by omega)]
    exact iteF q
end
end Hop

set_option Elab.async false
set_option linter.all false
set_option maxRecDepth 100000
namespace HopR
open PySem L2
/-! ### a list of values beside a list of what they are, by places -/
structure Al {α : Type} (R : V → α → Prop) (vs : List V) (zs : List α) : Prop where
  len : vs.length = zs.length
  at_ : ∀ (i : Nat) (v : V) (z : α), vs[i]? = some v → zs[i]? = some z → R v z
section
variable {α β : Type} {R S : V → α → Prop} {vs us : List V} {zs ys : List α} {v : V} {z : α}
theorem Al.nil : Al R [] [] := ⟨rfl, fun i v z h => by simp at h⟩
theorem Al.mono (h : Al R vs zs) (f : ∀ v z, R v z → S v z) : Al S vs zs := ⟨h.len, fun i v z a b => f v z (h.at_ i v z a b)⟩
theorem Al.monoM (h : Al R vs zs) (f : ∀ v z, v ∈ vs → R v z → S v z) : Al S vs zs := ⟨h.len, fun i v z a b => f v z (List.mem_of_getElem? a) (h.at_ i v z a b)⟩
theorem Al.app (h : Al R vs zs) (g : Al R us ys) : Al R (vs ++ us) (zs ++ ys) := by
  have hl := h.len
  refine ⟨by rw [List.length_append, List.length_append, hl, g.len], fun i v z a b => ?_⟩
  by_cases hi : i < vs.length
  · rw [List.getElem?_append_left hi] at a
    rw [List.getElem?_append_left (by omega)] at b
    exact h.at_ i v z a b
  · rw [List.getElem?_append_right (by omega)] at a
    rw [List.getElem?_append_right (by omega), ← hl] at b
    exact g.at_ _ v z a b
theorem Al.one (r : R v z) : Al R [v] [z] := ⟨rfl, fun i v' z' a b => by
  match i, a, b with
  | 0, a, b =>
    cases a
    cases b
    exact r⟩
theorem Al.snoc (h : Al R vs zs) (r : R v z) : Al R (vs ++ [v]) (zs ++ [z]) := h.app (.one r)
theorem Al.take (h : Al R vs zs) (n : Nat) : Al R (vs.take n) (zs.take n) := by
  refine ⟨by rw [List.length_take, List.length_take, h.len], fun i v z a b => ?_⟩
  rw [List.getElem?_take] at a b
  split at a
  · rename_i hi
    rw [if_pos hi] at b
    exact h.at_ i v z a b
  · cases a
theorem Al.drop (h : Al R vs zs) (n : Nat) : Al R (vs.drop n) (zs.drop n) := by
  refine ⟨by rw [List.length_drop, List.length_drop, h.len], fun i v z a b => ?_⟩
  rw [List.getElem?_drop] at a b
  exact h.at_ _ v z a b
theorem Al.get {i : Nat} (h : Al R vs zs) (a : vs[i]? = some v) : ∃ z, zs[i]? = some z ∧ R v z := by
  have hi := (List.getElem?_eq_some_iff.mp a).1
  have hl := h.len
  exact ⟨zs[i]'(by omega), List.getElem?_eq_getElem (by omega), h.at_ i v _ a (List.getElem?_eq_getElem (by omega))⟩
theorem Al.getz {i : Nat} (h : Al R vs zs) (b : zs[i]? = some z) : ∃ v, vs[i]? = some v ∧ R v z := by
  have hi := (List.getElem?_eq_some_iff.mp b).1
  have hl := h.len
  exact ⟨vs[i]'(by omega), List.getElem?_eq_getElem (by omega), h.at_ i _ z (List.getElem?_eq_getElem (by omega)) b⟩
theorem Al.map {f : α → β} {Q : V → β → Prop} (h : Al R vs zs) (g : ∀ v z, R v z → Q v (f z)) : Al Q vs (zs.map f) := ⟨by rw [List.length_map]; exact h.len, fun i v y a b => by
  rw [List.getElem?_map] at b
  obtain ⟨z, hz, rfl⟩ := Option.map_eq_some_iff.mp b
  exact g v z (h.at_ i v z a hz)⟩
end
end HopR

set_option Elab.async false
set_option linter.all false
set_option maxRecDepth 100000
namespace HopW
/-! ### all words of so many signs together, and such with signs told by their places -/
def gb (x : Rat) (g : Nat → Rat) : Nat → Rat := fun b => g (b + 1) + fg x g b
def gp (x : Rat) : List (Option Bool) → (Nat → Rat) → (Nat → Rat)
  | [], g => g
  | none :: p, g => gb x (gp x p g)
  | some b :: p, g => gf x [b] (gp x p g)
def ladd : List Nat → List Nat → List Nat
  | [], k => k
  | a :: l, [] => a :: l
  | a :: l, b :: k => (a + b) :: ladd l k
def tadd : List (List Nat) → List (List Nat) → List (List Nat)
  | [], k => k
  | a :: l, [] => a :: l
  | a :: l, b :: k => ladd a b :: tadd l k
def stp (T : List (List Nat)) : Option Bool → List (List Nat)
  | none => tadd (stT T true) (stT T false)
  | some b => stT T b
def tblp (p : List (Option Bool)) : List (List Nat) := p.foldl stp [[1]]
/-- the weights of all words of this form together -/
def pw (x y : Rat) (p : List (Option Bool)) : Rat := gp x p (fun b => y ^ b) 0
theorem lp_ladd (g : Nat → Rat) : ∀ l k : List Nat, lp g (ladd l k) = lp g l + lp g k := by
  intro l
  induction l generalizing g with
  | nil => intro k; show lp g k = 0 + lp g k; grind
  | cons a l ih =>
    intro k
    cases k with
    | nil => show lp g (a :: l) = lp g (a :: l) + 0; grind
    | cons b k =>
      show ((a + b : Nat) : Rat) * g 0 + lp (fun b => g (b + 1)) (ladd l k) = ((a : Rat) * g 0 + lp (fun b => g (b + 1)) l) + ((b : Rat) * g 0 + lp (fun b => g (b + 1)) k)
      rw [ih, cast_add]
      grind
theorem tp_tadd (x : Rat) (g : Nat → Rat) : ∀ S T : List (List Nat), tp x g (tadd S T) = tp x g S + tp x g T := by
  intro S
  induction S with
  | nil => intro T; show tp x g T = 0 + tp x g T; grind
  | cons a l ih =>
    intro T
    cases T with
    | nil => show tp x g (a :: l) = tp x g (a :: l) + 0; grind
    | cons b k =>
      show lp g (ladd a b) + x * tp x g (tadd l k) = (lp g a + x * tp x g l) + (lp g b + x * tp x g k)
      rw [ih, lp_ladd]
      grind
theorem lp_add (g h : Nat → Rat) : ∀ l : List Nat, lp (fun b => g b + h b) l = lp g l + lp h l := by
  intro l
  induction l generalizing g h with
  | nil => show (0 : Rat) = 0 + 0; grind
  | cons m l ih =>
    show (m : Rat) * (g 0 + h 0) + lp (fun b => g (b + 1) + h (b + 1)) l = ((m : Rat) * g 0 + lp (fun b => g (b + 1)) l) + ((m : Rat) * h 0 + lp (fun b => h (b + 1)) l)
    rw [ih]
    grind
theorem tp_add (x : Rat) (g h : Nat → Rat) : ∀ T : List (List Nat), tp x (fun b => g b + h b) T = tp x g T + tp x h T := by
  intro T
  induction T with
  | nil => show (0 : Rat) = 0 + 0; grind
  | cons l t ih =>
    show lp (fun b => g b + h b) l + x * tp x (fun b => g b + h b) t = (lp g l + x * tp x g t) + (lp h l + x * tp x h t)
    rw [ih, lp_add]
    grind
theorem tp_stp (x : Rat) (g : Nat → Rat) (T : List (List Nat)) (s : Option Bool) : tp x g (stp T s) = tp x (gp x [s] g) T := by
  cases s with
  | some b => exact tp_st x g T b
  | none =>
    show tp x g (tadd (stT T true) (stT T false)) = tp x (fun b => g (b + 1) + fg x g b) T
    rw [tp_tadd, tp_st, tp_st, tp_add]
    rfl
theorem gp_app (x : Rat) (g : Nat → Rat) : ∀ u v : List (Option Bool), gp x (u ++ v) g = gp x u (gp x v g)
  | [], _ => rfl
  | none :: u, v => by
    show gb x (gp x (u ++ v) g) = gb x (gp x u (gp x v g))
    rw [gp_app x g u v]
  | some b :: u, v => by
    show gf x [b] (gp x (u ++ v) g) = gf x [b] (gp x u (gp x v g))
    rw [gp_app x g u v]
theorem tp_foldp (x : Rat) (g : Nat → Rat) : ∀ (p : List (Option Bool)) (T : List (List Nat)), tp x g (p.foldl stp T) = tp x (gp x p g) T := by
  intro p
  induction p with
  | nil => intro T; rfl
  | cons s p ih =>
    intro T
    show tp x g (p.foldl stp (stp T s)) = _
    rw [ih, tp_stp]
    show tp x (gp x [s] (gp x p g)) T = _
    rw [← gp_app]
    rfl
theorem tp_one (x : Rat) (h : Nat → Rat) : tp x h [[1]] = h 0 := by
  show (((1 : Nat) : Rat) * h 0 + 0) + x * 0 = _
  grind
theorem pw_tbl (x y : Rat) (p : List (Option Bool)) : tp x (fun b => y ^ b) (tblp p) = pw x y p := by
  unfold tblp pw
  rw [tp_foldp, tp_one]
/-! ### all ends as often as each other -/
def dt : List Nat → List (List Nat)
  | [] => []
  | m :: l => (m :: l) :: dt l
def ot : Nat → List Nat
  | 0 => [1]
  | n + 1 => 0 :: sfx (ot n)
theorem lp_sfx2 (h : Nat → Rat) : ∀ (l : List Nat) (m : Nat), lp h (sfx (m :: l)) = lp h (m :: l) + lp h (sfx l) := by
  intro l
  induction l generalizing h with
  | nil => intro m; show (((m + 0 : Nat) : Rat) * h 0 + 0) = ((m : Rat) * h 0 + 0) + 0; rw [Nat.add_zero]; grind
  | cons m' l ih =>
    intro m
    show ((m + (m' :: l).sum : Nat) : Rat) * h 0 + lp (fun b => h (b + 1)) (sfx (m' :: l)) = ((m : Rat) * h 0 + lp (fun b => h (b + 1)) (m' :: l)) + (((m' + l.sum : Nat) : Rat) * h 0 + lp (fun b => h (b + 1)) (sfx l))
    rw [ih, List.sum_cons, cast_add]
    grind
theorem tp_dt (x : Rat) (g : Nat → Rat) : ∀ l : List Nat, tp x g (dt (0 :: sfx l)) = tp x (gb x g) (dt l) := by
  intro l
  induction l with
  | nil => show (((0 : Nat) : Rat) * g 0 + 0) + x * 0 = 0; grind
  | cons m l ih =>
    have ih : (((0 : Nat) : Rat) * g 0 + lp (fun b => g (b + 1)) (sfx l)) + x * tp x g (dt (sfx l)) = tp x (gb x g) (dt l) := ih
    have e : lp (gb x g) (m :: l) = lp (fun b => g (b + 1)) (m :: l) + lp (fg x g) (m :: l) := lp_add _ _ _
    have e2 := lp_fg x g (m :: l)
    have e3 := lp_sfx2 (fun b => g (b + 1)) l m
    rw [List.tail_cons] at e2
    show (((0 : Nat) : Rat) * g 0 + lp (fun b => g (b + 1)) (sfx (m :: l))) + x * ((((m + l.sum : Nat) : Rat) * g 0 + lp (fun b => g (b + 1)) (sfx l)) + x * tp x g (dt (sfx l))) = lp (gb x g) (m :: l) + x * tp x (gb x g) (dt l)
    rw [e, e2, e3, ← ih, List.sum_cons]
    grind
theorem tp_ot (x : Rat) : ∀ (n : Nat) (g : Nat → Rat), tp x g (dt (ot n)) = gp x (List.replicate n none) g 0 := by
  intro n
  induction n with
  | zero => intro g; exact tp_one x g
  | succ n ih =>
    intro g
    show tp x g (dt (0 :: sfx (ot n))) = _
    rw [tp_dt, ih, List.replicate_succ', gp_app]
    rfl
theorem pw_all (x y : Rat) (n : Nat) : tp x (fun b => y ^ b) (dt (ot n)) = pw x y (List.replicate n none) := tp_ot x n _
/-! ### what these weights keep -/
theorem fg_add (x : Rat) (h k : Nat → Rat) (b : Nat) : fg x (fun j => h j + k j) b = fg x h b + fg x k b := by
  unfold fg
  rw [show (fun j => (fun j => h j + k j) (j + 1)) = fun j => (fun j => h (j + 1)) j + (fun j => k (j + 1)) j from rfl, sg_add]
  grind
theorem fg_mul (x c : Rat) (h : Nat → Rat) (b : Nat) : fg x (fun j => c * h j) b = c * fg x h b := by
  unfold fg
  rw [show (fun j => (fun j => c * h j) (j + 1)) = fun j => c * (fun j => h (j + 1)) j from rfl, sg_mul]
  grind
theorem gp_add (x : Rat) (h k : Nat → Rat) : ∀ (p : List (Option Bool)), gp x p (fun j => h j + k j) = fun b => gp x p h b + gp x p k b := by
  intro p
  induction p with
  | nil => rfl
  | cons s p ih =>
    funext b
    match s with
    | none =>
      show gp x p (fun j => h j + k j) (b + 1) + fg x (gp x p (fun j => h j + k j)) b = (gp x p h (b + 1) + fg x (gp x p h) b) + (gp x p k (b + 1) + fg x (gp x p k) b)
      rw [ih, fg_add]
      grind
    | some true =>
      show gp x p (fun j => h j + k j) (b + 1) = _
      rw [ih]
      rfl
    | some false =>
      show fg x (gp x p (fun j => h j + k j)) b = fg x (gp x p h) b + fg x (gp x p k) b
      rw [ih, fg_add]
theorem gp_mul (x c : Rat) (h : Nat → Rat) : ∀ (p : List (Option Bool)), gp x p (fun j => c * h j) = fun b => c * gp x p h b := by
  intro p
  induction p with
  | nil => rfl
  | cons s p ih =>
    funext b
    match s with
    | none =>
      show gp x p (fun j => c * h j) (b + 1) + fg x (gp x p (fun j => c * h j)) b = c * (gp x p h (b + 1) + fg x (gp x p h) b)
      rw [ih, fg_mul]
      grind
    | some true =>
      show gp x p (fun j => c * h j) (b + 1) = _
      rw [ih]
      rfl
    | some false =>
      show fg x (gp x p (fun j => c * h j)) b = c * fg x (gp x p h) b
      rw [ih, fg_mul]
/-- where either sign may stand -/
theorem pw_none (x y : Rat) (p q : List (Option Bool)) : pw x y (p ++ none :: q) = pw x y (p ++ some true :: q) + pw x y (p ++ some false :: q) := by
  unfold pw
  rw [gp_app, gp_app, gp_app]
  show gp x p (fun b => gp x q (fun b => y ^ b) (b + 1) + fg x (gp x q (fun b => y ^ b)) b) 0 = _
  rw [gp_add]
  rfl
theorem pw_of (x y : Rat) (p q : List (Option Bool)) : pw x y (p ++ some true :: some false :: q) = pw x y (p ++ some true :: q) + pw x y (p ++ some false :: q) := by
  unfold pw
  rw [gp_app, gp_app, gp_app]
  have key : ∀ G : Nat → Rat, gp x p (fun b => fg x G (b + 1)) 0 = gp x p (fun b => G (b + 1)) 0 + gp x p (fg x G) 0 := fun G => by
    rw [show (fun b => fg x G (b + 1)) = fun b => (fun b => G (b + 1)) b + (fg x G) b from funext fun b => by
      unfold fg
      rw [sg_last]
      grind, gp_add]
  exact key _
theorem gp_word (x : Rat) (g : Nat → Rat) : ∀ w : List Bool, gp x (w.map some) g = gf x w g
  | [] => rfl
  | true :: w => by
    show (fun b => gp x (w.map some) g (b + 1)) = fun b => gf x w g (b + 1)
    rw [gp_word x g w]
  | false :: w => by
    show fg x (gp x (w.map some) g) = fg x (gf x w g)
    rw [gp_word x g w]
theorem pw_word (x y : Rat) (w : List Bool) : pw x y (w.map some) = wt x y w := by
  unfold pw wt
  rw [gp_word]
theorem pw_free (x y : Rat) (p : List (Option Bool)) : pw x y (some false :: p) = x * pw x y p := by
  show x * gp x p (fun b => y ^ b) 0 + 0 = x * gp x p (fun b => y ^ b) 0
  grind
theorem pw_bead (x y : Rat) (p : List (Option Bool)) : pw x y (p ++ [some true]) = y * pw x y p := by
  unfold pw
  rw [gp_app]
  show gp x p (fun b => y ^ (b + 1)) 0 = _
  rw [show (fun b => y ^ (b + 1)) = fun b => y * (fun b => y ^ b) b from funext fun b => by
    show y ^ (b + 1) = y * y ^ b
    rw [Rat.pow_succ, Rat.mul_comm], gp_mul]
/-! ### in the mirror -/
def mw (w : List Bool) : List Bool := (w.map not).reverse
def mp (p : List (Option Bool)) : List (Option Bool) := (p.map (Option.map not)).reverse
theorem mw_app (u v : List Bool) : mw (u ++ v) = mw v ++ mw u := by
  unfold mw
  rw [List.map_append, List.reverse_append]
theorem mp_app (u v : List (Option Bool)) : mp (u ++ v) = mp v ++ mp u := by
  unfold mp
  rw [List.map_append, List.reverse_append]
theorem mp_word (w : List Bool) : mp (w.map some) = (mw w).map some := by
  unfold mp mw
  rw [List.map_map, List.map_reverse, List.map_map]
  rfl
theorem kinds_of : ∀ v : List Bool, (∃ u, true :: v = u ++ [true]) ∨ ∃ u r, true :: v = u ++ true :: false :: r
  | [] => .inl ⟨[], rfl⟩
  | false :: v => .inr ⟨[], v, rfl⟩
  | true :: v => by
    rcases kinds_of v with ⟨u, e⟩ | ⟨u, r, e⟩
    · exact .inl ⟨true :: u, by rw [e]; rfl⟩
    · exact .inr ⟨true :: u, r, by rw [e]; rfl⟩
theorem wt_mw (x y : Rat) : ∀ (n : Nat) (w : List Bool), w.length = n → wt x y w = wt y x (mw w) := by
  intro n
  induction n using Nat.strongRecOn with
  | ind n ih =>
    intro w hn
    match w, hn with
    | [], _ =>
      show y ^ 0 = x ^ 0
      rw [Rat.pow_zero, Rat.pow_zero]
    | false :: v, hn =>
      rw [wt_free, ih v.length (by rw [← hn]; exact Nat.lt_succ_self _) v rfl, show mw (false :: v) = mw v ++ [true] from mw_app [false] v, wt_bead]
    | true :: v, hn =>
      rcases kinds_of v with ⟨u, e⟩ | ⟨u, r, e⟩
      · rw [e] at hn ⊢
        rw [List.length_append] at hn
        rw [wt_bead, ih u.length (by rw [← hn]; exact Nat.lt_succ_self _) u rfl, mw_app]
        show _ = wt y x (false :: mw u)
        rw [wt_free]
      · rw [e] at hn ⊢
        rw [List.length_append] at hn
        have hn : u.length + (r.length + 2) = n := hn
        have e1 : mw (u ++ true :: false :: r) = mw r ++ true :: false :: mw u := by
          rw [mw_app, show mw (true :: false :: r) = mw r ++ [true, false] from mw_app [true, false] r, List.append_assoc]
          rfl
        have e2 : mw (u ++ true :: r) = mw r ++ false :: mw u := by
          rw [mw_app, show mw (true :: r) = mw r ++ [false] from mw_app [true] r, List.append_assoc]
          rfl
        have e3 : mw (u ++ false :: r) = mw r ++ true :: mw u := by
          rw [mw_app, show mw (false :: r) = mw r ++ [true] from mw_app [false] r, List.append_assoc]
          rfl
        have l1 : (u ++ true :: r).length = n - 1 := by
          rw [List.length_append]
          show u.length + (r.length + 1) = _
          omega
        have l2 : (u ++ false :: r).length = n - 1 := by
          rw [List.length_append]
          show u.length + (r.length + 1) = _
          omega
        rw [wt_of, ih (n - 1) (by omega) _ l1, ih (n - 1) (by omega) _ l2, e1, e2, e3, wt_of]
        grind
theorem pw_mirror (x y : Rat) : ∀ (p : List (Option Bool)) (w : List Bool), pw x y (w.map some ++ p) = pw y x (mp p ++ (mw w).map some) := by
  intro p
  induction p with
  | nil =>
    intro w
    rw [List.append_nil, pw_word, wt_mw x y _ w rfl, ← pw_word]
    rfl
  | cons s p ih =>
    intro w
    have hs : ∀ b, pw x y (w.map some ++ some b :: p) = pw y x (mp p ++ some (!b) :: (mw w).map some) := fun b => by
      have := ih (w ++ [b])
      rw [List.map_append, List.append_assoc, mw_app] at this
      exact this
    have hm : ∀ s, mp (s :: p) ++ (mw w).map some = mp p ++ Option.map not s :: (mw w).map some := fun s => by
      rw [show mp (s :: p) = mp p ++ [Option.map not s] from mp_app [s] p, List.append_assoc]
      rfl
    rw [hm]
    cases s with
    | some b => exact hs b
    | none =>
      rw [pw_none, hs, hs]
      show _ = pw y x (mp p ++ none :: (mw w).map some)
      rw [pw_none]
      show pw y x (mp p ++ some false :: _) + pw y x (mp p ++ some true :: _) = _
      grind
theorem pw_mp (x y : Rat) (p : List (Option Bool)) : pw x y p = pw y x (mp p) := by
  have := pw_mirror x y p []
  rw [show mw [] = [] from rfl, List.map_nil, List.append_nil] at this
  exact this
/-! ### paces that come to one -/
theorem gp_one {x y : Rat} (h : x * y = x + y) : ∀ (p : List (Option Bool)) (b : Nat), gp x p (fun b => y ^ b) b = x ^ (p.count (some false)) * y ^ (p.count (some true)) * (x * y) ^ (p.count none) * y ^ b := by
  intro p
  induction p with
  | nil => intro b; show y ^ b = x ^ 0 * y ^ 0 * (x * y) ^ 0 * y ^ b; rw [Rat.pow_zero, Rat.pow_zero, Rat.pow_zero]; grind
  | cons s p ih =>
    intro b
    have ef : fg x (gp x p (fun b => y ^ b)) b = x * (x ^ (p.count (some false)) * y ^ (p.count (some true)) * (x * y) ^ (p.count none)) * y ^ b := by
      rw [show gp x p (fun b => y ^ b) = fun j => (x ^ (p.count (some false)) * y ^ (p.count (some true)) * (x * y) ^ (p.count none)) * (fun j => y ^ j) j from funext fun j => ih j, fg_mul]
      have e := sg_pow h b
      show _ * (x * y ^ 0 + sg (fun j => y ^ (j + 1)) b) = _
      rw [Rat.pow_zero, Rat.mul_one, e]
      grind
    match s with
    | some true =>
      show gp x p (fun b => y ^ b) (b + 1) = _
      rw [ih, List.count_cons_of_ne (by decide), List.count_cons_self, List.count_cons_of_ne (by decide), Rat.pow_succ, Rat.pow_succ]
      grind
    | some false =>
      show fg x (gp x p (fun b => y ^ b)) b = _
      rw [ef, List.count_cons_self, List.count_cons_of_ne (by decide), List.count_cons_of_ne (by decide), Rat.pow_succ]
      grind
    | none =>
      show gp x p (fun b => y ^ b) (b + 1) + fg x (gp x p (fun b => y ^ b)) b = _
      rw [ef, ih, List.count_cons_of_ne (by decide), List.count_cons_of_ne (by decide), List.count_cons_self, Rat.pow_succ, Rat.pow_succ, h]
      grind
theorem pw_one {x y : Rat} (h : x * y = x + y) (p : List (Option Bool)) : pw x y p = x ^ (p.count (some false)) * y ^ (p.count (some true)) * (x * y) ^ (p.count none) := by
  unfold pw
  rw [gp_one h, Rat.pow_zero, Rat.mul_one]
/-! ### above nought -/
theorem sg_nn {h : Nat → Rat} : ∀ {b : Nat}, (∀ j, 0 < h j) → 0 ≤ sg h b := by
  intro b
  induction b generalizing h with
  | zero => intro _; exact Rat.le_refl
  | succ b ih =>
    intro p
    have h1 := p 0
    have h2 := ih (h := fun j => h (j + 1)) (fun j => p (j + 1))
    show 0 ≤ h 0 + sg (fun j => h (j + 1)) b
    grind
theorem fg_pos {x : Rat} {h : Nat → Rat} (hx : 0 < x) (p : ∀ j, 0 < h j) (b : Nat) : 0 < fg x h b := by
  have h1 := sg_nn (h := fun j => h (j + 1)) (b := b) (fun j => p (j + 1))
  have h2 : 0 < x * h 0 := Rat.mul_pos hx (p 0)
  show 0 < x * h 0 + sg (fun j => h (j + 1)) b
  grind
theorem gp_pos {x : Rat} (hx : 0 < x) {g : Nat → Rat} (hg : ∀ j, 0 < g j) : ∀ (p : List (Option Bool)) (b : Nat), 0 < gp x p g b := by
  intro p
  induction p with
  | nil => exact hg
  | cons s p ih =>
    intro b
    match s with
    | none =>
      have h1 := ih (b + 1)
      have h2 := fg_pos hx ih b
      show 0 < gp x p g (b + 1) + fg x (gp x p g) b
      grind
    | some true => exact ih (b + 1)
    | some false => exact fg_pos hx ih b
theorem ypow_pos {y : Rat} (hy : 0 < y) : ∀ b : Nat, 0 < y ^ b
  | 0 => by rw [Rat.pow_zero]; decide
  | b + 1 => by rw [Rat.pow_succ]; exact Rat.mul_pos (ypow_pos hy b) hy
theorem pw_pos {x y : Rat} (hx : 0 < x) (hy : 0 < y) (p : List (Option Bool)) : 0 < pw x y p := gp_pos hx (ypow_pos hy) p 0
end HopW

set_option Elab.async false
set_option linter.all false
set_option maxRecDepth 100000
namespace HopW
/-! ### signs told by their places -/
def pat (n : Nat) (S : Nat → Option Bool) : List (Option Bool) := (List.range n).map S
def upS (S : Nat → Option Bool) (j : Nat) (v : Option Bool) : Nat → Option Bool := fun i => if i = j then v else S i
theorem pat_congr {n : Nat} {S T : Nat → Option Bool} (h : ∀ i, i < n → S i = T i) : pat n S = pat n T := List.map_congr_left fun i hi => h i (List.mem_range.mp hi)
theorem pat_none (n : Nat) : pat n (fun _ => none) = List.replicate n none := by
  unfold pat
  rw [List.map_const', List.length_range]
theorem pat_up {n j : Nat} (h : j < n) (S : Nat → Option Bool) (v : Option Bool) : pat n (upS S j v) = (List.range j).map S ++ v :: (List.range (n - 1 - j)).map fun i => S (j + 1 + i) := by
  unfold pat
  obtain ⟨k, rfl⟩ : ∃ k, n = j + (k + 1) := ⟨n - 1 - j, by omega⟩
  rw [List.range_add, List.map_append, List.range_succ_eq_map, List.map_cons, List.map_cons, show j + (k + 1) - 1 - j = k by omega]
  congr 1
  · exact List.map_congr_left fun i hi => if_neg (by have := List.mem_range.mp hi; omega)
  · congr 1
    · show (if j + 0 = j then v else _) = v
      rw [if_pos (Nat.add_zero j)]
    · rw [List.map_map, List.map_map]
      refine List.map_congr_left fun i _ => ?_
      show (if j + (i + 1) = j then v else S (j + (i + 1))) = S (j + 1 + i)
      rw [if_neg (by omega), show j + (i + 1) = j + 1 + i by omega]
theorem pat_split (x y : Rat) {n j : Nat} (h : j < n) (S : Nat → Option Bool) : pw x y (pat n (upS S j none)) = pw x y (pat n (upS S j (some true))) + pw x y (pat n (upS S j (some false))) := by
  rw [pat_up h, pat_up h, pat_up h, pw_none]
theorem pat_mp (n : Nat) (S : Nat → Option Bool) : mp (pat n S) = pat n fun i => Option.map not (S (n - 1 - i)) := by
  unfold mp pat
  rw [List.map_map]
  refine List.ext_getElem (by rw [List.length_reverse, List.length_map, List.length_map]) fun i h1 h2 => ?_
  rw [List.length_map, List.length_range] at h2
  rw [List.getElem_reverse, List.getElem_map, List.getElem_range, List.getElem_map, List.getElem_range, List.length_map, List.length_range]
  rfl
theorem pat_mirror (x y : Rat) (n : Nat) (S : Nat → Option Bool) : pw x y (pat n S) = pw y x (pat n fun i => Option.map not (S (n - 1 - i))) := by
  rw [pw_mp, pat_mp]
theorem all_mirror (x y : Rat) (n : Nat) : pw x y (List.replicate n none) = pw y x (List.replicate n none) := by
  rw [← pat_none, pat_mirror]
  rfl
theorem up_none (S : Nat → Option Bool) (j : Nat) (h : S j = none) : upS S j none = S := funext fun i => by
  unfold upS
  by_cases e : i = j
  · rw [if_pos e, e, h]
  · rw [if_neg e]
theorem up_comm (S : Nat → Option Bool) {i j : Nat} (h : i ≠ j) (a b : Option Bool) : upS (upS S i a) j b = upS (upS S j b) i a := funext fun l => by
  unfold upS
  by_cases e : l = j
  · rw [if_pos e, if_neg (by omega), if_pos e]
  · rw [if_neg e]
    by_cases e2 : l = i
    · rw [if_pos e2, if_pos e2]
    · rw [if_neg e2, if_neg e2, if_neg e]
def zS : Nat → Option Bool := fun _ => none
/-- a bead at a place, or none in the mirror -/
theorem one_mirror (x y : Rat) {n j : Nat} (h : j < n) : pw x y (pat n (upS zS j (some true))) + pw y x (pat n (upS zS (n - 1 - j) (some true))) = pw x y (List.replicate n none) := by
  have e := pat_split x y h zS
  rw [up_none zS j rfl, show pat n zS = List.replicate n none from pat_none n] at e
  rw [e, pat_mirror y x n (upS zS (n - 1 - j) (some true))]
  congr 2
  refine pat_congr fun i hi => ?_
  unfold upS zS
  by_cases c : i = j
  · rw [if_pos (by omega), if_pos c]
    rfl
  · rw [if_neg (by omega), if_neg c]
    rfl
theorem two_mirror (x y : Rat) {n i j : Nat} (hi : i < n) (hj : j < n) (hij : i ≠ j) : pw x y (pat n (upS (upS zS i (some true)) j (some true))) + pw x y (List.replicate n none) =
    pw x y (pat n (upS zS i (some true))) + pw x y (pat n (upS zS j (some true))) + pw y x (pat n (upS (upS zS (n - 1 - i) (some true)) (n - 1 - j) (some true))) := by
  have e0 := pat_split x y hi zS
  rw [up_none zS i rfl, show pat n zS = List.replicate n none from pat_none n] at e0
  have e1 := pat_split x y hj (upS zS i (some true))
  rw [up_none _ j (show upS zS i (some true) j = none from if_neg (by omega))] at e1
  have e2 := pat_split x y hj (upS zS i (some false))
  rw [up_none _ j (show upS zS i (some false) j = none from if_neg (by omega))] at e2
  have e3 := pat_split x y hi (upS zS j (some true))
  rw [up_none _ i (show upS zS j (some true) i = none from if_neg hij), ← up_comm zS hij (some true) (some true), ← up_comm zS hij (some false) (some true)] at e3
  have e4 : pw y x (pat n (upS (upS zS (n - 1 - i) (some true)) (n - 1 - j) (some true))) = pw x y (pat n (upS (upS zS i (some false)) j (some false))) := by
    rw [pat_mirror y x]
    congr 1
    refine pat_congr fun l hl => ?_
    unfold upS zS
    by_cases c : l = j
    · rw [if_pos (by omega), if_pos c]
      rfl
    · rw [if_neg (by omega), if_neg c]
      by_cases c2 : l = i
      · rw [if_pos (by omega), if_pos c2]
        rfl
      · rw [if_neg (by omega), if_neg c2]
        rfl
  rw [e4]
  grind
end HopW

set_option Elab.async false
set_option linter.all false
set_option maxRecDepth 100000
namespace HopW
open L2
/-! ### a dict that counts -/
section
variable {α κ : Type} [DecidableEq α] [DecidableEq κ]
def zv (ι : α → κ) (l : List (α × Int)) : List (κ × V) := l.map fun p => (ι p.1, .int p.2)
def gz (k : α) : List (α × Int) → Int
  | [] => 0
  | (j, v) :: l => if j = k then v else gz k l
def pz (k : α) (c : Int) : List (α × Int) → List (α × Int)
  | [] => [(k, c)]
  | (j, v) :: l => if j = k then (j, v + c) :: l else (j, v) :: pz k c l
def ds (φ : α → Rat) : List (α × Int) → Rat
  | [] => 0
  | (j, v) :: l => (v : Rat) * φ j + ds φ l
/-- the keys are told once each -/
def Once (l : List (α × Int)) : Prop := (l.map (·.1)).Nodup
theorem val_zv {ι : α → κ} (inj : ∀ a b, ι a = ι b → a = b) (k : α) : ∀ l : List (α × Int), (valV (zv ι l) (ι k)).getD (.int 0) = .int (gz k l)
  | [] => rfl
  | (j, v) :: l => by
    show (valV ((ι j, V.int v) :: zv ι l) (ι k)).getD (.int 0) = .int (if j = k then v else gz k l)
    by_cases e : j = k
    · rw [if_pos e, valV_pos (by rw [e])]; rfl
    · rw [if_neg e, valV_neg (fun z => e (inj _ _ z))]
      exact val_zv inj k l
theorem val_in {ι : α → κ} (inj : ∀ a b, ι a = ι b → a = b) {k : α} : ∀ {l : List (α × Int)} {i : Nat} {c : Int}, Once l → l[i]? = some (k, c) → valV (zv ι l) (ι k) = some (.int c)
  | (j, v) :: l, 0, c, _, h => by
    obtain ⟨rfl, rfl⟩ := Prod.mk.inj (Option.some.inj h)
    exact valV_pos rfl
  | (j, v) :: l, i + 1, c, o, h => by
    have o' : (j :: l.map (·.1)).Nodup := o
    have h' : l[i]? = some (k, c) := h
    obtain ⟨n1, n2⟩ := List.nodup_cons.mp o'
    have m : k ∈ l.map (·.1) := List.mem_map.mpr ⟨(k, c), List.mem_of_getElem? h', rfl⟩
    refine (valV_neg (fun z => n1 ?_)).trans (val_in inj (i := i) n2 h')
    rw [inj _ _ (show ι j = ι k from z)]; exact m
theorem no_key {ι : α → κ} (inj : ∀ a b, ι a = ι b → a = b) {k : α} : ∀ {l : List (α × Int)}, k ∉ l.map (·.1) → valV (zv ι l) (ι k) = none ∧ ∀ x, (zv ι l).map (fun kv => if kv.1 = ι k then (kv.1, x) else kv) = zv ι l
  | [], _ => ⟨rfl, fun _ => rfl⟩
  | (j, v) :: l, h => by
    have h' : k ∉ j :: l.map (·.1) := h
    have n1 : ¬ ι j = ι k := fun z => h' (by rw [inj _ _ z]; exact List.mem_cons_self ..)
    obtain ⟨a, b⟩ := no_key inj (l := l) (fun m => h' (List.mem_cons_of_mem _ m))
    refine ⟨(valV_neg n1).trans a, fun x => ?_⟩
    show (if ι j = ι k then (ι j, x) else (ι j, V.int v)) :: (zv ι l).map _ = (ι j, V.int v) :: zv ι l
    rw [if_neg n1, b x]
theorem any_zv {ι : α → κ} (k : α) (l : List (α × Int)) : ((zv ι l).any fun kv => decide (kv.1 = ι k)) = (valV (zv ι l) (ι k)).isSome := valV_any (ι k) _
theorem put_zv {ι : α → κ} (inj : ∀ a b, ι a = ι b → a = b) (k : α) (c : Int) : ∀ {l : List (α × Int)}, Once l → putK (zv ι l) (ι k) (.int (gz k l + c)) = zv ι (pz k c l)
  | [], _ => by
    rw [putK_new _ (show valV (zv ι ([] : List (α × Int))) (ι k) = none from rfl)]
    show [(ι k, V.int (0 + c))] = [(ι k, V.int c)]
    rw [Int.zero_add]
  | (j, v) :: l, o => by
    have o' : (j :: l.map (·.1)).Nodup := o
    obtain ⟨n1, n2⟩ := List.nodup_cons.mp o'
    by_cases e : j = k
    · subst e
      show putK ((ι j, V.int v) :: zv ι l) (ι j) (.int ((if j = j then v else gz j l) + c)) = zv ι (if j = j then (j, v + c) :: l else _)
      rw [if_pos rfl, if_pos rfl]
      have q := (no_key inj n1).2 (.int (v + c))
      unfold putK
      rw [if_pos (by simp)]
      show (if ι j = ι j then (ι j, V.int (v + c)) else _) :: (zv ι l).map _ = (ι j, V.int (v + c)) :: zv ι l
      rw [if_pos rfl, q]
    · have n3 : ¬ ι j = ι k := fun z => e (inj _ _ z)
      have ih := put_zv inj k c n2
      show putK ((ι j, V.int v) :: zv ι l) (ι k) (.int ((if j = k then v else gz k l) + c)) = zv ι (if j = k then _ else (j, v) :: pz k c l)
      rw [if_neg e, if_neg e]
      show _ = (ι j, V.int v) :: zv ι (pz k c l)
      rw [← ih]
      generalize V.int (gz k l + c) = x
      unfold putK
      rw [List.any_cons, show decide ((ι j, V.int v).1 = ι k) = false from decide_eq_false n3, Bool.false_or, List.map_cons, if_neg n3]
      by_cases t : ((zv ι l).any fun kv => decide (kv.1 = ι k)) = true
      · rw [if_pos t, if_pos t]
      · rw [if_neg t, if_neg t]; rfl
theorem ds_pz (φ : α → Rat) (k : α) (c : Int) : ∀ l : List (α × Int), ds φ (pz k c l) = ds φ l + (c : Rat) * φ k
  | [] => by show (c : Rat) * φ k + 0 = 0 + (c : Rat) * φ k; grind
  | (j, v) :: l => by
    unfold pz
    split
    · rename_i e; subst e
      show ((v + c : Int) : Rat) * φ j + ds φ l = (v : Rat) * φ j + ds φ l + (c : Rat) * φ j
      rw [Rat.intCast_add]; grind
    · show (v : Rat) * φ j + ds φ (pz k c l) = (v : Rat) * φ j + ds φ l + (c : Rat) * φ k
      rw [ds_pz φ k c l]; grind
theorem keys_pz {k x : α} {c : Int} : ∀ {l : List (α × Int)}, x ∈ (pz k c l).map (·.1) → x = k ∨ x ∈ l.map (·.1)
  | [], h => .inl (by simpa [pz] using h)
  | (j, v) :: l, h => by
    unfold pz at h
    split at h
    · exact .inr h
    · rcases List.mem_cons.mp h with e | m
      · exact .inr (by rw [e]; exact List.mem_cons_self ..)
      · rcases keys_pz m with e | m
        · exact .inl e
        · exact .inr (List.mem_cons_of_mem _ m)
theorem once_pz {k : α} {c : Int} : ∀ {l : List (α × Int)}, Once l → Once (pz k c l)
  | [], _ => by simp [Once, pz]
  | (j, v) :: l, o => by
    have o' : (j :: l.map (·.1)).Nodup := o
    obtain ⟨n1, n2⟩ := List.nodup_cons.mp o'
    unfold pz
    split
    · exact o
    · rename_i e
      exact List.nodup_cons.mpr ⟨fun m => (keys_pz m).elim e n1, once_pz n2⟩
theorem len_pz (k : α) (c : Int) : ∀ l : List (α × Int), (pz k c l).length ≤ l.length + 1
  | [] => Nat.le_refl _
  | (j, v) :: l => by
    unfold pz
    split
    · exact Nat.le_succ _
    · exact Nat.succ_le_succ (len_pz k c l)
theorem ds_app (φ : α → Rat) : ∀ l m : List (α × Int), ds φ (l ++ m) = ds φ l + ds φ m
  | [], m => by show ds φ m = 0 + ds φ m; grind
  | (j, v) :: l, m => by show (v : Rat) * φ j + ds φ (l ++ m) = (v : Rat) * φ j + ds φ l + ds φ m; rw [ds_app φ l m]; grind
theorem ds_take {φ : α → Rat} {l : List (α × Int)} {i : Nat} {k : α} {c : Int} (h : l[i]? = some (k, c)) : ds φ (l.take (i + 1)) = ds φ (l.take i) + (c : Rat) * φ k := by
  rw [List.take_succ, h, ds_app]
  show ds φ (l.take i) + ((c : Rat) * φ k + 0) = _
  grind
end
/-! ### a word without a bead before a free place -/
theorem wt_rest (x y : Rat) (f b : Nat) : wt x y (List.replicate f false ++ List.replicate b true) = x ^ f * y ^ b := by
  induction f with
  | zero =>
    induction b with
    | zero => simp [wt, gf]
    | succ b ih =>
      rw [List.replicate_succ', ← List.append_assoc, wt_bead, ih]
      grind
  | succ f ih =>
    rw [List.replicate_succ, List.cons_append, wt_free, ih]
    grind
end HopW

set_option Elab.async false
set_option linter.all false
set_option maxRecDepth 100000
namespace HopW
open L2
theorem all_pz {α : Type} [DecidableEq α] {R : α → Prop} {k : α} {c : Int} (hk : R k) (hc : 0 ≤ c) : ∀ {l : List (α × Int)}, (∀ p ∈ l, R p.1 ∧ 0 ≤ p.2) → ∀ p ∈ pz k c l, R p.1 ∧ 0 ≤ p.2
  | [], _, p, m => by
    obtain rfl := List.mem_singleton.mp m
    exact ⟨hk, hc⟩
  | (j, v) :: l, h, p, m => by
    have h0 := h _ (List.mem_cons_self ..)
    have h1 : ∀ p ∈ l, R p.1 ∧ 0 ≤ p.2 := fun p m => h p (List.mem_cons_of_mem _ m)
    unfold pz at m
    split at m
    · rcases List.mem_cons.mp m with rfl | m
      · exact ⟨h0.1, Int.add_nonneg h0.2 hc⟩
      · exact h1 p m
    · rcases List.mem_cons.mp m with rfl | m
      · exact h0
      · exact all_pz hk hc h1 p m
/-- what a dict of words, or of ends, keeps -/
structure Tl {α : Type} (R : α → Prop) (M : Nat) (l : List (α × Int)) : Prop where
  o : (l.map (·.1)).Nodup
  a : ∀ p ∈ l, R p.1 ∧ 0 ≤ p.2
  n : l.length ≤ M
theorem Tl.nil {α : Type} {R : α → Prop} {M : Nat} : Tl R M ([] : List (α × Int)) := ⟨List.nodup_nil, by simp, Nat.zero_le _⟩
theorem Tl.put {α : Type} [DecidableEq α] {R : α → Prop} {M : Nat} {l : List (α × Int)} {k : α} {c : Int} (t : Tl R M l) (hk : R k) (hc : 0 ≤ c) : Tl R (M + 1) (pz k c l) :=
  ⟨once_pz t.o, all_pz hk hc t.a, Nat.le_trans (len_pz k c l) (Nat.succ_le_succ t.n)⟩
theorem Tl.up {α : Type} {R : α → Prop} {M N : Nat} {l : List (α × Int)} (t : Tl R M l) (h : M ≤ N) : Tl R N l := ⟨t.o, t.a, Nat.le_trans t.n h⟩
theorem Tl.at {α : Type} {R : α → Prop} {M : Nat} {l : List (α × Int)} (t : Tl R M l) {i : Nat} {k : α} {c : Int} (h : l[i]? = some (k, c)) : R k ∧ 0 ≤ c := t.a _ (List.mem_of_getElem? h)
/-- one turn over a word: an end is told -/
theorem ds_end {x y : Rat} {f b : Nat} {c : Int} {T : List (List Bool × Int)} {i : Nat} (h : T[i]? = some (List.replicate f false ++ List.replicate b true, c)) (G : List ((Nat × Nat) × Int)) {Z : Rat} {L : List (List Bool × Int)}
    (e : ds (wt x y) L + ds (fun e => x ^ e.1 * y ^ e.2) G = ds (wt x y) (T.take i) + Z) : ds (wt x y) L + ds (fun e => x ^ e.1 * y ^ e.2) (pz (f, b) c G) = ds (wt x y) (T.take (i + 1)) + Z := by
  rw [ds_pz, ds_take h, wt_rest]
  show _ + (_ + (c : Rat) * (x ^ f * y ^ b)) = _
  grind
/-- two shorter words are told -/
theorem ds_two {x y : Rat} {u v : List Bool} {c : Int} {T : List (List Bool × Int)} {i : Nat} (h : T[i]? = some (u ++ true :: false :: v, c)) {Z g : Rat} {L : List (List Bool × Int)}
    (e : ds (wt x y) L + g = ds (wt x y) (T.take i) + Z) : ds (wt x y) (pz (u ++ false :: v) c (pz (u ++ true :: v) c L)) + g = ds (wt x y) (T.take (i + 1)) + Z := by
  rw [ds_pz, ds_pz, ds_take h, wt_of]
  grind
end HopW

set_option Elab.async false
set_option linter.all false
set_option maxRecDepth 100000
namespace HopW
/-! ### ends found sign by sign -/
/-- what an end of the signs so far comes to, the signs v still ahead -/
def eph (x y : Rat) (v : List Bool) (e : Nat × Nat) : Rat := x ^ e.1 * gf x v (fun b => y ^ b) e.2
theorem eph_bead (x y : Rat) (v : List Bool) (f b : Nat) : eph x y (true :: v) (f, b) = eph x y v (f, b + 1) := rfl
theorem eph_free (x y : Rat) (v : List Bool) (f b : Nat) : eph x y (false :: v) (f, b) = eph x y v (f + 1, 0) + x ^ f * sg (fun j => gf x v (fun b => y ^ b) (j + 1)) b := by
  show x ^ f * (x * gf x v (fun b => y ^ b) 0 + sg (fun j => gf x v (fun b => y ^ b) (j + 1)) b) = x ^ (f + 1) * gf x v (fun b => y ^ b) 0 + _
  rw [Rat.pow_succ]
  grind
theorem eph_first (x y : Rat) (v : List Bool) : eph x y v (0, 0) = wt x y v := by
  show x ^ 0 * gf x v (fun b => y ^ b) 0 = gf x v (fun b => y ^ b) 0
  rw [Rat.pow_zero, Rat.one_mul]
/-! ### all words of so many signs, in their order -/
def aw : Nat → List (List Bool)
  | 0 => [[]]
  | n + 1 => (aw n).map (false :: ·) ++ (aw n).map (true :: ·)
def fits : List (Option Bool) → List Bool → Bool
  | [], [] => true
  | none :: p, _ :: w => fits p w
  | some b :: p, c :: w => (b == c) && fits p w
  | _, _ => false
def wdn (n k : Nat) : List Bool := (List.range n).map fun j => decide (k / 2 ^ (n - 1 - j) % 2 = 1)
theorem aw_nums : ∀ n < 8, (List.range (2 ^ n)).map (wdn n) = aw n := by decide +kernel
theorem aw_len : ∀ n, (aw n).length = 2 ^ n
  | 0 => rfl
  | n + 1 => by
    show ((aw n).map (false :: ·) ++ (aw n).map (true :: ·)).length = _
    rw [List.length_append, List.length_map, List.length_map, aw_len n, Nat.pow_succ]
    omega
theorem aw_word : ∀ n, ∀ w ∈ aw n, w.length = n
  | 0, w, h => by rw [List.mem_singleton.mp h]; rfl
  | n + 1, w, h => by
    rcases List.mem_append.mp h with h | h
    · obtain ⟨v, hv, rfl⟩ := List.mem_map.mp h
      show v.length + 1 = _
      rw [aw_word n v hv]
    · obtain ⟨v, hv, rfl⟩ := List.mem_map.mp h
      show v.length + 1 = _
      rw [aw_word n v hv]
theorem aw_once : ∀ n, (aw n).Nodup
  | 0 => by decide
  | n + 1 => by
    have ih := aw_once n
    refine List.nodup_append.mpr ⟨?_, ?_, ?_⟩
    · exact List.pairwise_map.mpr (ih.imp fun h e => h (List.cons.inj e).2)
    · exact List.pairwise_map.mpr (ih.imp fun h e => h (List.cons.inj e).2)
    · intro a ha b hb e
      obtain ⟨u, _, rfl⟩ := List.mem_map.mp ha
      obtain ⟨v, _, rfl⟩ := List.mem_map.mp hb
      exact absurd (List.cons.inj e).1 (by decide)
/-- the words, each by φ, together -/
def sw (φ : List Bool → Rat) : List (List Bool) → Rat
  | [] => 0
  | w :: l => φ w + sw φ l
theorem sw_app (φ : List Bool → Rat) : ∀ l m : List (List Bool), sw φ (l ++ m) = sw φ l + sw φ m
  | [], m => by show sw φ m = 0 + sw φ m; rw [Rat.zero_add]
  | w :: l, m => by
    show φ w + sw φ (l ++ m) = φ w + sw φ l + sw φ m
    rw [sw_app φ l m, Rat.add_assoc]
theorem sw_map (φ : List Bool → Rat) (g : List Bool → List Bool) : ∀ l : List (List Bool), sw φ (l.map g) = sw (fun w => φ (g w)) l
  | [] => rfl
  | w :: l => by
    show φ (g w) + sw φ (l.map g) = φ (g w) + sw (fun w => φ (g w)) l
    rw [sw_map φ g l]
theorem sw_take (φ : List Bool → Rat) {l : List (List Bool)} {i : Nat} {w : List Bool} (h : l[i]? = some w) : sw φ (l.take (i + 1)) = sw φ (l.take i) + φ w := by
  rw [List.take_add_one, h, sw_app]
  show _ + (φ w + 0) = _
  rw [Rat.add_zero]
theorem sw_mul (φ : List Bool → Rat) (c : Rat) : ∀ l : List (List Bool), sw (fun w => φ w * c) l = sw φ l * c
  | [] => by show (0 : Rat) = 0 * c; rw [Rat.zero_mul]
  | w :: l => by
    show φ w * c + sw (fun w => φ w * c) l = (φ w + sw φ l) * c
    rw [sw_mul φ c l, Rat.add_mul]
theorem filter_no {α : Type} (l : List α) : l.filter (fun _ => false) = [] := by simp
theorem fits_none (p : List (Option Bool)) (b : Bool) : (fits (none :: p) ∘ (b :: ·)) = fits p := rfl
/-- the words of a pattern weigh what the pattern does -/
theorem sw_fits (x y : Rat) : ∀ (p : List (Option Bool)) (u : List Bool), sw (fun w => wt x y (u ++ w)) ((aw p.length).filter (fits p)) = pw x y (u.map some ++ p)
  | [], u => by
    show wt x y (u ++ []) + 0 = _
    rw [List.append_nil, List.append_nil, Rat.add_zero, pw_word]
  | none :: p, u => by
    have h1 := sw_fits x y p (u ++ [false])
    have h2 := sw_fits x y p (u ++ [true])
    show sw _ (((aw p.length).map (false :: ·) ++ (aw p.length).map (true :: ·)).filter (fits (none :: p))) = _
    rw [List.filter_append, List.filter_map, List.filter_map, fits_none, fits_none, sw_app, sw_map, sw_map, pw_none]
    rw [List.map_append, List.append_assoc] at h1 h2
    simp only [List.append_assoc, List.singleton_append] at h1 h2
    rw [Rat.add_comm]
    have e1 : pw x y (u.map some ++ some false :: p) = pw x y (u.map some ++ ([false].map some ++ p)) := rfl
    have e2 : pw x y (u.map some ++ some true :: p) = pw x y (u.map some ++ ([true].map some ++ p)) := rfl
    rw [e1, e2, ← h1, ← h2]
  | some b :: p, u => by
    have h1 := sw_fits x y p (u ++ [b])
    show sw _ (((aw p.length).map (false :: ·) ++ (aw p.length).map (true :: ·)).filter (fits (some b :: p))) = _
    rw [List.filter_append, List.filter_map, List.filter_map, sw_app, sw_map, sw_map]
    rw [List.map_append, List.append_assoc] at h1
    simp only [List.append_assoc, List.singleton_append] at h1
    have e1 : pw x y (u.map some ++ some b :: p) = pw x y (u.map some ++ ([b].map some ++ p)) := rfl
    rw [e1, ← h1]
    cases b with
    | false =>
      have z1 : (fits (some false :: p) ∘ (false :: ·)) = fits p := rfl
      have z2 : (fits (some false :: p) ∘ (true :: ·)) = fun _ => false := rfl
      rw [z1, z2, filter_no]
      show _ + 0 = _
      rw [Rat.add_zero]
    | true =>
      have z1 : (fits (some true :: p) ∘ (true :: ·)) = fits p := rfl
      have z2 : (fits (some true :: p) ∘ (false :: ·)) = fun _ => false := rfl
      rw [z1, z2, filter_no]
      show 0 + _ = _
      rw [Rat.zero_add]
theorem sw_pat (x y : Rat) (p : List (Option Bool)) : sw (wt x y) ((aw p.length).filter (fits p)) = pw x y p := sw_fits x y p []
theorem fits_all : ∀ (n : Nat) (w : List Bool), w.length = n → fits (List.replicate n none) w = true
  | 0, [], _ => rfl
  | n + 1, _ :: w, h => fits_all n w (Nat.succ.inj h)
theorem sw_all (x y : Rat) (n : Nat) : sw (wt x y) (aw n) = pw x y (List.replicate n none) := by
  have h := sw_pat x y (List.replicate n none)
  rw [List.length_replicate] at h
  rw [← h, List.filter_eq_self.mpr (fun w hw => fits_all n w (aw_word n w hw))]
end HopW

set_option Elab.async false
set_option linter.all false
set_option maxRecDepth 100000
set_option exponentiation.threshold 200000
namespace Hop
open PySem L2 HopR HopW
open C8 (InsC call_isC)
/-! ### a weight of a row of few places is small -/
theorem cnt2 : ∀ cs : List Bool, cs.count false + cs.count true = cs.length := fun cs => by
  induction cs with
  | nil => rfl
  | cons b cs ih => cases b <;> simp <;> omega
theorem sI_le8 {q r : Rat} (hq : Sz 45 q) (hr : Sz 45 r) {bs : List Bool} : ∀ {l : List (Nat × Nat × Nat)}, (∀ e ∈ l, EndOf bs e) → (sI q r (bs.count false) (bs.count true) l).natAbs ≤ l.length * 2 ^ (200 + 45 * bs.length)
  | [], _ => Nat.zero_le _
  | e :: l, he => by
    have h1 := he e List.mem_cons_self
    have h2 := sI_le8 hq hr (l := l) (fun e h => he e (List.mem_cons_of_mem _ h))
    show (tI q r (bs.count false) (bs.count true) e + sI q r (bs.count false) (bs.count true) l).natAbs ≤ (l.length + 1) * _
    refine Nat.le_trans (Int.natAbs_add_le _ _) ?_
    rw [Nat.add_mul, Nat.one_mul, Nat.add_comm (l.length * _)]
    refine Nat.add_le_add ?_ h2
    have s1 := share_le hq h1.f
    have s2 := share_le hr h1.b
    have s3 : ((e.2.2 : Int)).natAbs < 2 ^ 200 := h1.m
    have hc := cnt2 bs
    unfold tI
    rw [Int.natAbs_mul, Int.natAbs_mul]
    refine Nat.le_trans (Nat.mul_le_mul (Nat.mul_le_mul (Nat.le_of_lt s3) s1) s2) ?_
    rw [← Nat.pow_add, ← Nat.pow_add, ← hc, Nat.mul_add]
    exact Nat.pow_le_pow_right (by decide) (by omega)
theorem weight_sz8 {q r : Rat} (pq : 0 < q) (pr : 0 < r) (hq : Sz 45 q) (hr : Sz 45 r) {bs : List Bool} (h : bs.length ≤ 8) : Sz 600 (wt q⁻¹ r⁻¹ bs) := by
  have hs := tbl_small (w := bs) (by omega)
  have hl : (eT 0 (HopW.tbl bs)).length ≤ 1600 := by
    have : ∀ {T : List (List Nat)} (f : Nat), (∀ l ∈ T, l.length ≤ 40) → (eT f T).length ≤ 40 * T.length := fun {T} => by
      induction T with
      | nil => exact fun _ _ => Nat.zero_le _
      | cons l t ih =>
        intro f hl
        have e1 : ∀ (l : List Nat) (b : Nat), (eL f b l).length ≤ l.length := fun l => by
          induction l with
          | nil => exact fun _ => Nat.zero_le _
          | cons m l ih =>
            intro b
            have := ih (b + 1)
            unfold eL
            split <;> simp <;> omega
        have h1 := e1 l 0
        have h2 := hl l (List.mem_cons_self ..)
        have h3 := ih (f + 1) (fun x m => hl x (List.mem_cons_of_mem _ m))
        show (eL f 0 l ++ eT (f + 1) t).length ≤ _
        rw [List.length_append, List.length_cons, Nat.mul_succ]
        omega
    have := this 0 hs.2
    have := hs.1
    omega
  rw [← weight_is pq pr (by omega)]
  have c1 := List.count_le_length (a := false) (l := bs)
  have c2 := List.count_le_length (a := true) (l := bs)
  refine sz_divInt (Int.mul_ne_zero (Int.pow_ne_zero (num_ne pq)) (Int.pow_ne_zero (num_ne pr))) ?_ ?_
  · refine Nat.lt_of_le_of_lt (sI_le8 hq hr (fun e he => end_of (by omega) he)) ?_
    refine Nat.lt_of_le_of_lt (Nat.mul_le_mul hl (Nat.pow_le_pow_right (n := 2) (by decide) (show 200 + 45 * bs.length ≤ 560 by omega))) ?_
    decide
  · rw [Int.natAbs_mul]
    refine Nat.lt_of_le_of_lt (Nat.mul_le_mul (pow_le hq.1 _) (pow_le hr.1 _)) ?_
    rw [← Nat.pow_add]
    have hc := cnt2 bs
    exact Nat.pow_lt_pow_right (by decide) (by omega)
/-! ### all rows of so many places -/
def ar (m : Nat) : List (List Bool) := (List.range (2 ^ m)).map (wdn m)
theorem ar_len (m : Nat) : (ar m).length = 2 ^ m := by
  unfold ar
  rw [List.length_map, List.length_range]
theorem wdn_take {m k j : Nat} (h : j < m) : (wdn m k).take (j + 1) = (wdn m k).take j ++ [decide (k / 2 ^ (m - 1 - j) % 2 = 1)] := by
  have e : (wdn m k)[j]? = some (decide (k / 2 ^ (m - 1 - j) % 2 = 1)) := by
    unfold wdn
    rw [List.getElem?_map, List.getElem?_range h]
    rfl
  rw [List.take_add_one, e]
  rfl
theorem wdn_len (m k : Nat) : (wdn m k).length = m := by
  unfold wdn
  rw [List.length_map, List.length_range]
theorem ar_word {m : Nat} : ∀ w ∈ ar m, w.length = m := fun w h => by
  obtain ⟨k, _, rfl⟩ := List.mem_map.mp h
  exact wdn_len m k
theorem ar_at {m k : Nat} (h : k < 2 ^ m) : (ar m)[k]? = some (wdn m k) := by
  unfold ar
  rw [List.getElem?_map, List.getElem?_range h]
  rfl
def rowsL (ws : List (List Bool)) : List V := ws.map fun v => V.str (tx v)
theorem rowsL_len (ws : List (List Bool)) : (rowsL ws).length = ws.length := List.length_map ..
theorem pow8 {m : Nat} (h : m ≤ 8) : 2 ^ m ≤ 256 := Nat.le_trans (Nat.pow_le_pow_right (by decide) h) (by decide)
section
variable {P : Program} {w : World} {K : PySem.W.Frag} {mg : Str → Option Value} {base : Heap} {C d : Addr} {es : Array DictEntry} {n : Nat}
variable {fi f1 f2 : Addr} {gi g1 g2 : FuncData} {d1 : Value} {fw : Addr} {gw : FuncData} {dA dB : Value}
/-! ### row_at, all_rows -/
def tTru (K : PySem.W.Frag) (ta : TE) : L2.TT := fun σ H Q => ta σ H fun x H' => ∃ k, TruV K x H' k ∧ Q k H'
def spRowAt : Sp := fun vs H Q _ => ∃ m k : Nat, vs = [wv m, wv k] ∧ 1 ≤ m ∧ m ≤ 8 ∧ k < 2 ^ m ∧ ∀ H', Same H H' → Q (.str (tx (wdn m k))) H'
abbrev nRA : List Str := ["many", "number", "place"]
theorem scRowAt : FnScope nRA ["many", "number"] (defScope sRowAt) := ⟨rfl, rfl, rfl, by decide +kernel, rfl, by decide +kernel, by decide +kernel⟩
set_option maxHeartbeats 2000000 in
theorem ok_rowat {f fh : Addr} {fd gh : FuncData} {k : Nat} (F : Fun K "row_at" "row_at" sRowAt f fd) (Nh : Fn K mg "is_whole" sIsWhole ["thing"] fh gh) (T : TxtP K mg C) (TR : TxtR K w mg d es n) : FnOk P w K mg base CX0 (k + 2) f fd ["many", "number"] spRowAt := by
  have Gh : FnOk P w K mg base CX0 (k + 1) fh gh ["thing"] spWhole := ok_whole Nh.F T
  refine F.ok scRowAt (fun vs H Q E h => ?_) (fun cdv A outer s H vs Q E hr h => ?_)
  · obtain ⟨m, k, rfl, _⟩ := h
    rfl
  · obtain ⟨m, k, rfl, h1, h8, hk, q⟩ := h
    have nd := scRowAt.nd
    obtain ⟨tb, gb⟩ := TR.bead
    obtain ⟨tf, gf⟩ := TR.free
    obtain ⟨tm, gm⟩ := TR.most
    have hp := pow8 h8
    refine ⟨_, pss_cons (ps_if (PW.pt (pw_or (pt_not (pt_val (pe_call Gh hr (by rfl) Nh.g Nh.F.kp Nh.b .nil pass0 (pa_cons (pv 0) pa_nil)))) (pw_or (pt_cmpR op_lt (pv 0) pe_int (nomark _)) (pw_or1 (pt_cmpR op_gt (pv 0) (pe_glob (v := .int 30) (by rfl) gm ⟨_, rfl⟩) (nomark _)))))) (pss_one ps_never) pss_nil)
      (pss_cons (ps_if (PW.pt (pw_or (pt_not (pt_val (pe_call Gh hr (by rfl) Nh.g Nh.F.kp Nh.b .nil pass0 (pa_cons (pv 1) pa_nil)))) (pw_or (pt_cmpR op_lt (pv 1) pe_int (nomark _)) (pw_or1 (pt_cmpR op_ge (pv 1) (pe_op op_oneShl pe_int (pv 0)) (nomark _)))))) (pss_one ps_never) pss_nil)
      (pss_one (ps_ret (pe_join pe_str (pe_lc (own := [("place", 2)]) (g := gName 2) (tt := tYes) rfl nd (pi_range1 (by rfl) T.range (pa_cons (pv 0) pa_nil)) (blkOk_by (own := [("place", 2)]) (N := nRA) (sc := defScope sRowAt) (by decide +kernel))
          (fun _ _ _ _ _ => pg_name (i := 2) nd rfl (Or.inl rfl)) (fun _ _ _ _ _ => pts_nil)
          (fun _ _ _ _ _ => pe_ifExp (show PT _ _ (tTru K _) from pt_truth (pe_op op_odd (pe_op op_shrN (pv 1) (pe_op op_sub (pe_op op_sub (pv 0) pe_int) (pv 2))) pe_int) (fun _ => rfl)) (pe_glob (v := .str "o") (by rfl) gb ⟨_, rfl⟩) (pe_glob (v := .str ".") (by rfl) gf ⟨_, rfl⟩))))))), ?_⟩
    refine ⟨wv m, rfl, (m : Int), rfl, true, rfl, iteF ⟨wv m, rfl, _, _, rfl, rfl, _, rfl, ?_⟩⟩
    rw [decide_eq_false (show ¬ (m : Int) < 1 by omega)]
    refine iteF ⟨wv m, rfl, _, _, rfl, rfl, _, rfl, ?_⟩
    rw [decide_eq_false (show ¬ (m : Int) > 30 by omega)]
    refine iteF ⟨wv k, rfl, (k : Int), rfl, true, rfl, iteF ⟨wv k, rfl, _, _, rfl, rfl, _, rfl, ?_⟩⟩
    rw [decide_eq_false (show ¬ (k : Int) < 0 by omega)]
    refine iteF ⟨wv k, rfl, wv m, rfl, m, rfl, rfl, by omega, _, _, rfl, rfl, _, rfl, ?_⟩
    have e2 : ((2 : Int) ^ m) = ((2 ^ m : Nat) : Int) := by rw [Int.natCast_pow]; rfl
    rw [e2, decide_eq_false (show ¬ (k : Int) ≥ ((2 ^ m : Nat) : Int) by omega)]
    refine iteF ⟨⟨_, rfl⟩, wv m, rfl, (m : Int), rfl, by omega, by omega, fun D hD => ?_⟩
    rw [Int.toNat_natCast]
    refine lc_range (lo := 0) (n := m) (fun j H3 => Same H H3 ∧ H3 D = some (.lst ((((wdn m k).take j).map fun b => tx [b]).map V.str))) ⟨same_upd hD, upd_same⟩ ?_ ?_
    · rintro j H3 hj ⟨s3, e3⟩
      rw [show (0 : Int) + (j : Int) = ((j : Nat) : Int) by omega]
      refine ⟨rfl, wv k, rfl, wv m, rfl, (m : Int), 1, rfl, rfl, wv j, rfl, (m : Int) - 1, (j : Int), rfl, rfl, (k : Int), m - 1 - j, rfl, (by show V.int ((m : Int) - 1 - (j : Int)) = V.int ((m - 1 - j : Nat) : Int); rw [show (m : Int) - 1 - (j : Int) = ((m - 1 - j : Nat) : Int) by omega]), ?_⟩
      have e4 : ((k : Int) / 2 ^ (m - 1 - j)) = ((k / 2 ^ (m - 1 - j) : Nat) : Int) := by rw [Int.natCast_ediv, Int.natCast_pow]; rfl
      rw [e4]
      refine ⟨k / 2 ^ (m - 1 - j), rfl, rfl, decide (k / 2 ^ (m - 1 - j) % 2 = 1), ?_, ?_⟩
      · show decide (k / 2 ^ (m - 1 - j) % 2 = 1) = _
        by_cases hb : k / 2 ^ (m - 1 - j) % 2 = 1
        · rw [hb]
          rfl
        · rw [show k / 2 ^ (m - 1 - j) % 2 = 0 by omega]
          rfl
      have fin : ∀ b : Bool, b = decide (k / 2 ^ (m - 1 - j) % 2 = 1) → ∃ acc, H3 D = some (.lst acc) ∧ acc.length < sizeLine ∧ Same H (upd H3 D (.lst (acc ++ [.str (tx [b])]))) ∧ upd H3 D (.lst (acc ++ [.str (tx [b])])) D = some (.lst ((((wdn m k).take (j + 1)).map fun b => tx [b]).map V.str)) := fun b hb => by
        refine ⟨_, e3, ?_, same_new hD s3, ?_⟩
        · rw [List.length_map, List.length_map]
          exact fit' (Nat.le_trans (List.length_take_le _ _) (by omega))
        · rw [upd_same, wdn_take hj, List.map_append, List.map_append, hb]
          rfl
      by_cases hb : k / 2 ^ (m - 1 - j) % 2 = 1
      · rw [decide_eq_true hb]
        have := fin true (decide_eq_true hb).symm
        rw [← tx_o] at this
        exact this
      · rw [decide_eq_false hb]
        have := fin false (decide_eq_false hb).symm
        rw [← tx_f] at this
        exact this
    · rintro H3 ⟨s3, e3⟩
      rw [List.take_of_length_le (by rw [wdn_len]; exact Nat.le_refl _)] at e3
      refine ⟨"", D, _, rfl, rfl, .inl (SqL.of e3), join_fits (by rw [wdn_len]; omega), ?_⟩
      rw [join_tx]
      exact q H3 s3
def spAllR : Sp := fun vs H Q _ => ∃ m : Nat, vs = [wv m] ∧ 1 ≤ m ∧ m ≤ 8 ∧ ∀ H' p, Same H H' → H p = none → H' p = some (.lst (rowsL (ar m))) → Q (.ref p) H'
theorem scAllR : FnScope ["many", "number"] ["many"] (defScope sAllR) := ⟨rfl, rfl, rfl, by decide +kernel, rfl, by decide +kernel, by decide +kernel⟩
theorem ok_allr {f fr fh : Addr} {fd gr gh : FuncData} {k : Nat} (F : Fun K "all_rows" "all_rows" sAllR f fd) (Nr : Fn K mg "row_at" sRowAt ["many", "number"] fr gr) (Nh : Fn K mg "is_whole" sIsWhole ["thing"] fh gh) (T : TxtP K mg C) (TR : TxtR K w mg d es n) : FnOk P w K mg base CX0 (k + 3) f fd ["many"] spAllR := by
  have Gr : FnOk P w K mg base CX0 (k + 2) fr gr ["many", "number"] spRowAt := ok_rowat Nr.F Nh T TR
  refine F.ok scAllR (fun vs H Q E h => ?_) (fun cdv A outer s H vs Q E hr h => ?_)
  · obtain ⟨m, rfl, _⟩ := h
    rfl
  · obtain ⟨m, rfl, h1, h8, q⟩ := h
    have nd := scAllR.nd
    have hp := pow8 h8
    refine ⟨_, pss_one (ps_ret (pe_lc (own := [("number", 1)]) (g := gName 1) (tt := tYes) rfl nd (pi_range1 (by rfl) T.range (pa_cons (pe_op op_oneShl pe_int (pv 0)) pa_nil)) (blkOk_by (own := [("number", 1)]) (N := ["many", "number"]) (sc := defScope sAllR) (by decide +kernel))
          (fun _ _ _ _ _ => pg_name (i := 1) nd rfl (Or.inl rfl)) (fun _ _ _ _ _ => pts_nil) (fun _ _ _ _ _ => (pe_call Gr hr (by rfl) Nr.g Nr.F.kp Nr.b .nil pass0 (pa_cons (pv 0) (pa_cons (pv 1) pa_nil)))))), ?_⟩
    refine ⟨wv m, rfl, m, rfl, rfl, by omega, (2 : Int) ^ m, rfl, ?_⟩
    have e2 : ((2 : Int) ^ m) = ((2 ^ m : Nat) : Int) := by rw [Int.natCast_pow]; rfl
    rw [e2]
    refine ⟨Int.le_trans (by decide) (Int.natCast_nonneg _), Int.lt_of_le_of_lt (Int.ofNat_le.mpr hp) (by decide), fun D hD => ?_⟩
    rw [Int.toNat_natCast]
    refine lc_range (lo := 0) (n := 2 ^ m) (fun j H3 => Same H H3 ∧ H3 D = some (.lst (rowsL ((ar m).take j)))) ⟨same_upd hD, upd_same⟩ ?_ ?_
    · rintro j H3 hj ⟨s3, e3⟩
      rw [show (0 : Int) + (j : Int) = ((j : Nat) : Int) by omega]
      refine ⟨rfl, wv m, rfl, wv j, rfl, m, j, rfl, h1, h8, hj, fun H4 s4 => ?_⟩
      refine ⟨_, s4 _ _ e3, ?_, same_new hD (s3.trans s4), ?_⟩
      · rw [rowsL_len]
        exact fit' (Nat.le_trans (List.length_take_le _ _) (by omega))
      · rw [upd_same, List.take_add_one, ar_at hj]
        unfold rowsL
        rw [List.map_append]
        rfl
    · rintro H3 ⟨s3, e3⟩
      rw [List.take_of_length_le (by rw [ar_len]; exact Nat.le_refl _)] at e3
      exact q H3 D s3 hD e3
/-! ### tables -/
/-- a tuple of a row and a Part -/
def TwI (C : Addr) (H : Hp) (v : V) (z : List Bool × Rat) : Prop := ∃ t a, v = .ref t ∧ H t = some (.tup [.str (tx z.1), .ref a]) ∧ PA C H a z.2
theorem TwI.same {H H' : Hp} {v : V} {z : List Bool × Rat} (s : Same H H') (h : TwI C H v z) : TwI C H' v z := let ⟨t, a, e, e1, e2⟩ := h; ⟨t, a, e, s _ _ e1, e2.same s⟩
theorem pa_upd {H : Hp} {D a : Addr} {xs : List V} {o : HO} {q : Rat} (e : H D = some (.lst xs)) (h : PA C H a q) : PA C (upd H D o) a q := by
  obtain ⟨dx, h1⟩ := h
  exact ⟨dx, by rw [upd_ne (fun z => by rw [z, e] at h1; cases h1)]; exact h1⟩
theorem TwI.upd {H : Hp} {D : Addr} {xs : List V} {o : HO} {v : V} {z : List Bool × Rat} (e : H D = some (.lst xs)) (h : TwI C H v z) : TwI C (upd H D o) v z := by
  obtain ⟨t, a, e0, e1, e2⟩ := h
  exact ⟨t, a, e0, by rw [upd_ne (fun z => by rw [z, e] at e1; cases e1)]; exact e1, pa_upd e e2⟩
/-- at p a table of these rows and weights -/
def Tz (C : Addr) (H : Hp) (p : Addr) (zs : List (List Bool × Rat)) : Prop := ∃ vs, H p = some (.lst vs) ∧ Al (TwI C H) vs zs
theorem Tz.same {H H' : Hp} {p : Addr} {zs : List (List Bool × Rat)} (s : Same H H') (h : Tz C H p zs) : Tz C H' p zs := let ⟨vs, e, a⟩ := h; ⟨vs, s _ _ e, a.mono fun _ _ => TwI.same s⟩
/-- the told table -/
def tz (q r : Rat) (m : Nat) : List (List Bool × Rat) := (ar m).map fun v => (v, wt q⁻¹ r⁻¹ v)
theorem tz_len (q r : Rat) (m : Nat) : (tz q r m).length = 2 ^ m := by
  unfold tz
  rw [List.length_map, ar_len]
structure TbDefs (K : PySem.W.Frag) (mg : Str → Option Value) (C fi f1 f2 fw : Addr) (gi g1 g2 gw : FuncData) (d1 dA dB : Value) : Prop where
  W : WtDefs K mg C fi f1 f2 fw gi g1 g2 gw d1 dA dB
  wh : ∃ r s, Fn K mg "is_whole" sIsWhole ["thing"] r s
  nn : ∃ r s, Fn K mg "need_number" sNeedNum ["thing", "least", "most"] r s
  ra : ∃ r s, Fn K mg "row_at" sRowAt ["many", "number"] r s
  al : ∃ r s, Fn K mg "all_rows" sAllR ["many"] r s
  mt : ∃ t, mg "MOST_IN_TABLE" = some (.int 8 t)
variable {ft : Addr} {gt : FuncData}
def spTable (C : Addr) : Sp := fun vs H Q _ => ∃ (m : Nat) (x y : V) (q r : Rat), vs = [wv m, x, y] ∧ 1 ≤ m ∧ m ≤ 8 ∧ Pw C H x q ∧ Pw C H y r ∧ ∀ H' p, Same H H' → H p = none → Tz C H' p (tz q r m) → Q (.ref p) H'
abbrev nTb : List Str := ["many", "inn", "out", "first", "last", "row"]
theorem scTable : FnScope nTb ["many", "inn", "out"] (defScope sTable) := ⟨rfl, rfl, rfl, by decide +kernel, rfl, by decide +kernel, by decide +kernel⟩
set_option maxHeartbeats 4000000 in
theorem ok_table {k : Nat} (F : FunD K "table" "table" (defArgs sTable) (defBody sTable) (defScope sTable) [.non, .non] [] ft gt) (N : TbDefs K mg C fi f1 f2 fw gi g1 g2 gw d1 dA dB) (T : TxtP K mg C) (TR : TxtR K w mg d es n) (T0 : TxtL mg) : FnOk P w K mg base CX0 (k + 7) ft gt ["many", "inn", "out"] (spTable C) := by
  obtain ⟨r1, s1, R1⟩ := N.wh
  obtain ⟨r2, s2, R2⟩ := N.nn
  obtain ⟨r3, s3, R3⟩ := N.ra
  obtain ⟨r4, s4, R4⟩ := N.al
  obtain ⟨r5, s5, R5⟩ := N.W.p1
  obtain ⟨r6, s6, R6⟩ := N.W.p2
  have Gn : FnOk P w K mg base CX0 (k + 6) r2 s2 ["thing", "least", "most"] spNum := ok_num R2.F R1 T
  have Ga : FnOk P w K mg base CX0 (k + 6) r4 s4 ["many"] spAllR := ok_allr R4.F R3 R1 T TR
  have Gp : FnOk P w K mg base CX0 (k + 6) r6 s6 ["inn", "out"] (spPacesFrom C) := ok_pacesFrom R6.F R5 N.W.M T
  have GW : FnOk P w K mg base CX0 (k + 6) fw gw ["row", "inn", "out"] (spWeight C) := ok_weight N.W T TR T0
  refine F.ok scTable (fun vs H Q E h => ?_) (fun cdv A outer s H vs Q E hr h => ?_)
  · obtain ⟨m, x, y, q, r, rfl, _⟩ := h
    rfl
  · obtain ⟨m, x, y, q, r, rfl, h1, h8, hx, hy, h⟩ := h
    have nd := scTable.nd
    obtain ⟨tm, gm⟩ := N.mt
    have hp := pow8 h8
    refine ⟨_, pss_cons (ps_expr (pe_call Gn hr (by rfl) R2.g R2.F.kp R2.b .nil pass0 (pa_cons (pv 0) (pa_cons pe_int (pa_cons (pe_glob (v := .int 8) (by rfl) gm ⟨_, rfl⟩) pa_nil)))))
      (pss_cons (ps_asg (pe_call Gp hr (by rfl) R6.g R6.F.kp R6.b .nil pass0 (pa_cons (pv 1) (pa_cons (pv 2) pa_nil))) (pg_tup (by rfl) (pgs_cons (pg_name (i := 3) nd rfl (.inr rfl)) (pgs_cons (pg_name (i := 4) nd rfl (.inr rfl)) pgs_nil))))
      (pss_one (ps_ret (pe_lc (own := [("row", 5)]) (g := gName 5) (tt := tYes) rfl nd (pi_list (pe_call Ga hr (by rfl) R4.g R4.F.kp R4.b .nil pass0 (pa_cons (pv 0) pa_nil))) (blkOk_by (own := [("row", 5)]) (N := nTb) (sc := defScope sTable) (by decide +kernel))
          (fun _ _ _ _ _ => pg_name (i := 5) nd rfl (Or.inl rfl)) (fun _ _ _ _ _ => pts_nil)
          (fun _ _ _ _ _ => pe_tup (pa_cons (pv 5) (pa_cons (pe_call GW hr (by rfl) N.W.g N.W.W.kp N.W.b3 .nil pass0 (pa_cons (pv 5) (pa_cons (pv 3) (pa_cons (pv 4) pa_nil)))) pa_nil))))))), ?_⟩
    refine ⟨wv m, rfl, (m : Int), 1, 8, rfl, by omega, by omega, x, rfl, y, rfl, x, y, q, r, rfl, hx, hy, fun H1 p a b s1 n1 e1 pa pb => ?_⟩
    refine ⟨p, _, rfl, SqT.of e1, rfl, _, _, rfl, _, _, rfl, rfl, wv m, rfl, m, rfl, h1, h8, fun H2 pr s2 n2 e2 => ⟨pr, rfl, ⟨_, SqL.of e2⟩, fun D hD => ?_⟩⟩
    have s02 := s1.trans s2
    have pa2 := pa.same s2
    have pb2 := pb.same s2
    refine lc_list (K := K) (a := pr) (xs := rowsL (ar m)) (fun i H3 => Same H2 H3 ∧ ∃ acc, H3 D = some (.lst acc) ∧ Al (TwI C H3) acc ((tz q r m).take i)) ⟨same_upd hD, [], upd_same, Al.nil⟩ (fun i H3 _ h => SqL.of (h.1 _ _ e2)) ?_ ?_
    · rintro i v H3 hv ⟨s3, acc, e3, a3⟩
      unfold rowsL at hv
      rw [List.getElem?_map] at hv
      obtain ⟨u, hu, rfl⟩ := Option.map_eq_some_iff.mp hv
      have hul := ar_word u (List.mem_of_getElem? hu)
      have hR : Row u := ⟨by omega, by omega⟩
      refine ⟨rfl, .str (tx u), rfl, .str (tx u), rfl, .ref a, rfl, .ref b, rfl, u, .ref a, .ref b, q, r, rfl, hR, .inr ⟨a, rfl, pa2.same s3⟩, .inr ⟨b, rfl, pb2.same s3⟩, fun _ _ _ H4 p4 s4 n4 w4 => ?_⟩
      refine ⟨(by show 2 ≤ sizeLine; decide), fun t nt => ?_⟩
      have st := same_upd (o := .tup [.str (tx u), .ref p4]) nt
      have et : upd H4 t (.tup [.str (tx u), .ref p4]) t = some (.tup [.str (tx u), .ref p4]) := upd_same
      have w5 := w4.same st
      generalize upd H4 t (.tup [.str (tx u), .ref p4]) = H5 at st et w5
      have e5 := st _ _ (s4 _ _ e3)
      have hz : (tz q r m)[i]? = some (u, wt q⁻¹ r⁻¹ u) := by
        unfold tz
        rw [List.getElem?_map, hu]
        rfl
      refine ⟨acc, e5, ?_, same_new hD (s3.trans (s4.trans st)), acc ++ [.ref t], upd_same, ?_⟩
      · rw [a3.len]
        exact fit' (Nat.le_trans (List.length_take_le _ _) (by
          have := (List.getElem?_eq_some_iff.mp hz).1
          rw [tz_len] at this
          omega))
      · rw [List.take_add_one, hz]
        exact ((a3.mono fun _ _ => TwI.same (s4.trans st)).mono fun _ _ => TwI.upd e5).snoc (TwI.upd e5 ⟨t, p4, rfl, et, w5⟩)
    · rintro H3 ⟨s3, acc, e3, a3⟩
      rw [rowsL_len, ar_len, List.take_of_length_le (by rw [tz_len]; exact Nat.le_refl _)] at a3
      exact h H3 D (s02.trans s3) (s02.free hD) ⟨acc, e3, a3⟩
end
end Hop

set_option Elab.async false
set_option linter.all false
set_option maxRecDepth 100000
set_option exponentiation.threshold 200000
namespace Hop
open PySem L2 HopR HopW
open C8 (InsC call_isC)
structure TxtT (mg : Str → Option Value) : Prop where
  tuple : mg "tuple" = none
  list : mg "list" = none
  str : mg "str" = none
  all : mg "all" = none
  zip : mg "zip" = none
section
variable {P : Program} {w : World} {K : PySem.W.Frag} {mg : Str → Option Value} {base : Heap} {C d : Addr} {es : Array DictEntry} {n : Nat}
variable {fi f1 f2 : Addr} {gi g1 g2 : FuncData} {d1 : Value} {fw : Addr} {gw : FuncData} {dA dB : Value}
/-! ### is_above_nought, is_line, is_table -/
def spAN (C : Addr) : Sp := fun vs H Q _ => ∃ a q, vs = [.ref a] ∧ PA C H a q ∧ 0 < q ∧ Q (.bl true) H
theorem scAN : FnScope ["thing"] ["thing"] (defScope sAbove) := ⟨rfl, rfl, rfl, by decide +kernel, rfl, by decide +kernel, by decide +kernel⟩
theorem ok_above {f : Addr} {fd : FuncData} {k : Nat} (F : Fun K "is_above_nought" "is_above_nought" sAbove f fd) (T : TxtP K mg C) : FnOk P w K mg base CX0 (k + 1) f fd ["thing"] (spAN C) := by
  refine F.ok scAN (fun vs H Q E h => ?_) (fun cdv A outer s H vs Q E hr h => ?_)
  · obtain ⟨a, q, rfl, _⟩ := h
    rfl
  · obtain ⟨a, q, rfl, ⟨dx, ha⟩, h0, h⟩ := h
    refine ⟨_, pss_one (ps_ret (pe_and (pe_callB (call_isC T.ins) (by rfl) T.isi (by decide +kernel) (pa_cons (pv 0) (pa_cons (pe_glob (v := .ref C) (by rfl) T.mgC rfl) pa_nil)))
      (pe_one (pe_cmpR op_gt (pe_fld (pv 0) rfl) pe_int (nomark _))))), ?_⟩
    refine ⟨.ref a, rfl, a, dx, _, rfl, ha, true, rfl, ?_⟩
    refine ⟨.ref a, rfl, a, C, dx, _, _, rfl, ha, T.ins.cl, T.nT, pf_top q, _, _, rfl, rfl, ?_⟩
    have hp := num_pos h0
    show Q (.bl (decide (0 < q.num))) H
    rw [decide_eq_true hp]
    exact h
def spIsLine (C : Addr) : Sp := fun vs H Q _ => ∃ v z, vs = [v, .str (tx z.1)] ∧ TwI C H v z ∧ 0 < z.2 ∧ Q (.bl true) H
abbrev nLn : List Str := ["thing", "row", "found", "worth"]
theorem scIsLine : FnScope nLn ["thing", "row"] (defScope sLine) := ⟨rfl, rfl, rfl, by decide +kernel, rfl, by decide +kernel, by decide +kernel⟩
theorem ok_line {f f1 : Addr} {fd g1 : FuncData} {k : Nat} (F : Fun K "is_line" "is_line" sLine f fd) (N1 : Fn K mg "is_above_nought" sAbove ["thing"] f1 g1) (T : TxtP K mg C) (TT : TxtT mg) : FnOk P w K mg base CX0 (k + 2) f fd ["thing", "row"] (spIsLine C) := by
  have G1 : FnOk P w K mg base CX0 (k + 1) f1 g1 ["thing"] (spAN C) := ok_above N1.F T
  refine F.ok scIsLine (fun vs H Q E h => ?_) (fun cdv A outer s H vs Q E hr h => ?_)
  · obtain ⟨v, z, rfl, _⟩ := h
    rfl
  · obtain ⟨_, z, rfl, ⟨t, a, rfl, et, pa⟩, h0, h⟩ := h
    have nd := scIsLine.nd
    refine ⟨_, pss_cons (ps_if (PW.pt (pw_or (pt_not (pt_val (pe_callB call_isi (by rfl) T.isi (by decide +kernel) (pa_cons (pv 0) (pa_cons (pe_bltn (v := .ty "tuple") (by rfl) TT.tuple (by decide +kernel) rfl) pa_nil))))) (pw_or1 (pt_cmpR op_ne (pe_callB call_len_seq (by rfl) T.len PySem.boot_len (pa_cons (pv 0) pa_nil)) pe_int (nomark _))))) (pss_one (ps_ret pe_bl)) pss_nil)
      (pss_cons (ps_asg (pv 0) (pg_tup (by rfl) (pgs_cons (pg_name (i := 2) nd rfl (.inl rfl)) (pgs_cons (pg_name (i := 3) nd rfl (.inl rfl)) pgs_nil))))
      (pss_one (ps_ret (pe_and (pe_callB call_isi (by rfl) T.isi (by decide +kernel) (pa_cons (pv 2) (pa_cons (pe_bltn (v := .ty "str") (by rfl) TT.str (by decide +kernel) rfl) pa_nil))) (pe_and (pe_cmpR op_eq (pv 2) (pv 1) (nomark _)) (pe_one (pe_call G1 hr (by rfl) N1.g N1.F.kp N1.b .nil pass0 (pa_cons (pv 3) pa_nil)))))))), ?_⟩
    refine ⟨.ref t, rfl, .ref t, .ty "tuple", .type "tuple", .type "tuple", true, rfl, .ty _, .base (.tup et), kit_ty (by decide +kernel), true, rfl, iteF ?_⟩
    refine ⟨.ref t, rfl, t, _, rfl, .inr (SqT.of et), rfl, _, rfl, iteF ?_⟩
    refine ⟨.ref t, rfl, t, _, rfl, SqT.of et, rfl, _, _, rfl, _, _, rfl, rfl, ?_⟩
    refine ⟨.str (tx z.1), rfl, .str (tx z.1), .ty "str", .type "str", .type "str", true, rfl, .ty _, .base (.str _), kit_ty (by decide +kernel), true, rfl, ?_⟩
    refine ⟨.str (tx z.1), rfl, .str (tx z.1), rfl, by simp [scal], _, rfl, ?_⟩
    rw [decide_eq_true rfl]
    exact ⟨.ref a, rfl, a, z.2, rfl, pa, h0, h⟩
def spIsTable (C : Addr) : Sp := fun vs H Q _ => ∃ p r zs, vs = [.ref p, .ref r] ∧ Tz C H p zs ∧ H r = some (.lst (rowsL (zs.map Prod.fst))) ∧ (∀ z ∈ zs, 0 < z.2) ∧ zs.length ≤ 256 ∧ ∀ H', Same H H' → Q (.bl true) H'
abbrev nIT : List Str := ["thing", "rows", "line", "row"]
theorem scIsTable : FnScope nIT ["thing", "rows"] (defScope sIsTable) := ⟨rfl, rfl, rfl, by decide +kernel, rfl, by decide +kernel, by decide +kernel⟩
set_option maxHeartbeats 2000000 in
theorem ok_istable {f f1 f2 : Addr} {fd g1 g2 : FuncData} {k : Nat} (F : Fun K "is_table" "is_table" sIsTable f fd) (N1 : Fn K mg "is_line" sLine ["thing", "row"] f1 g1) (N2 : Fn K mg "is_above_nought" sAbove ["thing"] f2 g2) (T : TxtP K mg C) (TT : TxtT mg) : FnOk P w K mg base CX0 (k + 3) f fd ["thing", "rows"] (spIsTable C) := by
  have G1 : FnOk P w K mg base CX0 (k + 2) f1 g1 ["thing", "row"] (spIsLine C) := ok_line N1.F N2 T TT
  refine F.ok scIsTable (fun vs H Q E h => ?_) (fun cdv A outer s H vs Q E hr h => ?_)
  · obtain ⟨p, r, zs, rfl, _⟩ := h
    rfl
  · obtain ⟨p, r, zs, rfl, ⟨vs, ep, al⟩, er, hp, hl, h⟩ := h
    have nd := scIsTable.nd
    have hvl := al.len
    have hrl : (rowsL (zs.map Prod.fst)).length = zs.length := by rw [rowsL_len, List.length_map]
    refine ⟨_, pss_cons (ps_if (PW.pt (pw_or (pt_not (pt_val (pe_callB call_isi (by rfl) T.isi (by decide +kernel) (pa_cons (pv 0) (pa_cons (pe_bltn (v := .ty "list") (by rfl) TT.list (by decide +kernel) rfl) pa_nil))))) (pw_or1 (pt_cmpR op_ne (pe_callB call_len_seq (by rfl) T.len PySem.boot_len (pa_cons (pv 0) pa_nil)) (pe_callB call_len_seq (by rfl) T.len PySem.boot_len (pa_cons (pv 1) pa_nil)) (nomark _))))) (pss_one (ps_ret pe_bl)) pss_nil)
      (pss_one (ps_ret (pe_callB (cr_all rfl) (by rfl) TT.all (by decide +kernel) (pa_cons (pe_lc (own := [("line", 2), ("row", 3)]) (g := gTup K 2 (gCons (gName 2) (gCons (gName 3) gNil))) (tt := tYes) rfl nd (pi_zip (by rfl) TT.zip (pa_cons (pv 0) (pa_cons (pv 1) pa_nil)))
        (blkOk_by (own := [("line", 2), ("row", 3)]) (N := nIT) (sc := defScope sIsTable) (by decide +kernel))
        (fun _ _ _ _ _ => pg_tup (by rfl) (pgs_cons (pg_name (i := 2) nd rfl (.inl rfl)) (pgs_cons (pg_name (i := 3) nd rfl (.inl rfl)) pgs_nil))) (fun _ _ _ _ _ => pts_nil) (fun _ _ _ _ _ => (pe_call G1 hr (by rfl) N1.g N1.F.kp N1.b .nil pass0 (pa_cons (pv 2) (pa_cons (pv 3) pa_nil))))) pa_nil)))), ?_⟩
    refine ⟨.ref p, rfl, .ref p, .ty "list", .type "list", .type "list", true, rfl, .ty _, .base (.lst ep), kit_ty (by decide +kernel), true, rfl, iteF ?_⟩
    refine ⟨.ref p, rfl, p, _, rfl, .inl (SqL.of ep), .ref r, rfl, r, _, rfl, .inl (SqL.of er), rfl, _, rfl, ?_⟩
    rw [hvl, hrl, decide_eq_true rfl]
    refine iteF ⟨.ref p, rfl, .ref r, rfl, p, r, _, _, rfl, SqL.of ep, SqL.of er, fun D hD => ?_⟩
    refine lc_it (walk_zip (K := K) (a := p) (b := r) (xs := vs) (ys := rowsL (zs.map Prod.fst)) (n := zs.length) (by rw [hvl, hrl, Nat.min_self]))
      (fun i H9 => Same H H9 ∧ H9 D = some (.lst ((List.replicate i true).map V.bl))) ⟨same_upd hD, upd_same⟩ (fun i H9 _ h => ⟨SqL.of (h.1 _ _ ep), SqL.of (h.1 _ _ er)⟩) ?_ ?_
    · rintro i x H9 H10 hi ⟨s9, e9⟩ ⟨t, x1, x2, rfl, nt, rfl, hx1, hx2⟩
      have hx1 : vs[i]? = some x1 := hx1
      have hx2 : (rowsL (zs.map Prod.fst))[i]? = some x2 := hx2
      obtain ⟨z, hz, r1⟩ := al.get hx1
      unfold rowsL at hx2
      rw [List.getElem?_map, List.getElem?_map, hz] at hx2
      cases hx2
      have st := same_upd (o := .tup [x1, V.str (tx z.1)]) nt
      refine ⟨t, _, rfl, SqT.of upd_same, rfl, _, _, rfl, _, _, rfl, rfl, rfl, x1, rfl, .str (tx z.1), rfl, x1, z, rfl, r1.same (s9.trans st), hp z (List.mem_of_getElem? hz), ?_⟩
      refine ⟨_, st _ _ e9, ?_, same_new hD (s9.trans st), ?_⟩
      · rw [List.length_map, List.length_replicate]
        exact fit' (by omega)
      · rw [upd_same, List.replicate_succ', List.map_append]
        rfl
    · rintro H3 ⟨s3, e3⟩
      refine ⟨D, _, rfl, SqL.of e3, ?_⟩
      have : (List.replicate zs.length true).all id = true := by
        rw [List.all_eq_true]
        intro x hx
        rw [List.eq_of_mem_replicate hx]
        rfl
      first
        | exact this ▸ h H3 s3
        | (rw [this]; exact h H3 s3)
        | (simp only [this]; exact h H3 s3)
/-! ### times_between -/
def IsPa (C : Addr) (H : Hp) (v : V) (q : Rat) : Prop := ∃ a, v = .ref a ∧ PA C H a q
theorem IsPa.same {H H' : Hp} {v : V} {q : Rat} (s : Same H H') (h : IsPa C H v q) : IsPa C H' v q := let ⟨a, e, p⟩ := h; ⟨a, e, p.same s⟩
theorem IsPa.upd {H : Hp} {D : Addr} {xs : List V} {o : HO} {v : V} {q : Rat} (e : H D = some (.lst xs)) (h : IsPa C H v q) : IsPa C (upd H D o) v q := let ⟨a, e0, p⟩ := h; ⟨a, e0, pa_upd e p⟩
def Ps (C : Addr) (H : Hp) (p : Addr) (qs : List Rat) : Prop := ∃ vs, H p = some (.lst vs) ∧ Al (IsPa C H) vs qs
theorem Ps.same {H H' : Hp} {p : Addr} {qs : List Rat} (s : Same H H') (h : Ps C H p qs) : Ps C H' p qs := let ⟨vs, e, a⟩ := h; ⟨vs, s _ _ e, a.mono fun _ _ => IsPa.same s⟩
/-- which of them come to the others by this -/
def fitB (c : Rat) (fs ts : List Rat) : List Bool := List.zipWith (fun f t => decide (f = t * c)) fs ts
def bet (c : Rat) (fs ts : List Rat) : Option Rat := if (fitB c fs ts).all id = true then some c else none
def OPa (C : Addr) (H : Hp) (v : V) : Option Rat → Prop
  | some q => IsPa C H v q
  | none => v = .non
structure PtDefs (K : PySem.W.Frag) (mg : Str → Option Value) (C fi f1 f2 : Addr) (gi g1 g2 : FuncData) (d1 : Value) (fl ft fo fe fp : Addr) (gl gt go ge gp : FuncData) : Prop where
  M : Mks K mg C fi f1 f2 gi g1 g2 d1
  Nl : Fn K mg "lowest" sLowest ["top", "bottom"] fl gl
  Ft : Fun K "times" "Part.times" sTimes ft gt
  bt : Binds K gt ["self", "other"] []
  mt : Meth K C "times" ft
  Fo : Fun K "over" "Part.over" sOver fo go
  bo : Binds K go ["self", "other"] []
  mo : Meth K C "over" fo
  Fe : Fun K "__eq__" "Part.__eq__" sEq fe ge
  be : Binds K ge ["self", "other"] []
  ec : EqC K C fe
  Fp : Fun K "plus" "Part.plus" sPlus fp gp
  bp : Binds K gp ["self", "other"] []
  mp : Meth K C "plus" fp
variable {fl ft fo fe fp : Addr} {gl gt go ge gp : FuncData}
def spBetween (C : Addr) : Sp := fun vs H Q _ => ∃ p r f0 t0 fs ts, vs = [.ref p, .ref r] ∧ Ps C H p (f0 :: fs) ∧ Ps C H r (t0 :: ts) ∧ fs.length = ts.length ∧ fs.length ≤ 255 ∧ (∀ q ∈ t0 :: ts, Sz 700 q ∧ 0 < q) ∧ Sz 1400 f0 ∧ ∀ H' v, Same H H' → OPa C H' v (bet (f0 / t0) (f0 :: fs) (t0 :: ts)) → Q v H'
abbrev nBt : List Str := ["found", "told", "times", "one", "other"]
theorem scBt : FnScope nBt ["found", "told"] (defScope sBetween) := ⟨rfl, rfl, rfl, by decide +kernel, rfl, by decide +kernel, by decide +kernel⟩
set_option maxHeartbeats 4000000 in
theorem ok_between {f : Addr} {fd : FuncData} {k : Nat} (F : Fun K "times_between" "times_between" sBetween f fd) (N : PtDefs K mg C fi f1 f2 gi g1 g2 d1 fl ft fo fe fp gl gt go ge gp) (T : TxtP K mg C) (TT : TxtT mg) : FnOk P w K mg base CX0 (k + 7) f fd ["found", "told"] (spBetween C) := by
  have GO : FnOk P w K mg base CX0 (k + 6) fo go ["self", "other"] (spOp C (fun _ r => r ≠ 0) (fun q r => q / r)) := ok_over N.Fo N.M N.Nl N.Ft N.bt N.mt T
  have GT : FnOk P w K mg base CX0 (k + 6) ft gt ["self", "other"] (spOp C (fun _ _ => True) (fun q r => q * r)) := ok_times N.Ft N.M N.Nl T
  have GE : FnOk P w K mg base CX0 (k + 6) fe ge ["self", "other"] (spPEq C) := ok_eq N.Fe T
  refine F.ok scBt (fun vs H Q E h => ?_) (fun cdv A outer s H vs Q E hr h => ?_)
  · obtain ⟨p, r, f0, t0, fs, ts, rfl, _⟩ := h
    rfl
  · obtain ⟨p, r, f0, t0, fs, ts, rfl, ⟨xs, ep, ap⟩, ⟨ys, er, ar⟩, hl, hl2, hz, hf, h⟩ := h
    have nd := scBt.nd
    have hxl := ap.len
    have hyl := ar.len
    rw [List.length_cons] at hxl hyl
    obtain ⟨v0, hv0, a0, rfl, pa0⟩ := ap.getz (i := 0) rfl
    obtain ⟨u0, hu0, b0, rfl, pb0⟩ := ar.getz (i := 0) rfl
    obtain ⟨zt, pt⟩ := hz t0 List.mem_cons_self
    have zc : Sz 2100 (f0 / t0) := sz_div hf zt (ne_above pt)
    refine ⟨_, pss_cons (ps_set (i := 2) nd rfl (.inr rfl) (pe_meth (pe_ix ix_list (pv 0) pe_int (fun _ _ => rfl)) T.ins.cl N.mo GO hr N.bo .nil pass0 (pa_cons (pe_ix ix_list (pv 1) pe_int (fun _ _ => rfl)) pa_nil)))
      (pss_cons (ps_if (pt_val (pe_callB (cr_all rfl) (by rfl) TT.all (by decide +kernel) (pa_cons (pe_lc (own := [("one", 3), ("other", 4)]) (g := gTup K 2 (gCons (gName 3) (gCons (gName 4) gNil))) (tt := tYes) rfl nd (pi_zip (by rfl) TT.zip (pa_cons (pv 0) (pa_cons (pv 1) pa_nil)))
        (blkOk_by (own := [("one", 3), ("other", 4)]) (N := nBt) (sc := defScope sBetween) (by decide +kernel))
        (fun _ _ _ _ _ => pg_tup (by rfl) (pgs_cons (pg_name (i := 3) nd rfl (.inl rfl)) (pgs_cons (pg_name (i := 4) nd rfl (.inl rfl)) pgs_nil))) (fun _ _ _ _ _ => pts_nil) (fun _ _ _ _ _ => pe_cmpR (op_eqOwn N.ec GE hr N.be pass0) (pv 3) (pe_meth (pv 4) T.ins.cl N.mt GT hr N.bt .nil pass0 (pa_cons (pv 2) pa_nil)) (nomark _))) pa_nil)))
          (pss_one (ps_ret (pv 2))) pss_nil)
      (pss_one (ps_ret pe_non))), ?_⟩
    refine ⟨.ref p, rfl, p, _, _, .ref a0, rfl, rfl, SqL.of ep, atI_nat (j := 0) hv0, ?_⟩
    obtain ⟨dx0, ea0⟩ := id pa0
    refine ⟨a0, dx0, _, rfl, ea0, pf_no f0 (by decide +kernel) (by decide +kernel), .ref r, rfl, r, _, _, .ref b0, rfl, rfl, SqL.of er, atI_nat (j := 0) hu0, ?_⟩
    refine ⟨a0, b0, f0, t0, rfl, pa0, pb0, hf.mono (by decide), zt.mono (by decide), ne_above pt, fun H1 c s1 n1 pc => ?_⟩
    have pc : PA C H1 c (f0 / t0) := pc
    generalize f0 / t0 = c0 at zc pc h
    have ep1 := s1 _ _ ep
    have er1 := s1 _ _ er
    refine ⟨.ref p, rfl, .ref r, rfl, p, r, _, _, rfl, SqL.of ep1, SqL.of er1, fun D hD => ?_⟩
    refine lc_it (walk_zip (K := K) (a := p) (b := r) (xs := xs) (ys := ys) (n := fs.length + 1) (by rw [hxl, hyl, hl, Nat.min_self]))
      (fun i H9 => Same H1 H9 ∧ H9 D = some (.lst (((fitB c0 (f0 :: fs) (t0 :: ts)).take i).map V.bl))) ⟨same_upd hD, upd_same⟩ (fun i H9 _ h => ⟨SqL.of (h.1 _ _ ep1), SqL.of (h.1 _ _ er1)⟩) ?_ ?_
    · rintro i x H9 H10 hi ⟨s9, e9⟩ ⟨t, x1, x2, rfl, nt, rfl, hx1, hx2⟩
      have hx1 : xs[i]? = some x1 := hx1
      have hx2 : ys[i]? = some x2 := hx2
      obtain ⟨q1, hq1, a1, rfl, pa1⟩ := ap.get hx1
      obtain ⟨q2, hq2, a2, rfl, pa2⟩ := ar.get hx2
      have st := same_upd (o := .tup [V.ref a1, V.ref a2]) nt
      have s19 := s1.trans (s9.trans st)
      have pc' := pc.same (s9.trans st)
      have pa1 := pa1.same s19
      have pa2 := pa2.same s19
      have e9 := st _ _ e9
      have s9 := s9.trans st
      refine ⟨t, _, rfl, SqT.of upd_same, rfl, _, _, rfl, _, _, rfl, rfl, rfl, ?_⟩
      generalize upd H9 t (.tup [V.ref a1, V.ref a2]) = H11 at pa1 pa2 pc' e9 s9
      obtain ⟨zq, _⟩ := hz q2 (List.mem_of_getElem? hq2)
      obtain ⟨dx1, ea1⟩ := id pa1
      obtain ⟨dx2, ea2⟩ := id pa2
      refine ⟨.ref a1, rfl, .ref a2, rfl, a2, dx2, _, rfl, ea2, no_times q2, .ref c, rfl, ?_⟩
      refine ⟨a2, c, q2, c0, rfl, pa2, pc', zq.mono (by decide), zc.mono (by decide), trivial, fun H12 m s12 n12 pm => ?_⟩
      obtain ⟨dm, em⟩ := id pm
      refine ⟨a1, m, dx1, dm, _, _, rfl, rfl, s12 _ _ ea1, em, a1, m, q1, q2 * c0, rfl, pa1.same s12, pm, _, rfl, ?_⟩
      have hb : (fitB c0 (f0 :: fs) (t0 :: ts))[i]? = some (decide (q1 = q2 * c0)) := by
        unfold fitB
        rw [List.getElem?_zipWith, hq1, hq2]
      rw [Bool.xor_false]
      refine ⟨_, s12 _ _ e9, ?_, same_new hD (s9.trans s12), ?_⟩
      · rw [List.length_map]
        exact fit' (Nat.le_trans (List.length_take_le _ _) (by omega))
      · rw [upd_same, List.take_add_one, hb, List.map_append]
        rfl
    · rintro H3 ⟨s3, e3⟩
      have hfl : (fitB c0 (f0 :: fs) (t0 :: ts)).length = fs.length + 1 := by
        unfold fitB
        rw [List.length_zipWith, List.length_cons, List.length_cons, hl, Nat.min_self]
      rw [List.take_of_length_le (by rw [hfl]; exact Nat.le_refl _)] at e3
      refine ⟨D, _, rfl, SqL.of e3, ?_⟩
      unfold bet at h
      generalize (fitB c0 (f0 :: fs) (t0 :: ts)).all id = b at h
      cases b
      · exact ⟨_, rfl, h H3 .non (s1.trans s3) rfl⟩
      · exact ⟨_, rfl, .ref c, rfl, h H3 (.ref c) (s1.trans s3) ⟨c, rfl, pc.same s3⟩⟩
end
end Hop

set_option Elab.async false
set_option linter.all false
set_option maxRecDepth 100000
namespace HopW
/-! ### where both paces come to one, no place hangs on another -/
def sv (x y : Rat) : Option Bool → Rat
  | none => x * y
  | some true => y
  | some false => x
theorem pw_nil (x y : Rat) : pw x y [] = 1 := Rat.pow_zero y
theorem pw_cons1 {x y : Rat} (h : x * y = x + y) (s : Option Bool) (p : List (Option Bool)) : pw x y (s :: p) = sv x y s * pw x y p := by
  rw [pw_one h, pw_one h]
  match s with
  | none =>
    rw [List.count_cons_of_ne (by decide), List.count_cons_of_ne (by decide), List.count_cons_self, Rat.pow_succ]
    show _ = x * y * _
    grind
  | some true =>
    rw [List.count_cons_of_ne (by decide), List.count_cons_self, List.count_cons_of_ne (by decide), Rat.pow_succ]
    show _ = y * _
    grind
  | some false =>
    rw [List.count_cons_self, List.count_cons_of_ne (by decide), List.count_cons_of_ne (by decide), Rat.pow_succ]
    show _ = x * _
    grind
theorem pw_app1 {x y : Rat} (h : x * y = x + y) : ∀ p r : List (Option Bool), pw x y (p ++ r) = pw x y p * pw x y r
  | [], r => by rw [pw_nil, List.nil_append, Rat.one_mul]
  | s :: p, r => by rw [List.cons_append, pw_cons1 h, pw_cons1 h, pw_app1 h p r, Rat.mul_assoc]
theorem pw_rep1 {x y : Rat} (h : x * y = x + y) : ∀ n : Nat, pw x y (List.replicate n none) = (x * y) ^ n
  | 0 => by
    rw [Rat.pow_zero]
    exact pw_nil x y
  | n + 1 => by
    rw [List.replicate_succ, pw_cons1 h, pw_rep1 h n, Rat.pow_succ]
    show x * y * _ = _
    grind
/-- one sign told -/
theorem pat_sign {x y : Rat} (h : x * y = x + y) {n j : Nat} (hj : j < n) (S : Nat → Option Bool) (hS : S j = none) (v : Option Bool) : pw x y (pat n (upS S j v)) * (x * y) = pw x y (pat n S) * sv x y v := by
  have e := pat_up hj S none
  rw [up_none S j hS] at e
  rw [e, pat_up hj S v, pw_app1 h, pw_app1 h, pw_cons1 h, pw_cons1 h]
  show _ = _ * (x * y * _) * _
  grind
/-- beads at each place in turn, together -/
def bT (n : Nat) : Nat → List (List Nat)
  | 0 => []
  | m + 1 => tadd (bT n m) (tblp (pat n (upS zS m (some true))))
theorem bT_tp (x y : Rat) (n m : Nat) : tp x (fun b => y ^ b) (bT n (m + 1)) = tp x (fun b => y ^ b) (bT n m) + pw x y (pat n (upS zS m (some true))) := by
  show tp x (fun b => y ^ b) (tadd (bT n m) (tblp (pat n (upS zS m (some true))))) = _
  rw [tp_tadd, pw_tbl]
theorem bT_one {x y : Rat} (h : x * y = x + y) {n : Nat} : ∀ m : Nat, m ≤ n → tp x (fun b => y ^ b) (bT n m) * (x * y) = (m : Rat) * (pw x y (List.replicate n none) * y)
  | 0, _ => by
    show (0 : Rat) * (x * y) = ((0 : Nat) : Rat) * _
    grind
  | m + 1, hm => by
    have e := pat_sign h (show m < n by omega) zS rfl (some true)
    rw [show pat n zS = List.replicate n none from pat_none n] at e
    have e : pw x y (pat n (upS zS m (some true))) * (x * y) = pw x y (List.replicate n none) * y := e
    rw [bT_tp, Rat.add_mul, bT_one h m (by omega), e, cast_add]
    grind
end HopW

set_option Elab.async false
set_option linter.all false
set_option maxRecDepth 100000
namespace HopW
/-! ### words by the number of their beads, however many places -/
def bbn (n j : Nat) : List (List Bool) := (aw n).filter fun v => v.count true == j
theorem sw_permW (φ : List Bool → Rat) {l k : List (List Bool)} (h : l.Perm k) : sw φ l = sw φ k := by
  induction h with
  | nil => rfl
  | cons v _ ih => show φ v + _ = φ v + _; rw [ih]
  | swap u v l =>
    show φ v + (φ u + sw φ l) = φ u + (φ v + sw φ l)
    rw [← Rat.add_assoc, ← Rat.add_assoc, Rat.add_comm (φ v)]
  | trans _ _ a b => exact a.trans b
/-- the same words, the last sign told apart first -/
theorem aw_right : ∀ n, (aw (n + 1)).Perm ((aw n).map (· ++ [false]) ++ (aw n).map (· ++ [true]))
  | 0 => List.Perm.refl _
  | n + 1 => by
    have ih := aw_right n
    show ((aw (n + 1)).map (false :: ·) ++ (aw (n + 1)).map (true :: ·)).Perm _
    have h1 := ih.map (false :: ·)
    have h2 := ih.map (true :: ·)
    refine (h1.append h2).trans ?_
    show List.Perm _ (((aw n).map (false :: ·) ++ (aw n).map (true :: ·)).map (· ++ [false]) ++ ((aw n).map (false :: ·) ++ (aw n).map (true :: ·)).map (· ++ [true]))
    rw [List.map_append, List.map_append, List.map_append, List.map_append, List.map_map, List.map_map, List.map_map, List.map_map, List.map_map, List.map_map, List.map_map, List.map_map]
    have e : ∀ (b c : Bool), ((fun x => x ++ [c]) ∘ fun x : List Bool => b :: x) = ((fun x => b :: x) ∘ fun x : List Bool => x ++ [c]) := fun b c => rfl
    rw [e, e, e, e, List.append_assoc, List.append_assoc]
    refine List.Perm.append_left _ ?_
    rw [← List.append_assoc, ← List.append_assoc]
    exact List.Perm.append_right _ List.perm_append_comm
theorem cnt_false (v : List Bool) : (v ++ [false]).count true = v.count true := by
  rw [List.count_append]
  rfl
theorem cnt_true (v : List Bool) : (v ++ [true]).count true = v.count true + 1 := by
  rw [List.count_append]
  rfl
theorem bbn_right (n j : Nat) : (bbn (n + 1) (j + 1)).Perm ((bbn n (j + 1)).map (· ++ [false]) ++ (bbn n j).map (· ++ [true])) := by
  unfold bbn
  refine ((aw_right n).filter _).trans ?_
  rw [List.filter_append, List.filter_map, List.filter_map]
  have e1 : ((fun v : List Bool => v.count true == j + 1) ∘ fun x => x ++ [false]) = fun v : List Bool => v.count true == j + 1 := funext fun v => by
    show ((v ++ [false]).count true == j + 1) = _
    rw [cnt_false]
  have e2 : ((fun v : List Bool => v.count true == j + 1) ∘ fun x => x ++ [true]) = fun v : List Bool => v.count true == j := funext fun v => by
    show ((v ++ [true]).count true == j + 1) = _
    rw [cnt_true]
    cases h : v.count true == j with
    | true => rw [beq_iff_eq] at h ⊢; omega
    | false =>
      have : v.count true ≠ j := by
        intro z
        rw [z, beq_self_eq_true] at h
        cases h
      exact beq_eq_false_iff_ne.mpr (by omega)
  rw [e1, e2]
theorem bbn_right0 (n : Nat) : (bbn (n + 1) 0).Perm ((bbn n 0).map (· ++ [false])) := by
  unfold bbn
  refine ((aw_right n).filter _).trans ?_
  rw [List.filter_append, List.filter_map, List.filter_map]
  have e1 : ((fun v : List Bool => v.count true == 0) ∘ fun x => x ++ [false]) = fun v : List Bool => v.count true == 0 := funext fun v => by
    show ((v ++ [false]).count true == 0) = _
    rw [cnt_false]
  have e2 : ((fun v : List Bool => v.count true == 0) ∘ fun x => x ++ [true]) = fun _ : List Bool => false := funext fun v => by
    show ((v ++ [true]).count true == 0) = _
    rw [cnt_true]
    exact beq_eq_false_iff_ne.mpr (by omega)
  rw [e1, e2, filter_no, List.map_nil, List.append_nil]
/-- what the words of n places with j beads come to, by any g -/
def nw (x : Rat) (g : Nat → Rat) (n j : Nat) : Rat := sw (fun v => gf x v g 0) (bbn n j)
theorem nw_first (x : Rat) (g : Nat → Rat) : nw x g 0 0 = g 0 := by
  show g 0 + 0 = g 0
  rw [Rat.add_zero]
theorem nw_none (x : Rat) (g : Nat → Rat) (j : Nat) : nw x g 0 (j + 1) = 0 := rfl
theorem sw_snoc (x : Rat) (g : Nat → Rat) (b : Bool) (l : List (List Bool)) : sw (fun v => gf x v g 0) (l.map (· ++ [b])) = sw (fun v => gf x v (gf x [b] g) 0) l := by
  rw [sw_map]
  exact congrArg (fun φ => sw φ l) (funext fun v => by rw [gf_app])
theorem nw_succ (x : Rat) (g : Nat → Rat) (n j : Nat) : nw x g (n + 1) (j + 1) = nw x (gf x [true] g) n j + nw x (gf x [false] g) n (j + 1) := by
  unfold nw
  rw [sw_permW _ (bbn_right n j), sw_app, sw_snoc, sw_snoc, Rat.add_comm]
theorem nw_zero (x : Rat) (g : Nat → Rat) (n : Nat) : nw x g (n + 1) 0 = nw x (gf x [false] g) n 0 := by
  unfold nw
  rw [sw_permW _ (bbn_right0 n), sw_snoc]
theorem nw_wt (x y : Rat) (n j : Nat) : nw x (fun b => y ^ b) n j = sw (wt x y) (bbn n j) := rfl
/-! ### sums by the number -/
/-- sums over l by what f tells -/
def prt (φ : List Bool → Rat) (c : Nat → Rat) (f : List Bool → Nat) (l : List (List Bool)) : Nat → Rat
  | 0 => 0
  | n + 1 => prt φ c f l n + c n * sw φ (l.filter fun v => f v == n)
theorem prt_cons (φ : List Bool → Rat) (c : Nat → Rat) (f : List Bool → Nat) (v : List Bool) (l : List (List Bool)) : ∀ n, prt φ c f (v :: l) n = (if f v < n then c (f v) * φ v else 0) + prt φ c f l n
  | 0 => by
    show (0 : Rat) = (if f v < 0 then _ else 0) + 0
    rw [if_neg (Nat.not_lt_zero _), Rat.add_zero]
  | n + 1 => by
    show prt φ c f (v :: l) n + c n * sw φ ((v :: l).filter fun v => f v == n) = _ + (prt φ c f l n + c n * sw φ (l.filter fun v => f v == n))
    rw [prt_cons φ c f v l n]
    by_cases h : f v = n
    · have e : ((v :: l).filter fun v => f v == n) = v :: l.filter fun v => f v == n := by simp [h]
      rw [e, if_neg (by omega), if_pos (by omega), h]
      show 0 + prt φ c f l n + c n * (φ v + sw φ _) = _
      grind
    · have e : ((v :: l).filter fun v => f v == n) = l.filter fun v => f v == n := by simp [h]
      rw [e]
      by_cases h2 : f v < n
      · rw [if_pos h2, if_pos (by omega)]
        grind
      · rw [if_neg h2, if_neg (by omega)]
        grind
theorem prt_is (φ : List Bool → Rat) (c : Nat → Rat) (f : List Bool → Nat) {n : Nat} : ∀ {l : List (List Bool)}, (∀ v ∈ l, f v < n) → prt φ c f l n = sw (fun v => c (f v) * φ v) l
  | [], _ => by
    have : ∀ n, prt φ c f [] n = 0 := fun n => by
      induction n with
      | zero => rfl
      | succ n ih =>
        show prt φ c f [] n + c n * 0 = 0
        rw [ih, Rat.mul_zero, Rat.add_zero]
    exact this n
  | v :: l, h => by
    rw [prt_cons, if_pos (h v List.mem_cons_self), prt_is φ c f fun u hu => h u (List.mem_cons_of_mem _ hu)]
    rfl
/-- the chances of all numbers add up to all -/
theorem all_nums (φ : List Bool → Rat) (n : Nat) : prt φ (fun _ => 1) (fun v => v.count true) (aw n) (n + 1) = sw φ (aw n) := by
  rw [prt_is φ _ _ (fun v hv => by
    have h1 := List.count_le_length (a := true) (l := v)
    rw [aw_word n v hv] at h1
    omega)]
  exact congrArg (fun ψ => sw ψ (aw n)) (funext fun v => Rat.one_mul _)
end HopW

set_option Elab.async false
set_option linter.all false
set_option maxRecDepth 100000
namespace HopW
/-! ### sums over words by their places -/
theorem sw_addf (φ ψ : List Bool → Rat) : ∀ l : List (List Bool), sw (fun v => φ v + ψ v) l = sw φ l + sw ψ l
  | [] => by show (0 : Rat) = 0 + 0; rw [Rat.add_zero]
  | v :: l => by
    show φ v + ψ v + sw (fun v => φ v + ψ v) l = (φ v + sw φ l) + (ψ v + sw ψ l)
    rw [sw_addf φ ψ l]
    grind
theorem sw_zero : ∀ l : List (List Bool), sw (fun _ => (0 : Rat)) l = 0
  | [] => rfl
  | v :: l => by
    show (0 : Rat) + sw (fun _ => (0 : Rat)) l = 0
    rw [sw_zero l, Rat.add_zero]
def tf (b : Bool) : Rat := if b then 1 else 0
theorem sw_filter (φ : List Bool → Rat) (f : List Bool → Bool) : ∀ l : List (List Bool), sw φ (l.filter f) = sw (fun v => tf (f v) * φ v) l
  | [] => rfl
  | v :: l => by
    have ih := sw_filter φ f l
    cases h : f v with
    | true =>
      have e : (v :: l).filter f = v :: l.filter f := by simp [h]
      rw [e]
      show φ v + sw φ (l.filter f) = tf (f v) * φ v + _
      rw [ih, h]
      show _ = 1 * φ v + _
      rw [Rat.one_mul]
    | false =>
      have e : (v :: l).filter f = l.filter f := by simp [h]
      rw [e]
      show sw φ (l.filter f) = tf (f v) * φ v + _
      rw [ih, h]
      show _ = 0 * φ v + _
      rw [Rat.zero_mul, Rat.zero_add]
def bit (v : List Bool) (i : Nat) : Rat := tf (v.getD i false)
def bsum (v : List Bool) : Nat → Rat
  | 0 => 0
  | n + 1 => bsum v n + bit v n
theorem bsum_cons (b : Bool) (v : List Bool) : ∀ n, bsum (b :: v) (n + 1) = tf b + bsum v n
  | 0 => by
    show (0 : Rat) + tf b = tf b + 0
    rw [Rat.add_comm]
  | n + 1 => by
    show bsum (b :: v) (n + 1) + bit (b :: v) (n + 1) = tf b + (bsum v n + bit v n)
    rw [bsum_cons b v n, Rat.add_assoc]
    rfl
theorem bsum_is : ∀ v : List Bool, bsum v v.length = ((v.count true : Nat) : Rat)
  | [] => rfl
  | b :: v => by
    show bsum (b :: v) (v.length + 1) = _
    rw [bsum_cons, bsum_is v]
    cases b with
    | true =>
      rw [List.count_cons_self, cast_add, Rat.add_comm]
      rfl
    | false =>
      rw [List.count_cons_of_ne (by decide)]
      exact Rat.zero_add _
/-- the sum over the places -/
def pls (φ : List Bool → Rat) (l : List (List Bool)) : Nat → Rat
  | 0 => 0
  | n + 1 => pls φ l n + sw φ (l.filter fun v => v.getD n false)
theorem pls_is (φ : List Bool → Rat) (l : List (List Bool)) : ∀ n, pls φ l n = sw (fun v => bsum v n * φ v) l
  | 0 => by
    rw [show (fun v => bsum v 0 * φ v) = fun _ => (0 : Rat) from funext fun v => Rat.zero_mul _, sw_zero]
    rfl
  | n + 1 => by
    show pls φ l n + sw φ (l.filter fun v => v.getD n false) = _
    rw [pls_is φ l n, sw_filter, ← sw_addf]
    refine congrArg (fun ψ => sw ψ l) (funext fun v => ?_)
    show bsum v n * φ v + bit v n * φ v = (bsum v n + bit v n) * φ v
    rw [Rat.add_mul]
theorem sw_on {φ ψ : List Bool → Rat} : ∀ {l : List (List Bool)}, (∀ v ∈ l, φ v = ψ v) → sw φ l = sw ψ l
  | [], _ => rfl
  | v :: l, h => by
    show φ v + sw φ l = ψ v + sw ψ l
    rw [h v List.mem_cons_self, sw_on fun u hu => h u (List.mem_cons_of_mem _ hu)]
theorem count_lt {n : Nat} {v : List Bool} (hv : v ∈ aw n) : v.count true < n + 1 := by
  have h1 := List.count_le_length (a := true) (l := v)
  rw [aw_word n v hv] at h1
  omega
/-- the mean by the numbers and by the places -/
theorem mean_nums (φ : List Bool → Rat) (n : Nat) : prt φ (fun k => (k : Rat)) (fun v => v.count true) (aw n) (n + 1) = pls φ (aw n) n := by
  rw [prt_is φ _ _ fun v hv => count_lt hv, pls_is]
  refine sw_on fun v hv => ?_
  have e := bsum_is v
  rw [aw_word n v hv] at e
  rw [e]
/-- the sum over all pairs of places -/
def plq (φ : List Bool → Rat) (l : List (List Bool)) (m : Nat) : Nat → Rat
  | 0 => 0
  | n + 1 => plq φ l m n + pls φ (l.filter fun v => v.getD n false) m
theorem plq_is (φ : List Bool → Rat) (l : List (List Bool)) (m : Nat) : ∀ n, plq φ l m n = sw (fun v => bsum v n * (bsum v m * φ v)) l
  | 0 => by
    rw [show (fun v => bsum v 0 * (bsum v m * φ v)) = fun _ => (0 : Rat) from funext fun v => Rat.zero_mul _, sw_zero]
    rfl
  | n + 1 => by
    show plq φ l m n + pls φ (l.filter fun v => v.getD n false) m = _
    rw [plq_is φ l m n, pls_is, sw_filter, ← sw_addf]
    refine congrArg (fun ψ => sw ψ l) (funext fun v => ?_)
    show bsum v n * (bsum v m * φ v) + bit v n * (bsum v m * φ v) = (bsum v n + bit v n) * (bsum v m * φ v)
    rw [Rat.add_mul]
/-- the squares by the numbers and by the pairs of places -/
theorem squares_nums (φ : List Bool → Rat) (n : Nat) : prt φ (fun k => (k : Rat) * (k : Rat)) (fun v => v.count true) (aw n) (n + 1) = plq φ (aw n) n n := by
  rw [prt_is φ _ _ fun v hv => count_lt hv, plq_is]
  refine sw_on fun v hv => ?_
  have e := bsum_is v
  rw [aw_word n v hv] at e
  rw [e, Rat.mul_assoc]
/-! ### mirrored -/
theorem mw_mw (w : List Bool) : mw (mw w) = w := by
  unfold mw
  rw [List.map_reverse, List.reverse_reverse, List.map_map]
  have : (not ∘ not) = (id : Bool → Bool) := funext fun b => by cases b <;> rfl
  rw [this, List.map_id]
theorem mw_len (w : List Bool) : (mw w).length = w.length := by
  unfold mw
  rw [List.length_reverse, List.length_map]
theorem mw_count (w : List Bool) : (mw w).count true + w.count true = w.length := by
  unfold mw
  rw [List.count_reverse]
  induction w with
  | nil => rfl
  | cons b w ih =>
    cases b with
    | true =>
      rw [List.map_cons, List.count_cons_of_ne (by decide), List.count_cons_self, List.length_cons]
      omega
    | false =>
      rw [List.map_cons, show (!false) = true from rfl, List.count_cons_self, List.count_cons_of_ne (by decide), List.length_cons]
      omega
theorem mem_aw : ∀ (w : List Bool), w ∈ aw w.length
  | [] => List.mem_singleton.mpr rfl
  | b :: w => by
    show _ ∈ (aw w.length).map (false :: ·) ++ (aw w.length).map (true :: ·)
    cases b with
    | false => exact List.mem_append_left _ (List.mem_map.mpr ⟨w, mem_aw w, rfl⟩)
    | true => exact List.mem_append_right _ (List.mem_map.mpr ⟨w, mem_aw w, rfl⟩)
theorem mem_bbn {n j : Nat} {w : List Bool} : w ∈ bbn n j ↔ w.length = n ∧ w.count true = j := by
  unfold bbn
  rw [List.mem_filter]
  refine ⟨fun ⟨h1, h2⟩ => ⟨aw_word n w h1, eq_of_beq h2⟩, fun ⟨h1, h2⟩ => ⟨by rw [← h1]; exact mem_aw w, by rw [h2]; exact beq_self_eq_true j⟩⟩
theorem bbn_once (n j : Nat) : (bbn n j).Nodup := (aw_once n).filter _
theorem bbn_mw {n j : Nat} (h : j ≤ n) : ((bbn n j).map mw).Perm (bbn n (n - j)) := by
  refine (List.perm_ext_iff_of_nodup ?_ (bbn_once n (n - j))).mpr fun w => ?_
  · exact List.pairwise_map.mpr ((bbn_once n j).imp fun {a b} h e => h (by rw [← mw_mw a, ← mw_mw b, e]))
  · rw [List.mem_map, mem_bbn]
    refine ⟨fun ⟨u, hu, e⟩ => ?_, fun ⟨h1, h2⟩ => ⟨mw w, mem_bbn.mpr ?_, mw_mw w⟩⟩
    · obtain ⟨h1, h2⟩ := mem_bbn.mp hu
      subst e
      have := mw_count u
      exact ⟨by rw [mw_len, h1], by omega⟩
    · have := mw_count w
      exact ⟨by rw [mw_len, h1], by omega⟩
theorem nums_mirror (x y : Rat) {n j : Nat} (h : j ≤ n) : sw (wt y x) (bbn n (n - j)) = sw (wt x y) (bbn n j) := by
  rw [← sw_permW _ (bbn_mw h), sw_map]
  exact congrArg (fun φ => sw φ (bbn n j)) (funext fun w => (wt_mw x y _ w rfl).symm)
/-! ### above nought, and no more than -/
theorem wt_above {x y : Rat} (hx : 0 < x) (hy : 0 < y) (w : List Bool) : 0 < wt x y w := by
  rw [← pw_word]
  exact pw_pos hx hy _
theorem sw_nn {φ : List Bool → Rat} (h : ∀ v, 0 < φ v) : ∀ l : List (List Bool), 0 ≤ sw φ l
  | [] => Rat.le_refl
  | v :: l => by
    have h1 := h v
    have h2 := sw_nn h l
    show 0 ≤ φ v + sw φ l
    grind
theorem sw_pos {φ : List Bool → Rat} (h : ∀ v, 0 < φ v) {l : List (List Bool)} (ne : l ≠ []) : 0 < sw φ l := by
  match l, ne with
  | v :: l, _ =>
    have h1 := h v
    have h2 := sw_nn h l
    show 0 < φ v + sw φ l
    grind
theorem bbn_ne {n j : Nat} (h : j ≤ n) : bbn n j ≠ [] := List.ne_nil_of_mem (a := List.replicate j true ++ List.replicate (n - j) false) (mem_bbn.mpr ⟨by rw [List.length_append, List.length_replicate, List.length_replicate]; omega, by
  rw [List.count_append, List.count_replicate_self, List.count_replicate]
  rfl⟩)
theorem sw_less {φ : List Bool → Rat} (h : ∀ v, 0 < φ v) (f g : List Bool → Bool) : ∀ l : List (List Bool), (∀ v ∈ l, f v = true → g v = true) → sw φ (l.filter f) ≤ sw φ (l.filter g)
  | [], _ => Rat.le_refl
  | v :: l, i => by
    have ih := sw_less h f g l fun u hu => i u (List.mem_cons_of_mem _ hu)
    have i0 := i v List.mem_cons_self
    have h1 := h v
    cases hf : f v with
    | true =>
      have hg := i0 hf
      rw [show (v :: l).filter f = v :: l.filter f by simp [hf], show (v :: l).filter g = v :: l.filter g by simp [hg]]
      show φ v + _ ≤ φ v + _
      grind
    | false =>
      rw [show (v :: l).filter f = l.filter f by simp [hf]]
      cases hg : g v with
      | true =>
        rw [show (v :: l).filter g = v :: l.filter g by simp [hg]]
        show _ ≤ φ v + _
        grind
      | false =>
        rw [show (v :: l).filter g = l.filter g by simp [hg]]
        exact ih
/-! ### how many words -/
theorem bbn_len (n j : Nat) : (bbn (n + 1) (j + 1)).length = (bbn n (j + 1)).length + (bbn n j).length := by
  rw [(bbn_right n j).length_eq, List.length_append, List.length_map, List.length_map]
theorem bbn_len0 : ∀ n, (bbn n 0).length = 1
  | 0 => rfl
  | n + 1 => by rw [(bbn_right0 n).length_eq, List.length_map, bbn_len0 n]
theorem bbn_step : ∀ n k, k ≤ n → (bbn n (k + 1)).length * (k + 1) = (bbn n k).length * (n - k)
  | 0, 0, _ => rfl
  | n + 1, 0, _ => by
    have h := bbn_step n 0 (Nat.zero_le _)
    rw [bbn_len, bbn_len0, bbn_len0]
    rw [bbn_len0] at h
    omega
  | n + 1, k + 1, hk => by
    rcases Nat.lt_or_ge k n with h | h
    · have h1 := bbn_step n (k + 1) (by omega)
      have h2 := bbn_step n k (by omega)
      rw [bbn_len n (k + 1), bbn_len n k, Nat.add_mul, Nat.add_mul, show k + 1 + 1 = k + 2 from rfl] at *
      obtain ⟨d, rfl⟩ : ∃ d, n = k + 1 + d := ⟨n - (k + 1), by omega⟩
      rw [show k + 1 + d - (k + 1) = d by omega] at h1
      rw [show k + 1 + d - k = d + 1 by omega] at h2
      rw [show k + 1 + d + 1 - (k + 1) = d + 1 by omega]
      generalize (bbn (k + 1 + d) (k + 2)).length = a at *
      generalize (bbn (k + 1 + d) (k + 1)).length = b at *
      generalize (bbn (k + 1 + d) k).length = c at *
      rw [h1, ← h2]
      grind
    · obtain rfl : k = n := by omega
      have z : (bbn (k + 1) (k + 1 + 1)).length = 0 := by
        rw [List.length_eq_zero_iff]
        refine List.eq_nil_iff_forall_not_mem.mpr fun w hw => ?_
        obtain ⟨h1, h2⟩ := mem_bbn.mp hw
        have := List.count_le_length (a := true) (l := w)
        omega
      rw [z, Nat.sub_self, Nat.zero_mul, Nat.mul_zero]
/-- where the paces come to one, each word of n places with k beads weighs the same -/
theorem nums_one {x y : Rat} (h : x * y = x + y) (n k : Nat) : sw (wt x y) (bbn n k) = ((bbn n k).length : Rat) * (x ^ (n - k) * y ^ k) := by
  have e : sw (wt x y) (bbn n k) = sw (fun _ => x ^ (n - k) * y ^ k) (bbn n k) := sw_on fun w hw => by
    obtain ⟨h1, h2⟩ := mem_bbn.mp hw
    have hc : w.count false = n - k := by
      have h3 := mw_count w
      have h4 : (mw w).count true = w.count false := by
        unfold mw
        rw [List.count_reverse]
        clear h1 h2 h3 hw
        induction w with
        | nil => rfl
        | cons b w ih => cases b <;> simp [ih]
      omega
    rw [wt_one h, hc, h2]
  rw [e]
  generalize x ^ (n - k) * y ^ k = c
  have : ∀ l : List (List Bool), sw (fun _ => c) l = (l.length : Rat) * c := fun l => by
    induction l with
    | nil => show (0 : Rat) = ((0 : Nat) : Rat) * c; rw [show ((0 : Nat) : Rat) = 0 from rfl, Rat.zero_mul]
    | cons v l ih =>
      show c + sw (fun _ => c) l = ((l.length + 1 : Nat) : Rat) * c
      rw [ih, cast_add, Rat.add_mul, Rat.add_comm]
      show _ = _ + 1 * c
      rw [Rat.one_mul]
  exact this _
end HopW

set_option Elab.async false
set_option linter.all false
set_option maxRecDepth 100000
set_option exponentiation.threshold 200000
namespace Hop
open PySem L2 HopR HopW
open C8 (InsC call_isC)
section
variable {P : Program} {w : World} {K : PySem.W.Frag} {mg : Str → Option Value} {base : Heap} {C d : Addr} {es : Array DictEntry} {n : Nat}
variable {fi f1 f2 : Addr} {gi g1 g2 : FuncData} {d1 : Value} {fw : Addr} {gw : FuncData} {dA dB : Value}
variable {fl ft fo fe fp : Addr} {gl gt go ge gp : FuncData} {fb : Addr} {gb : FuncData}
/-- the told weights -/
def wsl (q r : Rat) (m : Nat) : List Rat := (tz q r m).map Prod.snd
def tts (q r : Rat) (m : Nat) (fs : List Rat) : Option Rat := bet (fs.headD 0 / (wsl q r m).headD 0) fs (wsl q r m)
theorem tz_pos {q r : Rat} (hq : 0 < q) (hr : 0 < r) (zq : Sz 45 q) (zr : Sz 45 r) {m : Nat} (h8 : m ≤ 8) : ∀ z ∈ tz q r m, 0 < z.2 ∧ Sz 600 z.2 := fun z hz => by
  unfold tz at hz
  obtain ⟨v, hv, rfl⟩ := List.mem_map.mp hz
  exact ⟨wt_above (Rat.inv_pos.mpr hq) (Rat.inv_pos.mpr hr) v, weight_sz8 hq hr zq zr (by rw [ar_word v hv]; exact h8)⟩
theorem tz_fst (q r : Rat) (m : Nat) : (tz q r m).map Prod.fst = ar m := by
  unfold tz
  rw [List.map_map]
  exact List.map_id' _
theorem Pw.sz' {H : Hp} {x : V} {q : Rat} (h : Pw C H x q) : Sz 45 q := by
  rcases h with ⟨_, rfl⟩ | ⟨_, _, p⟩
  · exact ⟨by decide, by decide⟩
  · exact p.2.2
def spTT (C : Addr) : Sp := fun vs H Q _ => ∃ (m : Nat) (p : Addr) (x y : V) (q r : Rat) (zs : List (List Bool × Rat)), vs = [wv m, .ref p, x, y] ∧ 1 ≤ m ∧ m ≤ 8 ∧ Pw C H x q ∧ Pw C H y r ∧ Tz C H p zs ∧ zs.map Prod.fst = ar m ∧ (∀ z ∈ zs, 0 < z.2 ∧ Sz 1400 z.2) ∧ ∀ H' v, Same H H' → OPa C H' v (tts q r m (zs.map Prod.snd)) → Q v H'
structure TtDefs (K : PySem.W.Frag) (mg : Str → Option Value) (C fi f1 f2 fw fb fl ft fo fe fp : Addr) (gi g1 g2 gw gb gl gt go ge gp : FuncData) (d1 dA dB : Value) : Prop where
  B : TbDefs K mg C fi f1 f2 fw gi g1 g2 gw d1 dA dB
  D : PtDefs K mg C fi f1 f2 gi g1 g2 d1 fl ft fo fe fp gl gt go ge gp
  Fb : FunD K "table" "table" (defArgs sTable) (defBody sTable) (defScope sTable) [.non, .non] [] fb gb
  bb : Binds K gb ["many", "inn", "out"] []
  kb : mg "table" = some (.ref fb)
  an : ∃ r s, Fn K mg "is_above_nought" sAbove ["thing"] r s
  li : ∃ r s, Fn K mg "is_line" sLine ["thing", "row"] r s
  it : ∃ r s, Fn K mg "is_table" sIsTable ["thing", "rows"] r s
  tb : ∃ r s, Fn K mg "times_between" sBetween ["found", "told"] r s
abbrev nTT : List Str := ["many", "thing", "inn", "out", "told", "row", "worth"]
theorem scTT : FnScope nTT ["many", "thing", "inn", "out"] (defScope sTimesTold) := ⟨rfl, rfl, rfl, by decide +kernel, rfl, by decide +kernel, by decide +kernel⟩
set_option maxHeartbeats 4000000 in
theorem ok_timestold {f : Addr} {fd : FuncData} {k : Nat} (F : FunD K "times_told" "times_told" (defArgs sTimesTold) (defBody sTimesTold) (defScope sTimesTold) [.non, .non] [] f fd) (N : TtDefs K mg C fi f1 f2 fw fb fl ft fo fe fp gi g1 g2 gw gb gl gt go ge gp d1 dA dB) (T : TxtP K mg C) (TR : TxtR K w mg d es n) (T0 : TxtL mg) (TT : TxtT mg) : FnOk P w K mg base CX0 (k + 8) f fd ["many", "thing", "inn", "out"] (spTT C) := by
  obtain ⟨r1, s1, R1⟩ := N.an
  obtain ⟨r2, s2, R2⟩ := N.li
  obtain ⟨r3, s3, R3⟩ := N.it
  obtain ⟨r4, s4, R4⟩ := N.tb
  have GB : FnOk P w K mg base CX0 (k + 7) fb gb ["many", "inn", "out"] (spTable C) := ok_table N.Fb N.B T TR T0
  have G3 : FnOk P w K mg base CX0 (k + 7) r3 s3 ["thing", "rows"] (spIsTable C) := ok_istable R3.F R2 R1 T TT
  have G4 : FnOk P w K mg base CX0 (k + 7) r4 s4 ["found", "told"] (spBetween C) := ok_between R4.F N.D T TT
  refine F.ok scTT (fun vs H Q E h => ?_) (fun cdv A outer s H vs Q E hr h => ?_)
  · obtain ⟨m, p, x, y, q, r, zs, rfl, _⟩ := h
    rfl
  · obtain ⟨m, p, x, y, q, r, zs, rfl, h1, h8, hx, hy, ⟨vs, ep, al⟩, hzs, hz, h⟩ := h
    have nd := scTT.nd
    have hp := pow8 h8
    have hq := hx.pos
    have hr' := hy.pos
    have hwz := tz_pos hq hr' hx.sz' hy.sz' h8
    have hzl : zs.length = 2 ^ m := by rw [← ar_len, ← hzs, List.length_map]
    have hvl := al.len
    refine ⟨_, pss_cons (ps_set (i := 4) nd rfl (.inl rfl) (pe_call GB hr (by rfl) N.kb N.Fb.kp N.bb .nil pass0 (pa_cons (pv 0) (pa_cons (pv 2) (pa_cons (pv 3) pa_nil)))))
      (pss_cons (ps_if (pt_not (pt_val (pe_call G3 hr (by rfl) R3.g R3.F.kp R3.b .nil pass0 (pa_cons (pv 1) (pa_cons (pe_lc (own := [("row", 5), ("worth", 6)]) (g := gTup K 2 (gCons (gName 5) (gCons (gName 6) gNil))) (tt := tYes) rfl nd (pi_list (pv 4))
        (blkOk_by (own := [("row", 5), ("worth", 6)]) (N := nTT) (sc := defScope sTimesTold) (by decide +kernel))
        (fun _ _ _ _ _ => pg_tup (by rfl) (pgs_cons (pg_name (i := 5) nd rfl (.inl rfl)) (pgs_cons (pg_name (i := 6) nd rfl (.inl rfl)) pgs_nil))) (fun _ _ _ _ _ => pts_nil) (fun _ _ _ _ _ => pv 5)) pa_nil))))) (pss_one (ps_ret pe_non)) pss_nil)
      (pss_one (ps_ret (pe_call G4 hr (by rfl) R4.g R4.F.kp R4.b .nil pass0 (pa_cons (pe_lc (own := [("row", 5), ("worth", 6)]) (g := gTup K 2 (gCons (gName 5) (gCons (gName 6) gNil))) (tt := tYes) rfl nd (pi_list (pv 1))
        (blkOk_by (own := [("row", 5), ("worth", 6)]) (N := nTT) (sc := defScope sTimesTold) (by decide +kernel))
        (fun _ _ _ _ _ => pg_tup (by rfl) (pgs_cons (pg_name (i := 5) nd rfl (.inl rfl)) (pgs_cons (pg_name (i := 6) nd rfl (.inl rfl)) pgs_nil))) (fun _ _ _ _ _ => pts_nil) (fun _ _ _ _ _ => pv 6)) (pa_cons (pe_lc (own := [("row", 5), ("worth", 6)]) (g := gTup K 2 (gCons (gName 5) (gCons (gName 6) gNil))) (tt := tYes) rfl nd (pi_list (pv 4))
        (blkOk_by (own := [("row", 5), ("worth", 6)]) (N := nTT) (sc := defScope sTimesTold) (by decide +kernel))
        (fun _ _ _ _ _ => pg_tup (by rfl) (pgs_cons (pg_name (i := 5) nd rfl (.inl rfl)) (pgs_cons (pg_name (i := 6) nd rfl (.inl rfl)) pgs_nil))) (fun _ _ _ _ _ => pts_nil) (fun _ _ _ _ _ => pv 6)) pa_nil)))))), ?_⟩
    refine ⟨wv m, rfl, x, rfl, y, rfl, m, x, y, q, r, rfl, h1, h8, hx, hy, fun H1 pt t1 n1 ⟨us, et, at_⟩ => ?_⟩
    have hul : us.length = 2 ^ m := by rw [at_.len, tz_len]
    have al1 := al.mono fun _ _ => TwI.same t1
    refine ⟨.ref p, rfl, .ref pt, rfl, pt, rfl, ⟨_, SqL.of et⟩, fun D hD => ?_⟩
    refine lc_list (K := K) (a := pt) (xs := us) (fun i H3 => Same H1 H3 ∧ H3 D = some (.lst (rowsL ((ar m).take i)))) ⟨same_upd hD, upd_same⟩ (fun i H3 _ h => SqL.of (h.1 _ _ et)) ?_ ?_
    · rintro i v H3 hv ⟨s3, e3⟩
      obtain ⟨z, hz', t, a, rfl, ett, _⟩ := at_.get hv
      refine ⟨t, _, rfl, SqT.of (s3 _ _ ett), rfl, _, _, rfl, _, _, rfl, rfl, rfl, .str (tx z.1), rfl, _, e3, ?_, same_new hD s3, ?_⟩
      · rw [rowsL_len]
        exact fit' (Nat.le_trans (List.length_take_le _ _) (by have := (List.getElem?_eq_some_iff.mp hv).1; omega))
      · have : (ar m)[i]? = some z.1 := by rw [← tz_fst q r m, List.getElem?_map, hz']; rfl
        rw [upd_same, List.take_add_one, this]
        unfold rowsL
        rw [List.map_append]
        rfl
    rintro H3 ⟨s3, e3⟩
    rw [hul, List.take_of_length_le (by rw [ar_len]; exact Nat.le_refl _)] at e3
    refine ⟨p, D, zs, rfl, ⟨vs, (t1.trans s3) _ _ ep, al1.mono fun _ _ => TwI.same s3⟩, by rw [hzs]; exact e3, fun z hz' => (hz z hz').1, by omega, fun H4 s4 => ⟨true, rfl, iteF ?_⟩⟩
    have s14 := s3.trans s4
    have t04 := t1.trans s14
    refine ⟨.ref p, rfl, p, rfl, ⟨_, SqL.of (t04 _ _ ep)⟩, fun D2 hD2 => ?_⟩
    refine lc_list (K := K) (a := p) (xs := vs) (fun i H5 => Same H4 H5 ∧ ∃ acc, H5 D2 = some (.lst acc) ∧ Al (IsPa C H5) acc ((zs.map Prod.snd).take i)) ⟨same_upd hD2, [], upd_same, .nil⟩ (fun i H5 _ h => SqL.of (h.1 _ _ (t04 _ _ ep))) ?_ ?_
    · rintro i v H5 hv ⟨s5, acc, e5, a5⟩
      obtain ⟨z, hz', t, a, rfl, ett, pa⟩ := al.get hv
      have pa5 := pa.same (t04.trans s5)
      refine ⟨t, _, rfl, SqT.of ((t04.trans s5) _ _ ett), rfl, _, _, rfl, _, _, rfl, rfl, rfl, .ref a, rfl, _, e5, ?_, same_new hD2 s5, acc ++ [.ref a], upd_same, ?_⟩
      · rw [a5.len]
        exact fit' (Nat.le_trans (List.length_take_le _ _) (by have := (List.getElem?_eq_some_iff.mp hv).1; omega))
      · rw [List.take_add_one, List.getElem?_map, hz']
        exact (a5.mono fun _ _ => IsPa.upd e5).snoc (IsPa.upd e5 ⟨a, rfl, pa5⟩)
    rintro H5 ⟨s5, acc, e5, a5⟩
    rw [hvl, List.take_of_length_le (by rw [List.length_map]; exact Nat.le_refl _)] at a5
    have s15 := s14.trans s5
    refine ⟨.ref pt, rfl, pt, rfl, ⟨_, SqL.of (s15 _ _ et)⟩, fun D3 hD3 => ?_⟩
    refine lc_list (K := K) (a := pt) (xs := us) (fun i H6 => Same H5 H6 ∧ ∃ acc, H6 D3 = some (.lst acc) ∧ Al (IsPa C H6) acc ((wsl q r m).take i)) ⟨same_upd hD3, [], upd_same, .nil⟩ (fun i H6 _ h => SqL.of (h.1 _ _ (s15 _ _ et))) ?_ ?_
    · rintro i v H6 hv ⟨s6, acc, e6, a6⟩
      obtain ⟨z, hz', t, a, rfl, ett, pa⟩ := at_.get hv
      have pa6 := pa.same (s15.trans s6)
      refine ⟨t, _, rfl, SqT.of ((s15.trans s6) _ _ ett), rfl, _, _, rfl, _, _, rfl, rfl, rfl, .ref a, rfl, _, e6, ?_, same_new hD3 s6, acc ++ [.ref a], upd_same, ?_⟩
      · rw [a6.len]
        exact fit' (Nat.le_trans (List.length_take_le _ _) (by have := (List.getElem?_eq_some_iff.mp hv).1; omega))
      · unfold wsl
        rw [List.take_add_one, List.getElem?_map, hz']
        exact (a6.mono fun _ _ => IsPa.upd e6).snoc (IsPa.upd e6 ⟨a, rfl, pa6⟩)
    rintro H6 ⟨s6, acc2, e6, a6⟩
    have hwl : (wsl q r m).length = 2 ^ m := by unfold wsl; rw [List.length_map, tz_len]
    rw [hul, List.take_of_length_le (by rw [hwl]; exact Nat.le_refl _)] at a6
    have p1 : 1 ≤ 2 ^ m := Nat.one_le_two_pow
    have hsl : (zs.map Prod.snd).length = 2 ^ m := by rw [List.length_map, hzl]
    have hss : ∀ q ∈ zs.map Prod.snd, Sz 1400 q := fun q hq => by
      obtain ⟨z, m1, rfl⟩ := List.mem_map.mp hq
      exact (hz z m1).2
    have hww : ∀ q' ∈ wsl q r m, Sz 700 q' ∧ 0 < q' := fun q' hq => by
      obtain ⟨z, m1, rfl⟩ := List.mem_map.mp hq
      exact ⟨(hwz z m1).2.mono (by decide), (hwz z m1).1⟩
    unfold tts at h
    generalize zs.map Prod.snd = fs at a5 hsl hss h
    generalize wsl q r m = ts at a6 hwl hww h
    match fs, ts, hsl, hwl with
    | [], _, z, _ => exact absurd z (by rw [List.length_nil]; omega)
    | _ :: _, [], _, z => exact absurd z (by rw [List.length_nil]; omega)
    | f0 :: fs, t0 :: ts, z1, z2 =>
      rw [List.length_cons] at z1 z2
      exact ⟨D2, D3, f0, t0, fs, ts, rfl, ⟨acc, s6 _ _ e5, a5.mono fun _ _ => IsPa.same s6⟩, ⟨acc2, e6, a6⟩, by omega, by omega, hww, hss f0 List.mem_cons_self, fun H7 v s7 ho => h H7 v (t04.trans (s5.trans (s6.trans s7))) ho⟩
def spStill (C : Addr) : Sp := fun vs H Q _ => ∃ (m : Nat) (p : Addr) (x y : V) (q r : Rat) (zs : List (List Bool × Rat)), vs = [wv m, .ref p, x, y] ∧ 1 ≤ m ∧ m ≤ 8 ∧ Pw C H x q ∧ Pw C H y r ∧ Tz C H p zs ∧ zs.map Prod.fst = ar m ∧ (∀ z ∈ zs, 0 < z.2 ∧ Sz 1400 z.2) ∧ ∀ H', Same H H' → Q (.bl (tts q r m (zs.map Prod.snd)).isSome) H'
theorem scStill : FnScope ["many", "thing", "inn", "out"] ["many", "thing", "inn", "out"] (defScope sStill) := ⟨rfl, rfl, rfl, by decide +kernel, rfl, by decide +kernel, by decide +kernel⟩
theorem ok_still {f ft' : Addr} {fd gt' : FuncData} {k : Nat} (F : FunD K "is_still" "is_still" (defArgs sStill) (defBody sStill) (defScope sStill) [.non, .non] [] f fd) (Ft : FunD K "times_told" "times_told" (defArgs sTimesTold) (defBody sTimesTold) (defScope sTimesTold) [.non, .non] [] ft' gt') (bt : Binds K gt' ["many", "thing", "inn", "out"] []) (kt : mg "times_told" = some (.ref ft'))
    (N : TtDefs K mg C fi f1 f2 fw fb fl ft fo fe fp gi g1 g2 gw gb gl gt go ge gp d1 dA dB) (T : TxtP K mg C) (TR : TxtR K w mg d es n) (T0 : TxtL mg) (TT : TxtT mg) : FnOk P w K mg base CX0 (k + 9) f fd ["many", "thing", "inn", "out"] (spStill C) := by
  have G : FnOk P w K mg base CX0 (k + 8) ft' gt' ["many", "thing", "inn", "out"] (spTT C) := ok_timestold Ft N T TR T0 TT
  refine F.ok scStill (fun vs H Q E h => ?_) (fun cdv A outer s H vs Q E hr h => ?_)
  · obtain ⟨m, p, x, y, q, r, zs, rfl, _⟩ := h
    rfl
  · obtain ⟨m, p, x, y, q, r, zs, rfl, h1, h8, hx, hy, ht, hzs, hz, h⟩ := h
    refine ⟨_, pss_one (ps_ret (pe_cmpR op_notN (pe_call G hr (by rfl) kt Ft.kp bt .nil pass0 (pa_cons (pv 0) (pa_cons (pv 1) (pa_cons (pv 2) (pa_cons (pv 3) pa_nil))))) pe_non (nomark _))), ?_⟩
    refine ⟨wv m, rfl, .ref p, rfl, x, rfl, y, rfl, m, p, x, y, q, r, zs, rfl, h1, h8, hx, hy, ht, hzs, hz, fun H1 v s1 ho => ?_⟩
    refine ⟨rfl, ?_⟩
    have := h H1 s1
    generalize tts q r m (zs.map Prod.snd) = o at ho this
    cases o with
    | none =>
      cases ho
      exact this
    | some c =>
      obtain ⟨a, rfl, _⟩ := ho
      exact this
end
end Hop

set_option Elab.async false
set_option linter.all false
set_option maxRecDepth 100000
set_option exponentiation.threshold 200000
namespace Hop
open PySem L2 HopR HopW
open C8 (InsC call_isC)
/-- no Part -/
def NoP (K : PySem.W.Frag) (C : Addr) (H : Hp) (x : V) : Prop := ∃ t, TyX K H x t ∧ PySem.W.kitOne K t (.ref C) = some false
def NotTy (K : PySem.W.Frag) (H : Hp) (x : V) (c : String) : Prop := ∃ t, TyX K H x t ∧ PySem.W.kitOne K t (.type c) = some false
theorem NoP.same {K : PySem.W.Frag} {C : Addr} {H H' : Hp} {x : V} (s : Same H H') (h : NoP K C H x) : NoP K C H' x := let ⟨t, a, b⟩ := h; ⟨t, tyx_same s a, b⟩
theorem NotTy.same {K : PySem.W.Frag} {c : String} {H H' : Hp} {x : V} (s : Same H H') (h : NotTy K H x c) : NotTy K H' x c := let ⟨t, a, b⟩ := h; ⟨t, tyx_same s a, b⟩
/-- whether v is a line of this row -/
def LnB (K : PySem.W.Frag) (C : Addr) (H : Hp) (v : V) (row : List Bool) (b : Bool) : Prop :=
  (∃ t z a q, v = .ref t ∧ H t = some (.tup [.str (tx z), .ref a]) ∧ PA C H a q ∧ b = (decide (z = row) && decide (0 < q))) ∨
  (∃ t z x, v = .ref t ∧ H t = some (.tup [.str (tx z), x]) ∧ NoP K C H x ∧ b = false) ∨
  (∃ t vs, v = .ref t ∧ H t = some (.lst vs) ∧ b = false) ∨
  (∃ t vs, v = .ref t ∧ H t = some (.tup vs) ∧ vs.length ≠ 2 ∧ b = false) ∨
  (∃ t y x, v = .ref t ∧ H t = some (.tup [y, x]) ∧ NotTy K H y "str" ∧ b = false)
theorem LnB.same {K : PySem.W.Frag} {C : Addr} {H H' : Hp} {v : V} {row : List Bool} {b : Bool} (s : Same H H') (h : LnB K C H v row b) : LnB K C H' v row b := by
  rcases h with ⟨t, z, a, q, e, e1, p, eb⟩ | ⟨t, z, x, e, e1, n, eb⟩ | ⟨t, vs, e, e1, eb⟩ | ⟨t, vs, e, e1, l, eb⟩ | ⟨t, y, x, e, e1, n, eb⟩
  · exact .inl ⟨t, z, a, q, e, s _ _ e1, p.same s, eb⟩
  · exact .inr (.inl ⟨t, z, x, e, s _ _ e1, n.same s, eb⟩)
  · exact .inr (.inr (.inl ⟨t, vs, e, s _ _ e1, eb⟩))
  · exact .inr (.inr (.inr (.inl ⟨t, vs, e, s _ _ e1, l, eb⟩)))
  · exact .inr (.inr (.inr (.inr ⟨t, y, x, e, s _ _ e1, n.same s, eb⟩)))
/-- whether x is a table of these rows -/
def TbK (K : PySem.W.Frag) (C : Addr) (H : Hp) (x : V) (rows : List (List Bool)) (b : Bool) : Prop :=
  (NotTy K H x "list" ∧ b = false) ∨
  (∃ p vs, x = .ref p ∧ H p = some (.lst vs) ∧ vs.length ≠ rows.length ∧ b = false) ∨
  (∃ (p : Addr) (vs : List V) (bs : List Bool), x = .ref p ∧ H p = some (.lst vs) ∧ vs.length = rows.length ∧ bs.length = rows.length ∧ (∀ (i : Nat) v row b', vs[i]? = some v → rows[i]? = some row → bs[i]? = some b' → LnB K C H v row b') ∧ b = bs.all id)
theorem TbK.same {K : PySem.W.Frag} {C : Addr} {H H' : Hp} {x : V} {rows : List (List Bool)} {b : Bool} (s : Same H H') (h : TbK K C H x rows b) : TbK K C H' x rows b := by
  rcases h with ⟨n, e⟩ | ⟨p, vs, e, e1, l, eb⟩ | ⟨p, vs, bs, e, e1, l1, l2, f, eb⟩
  · exact .inl ⟨n.same s, e⟩
  · exact .inr (.inl ⟨p, vs, e, s _ _ e1, l, eb⟩)
  · exact .inr (.inr ⟨p, vs, bs, e, s _ _ e1, l1, l2, fun i v row b' h1 h2 h3 => (f i v row b' h1 h2 h3).same s, eb⟩)
section
variable {P : Program} {w : World} {K : PySem.W.Frag} {mg : Str → Option Value} {base : Heap} {C d : Addr} {es : Array DictEntry} {n : Nat}
variable {fi f1 f2 : Addr} {gi g1 g2 : FuncData} {d1 : Value} {fw : Addr} {gw : FuncData} {dA dB : Value}
variable {fl ft fo fe fp : Addr} {gl gt go ge gp : FuncData} {fb : Addr} {gb : FuncData}
def spAB (K : PySem.W.Frag) (C : Addr) : Sp := fun vs H Q _ => ∃ x b, vs = [x] ∧ ((∃ a q, x = .ref a ∧ PA C H a q ∧ b = decide (0 < q)) ∨ (NoP K C H x ∧ b = false)) ∧ Q (.bl b) H
theorem num_above (q : Rat) : decide (0 < q.num) = decide (0 < q) := by
  by_cases h : 0 < q
  · rw [decide_eq_true h, decide_eq_true (num_pos h)]
  · rw [decide_eq_false h, decide_eq_false fun z => h (pos_num z)]
theorem ok_aboveB {f : Addr} {fd : FuncData} {k : Nat} (F : Fun K "is_above_nought" "is_above_nought" sAbove f fd) (T : TxtP K mg C) : FnOk P w K mg base CX0 (k + 1) f fd ["thing"] (spAB K C) := by
  refine F.ok scAN (fun vs H Q E h => ?_) (fun cdv A outer s H vs Q E hr h => ?_)
  · obtain ⟨x, b, rfl, _⟩ := h
    rfl
  · obtain ⟨x, b, rfl, hx, h⟩ := h
    rcases hx with ⟨a, q, rfl, ⟨dx, ha⟩, rfl⟩ | ⟨⟨t, ty, kt⟩, rfl⟩
    · refine ⟨_, pss_one (ps_ret (pe_and (pe_callB (call_isC T.ins) (by rfl) T.isi (by decide +kernel) (pa_cons (pv 0) (pa_cons (pe_glob (v := .ref C) (by rfl) T.mgC rfl) pa_nil)))
      (pe_one (pe_cmpR op_gt (pe_fld (pv 0) rfl) pe_int (nomark _))))), ?_⟩
      refine ⟨.ref a, rfl, a, dx, _, rfl, ha, true, rfl, ?_⟩
      refine ⟨.ref a, rfl, a, C, dx, _, _, rfl, ha, T.ins.cl, T.nT, pf_top q, _, _, rfl, rfl, ?_⟩
      show Q (.bl (decide (0 < q.num))) H
      rw [num_above]
      exact h
    · refine ⟨_, pss_one (ps_ret (pe_and (pe_callB call_isi (by rfl) T.isi (by decide +kernel) (pa_cons (pv 0) (pa_cons (pe_glob (v := .ref C) (by rfl) T.mgC rfl) pa_nil)))
      (pe_one (pe_cmpR op_gt (pe_fld (pv 0) rfl) pe_int (nomark _))))), ?_⟩
      exact ⟨x, rfl, x, .ref C, t, .ref C, false, rfl, .own _, ty, kt, false, rfl, h⟩
def spIsLineB (K : PySem.W.Frag) (C : Addr) : Sp := fun vs H Q _ => ∃ v row b, vs = [v, .str (tx row)] ∧ LnB K C H v row b ∧ Q (.bl b) H
theorem ok_lineB {f f1 : Addr} {fd g1 : FuncData} {k : Nat} (F : Fun K "is_line" "is_line" sLine f fd) (N1 : Fn K mg "is_above_nought" sAbove ["thing"] f1 g1) (T : TxtP K mg C) (TT : TxtT mg) : FnOk P w K mg base CX0 (k + 2) f fd ["thing", "row"] (spIsLineB K C) := by
  have G1 : FnOk P w K mg base CX0 (k + 1) f1 g1 ["thing"] (spAB K C) := ok_aboveB N1.F T
  refine F.ok scIsLine (fun vs H Q E h => ?_) (fun cdv A outer s H vs Q E hr h => ?_)
  · obtain ⟨v, row, b, rfl, _⟩ := h
    rfl
  · obtain ⟨v, row, b, rfl, hv, h⟩ := h
    have nd := scIsLine.nd
    refine ⟨_, pss_cons (ps_if (PW.pt (pw_or (pt_not (pt_val (pe_callB call_isi (by rfl) T.isi (by decide +kernel) (pa_cons (pv 0) (pa_cons (pe_bltn (v := .ty "tuple") (by rfl) TT.tuple (by decide +kernel) rfl) pa_nil))))) (pw_or1 (pt_cmpR op_ne (pe_callB call_len_seq (by rfl) T.len PySem.boot_len (pa_cons (pv 0) pa_nil)) pe_int (nomark _))))) (pss_one (ps_ret pe_bl)) pss_nil)
      (pss_cons (ps_asg (pv 0) (pg_tup (by rfl) (pgs_cons (pg_name (i := 2) nd rfl (.inl rfl)) (pgs_cons (pg_name (i := 3) nd rfl (.inl rfl)) pgs_nil))))
      (pss_one (ps_ret (pe_and (pe_callB call_isi (by rfl) T.isi (by decide +kernel) (pa_cons (pv 2) (pa_cons (pe_bltn (v := .ty "str") (by rfl) TT.str (by decide +kernel) rfl) pa_nil))) (pe_and (pe_cmpR op_eq (pv 2) (pv 1) (nomark _)) (pe_one (pe_call G1 hr (by rfl) N1.g N1.F.kp N1.b .nil pass0 (pa_cons (pv 3) pa_nil)))))))), ?_⟩
    rcases hv with ⟨t, z, a, q, rfl, et, pa, rfl⟩ | ⟨t, z, x, rfl, et, nx, rfl⟩ | ⟨t, vs, rfl, et, rfl⟩ | ⟨t, vs, rfl, et, hl, rfl⟩ | ⟨t, y, x, rfl, et, ⟨ty, t1, t2⟩, rfl⟩
    · refine ⟨.ref t, rfl, .ref t, .ty "tuple", .type "tuple", .type "tuple", true, rfl, .ty _, .base (.tup et), kit_ty (by decide +kernel), true, rfl, iteF ?_⟩
      refine ⟨.ref t, rfl, t, _, rfl, .inr (SqT.of et), rfl, _, rfl, iteF ?_⟩
      refine ⟨.ref t, rfl, t, _, rfl, SqT.of et, rfl, _, _, rfl, _, _, rfl, rfl, ?_⟩
      refine ⟨.str (tx z), rfl, .str (tx z), .ty "str", .type "str", .type "str", true, rfl, .ty _, .base (.str _), kit_ty (by decide +kernel), true, rfl, ?_⟩
      refine ⟨.str (tx z), rfl, .str (tx row), rfl, rfl, _, rfl, ?_⟩
      by_cases e : z = row
      · rw [decide_eq_true (show V.str (tx z) = V.str (tx row) by rw [e])]
        rw [decide_eq_true e, Bool.true_and] at h
        exact ⟨.ref a, rfl, .ref a, _, rfl, .inl ⟨a, q, rfl, pa, rfl⟩, h⟩
      · rw [decide_eq_false (show ¬ V.str (tx z) = V.str (tx row) from fun e2 => e (tx_inj (V.str.inj e2)))]
        rw [decide_eq_false e, Bool.false_and] at h
        exact h
    · refine ⟨.ref t, rfl, .ref t, .ty "tuple", .type "tuple", .type "tuple", true, rfl, .ty _, .base (.tup et), kit_ty (by decide +kernel), true, rfl, iteF ?_⟩
      refine ⟨.ref t, rfl, t, _, rfl, .inr (SqT.of et), rfl, _, rfl, iteF ?_⟩
      refine ⟨.ref t, rfl, t, _, rfl, SqT.of et, rfl, _, _, rfl, _, _, rfl, rfl, ?_⟩
      refine ⟨.str (tx z), rfl, .str (tx z), .ty "str", .type "str", .type "str", true, rfl, .ty _, .base (.str _), kit_ty (by decide +kernel), true, rfl, ?_⟩
      refine ⟨.str (tx z), rfl, .str (tx row), rfl, rfl, _, rfl, ?_⟩
      by_cases e : z = row
      · rw [decide_eq_true (show V.str (tx z) = V.str (tx row) by rw [e])]
        exact ⟨x, rfl, x, _, rfl, .inr ⟨nx, rfl⟩, h⟩
      · rw [decide_eq_false (show ¬ V.str (tx z) = V.str (tx row) from fun e2 => e (tx_inj (V.str.inj e2)))]
        exact h
    · exact ⟨.ref t, rfl, .ref t, .ty "tuple", .type "list", .type "tuple", false, rfl, .ty _, .base (.lst et), kit_ty (by decide +kernel), false, rfl, h⟩
    · refine ⟨.ref t, rfl, .ref t, .ty "tuple", .type "tuple", .type "tuple", true, rfl, .ty _, .base (.tup et), kit_ty (by decide +kernel), true, rfl, iteF ?_⟩
      refine ⟨.ref t, rfl, t, _, rfl, .inr (SqT.of et), rfl, _, rfl, ?_⟩
      rw [decide_eq_false (show ¬ V.int (vs.length : Int) = V.int 2 from fun z => hl (by have := V.int.inj z; omega))]
      exact h
    · refine ⟨.ref t, rfl, .ref t, .ty "tuple", .type "tuple", .type "tuple", true, rfl, .ty _, .base (.tup et), kit_ty (by decide +kernel), true, rfl, iteF ?_⟩
      refine ⟨.ref t, rfl, t, _, rfl, .inr (SqT.of et), rfl, _, rfl, iteF ?_⟩
      refine ⟨.ref t, rfl, t, _, rfl, SqT.of et, rfl, _, _, rfl, _, _, rfl, rfl, ?_⟩
      exact ⟨y, rfl, y, .ty "str", ty, .type "str", false, rfl, .ty _, t1, t2, false, rfl, h⟩
def spIsTableB (K : PySem.W.Frag) (C : Addr) : Sp := fun vs H Q _ => ∃ x r rows b, vs = [x, .ref r] ∧ TbK K C H x rows b ∧ H r = some (.lst (rowsL rows)) ∧ rows.length ≤ 256 ∧ ∀ H', Same H H' → Q (.bl b) H'
set_option maxHeartbeats 2000000 in
theorem ok_istableB {f f1 f2 : Addr} {fd g1 g2 : FuncData} {k : Nat} (F : Fun K "is_table" "is_table" sIsTable f fd) (N1 : Fn K mg "is_line" sLine ["thing", "row"] f1 g1) (N2 : Fn K mg "is_above_nought" sAbove ["thing"] f2 g2) (T : TxtP K mg C) (TT : TxtT mg) : FnOk P w K mg base CX0 (k + 3) f fd ["thing", "rows"] (spIsTableB K C) := by
  have G1 : FnOk P w K mg base CX0 (k + 2) f1 g1 ["thing", "row"] (spIsLineB K C) := ok_lineB N1.F N2 T TT
  refine F.ok scIsTable (fun vs H Q E h => ?_) (fun cdv A outer s H vs Q E hr h => ?_)
  · obtain ⟨x, r, rows, b, rfl, _⟩ := h
    rfl
  · obtain ⟨x, r, rows, b, rfl, hx, er, hl, h⟩ := h
    have nd := scIsTable.nd
    have hrl := rowsL_len rows
    refine ⟨_, pss_cons (ps_if (PW.pt (pw_or (pt_not (pt_val (pe_callB call_isi (by rfl) T.isi (by decide +kernel) (pa_cons (pv 0) (pa_cons (pe_bltn (v := .ty "list") (by rfl) TT.list (by decide +kernel) rfl) pa_nil))))) (pw_or1 (pt_cmpR op_ne (pe_callB call_len_seq (by rfl) T.len PySem.boot_len (pa_cons (pv 0) pa_nil)) (pe_callB call_len_seq (by rfl) T.len PySem.boot_len (pa_cons (pv 1) pa_nil)) (nomark _))))) (pss_one (ps_ret pe_bl)) pss_nil)
      (pss_one (ps_ret (pe_callB (cr_all rfl) (by rfl) TT.all (by decide +kernel) (pa_cons (pe_lc (own := [("line", 2), ("row", 3)]) (g := gTup K 2 (gCons (gName 2) (gCons (gName 3) gNil))) (tt := tYes) rfl nd (pi_zip (by rfl) TT.zip (pa_cons (pv 0) (pa_cons (pv 1) pa_nil)))
        (blkOk_by (own := [("line", 2), ("row", 3)]) (N := nIT) (sc := defScope sIsTable) (by decide +kernel))
        (fun _ _ _ _ _ => pg_tup (by rfl) (pgs_cons (pg_name (i := 2) nd rfl (.inl rfl)) (pgs_cons (pg_name (i := 3) nd rfl (.inl rfl)) pgs_nil))) (fun _ _ _ _ _ => pts_nil) (fun _ _ _ _ _ => (pe_call G1 hr (by rfl) N1.g N1.F.kp N1.b .nil pass0 (pa_cons (pv 2) (pa_cons (pv 3) pa_nil))))) pa_nil)))), ?_⟩
    rcases hx with ⟨⟨ty, t1, t2⟩, rfl⟩ | ⟨p, vs, rfl, ep, hne, rfl⟩ | ⟨p, vs, bs, rfl, ep, l1, l2, al, rfl⟩
    · exact ⟨x, rfl, x, .ty "list", ty, .type "list", false, rfl, .ty _, t1, t2, false, rfl, h H (Same.refl _)⟩
    · refine ⟨.ref p, rfl, .ref p, .ty "list", .type "list", .type "list", true, rfl, .ty _, .base (.lst ep), kit_ty (by decide +kernel), true, rfl, iteF ?_⟩
      refine ⟨.ref p, rfl, p, _, rfl, .inl (SqL.of ep), .ref r, rfl, r, _, rfl, .inl (SqL.of er), rfl, _, rfl, ?_⟩
      rw [hrl, decide_eq_false (show ¬ V.int (vs.length : Int) = V.int (rows.length : Int) from fun z => hne (by have := V.int.inj z; omega))]
      exact h H (Same.refl _)
    · refine ⟨.ref p, rfl, .ref p, .ty "list", .type "list", .type "list", true, rfl, .ty _, .base (.lst ep), kit_ty (by decide +kernel), true, rfl, iteF ?_⟩
      refine ⟨.ref p, rfl, p, _, rfl, .inl (SqL.of ep), .ref r, rfl, r, _, rfl, .inl (SqL.of er), rfl, _, rfl, ?_⟩
      rw [l1, hrl, decide_eq_true rfl]
      refine iteF ⟨.ref p, rfl, .ref r, rfl, p, r, _, _, rfl, SqL.of ep, SqL.of er, fun D hD => ?_⟩
      refine lc_it (walk_zip (K := K) (a := p) (b := r) (xs := vs) (ys := rowsL rows) (n := rows.length) (by rw [l1, hrl, Nat.min_self]))
        (fun i H9 => Same H H9 ∧ H9 D = some (.lst ((bs.take i).map V.bl))) ⟨same_upd hD, upd_same⟩ (fun i H9 _ h => ⟨SqL.of (h.1 _ _ ep), SqL.of (h.1 _ _ er)⟩) ?_ ?_
      · rintro i xx H9 H10 hi ⟨s9, e9⟩ ⟨t, x1, x2, rfl, nt, rfl, hx1, hx2⟩
        have hx1 : vs[i]? = some x1 := hx1
        have hx2 : (rowsL rows)[i]? = some x2 := hx2
        unfold rowsL at hx2
        rw [List.getElem?_map] at hx2
        obtain ⟨row, hrow, rfl⟩ := Option.map_eq_some_iff.mp hx2
        obtain ⟨b', hb'⟩ : ∃ b', bs[i]? = some b' := ⟨_, List.getElem?_eq_getElem (by omega)⟩
        have st := same_upd (o := .tup [x1, V.str (tx row)]) nt
        refine ⟨t, _, rfl, SqT.of upd_same, rfl, _, _, rfl, _, _, rfl, rfl, rfl, x1, rfl, .str (tx row), rfl, x1, row, b', rfl, (al i x1 row b' hx1 hrow hb').same (s9.trans st), ?_⟩
        refine ⟨_, st _ _ e9, ?_, same_new hD (s9.trans st), ?_⟩
        · rw [List.length_map]
          exact fit' (Nat.le_trans (List.length_take_le _ _) (by omega))
        · rw [upd_same, List.take_add_one, hb', List.map_append]
          rfl
      · rintro H3 ⟨s3, e3⟩
        rw [List.take_of_length_le (by rw [l2]; exact Nat.le_refl _)] at e3
        exact ⟨D, _, rfl, SqL.of e3, h H3 s3⟩
/-! ### times_told, is_still of what is no table -/
def spTTN (K : PySem.W.Frag) (C : Addr) : Sp := fun vs H Q _ => ∃ (m : Nat) (z x y : V) (q r : Rat), vs = [wv m, z, x, y] ∧ 1 ≤ m ∧ m ≤ 8 ∧ Pw C H x q ∧ Pw C H y r ∧ TbK K C H z (ar m) false ∧ ∀ H', Same H H' → Q .non H'
set_option maxHeartbeats 4000000 in
theorem ok_toldN {f : Addr} {fd : FuncData} {k : Nat} (F : FunD K "times_told" "times_told" (defArgs sTimesTold) (defBody sTimesTold) (defScope sTimesTold) [.non, .non] [] f fd) (N : TtDefs K mg C fi f1 f2 fw fb fl ft fo fe fp gi g1 g2 gw gb gl gt go ge gp d1 dA dB) (T : TxtP K mg C) (TR : TxtR K w mg d es n) (T0 : TxtL mg) (TT : TxtT mg) : FnOk P w K mg base CX0 (k + 8) f fd ["many", "thing", "inn", "out"] (spTTN K C) := by
  obtain ⟨r1, s1, R1⟩ := N.an
  obtain ⟨r2, s2, R2⟩ := N.li
  obtain ⟨r3, s3, R3⟩ := N.it
  obtain ⟨r4, s4, R4⟩ := N.tb
  have GB : FnOk P w K mg base CX0 (k + 7) fb gb ["many", "inn", "out"] (spTable C) := ok_table N.Fb N.B T TR T0
  have G3 : FnOk P w K mg base CX0 (k + 7) r3 s3 ["thing", "rows"] (spIsTableB K C) := ok_istableB R3.F R2 R1 T TT
  have G4 : FnOk P w K mg base CX0 (k + 7) r4 s4 ["found", "told"] (spBetween C) := ok_between R4.F N.D T TT
  refine F.ok scTT (fun vs H Q E h => ?_) (fun cdv A outer s H vs Q E hr h => ?_)
  · obtain ⟨m, z, x, y, q, r, rfl, _⟩ := h
    rfl
  · obtain ⟨m, z, x, y, q, r, rfl, h1, h8, hx, hy, hz, h⟩ := h
    have nd := scTT.nd
    have hp := pow8 h8
    refine ⟨_, pss_cons (ps_set (i := 4) nd rfl (.inl rfl) (pe_call GB hr (by rfl) N.kb N.Fb.kp N.bb .nil pass0 (pa_cons (pv 0) (pa_cons (pv 2) (pa_cons (pv 3) pa_nil)))))
      (pss_cons (ps_if (pt_not (pt_val (pe_call G3 hr (by rfl) R3.g R3.F.kp R3.b .nil pass0 (pa_cons (pv 1) (pa_cons (pe_lc (own := [("row", 5), ("worth", 6)]) (g := gTup K 2 (gCons (gName 5) (gCons (gName 6) gNil))) (tt := tYes) rfl nd (pi_list (pv 4))
        (blkOk_by (own := [("row", 5), ("worth", 6)]) (N := nTT) (sc := defScope sTimesTold) (by decide +kernel))
        (fun _ _ _ _ _ => pg_tup (by rfl) (pgs_cons (pg_name (i := 5) nd rfl (.inl rfl)) (pgs_cons (pg_name (i := 6) nd rfl (.inl rfl)) pgs_nil))) (fun _ _ _ _ _ => pts_nil) (fun _ _ _ _ _ => pv 5)) pa_nil))))) (pss_one (ps_ret pe_non)) pss_nil)
      (pss_one (ps_ret (pe_call G4 hr (by rfl) R4.g R4.F.kp R4.b .nil pass0 (pa_cons (pe_lc (own := [("row", 5), ("worth", 6)]) (g := gTup K 2 (gCons (gName 5) (gCons (gName 6) gNil))) (tt := tYes) rfl nd (pi_list (pv 1))
        (blkOk_by (own := [("row", 5), ("worth", 6)]) (N := nTT) (sc := defScope sTimesTold) (by decide +kernel))
        (fun _ _ _ _ _ => pg_tup (by rfl) (pgs_cons (pg_name (i := 5) nd rfl (.inl rfl)) (pgs_cons (pg_name (i := 6) nd rfl (.inl rfl)) pgs_nil))) (fun _ _ _ _ _ => pts_nil) (fun _ _ _ _ _ => pv 6)) (pa_cons (pe_lc (own := [("row", 5), ("worth", 6)]) (g := gTup K 2 (gCons (gName 5) (gCons (gName 6) gNil))) (tt := tYes) rfl nd (pi_list (pv 4))
        (blkOk_by (own := [("row", 5), ("worth", 6)]) (N := nTT) (sc := defScope sTimesTold) (by decide +kernel))
        (fun _ _ _ _ _ => pg_tup (by rfl) (pgs_cons (pg_name (i := 5) nd rfl (.inl rfl)) (pgs_cons (pg_name (i := 6) nd rfl (.inl rfl)) pgs_nil))) (fun _ _ _ _ _ => pts_nil) (fun _ _ _ _ _ => pv 6)) pa_nil)))))), ?_⟩
    refine ⟨wv m, rfl, x, rfl, y, rfl, m, x, y, q, r, rfl, h1, h8, hx, hy, fun H1 pt t1 n1 ⟨us, et, at_⟩ => ?_⟩
    have hul : us.length = 2 ^ m := by rw [at_.len, tz_len]
    refine ⟨z, rfl, .ref pt, rfl, pt, rfl, ⟨_, SqL.of et⟩, fun D hD => ?_⟩
    refine lc_list (K := K) (a := pt) (xs := us) (fun i H3 => Same H1 H3 ∧ H3 D = some (.lst (rowsL ((ar m).take i)))) ⟨same_upd hD, upd_same⟩ (fun i H3 _ h => SqL.of (h.1 _ _ et)) ?_ ?_
    · rintro i v H3 hv ⟨s3, e3⟩
      obtain ⟨z, hz', t, a, rfl, ett, _⟩ := at_.get hv
      refine ⟨t, _, rfl, SqT.of (s3 _ _ ett), rfl, _, _, rfl, _, _, rfl, rfl, rfl, .str (tx z.1), rfl, _, e3, ?_, same_new hD s3, ?_⟩
      · rw [rowsL_len]
        exact fit' (Nat.le_trans (List.length_take_le _ _) (by have := (List.getElem?_eq_some_iff.mp hv).1; omega))
      · have : (ar m)[i]? = some z.1 := by rw [← tz_fst q r m, List.getElem?_map, hz']; rfl
        rw [upd_same, List.take_add_one, this]
        unfold rowsL
        rw [List.map_append]
        rfl
    rintro H3 ⟨s3, e3⟩
    rw [hul, List.take_of_length_le (by rw [ar_len]; exact Nat.le_refl _)] at e3
    have t03 := t1.trans s3
    exact ⟨z, D, ar m, false, rfl, hz.same t03, e3, by rw [ar_len]; exact hp, fun H4 s4 => ⟨false, rfl, iteT (h H4 (t03.trans s4))⟩⟩
def spStillN (K : PySem.W.Frag) (C : Addr) : Sp := fun vs H Q _ => ∃ (m : Nat) (z x y : V) (q r : Rat), vs = [wv m, z, x, y] ∧ 1 ≤ m ∧ m ≤ 8 ∧ Pw C H x q ∧ Pw C H y r ∧ TbK K C H z (ar m) false ∧ ∀ H', Same H H' → Q (.bl false) H'
theorem ok_stillN {f ft' : Addr} {fd gt' : FuncData} {k : Nat} (F : FunD K "is_still" "is_still" (defArgs sStill) (defBody sStill) (defScope sStill) [.non, .non] [] f fd) (Ft : FunD K "times_told" "times_told" (defArgs sTimesTold) (defBody sTimesTold) (defScope sTimesTold) [.non, .non] [] ft' gt') (bt : Binds K gt' ["many", "thing", "inn", "out"] []) (kt : mg "times_told" = some (.ref ft'))
    (N : TtDefs K mg C fi f1 f2 fw fb fl ft fo fe fp gi g1 g2 gw gb gl gt go ge gp d1 dA dB) (T : TxtP K mg C) (TR : TxtR K w mg d es n) (T0 : TxtL mg) (TT : TxtT mg) : FnOk P w K mg base CX0 (k + 9) f fd ["many", "thing", "inn", "out"] (spStillN K C) := by
  have G : FnOk P w K mg base CX0 (k + 8) ft' gt' ["many", "thing", "inn", "out"] (spTTN K C) := ok_toldN Ft N T TR T0 TT
  refine F.ok scStill (fun vs H Q E h => ?_) (fun cdv A outer s H vs Q E hr h => ?_)
  · obtain ⟨m, z, x, y, q, r, rfl, _⟩ := h
    rfl
  · obtain ⟨m, z, x, y, q, r, rfl, h1, h8, hx, hy, hz, h⟩ := h
    refine ⟨_, pss_one (ps_ret (pe_cmpR op_notN (pe_call G hr (by rfl) kt Ft.kp bt .nil pass0 (pa_cons (pv 0) (pa_cons (pv 1) (pa_cons (pv 2) (pa_cons (pv 3) pa_nil))))) pe_non (nomark _))), ?_⟩
    exact ⟨wv m, rfl, z, rfl, x, rfl, y, rfl, m, z, x, y, q, r, rfl, h1, h8, hx, hy, hz, fun H1 s1 => ⟨rfl, h H1 s1⟩⟩
end
end Hop

set_option Elab.async false
set_option linter.all false
set_option maxRecDepth 100000
namespace HopW
open PySem HopR
/-! ### as much comes to a row as goes from it -/
def xc (bs : List Bool) : List Bool := bs.map (!·)
theorem xc_app (u v : List Bool) : xc (u ++ v) = xc u ++ xc v := List.map_append
theorem xc_cons (b : Bool) (v : List Bool) : xc (b :: v) = (!b) :: xc v := rfl
theorem xc_xc (u : List Bool) : xc (xc u) = u := by
  unfold xc
  rw [List.map_map]
  refine (List.map_congr_left fun b _ => ?_).trans (List.map_id u)
  show (!(!b)) = b
  rw [Bool.not_not]
theorem xc_len (u : List Bool) : (xc u).length = u.length := List.length_map ..
theorem opn_first (b : Bool) (v : List Bool) : opn (b :: v) 0 = !b := by
  unfold opn ends
  show decide ([true, b] = [true, false]) = !b
  cases b <;> decide
theorem opn_mid (u v : List Bool) (a b : Bool) : opn (u ++ a :: b :: v) (u.length + 1) = (a && !b) := by
  unfold opn ends
  have e : (true :: (u ++ a :: b :: v ++ [false])).drop (u.length + 1) = a :: b :: (v ++ [false]) := by
    show (u ++ a :: b :: v ++ [false]).drop u.length = _
    rw [List.append_assoc, List.drop_append, List.drop_length, Nat.sub_self]
    rfl
  rw [e]
  show decide ([a, b] = [true, false]) = _
  cases a <;> cases b <;> decide
theorem opn_last (u : List Bool) (a : Bool) : opn (u ++ [a]) (u.length + 1) = a := by
  unfold opn ends
  have e : (true :: (u ++ [a] ++ [false])).drop (u.length + 1) = [a, false] := by
    show (u ++ [a] ++ [false]).drop u.length = _
    rw [List.append_assoc, List.drop_append, List.drop_length, Nat.sub_self]
    rfl
  rw [e]
  show decide ([a, false] = [true, false]) = _
  cases a <;> decide
theorem chg_first (b : Bool) (v : List Bool) : chg (b :: v) 0 = true :: v := by
  unfold chg bhd ends
  show ((true :: (v ++ [false])).take _) = _
  have e : ([] ++ [false] ++ [true] ++ (true :: (b :: v ++ [false])).drop (0 + 2)).length - 2 = v.length + 1 := by
    simp
  show (true :: (v ++ [false])).take (([] ++ [false] ++ [true] ++ (true :: (b :: v ++ [false])).drop (0 + 2)).length - 2) = true :: v
  rw [e, List.take_succ_cons, List.take_append, List.take_length, Nat.sub_self]
  simp
theorem chg_mid (u v : List Bool) (a b : Bool) : chg (u ++ a :: b :: v) (u.length + 1) = u ++ false :: true :: v := by
  unfold chg
  have e : bhd (u ++ a :: b :: v) (u.length + 1) = true :: (u ++ false :: true :: (v ++ [false])) := by
    unfold bhd ends
    have e1 : (true :: (u ++ a :: b :: v ++ [false])).take (u.length + 1) = true :: u := by
      rw [List.take_succ_cons, List.append_assoc, List.take_append, List.take_length, Nat.sub_self]
      simp
    have e2 : (true :: (u ++ a :: b :: v ++ [false])).drop (u.length + 1 + 2) = v ++ [false] := by
      show (u ++ a :: b :: v ++ [false]).drop (u.length + 2) = _
      rw [List.append_assoc, List.drop_append, List.drop_of_length_le (by omega), show u.length + 2 - u.length = 2 by omega]
      rfl
    rw [e1, e2]
    simp
  rw [e]
  have e3 : (true :: (u ++ false :: true :: (v ++ [false]))).length - 2 = (u ++ false :: true :: v).length := by simp
  rw [e3]
  show ((u ++ false :: true :: (v ++ [false])).take (u ++ false :: true :: v).length) = _
  have e4 : u ++ false :: true :: (v ++ [false]) = (u ++ false :: true :: v) ++ [false] := by simp
  rw [e4, List.take_append, List.take_length, Nat.sub_self]
  simp
theorem chg_last (u : List Bool) (a : Bool) : chg (u ++ [a]) (u.length + 1) = u ++ [false] := by
  unfold chg
  have e : bhd (u ++ [a]) (u.length + 1) = true :: (u ++ [false] ++ [true]) := by
    unfold bhd ends
    have e1 : (true :: (u ++ [a] ++ [false])).take (u.length + 1) = true :: u := by
      rw [List.take_succ_cons, List.append_assoc, List.take_append, List.take_length, Nat.sub_self]
      simp
    have e2 : (true :: (u ++ [a] ++ [false])).drop (u.length + 1 + 2) = [] := by
      refine List.drop_of_length_le ?_
      simp
    rw [e1, e2]
    simp
  rw [e]
  have e3 : (true :: (u ++ [false] ++ [true])).length - 2 = (u ++ [false]).length := by simp
  rw [e3]
  show ((u ++ [false] ++ [true]).take (u ++ [false]).length) = _
  rw [List.take_append, List.take_length, Nat.sub_self]
  simp
/-! ### the flow over each wall -/
def sQ (f : Nat → Rat) : Nat → Rat
  | 0 => 0
  | n + 1 => sQ f n + f n
def sm : List Rat → Rat
  | [] => 0
  | a :: l => a + sm l
theorem sm_app : ∀ l m : List Rat, sm (l ++ m) = sm l + sm m
  | [], m => by show sm m = 0 + sm m; grind
  | a :: l, m => by show a + sm (l ++ m) = a + sm l + sm m; rw [sm_app l m]; grind
theorem sm_filter (p : Nat → Bool) (f : Nat → Rat) : ∀ n, sm (((List.range n).filter p).map f) = sQ (fun k => if p k = true then f k else 0) n
  | 0 => rfl
  | n + 1 => by
    rw [List.range_succ, List.filter_append, List.map_append, sm_app, sm_filter p f n]
    show _ = sQ _ n + (if p n = true then f n else 0)
    congr 1
    cases h : p n with
    | true => simp [h, sm]; grind
    | false => simp [h, sm]
theorem sQ_sub (f g : Nat → Rat) : ∀ n, sQ (fun k => f k - g k) n = sQ f n - sQ g n
  | 0 => by show (0 : Rat) = 0 - 0; grind
  | n + 1 => by
    show sQ (fun k => f k - g k) n + (f n - g n) = (sQ f n + f n) - (sQ g n + g n)
    rw [sQ_sub f g n]; grind
theorem sQ_mul (c : Rat) (f : Nat → Rat) : ∀ n, sQ (fun k => f k * c) n = sQ f n * c
  | 0 => by show (0 : Rat) = 0 * c; grind
  | n + 1 => by
    show sQ (fun k => f k * c) n + f n * c = (sQ f n + f n) * c
    rw [sQ_mul c f n]; grind
def pcA (bs : List Bool) (q r : Rat) (k : Nat) : Rat := if k = 0 then q else if k = bs.length then r else 1
/-- a row from which a change leads to bs -/
def ahd (bs : List Bool) (k : Nat) : List Bool := xc (chg (xc bs) k)
def outF (q r : Rat) (bs : List Bool) (k : Nat) : Rat := if opn bs k = true then pcA bs q r k * wt q⁻¹ r⁻¹ bs else 0
def inF (q r : Rat) (bs : List Bool) (k : Nat) : Rat := if opn (xc bs) k = true then wt q⁻¹ r⁻¹ (ahd bs k) * pcA bs q r k else 0
/-- the weight without place i, with the sign of what stands there -/
def tt (q r : Rat) (bs : List Bool) (i : Nat) : Rat := (if bs[i]? = some true then 1 else -1) * wt q⁻¹ r⁻¹ (bs.eraseIdx i)
section
variable {q r : Rat}
theorem tt_first (b : Bool) (v : List Bool) : tt q r (b :: v) 0 = (if b = true then 1 else -1) * wt q⁻¹ r⁻¹ v := by
  unfold tt
  cases b <;> simp
theorem tt_at (u v : List Bool) (a : Bool) : tt q r (u ++ a :: v) u.length = (if a = true then 1 else -1) * wt q⁻¹ r⁻¹ (u ++ v) := by
  unfold tt
  rw [List.getElem?_append_right (Nat.le_refl _), Nat.sub_self, List.eraseIdx_append_of_length_le (Nat.le_refl _), Nat.sub_self]
  cases a <;> simp
theorem flow_first (hq : q ≠ 0) (b : Bool) (v : List Bool) : outF q r (b :: v) 0 - inF q r (b :: v) 0 = - tt q r (b :: v) 0 := by
  have hw : wt q⁻¹ r⁻¹ (false :: v) = q⁻¹ * wt q⁻¹ r⁻¹ v := wt_free ..
  have hi : q * q⁻¹ = 1 := Rat.mul_inv_cancel q hq
  rw [tt_first]
  unfold outF inF ahd
  rw [xc_cons, opn_first, opn_first, chg_first, xc_cons, xc_xc]
  have hp : pcA (b :: v) q r 0 = q := if_pos rfl
  rw [hp]
  cases b with
  | false =>
    rw [hw]
    simp
    grind
  | true =>
    simp
    rw [hw]
    grind
theorem flow_mid {u v : List Bool} {a b : Bool} : outF q r (u ++ a :: b :: v) (u.length + 1) - inF q r (u ++ a :: b :: v) (u.length + 1) = tt q r (u ++ a :: b :: v) u.length - tt q r (u ++ a :: b :: v) (u.length + 1) := by
  have t1 := tt_at (q := q) (r := r) u (b :: v) a
  have t2 : tt q r (u ++ a :: b :: v) (u.length + 1) = (if b = true then 1 else -1) * wt q⁻¹ r⁻¹ (u ++ a :: v) := by
    have h := tt_at (q := q) (r := r) (u ++ [a]) v b
    rw [List.length_append, List.append_assoc, List.append_assoc] at h
    exact h
  rw [t1, t2]
  have hof := wt_of q⁻¹ r⁻¹ u v
  have hp : pcA (u ++ a :: b :: v) q r (u.length + 1) = 1 := by
    unfold pcA
    rw [if_neg (by omega), if_neg (by rw [List.length_append, List.length_cons, List.length_cons]; omega)]
  unfold outF inF ahd
  have ex : xc (u ++ a :: b :: v) = xc u ++ (!a) :: (!b) :: xc v := by rw [xc_app, xc_cons, xc_cons]
  have o2 : opn (xc (u ++ a :: b :: v)) (u.length + 1) = (!a && b) := by
    rw [ex, ← xc_len u, opn_mid, Bool.not_not]
  have c2 : xc (chg (xc (u ++ a :: b :: v)) (u.length + 1)) = u ++ true :: false :: v := by
    rw [ex, ← xc_len u, chg_mid, xc_app, xc_cons, xc_cons, xc_xc, xc_xc]
    rfl
  rw [opn_mid, o2, c2, hp]
  cases a <;> cases b <;> simp <;> grind
theorem flow_last (hr : r ≠ 0) (u : List Bool) (a : Bool) : outF q r (u ++ [a]) (u.length + 1) - inF q r (u ++ [a]) (u.length + 1) = tt q r (u ++ [a]) u.length := by
  have hw : wt q⁻¹ r⁻¹ (u ++ [true]) = r⁻¹ * wt q⁻¹ r⁻¹ u := wt_bead ..
  have hi : r * r⁻¹ = 1 := Rat.mul_inv_cancel r hr
  have t1 := tt_at (q := q) (r := r) u [] a
  rw [List.append_nil] at t1
  rw [t1]
  have hp : pcA (u ++ [a]) q r (u.length + 1) = r := by
    unfold pcA
    rw [if_neg (by omega), if_pos (by rw [List.length_append]; rfl)]
  unfold outF inF ahd
  have ex : xc (u ++ [a]) = xc u ++ [!a] := by rw [xc_app]; rfl
  have o2 : opn (xc (u ++ [a])) (u.length + 1) = !a := by rw [ex, ← xc_len u, opn_last]
  have c2 : xc (chg (xc (u ++ [a])) (u.length + 1)) = u ++ [true] := by
    rw [ex, ← xc_len u, chg_last, xc_app, xc_xc]
    rfl
  rw [opn_last, o2, c2, hp]
  cases a with
  | false =>
    rw [hw]
    simp
    grind
  | true =>
    rw [hw]
    simp
    grind
theorem split_at {bs : List Bool} {i : Nat} (h : i < bs.length) : ∃ u a v, bs = u ++ a :: v ∧ u.length = i := ⟨bs.take i, bs[i], bs.drop (i + 1), by
  rw [← List.drop_eq_getElem_cons h, List.take_append_drop], by rw [List.length_take]; omega⟩
theorem flows (hq : q ≠ 0) {bs : List Bool} : ∀ m, m < bs.length → sQ (fun k => outF q r bs k - inF q r bs k) (m + 1) = - tt q r bs m := by
  intro m
  induction m with
  | zero =>
    intro h
    cases bs with
    | nil => exact absurd h (by simp)
    | cons b v =>
      show 0 + (outF q r (b :: v) 0 - inF q r (b :: v) 0) = _
      rw [flow_first hq b v]
      grind
  | succ m ih =>
    intro h
    show sQ (fun k => outF q r bs k - inF q r bs k) (m + 1) + (outF q r bs (m + 1) - inF q r bs (m + 1)) = _
    rw [ih (by omega)]
    obtain ⟨u, a, v, e, hu⟩ := split_at (show m < bs.length by omega)
    cases v with
    | nil =>
      rw [e, List.length_append] at h
      have h : m + 1 < u.length + 1 := h
      omega
    | cons b v =>
      subst e
      subst hu
      rw [flow_mid]
      grind
theorem balance (hq : q ≠ 0) (hr : r ≠ 0) {bs : List Bool} (h : 1 ≤ bs.length) : sQ (fun k => outF q r bs k - inF q r bs k) (bs.length + 1) = 0 := by
  obtain ⟨u, a, v, e, hu⟩ := split_at (show bs.length - 1 < bs.length by omega)
  cases v with
  | cons b v =>
    rw [e, List.length_append, List.length_cons, List.length_cons] at hu
    omega
  | nil =>
    subst e
    rw [List.length_append]
    show sQ _ (u.length + 1) + (outF q r (u ++ [a]) (u.length + 1) - inF q r (u ++ [a]) (u.length + 1)) = 0
    rw [flows hq u.length (by rw [List.length_append]; exact Nat.lt_succ_self _), flow_last hr]
    grind
/-- what goes: the weight times the paces of the open walls; what comes: weights ahead, each times its pace -/
theorem comes_goes (hq : q ≠ 0) (hr : r ≠ 0) {bs : List Bool} (h : 1 ≤ bs.length) : sm ((walls (xc bs)).map fun k => wt q⁻¹ r⁻¹ (ahd bs k) * pcA bs q r k) = sm ((walls bs).map (pcA bs q r)) * wt q⁻¹ r⁻¹ bs := by
  have hb := balance hq hr h
  rw [sQ_sub] at hb
  unfold walls
  rw [sm_filter, sm_filter, xc_len, ← sQ_mul]
  have e1 : (fun k => (if opn bs k = true then pcA bs q r k else 0) * wt q⁻¹ r⁻¹ bs) = outF q r bs := by
    funext k
    unfold outF
    split <;> grind
  have e2 : (fun k => if opn (xc bs) k = true then wt q⁻¹ r⁻¹ (ahd bs k) * pcA bs q r k else 0) = inF q r bs := rfl
  rw [e1, e2]
  have hb : sQ (outF q r bs) (bs.length + 1) - sQ (inF q r bs) (bs.length + 1) = 0 := hb
  grind
end
end HopW

set_option Elab.async false
set_option linter.all false
set_option maxRecDepth 100000
namespace HopW
open PySem HopR
/-! ### the rows ahead, by where the wall is -/
theorem ahd_first (v : List Bool) : ahd (true :: v) 0 = false :: v := by
  unfold ahd
  rw [xc_cons, chg_first, xc_cons, xc_xc]
  rfl
theorem ahd_mid (u v : List Bool) (a b : Bool) : ahd (u ++ a :: b :: v) (u.length + 1) = u ++ true :: false :: v := by
  unfold ahd
  rw [xc_app, xc_cons, xc_cons, ← xc_len u, chg_mid, xc_app, xc_cons, xc_cons, xc_xc, xc_xc]
  rfl
theorem ahd_last (u : List Bool) (a : Bool) : ahd (u ++ [a]) (u.length + 1) = u ++ [true] := by
  unfold ahd
  rw [xc_app, show xc [a] = [!a] from rfl, ← xc_len u, chg_last, xc_app, xc_xc]
  rfl
theorem at_wall {bs : List Bool} {k : Nat} (h : 1 ≤ bs.length) (hk : k ≤ bs.length) : (∃ b v, bs = b :: v ∧ k = 0) ∨ (∃ u a b v, bs = u ++ a :: b :: v ∧ k = u.length + 1) ∨ (∃ u a, bs = u ++ [a] ∧ k = u.length + 1) := by
  cases k with
  | zero =>
    cases bs with
    | nil => exact absurd h (by simp)
    | cons b v => exact .inl ⟨b, v, rfl, rfl⟩
  | succ i =>
    obtain ⟨u, a, v, e, hu⟩ := split_at (show i < bs.length by omega)
    cases v with
    | nil => exact .inr (.inr ⟨u, a, e, by rw [hu]⟩)
    | cons b v => exact .inr (.inl ⟨u, a, b, v, e, by rw [hu]⟩)
theorem xopn_first (b : Bool) (v : List Bool) : opn (xc (b :: v)) 0 = b := by rw [xc_cons, opn_first, Bool.not_not]
theorem xopn_mid (u v : List Bool) (a b : Bool) : opn (xc (u ++ a :: b :: v)) (u.length + 1) = (!a && b) := by
  rw [xc_app, xc_cons, xc_cons, ← xc_len u, opn_mid, Bool.not_not]
theorem xopn_last (u : List Bool) (a : Bool) : opn (xc (u ++ [a])) (u.length + 1) = !a := by
  rw [xc_app, show xc [a] = [!a] from rfl, ← xc_len u, opn_last]
theorem ahd_count {bs : List Bool} {k : Nat} (h : 1 ≤ bs.length) (hk : k ∈ walls (xc bs)) : (ahd bs k).length = bs.length ∧ (ahd bs k).count false ≤ bs.count false + 1 ∧ (ahd bs k).count true ≤ bs.count true + 1 ∧ k ∈ walls (ahd bs k) ∧ chg (ahd bs k) k = bs := by
  obtain ⟨h1, h2⟩ := mem_walls.mp hk
  rw [xc_len] at h1
  rcases at_wall h h1 with ⟨b, v, rfl, rfl⟩ | ⟨u, a, b, v, rfl, rfl⟩ | ⟨u, a, rfl, rfl⟩
  · rw [xopn_first] at h2
    subst h2
    rw [ahd_first]
    refine ⟨rfl, ?_, ?_, mem_walls.mpr ⟨Nat.zero_le _, by rw [opn_first]; rfl⟩, by rw [chg_first]⟩
    · simp [List.count_cons]
    · simp [List.count_cons]; omega
  · rw [xopn_mid] at h2
    have ha : a = false ∧ b = true := by cases a <;> cases b <;> simp_all
    obtain ⟨rfl, rfl⟩ := ha
    rw [ahd_mid]
    refine ⟨by simp, ?_, ?_, mem_walls.mpr ⟨by simp, by rw [opn_mid]; rfl⟩, by rw [chg_mid]⟩
    · simp [List.count_append, List.count_cons]
    · simp [List.count_append, List.count_cons]
  · rw [xopn_last] at h2
    have ha : a = false := by cases a <;> simp_all
    subst ha
    rw [ahd_last]
    refine ⟨by simp, ?_, ?_, mem_walls.mpr ⟨by simp, by rw [opn_last]⟩, by rw [chg_last]⟩
    · simp [List.count_append]; omega
    · simp [List.count_append]
/-- a bead put ahead of the wall, a free place behind it -/
def s2 (bs : List Bool) (k : Nat) : List Bool := if k < bs.length then (if 0 < k then bs.set (k - 1) true else bs).set k false else (if 0 < k then bs.set (k - 1) true else bs)
theorem s2_ok {bs : List Bool} {k : Nat} (h : 1 ≤ bs.length) (hk : k ≤ bs.length) : (s2 bs k).length = bs.length ∧ k ∈ walls (s2 bs k) ∧ decide (chg (s2 bs k) k = bs) = opn (xc bs) k ∧ (opn (xc bs) k = true → s2 bs k = ahd bs k) := by
  rcases at_wall h hk with ⟨b, v, rfl, rfl⟩ | ⟨u, a, b, v, rfl, rfl⟩ | ⟨u, a, rfl, rfl⟩
  · have e : s2 (b :: v) 0 = false :: v := by
      unfold s2
      rw [if_pos (by simp), if_neg (by omega)]
      rfl
    rw [e, chg_first, xopn_first]
    refine ⟨rfl, mem_walls.mpr ⟨Nat.zero_le _, by rw [opn_first]; rfl⟩, ?_, fun hb => ?_⟩
    · cases b <;> simp
    · subst hb; rw [ahd_first]
  · have e : s2 (u ++ a :: b :: v) (u.length + 1) = u ++ true :: false :: v := by
      unfold s2
      rw [if_pos (by simp), if_pos (by omega), Nat.add_sub_cancel]
      have e1 : (u ++ a :: b :: v).set u.length true = u ++ true :: b :: v := by rw [List.set_append_right _ _ (Nat.le_refl _), Nat.sub_self]; rfl
      rw [e1, List.set_append_right _ _ (by omega), show u.length + 1 - u.length = 1 by omega]
      rfl
    rw [e, chg_mid, xopn_mid, ahd_mid]
    refine ⟨by simp, mem_walls.mpr ⟨by simp, by rw [opn_mid]; rfl⟩, ?_, fun _ => rfl⟩
    cases a <;> cases b <;> simp
  · have e : s2 (u ++ [a]) (u.length + 1) = u ++ [true] := by
      unfold s2
      rw [if_neg (by simp), if_pos (by omega), Nat.add_sub_cancel]
      rw [List.set_append_right _ _ (Nat.le_refl _), Nat.sub_self]
      rfl
    rw [e, chg_last, xopn_last, ahd_last]
    refine ⟨by simp, mem_walls.mpr ⟨by simp, by rw [opn_last]⟩, ?_, fun _ => rfl⟩
    cases a <;> simp
/-! ### fractions over one bottom: how large sums of them are -/
def FrD (D : Int) (M : Nat) (x : Rat) : Prop := ∃ N : Int, x * (D : Rat) = (N : Rat) ∧ N.natAbs ≤ M
theorem FrD.add {D : Int} {M M' : Nat} {x y : Rat} (h : FrD D M x) (h' : FrD D M' y) : FrD D (M + M') (x + y) := by
  obtain ⟨N, e, l⟩ := h
  obtain ⟨N', e', l'⟩ := h'
  refine ⟨N + N', ?_, Nat.le_trans (Int.natAbs_add_le _ _) (Nat.add_le_add l l')⟩
  rw [Rat.intCast_add, ← e, ← e']
  grind
theorem FrD.mul {D D' : Int} {M M' : Nat} {x y : Rat} (h : FrD D M x) (h' : FrD D' M' y) : FrD (D * D') (M * M') (x * y) := by
  obtain ⟨N, e, l⟩ := h
  obtain ⟨N', e', l'⟩ := h'
  refine ⟨N * N', ?_, by rw [Int.natAbs_mul]; exact Nat.mul_le_mul l l'⟩
  rw [Rat.intCast_mul, Rat.intCast_mul, ← e, ← e']
  grind
theorem FrD.up {D E : Int} {M : Nat} {x : Rat} (h : FrD D M x) : FrD (D * E) (M * E.natAbs) x := by
  obtain ⟨N, e, l⟩ := h
  refine ⟨N * E, ?_, by rw [Int.natAbs_mul]; exact Nat.mul_le_mul_right _ l⟩
  rw [Rat.intCast_mul, Rat.intCast_mul, ← e]
  grind
theorem FrD.zero (D : Int) : FrD D 0 0 := ⟨0, by show (0 : Rat) * _ = ((0 : Int) : Rat); rw [show ((0 : Int) : Rat) = 0 from rfl]; grind, Nat.le_refl _⟩
theorem FrD.mono {D : Int} {M M' : Nat} {x : Rat} (h : FrD D M x) (l : M ≤ M') : FrD D M' x := let ⟨N, e, i⟩ := h; ⟨N, e, Nat.le_trans i l⟩
theorem FrD.sz {D : Int} {M k : Nat} {x : Rat} (h : FrD D M x) (hd : D ≠ 0) (hD : D.natAbs < 2 ^ k) (hM : M < 2 ^ k) : Sz k x := by
  obtain ⟨N, e, l⟩ := h
  have hn : ((D : Int) : Rat) ≠ 0 := fun z => hd (Rat.intCast_eq_zero_iff.mp z)
  have ex : x = Rat.divInt N D := by
    rw [Rat.divInt_eq_div, ← e, Rat.mul_div_cancel hn]
  rw [ex]
  exact sz_divInt hd (Nat.lt_of_le_of_lt l hM) hD
theorem FrD.of (q : Rat) : FrD (q.den : Int) q.num.natAbs q := ⟨q.num, by
  rw [Rat.intCast_natCast]
  have h := Rat.num_divInt_den q
  rw [Rat.divInt_eq_div] at h
  have hn : ((q.den : Int) : Rat) ≠ 0 := fun z => q.den_nz (by have := Rat.intCast_eq_zero_iff.mp z; omega)
  have h2 : (q.num : Rat) / ((q.den : Int) : Rat) * ((q.den : Int) : Rat) = (q.num : Rat) := Rat.div_mul_cancel hn
  rw [h, Rat.intCast_natCast] at h2
  exact h2, Nat.le_refl _⟩
end HopW

set_option Elab.async false
set_option linter.all false
set_option maxRecDepth 100000
namespace HopW
open PySem HopR
/-! ### tables by which as much comes as goes at each row: the told one and its multiples alone -/
def rws (m : Nat) : List (List Bool) := (List.range (2 ^ m)).map (wdn m)
abbrev Ed := List Bool × Nat × List Bool
/-- all changes: a row, the wall, the row behind it -/
def edg (m : Nat) : List Ed := (rws m).flatMap fun v => (walls v).map fun k => (v, k, chg v k)
def fl (f : List Bool → Rat) (q r : Rat) (e : Ed) : Rat := f e.1 * pcA e.1 q r e.2.1
/-- what a change brings the row u -/
def g1 (f : List Bool → Rat) (q r : Rat) (u : List Bool) (e : Ed) : Rat := (if e.2.2 = u then fl f q r e else 0) - (if e.1 = u then fl f q r e else 0)
def gain (f : List Bool → Rat) (q r : Rat) (m : Nat) (u : List Bool) : Rat := sm ((edg m).map (g1 f q r u))
theorem sm_sub {α : Type} (f g : α → Rat) : ∀ l : List α, sm (l.map fun e => f e - g e) = sm (l.map f) - sm (l.map g)
  | [] => by show (0 : Rat) = 0 - 0; grind
  | e :: l => by
    have := sm_sub f g l
    show f e - g e + sm (l.map fun e => f e - g e) = (f e + sm (l.map f)) - (g e + sm (l.map g))
    grind
theorem sm_ite {α : Type} (p : α → Bool) (f : α → Rat) : ∀ l : List α, sm (l.map fun e => if p e = true then f e else 0) = sm ((l.filter p).map f)
  | [] => rfl
  | e :: l => by
    have := sm_ite p f l
    show (if p e = true then f e else 0) + sm (l.map fun e => if p e = true then f e else 0) = _
    rw [this, List.filter_cons]
    by_cases h : p e = true
    · rw [if_pos h, if_pos h]
      rfl
    · rw [if_neg h, if_neg h]
      grind
theorem sm_perm {l m : List Rat} (h : l.Perm m) : sm l = sm m := by
  induction h with
  | nil => rfl
  | cons x _ ih => show x + sm _ = x + sm _; rw [ih]
  | swap x y l => show y + (x + sm l) = x + (y + sm l); grind
  | trans _ _ h1 h2 => rw [h1, h2]
def inL (m : Nat) (u : List Bool) : List Ed := (edg m).filter fun e => decide (e.2.2 = u)
def outL (m : Nat) (u : List Bool) : List Ed := (edg m).filter fun e => decide (e.1 = u)
theorem gain_is (f : List Bool → Rat) (q r : Rat) (m : Nat) (u : List Bool) : gain f q r m u = sm ((inL m u).map (fl f q r)) - sm ((outL m u).map (fl f q r)) := by
  unfold gain
  have e : g1 f q r u = fun e => (if decide (e.2.2 = u) = true then fl f q r e else 0) - (if decide (e.1 = u) = true then fl f q r e else 0) := by
    funext e
    unfold g1
    simp only [decide_eq_true_eq]
  rw [e, sm_sub, sm_ite, sm_ite]
  rfl
/-- facts of few places -/
def okAt (m : Nat) : Bool := (rws m).all fun u => ((inL m u).map fun e => (e.1, e.2.1)).isPerm ((walls (xc u)).map fun k => (ahd u k, k)) && ((outL m u).map (·.2.1) == walls u)
theorem ok_at : ∀ m < 5, okAt m = true := by decide +kernel
theorem rws_len {m : Nat} {v : List Bool} (h : v ∈ rws m) : v.length = m := by
  obtain ⟨k, _, rfl⟩ := List.mem_map.mp h
  unfold wdn
  rw [List.length_map, List.length_range]
theorem edg_from {m : Nat} {e : Ed} (h : e ∈ edg m) : e.1 ∈ rws m ∧ e.2.1 ∈ walls e.1 ∧ e.2.2 = chg e.1 e.2.1 := by
  obtain ⟨v, hv, he⟩ := List.mem_flatMap.mp h
  obtain ⟨k, hk, rfl⟩ := List.mem_map.mp he
  exact ⟨hv, hk, rfl⟩
theorem pcA_len {u v : List Bool} (h : u.length = v.length) (q r : Rat) (k : Nat) : pcA u q r k = pcA v q r k := by
  unfold pcA
  rw [h]
theorem out_is {f : List Bool → Rat} {q r : Rat} {m : Nat} {u : List Bool} (hm : m < 5) (hu : u ∈ rws m) : sm ((outL m u).map (fl f q r)) = sm ((walls u).map fun k => f u * pcA u q r k) := by
  have h := ok_at m hm
  unfold okAt at h
  rw [List.all_eq_true] at h
  have h := h u hu
  rw [Bool.and_eq_true] at h
  have h2 : (outL m u).map (·.2.1) = walls u := eq_of_beq h.2
  rw [← h2, List.map_map]
  refine congrArg sm (List.map_congr_left fun e he => ?_)
  have h1 : e.1 = u := of_decide_eq_true (List.mem_filter.mp he).2
  show f e.1 * pcA e.1 q r e.2.1 = f u * pcA u q r e.2.1
  rw [h1]
theorem in_is {f : List Bool → Rat} {q r : Rat} {m : Nat} {u : List Bool} (hm : m < 5) (hu : u ∈ rws m) : sm ((inL m u).map (fl f q r)) = sm ((walls (xc u)).map fun k => f (ahd u k) * pcA u q r k) := by
  have h := ok_at m hm
  unfold okAt at h
  rw [List.all_eq_true] at h
  have h := h u hu
  rw [Bool.and_eq_true] at h
  have h2 := List.isPerm_iff.mp h.1
  have h3 := sm_perm (h2.map fun p : List Bool × Nat => f p.1 * pcA u q r p.2)
  rw [List.map_map, List.map_map] at h3
  refine Eq.trans (congrArg sm (List.map_congr_left fun e he => ?_)) h3
  have h1 := (edg_from (List.mem_filter.mp he).1).1
  show f e.1 * pcA e.1 q r e.2.1 = f e.1 * pcA u q r e.2.1
  rw [pcA_len (u := e.1) (v := u) ((rws_len h1).trans (rws_len hu).symm)]
theorem told_still {q r : Rat} (hq : q ≠ 0) (hr : r ≠ 0) {m : Nat} (h1 : 1 ≤ m) (hm : m < 5) {u : List Bool} (hu : u ∈ rws m) : gain (wt q⁻¹ r⁻¹) q r m u = 0 := by
  rw [gain_is, in_is hm hu, out_is hm hu, comes_goes hq hr (by rw [rws_len hu]; exact h1)]
  have : ∀ l : List Nat, sm (l.map fun k => wt q⁻¹ r⁻¹ u * pcA u q r k) = sm (l.map (pcA u q r)) * wt q⁻¹ r⁻¹ u := fun l => by
    induction l with
    | nil => show (0 : Rat) = 0 * _; grind
    | cons k l ih =>
      show wt q⁻¹ r⁻¹ u * pcA u q r k + sm (l.map fun k => wt q⁻¹ r⁻¹ u * pcA u q r k) = (pcA u q r k + sm (l.map (pcA u q r))) * _
      rw [ih]
      grind
  rw [this]
  grind
theorem gain_lin (f w : List Bool → Rat) (c q r : Rat) (m : Nat) (u : List Bool) : gain (fun v => f v - c * w v) q r m u = gain f q r m u - c * gain w q r m u := by
  unfold gain
  generalize edg m = l
  induction l with
  | nil => show (0 : Rat) = 0 - c * 0; grind
  | cons e l ih =>
    show g1 (fun v => f v - c * w v) q r u e + sm (l.map (g1 (fun v => f v - c * w v) q r u)) = (g1 f q r u e + sm (l.map (g1 f q r u))) - c * (g1 w q r u e + sm (l.map (g1 w q r u)))
    rw [ih]
    have : g1 (fun v => f v - c * w v) q r u e = g1 f q r u e - c * g1 w q r u e := by
      unfold g1 fl
      by_cases h1 : e.2.2 = u
      · by_cases h2 : e.1 = u
        · rw [if_pos h1, if_pos h2, if_pos h1, if_pos h2, if_pos h1, if_pos h2]; grind
        · rw [if_pos h1, if_neg h2, if_pos h1, if_neg h2, if_pos h1, if_neg h2]; grind
      · by_cases h2 : e.1 = u
        · rw [if_neg h1, if_pos h2, if_neg h1, if_pos h2, if_neg h1, if_pos h2]; grind
        · rw [if_neg h1, if_neg h2, if_neg h1, if_neg h2, if_neg h1, if_neg h2]; grind
    rw [this]
    grind
theorem gain_congr {f g : List Bool → Rat} {q r : Rat} {m : Nat} (h : ∀ v ∈ rws m, f v = g v) (u : List Bool) : gain f q r m u = gain g q r m u := by
  unfold gain
  refine congrArg sm (List.map_congr_left fun e he => ?_)
  unfold g1 fl
  rw [h _ (edg_from he).1]
/-! ### only multiples -/
/-- a round more of rows from which one comes to S -/
def pre (m : Nat) (S : List (List Bool)) : List (List Bool) := (rws m).filter fun v => S.contains v || (walls v).any fun k => S.contains (chg v k)
def prs (m : Nat) : Nat → List (List Bool) → List (List Bool)
  | 0, S => S
  | n + 1, S => prs m n (pre m S)
theorem all_reach : ∀ m < 5, (rws m).all (fun v => prs m 12 [v] == rws m) = true := by decide +kernel
theorem least {α : Type} (ρ : α → Rat) : ∀ l : List α, l ≠ [] → ∃ a ∈ l, ∀ b ∈ l, ρ a ≤ ρ b
  | [], h => absurd rfl h
  | [a], _ => ⟨a, List.mem_cons_self, fun b hb => by rw [List.mem_singleton.mp hb]; exact Rat.le_refl⟩
  | a :: b :: l, _ => by
    obtain ⟨c, hc, h⟩ := least ρ (b :: l) (by simp)
    by_cases e : ρ a ≤ ρ c
    · refine ⟨a, List.mem_cons_self, fun d hd => ?_⟩
      rcases List.mem_cons.mp hd with rfl | hd
      · exact Rat.le_refl
      · exact Rat.le_trans e (h d hd)
    · refine ⟨c, List.mem_cons_of_mem _ hc, fun d hd => ?_⟩
      rcases List.mem_cons.mp hd with rfl | hd
      · grind
      · exact h d hd
theorem sm_nought {α : Type} {f : α → Rat} : ∀ {l : List α}, (∀ a ∈ l, 0 ≤ f a) → sm (l.map f) = 0 → ∀ a ∈ l, f a = 0 := by
  have low : ∀ {l : List α}, (∀ a ∈ l, 0 ≤ f a) → 0 ≤ sm (l.map f) := fun {l} => by
    induction l with
    | nil => exact fun _ => Rat.le_refl
    | cons a l ih =>
      intro h
      have h1 := h a List.mem_cons_self
      have h2 := ih fun b hb => h b (List.mem_cons_of_mem _ hb)
      show 0 ≤ f a + sm (l.map f)
      grind
  intro l
  induction l with
  | nil => exact fun _ _ a h => absurd h (by simp)
  | cons a l ih =>
    intro h e b hb
    have h1 := h a List.mem_cons_self
    have h2 := low fun b hb => h b (List.mem_cons_of_mem a hb)
    have e : f a + sm (l.map f) = 0 := e
    rcases List.mem_cons.mp hb with rfl | hb
    · grind
    · exact ih (fun b hb => h b (List.mem_cons_of_mem _ hb)) (by grind) b hb
theorem pcA_pos {q r : Rat} (hq : 0 < q) (hr : 0 < r) (u : List Bool) (k : Nat) : 0 < pcA u q r k := by
  unfold pcA
  split
  · exact hq
  · split
    · exact hr
    · decide
theorem nought_reach {g : List Bool → Rat} {q r : Rat} (hq : 0 < q) (hr : 0 < r) {m : Nat} (hm : m < 5) (hg : ∀ v ∈ rws m, 0 ≤ g v) (hb : ∀ u ∈ rws m, gain g q r m u = 0) :
    ∀ (n : Nat) (S : List (List Bool)), (∀ u ∈ S, u ∈ rws m ∧ g u = 0) → ∀ u ∈ prs m n S, u ∈ rws m ∧ g u = 0
  | 0, S, h => h
  | n + 1, S, h => by
    refine nought_reach hq hr hm hg hb n (pre m S) fun v hv => ?_
    obtain ⟨hv1, hv2⟩ := List.mem_filter.mp hv
    refine ⟨hv1, ?_⟩
    rcases (Bool.or_eq_true _ _).mp hv2 with c | c
    · exact (h v (List.contains_iff_mem.mp c)).2
    · obtain ⟨k, hk, hc⟩ := List.any_eq_true.mp c
      obtain ⟨hu1, hu2⟩ := h _ (List.contains_iff_mem.mp hc)
      have h0 := hb _ hu1
      rw [gain_is, out_is hm hu1] at h0
      have z : ∀ l : List Nat, sm (l.map fun k' => g (chg v k) * pcA (chg v k) q r k') = 0 := fun l => by
        induction l with
        | nil => rfl
        | cons k' l ih =>
          show g (chg v k) * _ + sm _ = 0
          rw [ih, hu2]
          grind
      rw [z] at h0
      have me : (v, k, chg v k) ∈ inL m (chg v k) := List.mem_filter.mpr ⟨List.mem_flatMap.mpr ⟨v, hv1, List.mem_map.mpr ⟨k, hk, rfl⟩⟩, decide_eq_true rfl⟩
      have := sm_nought (f := fl g q r) (l := inL m (chg v k)) (fun e he => by
        have h1 := hg e.1 (edg_from (List.mem_filter.mp he).1).1
        have h2 := pcA_pos hq hr e.1 e.2.1
        exact Rat.mul_nonneg h1 (Rat.le_of_lt h2)) (by grind) _ me
      have h2 := pcA_pos hq hr v k
      have this : g v * pcA v q r k = 0 := this
      rcases Rat.mul_eq_zero.mp this with z | z
      · exact z
      · rw [z] at h2
        exact absurd h2 (by decide)
theorem only_multiples {f : List Bool → Rat} {q r : Rat} (hq : 0 < q) (hr : 0 < r) {m : Nat} (h1 : 1 ≤ m) (hm : m < 5) (hb : ∀ u ∈ rws m, gain f q r m u = 0) : ∃ c : Rat, ∀ v ∈ rws m, f v = c * wt q⁻¹ r⁻¹ v := by
  have nq : q ≠ 0 := fun e => by rw [e] at hq; exact absurd hq (by decide)
  have nr : r ≠ 0 := fun e => by rw [e] at hr; exact absurd hr (by decide)
  have wp : ∀ v, 0 < wt q⁻¹ r⁻¹ v := fun v => wt_above (Rat.inv_pos.mpr hq) (Rat.inv_pos.mpr hr) v
  have wne : ∀ v, wt q⁻¹ r⁻¹ v ≠ 0 := fun v e => by have := wp v; rw [e] at this; exact absurd this (by decide)
  obtain ⟨v0, hv0, hmin⟩ := least (fun v => f v / wt q⁻¹ r⁻¹ v) (rws m) (fun e => by
    have : (rws m).length = 2 ^ m := by unfold rws; rw [List.length_map, List.length_range]
    rw [e] at this
    have := Nat.one_le_two_pow (n := m)
    simp at *
    omega)
  refine ⟨f v0 / wt q⁻¹ r⁻¹ v0, ?_⟩
  have hc : ∀ v, f v = f v / wt q⁻¹ r⁻¹ v * wt q⁻¹ r⁻¹ v := fun v => (Rat.div_mul_cancel (wne v)).symm
  generalize hcc : f v0 / wt q⁻¹ r⁻¹ v0 = c at hmin
  have hg : ∀ v ∈ rws m, 0 ≤ f v - c * wt q⁻¹ r⁻¹ v := fun v hv => by
    have a := hmin v hv
    have b := wp v
    have a' : c ≤ f v / wt q⁻¹ r⁻¹ v := a
    have := Rat.mul_le_mul_of_nonneg_right a' (Rat.le_of_lt b)
    rw [← hc v] at this
    grind
  have z := nought_reach (g := fun v => f v - c * wt q⁻¹ r⁻¹ v) hq hr hm hg (fun u hu => by
    rw [gain_lin, hb u hu, told_still nq nr h1 hm hu]
    grind) 12 [v0] (fun u hu => by
      obtain rfl := List.mem_singleton.mp hu
      refine ⟨hv0, ?_⟩
      have := hc u
      rw [hcc] at this
      show f u - c * wt q⁻¹ r⁻¹ u = 0
      grind)
  have e := List.all_eq_true.mp (all_reach m hm) v0 hv0
  rw [eq_of_beq e] at z
  intro v hv
  have := (z v hv).2
  grind
end HopW

set_option Elab.async false
set_option linter.all false
set_option maxRecDepth 100000
namespace HopW
/-! ### the totals by numbers of signs left -/
def hh (x y : Rat) : Nat → Rat
  | 0 => 1
  | k + 1 => y ^ (k + 1) + x * hh x y k
def ms (x y : Rat) (k : Nat) : Nat → Rat
  | 0 => 0
  | j + 1 => ms x y k j + x ^ j * y ^ (k - j)
theorem lp_cmul (c : Rat) (g : Nat → Rat) : ∀ l : List Nat, lp (fun b => c * g b) l = c * lp g l := by
  intro l
  induction l generalizing g with
  | nil => show (0 : Rat) = c * 0; grind
  | cons m l ih =>
    show (m : Rat) * (c * g 0) + lp (fun b => c * g (b + 1)) l = c * ((m : Rat) * g 0 + lp (fun b => g (b + 1)) l)
    rw [ih]
    grind
theorem tp_hh (x y : Rat) : ∀ l : List Nat, tp x (fun b => y ^ b) (dt l) = lp (hh x y) l := by
  intro l
  induction l with
  | nil => rfl
  | cons m l ih =>
    show ((m : Rat) * y ^ 0 + lp (fun b => y ^ (b + 1)) l) + x * tp x (fun b => y ^ b) (dt l) = (m : Rat) * 1 + lp (fun b => y ^ (b + 1) + x * hh x y b) l
    rw [ih, lp_add, lp_cmul, Rat.pow_zero]
    grind
theorem ms_shift (x y : Rat) (k : Nat) : ∀ j : Nat, ms x y (k + 1) (j + 1) = y ^ (k + 1) + x * ms x y k j := by
  intro j
  induction j with
  | zero =>
    show 0 + x ^ 0 * y ^ (k + 1 - 0) = y ^ (k + 1) + x * 0
    rw [Rat.pow_zero, Nat.sub_zero]
    grind
  | succ j ih =>
    show ms x y (k + 1) (j + 1) + x ^ (j + 1) * y ^ (k + 1 - (j + 1)) = y ^ (k + 1) + x * (ms x y k j + x ^ j * y ^ (k - j))
    rw [ih, Rat.pow_succ, show k + 1 - (j + 1) = k - j by omega]
    grind
theorem ms_all (x y : Rat) : ∀ k : Nat, ms x y k (k + 1) = hh x y k := by
  intro k
  induction k with
  | zero =>
    show 0 + x ^ 0 * y ^ (0 - 0) = 1
    rw [Rat.pow_zero, Nat.sub_self, Rat.pow_zero]
    grind
  | succ k ih =>
    rw [ms_shift, ih]
    rfl
theorem lp_snoc (g : Nat → Rat) : ∀ (l : List Nat) (m : Nat), lp g (l ++ [m]) = lp g l + (m : Rat) * g l.length := by
  intro l
  induction l generalizing g with
  | nil => intro m; show (m : Rat) * g 0 + 0 = 0 + (m : Rat) * g 0; grind
  | cons a l ih =>
    intro m
    show (a : Rat) * g 0 + lp (fun b => g (b + 1)) (l ++ [m]) = ((a : Rat) * g 0 + lp (fun b => g (b + 1)) l) + (m : Rat) * g (l.length + 1)
    rw [ih]
    grind
theorem lp_take (g : Nat → Rat) {l : List Nat} {j m : Nat} (h : l[j]? = some m) : lp g (l.take (j + 1)) = lp g (l.take j) + (m : Rat) * g j := by
  have hj := (List.getElem?_eq_some_iff.mp h).1
  rw [List.take_add_one, h]
  show lp g (l.take j ++ [m]) = _
  rw [lp_snoc, List.length_take, Nat.min_eq_left (by omega)]
theorem tp_snoc (x : Rat) (g : Nat → Rat) : ∀ (T : List (List Nat)) (L : List Nat), tp x g (T ++ [L]) = tp x g T + x ^ T.length * lp g L := by
  intro T
  induction T with
  | nil =>
    intro L
    show lp g L + x * 0 = 0 + x ^ 0 * lp g L
    rw [Rat.pow_zero]
    grind
  | cons a T ih =>
    intro L
    show lp g a + x * tp x g (T ++ [L]) = (lp g a + x * tp x g T) + x ^ (T.length + 1) * lp g L
    rw [ih, Rat.pow_succ]
    grind
theorem lp_zeros (g : Nat → Rat) : ∀ k : Nat, lp g (List.replicate k 0) = 0 := by
  intro k
  induction k generalizing g with
  | zero => rfl
  | succ k ih =>
    show ((0 : Nat) : Rat) * g 0 + lp (fun b => g (b + 1)) (List.replicate k 0) = 0
    rw [ih]
    grind
def dgT (k : Nat) : Nat → List (List Nat)
  | 0 => []
  | j + 1 => dgT k j ++ [List.replicate (k - j) 0 ++ [1]]
theorem dgT_len (k : Nat) : ∀ j : Nat, (dgT k j).length = j
  | 0 => rfl
  | j + 1 => by
    show (dgT k j ++ [_]).length = j + 1
    rw [List.length_append, dgT_len k j]
    rfl
theorem tp_dgT (x y : Rat) (k : Nat) : ∀ j : Nat, tp x (fun b => y ^ b) (dgT k j) = ms x y k j
  | 0 => rfl
  | j + 1 => by
    show tp x (fun b => y ^ b) (dgT k j ++ [List.replicate (k - j) 0 ++ [1]]) = ms x y k j + x ^ j * y ^ (k - j)
    rw [tp_snoc, tp_dgT x y k j, dgT_len, lp_snoc, lp_zeros, List.length_replicate]
    show _ + x ^ j * (0 + ((1 : Nat) : Rat) * y ^ (k - j)) = _
    grind
/-! ### how often each number is left -/
def fac : Nat → Nat
  | 0 => 1
  | n + 1 => fac n * (n + 1)
def bal (n k : Nat) : Nat := k * fac (2 * n - 1 - k) / (fac n * fac (n - k))
def balRow (n : Nat) : List Nat := (List.range (n + 1)).map (bal n)
def balOk (n : Nat) : Bool := decide (0 :: sfx (balRow n) = balRow (n + 1))
theorem bal_all : (List.range 40).all (fun n => n == 0 || balOk n) = true := by decide +kernel
theorem bal_first : ot 1 = balRow 1 := by decide +kernel
theorem ot_bal : ∀ n : Nat, 1 ≤ n → n ≤ 40 → ot n = balRow n
  | 0, h, _ => absurd h (by decide)
  | 1, _, _ => bal_first
  | n + 2, _, h => by
    have e := List.all_eq_true.mp bal_all (n + 1) (List.mem_range.mpr (by omega))
    have e2 : balOk (n + 1) = true := by simpa using e
    show 0 :: sfx (ot (n + 1)) = _
    rw [ot_bal (n + 1) (by omega) (by omega)]
    exact of_decide_eq_true e2
def cat : Nat → Nat
  | 0 => 1
  | m + 1 => cat m * (4 * m + 2) / (m + 2)
def wsum (s : Nat) : List Nat → Nat
  | [] => 0
  | m :: l => m * s + wsum (s + 1) l
theorem cat_all : (List.range 41).all (fun n => decide (wsum 1 (if n = 0 then [1] else balRow n) = cat (n + 1))) = true := by decide +kernel
theorem hh_one : ∀ k : Nat, hh 1 1 k = ((k + 1 : Nat) : Rat)
  | 0 => rfl
  | k + 1 => by
    have p : ∀ j : Nat, (1 : Rat) ^ j = 1 := fun j => by
      induction j with
      | zero => exact Rat.pow_zero 1
      | succ j ih => rw [Rat.pow_succ, ih, Rat.mul_one]
    show 1 ^ (k + 1) + 1 * hh 1 1 k = _
    rw [p, hh_one k, show ((k + 1 + 1 : Nat) : Rat) = ((k + 1 : Nat) : Rat) + ((1 : Nat) : Rat) from cast_add _ _]
    show 1 + 1 * ((k + 1 : Nat) : Rat) = ((k + 1 : Nat) : Rat) + 1
    grind
theorem lp_wsum (g : Nat → Rat) : ∀ (l : List Nat) (s : Nat), (∀ k, g k = ((k + s : Nat) : Rat)) → lp g l = ((wsum s l : Nat) : Rat) := by
  intro l
  induction l generalizing g with
  | nil => intro s _; rfl
  | cons m l ih =>
    intro s h
    show (m : Rat) * g 0 + lp (fun b => g (b + 1)) l = ((m * s + wsum (s + 1) l : Nat) : Rat)
    rw [ih (fun b => g (b + 1)) (s + 1) (fun k => by show g (k + 1) = _; rw [h, show k + 1 + s = k + (s + 1) by omega]), h 0, Nat.zero_add, cast_add]
    congr 1
    exact_mod_cast rfl
theorem ones_cat {n : Nat} (h : n ≤ 40) : pw 1 1 (List.replicate n none) = ((cat (n + 1) : Nat) : Rat) := by
  rw [← pw_all, tp_hh, lp_wsum _ _ 1 hh_one]
  have e := of_decide_eq_true (List.all_eq_true.mp cat_all n (List.mem_range.mpr (by omega)))
  rw [← e]
  by_cases hn : n = 0
  · rw [if_pos hn, hn]
    rfl
  · rw [if_neg hn, ot_bal n (by omega) h]
/-! ### what goes through is below each pace -/
theorem all_more {x y : Rat} (hx : 0 < x) (hy : 0 < y) (n : Nat) : x * pw x y (List.replicate n none) < pw x y (List.replicate (n + 1) none) := by
  have e := pw_none x y [] (List.replicate n none)
  rw [List.nil_append, List.nil_append, List.nil_append, pw_free] at e
  have p := pw_pos hx hy (some true :: List.replicate n none)
  rw [List.replicate_succ, e]
  grind
end HopW

set_option Elab.async false
set_option linter.all false
set_option maxRecDepth 100000
set_option exponentiation.threshold 200000
namespace Hop
open PySem L2 HopR HopW
open C8 (InsC call_isC)
section
variable {P : Program} {w : World} {K : PySem.W.Frag} {mg : Str → Option Value} {base : Heap} {C d : Addr} {es : Array DictEntry} {n : Nat}
def spT2 (K : PySem.W.Frag) (g : Rat → Rat → Rat) : Sp := fun vs H Q _ => ∃ (a b : Addr) (q r : Rat), vs = [.ref a, .ref b] ∧ H a = some (.tup (tq q)) ∧ H b = some (.tup (tq r)) ∧ Sz 3900 q ∧ Sz 3900 r ∧ ∀ H' p, Same H H' → H p = none → H' p = some (.tup (tq (g q r))) → Q (.ref p) H'
theorem den_two {q r : Rat} (h1 : Sz 3900 q) (h2 : Sz 3900 r) : (q.den : Int) * (r.den : Int) ≠ 0 ∧ ((q.den : Int) * (r.den : Int)).natAbs < 2 ^ 8000 :=
  ⟨Int.mul_ne_zero (den_ne q) (den_ne r), by
    rw [Int.natAbs_mul]
    exact Nat.lt_of_lt_of_le (Nat.mul_lt_mul'' h1.2 h2.2) (by rw [← Nat.pow_add]; exact Nat.pow_le_pow_right (by decide) (by decide))⟩
theorem scLPlus : FnScope ["_law_one", "_law_other"] ["_law_one", "_law_other"] (defScope sLPlus) := ⟨rfl, rfl, rfl, by decide +kernel, rfl, by decide +kernel, by decide +kernel⟩
theorem ok_lplus {f fl : Addr} {fd gl : FuncData} {k : Nat} (F : Fun K "_law_plus" "_law_plus" sLPlus f fd) (Nl : Fn K mg "_law_low" sLLow ["_law_top", "_law_bottom"] fl gl) (T : TxtP K mg C) : FnOk P w K mg base CX0 (k + 2) f fd ["_law_one", "_law_other"] (spT2 K (fun q r => q + r)) := by
  have Gl : FnOk P w K mg base CX0 (k + 1) fl gl ["_law_top", "_law_bottom"] spLow := ok_low Nl.F T
  refine F.ok scLPlus (fun vs H Q E h => ?_) (fun cdv A outer s H vs Q E hr h => ?_)
  · obtain ⟨a, b, q, r, rfl, _⟩ := h
    rfl
  · obtain ⟨a, b, q, r, rfl, ha, hb, zq, zr, h⟩ := h
    refine ⟨_, pss_one (ps_ret (pe_call Gl hr (by rfl) Nl.g Nl.F.kp Nl.b .nil pass0 (pa_cons (pe_op op_add (pe_op op_mulW (pe_ix ix_tup (pv 0) pe_int (fun _ _ => rfl)) (pe_ix ix_tup (pv 1) pe_int (fun _ _ => rfl))) (pe_op op_mulW (pe_ix ix_tup (pv 1) pe_int (fun _ _ => rfl)) (pe_ix ix_tup (pv 0) pe_int (fun _ _ => rfl))))
      (pa_cons (pe_op op_mulW (pe_ix ix_tup (pv 0) pe_int (fun _ _ => rfl)) (pe_ix ix_tup (pv 1) pe_int (fun _ _ => rfl))) pa_nil)))), ?_⟩
    refine ⟨.ref a, rfl, a, _, 0, .int q.num, rfl, rfl, SqT.of ha, rfl, .ref b, rfl, b, _, 1, .int (r.den : Int), rfl, rfl, SqT.of hb, rfl, q.num, (r.den : Int), rfl, rfl, mulW (up39 zq.1) (up39 zr.2), ?_⟩
    refine ⟨.ref b, rfl, b, _, 0, .int r.num, rfl, rfl, SqT.of hb, rfl, .ref a, rfl, a, _, 1, .int (q.den : Int), rfl, rfl, SqT.of ha, rfl, r.num, (q.den : Int), rfl, rfl, mulW (up39 zr.1) (up39 zq.2), _, _, rfl, rfl, ?_⟩
    refine ⟨.ref a, rfl, a, _, 1, .int (q.den : Int), rfl, rfl, SqT.of ha, rfl, .ref b, rfl, b, _, 1, .int (r.den : Int), rfl, rfl, SqT.of hb, rfl, (q.den : Int), (r.den : Int), rfl, rfl, mulW (up39 zq.2) (up39 zr.2), ?_⟩
    refine ⟨q.num * (r.den : Int) + r.num * (q.den : Int), (q.den : Int) * (r.den : Int), rfl, (den_two zq zr).1, (den_two zq zr).2, fun H' p s' n' e' => ?_⟩
    rw [← add_eq] at e'
    exact h H' p s' n' e'
theorem scLTimes : FnScope ["_law_one", "_law_other"] ["_law_one", "_law_other"] (defScope sLTimes) := ⟨rfl, rfl, rfl, by decide +kernel, rfl, by decide +kernel, by decide +kernel⟩
theorem ok_ltimes {f fl : Addr} {fd gl : FuncData} {k : Nat} (F : Fun K "_law_times" "_law_times" sLTimes f fd) (Nl : Fn K mg "_law_low" sLLow ["_law_top", "_law_bottom"] fl gl) (T : TxtP K mg C) : FnOk P w K mg base CX0 (k + 2) f fd ["_law_one", "_law_other"] (spT2 K (fun q r => q * r)) := by
  have Gl : FnOk P w K mg base CX0 (k + 1) fl gl ["_law_top", "_law_bottom"] spLow := ok_low Nl.F T
  refine F.ok scLTimes (fun vs H Q E h => ?_) (fun cdv A outer s H vs Q E hr h => ?_)
  · obtain ⟨a, b, q, r, rfl, _⟩ := h
    rfl
  · obtain ⟨a, b, q, r, rfl, ha, hb, zq, zr, h⟩ := h
    refine ⟨_, pss_one (ps_ret (pe_call Gl hr (by rfl) Nl.g Nl.F.kp Nl.b .nil pass0 (pa_cons (pe_op op_mulW (pe_ix ix_tup (pv 0) pe_int (fun _ _ => rfl)) (pe_ix ix_tup (pv 1) pe_int (fun _ _ => rfl)))
      (pa_cons (pe_op op_mulW (pe_ix ix_tup (pv 0) pe_int (fun _ _ => rfl)) (pe_ix ix_tup (pv 1) pe_int (fun _ _ => rfl))) pa_nil)))), ?_⟩
    refine ⟨.ref a, rfl, a, _, 0, .int q.num, rfl, rfl, SqT.of ha, rfl, .ref b, rfl, b, _, 0, .int r.num, rfl, rfl, SqT.of hb, rfl, q.num, r.num, rfl, rfl, mulW (up39 zq.1) (up39 zr.1), ?_⟩
    refine ⟨.ref a, rfl, a, _, 1, .int (q.den : Int), rfl, rfl, SqT.of ha, rfl, .ref b, rfl, b, _, 1, .int (r.den : Int), rfl, rfl, SqT.of hb, rfl, (q.den : Int), (r.den : Int), rfl, rfl, mulW (up39 zq.2) (up39 zr.2), ?_⟩
    refine ⟨q.num * r.num, (q.den : Int) * (r.den : Int), rfl, (den_two zq zr).1, (den_two zq zr).2, fun H' p s' n' e' => ?_⟩
    rw [← mul_eq] at e'
    exact h H' p s' n' e'
def spOwn : Sp := fun vs H Q _ => ∃ (v : V) (q : Rat), vs = [v] ∧ Pt H v q ∧ ∀ H' p, Same H H' → H' p = some (.tup (tq q)) → Q (.ref p) H'
theorem scLOwn : FnScope ["_law_pace"] ["_law_pace"] (defScope sLOwn) := ⟨rfl, rfl, rfl, by decide +kernel, rfl, by decide +kernel, by decide +kernel⟩
theorem ok_lown {f : Addr} {fd : FuncData} {k : Nat} (F : Fun K "_law_own" "_law_own" sLOwn f fd) (T : TxtP K mg C) : FnOk P w K mg base CX0 (k + 1) f fd ["_law_pace"] spOwn := by
  refine F.ok scLOwn (fun vs H Q E h => ?_) (fun cdv A outer s H vs Q E hr h => ?_)
  · obtain ⟨v, q, rfl, _⟩ := h
    rfl
  · obtain ⟨v, q, rfl, hv, h⟩ := h
    refine ⟨_, pss_one (ps_ret (pe_ix ix_list (pe_lst (pa_cons (pv 0) (pa_cons (pe_tup (pa_cons pe_int (pa_cons pe_int pa_nil))) pa_nil))) (pe_callTy call_int1 (by rfl) T.int (by decide +kernel) (pa_cons (pe_cmpR op_isN (pv 0) pe_non (nomark _)) pa_nil)) (fun _ _ => rfl))), ?_⟩
    refine ⟨v, rfl, (by show 2 ≤ sizeLine; decide), fun p1 n1 => ⟨(by show 2 ≤ sizeLine; decide), fun p2 n2 => ?_⟩⟩
    have s1 := same_upd (o := .tup [.int 1, .int 1]) n1
    have e1 : upd H p1 (.tup [.int 1, .int 1]) p1 = some (.tup (tq 1)) := upd_same
    generalize upd H p1 (.tup [.int 1, .int 1]) = H1 at s1 e1 n2
    have s2 := same_upd (o := .lst [v, .ref p1]) n2
    have e2 : upd H1 p2 (.lst [v, .ref p1]) p2 = some (.lst [v, .ref p1]) := upd_same
    generalize upd H1 p2 (.lst [v, .ref p1]) = H2 at s2 e2
    refine ⟨v, rfl, rfl, .inr ⟨_, rfl, ?_⟩⟩
    rcases hv with ⟨rfl, rfl⟩ | ⟨a, rfl, ea, p, z⟩
    · rw [decide_eq_true rfl]
      exact ⟨p2, _, 1, .ref p1, rfl, rfl, SqL.of e2, rfl, h H2 p1 (s1.trans s2) (s2 _ _ e1)⟩
    · rw [decide_eq_false (fun z => nomatch z)]
      exact ⟨p2, _, 0, .ref a, rfl, rfl, SqL.of e2, rfl, h H2 a (s1.trans s2) ((s1.trans s2) _ _ ea)⟩def spAll : Sp := fun vs H Q _ => ∃ m : Nat, vs = [wv m] ∧ m ≤ 8 ∧ ∀ H' p, Same H H' → H p = none → H' p = some (.lst (rowsL (ar m))) → Q (.ref p) H'
abbrev nAR : List Str := ["_law_many", "_law_found", "_law_number", "_law_k", "_law_signs"]
theorem scAR : FnScope nAR ["_law_many"] (defScope sAllRows) := ⟨rfl, rfl, rfl, by decide +kernel, rfl, by decide +kernel, by decide +kernel⟩
set_option maxHeartbeats 2000000 in
theorem ok_allrows {f : Addr} {fd : FuncData} {k : Nat} (F : Fun K "_law_all_rows" "_law_all_rows" sAllRows f fd) (mR : mg "range" = none) : FnOk P w K mg base CX0 (k + 1) f fd ["_law_many"] spAll := by
  refine F.ok scAR (fun vs H Q E h => ?_) (fun cdv A outer s H vs Q E hr h => ?_)
  · obtain ⟨m, rfl, _⟩ := h
    rfl
  · obtain ⟨m, rfl, hm, q⟩ := h
    have nd := scAR.nd
    refine ⟨_, pss_cons (ps_set (i := 1) nd rfl (.inl rfl) (pe_lst pa_nil))
      (pss_cons (ps_for PassesOwn.never rfl (pi_range1 (by rfl) mR (pa_cons (pe_op op_oneShl pe_int (pv 0)) pa_nil)) (pg_name (i := 2) nd rfl (.inr rfl))
        (pss_cons (ps_setLc (i := 4) (own := [("_law_k", 3)]) (g := gName 3) (tt := tYes) (by rfl) nd rfl rfl (sw_true rfl rfl rfl (by decide +kernel)) (pi_range1 (by rfl) mR (pa_cons (pv 0) pa_nil))
            (blkOk_by (own := [("_law_k", 3)]) (N := nAR) (sc := defScope sAllRows) (by decide +kernel))
            (fun _ _ _ _ _ => pg_name (i := 3) nd rfl (Or.inl rfl)) (fun _ _ _ _ _ => pts_nil)
            (fun _ _ _ _ _ => pe_ix ix_str pe_str (pe_op op_odd (pe_op op_shrN (pv 2) (pe_op op_sub (pe_op op_sub (pv 0) pe_int) (pv 3))) pe_int) (fun _ _ => rfl)))
        (pss_one (ps_expr (pe_bm PySem.F.plainAttrs_list PySem.F.slot_list_append PySem.F.type_list_append mt_append (pv 1) (pa_cons (pe_join pe_str (pv 4)) pa_nil))))))
      (pss_one (ps_ret (pv 1)))), ?_⟩
    refine ⟨Nat.zero_le _, fun l nl => ?_⟩
    have t1 := same_upd (o := .lst []) nl
    have el : upd H l (.lst []) l = some (.lst []) := upd_same
    generalize upd H l (.lst []) = H1 at t1 el
    have hp7 : 2 ^ m ≤ 2 ^ 8 := Nat.pow_le_pow_right (by decide) hm
    have h256 : (2 : Nat) ^ 8 = 256 := by decide
    refine ⟨wv m, rfl, m, rfl, rfl, by omega, (2 : Int) ^ m, rfl, ?_⟩
    have e2 : ((2 : Int) ^ m) = ((2 ^ m : Nat) : Int) := by rw [Int.natCast_pow]; rfl
    rw [e2]
    refine ⟨Int.le_trans (by decide) (Int.natCast_nonneg _), Int.lt_of_le_of_lt (Int.ofNat_le.mpr (Nat.le_trans hp7 (by decide : 2 ^ 8 ≤ 256))) (by decide), ?_⟩
    rw [Int.toNat_natCast]
    refine for_range (lo := 0) (n := 2 ^ m) (fun i σ H2 => ∃ (y2 y3 y4 : Option V), σ = [some (wv m), some (.ref l), y2, y3, y4] ∧ Same H H2 ∧ H2 l = some (.lst (rowsL ((List.range i).map (wdn m))))) ⟨_, _, _, rfl, t1, el⟩ ?_ ?_
    · rintro i σ H2 hi ⟨y2, y3, y4, rfl, s2, el2⟩
      rw [show (0 : Int) + (i : Int) = ((i : Nat) : Int) by omega]
      refine ⟨wv m, rfl, (m : Int), rfl, by omega, by omega, fun D hD => ?_⟩
      rw [Int.toNat_natCast]
      refine lc_range (lo := 0) (n := m) (fun j H3 => Same H2 H3 ∧ H3 D = some (.lst ((((wdn m i).take j).map fun b => tx [b]).map V.str))) ⟨same_upd hD, upd_same⟩ ?_ ?_
      · rintro j H3 hj ⟨s3, e3⟩
        rw [show (0 : Int) + (j : Int) = ((j : Nat) : Int) by omega]
        refine ⟨rfl, _, rfl, wv m, rfl, (m : Int), 1, rfl, rfl, wv j, rfl, (m : Int) - 1, (j : Int), rfl, rfl, (i : Int), m - 1 - j, rfl, (by show V.int ((m : Int) - 1 - (j : Int)) = V.int ((m - 1 - j : Nat) : Int); rw [show (m : Int) - 1 - (j : Int) = ((m - 1 - j : Nat) : Int) by omega]), ?_⟩
        have e4 : ((i : Int) / 2 ^ (m - 1 - j)) = ((i / 2 ^ (m - 1 - j) : Nat) : Int) := by rw [Int.natCast_ediv, Int.natCast_pow]; rfl
        rw [e4]
        have b0 : (0 : Int) ≤ ((i / 2 ^ (m - 1 - j) % 2 : Nat) : Int) := by omega
        have b2 : ((i / 2 ^ (m - 1 - j) % 2 : Nat) : Int) < 2 := by omega
        refine ⟨i / 2 ^ (m - 1 - j), rfl, rfl, ".o", _, _, rfl, rfl, (by decide), dot_o _ b0 b2, _, e3, ?_, same_new hD s3, ?_⟩
        · rw [List.length_map, List.length_map]
          exact fit' (Nat.le_trans (List.length_take_le _ _) (by omega))
        · rw [upd_same, wdn_take hj, List.map_append, List.map_append]
          have e5 : decide (((i / 2 ^ (m - 1 - j) % 2 : Nat) : Int) = 1) = decide (i / 2 ^ (m - 1 - j) % 2 = 1) := by
            congr 1
            exact propext ⟨fun h => by omega, fun h => by omega⟩
          rw [← e5]
          rfl
      · rintro H3 ⟨s3, e3⟩
        have tl : (wdn m i).take m = wdn m i := by rw [List.take_of_length_le (by rw [wdn_len]; exact Nat.le_refl _)]
        rw [tl] at e3
        refine ⟨.ref l, rfl, .inl ⟨rfl, _, SqL.of (s3 _ _ el2)⟩, ⟨_, rfl⟩, .ref D, rfl, "", D, _, rfl, rfl, .inl (SqL.of e3), join_fits (by rw [wdn_len]; omega), ?_⟩
        rw [join_tx]
        refine ⟨l, _, _, rfl, rfl, s3 _ _ el2, ?_, _, _, _, rfl, same_new nl (s2.trans s3), ?_⟩
        · unfold rowsL
          rw [List.length_map, List.length_map, List.length_range]
          exact Nat.lt_of_lt_of_le (show i < 10000 by omega) (by decide)
        · rw [upd_same, List.range_succ, List.map_append]
          unfold rowsL
          rw [List.map_append]
          rfl
    · rintro σ H2 ⟨y2, y3, y4, rfl, s2, el2⟩
      exact ⟨.ref l, rfl, q H2 l s2 nl el2⟩
end
theorem paired_imp {α β : Type} {R S : α → β → Prop} (h : ∀ a b, R a b → S a b) : ∀ {l : List α} {m : List β}, Paired R l m → Paired S l m
  | _, _, .nil => .nil
  | _, _, .cons r t => .cons (h _ _ r) (paired_imp h t)
theorem paired_snoc {α β : Type} {R : α → β → Prop} {a : α} {b : β} : ∀ {l : List α} {m : List β}, Paired R l m → R a b → Paired R (l ++ [a]) (m ++ [b])
  | _, _, .nil, h => .cons h .nil
  | _, _, .cons r t, h => .cons r (paired_snoc t h)
theorem paired_at {α β : Type} {R : α → β → Prop} : ∀ {l : List α} {m : List β} {i : Nat} {a : α}, Paired R l m → l[i]? = some a → ∃ b, m[i]? = some b ∧ R a b
  | _, _, i, a, .nil, h => by simp at h
  | _, _, 0, a, .cons r t, h => by obtain rfl := Option.some.inj h; exact ⟨_, rfl, r⟩
  | _, _, i + 1, a, .cons r t, h => paired_at (i := i) t h
def kvW (ws : List (List Bool)) (ts : List Addr) : List (Key × V) := List.zipWith (fun v t => (Sum.inr (tx v), V.ref t)) ws ts
theorem kvW_at : ∀ {ws : List (List Bool)} {ts : List Addr} {i : Nat} {v : List Bool} {t : Addr}, ws[i]? = some v → ts[i]? = some t → (kvW ws ts)[i]? = some (Sum.inr (tx v), V.ref t)
  | _ :: _, _ :: _, 0, _, _, h1, h2 => by
    obtain rfl := Option.some.inj h1
    obtain rfl := Option.some.inj h2
    rfl
  | _ :: ws, _ :: ts, i + 1, v, t, h1, h2 => kvW_at (ws := ws) (ts := ts) (i := i) h1 h2
  | [], _, i, v, t, h1, _ => by simp at h1
  | _ :: _, [], i, v, t, _, h2 => by simp at h2
theorem kvW_of : ∀ {ws : List (List Bool)} {ts : List Addr} {i : Nat} {z : Key × V}, (kvW ws ts)[i]? = some z → ∃ v t, ws[i]? = some v ∧ ts[i]? = some t ∧ z = (Sum.inr (tx v), V.ref t)
  | v :: _, t :: _, 0, z, h => ⟨v, t, rfl, rfl, (Option.some.inj h).symm⟩
  | _ :: ws, _ :: ts, i + 1, z, h => kvW_of (ws := ws) (ts := ts) (i := i) h
  | [], _, i, z, h => by simp [kvW] at h
  | _ :: _, [], i, z, h => by simp [kvW] at h
theorem kvW_len {ws : List (List Bool)} {ts : List Addr} (h : ts.length = ws.length) : (kvW ws ts).length = ws.length := by
  unfold kvW
  rw [List.length_zipWith, h]
  omega
theorem kvW_val : ∀ {ws : List (List Bool)} {ts : List Addr} {i : Nat} {v : List Bool} {t : Addr}, ws.Nodup → ws[i]? = some v → ts[i]? = some t → valV (kvW ws ts) (Sum.inr (tx v)) = some (V.ref t)
  | u :: ws, s :: ts, 0, v, t, _, h1, h2 => by
    obtain rfl := Option.some.inj h1
    obtain rfl := Option.some.inj h2
    exact valV_pos rfl
  | u :: ws, s :: ts, i + 1, v, t, o, h1, h2 => by
    obtain ⟨n1, n2⟩ := List.nodup_cons.mp o
    have m : v ∈ ws := List.mem_of_getElem? (show ws[i]? = some v from h1)
    refine (valV_neg (fun z => n1 ?_)).trans (kvW_val (ws := ws) (ts := ts) (i := i) n2 h1 h2)
    rw [tx_inj (Sum.inr.inj z)]
    exact m
  | [], _, i, v, t, _, h1, _ => by simp at h1
  | _ :: _, [], i, v, t, _, _, h2 => by simp at h2
theorem merge_app : ∀ (more acc : List (Key × V)), ((acc ++ more).map (·.1)).Nodup → mergeK acc more = acc ++ more
  | [], acc, _ => (List.append_nil acc).symm
  | p :: more, acc, h => by
    have h2 : ((acc ++ [p] ++ more).map (·.1)).Nodup := by rw [List.append_assoc]; exact h
    have no : valV acc p.1 = none := by
      unfold valV
      rw [Option.map_eq_none_iff, List.find?_eq_none]
      intro z hz hd
      rw [List.map_append, List.map_cons] at h
      have h3 := (List.nodup_append.mp h).2.2 z.1 (List.mem_map.mpr ⟨z, hz, rfl⟩) p.1 (List.mem_cons_self ..)
      exact h3 (of_decide_eq_true hd)
    show mergeK (putK acc p.1 p.2) more = _
    rw [putK_new p.2 no]
    have := merge_app more (acc ++ [p]) h2
    rw [List.append_assoc] at this
    exact this
theorem kvW_keys : ∀ {ws : List (List Bool)} {ts : List Addr}, ts.length = ws.length → (kvW ws ts).map (·.1) = ws.map fun v => (Sum.inr (tx v) : Key)
  | [], [], _ => rfl
  | v :: ws, t :: ts, h => by
    show (Sum.inr (tx v) : Key) :: (kvW ws ts).map (·.1) = _
    rw [kvW_keys (ws := ws) (ts := ts) (Nat.succ.inj h)]
    rfl
  | [], _ :: _, h => nomatch h
  | _ :: _, [], h => nomatch h
/-- at p a dict of the words ws, each with a tuple of φ -/
def WD (H : Hp) (p : Addr) (ws : List (List Bool)) (φ : List Bool → Rat) : Prop := ∃ ts : List Addr, H p = some (.dK (kvW ws ts)) ∧ Paired (fun t v => H t = some (.tup (tq (φ v)))) ts ws
theorem WD.same {H H' : Hp} {p : Addr} {ws : List (List Bool)} {φ : List Bool → Rat} (h : WD H p ws φ) (s : Same H H') : WD H' p ws φ := by
  obtain ⟨ts, e, pr⟩ := h
  exact ⟨ts, s _ _ e, paired_imp (fun t v q => s _ _ q) pr⟩
theorem pts_pairs {H : Hp} {φ : List Bool → Rat} : ∀ {pts : List (Addr × Addr)} {ws : List (List Bool)}, Paired (fun z v => H z.1 = some (.tup [.str (tx v), .ref z.2]) ∧ H z.2 = some (.tup (tq (φ v)))) pts ws →
    Paired (fun p kv => SqT K H p [kV kv.1, kv.2]) (pts.map (·.1)) (kvW ws (pts.map (·.2))) ∧ Paired (fun t v => H t = some (.tup (tq (φ v)))) (pts.map (·.2)) ws
  | _, _, .nil => ⟨.nil, .nil⟩
  | _, _, .cons r t => let ⟨h1, h2⟩ := pts_pairs t; ⟨.cons (SqT.of r.1) h1, .cons r.2 h2⟩
theorem WD.thaw {H : Hp} {p c : Addr} {ws : List (List Bool)} {φ : List Bool → Rat} {od : Obj} {o x : HO} (h : WD H p ws φ) (f : H c = some (.frz od o)) : WD (upd H c x) p ws φ := by
  obtain ⟨ts, e, pr⟩ := h
  have keep : ∀ {z : Addr} {xs : List V}, H z = some (.tup xs) → upd H c x z = some (.tup xs) := fun {z xs} hz => by
    rw [upd_ne (fun h2 => by rw [h2, f] at hz; cases hz)]
    exact hz
  refine ⟨ts, ?_, paired_imp (fun z v g => keep g) pr⟩
  rw [upd_ne (fun h2 => by rw [h2, f] at e; cases e)]
  exact e
theorem WD.at {H : Hp} {p : Addr} {ws : List (List Bool)} {φ : List Bool → Rat} {u : List Bool} (h : WD H p ws φ) (once : ws.Nodup) (hu : u ∈ ws) : ∃ t, DGet H p (.str (tx u)) (some (.ref t)) ∧ H t = some (.tup (tq (φ u))) := by
  obtain ⟨ts, e, pr⟩ := h
  obtain ⟨i, hi⟩ := List.mem_iff_getElem?.mp hu
  have hl : i < ts.length := by rw [pr.length]; exact (List.getElem?_eq_some_iff.mp hi).1
  have ht : ts[i]? = some ts[i] := List.getElem?_eq_getElem hl
  obtain ⟨u', hu', et⟩ := paired_at pr ht
  obtain rfl : u = u' := Option.some.inj (hi.symm.trans hu')
  refine ⟨ts[i], ?_, et⟩
  have g := DGet.k (k := Sum.inr (tx u)) e
  rw [kvW_val once hi ht] at g
  exact g
theorem kvW_txs {ws : List (List Bool)} {ts : List Addr} (h : ts.length = ws.length) : (kvW ws ts).map (·.1) = (ws.map tx).map Sum.inr := by
  rw [kvW_keys h, List.map_map]
  rfl
theorem sign_o (b : Bool) : decide (V.str ⟨#[cd b]⟩ = V.str "o") = b := by
  rw [tx_o]
  cases b with
  | true => exact decide_eq_true rfl
  | false => exact decide_eq_false fun q => absurd (tx_inj (as := [false]) (bs := [true]) (V.str.inj q)) (by decide)
theorem sign_f (b : Bool) : decide (V.str ⟨#[cd b]⟩ = V.str ".") = !b := by
  rw [tx_f]
  cases b with
  | false => exact decide_eq_true rfl
  | true => exact decide_eq_false fun q => absurd (tx_inj (as := [true]) (bs := [false]) (V.str.inj q)) (by decide)
theorem at_code {bs : List Bool} {i : Nat} (h : i < bs.length) : atI (tx bs).cps.toList (i : Int) = some (cd bs[i]) := atI_nat (by rw [tx_list, List.getElem?_map, List.getElem?_eq_getElem h]; rfl)
/-- one entry is told anew -/
theorem WD.set {H : Hp} {p t : Addr} {ws : List (List Bool)} {φ : List Bool → Rat} {u : List Bool} {x : Rat} (h : WD H p ws φ) (once : ws.Nodup) (hu : u ∈ ws) (et : H t = some (.tup (tq x))) (few : ws.length ≤ 5000) :
    ∃ o, DPut H p (.str (tx u)) (.ref t) (upd H p o) ∧ WD (upd H p o) p ws (fun v => if v = u then x else φ v) := by
  obtain ⟨ts, e, pr⟩ := h
  have tl := pr.length
  obtain ⟨i, hi⟩ := List.mem_iff_getElem?.mp hu
  have hil := (List.getElem?_eq_some_iff.mp hi).1
  have keep : ∀ {z : Addr} {xs : List V}, H z = some (.tup xs) → ∀ x, upd H p x z = some (.tup xs) := fun {z xs} hz x => by
    rw [upd_ne (fun h2 => by rw [h2, e] at hz; cases hz)]
    exact hz
  have ep : putK (kvW ws ts) (Sum.inr (tx u)) (V.ref t) = kvW ws (ts.set i t) := by
    have hv : valV (kvW ws ts) (Sum.inr (tx u)) = some (V.ref (ts[i]'(by omega))) := kvW_val once hi (List.getElem?_eq_getElem (by omega))
    unfold putK
    rw [if_pos (by rw [valV_any, hv]; rfl)]
    refine List.ext_getElem? fun j => ?_
    rw [List.getElem?_map]
    cases hj : (kvW ws ts)[j]? with
    | none =>
      have l1 : (kvW ws ts).length = ws.length := kvW_len tl
      have l2 : (kvW ws (ts.set i t)).length = ws.length := kvW_len (by rw [List.length_set]; exact tl)
      have := List.getElem?_eq_none_iff.mp hj
      rw [Option.map_none, List.getElem?_eq_none (by omega)]
    | some z =>
      obtain ⟨v, s, hv1, hs1, rfl⟩ := kvW_of hj
      rw [Option.map_some]
      by_cases e2 : j = i
      · subst e2
        obtain rfl : u = v := Option.some.inj (hi.symm.trans hv1)
        rw [if_pos rfl, kvW_at hi (t := t) (by rw [List.getElem?_set_self (by omega)])]
      · have hne : v ≠ u := fun z => by
          subst z
          exact e2 ((List.getElem?_inj (List.getElem?_eq_some_iff.mp hv1).1 once).mp (hv1.trans hi.symm))
        rw [if_neg (show ¬ (Sum.inr (tx v) : Key) = Sum.inr (tx u) from fun z => hne (tx_inj (Sum.inr.inj z))), kvW_at hv1 (t := s) (by rw [List.getElem?_set_ne (fun z => e2 z.symm)]; exact hs1)]
  refine ⟨_, DPut.k (k := Sum.inr (tx u)) e (by rw [kvW_len tl]; exact Nat.lt_of_lt_of_le (show ws.length < 10000 by omega) (by decide)), ts.set i t, by rw [upd_same, ep], ?_⟩
  have al : ∀ (ts : List Addr) (ws : List (List Bool)) (i : Nat), Paired (fun t v => H t = some (.tup (tq (φ v)))) ts ws → ws.Nodup → ws[i]? = some u → Paired (fun t v => H t = some (.tup (tq (if v = u then x else φ v)))) (ts.set i t) ws := by
    intro ts ws
    induction ts generalizing ws with
    | nil =>
      intro i pr _ hi
      cases pr
      simp at hi
    | cons a ts ih =>
      intro i pr nd hi
      cases pr with
      | @cons _ v _ ws r rr =>
        have nd' := List.nodup_cons.mp nd
        match i with
        | 0 =>
          obtain rfl := Option.some.inj hi
          refine .cons (by rw [if_pos rfl]; exact et) ?_
          have keep2 : ∀ {ts : List Addr} {vs : List (List Bool)}, Paired (fun t v => H t = some (.tup (tq (φ v)))) ts vs → v ∉ vs → Paired (fun t w => H t = some (.tup (tq (if w = v then x else φ w)))) ts vs := by
            intro ts vs q
            induction q with
            | nil => exact fun _ => .nil
            | @cons s w' _ _ r _ ih =>
              intro hn
              have hne : ¬ w' = v := fun z => hn (z ▸ List.mem_cons_self)
              exact .cons (by rw [if_neg hne]; exact r) (ih fun z => hn (List.mem_cons_of_mem _ z))
          exact keep2 rr nd'.1
        | i + 1 =>
          have hi : ws[i]? = some u := hi
          refine .cons ?_ (ih ws i rr nd'.2 hi)
          have hne : ¬ v = u := fun z => nd'.1 (z ▸ List.mem_of_getElem? hi)
          rw [if_neg hne]
          exact r
  exact paired_imp (fun z v g => keep g _) (al ts ws i pr once hi)
/-! ### _law_pace_at -/
section
variable {P : Program} {w : World} {K : PySem.W.Frag} {mg : Str → Option Value} {base : Heap} {C d : Addr} {es : Array DictEntry} {n : Nat}

def spPaceAt : Sp := fun vs H Q _ => ∃ (bs : List Bool) (k : Nat) (tp a b : Addr) (q r : Rat), vs = [.str (tx bs), wv k, .ref tp] ∧ 1 ≤ bs.length ∧ bs.length ≤ 30 ∧ H tp = some (.tup [.ref a, .ref b]) ∧ H a = some (.tup (tq q)) ∧ H b = some (.tup (tq r)) ∧ ∀ H' p, Same H H' → H' p = some (.tup (tq (pcA bs q r k))) → Q (.ref p) H'
theorem scPaceAt : FnScope ["_law_row", "_law_shut", "_law_paces"] ["_law_row", "_law_shut", "_law_paces"] (defScope sPaceAt) := ⟨rfl, rfl, rfl, by decide +kernel, rfl, by decide +kernel, by decide +kernel⟩
theorem eq_nat (a b : Nat) : decide (V.int (a : Int) = V.int (b : Int)) = decide (a = b) := by
  by_cases h : a = b
  · rw [decide_eq_true h, decide_eq_true (by rw [h])]
  · rw [decide_eq_false h, decide_eq_false fun z => h (by have := V.int.inj z; omega)]
theorem ok_paceat {f : Addr} {fd : FuncData} {k : Nat} (F : Fun K "_law_pace_at" "_law_pace_at" sPaceAt f fd) (T : TxtP K mg C) : FnOk P w K mg base CX0 (k + 1) f fd ["_law_row", "_law_shut", "_law_paces"] spPaceAt := by
  refine F.ok scPaceAt (fun vs H Q E h => ?_) (fun cdv A outer s H vs Q E hr h => ?_)
  · obtain ⟨bs, k, tp, a, b, q, r, rfl, _⟩ := h
    rfl
  · obtain ⟨bs, k, tp, a, b, q, r, rfl, h1, h30, etp, ea, eb, fin⟩ := h
    refine ⟨_, pss_one (ps_ret (pe_ix ix_list (pe_lst (pa_cons (pe_tup (pa_cons pe_int (pa_cons pe_int pa_nil))) (pa_cons (pe_ix ix_tup (pv 2) pe_int (fun _ _ => rfl)) (pa_cons (pe_ix ix_tup (pv 2) pe_int (fun _ _ => rfl)) pa_nil))))
      (pe_op op_add (pe_callTy call_int1 (by rfl) T.int (by decide +kernel) (pa_cons (pe_cmpR op_eq (pv 1) pe_int (nomark _)) pa_nil)) (pe_op op_mul pe_int (pe_callTy call_int1 (by rfl) T.int (by decide +kernel) (pa_cons (pe_cmpR op_eq (pv 1) (pe_callB call_len_str (by rfl) T.len PySem.boot_len (pa_cons (pv 0) pa_nil)) (nomark _)) pa_nil)))) (fun _ _ => rfl))), ?_⟩
    refine ⟨(by show 2 ≤ sizeLine; decide), fun t nt => ?_⟩
    have k1 := same_upd (o := .tup [V.int 1, V.int 1]) nt
    have e1 : upd H t (.tup [V.int 1, V.int 1]) t = some (.tup (tq 1)) := upd_same
    generalize upd H t (.tup [V.int 1, V.int 1]) = H1 at k1 e1
    refine ⟨.ref tp, rfl, tp, _, 0, .ref a, rfl, rfl, SqT.of (k1 _ _ etp), rfl, .ref tp, rfl, tp, _, 1, .ref b, rfl, rfl, SqT.of (k1 _ _ etp), rfl, (by show 3 ≤ sizeLine; decide), fun l nl => ?_⟩
    have k2 := same_upd (o := .lst [V.ref t, V.ref a, V.ref b]) nl
    have e2 : upd H1 l (.lst [V.ref t, V.ref a, V.ref b]) l = some (.lst [V.ref t, V.ref a, V.ref b]) := upd_same
    generalize upd H1 l (.lst [V.ref t, V.ref a, V.ref b]) = H2 at k2 e2
    have k12 := k1.trans k2
    refine ⟨wv k, rfl, rfl, .inr ⟨_, rfl, wv k, rfl, .str (tx bs), rfl, tx bs, rfl, (by rw [tx_len]; exact Nat.le_trans h30 (by decide)), rfl, .inr ⟨_, rfl, ?_⟩⟩⟩
    have d0 : decide (wv k = V.int 0) = decide (k = 0) := eq_nat k 0
    have dl : decide (wv k = V.int ((tx bs).length : Int)) = decide (k = bs.length) := by
      rw [tx_len]
      exact eq_nat _ _
    rw [dl, d0]
    refine ⟨_, _, rfl, rfl, .inl ⟨by decide, by decide⟩, _, _, rfl, rfl, l, _, _, .ref (if k = 0 then a else if k = bs.length then b else t), rfl, rfl, SqL.of e2, ?_, ?_⟩
    · by_cases c1 : k = 0
      · rw [decide_eq_true c1, decide_eq_false (show ¬ k = bs.length by omega), if_pos c1]
        rfl
      · by_cases c2 : k = bs.length
        · rw [decide_eq_false c1, decide_eq_true c2, if_neg c1, if_pos c2]
          rfl
        · rw [decide_eq_false c1, decide_eq_false c2, if_neg c1, if_neg c2]
          rfl
    · refine fin H2 _ k12 ?_
      unfold pcA
      split
      · exact k12 _ _ ea
      · split
        · exact k12 _ _ eb
        · exact k2 _ _ e1
/-! ### _law_changes -/
def ChT (H : Hp) (bs : List Bool) (v : V) (k : Nat) : Prop := ∃ t, v = .ref t ∧ H t = some (.tup [wv k, .str (tx (chg bs k))])
theorem ChT.same {H H' : Hp} {bs : List Bool} {v : V} {k : Nat} (s : Same H H') (h : ChT H bs v k) : ChT H' bs v k := let ⟨t, e, e1⟩ := h; ⟨t, e, s _ _ e1⟩
theorem ChT.upd {H : Hp} {D : Addr} {xs : List V} {o : HO} {bs : List Bool} {v : V} {k : Nat} (e : H D = some (.lst xs)) (h : ChT H bs v k) : ChT (upd H D o) bs v k := let ⟨t, e0, e1⟩ := h; ⟨t, e0, by rw [upd_ne (fun z => by rw [z, e] at e1; cases e1)]; exact e1⟩
def Chs (H : Hp) (p : Addr) (bs : List Bool) (i : Nat) : Prop := ∃ acc, H p = some (.lst acc) ∧ Al (ChT H bs) acc ((List.range i).filter (opn bs))
theorem Chs.same {H H' : Hp} {p : Addr} {bs : List Bool} {i : Nat} (s : Same H H') (h : Chs H p bs i) : Chs H' p bs i := let ⟨acc, e, a⟩ := h; ⟨acc, s _ _ e, a.mono fun _ _ => ChT.same s⟩
theorem range_opn (bs : List Bool) (i : Nat) : (List.range (i + 1)).filter (opn bs) = (List.range i).filter (opn bs) ++ (if opn bs i = true then [i] else []) := by
  rw [List.range_succ, List.filter_append]
  congr 1
  cases h : opn bs i with
  | true => simp [h]
  | false => simp [h]
/-- one more, or none -/
theorem Chs.more {H : Hp} {p t : Addr} {bs : List Bool} {i : Nat} {acc : List V} (e : H p = some (.lst acc)) (a : Al (ChT H bs) acc ((List.range i).filter (opn bs))) (ho : opn bs i = true) (et : H t = some (.tup [wv i, .str (tx (chg bs i))])) : Chs (upd H p (.lst (acc ++ [.ref t]))) p bs (i + 1) := by
  refine ⟨_, upd_same, ?_⟩
  rw [range_opn, if_pos ho]
  exact (a.mono fun _ _ => ChT.upd e).snoc (ChT.upd e ⟨t, rfl, et⟩)
theorem Chs.none {H : Hp} {p : Addr} {bs : List Bool} {i : Nat} (h : Chs H p bs i) (ho : opn bs i = false) : Chs H p bs (i + 1) := by
  obtain ⟨acc, e, a⟩ := h
  refine ⟨acc, e, ?_⟩
  rw [range_opn, if_neg (by rw [ho]; decide), List.append_nil]
  exact a
def spChanges : Sp := fun vs H Q _ => ∃ bs : List Bool, vs = [.str (tx bs)] ∧ 1 ≤ bs.length ∧ bs.length ≤ 30 ∧ ∀ H' p, Same H H' → Chs H' p bs (bs.length + 1) → Q (.ref p) H'
abbrev nCh : List Str := ["_law_row", "_law_found", "_law_shut"]
theorem scChs : FnScope nCh ["_law_row"] (defScope sLChanges) := ⟨rfl, rfl, rfl, by decide +kernel, rfl, by decide +kernel, by decide +kernel⟩
theorem dec_o (bs : List Bool) (i : Nat) (h : i + 2 ≤ bs.length) : decide (V.str (tx ((bs.drop i).take 2)) = V.str "o.") = opn bs (i + 1) := by
  rw [show ("o." : Str) = tx [true, false] by decide +kernel]
  obtain ⟨u, a, v, e, hu⟩ := split_at (show i < bs.length by omega)
  cases v with
  | nil =>
    rw [e, List.length_append] at h
    have h : i + 2 ≤ u.length + 1 := h
    omega
  | cons b v =>
    subst e
    subst hu
    rw [opn_mid, List.drop_left]
    show decide (V.str (tx [a, b]) = V.str (tx [true, false])) = _
    by_cases c : [a, b] = [true, false]
    · rw [decide_eq_true (by rw [c])]
      cases a <;> cases b <;> first | rfl | exact absurd c (by decide)
    · rw [decide_eq_false fun z => c (tx_inj (V.str.inj z))]
      cases a <;> cases b <;> first | rfl | exact absurd rfl c
theorem cut_end (u : List Bool) (b : Bool) : cutS (tx (u ++ [b])) none (some (-1)) = tx u := by
  rw [cut_tx]
  congr 1
  have h1 : HT.sIx (u ++ [b]).length (u ++ [b]).length (some (-1)) = u.length := by
    rw [List.length_append]
    unfold HT.sIx
    simp
    omega
  rw [h1]
  show ((u ++ [b]).drop 0).take (u.length - 0) = u
  rw [List.drop_zero, Nat.sub_zero, List.take_left]
theorem chg_len {bs : List Bool} {k : Nat} (h1 : 1 ≤ bs.length) (hk : k ≤ bs.length) : (chg bs k).length = bs.length := by
  rcases at_wall h1 hk with ⟨b, v, rfl, rfl⟩ | ⟨u, a, b, v, rfl, rfl⟩ | ⟨u, a, rfl, rfl⟩
  · rw [chg_first]
    rfl
  · rw [chg_mid]
    simp
  · rw [chg_last]
    simp
theorem fit30 {n : Nat} (h : n ≤ 32) : n ≤ sizeLine := Nat.le_trans h (by decide)
set_option maxHeartbeats 4000000 in
theorem ok_changes {f : Addr} {fd : FuncData} {k : Nat} (F : Fun K "_law_changes" "_law_changes" sLChanges f fd) (T : TxtP K mg C) : FnOk P w K mg base CX0 (k + 1) f fd ["_law_row"] spChanges := by
  refine F.ok scChs (fun vs H Q E h => ?_) (fun cdv A outer s H vs Q E hr h => ?_)
  · obtain ⟨bs, rfl, _⟩ := h
    rfl
  · obtain ⟨bs, rfl, h1, h30, fin⟩ := h
    have nd := scChs.nd
    have hz : (tx bs).length ≤ sizeLine := by rw [tx_len]; exact fit30 (by omega)
    have lF : ∀ {i : Nat} {acc : List V}, acc.length = ((List.range i).filter (opn bs)).length → i ≤ 31 → acc.length < sizeLine := fun {i acc} e hi => by
      rw [e]
      refine Nat.lt_of_le_of_lt (List.length_filter_le _ _) ?_
      rw [List.length_range]
      exact Nat.lt_of_le_of_lt hi (by decide)
    obtain ⟨tB, pB, hB⟩ : ∃ tB, PSs (cxOf CX0 P w K mg base nCh "_law_changes" (defScope sLChanges) f cdv A outer s H E).nox ((defBody sLChanges).drop 2) tB ∧
        ∀ (H1 : Hp) (l : Addr) (y2 : Option V), H l = none → Same H H1 → Chs H1 l bs 1 → tB { nx := fun _ H' => Q .non H', rt := Q } [some (.str (tx bs)), some (.ref l), y2] H1 := by
      refine ⟨_, pss_cons (ps_for PassesOwn.never rfl (pi_range2 (by rfl) T.range (pa_cons pe_int (pa_cons (pe_callB call_len_str (by rfl) T.len PySem.boot_len (pa_cons (pv 0) pa_nil)) pa_nil))) (pg_name (i := 2) nd rfl (.inl rfl))
          (pss_one (ps_if (pt_cmpR op_eq (pe_slice sl_str (pv 0) (po_some (pe_op op_sub (pv 2) pe_int)) (po_some (pe_op op_add (pv 2) pe_int))) pe_str (nomark _)) (pss_one (ps_expr (pe_bm PySem.F.plainAttrs_list PySem.F.slot_list_append PySem.F.type_list_append mt_append (pv 1) (pa_cons (pe_tup (pa_cons (pv 2) (pa_cons (pe_op op_add_str (pe_op op_add_str (pe_slice sl_str (pv 0) po_none (po_some (pe_op op_sub (pv 2) pe_int))) pe_str) (pe_slice sl_str (pv 0) (po_some (pe_op op_add (pv 2) pe_int)) po_none)) pa_nil))) pa_nil)))) pss_nil)))
        (pss_cons (ps_if (pt_cmpR op_eq (pe_ix ix_str (pv 0) (pe_un un_neg pe_int) (fun _ _ => rfl)) pe_str (nomark _)) (pss_one (ps_expr (pe_bm PySem.F.plainAttrs_list PySem.F.slot_list_append PySem.F.type_list_append mt_append (pv 1) (pa_cons (pe_tup (pa_cons (pe_callB call_len_str (by rfl) T.len PySem.boot_len (pa_cons (pv 0) pa_nil)) (pa_cons (pe_op op_add_str (pe_slice sl_str (pv 0) po_none (po_some (pe_un un_neg pe_int))) pe_str) pa_nil))) pa_nil)))) pss_nil)
        (pss_one (ps_ret (pv 1)))), fun H1 l y2 nl s1 c1 => ?_⟩
      refine ⟨.str (tx bs), rfl, tx bs, rfl, hz, 1, ((tx bs).length : Int), rfl, ?_⟩
      rw [tx_len]
      refine ⟨⟨by decide, by decide, by omega, by omega⟩, ?_⟩
      rw [show ((bs.length : Int) - 1).toNat = bs.length - 1 by omega]
      refine for_range (lo := 1) (n := bs.length - 1) (fun j σ H2 => ∃ y2, σ = [some (.str (tx bs)), some (.ref l), y2] ∧ Same H H2 ∧ Chs H2 l bs (j + 1)) ⟨_, rfl, s1, c1⟩ ?_ ?_
      · rintro j σ H2 hj ⟨y2, rfl, s2, acc, ea, al⟩
        rw [show (1 : Int) + (j : Int) = ((j + 1 : Nat) : Int) by omega]
        refine ⟨.str (tx bs), rfl, wv (j + 1), rfl, _, _, rfl, rfl, _, rfl, wv (j + 1), rfl, _, _, rfl, rfl, _, rfl, tx bs, rfl, hz, ?_⟩
        rw [show ((j + 1 : Nat) : Int) - 1 = (j : Int) by omega, show ((j + 1 : Nat) : Int) + 1 = (j : Int) + ((2 : Nat) : Int) by omega, cut_at]
        refine ⟨rfl, _, rfl, ?_⟩
        rw [dec_o bs j (by omega)]
        cases ho : opn bs (j + 1) with
        | false => exact iteF ⟨_, rfl, s2, Chs.none ⟨acc, ea, al⟩ ho⟩
        | true =>
          refine iteT ⟨.ref l, rfl, .inl ⟨rfl, _, SqL.of ea⟩, wv (j + 1), rfl, .str (tx bs), rfl, wv (j + 1), rfl, _, _, rfl, rfl, _, rfl, tx bs, rfl, hz, ?_⟩
          rw [show ((j + 1 : Nat) : Int) - 1 = (j : Int) by omega, cut_to]
          have l2 : (".o" : Str).length = 2 := by decide +kernel
          refine ⟨_, _, rfl, rfl, ?_, .str (tx bs), rfl, wv (j + 1), rfl, _, _, rfl, rfl, _, rfl, tx bs, rfl, hz, ?_⟩
          · rw [tx_len, l2, List.length_take]
            exact fit30 (by omega)
          rw [show ((j + 1 : Nat) : Int) + 1 = ((j + 2 : Nat) : Int) by omega, cut_from]
          have ez : tx (bs.take j) ++ (".o" : Str) ++ tx (bs.drop (j + 2)) = tx (chg bs (j + 1)) := by
            rw [show (".o" : Str) = tx [false, true] by decide +kernel, tx_app, tx_app]
            congr 1
            obtain ⟨u, a, v, e, hu⟩ := split_at (show j < bs.length by omega)
            cases v with
            | nil =>
              rw [e, List.length_append] at hj
              have hj : j < u.length + 1 - 1 := hj
              omega
            | cons b v =>
              subst e
              subst hu
              rw [chg_mid, List.take_left, show u.length + 2 = (u ++ [a, b]).length by simp, show u ++ a :: b :: v = (u ++ [a, b]) ++ v by simp, List.drop_left]
              simp
          refine ⟨_, _, rfl, rfl, ?_, (by show 2 ≤ sizeLine; decide), fun t nt => ?_⟩
          · rw [show (".o" : Str) = tx [false, true] by decide +kernel, tx_app, tx_len, tx_len, List.length_append, List.length_take, List.length_drop]
            exact fit30 (by show min j bs.length + 2 + (bs.length - (j + 2)) ≤ 32; omega)
          rw [ez]
          have k3 := same_upd (o := .tup [wv (j + 1), .str (tx (chg bs (j + 1)))]) nt
          have et : upd H2 t (.tup [wv (j + 1), .str (tx (chg bs (j + 1)))]) t = some (.tup [wv (j + 1), .str (tx (chg bs (j + 1)))]) := upd_same
          generalize upd H2 t (.tup [wv (j + 1), .str (tx (chg bs (j + 1)))]) = H3 at k3 et
          have ea3 := k3 _ _ ea
          exact ⟨l, _, _, rfl, rfl, ea3, lF al.len (by omega), _, rfl, same_new nl (s2.trans k3), Chs.more ea3 (al.mono fun _ _ => ChT.same k3) ho et⟩
      · rintro σ H2 ⟨y2, rfl, s2, c2⟩
        rw [show bs.length - 1 + 1 = bs.length by omega] at c2
        obtain ⟨u, a, v, e, hu⟩ := split_at (show bs.length - 1 < bs.length by omega)
        have hv : v = [] := by
          cases v with
          | nil => rfl
          | cons b v =>
            rw [e, List.length_append, List.length_cons, List.length_cons] at hu
            omega
        subst hv
        have ho : opn bs bs.length = a := by
          rw [e, List.length_append]
          exact opn_last u a
        have hc : chg bs bs.length = u ++ [false] := by
          rw [e, List.length_append]
          exact chg_last u a
        have hat : atI (tx bs).cps.toList (-1) = some (cd a) := by
          rw [tx_list, e, List.map_append]
          exact atI_last _ _
        refine ⟨.str (tx bs), rfl, 1, rfl, tx bs, -1, cd a, rfl, rfl, hz, hat, rfl, _, rfl, ?_⟩
        rw [sign_o]
        obtain ⟨acc, ea, al⟩ := c2
        cases a with
        | false => exact iteF ⟨.ref l, rfl, fin H2 l s2 (Chs.none ⟨acc, ea, al⟩ ho)⟩
        | true =>
          refine iteT ⟨.ref l, rfl, .inl ⟨rfl, _, SqL.of ea⟩, .str (tx bs), rfl, tx bs, rfl, hz, .str (tx bs), rfl, 1, rfl, _, rfl, tx bs, rfl, hz, ?_⟩
          have eu : cutS (tx bs) none (some (-1)) = tx u := by
            rw [e]
            exact cut_end u true
          have ez : tx u ++ ("." : Str) = tx (chg bs bs.length) := by
            rw [tx_f, tx_app, hc]
          show ∃ _, _
          refine ⟨_, _, rfl, rfl, ?_, (by show 2 ≤ sizeLine; decide), fun t nt => ?_⟩
          · rw [eu, tx_f, tx_len, tx_len]
            exact fit30 (by show u.length + 1 ≤ 32; omega)
          rw [eu, ez, tx_len]
          have k3 := same_upd (o := .tup [V.int (bs.length : Int), .str (tx (chg bs bs.length))]) nt
          have et : upd H2 t (.tup [V.int (bs.length : Int), .str (tx (chg bs bs.length))]) t = some (.tup [wv bs.length, .str (tx (chg bs bs.length))]) := upd_same
          generalize upd H2 t (.tup [V.int (bs.length : Int), .str (tx (chg bs bs.length))]) = H3 at k3 et
          have ea3 := k3 _ _ ea
          exact ⟨l, _, _, rfl, rfl, ea3, lF al.len (by omega), .ref l, rfl, fin _ l (same_new nl (s2.trans k3)) (Chs.more ea3 (al.mono fun _ _ => ChT.same k3) ho et)⟩
    refine ⟨_, pss_cons (ps_set (i := 1) nd rfl (.inl rfl) (pe_lst pa_nil))
      (pss_cons (ps_if (pt_cmpR op_eq (pe_ix ix_str (pv 0) pe_int (fun _ _ => rfl)) pe_str (nomark _)) (pss_one (ps_expr (pe_bm PySem.F.plainAttrs_list PySem.F.slot_list_append PySem.F.type_list_append mt_append (pv 1) (pa_cons (pe_tup (pa_cons pe_int (pa_cons (pe_op op_add_str pe_str (pe_slice sl_str (pv 0) (po_some pe_int) po_none)) pa_nil))) pa_nil)))) pss_nil) pB), ?_⟩
    refine ⟨Nat.zero_le _, fun l nl => ?_⟩
    have k1 := same_upd (o := .lst []) nl
    have el : upd H l (.lst []) l = some (.lst []) := upd_same
    generalize upd H l (.lst []) = H1 at k1 el
    obtain ⟨b, v, e⟩ : ∃ b v, bs = b :: v := by
      cases bs with
      | nil => exact absurd h1 (by decide)
      | cons b v => exact ⟨b, v, rfl⟩
    have ho : opn bs 0 = !b := by rw [e]; exact opn_first b v
    have hc : chg bs 0 = true :: v := by rw [e]; exact chg_first b v
    have c0 : Chs H1 l bs 0 := ⟨[], el, .nil⟩
    have hat : atI (tx bs).cps.toList 0 = some (cd b) := by
      rw [tx_list, e]
      exact atI_nat (j := 0) rfl
    refine ⟨.str (tx bs), rfl, tx bs, 0, cd b, rfl, rfl, hz, hat, rfl, _, rfl, ?_⟩
    rw [sign_f]
    cases b with
    | true => exact iteF (hB _ _ _ nl k1 (Chs.none c0 ho))
    | false =>
      refine iteT ⟨.ref l, rfl, .inl ⟨rfl, _, SqL.of el⟩, .str (tx bs), rfl, _, rfl, tx bs, rfl, hz, ?_⟩
      have ec : cutS (tx bs) (some 1) none = tx v := by
        have := cut_from bs 1
        rw [e] at this ⊢
        exact this
      have ez : ("o" : Str) ++ tx v = tx (chg bs 0) := by
        rw [tx_o, tx_app, hc]
        rfl
      refine ⟨_, _, rfl, rfl, ?_, (by show 2 ≤ sizeLine; decide), fun t nt => ?_⟩
      · have hl : bs.length = v.length + 1 := by rw [e]; rfl
        rw [ec, tx_o, tx_len, tx_len]
        exact fit30 (by show 1 + v.length ≤ 32; omega)
      rw [ec, ez]
      have k3 := same_upd (o := .tup [V.int 0, .str (tx (chg bs 0))]) nt
      have et : upd H1 t (.tup [V.int 0, .str (tx (chg bs 0))]) t = some (.tup [wv 0, .str (tx (chg bs 0))]) := upd_same
      generalize upd H1 t (.tup [V.int 0, .str (tx (chg bs 0))]) = H2 at k3 et
      have ea3 := k3 _ _ el
      exact ⟨l, _, _, rfl, rfl, ea3, (by decide), hB _ _ _ nl (same_new nl (k1.trans k3)) (Chs.more ea3 .nil ho et)⟩
end
end Hop

set_option Elab.async false
set_option linter.all false
set_option maxRecDepth 100000
set_option exponentiation.threshold 200000
namespace Hop
open PySem L2 HopR HopW
open C8 (InsC call_isC)
section
variable {P : Program} {w : World} {K : PySem.W.Frag} {mg : Str → Option Value} {base : Heap} {C d : Addr} {es : Array DictEntry} {n : Nat}
def spLIT (K : PySem.W.Frag) (C : Addr) : Sp := fun vs H Q _ => ∃ (m : Nat) (x : V) (b : Bool), vs = [wv m, x] ∧ m ≤ 8 ∧ TbK K C H x (ar m) b ∧ ∀ H', Same H H' → Q (.bl b) H'
abbrev nLIT : List Str := ["_law_many", "_law_thing", "_law_rows", "_law_row", "_law_one"]
theorem scLIT : FnScope nLIT ["_law_many", "_law_thing"] (defScope sLIsTable) := ⟨rfl, rfl, rfl, by decide +kernel, rfl, by decide +kernel, by decide +kernel⟩
theorem all_not {bs : List Bool} {i : Nat} (h : bs[i]? = some false) : bs.all id = false := by
  by_cases e : bs.all id = true
  · rw [List.all_eq_true] at e
    exact absurd (e false (List.mem_of_getElem? h)) (by decide)
  · exact Bool.not_eq_true _ ▸ e
theorem all_yes : ∀ {bs : List Bool}, (∀ i, i < bs.length → bs[i]? = some true) → bs.all id = true := fun {bs} h => by
  rw [List.all_eq_true]
  intro x hx
  obtain ⟨i, hi⟩ := List.mem_iff_getElem?.mp hx
  have := h i (List.getElem?_eq_some_iff.mp hi).1
  rw [hi] at this
  exact Option.some.inj this
set_option maxHeartbeats 4000000 in
theorem ok_lit {f : Addr} {fd : FuncData} {k : Nat} (F : Fun K "_law_is_table" "_law_is_table" sLIsTable f fd) (Na : ∃ r s, Fn K mg "_law_all_rows" sAllRows ["_law_many"] r s) (T : TxtP K mg C) (TT : TxtT mg) : FnOk P w K mg base CX0 (k + 2) f fd ["_law_many", "_law_thing"] (spLIT K C) := by
  obtain ⟨r1, s1, R1⟩ := Na
  have Ga : FnOk P w K mg base CX0 (k + 1) r1 s1 ["_law_many"] spAll := ok_allrows R1.F T.range
  refine F.ok scLIT (fun vs H Q E h => ?_) (fun cdv A outer s H vs Q E hr h => ?_)
  · obtain ⟨m, x, b, rfl, _⟩ := h
    rfl
  · obtain ⟨m, x, b, rfl, h8, hx, fin⟩ := h
    have nd := scLIT.nd
    have hp := pow8 h8
    have hal := ar_len m
    refine ⟨_, pss_cons (ps_set (i := 2) nd rfl (.inl rfl) (pe_call Ga hr (by rfl) R1.g R1.F.kp R1.b .nil pass0 (pa_cons (pv 0) pa_nil)))
      (pss_cons (ps_if (PW.pt (pw_or (pt_not (pt_val (pe_callB call_isi (by rfl) T.isi (by decide +kernel) (pa_cons (pv 1) (pa_cons (pe_bltn (v := .ty "list") (by rfl) TT.list (by decide +kernel) rfl) pa_nil))))) (pw_or1 (pt_cmpR op_ne (pe_callB call_len_seq (by rfl) T.len PySem.boot_len (pa_cons (pv 1) pa_nil)) (pe_callB call_len_seq (by rfl) T.len PySem.boot_len (pa_cons (pv 2) pa_nil)) (nomark _))))) (pss_one (ps_ret pe_bl)) pss_nil)
      (pss_cons (ps_for PassesOwn.never rfl (pi_zip (by rfl) TT.zip (pa_cons (pv 2) (pa_cons (pv 1) pa_nil))) (pg_tup (by rfl) (pgs_cons (pg_name (i := 3) nd rfl (.inl rfl)) (pgs_cons (pg_name (i := 4) nd rfl (.inl rfl)) pgs_nil)))
        (pss_cons (ps_if (PW.pt (pw_or (pt_not (pt_val (pe_callB call_isi (by rfl) T.isi (by decide +kernel) (pa_cons (pv 4) (pa_cons (pe_bltn (v := .ty "tuple") (by rfl) TT.tuple (by decide +kernel) rfl) pa_nil))))) (pw_or (pt_cmpR op_ne (pe_callB call_len_seq (by rfl) T.len PySem.boot_len (pa_cons (pv 4) pa_nil)) pe_int (nomark _)) (pw_or (pt_not (pt_val (pe_callB call_isi (by rfl) T.isi (by decide +kernel) (pa_cons (pe_ix ix_tup (pv 4) pe_int (fun _ _ => rfl)) (pa_cons (pe_bltn (v := .ty "str") (by rfl) TT.str (by decide +kernel) rfl) pa_nil))))) (pw_or1 (pt_cmpR op_ne (pe_ix ix_tup (pv 4) pe_int (fun _ _ => rfl)) (pv 3) (nomark _))))))) (pss_one (ps_ret pe_bl)) pss_nil)
        (pss_one (ps_if (PW.pt (pw_or (pt_not (pt_val (pe_callB (CallR.or (call_isC T.ins) call_isi) (by rfl) T.isi (by decide +kernel) (pa_cons (pe_ix ix_tup (pv 4) pe_int (fun _ _ => rfl)) (pa_cons (pe_glob (v := .ref C) (by rfl) T.mgC rfl) pa_nil))))) (pw_or1 (pt_cmpR op_lt (pe_fld (pe_ix ix_tup (pv 4) pe_int (fun _ _ => rfl)) rfl) pe_int (nomark _))))) (pss_one (ps_ret pe_bl)) pss_nil))))
      (pss_one (ps_ret pe_bl)))), ?_⟩
    refine ⟨wv m, rfl, m, rfl, h8, fun H1 pr k1 n1 er => ?_⟩
    have hx := hx.same k1
    have hrl : (rowsL (ar m)).length = 2 ^ m := by rw [rowsL_len, hal]
    rcases hx with ⟨⟨ty, t1, t2⟩, rfl⟩ | ⟨p, vs, rfl, ep, hne, rfl⟩ | ⟨p, vs, bs, rfl, ep, l1, l2, al, rfl⟩
    · exact ⟨x, rfl, x, .ty "list", ty, .type "list", false, rfl, .ty _, t1, t2, false, rfl, iteT (fin H1 k1)⟩
    · refine ⟨.ref p, rfl, .ref p, .ty "list", .type "list", .type "list", true, rfl, .ty _, .base (.lst ep), kit_ty (by decide +kernel), true, rfl, iteF ?_⟩
      refine ⟨.ref p, rfl, p, _, rfl, .inl (SqL.of ep), .ref pr, rfl, pr, _, rfl, .inl (SqL.of er), rfl, _, rfl, ?_⟩
      rw [rowsL_len, decide_eq_false (show ¬ V.int (vs.length : Int) = V.int ((ar m).length : Int) from fun z => hne (by have := V.int.inj z; omega))]
      exact iteT (fin H1 k1)
    · refine ⟨.ref p, rfl, .ref p, .ty "list", .type "list", .type "list", true, rfl, .ty _, .base (.lst ep), kit_ty (by decide +kernel), true, rfl, iteF ?_⟩
      refine ⟨.ref p, rfl, p, _, rfl, .inl (SqL.of ep), .ref pr, rfl, pr, _, rfl, .inl (SqL.of er), rfl, _, rfl, ?_⟩
      rw [rowsL_len, l1, decide_eq_true rfl]
      refine iteF ⟨.ref pr, rfl, .ref p, rfl, pr, p, _, _, rfl, SqL.of er, SqL.of ep, ?_⟩
      refine for_it (walk_zip (K := K) (a := pr) (b := p) (xs := rowsL (ar m)) (ys := vs) (n := bs.length) (by rw [hrl, l1, l2, hal, Nat.min_self])) (fun i σ H2 => ∃ y3 y4, σ = [some (wv m), some (.ref p), some (.ref pr), y3, y4] ∧ Same H1 H2 ∧ ∀ j, j < i → bs[j]? = some true) ⟨_, _, rfl, Same.refl _, fun j hj => absurd hj (Nat.not_lt_zero j)⟩ (fun i σ H2 _ ⟨_, _, _, h, _⟩ => ⟨SqL.of (h _ _ er), SqL.of (h _ _ ep)⟩) ?_ ?_
      · rintro i xx σ H2 H2' hi ⟨y3, y4, rfl, k2, yes⟩ ⟨t, x1, x2, rfl, nt, rfl, hx1, hx2⟩
        have hx1 : (rowsL (ar m))[i]? = some x1 := hx1
        have hx2 : vs[i]? = some x2 := hx2
        unfold rowsL at hx1
        rw [List.getElem?_map] at hx1
        obtain ⟨row, hrow, rfl⟩ := Option.map_eq_some_iff.mp hx1
        obtain ⟨b', hb'⟩ : ∃ b', bs[i]? = some b' := ⟨_, List.getElem?_eq_getElem hi⟩
        have kt := same_upd (o := .tup [V.str (tx row), x2]) nt
        have et : upd H2 t (.tup [V.str (tx row), x2]) t = some (.tup [V.str (tx row), x2]) := upd_same
        have k12 := k2.trans kt
        have hL := (al i x2 row b' hx2 hrow hb').same k12
        generalize upd H2 t (.tup [V.str (tx row), x2]) = H3 at kt et k12 hL
        have no : b' = false → Q (.bl false) H3 := fun e => by
          have := fin H3 (k1.trans k12)
          rw [all_not (by rw [hb', e])] at this
          exact this
        refine ⟨t, _, rfl, SqT.of et, rfl, _, _, rfl, _, _, rfl, rfl, ?_⟩
        rcases hL with ⟨u, z, a, q, rfl, eu, pa, hb⟩ | ⟨u, z, y, rfl, eu, ⟨ty, n1, n2⟩, hb⟩ | ⟨u, us, rfl, eu, hb⟩ | ⟨u, us, rfl, eu, hl, hb⟩ | ⟨u, y, y2, rfl, eu, ⟨ty, n1, n2⟩, hb⟩
        · refine ⟨.ref u, rfl, .ref u, .ty "tuple", .type "tuple", .type "tuple", true, rfl, .ty _, .base (.tup eu), kit_ty (by decide +kernel), true, rfl, iteF ?_⟩
          refine ⟨.ref u, rfl, u, _, rfl, .inr (SqT.of eu), rfl, _, rfl, iteF ?_⟩
          refine ⟨.ref u, rfl, u, _, 0, .str (tx z), rfl, rfl, SqT.of eu, rfl, .str (tx z), .ty "str", .type "str", .type "str", true, rfl, .ty _, .base (.str _), kit_ty (by decide +kernel), true, rfl, iteF ?_⟩
          refine ⟨.ref u, rfl, u, _, 0, .str (tx z), rfl, rfl, SqT.of eu, rfl, .str (tx row), rfl, rfl, _, rfl, ?_⟩
          by_cases e : z = row
          · rw [decide_eq_true (show V.str (tx z) = V.str (tx row) by rw [e])]
            obtain ⟨dx, ea⟩ := id pa
            refine iteF ⟨.ref u, rfl, u, _, 1, .ref a, rfl, rfl, SqT.of eu, rfl, .inl ⟨a, dx, _, rfl, ea, true, rfl, iteF ?_⟩⟩
            refine ⟨.ref u, rfl, u, _, 1, .ref a, rfl, rfl, SqT.of eu, rfl, a, C, dx, _, _, rfl, ea, T.ins.cl, T.nT, pf_top q, _, _, rfl, rfl, _, rfl, ?_⟩
            rw [decide_eq_true e, Bool.true_and] at hb
            by_cases h0 : 0 < q
            · have := num_pos h0
              rw [decide_eq_false (show ¬ q.num < 1 by omega)]
              refine iteF ⟨_, _, rfl, k12, fun j hj => ?_⟩
              by_cases c : j < i
              · exact yes j c
              · obtain rfl : j = i := by omega
                rw [hb', hb, decide_eq_true h0]
            · have h1 : q.num < 1 := by
                have : ¬ 0 < q.num := fun z => h0 (pos_num z)
                omega
              rw [decide_eq_true h1]
              exact iteT (no (by rw [hb, decide_eq_false h0]))
          · rw [decide_eq_false (show ¬ V.str (tx z) = V.str (tx row) from fun e2 => e (tx_inj (V.str.inj e2)))]
            exact iteT (no (by rw [hb, decide_eq_false e]; rfl))
        · refine ⟨.ref u, rfl, .ref u, .ty "tuple", .type "tuple", .type "tuple", true, rfl, .ty _, .base (.tup eu), kit_ty (by decide +kernel), true, rfl, iteF ?_⟩
          refine ⟨.ref u, rfl, u, _, rfl, .inr (SqT.of eu), rfl, _, rfl, iteF ?_⟩
          refine ⟨.ref u, rfl, u, _, 0, .str (tx z), rfl, rfl, SqT.of eu, rfl, .str (tx z), .ty "str", .type "str", .type "str", true, rfl, .ty _, .base (.str _), kit_ty (by decide +kernel), true, rfl, iteF ?_⟩
          refine ⟨.ref u, rfl, u, _, 0, .str (tx z), rfl, rfl, SqT.of eu, rfl, .str (tx row), rfl, rfl, _, rfl, ?_⟩
          by_cases e : z = row
          · rw [decide_eq_true (show V.str (tx z) = V.str (tx row) by rw [e])]
            exact iteF ⟨.ref u, rfl, u, _, 1, y, rfl, rfl, SqT.of eu, rfl, .inr ⟨y, .ref C, ty, .ref C, false, rfl, .own _, n1, n2, false, rfl, iteT (no hb)⟩⟩
          · rw [decide_eq_false (show ¬ V.str (tx z) = V.str (tx row) from fun e2 => e (tx_inj (V.str.inj e2)))]
            exact iteT (no hb)
        · exact ⟨.ref u, rfl, .ref u, .ty "tuple", .type "list", .type "tuple", false, rfl, .ty _, .base (.lst eu), kit_ty (by decide +kernel), false, rfl, iteT (no hb)⟩
        · refine ⟨.ref u, rfl, .ref u, .ty "tuple", .type "tuple", .type "tuple", true, rfl, .ty _, .base (.tup eu), kit_ty (by decide +kernel), true, rfl, iteF ?_⟩
          refine ⟨.ref u, rfl, u, _, rfl, .inr (SqT.of eu), rfl, _, rfl, ?_⟩
          rw [decide_eq_false (show ¬ V.int (us.length : Int) = V.int 2 from fun z => hl (by have := V.int.inj z; omega))]
          exact iteT (no hb)
        · refine ⟨.ref u, rfl, .ref u, .ty "tuple", .type "tuple", .type "tuple", true, rfl, .ty _, .base (.tup eu), kit_ty (by decide +kernel), true, rfl, iteF ?_⟩
          refine ⟨.ref u, rfl, u, _, rfl, .inr (SqT.of eu), rfl, _, rfl, iteF ?_⟩
          exact ⟨.ref u, rfl, u, _, 0, y, rfl, rfl, SqT.of eu, rfl, y, .ty "str", ty, .type "str", false, rfl, .ty _, n1, n2, false, rfl, iteT (no hb)⟩
      · rintro σ H2 ⟨y3, y4, rfl, k2, yes⟩
        have := fin H2 (k1.trans k2)
        rw [all_yes yes] at this
        exact this
end
end Hop

set_option Elab.async false
set_option linter.all false
set_option maxRecDepth 100000
set_option exponentiation.threshold 200000
namespace Hop
open PySem L2 HopR HopW
open C8 (InsC call_isC)
theorem back_same {H H6 : Hp} {p : Addr} {o : Obj} {u : HO} (e : H p = some u) (s : Same (upd H p (.frz o u)) H6) : Same H (upd H6 p u) := fun x v h => by
  by_cases hx : x = p
  · subst hx
    rw [upd_same, ← h, e]
  · rw [upd_ne hx]
    exact s x v (by rw [upd_ne hx]; exact h)
theorem strOk_tx (bs : List Bool) : PyData.strOk (tx bs) = true := by
  unfold PyData.strOk
  unfold tx
  rw [List.all_toArray, List.all_map, List.all_eq_true]
  intro b _
  cases b <;> rfl
/-! ### the told rows as data -/
def dRows (ws : List (List Bool)) : List PyData := ws.map fun v => PyData.str (tx v)
theorem dp_rows {K : PySem.W.Frag} {H : Hp} : ∀ ws : List (List Bool), DpAll K H (rowsL ws) (dRows ws)
  | [] => .nil
  | v :: ws => .cons (.str _) (dp_rows ws)
theorem lay_rows : ∀ ws : List (List Bool), PyData.canLayAll0 (dRows ws) = true
  | [] => rfl
  | v :: ws => by
    show (PyData.canLay0 (.str (tx v)) && PyData.canLayAll0 (dRows ws)) = true
    simp only [PyData.canLay0, strOk_tx, lay_rows ws, Bool.and_true]
theorem deep_rows : ∀ ws : List (List Bool), PyData.depthAll (dRows ws) = 0
  | [] => rfl
  | v :: ws => by
    show PyData.depthAll (.str (tx v) :: dRows ws) = 0
    simp only [PyData.depthAll, deep_rows ws]
    rfl
theorem shaped_rows (ws : List (List Bool)) : SeqAt.shaped (.list (dRows ws)) = true := by
  unfold SeqAt.shaped
  rw [Bool.and_eq_true]
  refine ⟨?_, decide_eq_true ?_⟩
  · simp only [PyData.canLay0, lay_rows ws]
  · simp only [PyData.depth, deep_rows]
    decide
theorem same_rows : ∀ ws : List (List Bool), PyData.eqvAll (dRows ws) (dRows ws) = true
  | [] => rfl
  | v :: ws => by
    show PyData.eqvAll (.str (tx v) :: dRows ws) (.str (tx v) :: dRows ws) = true
    simp [PyData.eqvAll, PyData.eqv, same_rows ws]


theorem shaped_two (i j : Int) : SeqAt.shaped (.tuple [.int i, .int j]) = true := rfl
/-! ### what a table tells of a row -/
def fz (zs : List (List Bool × Rat)) (v : List Bool) : Rat := ((zs.find? fun z => decide (z.1 = v)).map Prod.snd).getD 0
theorem fz_at : ∀ {zs : List (List Bool × Rat)} {i : Nat} {z : List Bool × Rat}, (zs.map Prod.fst).Nodup → zs[i]? = some z → fz zs z.1 = z.2
  | [], _, _, _, h => by simp at h
  | y :: zs, 0, z, _, h => by
    obtain rfl := Option.some.inj h
    unfold fz
    rw [List.find?_cons, decide_eq_true rfl]
    rfl
  | y :: zs, i + 1, z, nd, h => by
    have nd' := List.nodup_cons.mp nd
    have h' : zs[i]? = some z := h
    have hne : ¬ y.1 = z.1 := fun e => nd'.1 (e ▸ List.mem_map.mpr ⟨z, List.mem_of_getElem? h', rfl⟩)
    have := fz_at nd'.2 h'
    unfold fz at this ⊢
    rw [List.find?_cons, decide_eq_false hne]
    exact this
theorem ar_once : ∀ m < 5, (ar m).Nodup := by decide +kernel
/-! ### how large what a row has gained is -/
def touch (u : List Bool) (l : List Ed) : Nat := l.countP fun e => decide (e.2.2 = u) || decide (e.1 = u)
theorem few_touch : ∀ m < 5, (rws m).all (fun u => decide (touch u (edg m) ≤ 5)) = true := by decide +kernel
theorem no_loop : ∀ m < 4, (edg (m + 1)).all (fun e => decide (e.2.2 ≠ e.1) && (rws (m + 1)).contains e.2.2) = true := by decide +kernel
theorem sz_neg {n : Nat} {x : Rat} (h : Sz n x) : Sz n (-x) := ⟨by rw [Rat.neg_num, Int.natAbs_neg]; exact h.1, by rw [Rat.neg_den]; exact h.2⟩
theorem sm_touch {f : List Bool → Rat} {q r : Rat} {n : Nat} {u : List Bool} : ∀ {l : List Ed}, (∀ e ∈ l, e.2.2 ≠ e.1 ∧ Sz n (fl f q r e)) → Sz ((n + 1) * touch u l + 1) (sm (l.map (g1 f q r u)))
  | [], _ => ⟨Nat.two_pow_pos _, Nat.one_lt_two_pow (Nat.succ_ne_zero _)⟩
  | e :: l, h => by
    have ih := sm_touch (u := u) fun x hx => h x (List.mem_cons_of_mem e hx)
    obtain ⟨hne, hz⟩ := h e List.mem_cons_self
    show Sz _ (g1 f q r u e + sm (l.map (g1 f q r u)))
    unfold touch at ih ⊢
    rw [List.countP_cons]
    by_cases h1 : e.2.2 = u
    · have h2 : ¬ e.1 = u := fun z => hne (h1.trans z.symm)
      rw [decide_eq_true h1]
      have e0 : g1 f q r u e = fl f q r e := by
        unfold g1
        rw [if_pos h1, if_neg h2]
        grind
      rw [e0]
      refine (sz_add hz ih).mono ?_
      show n + ((n + 1) * _ + 1) + 1 ≤ (n + 1) * (_ + 1) + 1
      rw [Nat.mul_succ]
      omega
    · rw [decide_eq_false h1]
      by_cases h2 : e.1 = u
      · rw [decide_eq_true h2]
        have e0 : g1 f q r u e = -(fl f q r e) := by
          unfold g1
          rw [if_neg h1, if_pos h2]
          grind
        rw [e0]
        refine (sz_add (sz_neg hz) ih).mono ?_
        show n + ((n + 1) * _ + 1) + 1 ≤ (n + 1) * (_ + 1) + 1
        rw [Nat.mul_succ]
        omega
      · rw [decide_eq_false h2]
        have e0 : g1 f q r u e = 0 := by
          unfold g1
          rw [if_neg h1, if_neg h2]
          grind
        rw [e0, show (0 : Rat) + sm (l.map (g1 f q r u)) = sm (l.map (g1 f q r u)) by grind]
        exact ih
end Hop

set_option Elab.async false
set_option linter.all false
set_option maxRecDepth 100000
set_option exponentiation.threshold 200000
namespace Hop
open PySem L2 HopR HopW
open C8 (InsC call_isC)
def ch (v : List Bool) : List Ed := (walls v).map fun k => (v, k, chg v k)
/-- the changes of the first i rows, and the first j of the next one -/
def pr (m i : Nat) (u : List Bool) (j : Nat) : List Ed := ((rws m).take i).flatMap ch ++ (ch u).take j
theorem pr_next {m i : Nat} {u : List Bool} (h : (rws m)[i]? = some u) : pr m i u (ch u).length = ((rws m).take (i + 1)).flatMap ch := by
  unfold pr
  rw [List.take_length, List.take_add_one, h, List.flatMap_append]
  congr 1
  show ch u = ch u ++ []
  rw [List.append_nil]
theorem edg_cut {m i : Nat} {u : List Bool} (h : (rws m)[i]? = some u) (j : Nat) : ∃ rest, edg m = pr m i u j ++ rest := by
  refine ⟨(ch u).drop j ++ ((rws m).drop (i + 1)).flatMap ch, ?_⟩
  obtain ⟨hl, he⟩ := List.getElem?_eq_some_iff.mp h
  have e1 : rws m = (rws m).take i ++ u :: (rws m).drop (i + 1) := by
    rw [← he, ← List.drop_eq_getElem_cons hl, List.take_append_drop]
  have e2 : edg m = ((rws m).take i).flatMap ch ++ (ch u ++ ((rws m).drop (i + 1)).flatMap ch) := by
    show (rws m).flatMap ch = _
    conv => lhs; rw [e1]
    rw [List.flatMap_append, List.flatMap_cons]
  rw [e2]
  unfold pr
  rw [List.append_assoc, ← List.append_assoc ((ch u).take j), List.take_append_drop]
theorem pr_touch {m i j : Nat} {u v : List Bool} (hm : m < 5) (h : (rws m)[i]? = some u) (hv : v ∈ rws m) : touch v (pr m i u j) ≤ 5 := by
  obtain ⟨rest, e⟩ := edg_cut h j
  have h1 := of_decide_eq_true (List.all_eq_true.mp (few_touch m hm) v hv)
  unfold touch at h1 ⊢
  rw [e, List.countP_append] at h1
  omega
theorem pr_in {m i j : Nat} {u : List Bool} (h : (rws m)[i]? = some u) {e : Ed} (he : e ∈ pr m i u j) : e ∈ edg m := by
  obtain ⟨rest, e'⟩ := edg_cut h j
  rw [e']
  exact List.mem_append_left _ he
theorem pr_step {m i j : Nat} {u : List Bool} {e : Ed} (h : (ch u)[j]? = some e) : pr m i u (j + 1) = pr m i u j ++ [e] := by
  unfold pr
  rw [List.take_add_one, h, List.append_assoc]
  rfl
def spLS (K : PySem.W.Frag) (C : Addr) : Sp := fun vs H Q _ => ∃ (m : Nat) (x : V) (tp a b : Addr) (q r : Rat), vs = [wv m, x, .ref tp] ∧ 1 ≤ m ∧ m < 5 ∧ H tp = some (.tup [.ref a, .ref b]) ∧ H a = some (.tup (tq q)) ∧ H b = some (.tup (tq r)) ∧ 0 < q ∧ 0 < r ∧ Sz 4 q ∧ Sz 4 r ∧
  ((TbK K C H x (ar m) false ∧ ∀ H', Same H H' → Q (.bl false) H') ∨ ∃ p zs, x = .ref p ∧ Tz C H p zs ∧ zs.map Prod.fst = ar m ∧ (∀ z ∈ zs, 0 < z.2 ∧ Sz 440 z.2) ∧ ∀ H', Same H H' → Q (.bl ((ar m).all fun u => decide (gain (fz zs) q r m u = 0))) H')
theorem good_tbk {K : PySem.W.Frag} {C : Addr} {H : Hp} {p : Addr} {zs : List (List Bool × Rat)} {rows : List (List Bool)} (h : Tz C H p zs) (hf : zs.map Prod.fst = rows) (hz : ∀ z ∈ zs, 0 < z.2) : TbK K C H (.ref p) rows true := by
  obtain ⟨vs, e, al⟩ := h
  have hl : rows.length = zs.length := by rw [← hf, List.length_map]
  refine .inr (.inr ⟨p, vs, List.replicate rows.length true, rfl, e, by rw [al.len, hl], List.length_replicate, fun i v row b' h1 h2 h3 => ?_, (all_yes fun i hi => ?_).symm⟩)
  · obtain ⟨z, hz', t, a, rfl, et, pa⟩ := al.get h1
    have e1 : row = z.1 := by
      rw [← hf, List.getElem?_map, hz'] at h2
      exact (Option.some.inj h2).symm
    have e2 : b' = true := List.eq_of_mem_replicate (List.mem_of_getElem? h3)
    refine .inl ⟨t, z.1, a, z.2, rfl, et, pa, ?_⟩
    rw [e1, e2, decide_eq_true rfl, decide_eq_true (hz z (List.mem_of_getElem? hz'))]
    rfl
  · rw [List.length_replicate] at hi
    rw [List.getElem?_replicate, if_pos hi]
theorem eqv_01 (x : Rat) : PyData.eqv (.tuple [.int x.num, .int (x.den : Int)]) (.tuple [.int 0, .int 1]) = decide (x = 0) := by
  by_cases e : x = 0
  · subst e
    decide +kernel
  · rw [decide_eq_false e]
    have hn : x.num ≠ 0 := fun z => e (Rat.num_eq_zero.mp z)
    simp [PyData.eqv, PyData.eqvAll, hn]
theorem eqv_rows0 (ws : List (List Bool)) : PyData.eqv (.list (dRows ws)) (.list []) = decide (ws = []) := by
  cases ws with
  | nil => decide +kernel
  | cons v ws =>
    rw [decide_eq_false (by simp)]
    simp [PyData.eqv, dRows, PyData.eqvAll]
theorem no_loop' {m : Nat} (h1 : 1 ≤ m) (h5 : m < 5) : ∀ e ∈ edg m, e.2.2 ≠ e.1 ∧ e.2.2 ∈ rws m := fun e he => by
  obtain ⟨m', rfl⟩ : ∃ m', m = m' + 1 := ⟨m - 1, by omega⟩
  have h := List.all_eq_true.mp (no_loop m' (by omega)) e he
  rw [Bool.and_eq_true] at h
  exact ⟨of_decide_eq_true h.1, List.contains_iff_mem.mp h.2⟩
theorem all_filter (p : List Bool → Bool) : ∀ l : List (List Bool), l.all p = decide ((l.filter fun u => !p u) = [])
  | [] => rfl
  | u :: l => by
    rw [List.all_cons, List.filter_cons, all_filter p l]
    cases h : p u with
    | true => simp
    | false => simp
section
variable {P : Program} {w : World} {K : PySem.W.Frag} {mg : Str → Option Value} {base : Heap} {C d : Addr} {es : Array DictEntry} {n : Nat}
abbrev nLS : List Str := ["_law_many", "_law_thing", "_law_paces", "_law_row", "_law_worth", "_law_gains", "_law_shut", "_law_after", "_law_flow"]
theorem scLS : FnScope nLS ["_law_many", "_law_thing", "_law_paces"] (defScope sLIsStill) := ⟨rfl, rfl, rfl, by decide +kernel, rfl, by decide +kernel, by decide +kernel⟩
structure LsDefs (K : PySem.W.Frag) (mg : Str → Option Value) : Prop where
  it : ∃ r s, Fn K mg "_law_is_table" sLIsTable ["_law_many", "_law_thing"] r s
  ar : ∃ r s, Fn K mg "_law_all_rows" sAllRows ["_law_many"] r s
  cs : ∃ r s, Fn K mg "_law_changes" sLChanges ["_law_row"] r s
  ti : ∃ r s, Fn K mg "_law_times" sLTimes ["_law_one", "_law_other"] r s
  pa : ∃ r s, Fn K mg "_law_pace_at" sPaceAt ["_law_row", "_law_shut", "_law_paces"] r s
  pl : ∃ r s, Fn K mg "_law_plus" sLPlus ["_law_one", "_law_other"] r s
  lo : ∃ r s, Fn K mg "_law_low" sLLow ["_law_top", "_law_bottom"] r s
  di : mg "dict" = none
set_option maxHeartbeats 16000000 in
theorem ok_lstill {f : Addr} {fd : FuncData} {k : Nat} (F : Fun K "_law_is_still" "_law_is_still" sLIsStill f fd) (N : LsDefs K mg) (T : TxtP K mg C) (TT : TxtT mg) : FnOk P w K mg base CX0 (k + 4) f fd ["_law_many", "_law_thing", "_law_paces"] (spLS K C) := by
  obtain ⟨r1, s1, R1⟩ := N.it
  obtain ⟨r2, s2, R2⟩ := N.cs
  obtain ⟨r3, s3, R3⟩ := N.ti
  obtain ⟨r4, s4, R4⟩ := N.pa
  obtain ⟨r5, s5, R5⟩ := N.pl
  obtain ⟨r6, s6, R6⟩ := N.lo
  have G1 : FnOk P w K mg base CX0 (k + 3) r1 s1 ["_law_many", "_law_thing"] (spLIT K C) := ok_lit R1.F N.ar T TT
  have G2 : FnOk P w K mg base CX0 (k + 3) r2 s2 ["_law_row"] spChanges := ok_changes R2.F T
  have G3 : FnOk P w K mg base CX0 (k + 3) r3 s3 ["_law_one", "_law_other"] (spT2 K (fun q r => q * r)) := ok_ltimes R3.F R6 T
  have G4 : FnOk P w K mg base CX0 (k + 3) r4 s4 ["_law_row", "_law_shut", "_law_paces"] spPaceAt := ok_paceat R4.F T
  have G5 : FnOk P w K mg base CX0 (k + 3) r5 s5 ["_law_one", "_law_other"] (spT2 K (fun q r => q + r)) := ok_lplus R5.F R6 T
  refine F.ok scLS (fun vs H Q E h => ?_) (fun cdv A outer s H vs Q E hr h => ?_)
  · obtain ⟨m, x, tp, a, b, q, r, rfl, _⟩ := h
    rfl
  · obtain ⟨m, x, tp, a, b, q, r, rfl, h1, h5, etp, ea, eb, q0, r0, zq, zr, hx⟩ := h
    have nd := scLS.nd
    have hu1 := hu_of hr
    have hu := hu66 hr
    have hu64 : (A.deeper (PyProof.Rows.envOfC "_law_is_still" (defScope sLIsStill) s.heap.objs.size f cdv)).units + 64 < cLine := by omega
    have hu := hu1
    refine ⟨_, pss_cons (ps_if (pt_not (pt_val (pe_call G1 hr (by rfl) R1.g R1.F.kp R1.b .nil pass0 (pa_cons (pv 0) (pa_cons (pv 1) pa_nil))))) (pss_one (ps_ret pe_bl)) pss_nil)
      (pss_cons (ps_set (i := 5) nd rfl (.inr rfl) (pe_callTy (call_dictP (by rfl)) (by rfl) N.di (by decide +kernel) (pa_cons (pe_lc (own := [("_law_row", 3), ("_law_worth", 4)]) (g := gTup K 2 (gCons (gName 3) (gCons (gName 4) gNil))) (tt := tYes) rfl nd (pi_list (pv 1))
        (blkOk_by (own := [("_law_row", 3), ("_law_worth", 4)]) (N := nLS) (sc := defScope sLIsStill) (by decide +kernel)) (fun _ _ _ _ _ => (pg_tup (by rfl) (pgs_cons (pg_name (i := 3) nd rfl (.inl rfl)) (pgs_cons (pg_name (i := 4) nd rfl (.inl rfl)) pgs_nil)))) (fun _ _ _ _ _ => pts_nil) (fun _ _ _ _ _ => (pe_tup (pa_cons (pv 3) (pa_cons (pe_tup (pa_cons pe_int (pa_cons pe_int pa_nil))) pa_nil))))) pa_nil)))
      (pss_cons (ps_for PassesOwn.never rfl (pi_list (pv 1)) (pg_tup (by rfl) (pgs_cons (pg_name (i := 3) nd rfl (.inl rfl)) (pgs_cons (pg_name (i := 4) nd rfl (.inl rfl)) pgs_nil)))
        (pss_one (ps_for PassesOwn.never rfl (pi_list (pe_call G2 hr (by rfl) R2.g R2.F.kp R2.b .nil pass0 (pa_cons (pv 3) pa_nil))) (pg_tup (by rfl) (pgs_cons (pg_name (i := 6) nd rfl (.inl rfl)) (pgs_cons (pg_name (i := 7) nd rfl (.inl rfl)) pgs_nil)))
          (pss_cons (ps_set (i := 8) nd rfl (.inl rfl) (pe_call G3 hr (by rfl) R3.g R3.F.kp R3.b .nil pass0 (pa_cons (pe_tup (pa_cons (pe_fld (pv 4) rfl) (pa_cons (pe_fld (pv 4) rfl) pa_nil))) (pa_cons (pe_call G4 hr (by rfl) R4.g R4.F.kp R4.b .nil pass0 (pa_cons (pv 3) (pa_cons (pv 6) (pa_cons (pv 2) pa_nil)))) pa_nil))))
          (pss_cons (ps_dput hu (pv 5) (pv 7) (pe_call G5 hr (by rfl) R5.g R5.F.kp R5.b .nil pass0 (pa_cons (pe_dget hu (pv 5) (pv 7) (fun _ _ => rfl)) (pa_cons (pv 8) pa_nil))) rfl)
          (pss_one (ps_dput hu (pv 5) (pv 3) (pe_call G5 hr (by rfl) R5.g R5.F.kp R5.b .nil pass0 (pa_cons (pe_dget hu (pv 5) (pv 3) (fun _ _ => rfl)) (pa_cons (pe_tup (pa_cons (pe_op op_sub pe_int (pe_ix ix_tup (pv 8) pe_int (fun _ _ => rfl))) (pa_cons (pe_ix ix_tup (pv 8) pe_int (fun _ _ => rfl)) pa_nil))) pa_nil))) rfl)))))))
      (pss_one (ps_ret (pe_cmpR (op_eqD hu64) (pe_lock (pe_lc (own := [("_law_row", 3)]) (g := gName 3) rfl nd (pi_keys (pv 5)) (blkOk_by (own := [("_law_row", 3)]) (N := nLS) (sc := defScope sLIsStill) (by decide +kernel)) (fun _ _ _ _ _ => pg_name (i := 3) nd rfl (Or.inl rfl))
            (fun _ _ _ _ _ => pts_one (pt_cmpR (show OpR _ (compareOp .NotEq) (rNeD K) from op_neD hu64) (pe_dget (by assumption) (pv 5) (pv 3) (fun _ _ => rfl)) (pe_tup (pa_cons pe_int (pa_cons pe_int pa_nil))) (nomark _))) (fun _ _ _ _ _ => pv 3))) (pe_lst pa_nil) (nomark _)))))), ?_⟩
    have h8 : m ≤ 8 := by omega
    have once := ar_once m h5
    have hp := pow8 h8
    have hal := ar_len m
    have few : (ar m).length ≤ 5000 := by omega
    rcases hx with ⟨hb, fin⟩ | ⟨p, zs, rfl, tz0, hf, hz, fin⟩
    · exact ⟨wv m, rfl, x, rfl, m, x, false, rfl, h8, hb, fun H1 k1 => ⟨false, rfl, iteT (fin H1 k1)⟩⟩
    refine ⟨wv m, rfl, .ref p, rfl, m, .ref p, true, rfl, h8, good_tbk tz0 hf fun z h => (hz z h).1, fun H1 k1 => ⟨true, rfl, iteF ?_⟩⟩
    obtain ⟨vs, ep0, al0⟩ := id tz0
    have ep := k1 _ _ ep0
    have al := al0.mono fun _ _ => TwI.same k1
    have hzl : zs.length = 2 ^ m := by rw [← hal, ← hf, List.length_map]
    have hvl : vs.length = 2 ^ m := by rw [al.len, hzl]
    refine ⟨.ref p, rfl, p, rfl, ⟨_, SqL.of ep⟩, fun D hD => ?_⟩
    refine lc_list (K := K) (a := p) (xs := vs) (fun j H3 => Same H1 H3 ∧ ∃ pts : List (Addr × Addr), H3 D = some (.lst ((pts.map (·.1)).map V.ref)) ∧ Paired (fun z v => H3 z.1 = some (.tup [.str (tx v), .ref z.2]) ∧ H3 z.2 = some (.tup (tq ((fun _ : List Bool => (0 : Rat)) v)))) pts ((ar m).take j))
      ⟨same_upd hD, [], upd_same, .nil⟩ (fun j H3 _ h => SqL.of (h.1 _ _ ep)) ?_ ?_
    · rintro j v H3 hv ⟨k3, pts, eD, pp⟩
      obtain ⟨z, hz', t, b1, rfl, ett, _⟩ := al.get hv
      have hrow : (ar m)[j]? = some z.1 := by rw [← hf, List.getElem?_map, hz']; rfl
      refine ⟨t, _, rfl, SqT.of (k3 _ _ ett), rfl, _, _, rfl, _, _, rfl, rfl, rfl, .str (tx z.1), rfl, (by show 2 ≤ sizeLine; decide), fun t0 n0 => ?_⟩
      have k4 := same_upd (o := .tup [V.int 0, V.int 1]) n0
      have e4 : upd H3 t0 (.tup [V.int 0, V.int 1]) t0 = some (.tup (tq 0)) := upd_same
      generalize upd H3 t0 (.tup [V.int 0, V.int 1]) = H4 at k4 e4
      refine ⟨(by show 2 ≤ sizeLine; decide), fun u nu => ?_⟩
      have su := same_upd (o := .tup [V.str (tx z.1), .ref t0]) nu
      have eu : upd H4 u (.tup [V.str (tx z.1), .ref t0]) u = some (.tup [V.str (tx z.1), .ref t0]) := upd_same
      generalize upd H4 u (.tup [V.str (tx z.1), .ref t0]) = H5 at su eu
      have s35 := k4.trans su
      have eD5 := s35 _ _ eD
      have et5 := su _ _ e4
      have pl : pts.length = ((ar m).take j).length := pp.length
      have hj := (List.getElem?_eq_some_iff.mp hv).1
      refine ⟨_, eD5, ?_, same_new hD (k3.trans s35), pts ++ [(u, t0)], ?_, ?_⟩
      · rw [List.length_map, List.length_map, pl, List.length_take]
        exact Nat.lt_of_le_of_lt (Nat.min_le_left _ _) (Nat.lt_of_lt_of_le (show j < 10000 by omega) (by decide))
      · rw [upd_same, List.map_append, List.map_append]
        rfl
      · have up : ∀ {z : Addr} {xs : List V}, H5 z = some (.tup xs) → upd H5 D (.lst ((pts.map (·.1)).map V.ref ++ [V.ref u])) z = some (.tup xs) := fun {z xs} e => by
          rw [upd_ne (fun h => by rw [h, eD5] at e; cases e)]
          exact e
        rw [List.take_add_one, hrow]
        exact paired_snoc (paired_imp (fun z v h => ⟨up (s35 _ _ h.1), up (s35 _ _ h.2)⟩) pp) ⟨up eu, up et5⟩
    rintro H3 ⟨k3, pts, eD, pp⟩
    rw [hvl, ← hal, List.take_length] at pp
    obtain ⟨g1', g2'⟩ := pts_pairs (K := K) pp
    refine ⟨D, _, _, rfl, SqL.of eD, g1', fun pg ng => ?_⟩
    have ml : mergeK [] (kvW (ar m) (pts.map (·.2))) = kvW (ar m) (pts.map (·.2)) := by
      refine merge_app _ [] ?_
      rw [List.nil_append, kvW_keys g2'.length]
      exact List.pairwise_map.mpr (once.imp fun h e => h (tx_inj (Sum.inr.inj e)))
    rw [ml]
    have k03 := k1.trans k3
    have kg := same_upd (o := .dK (kvW (ar m) (pts.map (·.2)))) ng
    have W0 : WD (upd H3 pg (.dK (kvW (ar m) (pts.map (·.2))))) pg (ar m) (fun _ => 0) := ⟨_, upd_same, paired_imp (fun t v e => kg _ _ e) g2'⟩
    have ng0 : H pg = none := k03.free ng
    have k04 := k03.trans kg
    generalize upd H3 pg (.dK (kvW (ar m) (pts.map (·.2)))) = H4 at W0 k04
    have flz : ∀ e ∈ edg m, e.2.2 ≠ e.1 ∧ Sz 444 (fl (fz zs) q r e) := fun e he => by
      refine ⟨(no_loop' h1 h5 e he).1, ?_⟩
      have hm1 : e.1 ∈ ar m := (edg_from he).1
      rw [← hf] at hm1
      obtain ⟨z, hz1, hz2⟩ := List.mem_map.mp hm1
      obtain ⟨i, hi⟩ := List.mem_iff_getElem?.mp hz1
      have := fz_at (by rw [hf]; exact once) hi
      unfold fl
      rw [← hz2, this]
      show Sz (440 + 4) _
      refine sz_mul (hz z hz1).2 ?_
      unfold pcA
      split
      · exact zq
      · split
        · exact zr
        · exact ⟨by decide, by decide⟩
    have szφ : ∀ {i j : Nat} {u v : List Bool}, (rws m)[i]? = some u → v ∈ rws m → Sz 2226 (sm ((pr m i u j).map (g1 (fz zs) q r v))) := fun {i j u v} hu hv => by
      refine (sm_touch (n := 444) fun e he => flz e (pr_in hu he)).mono ?_
      have := pr_touch (j := j) h5 hu hv
      have : 445 * touch v (pr m i u j) ≤ 445 * 5 := Nat.mul_le_mul_left _ this
      show (444 + 1) * _ + 1 ≤ _
      omega
    refine ⟨.ref p, rfl, p, rfl, ⟨_, SqL.of (k04 _ _ ep0)⟩, ?_⟩
    refine for_list (K := K) (a := p) (xs := vs) (fun i σ H5 => ∃ y3 y4 y6 y7 y8, σ = [some (wv m), some (.ref p), some (.ref tp), y3, y4, some (.ref pg), y6, y7, y8] ∧ Same H H5 ∧ WD H5 pg (ar m) (fun u => sm ((((rws m).take i).flatMap ch).map (g1 (fz zs) q r u)))) ⟨_, _, _, _, _, rfl, k04, W0⟩ (fun i σ H5 _ ⟨_, _, _, _, _, _, h, _⟩ => SqL.of (h _ _ ep0)) ?_ ?_
    · rintro i v σ H5 hv ⟨y3, y4, y6, y7, y8, rfl, k5, W5⟩
      obtain ⟨z, hz', t, b1, rfl, ett, pb⟩ := al0.get hv
      have hrow : (rws m)[i]? = some z.1 := by
        have : (ar m)[i]? = some z.1 := by rw [← hf, List.getElem?_map, hz']; rfl
        exact this
      have hmem : z.1 ∈ rws m := List.mem_of_getElem? hrow
      have hlen : z.1.length = m := rws_len hmem
      have hfz : fz zs z.1 = z.2 := fz_at (by rw [hf]; exact once) hz'
      have et5 := k5 _ _ ett
      refine ⟨t, _, rfl, SqT.of et5, rfl, _, _, rfl, _, _, rfl, rfl, ?_⟩
      refine ⟨.str (tx z.1), rfl, z.1, rfl, by omega, by omega, fun H6 l k6 ⟨acc, el, ac⟩ => ?_⟩
      have W6 := W5.same k6
      obtain ⟨ts6, eg6, _⟩ := id W6
      have nlg : l ≠ pg := fun z => by rw [z, eg6] at el; cases el
      have k06 := k5.trans k6
      refine ⟨l, rfl, ⟨_, SqL.of el⟩, ?_⟩
      have p0 : pr m i z.1 0 = ((rws m).take i).flatMap ch := by
        unfold pr
        rw [List.take_zero, List.append_nil]
      refine for_list (K := K) (a := l) (xs := acc) (fun j σ H7 => ∃ y6 y7 y8, σ = [some (wv m), some (.ref p), some (.ref tp), some (.str (tx z.1)), some (.ref b1), some (.ref pg), y6, y7, y8] ∧ Same H H7 ∧ (∀ c o, c ≠ pg → H6 c = some o → H7 c = some o) ∧ WD H7 pg (ar m) (fun u => sm ((pr m i z.1 j).map (g1 (fz zs) q r u)))) ⟨_, _, _, rfl, k06, fun c o _ h => h, by rw [p0]; exact W6⟩ (fun j σ H7 _ ⟨_, _, _, _, _, h, _⟩ => SqL.of (h _ _ nlg el)) ?_ ?_
      · rintro j v2 σ H7 hv2 ⟨y6, y7, y8, rfl, k7, but, W7⟩
        obtain ⟨kk, hkk, u2, rfl, eu2⟩ := ac.get hv2
        have hkk : (walls z.1)[j]? = some kk := hkk
        have hcj : (ch z.1)[j]? = some (z.1, kk, chg z.1 kk) := by
          unfold ch
          rw [List.getElem?_map, hkk]
          rfl
        have he : (z.1, kk, chg z.1 kk) ∈ edg m := pr_in (j := j + 1) hrow (by rw [pr_step hcj]; exact List.mem_append_right _ (List.mem_singleton.mpr rfl))
        obtain ⟨hne, hm2⟩ := no_loop' h1 h5 _ he
        have hne : ¬ chg z.1 kk = z.1 := hne
        have hm2 : chg z.1 kk ∈ ar m := hm2
        have nu2 : u2 ≠ pg := fun z => by rw [z, eg6] at eu2; cases eu2
        have eu7 := but _ _ nu2 eu2
        obtain ⟨dx, eb1⟩ := pb.same k7
        refine ⟨u2, _, rfl, SqT.of eu7, rfl, _, _, rfl, _, _, rfl, rfl, ?_⟩
        refine ⟨.ref b1, rfl, b1, C, dx, _, _, rfl, eb1, T.ins.cl, T.nT, pf_top z.2, .ref b1, rfl, b1, C, dx, _, _, rfl, eb1, T.ins.cl, T.nB, pf_bottom z.2, (by show 2 ≤ sizeLine; decide), fun tw nw => ?_⟩
        have k8 := same_upd (o := .tup [V.int z.2.num, V.int (z.2.den : Int)]) nw
        have e8 : upd H7 tw (.tup [V.int z.2.num, V.int (z.2.den : Int)]) tw = some (.tup (tq z.2)) := upd_same
        generalize upd H7 tw (.tup [V.int z.2.num, V.int (z.2.den : Int)]) = H8 at k8 e8
        have k08 := k7.trans k8
        refine ⟨.str (tx z.1), rfl, wv kk, rfl, .ref tp, rfl, z.1, kk, tp, a, b, q, r, rfl, by omega, by omega, k08 _ _ etp, k08 _ _ ea, k08 _ _ eb, fun H9 p9 k9 e9 => ?_⟩
        have hflz := (flz _ he).2
        have hfl : fl (fz zs) q r (z.1, kk, chg z.1 kk) = z.2 * pcA z.1 q r kk := by
          unfold fl
          rw [hfz]
        rw [hfl] at hflz
        have zpc : Sz 4 (pcA z.1 q r kk) := by
          unfold pcA
          split
          · exact zq
          · split
            · exact zr
            · exact ⟨by decide, by decide⟩
        refine ⟨tw, p9, z.2, pcA z.1 q r kk, rfl, k9 _ _ e8, e9, (hz z (List.mem_of_getElem? hz')).2.mono (by decide), zpc.mono (by decide), fun HA pf kA nA eA => ?_⟩
        have eA : HA pf = some (.tup (tq (z.2 * pcA z.1 q r kk))) := eA
        generalize hx : z.2 * pcA z.1 q r kk = x at eA hfl hflz
        have k7A := k8.trans (k9.trans kA)
        have WA := W7.same k7A
        have k0A := k7.trans k7A
        have butA : ∀ c o, c ≠ pg → H6 c = some o → HA c = some o := fun c o hc h => k7A _ _ (but c o hc h)
        clear W7 but eu7 k8 e8 k9 e9 kA k7A
        obtain ⟨t2, dg2, et2⟩ := WA.at once hm2
        refine ⟨.ref pg, rfl, .str (tx (chg z.1 kk)), rfl, pg, .ref t2, rfl, dg2, .ref pf, rfl, t2, pf, _, x, rfl, et2, eA, (szφ hrow hm2).mono (by decide), hflz.mono (by decide), fun HB pn kB nB eB => ?_⟩
        obtain ⟨o1, pu1, WB⟩ := (WA.same kB).set once hm2 eB few
        have k0B := k0A.trans kB
        refine ⟨.ref pg, rfl, .str (tx (chg z.1 kk)), rfl, pg, _, rfl, pu1, ?_⟩
        have kC : Same H (upd HB pg o1) := same_new ng0 k0B
        have butC : ∀ c o, c ≠ pg → H6 c = some o → upd HB pg o1 c = some o := fun c o hc h => by rw [upd_ne hc]; exact kB _ _ (butA c o hc h)
        have npf : pf ≠ pg := fun z => by
          obtain ⟨_, e, _⟩ := id WA
          rw [z, e] at eA
          cases eA
        have eC : upd HB pg o1 pf = some (.tup (tq x)) := by rw [upd_ne npf]; exact kB _ _ eA
        generalize upd HB pg o1 = HC at WB kC butC eC
        obtain ⟨t3, dg3, et3⟩ := WB.at once (show z.1 ∈ ar m from hmem)
        dsimp only at et3
        rw [if_neg (fun z => hne z.symm)] at et3
        refine ⟨.ref pg, rfl, .str (tx z.1), rfl, pg, .ref t3, rfl, dg3, .ref pf, rfl, pf, _, 0, .int x.num, rfl, rfl, SqT.of eC, rfl, 0, x.num, rfl, rfl, .ref pf, rfl, pf, _, 1, .int (x.den : Int), rfl, rfl, SqT.of eC, rfl, (by show 2 ≤ sizeLine; decide), fun tn nn => ?_⟩
        have kD := same_upd (o := .tup [V.int (0 - x.num), V.int (x.den : Int)]) nn
        have eD : upd HC tn (.tup [V.int (0 - x.num), V.int (x.den : Int)]) tn = some (.tup (tq (-x))) := by
          rw [upd_same]
          unfold tq
          rw [Rat.neg_num, Rat.neg_den, Int.zero_sub]
        generalize upd HC tn (.tup [V.int (0 - x.num), V.int (x.den : Int)]) = HD at kD eD
        refine ⟨t3, tn, _, -x, rfl, kD _ _ et3, eD, (szφ hrow hmem).mono (by decide), (sz_neg hflz).mono (by decide), fun HE pe kE nE eE => ?_⟩
        have kCE := kD.trans kE
        obtain ⟨o2, pu2, WE⟩ := (WB.same kCE).set once (show z.1 ∈ ar m from hmem) eE few
        refine ⟨.ref pg, rfl, .str (tx z.1), rfl, pg, _, rfl, pu2, _, _, _, rfl, same_new ng0 (kC.trans kCE), fun c o hc h => by rw [upd_ne hc]; exact kCE _ _ (butC c o hc h), ?_⟩
        have ef : (fun u => sm ((pr m i z.1 (j + 1)).map (g1 (fz zs) q r u))) = fun v => if v = z.1 then sm ((pr m i z.1 j).map (g1 (fz zs) q r z.1)) + -x else if v = chg z.1 kk then sm ((pr m i z.1 j).map (g1 (fz zs) q r (chg z.1 kk))) + x else sm ((pr m i z.1 j).map (g1 (fz zs) q r v)) := by
          funext u
          rw [pr_step hcj, List.map_append, sm_app]
          have e1 : sm ([(z.1, kk, chg z.1 kk)].map (g1 (fz zs) q r u)) = g1 (fz zs) q r u (z.1, kk, chg z.1 kk) := by
            show g1 (fz zs) q r u (z.1, kk, chg z.1 kk) + 0 = _
            grind
          rw [e1]
          unfold g1
          rw [hfl]
          by_cases c1 : u = z.1
          · subst c1
            rw [if_pos rfl, if_neg hne, if_pos rfl]
            grind
          · rw [if_neg c1]
            by_cases c2 : u = chg z.1 kk
            · rw [if_pos c2, if_pos c2.symm, if_neg (fun z => c1 z.symm), c2]
              grind
            · rw [if_neg c2, if_neg (fun z => c2 z.symm), if_neg (fun z => c1 z.symm)]
              grind
        rw [ef]
        exact WE
      · rintro σ H7 ⟨y6, y7, y8, rfl, k7, but, W7⟩
        refine ⟨_, _, _, _, _, rfl, k7, ?_⟩
        have hl : acc.length = (ch z.1).length := by
          rw [ac.len]
          unfold ch
          rw [List.length_map]
          rfl
        rw [hl, pr_next hrow] at W7
        exact W7
    · rintro σ H5 ⟨y3, y4, y6, y7, y8, rfl, k5, W5⟩
      have hrl : (rws m).length = 2 ^ m := hal
      rw [hvl, List.take_of_length_le (by rw [hrl]; exact Nat.le_refl _)] at W5
      have W5 : WD H5 pg (ar m) (fun u => gain (fz zs) q r m u) := W5
      obtain ⟨ts, eg, prd⟩ := id W5
      refine ⟨pg, .dK (kvW (ar m) ts), eg, trivial, fun od => ?_⟩
      have fc : upd H5 pg (.frz od (.dK (kvW (ar m) ts))) pg = some (.frz od (.dK (kvW (ar m) ts))) := upd_same
      have back : ∀ {H6 : Hp}, Same (upd H5 pg (.frz od (.dK (kvW (ar m) ts)))) H6 → Same H5 (upd H6 pg (.dK (kvW (ar m) ts))) := fun s => back_same eg s
      have tup : ∀ {z : Addr} {xs : List V}, H5 z = some (.tup xs) → upd H5 pg (.frz od (.dK (kvW (ar m) ts))) z = some (.tup xs) := fun {z xs} e => by
        rw [upd_ne (fun h => by rw [h, eg] at e; cases e)]
        exact e
      have nn : ∀ {z : Addr}, upd H5 pg (.frz od (.dK (kvW (ar m) ts))) z = none → z ≠ pg := fun {z} e h => by rw [h, upd_same] at e; cases e
      generalize upd H5 pg (.frz od (.dK (kvW (ar m) ts))) = HF at fc back tup nn
      have kl := kvW_len (ws := ar m) (ts := ts) prd.length
      refine ⟨.ref pg, rfl, pg, od, rfl, .inl ⟨kvW (ar m) ts, fc, fun D2 nD2 => ?_⟩⟩
      refine lc_it walk_keys (fun j H9 => Same HF H9 ∧ H9 D2 = some (.lst (rowsL (((ar m).take j).filter fun u => !decide (gain (fz zs) q r m u = 0))))) ⟨same_upd nD2, upd_same⟩ (fun j H9 _ h => h.1 _ _ fc) ?_ ?_
      · rintro j v1 H9 H9b hj ⟨k9, e9⟩ ⟨rfl, k1', v2, hk1, rfl⟩
        obtain ⟨u, t, hu', hw', hzz⟩ := kvW_of hk1
        obtain ⟨rfl, rfl⟩ := Prod.mk.inj hzz
        obtain ⟨u', hu2, et⟩ := paired_at prd hw'
        obtain rfl : u = u' := Option.some.inj (hu'.symm.trans hu2)
        refine ⟨rfl, .ref pg, rfl, .str (tx u), rfl, pg, .ref t, rfl, .inl ⟨kvW (ar m) ts, Sum.inr (tx u), .inr ⟨od, k9 _ _ fc⟩, rfl, (kvW_val once hu' hw').symm⟩, (by show 2 ≤ sizeLine; decide), fun tn nn2 => ?_⟩
        have kA := same_upd (o := .tup [V.int 0, V.int 1]) nn2
        have eA : upd H9b tn (.tup [V.int 0, V.int 1]) tn = some (.tup [V.int 0, V.int 1]) := upd_same
        generalize upd H9b tn (.tup [V.int 0, V.int 1]) = HA at kA eA
        have etA := kA _ _ (k9 _ _ (tup et))
        refine ⟨_, _, .tup (SqT.of etA) (.cons (.int _) (.cons (.int _) .nil)), .tup (SqT.of eA) (.cons (.int _) (.cons (.int _) .nil)), shaped_two _ _, shaped_two _ _, _, rfl, ?_⟩
        rw [eqv_01]
        have e9A := kA _ _ e9
        have k9A := k9.trans kA
        have tk : ((ar m).take (j + 1)).filter (fun u => !decide (gain (fz zs) q r m u = 0)) = ((ar m).take j).filter (fun u => !decide (gain (fz zs) q r m u = 0)) ++ (if (!decide (gain (fz zs) q r m u = 0)) = true then [u] else []) := by
          rw [List.take_add_one, hu', List.filter_append]
          congr 1
          show List.filter _ [u] = _
          rw [List.filter_cons]
          rfl
        cases hd : decide (gain (fz zs) q r m u = 0) with
        | true =>
          refine iteF ⟨k9A, ?_⟩
          rw [tk, hd]
          simp only [Bool.not_true, Bool.false_eq_true, if_false, List.append_nil]
          exact e9A
        | false =>
          refine iteT ⟨.str (tx u), rfl, _, e9A, ?_, same_new nD2 k9A, ?_⟩
          · rw [rowsL_len]
            exact Nat.lt_of_le_of_lt (Nat.le_trans (List.length_filter_le _ _) (List.length_take_le' ..)) (Nat.lt_of_lt_of_le (show (ar m).length < 10000 by omega) (by decide))
          · rw [upd_same, tk, hd]
            unfold rowsL
            rw [List.map_append]
            rfl
      · rintro H9 ⟨k9, e9⟩
        rw [kl, List.take_length] at e9
        have nDg := nn nD2
        have e9' : upd H9 pg (.dK (kvW (ar m) ts)) D2 = some (.lst (rowsL ((ar m).filter fun u => !decide (gain (fz zs) q r m u = 0)))) := by rw [upd_ne nDg]; exact e9
        have k5' := back k9
        refine ⟨k9 _ _ fc, Nat.zero_le _, fun D3 nD3 => ?_⟩
        generalize upd H9 pg (.dK (kvW (ar m) ts)) = HA at e9' k5' nD3
        have kB := same_upd (o := .lst []) nD3
        have eB : upd HA D3 (.lst []) D3 = some (.lst []) := upd_same
        generalize upd HA D3 (.lst []) = HB at kB eB
        refine ⟨_, _, .lst (SqL.of (kB _ _ e9')) (dp_rows _), .lst (SqL.of eB) .nil, shaped_rows _, shaped_zs [], ?_⟩
        rw [eqv_rows0]
        have := fin HB (k5.trans (k5'.trans kB))
        rw [all_filter] at this
        exact this
end
end Hop

set_option Elab.async false
set_option linter.all false
set_option maxRecDepth 100000
set_option exponentiation.threshold 200000
namespace Hop
open PySem L2 HopR HopW
open C8 (InsC call_isC)
theorem draws4 {c z0 z1 z2 z3 : Int} (h : ∀ z ∈ [z0, z1, z2, z3], 0 < z) : ∃ d0 d1 d2 d3 : Int, draws c 0 [z0, z1, z2, z3] = [d0, d1, d2, d3] ∧ (0 ≤ d0 ∧ d0 < z0) ∧ (0 ≤ d1 ∧ d1 < z1) ∧ (0 ≤ d2 ∧ d2 < z2) ∧ (0 ≤ d3 ∧ d3 < z3) := by
  have hl := draws_len [z0, z1, z2, z3] c 0
  match hd : draws c 0 [z0, z1, z2, z3], hl with
  | [d0, d1, d2, d3], _ =>
    have k := draws_ok [z0, z1, z2, z3] c 0 h
    rw [hd] at k
    exact ⟨d0, d1, d2, d3, rfl, k 0 d0 z0 rfl rfl, k 1 d1 z1 rfl rfl, k 2 d2 z2 rfl rfl, k 3 d3 z3 rfl rfl⟩
theorem cutL_to (v : List V) (k : Nat) : cutV v none (some (k : Int)) = v.take k := by
  unfold cutV
  rw [HT.sIx_nat]
  show (v.drop 0).take (min k v.length - 0) = _
  rw [List.drop_zero, Nat.sub_zero]
  by_cases h : k ≤ v.length
  · rw [Nat.min_eq_left h]
  · rw [Nat.min_eq_right (by omega), List.take_of_length_le (Nat.le_refl _), List.take_of_length_le (by omega)]
theorem cutL_from (v : List V) (k : Nat) : cutV v (some (k : Int)) none = v.drop k := by
  have h : ∀ n, cutV v (some (k : Int)) none = (v.drop n).take (v.length - n) → n = min k v.length → cutV v (some (k : Int)) none = v.drop k := fun n e hn => by
    rw [e, List.take_of_length_le (by rw [List.length_drop]; exact Nat.le_refl _), hn]
    by_cases h : k ≤ v.length
    · rw [Nat.min_eq_left h]
    · rw [Nat.min_eq_right (by omega), List.drop_of_length_le (Nat.le_refl _), List.drop_of_length_le (by omega)]
  refine h (min k v.length) ?_ rfl
  unfold cutV
  rw [HT.sIx_nat]
  rfl
theorem no_plus (q : Rat) : (pf q).lookup ("plus" : Str) = none := pf_no q (by decide +kernel) (by decide +kernel)
theorem ixN_here {n j : Nat} (h : j < n) : ixN n (j : Int) = some j := by
  unfold ixN
  rw [if_pos (Int.natCast_nonneg j), if_pos (by omega)]
  rfl
/-- what is no Part -/
structure KpT (K : PySem.W.Frag) (C : Addr) : Prop where
  non : PySem.W.kitOne K (.type "NoneType") (.ref C) = some false
  int : PySem.W.kitOne K (.type "int") (.ref C) = some false
  str : PySem.W.kitOne K (.type "str") (.ref C) = some false
  tuple : PySem.W.kitOne K (.type "tuple") (.ref C) = some false
  bool : PySem.W.kitOne K (.type "bool") (.ref C) = some false
/-! ### a heap without one list -/
def hid (l : Addr) (H : Hp) : Hp := fun c => if c = l then none else H c
theorem hid_upd {l : Addr} {H : Hp} {o : HO} : hid l (upd H l o) = hid l H := by
  funext c
  unfold hid
  by_cases h : c = l
  · rw [if_pos h, if_pos h]
  · rw [if_neg h, if_neg h, upd_ne h]
theorem hid_same {l : Addr} {H H' : Hp} (s : Same H H') : Same (hid l H) (hid l H') := fun c o h => by
  unfold hid at h ⊢
  by_cases e : c = l
  · rw [if_pos e] at h
    cases h
  · rw [if_neg e] at h ⊢
    exact s _ _ h
theorem hid_le {l : Addr} {H : Hp} : Same (hid l H) H := fun c o h => by
  unfold hid at h
  by_cases e : c = l
  · rw [if_pos e] at h
    cases h
  · rw [if_neg e] at h
    exact h
theorem hid_of {l : Addr} {H H' : Hp} (s : Same H H') (h : H l = none) : Same H (hid l H') := fun c o e => by
  unfold hid
  rw [if_neg (fun z => by rw [z, h] at e; cases e)]
  exact s _ _ e
theorem hid_some {l c : Addr} {H : Hp} {o : HO} (h : H c = some o) (n : c ≠ l) : hid l H c = some o := by
  unfold hid
  rw [if_neg n]
  exact h
/-! ### what a bent table is -/
/-- a table of other weights, or no table -/
def ThK (K : PySem.W.Frag) (C : Addr) (m : Nat) (H : Hp) (x : V) : Prop := TbK K C H x (ar m) false ∨ ∃ p zs, x = .ref p ∧ Tz C H p zs ∧ zs.map Prod.fst = ar m ∧ ∀ z ∈ zs, 0 < z.2 ∧ Sz 440 z.2
theorem ThK.same {K : PySem.W.Frag} {C : Addr} {m : Nat} {H H' : Hp} {x : V} (s : Same H H') (h : ThK K C m H x) : ThK K C m H' x := h.imp (TbK.same s) fun ⟨p, zs, e, t, r⟩ => ⟨p, zs, e, t.same s, r⟩
theorem set_cat {α : Type} {l : List α} {i : Nat} {a : α} (h : i < l.length) : l.take i ++ [a] ++ l.drop (i + 1) = l.set i a := by
  rw [List.set_eq_take_append_cons_drop, if_pos h, List.append_assoc]
  rfl
theorem bent_bad {K : PySem.W.Frag} {C p : Addr} {H : Hp} {us : List V} {zs : List (List Bool × Rat)} {rows : List (List Bool)} {i : Nat} {v : V} {z : List Bool × Rat} (ep : H p = some (.lst (us.set i v))) (al : Al (TwI C H) us zs) (hf : zs.map Prod.fst = rows) (hz : ∀ z ∈ zs, 0 < z.2)
    (hi : zs[i]? = some z) (hl : LnB K C H v z.1 false) : TbK K C H (.ref p) rows false := by
  have hlen : rows.length = zs.length := by rw [← hf, List.length_map]
  have hlt := (List.getElem?_eq_some_iff.mp hi).1
  refine .inr (.inr ⟨p, _, (List.replicate rows.length true).set i false, rfl, ep, by rw [List.length_set, al.len, hlen], by rw [List.length_set, List.length_replicate], fun j v' row b' h1 h2 h3 => ?_, (all_not (i := i) ?_).symm⟩)
  · by_cases e : i = j
    · subst e
      rw [List.getElem?_set_self (by rw [List.length_replicate]; omega)] at h3
      rw [List.getElem?_set_self (by rw [al.len]; omega)] at h1
      obtain rfl := Option.some.inj h1
      obtain rfl := Option.some.inj h3
      rw [← hf, List.getElem?_map, hi] at h2
      obtain rfl := Option.some.inj h2
      exact hl
    · rw [List.getElem?_set_ne e] at h1 h3
      obtain ⟨y, hy, t, a, rfl, et, pa⟩ := al.get h1
      have e1 : row = y.1 := by
        rw [← hf, List.getElem?_map, hy] at h2
        exact (Option.some.inj h2).symm
      have e2 : b' = true := List.eq_of_mem_replicate (List.mem_of_getElem? h3)
      refine .inl ⟨t, y.1, a, y.2, rfl, et, pa, ?_⟩
      rw [e1, e2, decide_eq_true rfl, decide_eq_true (hz y (List.mem_of_getElem? hy))]
      rfl
  · rw [List.getElem?_set_self (by rw [List.length_replicate]; omega)]
theorem bent_good {K : PySem.W.Frag} {C p : Addr} {m : Nat} {H : Hp} {us : List V} {zs : List (List Bool × Rat)} {i : Nat} {v : V} {z : List Bool × Rat} {q : Rat} (ep : H p = some (.lst (us.set i v))) (al : Al (TwI C H) us zs) (hf : zs.map Prod.fst = ar m) (hz : ∀ z ∈ zs, 0 < z.2 ∧ Sz 440 z.2)
    (hi : zs[i]? = some z) (hv : TwI C H v (z.1, q)) (h0 : 0 < q) (hq : Sz 440 q) : ThK K C m H (.ref p) := by
  have hlt := (List.getElem?_eq_some_iff.mp hi).1
  refine .inr ⟨p, zs.set i (z.1, q), rfl, ⟨_, ep, ?_⟩, ?_, fun y hy => ?_⟩
  · rw [← set_cat hlt, ← set_cat (by rw [al.len]; exact hlt)]
    exact (Al.snoc (al.take i) hv).app (al.drop (i + 1))
  · rw [List.map_set, ← hf]
    refine List.ext_getElem? fun k => ?_
    rw [List.getElem?_set]
    by_cases e : i = k
    · subst e
      rw [if_pos rfl, if_pos (by rw [List.length_map]; exact hlt), List.getElem?_map, hi]
      rfl
    · rw [if_neg e]
  · rcases List.mem_or_eq_of_mem_set hy with h | rfl
    · exact hz y h
    · exact ⟨h0, hq⟩
/-- tuples in whatever order -/
theorem other_order {K : PySem.W.Frag} {C p : Addr} {m : Nat} {H : Hp} {us : List V} {zs : List (List Bool × Rat)} {i j : Nat} {ui uj : V} {zi zj : List Bool × Rat} (ep : H p = some (.lst ((us.set i uj).set j ui))) (al : Al (TwI C H) us zs) (hf : zs.map Prod.fst = ar m) (once : (ar m).Nodup) (hz : ∀ z ∈ zs, 0 < z.2 ∧ Sz 440 z.2)
    (h1 : us[i]? = some ui) (h2 : us[j]? = some uj) (g1 : zs[i]? = some zi) (g2 : zs[j]? = some zj) : ThK K C m H (.ref p) := by
  have hl := al.len
  have l1 := (List.getElem?_eq_some_iff.mp h1).1
  have l2 := (List.getElem?_eq_some_iff.mp h2).1
  by_cases e : i = j
  · subst e
    obtain rfl : ui = uj := Option.some.inj (h1.symm.trans h2)
    have es : (us.set i ui).set i ui = us := by
      rw [List.set_set]
      refine List.ext_getElem? fun k => ?_
      rw [List.getElem?_set]
      by_cases e : i = k
      · subst e
        rw [if_pos rfl, if_pos l1, h1]
      · rw [if_neg e]
    rw [es] at ep
    exact .inr ⟨p, zs, rfl, ⟨us, ep, al⟩, hf, hz⟩
  · have hlen : (ar m).length = zs.length := by rw [← hf, List.length_map]
    have tj : TwI C H ui zi := al.at_ i _ _ h1 g1
    have ti : TwI C H uj zj := al.at_ j _ _ h2 g2
    have al2 : Al (TwI C H) ((us.set i uj).set j ui) ((zs.set i zj).set j zi) := by
      refine ⟨by rw [List.length_set, List.length_set, List.length_set, List.length_set, hl], fun k v z a b => ?_⟩
      rw [List.getElem?_set] at a b
      by_cases c : j = k
      · subst c
        rw [if_pos rfl, if_pos (by rw [List.length_set]; exact l2)] at a
        rw [if_pos rfl, if_pos (by rw [List.length_set]; omega)] at b
        obtain rfl := Option.some.inj a
        obtain rfl := Option.some.inj b
        exact tj
      · rw [if_neg c] at a b
        rw [List.getElem?_set] at a b
        by_cases c2 : i = k
        · subst c2
          rw [if_pos rfl, if_pos l1] at a
          rw [if_pos rfl, if_pos (by omega)] at b
          obtain rfl := Option.some.inj a
          obtain rfl := Option.some.inj b
          exact ti
        · rw [if_neg c2] at a b
          exact al.at_ k v z a b
    refine .inl (.inr (.inr ⟨p, _, List.zipWith (fun z row => decide (z.1 = row) && decide (0 < z.2)) ((zs.set i zj).set j zi) (ar m), rfl, ep, by rw [al2.len, List.length_set, List.length_set, hlen], by rw [List.length_zipWith, List.length_set, List.length_set, hlen, Nat.min_self], fun k v row b' a1 a2 a3 => ?_, (all_not (i := i) ?_).symm⟩))
    · obtain ⟨z, hz', t, a, rfl, et, pa⟩ := al2.get a1
      rw [List.getElem?_zipWith, hz', a2] at a3
      exact .inl ⟨t, z.1, a, z.2, rfl, et, pa, (Option.some.inj a3).symm⟩
    · have r1 : (ar m)[i]? = some zi.1 := by rw [← hf, List.getElem?_map, g1]; rfl
      have r2 : (ar m)[j]? = some zj.1 := by rw [← hf, List.getElem?_map, g2]; rfl
      have hne : ¬ zj.1 = zi.1 := fun z => e ((List.getElem?_inj (List.getElem?_eq_some_iff.mp r1).1 once).mp (by rw [r1, r2, z]))
      rw [List.getElem?_zipWith, List.getElem?_set_ne (fun z => e z.symm), List.getElem?_set_self (by omega), r1]
      show some (decide (zj.1 = zi.1) && _) = some false
      rw [decide_eq_false hne]
      rfl
section
variable {P : Program} {w : World} {K : PySem.W.Frag} {mg : Str → Option Value} {base : Heap} {C d : Addr} {es : Array DictEntry} {n : Nat}
variable {fi f1 f2 : Addr} {gi g1 g2 : FuncData} {d1 : Value}
variable {fl ft fo fe fp : Addr} {gl gt go ge gp : FuncData}
def spBT (K : PySem.W.Frag) (C : Addr) : Sp := fun vs H Q _ => ∃ (c : Int) (p : Addr) (m : Nat) (zs : List (List Bool × Rat)), vs = [.int c, .ref p] ∧ m < 5 ∧ Tz C H p zs ∧ zs.map Prod.fst = ar m ∧ (∀ z ∈ zs, 0 < z.2 ∧ Sz 400 z.2) ∧ ∀ H' x, Same H H' → ThK K C m H' x → Q x H'
abbrev nBT : List Str := ["_law_cell", "_law_some", "_law_way", "_law_at", "_law_two", "_law_far", "_law_row", "_law_worth", "_law_odd", "_law_more", "_law_menu", "_law_one"]
theorem scBT : FnScope nBT ["_law_cell", "_law_some"] (defScope sBentT) := ⟨rfl, rfl, rfl, by decide +kernel, rfl, by decide +kernel, by decide +kernel⟩
set_option maxHeartbeats 8000000 in
theorem ok_bent {f : Addr} {fd : FuncData} {k : Nat} (F : Fun K "_law_bent_table" "_law_bent_table" sBentT f fd) (Nd : ∃ r s, Fn K mg "_law_drawn" sDrawn ["_law_cell", "_law_sizes"] r s) (N : Mks K mg C fi f1 f2 gi g1 g2 d1) (D : PtDefs K mg C fi f1 f2 gi g1 g2 d1 fl ft fo fe fp gl gt go ge gp) (T : TxtP K mg C) (TT : TxtT mg) (KP : KpT K C) : FnOk P w K mg base CX0 (k + 6) f fd ["_law_cell", "_law_some"] (spBT K C) := by
  obtain ⟨r1, s1, R1⟩ := Nd
  have GI : FnOk P w K mg base CX0 (k + 4) fi gi ["self", "top", "bottom"] (spInit C) := ok_init N.F N.N1 N.N2 T
  have Gd : FnOk P w K mg base CX0 (k + 5) r1 s1 ["_law_cell", "_law_sizes"] (spDrawn K) := ok_drawn R1.F T.len T.range
  have GP : FnOk P w K mg base CX0 (k + 5) fp gp ["self", "other"] (spOp C (fun _ _ => True) (fun q r => q + r)) := ok_plus D.Fp D.M T
  refine F.ok scBT (fun vs H Q E h => ?_) (fun cdv A outer s H vs Q E hr h => ?_)
  · obtain ⟨c, p, m, zs, rfl, _⟩ := h
    rfl
  · obtain ⟨c, p, m, zs, rfl, h5, tz0, hf, hz, fin⟩ := h
    have nd := scBT.nd
    have once := ar_once m h5
    have h8 : m ≤ 8 := by omega
    have hp := pow8 h8
    have hal := ar_len m
    obtain ⟨us, ep0, al0⟩ := id tz0
    have hzl : zs.length = 2 ^ m := by rw [← hal, ← hf, List.length_map]
    have hul : us.length = 2 ^ m := by rw [al0.len, hzl]
    have p1' : 1 ≤ 2 ^ m := Nat.one_le_two_pow
    have hz' : ∀ z ∈ zs, 0 < z.2 ∧ Sz 440 z.2 := fun z h => ⟨(hz z h).1, (hz z h).2.mono (by decide)⟩
    have hz0 : ∀ z ∈ zs, 0 < z.2 := fun z h => (hz z h).1
    have f6 : ∀ {n : Nat}, n ≤ 300 → n ≤ sizeLine := fun h => Nat.le_trans h (by decide)
    obtain ⟨tB, pB, hB⟩ : ∃ tB, PSs (cxOf CX0 P w K mg base nBT "_law_bent_table" (defScope sBentT) f cdv A outer s H E).nox ((defBody sBentT).drop 7) tB ∧
        ∀ (H1 : Hp) (i j : Nat) (way : Int) (t0 b0 : Addr) (zi : List Bool × Rat) (ui uj : V) (y5 y8 y9 y10 y11 : Option V), Same H H1 → 9 ≤ way → way < 19 → us[i]? = some ui → us[j]? = some uj → zs[i]? = some zi → ui = .ref t0 → H t0 = some (.tup [.str (tx zi.1), .ref b0]) → PA C H b0 zi.2 →
        tB { nx := fun _ H' => Q .non H', rt := Q } [some (.int c), some (.ref p), some (.int way), some (wv i), some (wv j), y5, some (.str (tx zi.1)), some (.ref b0), y8, y9, y10, y11] H1 := by
      refine ⟨_, (pss_cons (ps_set (i := 9) nd rfl (.inl rfl) (pe_callTy call_list_of (by rfl) TT.list (by decide +kernel) (pa_cons (pv 1) pa_nil)))
        (pss_cons (ps_asg (pe_tup (pa_cons (pe_ix ix_list (pv 9) (pv 4) (fun _ _ => rfl)) (pa_cons (pe_ix ix_list (pv 9) (pv 3) (fun _ _ => rfl)) pa_nil))) (pg_tup (by rfl) (pgs_cons (pg_sub (pv 9) (pv 3) set_list) (pgs_cons (pg_sub (pv 9) (pv 4) set_list) pgs_nil))))
        (pss_cons (ps_set (i := 10) nd rfl (.inl rfl) (pe_lst (pa_cons (pv 9) (pa_cons (pe_op op_cat (pe_slice sl_list (pv 1) po_none (po_some (pv 3))) (pe_slice sl_list (pv 1) (po_some (pe_op op_add (pv 3) pe_int)) po_none)) (pa_cons (pe_op op_cat (pe_op op_cat (pe_slice sl_list (pv 1) po_none (po_some (pv 3))) (pe_lst (pa_cons (pe_ix ix_list (pv 1) (pv 3) (fun _ _ => rfl)) pa_nil))) (pe_slice sl_list (pv 1) (po_some (pv 3)) po_none)) (pa_cons (pe_callTy call_tuple_of (by rfl) TT.tuple (by decide +kernel) (pa_cons (pv 1) pa_nil)) (pa_cons pe_non pa_nil)))))))
        (pss_cons (ps_for PassesOwn.never rfl (pi_list (pe_lst (pa_cons (pe_lst (pa_cons (pv 6) (pa_cons (pv 7) pa_nil))) (pa_cons (pe_tup (pa_cons (pv 6) (pa_cons (pv 7) (pa_cons pe_int pa_nil)))) (pa_cons (pe_tup (pa_cons (pe_lst (pa_cons (pv 6) pa_nil)) (pa_cons (pv 7) pa_nil))) (pa_cons (pe_tup (pa_cons pe_non (pa_cons (pv 7) pa_nil))) (pa_cons (pe_tup (pa_cons (pe_op op_add_str (pv 6) pe_str) (pa_cons (pv 7) pa_nil))) pa_nil))))))) (pg_name (i := 11) nd rfl (.inl rfl)) (pss_one (ps_expr (pe_bm PySem.F.plainAttrs_list PySem.F.slot_list_append PySem.F.type_list_append mt_append (pv 10) (pa_cons (pe_op op_cat (pe_op op_cat (pe_slice sl_list (pv 1) po_none (po_some (pv 3))) (pe_lst (pa_cons (pv 11) pa_nil))) (pe_slice sl_list (pv 1) (po_some (pe_op op_add (pv 3) pe_int)) po_none)) pa_nil)))))
        (pss_one (ps_ret (pe_ix ix_list (pv 10) (pe_op op_sub (pv 2) pe_int) (fun _ _ => rfl)))))))), fun H1 i j way t0 b0 zi ui uj y5 y8 y9 y10 y11 k1 w9 w19 hui huj hzi eui et0 pb0 => ?_⟩
      subst eui
      have ilt := (List.getElem?_eq_some_iff.mp hui).1
      have jlt := (List.getElem?_eq_some_iff.mp huj).1
      obtain ⟨zj, hzj, tj, aj, rfl, etj, paj⟩ := al0.get huj
      have ltk : (us.take i).length = i := by rw [List.length_take]; omega
      have ldr : (us.drop (i + 1)).length = us.length - (i + 1) := List.length_drop ..
      have ldi : (us.drop i).length = us.length - i := List.length_drop ..
      refine ⟨.ref p, rfl, p, us, rfl, .inl (SqL.of (k1 _ _ ep0)), fun lm nlm => ?_⟩
      have nlm0 : H lm = none := k1.free nlm
      have k2 := same_upd (o := .lst us) nlm
      have em : upd H1 lm (.lst us) lm = some (.lst us) := upd_same
      generalize upd H1 lm (.lst us) = H2 at k2 em
      refine ⟨.ref lm, rfl, wv j, rfl, lm, us, (j : Int), .ref tj, rfl, rfl, SqL.of em, atI_nat huj, .ref lm, rfl, wv i, rfl, lm, us, (i : Int), .ref t0, rfl, rfl, SqL.of em, atI_nat hui, (by show 2 ≤ sizeLine; decide), fun tt ntt => ?_⟩
      have k3 := same_upd (o := .tup [V.ref tj, V.ref t0]) ntt
      have e3 : upd H2 tt (.tup [V.ref tj, V.ref t0]) tt = some (.tup [V.ref tj, V.ref t0]) := upd_same
      generalize upd H2 tt (.tup [V.ref tj, V.ref t0]) = H3 at k3 e3
      have em3 := k3 _ _ em
      refine ⟨tt, _, rfl, SqT.of e3, rfl, _, _, rfl, .ref lm, rfl, wv i, rfl, lm, us, (i : Int), i, rfl, rfl, em3, ixN_here ilt, _, _, rfl, .ref lm, rfl, wv j, rfl, lm, us.set i (.ref tj), (j : Int), j, rfl, rfl, upd_same, ixN_here (by rw [List.length_set]; exact jlt), rfl, ?_⟩
      rw [upd_upd]
      have k4 : Same H (upd H3 lm (.lst ((us.set i (.ref tj)).set j (.ref t0)))) := same_new nlm0 (k1.trans (k2.trans k3))
      have em4 : upd H3 lm (.lst ((us.set i (.ref tj)).set j (.ref t0))) lm = some (.lst ((us.set i (.ref tj)).set j (.ref t0))) := upd_same
      generalize upd H3 lm (.lst ((us.set i (.ref tj)).set j (.ref t0))) = H4 at k4 em4
      have th1 : ThK K C m H4 (.ref lm) := other_order em4 (al0.mono fun _ _ => TwI.same k4) hf once hz' hui huj hzi hzj
      refine ⟨.ref lm, rfl, ?_⟩
      refine ⟨.ref p, rfl, wv i, rfl, (i : Int), rfl, p, us, rfl, SqL.of (k4 _ _ ep0), fun l1 n1 => ?_⟩
      rw [cutL_to]
      have k5 := same_upd (o := .lst (us.take i)) n1
      have e5 : upd H4 l1 (.lst (us.take i)) l1 = some (.lst (us.take i)) := upd_same
      generalize upd H4 l1 (.lst (us.take i)) = H5 at k5 e5
      have k05 := k4.trans k5
      refine ⟨.ref p, rfl, wv i, rfl, _, _, rfl, rfl, _, rfl, p, us, rfl, SqL.of (k05 _ _ ep0), fun l2 n2 => ?_⟩
      rw [show (i : Int) + 1 = ((i + 1 : Nat) : Int) by omega, cutL_from]
      have k6 := same_upd (o := .lst (us.drop (i + 1))) n2
      have e6 : upd H5 l2 (.lst (us.drop (i + 1))) l2 = some (.lst (us.drop (i + 1))) := upd_same
      generalize upd H5 l2 (.lst (us.drop (i + 1))) = H6 at k6 e6
      have k06 := k05.trans k6
      refine ⟨l1, l2, _, _, rfl, rfl, k6 _ _ e5, e6, f6 (by omega), fun l3 n3 => ?_⟩
      have k7 := same_upd (o := .lst (us.take i ++ us.drop (i + 1))) n3
      have e7 : upd H6 l3 (.lst (us.take i ++ us.drop (i + 1))) l3 = some (.lst (us.take i ++ us.drop (i + 1))) := upd_same
      generalize upd H6 l3 (.lst (us.take i ++ us.drop (i + 1))) = H7 at k7 e7
      have k07 := k06.trans k7
      refine ⟨.ref p, rfl, wv i, rfl, (i : Int), rfl, p, us, rfl, SqL.of (k07 _ _ ep0), fun l4 n4 => ?_⟩
      rw [cutL_to]
      have k8 := same_upd (o := .lst (us.take i)) n4
      have e8 : upd H7 l4 (.lst (us.take i)) l4 = some (.lst (us.take i)) := upd_same
      generalize upd H7 l4 (.lst (us.take i)) = H8 at k8 e8
      have k08 := k07.trans k8
      refine ⟨.ref p, rfl, wv i, rfl, p, us, (i : Int), .ref t0, rfl, rfl, SqL.of (k08 _ _ ep0), atI_nat hui, (by show 1 ≤ sizeLine; decide), fun l5 n5 => ?_⟩
      have k9 := same_upd (o := .lst [V.ref t0]) n5
      have e9 : upd H8 l5 (.lst [V.ref t0]) l5 = some (.lst [V.ref t0]) := upd_same
      generalize upd H8 l5 (.lst [V.ref t0]) = H9 at k9 e9
      refine ⟨l4, l5, _, _, rfl, rfl, k9 _ _ e8, e9, f6 (by show (us.take i).length + 1 ≤ 300; omega), fun l6 n6 => ?_⟩
      have kA := same_upd (o := .lst (us.take i ++ [V.ref t0])) n6
      have eA : upd H9 l6 (.lst (us.take i ++ [V.ref t0])) l6 = some (.lst (us.take i ++ [V.ref t0])) := upd_same
      generalize upd H9 l6 (.lst (us.take i ++ [V.ref t0])) = HA at kA eA
      have k0A := k08.trans (k9.trans kA)
      refine ⟨.ref p, rfl, wv i, rfl, (i : Int), rfl, p, us, rfl, SqL.of (k0A _ _ ep0), fun l7 n7 => ?_⟩
      rw [cutL_from]
      have kB := same_upd (o := .lst (us.drop i)) n7
      have eB : upd HA l7 (.lst (us.drop i)) l7 = some (.lst (us.drop i)) := upd_same
      generalize upd HA l7 (.lst (us.drop i)) = HB at kB eB
      have k0B := k0A.trans kB
      refine ⟨l6, l7, _, _, rfl, rfl, kB _ _ eA, eB, f6 (by rw [List.length_append]; show (us.take i).length + 1 + _ ≤ 300; omega), fun l8 n8 => ?_⟩
      have kC := same_upd (o := .lst ((us.take i ++ [V.ref t0]) ++ us.drop i)) n8
      have eC : upd HB l8 (.lst ((us.take i ++ [V.ref t0]) ++ us.drop i)) l8 = some (.lst ((us.take i ++ [V.ref t0]) ++ us.drop i)) := upd_same
      generalize upd HB l8 (.lst ((us.take i ++ [V.ref t0]) ++ us.drop i)) = HC at kC eC
      have k0C := k0B.trans kC
      refine ⟨.ref p, rfl, p, us, rfl, .inl ⟨SqL.of (k0C _ _ ep0), fun l9 n9 => ?_⟩⟩
      have kD := same_upd (o := .tup us) n9
      have eD : upd HC l9 (.tup us) l9 = some (.tup us) := upd_same
      generalize upd HC l9 (.tup us) = HD at kD eD
      have k0D := k0C.trans kD
      refine ⟨(by show 5 ≤ sizeLine; decide), fun lM nM => ?_⟩
      have nM0 : H lM = none := k0D.free nM
      have k7D := k8.trans (k9.trans (kA.trans (kB.trans (kC.trans kD))))
      have k4D := k5.trans (k6.trans (k7.trans k7D))
      have thD : ∀ v ∈ [V.ref lm, V.ref l3, V.ref l8, V.ref l9, V.non], ThK K C m HD v := by
        intro v hv
        simp only [List.mem_cons, List.not_mem_nil, or_false] at hv
        rcases hv with rfl | rfl | rfl | rfl | rfl
        · exact th1.same k4D
        · exact .inl (.inr (.inl ⟨l3, _, rfl, k7D _ _ e7, by rw [List.length_append, hal]; omega, rfl⟩))
        · exact .inl (.inr (.inl ⟨l8, _, rfl, kD _ _ eC, by rw [List.length_append, List.length_append, hal]; show (us.take i).length + 1 + _ ≠ _; omega, rfl⟩))
        · exact .inl (.inl ⟨⟨_, .base (.tup eD), kit_ty (by decide +kernel)⟩, rfl⟩)
        · exact .inl (.inl ⟨⟨_, .base .non, kit_ty (by decide +kernel)⟩, rfl⟩)
      have kE := same_upd (o := .lst [V.ref lm, V.ref l3, V.ref l8, V.ref l9, V.non]) nM
      have eE : upd HD lM (.lst [V.ref lm, V.ref l3, V.ref l8, V.ref l9, V.non]) lM = some (.lst [V.ref lm, V.ref l3, V.ref l8, V.ref l9, V.non]) := upd_same
      generalize upd HD lM (.lst [V.ref lm, V.ref l3, V.ref l8, V.ref l9, V.non]) = HE at kE eE
      have thE : ∀ v ∈ [V.ref lm, V.ref l3, V.ref l8, V.ref l9, V.non], ThK K C m (hid lM HE) v := fun v hv => (thD v hv).same (hid_of kE nM)
      have k0E := k0D.trans kE
      -- the five odd lines
      refine ⟨.str (tx zi.1), rfl, .ref b0, rfl, (by show 2 ≤ sizeLine; decide), fun u1 nu1 => ?_⟩
      have kF := same_upd (o := .lst [V.str (tx zi.1), .ref b0]) nu1
      have eF : upd HE u1 (.lst [V.str (tx zi.1), .ref b0]) u1 = some (.lst [V.str (tx zi.1), .ref b0]) := upd_same
      generalize upd HE u1 (.lst [V.str (tx zi.1), .ref b0]) = HF at kF eF
      refine ⟨.str (tx zi.1), rfl, .ref b0, rfl, (by show 3 ≤ sizeLine; decide), fun u2 nu2 => ?_⟩
      have kG := same_upd (o := .tup [V.str (tx zi.1), .ref b0, .int 0]) nu2
      have eG : upd HF u2 (.tup [V.str (tx zi.1), .ref b0, .int 0]) u2 = some (.tup [V.str (tx zi.1), .ref b0, .int 0]) := upd_same
      generalize upd HF u2 (.tup [V.str (tx zi.1), .ref b0, .int 0]) = HG at kG eG
      refine ⟨.str (tx zi.1), rfl, (by show 1 ≤ sizeLine; decide), fun u3 nu3 => ?_⟩
      have kH := same_upd (o := .lst [V.str (tx zi.1)]) nu3
      have eH : upd HG u3 (.lst [V.str (tx zi.1)]) u3 = some (.lst [V.str (tx zi.1)]) := upd_same
      generalize upd HG u3 (.lst [V.str (tx zi.1)]) = HH at kH eH
      refine ⟨.ref b0, rfl, (by show 2 ≤ sizeLine; decide), fun u4 nu4 => ?_⟩
      have kI := same_upd (o := .tup [V.ref u3, .ref b0]) nu4
      have eI : upd HH u4 (.tup [V.ref u3, .ref b0]) u4 = some (.tup [V.ref u3, .ref b0]) := upd_same
      generalize upd HH u4 (.tup [V.ref u3, .ref b0]) = HI at kI eI
      refine ⟨.ref b0, rfl, (by show 2 ≤ sizeLine; decide), fun u5 nu5 => ?_⟩
      have kJ := same_upd (o := .tup [V.non, .ref b0]) nu5
      have eJ : upd HI u5 (.tup [V.non, .ref b0]) u5 = some (.tup [V.non, .ref b0]) := upd_same
      generalize upd HI u5 (.tup [V.non, .ref b0]) = HJ at kJ eJ
      have hzl1 : zi.1.length = m := ar_word zi.1 (by rw [← hf]; exact List.mem_map.mpr ⟨zi, List.mem_of_getElem? hzi, rfl⟩)
      have ez : tx zi.1 ++ ("." : Str) = tx (zi.1 ++ [false]) := by rw [tx_f, tx_app]
      refine ⟨.str (tx zi.1), rfl, _, _, rfl, rfl, (by rw [tx_f, tx_len, tx_len]; exact f6 (by show zi.1.length + 1 ≤ 300; omega)), .ref b0, rfl, (by show 2 ≤ sizeLine; decide), fun u6 nu6 => ?_⟩
      rw [ez]
      have kK := same_upd (o := .tup [V.str (tx (zi.1 ++ [false])), .ref b0]) nu6
      have eK : upd HJ u6 (.tup [V.str (tx (zi.1 ++ [false])), .ref b0]) u6 = some (.tup [V.str (tx (zi.1 ++ [false])), .ref b0]) := upd_same
      generalize upd HJ u6 (.tup [V.str (tx (zi.1 ++ [false])), .ref b0]) = HK at kK eK
      refine ⟨(by show 5 ≤ sizeLine; decide), fun lF nF => ?_⟩
      have kL := same_upd (o := .lst [V.ref u1, V.ref u2, V.ref u4, V.ref u5, V.ref u6]) nF
      have eL : upd HK lF (.lst [V.ref u1, V.ref u2, V.ref u4, V.ref u5, V.ref u6]) lF = some (.lst [V.ref u1, V.ref u2, V.ref u4, V.ref u5, V.ref u6]) := upd_same
      generalize upd HK lF (.lst [V.ref u1, V.ref u2, V.ref u4, V.ref u5, V.ref u6]) = HL at kL eL
      have kKL := kL
      have kJL := kK.trans kL
      have kIL := kJ.trans kJL
      have kHL := kI.trans kIL
      have kGL := kH.trans kHL
      have kFL := kG.trans kGL
      have kEL := kF.trans kFL
      have k0L := k0E.trans kEL
      have ne : ∀ {X : Hp} {u : Addr}, Same HE X → X u = none → u ≠ lM := fun s h z => by
        rw [z, s _ _ eE] at h
        cases h
      have pbL : PA C (hid lM HL) b0 zi.2 := pb0.same (hid_of k0L nM0)
      have ln5 : ∀ v ∈ [V.ref u1, V.ref u2, V.ref u4, V.ref u5, V.ref u6], LnB K C (hid lM HL) v zi.1 false := by
        intro v hv
        simp only [List.mem_cons, List.not_mem_nil, or_false] at hv
        rcases hv with rfl | rfl | rfl | rfl | rfl
        · exact .inr (.inr (.inl ⟨u1, _, rfl, hid_some (kFL _ _ eF) (ne (Same.refl _) nu1), rfl⟩))
        · exact .inr (.inr (.inr (.inl ⟨u2, _, rfl, hid_some (kGL _ _ eG) (ne kF nu2), by show ¬ (3 = 2); decide, rfl⟩)))
        · exact .inr (.inr (.inr (.inr ⟨u4, _, _, rfl, hid_some (kIL _ _ eI) (ne (kF.trans (kG.trans kH)) nu4), ⟨_, .base (.lst (hid_some (kHL _ _ eH) (ne (kF.trans kG) nu3))), kit_ty (by decide +kernel)⟩, rfl⟩)))
        · exact .inr (.inr (.inr (.inr ⟨u5, _, _, rfl, hid_some (kJL _ _ eJ) (ne (kF.trans (kG.trans (kH.trans kI))) nu5), ⟨_, .base .non, kit_ty (by decide +kernel)⟩, rfl⟩)))
        · refine .inl ⟨u6, zi.1 ++ [false], b0, zi.2, rfl, hid_some (kKL _ _ eK) (ne (kF.trans (kG.trans (kH.trans (kI.trans kJ)))) nu6), pbL, ?_⟩
          rw [decide_eq_false (show ¬ zi.1 ++ [false] = zi.1 by simp)]
          rfl
      have nFM : lF ≠ lM := ne (kF.trans (kG.trans (kH.trans (kI.trans (kJ.trans kK))))) nF
      have eML := kEL _ _ eE
      refine ⟨lF, rfl, ⟨_, SqL.of eL⟩, ?_⟩
      refine for_list (K := K) (a := lF) (xs := [V.ref u1, V.ref u2, V.ref u4, V.ref u5, V.ref u6]) (fun n σ HM => ∃ y11 acc, σ = [some (.int c), some (.ref p), some (.int way), some (wv i), some (wv j), y5, some (.str (tx zi.1)), some (.ref b0), y8, some (.ref lm), some (.ref lM), y11] ∧ Same H HM ∧ (∀ c o, c ≠ lM → HL c = some o → HM c = some o) ∧ HM lM = some (.lst acc) ∧ acc.length = 5 + n ∧ ∀ v ∈ acc, ThK K C m (hid lM HM) v)
        ⟨_, _, rfl, k0L, fun c o _ h => h, eML, rfl, fun v hv => (thE v hv).same (hid_same kEL)⟩ (fun n σ HM _ ⟨_, _, _, _, h, _⟩ => SqL.of (h _ _ nFM eL)) ?_ ?_
      · rintro n v σ HM hv ⟨y11, acc, rfl, kM, but, eM, hlen, all⟩
        have hn : n < 5 := (List.getElem?_eq_some_iff.mp hv).1
        have hL := ln5 v (List.mem_of_getElem? hv)
        refine ⟨.ref lM, rfl, .inl ⟨rfl, _, SqL.of eM⟩, ?_⟩
        refine ⟨.ref p, rfl, wv i, rfl, (i : Int), rfl, p, us, rfl, SqL.of (kM _ _ ep0), fun q1 m1 => ?_⟩
        rw [cutL_to]
        have kN := same_upd (o := .lst (us.take i)) m1
        have eN : upd HM q1 (.lst (us.take i)) q1 = some (.lst (us.take i)) := upd_same
        generalize upd HM q1 (.lst (us.take i)) = HN at kN eN
        have k0N := kM.trans kN
        refine ⟨v, rfl, (by show 1 ≤ sizeLine; decide), fun q2 m2 => ?_⟩
        have kO := same_upd (o := .lst [v]) m2
        have eO : upd HN q2 (.lst [v]) q2 = some (.lst [v]) := upd_same
        generalize upd HN q2 (.lst [v]) = HO at kO eO
        refine ⟨q1, q2, _, _, rfl, rfl, kO _ _ eN, eO, f6 (by show (us.take i).length + 1 ≤ 300; omega), fun q3 m3 => ?_⟩
        have kP := same_upd (o := .lst (us.take i ++ [v])) m3
        have eP : upd HO q3 (.lst (us.take i ++ [v])) q3 = some (.lst (us.take i ++ [v])) := upd_same
        generalize upd HO q3 (.lst (us.take i ++ [v])) = HP at kP eP
        have k0P := k0N.trans (kO.trans kP)
        refine ⟨.ref p, rfl, wv i, rfl, _, _, rfl, rfl, _, rfl, p, us, rfl, SqL.of (k0P _ _ ep0), fun q4 m4 => ?_⟩
        rw [show (i : Int) + 1 = ((i + 1 : Nat) : Int) by omega, cutL_from]
        have kQ := same_upd (o := .lst (us.drop (i + 1))) m4
        have eQ : upd HP q4 (.lst (us.drop (i + 1))) q4 = some (.lst (us.drop (i + 1))) := upd_same
        generalize upd HP q4 (.lst (us.drop (i + 1))) = HQ at kQ eQ
        refine ⟨q3, q4, _, _, rfl, rfl, kQ _ _ eP, eQ, f6 (by rw [List.length_append]; show (us.take i).length + 1 + _ ≤ 300; omega), fun q5 m5 => ?_⟩
        have kR := same_upd (o := .lst ((us.take i ++ [v]) ++ us.drop (i + 1))) m5
        have eR : upd HQ q5 (.lst ((us.take i ++ [v]) ++ us.drop (i + 1))) q5 = some (.lst ((us.take i ++ [v]) ++ us.drop (i + 1))) := upd_same
        generalize upd HQ q5 (.lst ((us.take i ++ [v]) ++ us.drop (i + 1))) = HR at kR eR
        rw [set_cat ilt] at eR
        have kMR := kN.trans (kO.trans (kP.trans (kQ.trans kR)))
        have eMR := kMR _ _ eM
        have k0R := kM.trans kMR
        have nq5 : q5 ≠ lM := fun z => by
          have h := (kN.trans (kO.trans (kP.trans kQ))) _ _ eM
          rw [z, h] at m5
          cases m5
        have hLR : LnB K C (hid lM HR) v zi.1 false := hL.same fun c o h => by
          unfold hid at h ⊢
          by_cases e : c = lM
          · rw [if_pos e] at h
            cases h
          · rw [if_neg e] at h ⊢
            exact kMR _ _ (but c o e h)
        have thn : ThK K C m (hid lM HR) (.ref q5) := .inl (bent_bad (hid_some eR nq5) (al0.mono fun _ _ => TwI.same (hid_of k0R nM0)) hf hz0 hzi hLR)
        refine ⟨lM, _, _, rfl, rfl, eMR, (by rw [hlen]; exact Nat.lt_of_lt_of_le (show 5 + n < 10000 by omega) (by decide)), _, _, rfl, same_new nM0 k0R, fun c o hc h => by rw [upd_ne hc]; exact kMR _ _ (but c o hc h), upd_same, by rw [List.length_append, hlen]; rfl, fun x hx => ?_⟩
        rw [hid_upd]
        rcases List.mem_append.mp hx with h | h
        · exact (all x h).same (hid_same kMR)
        · rw [List.mem_singleton.mp h]
          exact thn
      · rintro σ HM ⟨y11, acc, rfl, kM, but, eM, hlen, all⟩
        obtain ⟨n, hn⟩ : ∃ n : Nat, way = 9 + (n : Int) := ⟨(way - 9).toNat, by omega⟩
        have hlen : acc.length = 10 := hlen
        obtain ⟨v, hv⟩ : ∃ v, acc[n]? = some v := ⟨_, List.getElem?_eq_getElem (by omega)⟩
        refine ⟨.ref lM, rfl, .int way, rfl, _, _, rfl, rfl, lM, acc, (n : Int), v, rfl, (by show V.int (way - 9) = V.int (n : Int); rw [hn]; congr 1; omega), SqL.of eM, atI_nat hv, ?_⟩
        exact fin HM v kM ((all v (List.mem_of_getElem? hv)).same hid_le)
    refine ⟨_, (pss_cons (ps_asg (pe_call Gd hr (by rfl) R1.g R1.F.kp R1.b .nil pass0 (pa_cons (pv 0) (pa_cons (pe_lst (pa_cons pe_int (pa_cons pe_int (pa_cons pe_int (pa_cons (pe_op op_pow pe_int pe_int) pa_nil))))) pa_nil))) (pg_lst (by rfl) (pgs_cons (pg_name (i := 2) nd rfl (.inl rfl)) (pgs_cons (pg_name (i := 3) nd rfl (.inl rfl)) (pgs_cons (pg_name (i := 4) nd rfl (.inl rfl)) (pgs_cons (pg_name (i := 5) nd rfl (.inl rfl)) pgs_nil))))))
        (pss_cons (ps_set (i := 3) nd rfl (.inl rfl) (pe_op op_mod (pv 3) (pe_callB call_len_seq (by rfl) T.len PySem.boot_len (pa_cons (pv 1) pa_nil))))
        (pss_cons (ps_set (i := 4) nd rfl (.inl rfl) (pe_op op_mod (pv 4) (pe_callB call_len_seq (by rfl) T.len PySem.boot_len (pa_cons (pv 1) pa_nil))))
        (pss_cons (ps_asg (pe_ix ix_list (pv 1) (pv 3) (fun _ _ => rfl)) (pg_tup (by rfl) (pgs_cons (pg_name (i := 6) nd rfl (.inl rfl)) (pgs_cons (pg_name (i := 7) nd rfl (.inl rfl)) pgs_nil))))
        (pss_cons (ps_set (i := 8) nd rfl (.inl rfl) (pe_lst (pa_cons (pe_meth (pv 7) T.ins.cl D.mp GP hr D.bp .nil pass0 (pa_cons (pe_make N.M GI hr (by rfl) T.mgC N.b3 .nil pass0 (pa_cons pe_int (pa_cons (pe_op op_add pe_int (pv 5)) pa_nil))) pa_nil)) (pa_cons (pe_ix ix_tup (pe_ix ix_list (pv 1) (pv 4) (fun _ _ => rfl)) pe_int (fun _ _ => rfl)) (pa_cons (pe_make N.M GI hr (by rfl) T.mgC N.b2 (.cons N.r1 .nil) pass0 (pa_cons pe_int pa_nil)) (pa_cons (pe_make N.M GI hr (by rfl) T.mgC N.b2 (.cons N.r1 .nil) pass0 (pa_cons (pe_op op_sub (pe_op op_sub pe_int pe_int) (pv 5)) pa_nil)) (pa_cons pe_non (pa_cons pe_int (pa_cons pe_str pa_nil)))))))))
        (pss_cons (ps_set (i := 8) nd rfl (.inl rfl) (pe_op op_cat (pv 8) (pe_lst (pa_cons (pe_tup (pa_cons (pe_fld (pv 7) rfl) (pa_cons pe_int pa_nil))) (pa_cons pe_bl pa_nil)))))
        (pss_cons (ps_if (pt_cmpR op_lt (pv 2) pe_int (nomark _)) (pss_one (ps_ret (pe_op op_cat (pe_op op_cat (pe_slice sl_list (pv 1) po_none (po_some (pv 3))) (pe_lst (pa_cons (pe_tup (pa_cons (pv 6) (pa_cons (pe_ix ix_list (pv 8) (pv 2) (fun _ _ => rfl)) pa_nil))) pa_nil))) (pe_slice sl_list (pv 1) (po_some (pe_op op_add (pv 3) pe_int)) po_none)))) pss_nil)
        pB))))))), ?_⟩
    refine ⟨.int c, rfl, 10, 9, rfl, rfl, ⟨by decide, by decide, by decide⟩, (by show 4 ≤ sizeLine; decide), fun l1 n1 => ?_⟩
    refine ⟨c, l1, [19, 64, 64, 1000000000], rfl, SqL.of upd_same, ?_, by decide, fun H1 p1 k1 nn1 e1 => ?_⟩
    · intro z hz
      simp only [List.mem_cons, List.not_mem_nil, or_false] at hz
      rcases hz with rfl | rfl | rfl | rfl <;> exact ⟨by decide, by decide⟩
    obtain ⟨d0, dd1, dd2, d3, ed, bb0, bb1, bb2, bb3⟩ := draws4 (c := c) (z0 := 19) (z1 := 64) (z2 := 64) (z3 := 1000000000) (by decide)
    rw [ed] at e1
    have k01 : Same H H1 := (same_upd n1).trans k1
    obtain ⟨u1, rfl⟩ : ∃ u : Nat, dd1 = (u : Int) := ⟨dd1.toNat, by omega⟩
    obtain ⟨u2, rfl⟩ : ∃ u : Nat, dd2 = (u : Int) := ⟨dd2.toNat, by omega⟩
    have li : u1 % us.length < us.length := Nat.mod_lt _ (by omega)
    have lj : u2 % us.length < us.length := Nat.mod_lt _ (by omega)
    have ul0 : (0 : Int) < (us.length : Int) := by omega
    obtain ⟨i, hi⟩ : ∃ i, u1 % us.length = i := ⟨_, rfl⟩
    obtain ⟨j, hj⟩ : ∃ j, u2 % us.length = j := ⟨_, rfl⟩
    have vi : (fun i j => V.int (i % j)) (u1 : Int) (us.length : Int) = wv i := by rw [← hi]; rfl
    have vj : (fun i j => V.int (i % j)) (u2 : Int) (us.length : Int) = wv j := by rw [← hj]; rfl
    rw [hi] at li
    rw [hj] at lj
    obtain ⟨ui, hui⟩ : ∃ ui, us[i]? = some ui := ⟨_, List.getElem?_eq_getElem li⟩
    obtain ⟨uj, huj⟩ : ∃ uj, us[j]? = some uj := ⟨_, List.getElem?_eq_getElem lj⟩
    obtain ⟨zi, hzi, t0, b0, rfl, et0, pb0⟩ := al0.get hui
    obtain ⟨zj, hzj, tj, aj, rfl, etj, paj⟩ := al0.get huj
    refine ⟨p1, _, rfl, SqL.of e1, rfl, _, _, rfl, _, _, rfl, _, _, rfl, _, _, rfl, rfl, ?_⟩
    refine ⟨.int (u1 : Int), rfl, .ref p, rfl, p, us, rfl, .inl (SqL.of (k01 _ _ ep0)), (u1 : Int), (us.length : Int), rfl, rfl, ul0, ?_⟩
    refine ⟨.int (u2 : Int), rfl, .ref p, rfl, p, us, rfl, .inl (SqL.of (k01 _ _ ep0)), (u2 : Int), (us.length : Int), rfl, rfl, ul0, ?_⟩
    rw [vi, vj]
    refine ⟨.ref p, rfl, wv i, rfl, p, us, (i : Int), .ref t0, rfl, rfl, SqL.of (k01 _ _ ep0), atI_nat hui, t0, _, rfl, SqT.of (k01 _ _ et0), rfl, _, _, rfl, _, _, rfl, rfl, ?_⟩
    have pb1 := pb0.same k01
    obtain ⟨dx, eb1⟩ := id pb1
    obtain ⟨hz1, hz2⟩ := hz zi (List.mem_of_getElem? hzi)
    obtain ⟨hj1, hj2⟩ := hz zj (List.mem_of_getElem? hzj)
    refine ⟨.ref b0, rfl, b0, dx, _, rfl, eb1, no_plus _, .int d3, rfl, 1, d3, rfl, rfl, ?_⟩
    intro a8 dx8 np8 hdx8 ep8
    refine ⟨a8, dx8, 1, 1 + d3, rfl, by omega, Nat.lt_of_lt_of_le (show (1 + d3).natAbs < 2 ^ 31 by omega) (Nat.pow_le_pow_right (by decide) (by decide)), upd_same, rfl, ?_⟩
    rw [upd_upd]
    obtain ⟨k2, w8⟩ := mk_facts (C := C) (q := Rat.divInt (1) (1 + d3)) np8 hdx8
    generalize upd (upd H1 dx8 (.own a8)) a8 (.ins C dx8 (pf (Rat.divInt (1) (1 + d3)))) = H2 at k2 w8
    have z8 : Sz 31 (Rat.divInt 1 (1 + d3)) := sz_divInt (by omega) (by decide) (by omega)
    have o8 : 0 < Rat.divInt 1 (1 + d3) := frac_above (by decide) (by omega)
    refine ⟨b0, a8, zi.2, _, rfl, pb1.same k2, w8, hz2.mono (by decide), z8.mono (by decide), trivial, fun H3 c1 k3 n3 pc1 => ?_⟩
    have k03 := k01.trans (k2.trans k3)
    refine ⟨.ref p, rfl, wv j, rfl, p, us, (j : Int), .ref tj, rfl, rfl, SqL.of (k03 _ _ ep0), atI_nat huj, tj, _, 1, .ref aj, rfl, rfl, SqT.of (k03 _ _ etj), rfl, ?_⟩
    intro a2 dx2 np2 hdx2 ep2
    refine ⟨a2, dx2, 0, 1, rfl, by decide, Nat.one_lt_two_pow (by decide), upd_same, rfl, ?_⟩
    rw [upd_upd]
    obtain ⟨k4, w2⟩ := mk_facts (C := C) (q := Rat.divInt (0) (1)) np2 hdx2
    generalize upd (upd H3 dx2 (.own a2)) a2 (.ins C dx2 (pf (Rat.divInt (0) (1)))) = H4 at k4 w2
    refine ⟨0, 1, rfl, rfl, .int d3, rfl, 0 - 1, d3, rfl, rfl, ?_⟩
    intro a3 dx3 np3 hdx3 ep3
    refine ⟨a3, dx3, 0 - 1 - d3, 1, rfl, by decide, Nat.one_lt_two_pow (by decide), upd_same, rfl, ?_⟩
    rw [upd_upd]
    obtain ⟨k5, w3⟩ := mk_facts (C := C) (q := Rat.divInt (0 - 1 - d3) (1)) np3 hdx3
    generalize upd (upd H4 dx3 (.own a3)) a3 (.ins C dx3 (pf (Rat.divInt (0 - 1 - d3) (1)))) = H5 at k5 w3
    refine ⟨(by show 7 ≤ sizeLine; decide), fun l8 n8 => ?_⟩
    have k6 := same_upd (o := .lst [V.ref c1, V.ref aj, V.ref a2, V.ref a3, V.non, V.int 1, V.str "1"]) n8
    have e6 : upd H5 l8 (.lst [V.ref c1, V.ref aj, V.ref a2, V.ref a3, V.non, V.int 1, V.str "1"]) l8 = some (.lst [V.ref c1, V.ref aj, V.ref a2, V.ref a3, V.non, V.int 1, V.str "1"]) := upd_same
    generalize upd H5 l8 (.lst [V.ref c1, V.ref aj, V.ref a2, V.ref a3, V.non, V.int 1, V.str "1"]) = H6 at k6 e6
    have k36 := k4.trans (k5.trans k6)
    have k16 := k2.trans (k3.trans k36)
    refine ⟨.ref l8, rfl, .ref b0, rfl, b0, C, dx, _, _, rfl, k16 _ _ eb1, T.ins.cl, T.nT, pf_top zi.2, (by show 2 ≤ sizeLine; decide), fun tq9 nq9 => ?_⟩
    have k7 := same_upd (o := .tup [V.int zi.2.num, V.int 1]) nq9
    have e7 : upd H6 tq9 (.tup [V.int zi.2.num, V.int 1]) tq9 = some (.tup [V.int zi.2.num, V.int 1]) := upd_same
    generalize upd H6 tq9 (.tup [V.int zi.2.num, V.int 1]) = H7 at k7 e7
    refine ⟨(by show 2 ≤ sizeLine; decide), fun l9 n9 => ?_⟩
    have k8 := same_upd (o := .lst [V.ref tq9, V.bl true]) n9
    have e8 : upd H7 l9 (.lst [V.ref tq9, V.bl true]) l9 = some (.lst [V.ref tq9, V.bl true]) := upd_same
    generalize upd H7 l9 (.lst [V.ref tq9, V.bl true]) = H8 at k8 e8
    refine ⟨l8, l9, _, _, rfl, rfl, (k7.trans k8) _ _ e6, e8, (by show 7 + 2 ≤ sizeLine; decide), fun lo no => ?_⟩
    have k9 := same_upd (o := .lst ([V.ref c1, V.ref aj, V.ref a2, V.ref a3, V.non, V.int 1, V.str "1"] ++ [V.ref tq9, V.bl true])) no
    have e9 : upd H8 lo (.lst ([V.ref c1, V.ref aj, V.ref a2, V.ref a3, V.non, V.int 1, V.str "1"] ++ [V.ref tq9, V.bl true])) lo = some (.lst ([V.ref c1, V.ref aj, V.ref a2, V.ref a3, V.non, V.int 1, V.str "1"] ++ [V.ref tq9, V.bl true])) := upd_same
    generalize upd H8 lo (.lst ([V.ref c1, V.ref aj, V.ref a2, V.ref a3, V.non, V.int 1, V.str "1"] ++ [V.ref tq9, V.bl true])) = H9 at k9 e9
    have k79 := k8.trans k9
    have k69 := k7.trans k79
    have k19 := k16.trans k69
    have k09 := k01.trans k19
    have k39 := k36.trans k69
    refine ⟨.int d0, rfl, _, _, rfl, rfl, _, rfl, ite2 (fun e => ?_) (fun e => ?_)⟩
    · have e : d0 < 9 := of_decide_eq_true e
      have odd : ∃ v, atI ([V.ref c1, V.ref aj, V.ref a2, V.ref a3, V.non, V.int 1, V.str "1"] ++ [V.ref tq9, V.bl true]) d0 = some v ∧ ((∃ cc q, v = .ref cc ∧ PA C H9 cc q ∧ Sz 440 q) ∨ NoP K C H9 v) := by
        obtain ⟨n, rfl⟩ : ∃ n : Nat, d0 = (n : Int) := ⟨d0.toNat, by omega⟩
        match n, (show n < 9 by omega) with
        | 0, _ => exact ⟨_, rfl, .inl ⟨c1, _, rfl, PA.same k39 pc1, (sz_add hz2 z8).mono (by decide)⟩⟩
        | 1, _ => exact ⟨_, rfl, .inl ⟨aj, _, rfl, paj.same k09, hj2.mono (by decide)⟩⟩
        | 2, _ => exact ⟨_, rfl, .inl ⟨a2, _, rfl, w2.same (k5.trans (k6.trans k69)), ⟨by decide +kernel, by decide +kernel⟩⟩⟩
        | 3, _ => exact ⟨_, rfl, .inl ⟨a3, _, rfl, w3.same (k6.trans k69), (sz_divInt (n := 31) (by decide) (show (0 - 1 - d3).natAbs < 2 ^ 31 by omega) (by decide)).mono (by decide)⟩⟩
        | 4, _ => exact ⟨_, rfl, .inr ⟨_, .base .non, KP.non⟩⟩
        | 5, _ => exact ⟨_, rfl, .inr ⟨_, .base (.int _), KP.int⟩⟩
        | 6, _ => exact ⟨_, rfl, .inr ⟨_, .base (.str _), KP.str⟩⟩
        | 7, _ => exact ⟨_, rfl, .inr ⟨_, .base (.tup (k79 _ _ e7)), KP.tuple⟩⟩
        | 8, _ => exact ⟨_, rfl, .inr ⟨_, .base (.bl _), KP.bool⟩⟩
      obtain ⟨v, hat, hv⟩ := odd
      refine ⟨.ref p, rfl, wv i, rfl, (i : Int), rfl, p, us, rfl, SqL.of (k09 _ _ ep0), fun q1 m1 => ?_⟩
      rw [cutL_to]
      have kN := same_upd (o := .lst (us.take i)) m1
      have eN : upd H9 q1 (.lst (us.take i)) q1 = some (.lst (us.take i)) := upd_same
      generalize upd H9 q1 (.lst (us.take i)) = HN at kN eN
      have k0N := k09.trans kN
      refine ⟨.str (tx zi.1), rfl, .ref lo, rfl, .int d0, rfl, lo, _, d0, v, rfl, rfl, SqL.of (kN _ _ e9), hat, (by show 2 ≤ sizeLine; decide), fun tt ntt => ?_⟩
      have kT := same_upd (o := .tup [V.str (tx zi.1), v]) ntt
      have eT : upd HN tt (.tup [V.str (tx zi.1), v]) tt = some (.tup [V.str (tx zi.1), v]) := upd_same
      generalize upd HN tt (.tup [V.str (tx zi.1), v]) = HT at kT eT
      refine ⟨(by show 1 ≤ sizeLine; decide), fun q2 m2 => ?_⟩
      have kO := same_upd (o := .lst [V.ref tt]) m2
      have eO : upd HT q2 (.lst [V.ref tt]) q2 = some (.lst [V.ref tt]) := upd_same
      generalize upd HT q2 (.lst [V.ref tt]) = HO at kO eO
      have ltk : (us.take i).length = i := by rw [List.length_take]; omega
      have ldr : (us.drop (i + 1)).length = us.length - (i + 1) := List.length_drop ..
      refine ⟨q1, q2, _, _, rfl, rfl, (kT.trans kO) _ _ eN, eO, f6 (by show (us.take i).length + 1 ≤ 300; omega), fun q3 m3 => ?_⟩
      have kP := same_upd (o := .lst (us.take i ++ [V.ref tt])) m3
      have eP : upd HO q3 (.lst (us.take i ++ [V.ref tt])) q3 = some (.lst (us.take i ++ [V.ref tt])) := upd_same
      generalize upd HO q3 (.lst (us.take i ++ [V.ref tt])) = HP at kP eP
      have kTP := kO.trans kP
      have k0P := k0N.trans (kT.trans kTP)
      refine ⟨.ref p, rfl, wv i, rfl, _, _, rfl, rfl, _, rfl, p, us, rfl, SqL.of (k0P _ _ ep0), fun q4 m4 => ?_⟩
      rw [show (i : Int) + 1 = ((i + 1 : Nat) : Int) by omega, cutL_from]
      have kQ := same_upd (o := .lst (us.drop (i + 1))) m4
      have eQ : upd HP q4 (.lst (us.drop (i + 1))) q4 = some (.lst (us.drop (i + 1))) := upd_same
      generalize upd HP q4 (.lst (us.drop (i + 1))) = HQ at kQ eQ
      refine ⟨q3, q4, _, _, rfl, rfl, kQ _ _ eP, eQ, f6 (by rw [List.length_append]; show (us.take i).length + 1 + _ ≤ 300; omega), fun q5 m5 => ?_⟩
      have kR := same_upd (o := .lst ((us.take i ++ [V.ref tt]) ++ us.drop (i + 1))) m5
      have eR : upd HQ q5 (.lst ((us.take i ++ [V.ref tt]) ++ us.drop (i + 1))) q5 = some (.lst ((us.take i ++ [V.ref tt]) ++ us.drop (i + 1))) := upd_same
      generalize upd HQ q5 (.lst ((us.take i ++ [V.ref tt]) ++ us.drop (i + 1))) = HR at kR eR
      rw [set_cat li] at eR
      have kTR := kTP.trans (kQ.trans kR)
      have k0R := k0N.trans (kT.trans kTR)
      have k9R := kN.trans (kT.trans kTR)
      have eTR := kTR _ _ eT
      have alR := al0.mono fun _ _ => TwI.same k0R
      refine fin HR (.ref q5) k0R ?_
      rcases hv with ⟨cc, q, rfl, pc, zc⟩ | nv
      · have pcR := pc.same k9R
        by_cases h0 : 0 < q
        · exact bent_good (q := q) eR alR hf hz' hzi ⟨tt, cc, rfl, eTR, pcR⟩ h0 zc
        · exact .inl (bent_bad eR alR hf hz0 hzi (.inl ⟨tt, zi.1, cc, q, rfl, eTR, pcR, by rw [decide_eq_true rfl, decide_eq_false h0]; rfl⟩))
      · exact .inl (bent_bad eR alR hf hz0 hzi (.inr (.inl ⟨tt, zi.1, v, rfl, eTR, nv.same k9R, rfl⟩)))
    · have e : ¬ d0 < 9 := fun z => e (decide_eq_true z)
      exact hB _ _ _ _ _ _ _ _ _ _ _ _ _ _ k09 (by omega) (by omega) hui huj hzi rfl et0 pb0
end
end Hop

set_option Elab.async false
set_option linter.all false
set_option maxRecDepth 100000
set_option exponentiation.threshold 200000
namespace Hop
open PySem L2 HopR HopW
open C8 (InsC call_isC)
theorem weight_sz4 {q r : Rat} (pq : 0 < q) (pr : 0 < r) (hq : Sz 45 q) (hr : Sz 45 r) {bs : List Bool} (h : bs.length ≤ 4) : Sz 391 (wt q⁻¹ r⁻¹ bs) := by
  have hs := tbl_small (w := bs) (by omega)
  have hl : (eT 0 (HopW.tbl bs)).length ≤ 1600 := by
    have : ∀ {T : List (List Nat)} (f : Nat), (∀ l ∈ T, l.length ≤ 40) → (eT f T).length ≤ 40 * T.length := fun {T} => by
      induction T with
      | nil => exact fun _ _ => Nat.zero_le _
      | cons l t ih =>
        intro f hl
        have e1 : ∀ (l : List Nat) (b : Nat), (eL f b l).length ≤ l.length := fun l => by
          induction l with
          | nil => exact fun _ => Nat.zero_le _
          | cons m l ih =>
            intro b
            have := ih (b + 1)
            unfold eL
            split <;> simp <;> omega
        have h1 := e1 l 0
        have h2 := hl l (List.mem_cons_self ..)
        have h3 := ih (f + 1) (fun x m => hl x (List.mem_cons_of_mem _ m))
        show (eL f 0 l ++ eT (f + 1) t).length ≤ _
        rw [List.length_append, List.length_cons, Nat.mul_succ]
        omega
    have := this 0 hs.2
    have := hs.1
    omega
  rw [← weight_is pq pr (by omega)]
  have c1 := List.count_le_length (a := false) (l := bs)
  have c2 := List.count_le_length (a := true) (l := bs)
  refine sz_divInt (Int.mul_ne_zero (Int.pow_ne_zero (num_ne pq)) (Int.pow_ne_zero (num_ne pr))) ?_ ?_
  · refine Nat.lt_of_le_of_lt (sI_le8 hq hr (fun e he => end_of (by omega) he)) ?_
    refine Nat.lt_of_le_of_lt (Nat.mul_le_mul hl (Nat.pow_le_pow_right (n := 2) (by decide) (show 200 + 45 * bs.length ≤ 380 by omega))) ?_
    decide
  · rw [Int.natAbs_mul]
    refine Nat.lt_of_le_of_lt (Nat.mul_le_mul (pow_le hq.1 _) (pow_le hr.1 _)) ?_
    rw [← Nat.pow_add]
    have hc := cnt2 bs
    exact Nat.pow_lt_pow_right (by decide) (by omega)
def mul (s : Rat) (zs : List (List Bool × Rat)) : List (List Bool × Rat) := zs.map fun z => (z.1, z.2 * s)
theorem wipe_get (σ : St) : ∀ (vs : List Nat) (j : Nat), (wipe σ vs)[j]? = if j ∈ vs then σ[j]?.map (fun _ => none) else σ[j]?
  | [], j => by simp [wipe]
  | v :: vs, j => by
    show ((wipe σ vs).set v none)[j]? = _
    rw [List.getElem?_set, wipe_length, wipe_get σ vs j]
    by_cases e : v = j
    · subst e
      rw [if_pos rfl, if_pos List.mem_cons_self]
      by_cases h : v < σ.length
      · rw [if_pos h, List.getElem?_eq_getElem h]
        rfl
      · rw [if_neg h, List.getElem?_eq_none (by omega)]
        rfl
    · rw [if_neg e]
      by_cases h : j ∈ vs
      · rw [if_pos h, if_pos (List.mem_cons_of_mem _ h)]
      · rw [if_neg h, if_neg]
        intro z
        rcases List.mem_cons.mp z with z | z
        · exact e z.symm
        · exact h z
theorem wipe_set {σ : St} {i : Nat} {x : Option V} {vs : List Nat} (h : i ∈ vs) : wipe (σ.set i x) vs = wipe σ vs := by
  refine List.ext_getElem? fun j => ?_
  rw [wipe_get, wipe_get, List.getElem?_set]
  by_cases e : i = j
  · subst e
    rw [if_pos h, if_pos h, if_pos rfl]
    by_cases l : i < σ.length
    · rw [if_pos l, List.getElem?_eq_getElem l]
      rfl
    · rw [if_neg l, List.getElem?_eq_none (by omega)]
  · rw [if_neg e]
theorem wipe_wipe {σ : St} {vs : List Nat} : wipe (wipe σ vs) vs = wipe σ vs := by
  refine List.ext_getElem? fun j => ?_
  rw [wipe_get, wipe_get]
  by_cases h : j ∈ vs
  · rw [if_pos h, if_pos h]
    cases σ[j]? <;> rfl
  · rw [if_neg h, if_neg h]
theorem bet_yes (s : Rat) (ts : List Rat) : bet s (ts.map (· * s)) ts = some s := by
  unfold bet
  rw [if_pos]
  induction ts with
  | nil => rfl
  | cons t ts ih =>
    show (decide (t * s = t * s) && (fitB s (ts.map (· * s)) ts).all id) = true
    rw [decide_eq_true rfl, ih]
    rfl
theorem mul_div {x s : Rat} (h : 0 < x) : x * s / x = s := by
  have := ne_above h
  rw [Rat.div_def, Rat.mul_comm x s, Rat.mul_assoc, Rat.mul_inv_cancel x this, Rat.mul_one]
theorem tts_mul {q r : Rat} {m : Nat} (s : Rat) (h : ∀ x ∈ wsl q r m, 0 < x) : tts q r m ((wsl q r m).map (· * s)) = some s := by
  have hl : (wsl q r m).length = 2 ^ m := by unfold wsl; rw [List.length_map, tz_len]
  have p1 : 1 ≤ 2 ^ m := Nat.one_le_two_pow
  unfold tts
  generalize wsl q r m = ts at hl h
  match ts, hl with
  | [], z => exact absurd z (by rw [List.length_nil]; omega)
  | t0 :: ts, _ =>
    show bet (t0 * s / t0) _ _ = _
    rw [mul_div (h t0 List.mem_cons_self)]
    exact bet_yes s (t0 :: ts)
theorem mul_fst (s : Rat) (zs : List (List Bool × Rat)) : (mul s zs).map Prod.fst = zs.map Prod.fst := by
  unfold mul
  rw [List.map_map]
  rfl
theorem no_over (q : Rat) : (pf q).lookup ("over" : Str) = none := pf_no q (by decide +kernel) (by decide +kernel)
theorem wipe_two {σ : St} {i j : Nat} {x y : Option V} {vs : List Nat} (hi : i ∈ vs) (hj : j ∈ vs) : wipe (((wipe σ vs).set i x).set j y) vs = wipe σ vs := by rw [wipe_set hj, wipe_set hi, wipe_wipe]
def forBody (s : Stmt) : List Stmt := match s with
  | .For _ _ b _ _ => b
  | _ => []
theorem bet_is {c d : Rat} {fs ts : List Rat} (h : bet c fs ts = some d) : d = c ∧ ∀ (i : Nat) (f t : Rat), fs[i]? = some f → ts[i]? = some t → f = t * c := by
  unfold bet at h
  by_cases e : (fitB c fs ts).all id = true
  · rw [if_pos e] at h
    refine ⟨(Option.some.inj h).symm, fun i f t h1 h2 => ?_⟩
    rw [List.all_eq_true] at e
    exact of_decide_eq_true (e (decide (f = t * c)) (List.mem_of_getElem? (i := i) (by unfold fitB; rw [List.getElem?_zipWith, h1, h2])))
  · rw [if_neg e] at h
    cases h
theorem tz_pos4 {q r : Rat} (hq : 0 < q) (hr : 0 < r) (zq : Sz 45 q) (zr : Sz 45 r) {m : Nat} (h5 : m < 5) : ∀ z ∈ tz q r m, 0 < z.2 ∧ Sz 391 z.2 := fun z hz => by
  unfold tz at hz
  obtain ⟨v, hv, rfl⟩ := List.mem_map.mp hz
  exact ⟨wt_above (Rat.inv_pos.mpr hq) (Rat.inv_pos.mpr hr) v, weight_sz4 hq hr zq zr (by rw [ar_word v hv]; omega)⟩
/-- by how much: where no row gains, and there alone -/
theorem still_is {q r : Rat} (hq : 0 < q) (hr : 0 < r) {m : Nat} (h1 : 1 ≤ m) (h5 : m < 5) {zs : List (List Bool × Rat)} (hf : zs.map Prod.fst = ar m) :
    tts q r m (zs.map Prod.snd) = if (ar m).all (fun u => decide (gain (fz zs) q r m u = 0)) = true then some ((zs.map Prod.snd).headD 0 / (wsl q r m).headD 0) else none := by
  have once := ar_once m h5
  have wp : ∀ x ∈ wsl q r m, 0 < x := fun x hx => by
    obtain ⟨z, m1, rfl⟩ := List.mem_map.mp hx
    unfold tz at m1
    obtain ⟨v, _, rfl⟩ := List.mem_map.mp m1
    exact wt_above (Rat.inv_pos.mpr hq) (Rat.inv_pos.mpr hr) v
  have wat : ∀ (i : Nat) (v : List Bool), (ar m)[i]? = some v → (wsl q r m)[i]? = some (wt q⁻¹ r⁻¹ v) := fun i v h => by
    unfold wsl tz
    rw [List.getElem?_map, List.getElem?_map, h]
    rfl
  have zat : ∀ (i : Nat) (z : List Bool × Rat), zs[i]? = some z → (ar m)[i]? = some z.1 ∧ fz zs z.1 = z.2 := fun i z h => ⟨by rw [← hf, List.getElem?_map, h]; rfl, fz_at (by rw [hf]; exact once) h⟩
  have hl : zs.length = (ar m).length := by rw [← hf, List.length_map]
  have hwl : (wsl q r m).length = (ar m).length := by unfold wsl tz; rw [List.length_map, List.length_map]
  by_cases hb : (ar m).all (fun u => decide (gain (fz zs) q r m u = 0)) = true
  · rw [if_pos hb]
    rw [List.all_eq_true] at hb
    obtain ⟨c, hc⟩ := only_multiples (f := fz zs) hq hr h1 h5 fun u hu => of_decide_eq_true (hb u hu)
    have es : zs.map Prod.snd = (wsl q r m).map (· * c) := by
      refine List.ext_getElem? fun i => ?_
      rw [List.getElem?_map, List.getElem?_map]
      cases hz : zs[i]? with
      | none =>
        have := List.getElem?_eq_none_iff.mp hz
        rw [List.getElem?_eq_none (by omega)]
        rfl
      | some z =>
        obtain ⟨h2, h3⟩ := zat i z hz
        rw [wat i _ h2]
        have := hc z.1 (List.mem_of_getElem? h2)
        show some z.2 = some (wt q⁻¹ r⁻¹ z.1 * c)
        rw [← h3, this, Rat.mul_comm]
    have h := tts_mul (q := q) (r := r) (m := m) c wp
    rw [← es] at h
    rw [h]
    exact congrArg some (bet_is h).1
  · rw [if_neg hb]
    cases ht : tts q r m (zs.map Prod.snd) with
    | none => rfl
    | some d =>
      refine absurd ?_ hb
      obtain ⟨_, hd⟩ := bet_is ht
      rw [List.all_eq_true]
      intro u hu
      refine decide_eq_true ?_
      generalize (zs.map Prod.snd).headD 0 / (wsl q r m).headD 0 = c at hd
      have nq : q ≠ 0 := fun e => by rw [e] at hq; exact absurd hq (by decide)
      have nr : r ≠ 0 := fun e => by rw [e] at hr; exact absurd hr (by decide)
      have t0 := told_still nq nr h1 h5 (u := u) hu
      have e1 : gain (fun v => fz zs v - c * wt q⁻¹ r⁻¹ v) q r m u = gain (fun v => wt q⁻¹ r⁻¹ v - 1 * wt q⁻¹ r⁻¹ v) q r m u := gain_congr (fun v hv => by
        obtain ⟨i, hi⟩ := List.mem_iff_getElem?.mp (show v ∈ ar m from hv)
        obtain ⟨z, hz⟩ : ∃ z, zs[i]? = some z := ⟨_, List.getElem?_eq_getElem (by have := (List.getElem?_eq_some_iff.mp hi).1; omega)⟩
        obtain ⟨h2, h3⟩ := zat i z hz
        have e : v = z.1 := Option.some.inj (hi.symm.trans h2)
        have := hd i z.2 (wt q⁻¹ r⁻¹ z.1) (by rw [List.getElem?_map, hz]; rfl) (wat i _ h2)
        rw [e, h3, this]
        grind) u
      rw [gain_lin, gain_lin, t0] at e1
      grind
theorem fn_or {P : Program} {w : World} {K : PySem.W.Frag} {mg : Str → Option Value} {base : Heap} {CX : CXT} {k : Nat} {f : Addr} {fd : FuncData} {ps : List Str} {sp sp' : Sp} (F : FnOk P w K mg base CX k f fd ps sp) (G : FnOk P w K mg base CX k f fd ps sp') : FnOk P w K mg base CX k f fd ps (fun vs H Q E => sp vs H Q E ∨ sp' vs H Q E) :=
  ⟨fun vs H Q E q => q.elim (F.len _ _ _ _) (G.len _ _ _ _), fun A outer s H args us vs Q E hr he hb hv hs => hs.elim (F.run A outer s H args us vs Q E hr he hb hv) (G.run A outer s H args us vs Q E hr he hb hv)⟩
theorem Pt.pos {H : Hp} {v : V} {q : Rat} (h : Pt H v q) : 0 < q := by
  rcases h with ⟨_, rfl⟩ | ⟨_, _, _, p, _⟩
  · decide
  · exact p
structure Df (K : PySem.W.Frag) (mg : Str → Option Value) (C fi f1 f2 fw fb fl ft fo fe fp fs fx : Addr) (gi g1 g2 gw gb gl gt go ge gp gs gx : FuncData) (d1 dA dB dD dE : Value) : Prop where
  X : TtDefs K mg C fi f1 f2 fw fb fl ft fo fe fp gi g1 g2 gw gb gl gt go ge gp d1 dA dB
  Fs : FunD K "is_still" "is_still" (defArgs sStill) (defBody sStill) (defScope sStill) [.non, .non] [] fs gs
  bs : Binds K gs ["many", "thing", "inn", "out"] []
  ks : mg "is_still" = some (.ref fs)
  Ft : FunD K "times_told" "times_told" (defArgs sTimesTold) (defBody sTimesTold) (defScope sTimesTold) [.non, .non] [] fx gx
  bt : Binds K gx ["many", "thing", "inn", "out"] []
  kt : mg "times_told" = some (.ref fx)
  bb1 : Binds K gb ["many", "inn", "out"] [dD, dE]
  r1 : RelV .non dD
  r2 : RelV .non dE
  S : LsDefs K mg
  dr : ∃ r s, Fn K mg "_law_drawn" sDrawn ["_law_cell", "_law_sizes"] r s
  lp : ∃ r s, Fn K mg "_law_part" sLPart ["_law_pace"] r s
  sm : ∃ r s, Fn K mg "_law_small_pace" sLSmall ["_law_cell"] r s
  ow : ∃ r s, Fn K mg "_law_own" sLOwn ["_law_pace"] r s
  ls : ∃ r s, Fn K mg "_law_is_still" sLIsStill ["_law_many", "_law_thing", "_law_paces"] r s
  bn : ∃ r s, Fn K mg "_law_bent_table" sBentT ["_law_cell", "_law_some"] r s
  KP : KpT K C
abbrev nLaw : List Str := ["_law_script", "_law_cells", "_law_cell", "_law_many", "_law_inn", "_law_out", "_law_paces", "_law_told", "_law_share", "_law_more", "_law_thing", "_law_due", "_law_found", "_law_times_here", "_law_row", "_law_worth"]
theorem scLaw : FnScope nLaw ["_law_script"] (defScope sLaw) := ⟨rfl, rfl, rfl, by decide +kernel, rfl, by decide +kernel, by decide +kernel⟩
def spLaw (K : PySem.W.Frag) : Sp := fun vs H Q _ => ∃ (a : Addr) (ns : List Int), vs = [.ref a] ∧ SqL K H a (ns.map V.int) ∧ ns.length ≤ 63 ∧ ∀ H', Q (.bl true) H'
section
variable {P : Program} {w : World} {K : PySem.W.Frag} {mg : Str → Option Value} {base : Heap} {C d : Addr} {es : Array DictEntry} {n : Nat}
variable {fi f1 f2 : Addr} {gi g1 g2 : FuncData} {d1 : Value} {fw : Addr} {gw : FuncData} {dA dB dD dE : Value}
variable {fl ft fo fe fp : Addr} {gl gt go ge gp : FuncData} {fb fs fx : Addr} {gb gs gx : FuncData}
theorem ne_parts {H : Hp} {a b : Addr} {q r : Rat} {Q : VK} {E : XK} {neg : Bool} (ha : PA C H a q) (hb : PA C H b r) (h : Q (.bl (decide (q = r) ^^ neg)) H) : rOwn C (spPEq C) E neg (.ref a) (.ref b) H Q := by
  obtain ⟨dx, ea⟩ := ha
  obtain ⟨dy, eb⟩ := hb
  exact ⟨a, b, dx, dy, _, _, rfl, rfl, ea, eb, a, b, q, r, rfl, ⟨dx, ea⟩, ⟨dy, eb⟩, _, rfl, h⟩
set_option maxHeartbeats 16000000 in
theorem ok_law {f : Addr} {fd : FuncData} (F : Fun K "law" "law" sLaw f fd) (N : Df K mg C fi f1 f2 fw fb fl ft fo fe fp fs fx gi g1 g2 gw gb gl gt go ge gp gs gx d1 dA dB dD dE) (T : TxtP K mg C) (TR : TxtR K w mg d es n) (T0 : TxtL mg) (TT : TxtT mg) : FnOk P w K mg base CX0 11 f fd ["_law_script"] (spLaw K) := by
  obtain ⟨r1, s1, R1⟩ := N.dr
  obtain ⟨r2, s2, R2⟩ := N.lp
  obtain ⟨r3, s3, R3⟩ := N.sm
  obtain ⟨r4, s4, R4⟩ := N.ow
  obtain ⟨r5, s5, R5⟩ := N.ls
  obtain ⟨r6, s6, R6⟩ := N.bn
  have GI : FnOk P w K mg base CX0 9 fi gi ["self", "top", "bottom"] (spInit C) := ok_init N.X.D.M.F N.X.D.M.N1 N.X.D.M.N2 T
  have Gd : FnOk P w K mg base CX0 10 r1 s1 ["_law_cell", "_law_sizes"] (spDrawn K) := ok_drawn R1.F T.len T.range
  have Gp : FnOk P w K mg base CX0 10 r2 s2 ["_law_pace"] (spLPart C) := ok_lpart R2.F N.X.D.M T
  have Gm : FnOk P w K mg base CX0 10 r3 s3 ["_law_cell"] spSmall := ok_lsmall R3.F N.dr N.S.lo T
  have Go : FnOk P w K mg base CX0 10 r4 s4 ["_law_pace"] spOwn := ok_lown R4.F T
  have Gl : FnOk P w K mg base CX0 10 r5 s5 ["_law_many", "_law_thing", "_law_paces"] (spLS K C) := ok_lstill R5.F N.S T TT
  have Gb : FnOk P w K mg base CX0 10 r6 s6 ["_law_cell", "_law_some"] (spBT K C) := ok_bent R6.F N.dr N.X.D.M N.X.D T TT N.KP
  have GB : FnOk P w K mg base CX0 10 fb gb ["many", "inn", "out"] (spTable C) := ok_table N.X.Fb N.X.B T TR T0
  have GX : FnOk P w K mg base CX0 10 fx gx ["many", "thing", "inn", "out"] (fun vs H Q E => spTT C vs H Q E ∨ spTTN K C vs H Q E) := fn_or (ok_timestold N.Ft N.X T TR T0 TT) (ok_toldN N.Ft N.X T TR T0 TT)
  have GS : FnOk P w K mg base CX0 10 fs gs ["many", "thing", "inn", "out"] (fun vs H Q E => spStill C vs H Q E ∨ spStillN K C vs H Q E) := fn_or (ok_still N.Fs N.Ft N.bt N.kt N.X T TR T0 TT) (ok_stillN N.Fs N.Ft N.bt N.kt N.X T TR T0 TT)
  have GT : FnOk P w K mg base CX0 10 ft gt ["self", "other"] (spOp C (fun _ _ => True) (fun q r => q * r)) := ok_times N.X.D.Ft N.X.D.M N.X.D.Nl T
  have GO : FnOk P w K mg base CX0 10 fo go ["self", "other"] (spOp C (fun _ r => r ≠ 0) (fun q r => q / r)) := ok_over N.X.D.Fo N.X.D.M N.X.D.Nl N.X.D.Ft N.X.D.bt N.X.D.mt T
  have GE : FnOk P w K mg base CX0 9 fe ge ["self", "other"] (spPEq C) := ok_eq N.X.D.Fe T
  refine F.ok scLaw (fun vs H Q E h => ?_) (fun cdv A outer s H vs Q E hr h => ?_)
  · obtain ⟨a, ns, rfl, _⟩ := h
    rfl
  · obtain ⟨a, ns, rfl, hS, hlen, qq⟩ := h
    have nd := scLaw.nd
    have hu := hu66 hr
    have hu64 : (A.deeper (PyProof.Rows.envOfC "law" (defScope sLaw) s.heap.objs.size f cdv)).units + 64 < cLine := by omega
    obtain ⟨tB, pB, hB⟩ : ∃ tB, PSs (cxOf CX0 P w K mg base nLaw "law" (defScope sLaw) f cdv A outer s H E).nox ((forBody ((defBody sLaw).getD 2 (.Pass ⟨0, 0, 0, 0⟩))).drop 6) tB ∧
        ∀ (D : Ends) (HS : Hp) (p1 tp pa pb pt ps : Addr) (c : Int) (m' : Nat) (vi vo : V) (q r s : Rat) (y9 y10 y11 y12 y13 y14 y15 : Option V), 1 + m' < 5 → Pt HS vi q → Pt HS vo r → HS tp = some (.tup [.ref pa, .ref pb]) → HS pa = some (.tup (tq q)) → HS pb = some (.tup (tq r)) → Tz C HS pt (tz q r (1 + m')) → PA C HS ps s → 0 < s → Sz 4 s →
        (∀ σ H2 y2 y3 y4 y5 y6 y7 y8 y9 y10 y11 y12 y13 y14 y15, σ = [some (.ref a), some (.ref p1), y2, y3, y4, y5, y6, y7, y8, y9, y10, y11, y12, y13, y14, y15] → Same HS H2 → D.nx σ H2) →
        tB D [some (.ref a), some (.ref p1), some (.int c), some (wv (1 + m')), some vi, some vo, some (.ref tp), some (.ref pt), some (.ref ps), y9, y10, y11, y12, y13, y14, y15] HS := by
      refine ⟨_, (pss_cons (ps_setLc (i := 9) (own := [("_law_row", 14), ("_law_worth", 15)]) (g := gTup K 2 (gCons (gName 14) (gCons (gName 15) gNil))) (tt := tYes) (by rfl) nd rfl rfl (sw_true rfl rfl rfl (by decide +kernel)) (pi_list (pv 7))
        (blkOk_by (own := [("_law_row", 14), ("_law_worth", 15)]) (N := nLaw) (sc := defScope sLaw) (by decide +kernel)) (fun _ _ _ _ _ => pg_tup (by rfl) (pgs_cons (pg_name (i := 14) nd rfl (.inl rfl)) (pgs_cons (pg_name (i := 15) nd rfl (.inl rfl)) pgs_nil))) (fun _ _ _ _ _ => pts_nil) (fun _ _ _ _ _ => pe_tup (pa_cons (pv 14) (pa_cons (pe_meth (pv 15) T.ins.cl N.X.D.mt GT hr N.X.D.bt .nil pass0 (pa_cons (pv 8) pa_nil)) pa_nil))))
        (pss_one (ps_for PassesOwn.never rfl (pi_list (pe_lst (pa_cons (pv 9) (pa_cons (pe_call Gb hr (by rfl) R6.g R6.F.kp R6.b .nil pass0 (pa_cons (pe_op op_fdiv (pv 2) pe_int) (pa_cons (pv 9) pa_nil))) (pa_cons (pe_call Gb hr (by rfl) R6.g R6.F.kp R6.b .nil pass0 (pa_cons (pe_op op_fdiv (pv 2) pe_int) (pa_cons (pv 7) pa_nil))) (pa_cons (pe_call GB hr (by rfl) N.X.kb N.X.Fb.kp N.bb1 (.cons N.r1 (.cons N.r2 .nil)) pass0 (pa_cons (pv 3) pa_nil)) pa_nil)))))) (pg_name (i := 10) nd rfl (.inl rfl)) (pss_cons (ps_set (i := 11) nd rfl (.inl rfl) (pe_call Gl hr (by rfl) R5.g R5.F.kp R5.b .nil pass0 (pa_cons (pv 3) (pa_cons (pv 10) (pa_cons (pv 6) pa_nil)))))
          (pss_cons (ps_set (i := 12) nd rfl (.inl rfl) (pe_call GS hr (by rfl) N.ks N.Fs.kp N.bs .nil pass0 (pa_cons (pv 3) (pa_cons (pv 10) (pa_cons (pe_call Gp hr (by rfl) R2.g R2.F.kp R2.b .nil pass0 (pa_cons (pv 4) pa_nil)) (pa_cons (pe_call Gp hr (by rfl) R2.g R2.F.kp R2.b .nil pass0 (pa_cons (pv 5) pa_nil)) pa_nil))))))
          (pss_cons (ps_if (PW.pt (pw_or (pt_not (pt_val (pe_callB call_isi (by rfl) T.isi (by decide +kernel) (pa_cons (pv 12) (pa_cons (pe_bltn (v := .ty "bool") (by rfl) T.bool (by decide +kernel) rfl) pa_nil))))) (pw_or1 (pt_cmpR op_ne (pv 12) (pv 11) (nomark _))))) (pss_one (ps_ret pe_bl)) pss_nil)
          (pss_cons (ps_set (i := 13) nd rfl (.inl rfl) (pe_call GX hr (by rfl) N.kt N.Ft.kp N.bt .nil pass0 (pa_cons (pv 3) (pa_cons (pv 10) (pa_cons (pe_call Gp hr (by rfl) R2.g R2.F.kp R2.b .nil pass0 (pa_cons (pv 4) pa_nil)) (pa_cons (pe_call Gp hr (by rfl) R2.g R2.F.kp R2.b .nil pass0 (pa_cons (pv 5) pa_nil)) pa_nil))))))
          (pss_cons (ps_if (PW.pt (pw_and (pt_val (pv 11)) (pw_and1 (pt_cmpR (op_neOwn N.X.D.ec GE hr N.X.D.be pass0) (pv 13) (pe_meth (pe_ix ix_tup (pe_ix ix_list (pv 10) pe_int (fun _ _ => rfl)) pe_int (fun _ _ => rfl)) T.ins.cl N.X.D.mo GO hr N.X.D.bo .nil pass0 (pa_cons (pe_ix ix_tup (pe_ix ix_list (pv 7) pe_int (fun _ _ => rfl)) pe_int (fun _ _ => rfl)) pa_nil)) (nomark _))))) (pss_one (ps_ret pe_bl)) pss_nil)
          (pss_one (ps_if (PW.pt (pw_and (pt_not (pt_val (pv 11))) (pw_and1 (pt_cmpR op_notN (pv 13) pe_non (nomark _))))) (pss_one (ps_ret pe_bl)) pss_nil)))))))))), fun D HS p1 tp pa pb pt ps c m' vi vo q r s y9 y10 y11 y12 y13 y14 y15 h5 hvi hvo etp epa epb ht pps s0 zs nx => ?_⟩
      have zi := hvi.sz
      have zo := hvo.sz
      have q0 := hvi.pos
      have r0 := hvo.pos
      have hwz := tz_pos4 q0 r0 (zi.mono (by decide)) (zo.mono (by decide)) h5
      have hp := pow8 (show 1 + m' ≤ 8 by omega)
      have p1' : 1 ≤ 2 ^ (1 + m') := Nat.one_le_two_pow
      obtain ⟨us, eu, au⟩ := id ht
      have hul : us.length = 2 ^ (1 + m') := by rw [au.len, tz_len]
      refine ⟨.ref pt, rfl, pt, rfl, ⟨_, SqL.of eu⟩, fun D2 hD2 => ?_⟩
      refine lc_list (K := K) (a := pt) (xs := us) (fun i H3 => Same HS H3 ∧ ∃ acc, H3 D2 = some (.lst acc) ∧ Al (TwI C H3) acc ((mul s (tz q r (1 + m'))).take i)) ⟨same_upd hD2, [], upd_same, .nil⟩ (fun i H3 _ h => SqL.of (h.1 _ _ eu)) ?_ ?_
      · rintro i v H3 hv ⟨k3, acc, e3, a3⟩
        obtain ⟨z, hz', t, b, rfl, ett, pb⟩ := au.get hv
        have pb3 := pb.same k3
        obtain ⟨dx, eb⟩ := id pb3
        obtain ⟨hw1, hw2⟩ := hwz z (List.mem_of_getElem? hz')
        refine ⟨t, _, rfl, SqT.of (k3 _ _ ett), rfl, _, _, rfl, _, _, rfl, rfl, wipe_two (by decide) (by decide), .str (tx z.1), rfl, .ref b, rfl, b, dx, _, rfl, eb, no_times z.2, .ref ps, rfl, ?_⟩
        refine ⟨b, ps, z.2, s, rfl, pb3, pps.same k3, hw2.mono (by decide), zs.mono (by decide), trivial, fun H5 c5 k5 n5 p5 => ⟨(by show 2 ≤ sizeLine; decide), fun u nu => ?_⟩⟩
        have su := same_upd (o := .tup [.str (tx z.1), .ref c5]) nu
        have eu' : upd H5 u (.tup [.str (tx z.1), .ref c5]) u = some (.tup [.str (tx z.1), .ref c5]) := upd_same
        have p6 := PA.same su p5
        generalize upd H5 u (.tup [.str (tx z.1), .ref c5]) = H6 at su eu' p6
        have k36 := k5.trans su
        have e6 := k36 _ _ e3
        refine ⟨acc, e6, ?_, same_new hD2 (k3.trans k36), acc ++ [.ref u], upd_same, ?_⟩
        · rw [a3.len]
          exact fit' (Nat.le_trans (List.length_take_le _ _) (by have := (List.getElem?_eq_some_iff.mp hv).1; omega))
        · have hm1 : (mul s (tz q r (1 + m')))[i]? = some (z.1, z.2 * s) := by
            unfold mul
            rw [List.getElem?_map, hz']
            rfl
          rw [List.take_add_one, hm1]
          exact ((a3.mono fun _ _ => TwI.same k36).mono fun _ _ => TwI.upd e6).snoc (TwI.upd e6 ⟨u, c5, rfl, eu', p6⟩)
      rintro H3 ⟨k3, acc, e3, a3⟩
      rw [hul, List.take_of_length_le (by unfold mul; rw [List.length_map, tz_len]; exact Nat.le_refl _)] at a3
      have tM : Tz C H3 D2 (mul s (tz q r (1 + m'))) := ⟨acc, e3, a3⟩
      have fM : (mul s (tz q r (1 + m'))).map Prod.fst = ar (1 + m') := by rw [mul_fst, tz_fst]
      have gM : ∀ z ∈ mul s (tz q r (1 + m')), 0 < z.2 ∧ Sz 400 z.2 := fun z hz => by
        obtain ⟨y, m1, rfl⟩ := List.mem_map.mp hz
        obtain ⟨h1, h2⟩ := hwz y m1
        exact ⟨Rat.mul_pos h1 s0, (sz_mul h2 zs).mono (by decide)⟩
      have gT : ∀ z ∈ tz q r (1 + m'), 0 < z.2 ∧ Sz 400 z.2 := fun z hz => ⟨(hwz z hz).1, (hwz z hz).2.mono (by decide)⟩
      refine ⟨.ref D2, rfl, ?_⟩
      refine ⟨.int c, rfl, c, 13, rfl, rfl, ⟨by decide, by decide⟩, .ref D2, rfl, c / 13, D2, 1 + m', _, rfl, h5, tM, fM, gM, fun H4 x2 k4 th2 => ?_⟩
      have k34 := k3.trans k4
      refine ⟨.int c, rfl, c, 17, rfl, rfl, ⟨by decide, by decide⟩, .ref pt, rfl, c / 17, pt, 1 + m', _, rfl, h5, ht.same k34, tz_fst _ _ _, gT, fun H5 x3 k5 th3 => ?_⟩
      refine ⟨wv (1 + m'), rfl, 1 + m', .non, .non, 1, 1, rfl, by omega, by omega, .inl ⟨rfl, rfl⟩, .inl ⟨rfl, rfl⟩, fun H6 p4 k6 n6 t6 => ?_⟩
      have z1 : Sz 45 (1 : Rat) := ⟨by decide, by decide⟩
      have hw1 := tz_pos4 (q := 1) (r := 1) (by decide) (by decide) z1 z1 h5
      refine ⟨(by show 4 ≤ sizeLine; decide), fun l nl => ?_⟩
      have k7 := same_upd (o := .lst [V.ref D2, x2, x3, V.ref p4]) nl
      have el : upd H6 l (.lst [V.ref D2, x2, x3, V.ref p4]) l = some (.lst [V.ref D2, x2, x3, V.ref p4]) := upd_same
      generalize upd H6 l (.lst [V.ref D2, x2, x3, V.ref p4]) = H7 at k7 el
      have k57 := k6.trans k7
      have k07 := k34.trans (k5.trans k57)
      have all : ∀ v ∈ [V.ref D2, x2, x3, V.ref p4], ThK K C (1 + m') H7 v := by
        intro v hv
        simp only [List.mem_cons, List.not_mem_nil, or_false] at hv
        rcases hv with rfl | rfl | rfl | rfl
        · exact .inr ⟨D2, _, rfl, tM.same (k4.trans (k5.trans k57)), fM, fun z hz => ⟨(gM z hz).1, (gM z hz).2.mono (by decide)⟩⟩
        · exact th2.same (k5.trans k57)
        · exact th3.same k57
        · exact .inr ⟨p4, _, rfl, t6.same k7, tz_fst _ _ _, fun z hz => ⟨(hw1 z hz).1, (hw1 z hz).2.mono (by decide)⟩⟩
      refine ⟨l, rfl, ⟨_, SqL.of el⟩, ?_⟩
      refine for_list (K := K) (a := l) (xs := [V.ref D2, x2, x3, V.ref p4]) (fun j σ H8 => ∃ y10 y11 y12 y13, σ = [some (.ref a), some (.ref p1), some (.int c), some (wv (1 + m')), some vi, some vo, some (.ref tp), some (.ref pt), some (.ref ps), some (.ref D2), y10, y11, y12, y13, y14, y15] ∧ Same H7 H8) ⟨_, _, _, _, rfl, Same.refl _⟩ (fun j σ H8 _ ⟨_, _, _, _, _, h⟩ => SqL.of (h _ _ el)) ?_ ?_
      · rintro j x σ H8 hx ⟨y10, y11, y12, y13, rfl, k8⟩
        have th := (all x (List.mem_of_getElem? hx)).same k8
        have k08 := k07.trans k8
        have hvi8 := hvi.same k08
        have hvo8 := hvo.same k08
        have isb : ∀ b : Bool, TyX K H8 (.bl b) (.type "bool") := fun b => .base (.bl _)
        rcases th with tb | ⟨p, zs', rfl, tz', hf, hz⟩
        · refine ⟨wv (1 + m'), rfl, x, rfl, .ref tp, rfl, 1 + m', x, tp, pa, pb, q, r, rfl, by omega, h5, k08 _ _ etp, k08 _ _ epa, k08 _ _ epb, q0, r0, zi, zo, .inl ⟨tb, fun H9 k9 => ?_⟩⟩
          refine ⟨wv (1 + m'), rfl, x, rfl, vi, rfl, vi, q, rfl, hvi8.same k9, fun HA x1 kA hx1 => ⟨vo, rfl, vo, r, rfl, hvo8.same (k9.trans kA), fun HB y1 kB hy1 => .inr ⟨1 + m', x, x1, y1, q, r, rfl, by omega, by omega, hx1.same kB, hy1, tb.same (k9.trans (kA.trans kB)), fun HC kC => ?_⟩⟩⟩
          have k8C := k9.trans (kA.trans (kB.trans kC))
          refine ⟨.bl false, rfl, .bl false, .ty "bool", .type "bool", .type "bool", true, rfl, .ty _, .base (.bl _), kit_ty (by decide +kernel), true, rfl, iteF ?_⟩
          refine ⟨.bl false, rfl, .bl false, rfl, rfl, _, rfl, iteF ?_⟩
          refine ⟨wv (1 + m'), rfl, x, rfl, vi, rfl, vi, q, rfl, hvi8.same k8C, fun HD x5 kD hx5 => ⟨vo, rfl, vo, r, rfl, hvo8.same (k8C.trans kD), fun HE y5 kE hy5 => .inr ⟨1 + m', x, x5, y5, q, r, rfl, by omega, by omega, hx5.same kE, hy5, tb.same (k8C.trans (kD.trans kE)), fun HF kF => ?_⟩⟩⟩
          have k8F := k8C.trans (kD.trans (kE.trans kF))
          refine ⟨.bl false, rfl, false, rfl, iteF (iteF ?_)⟩
          exact ⟨.bl false, rfl, false, rfl, iteT ⟨.non, rfl, rfl, _, rfl, iteF ⟨_, _, _, _, rfl, k8.trans k8F⟩⟩⟩
        · have hz4 : ∀ z ∈ zs', 0 < z.2 ∧ Sz 1400 z.2 := fun z h => ⟨(hz z h).1, (hz z h).2.mono (by decide)⟩
          have st := still_is q0 r0 (show 1 ≤ 1 + m' by omega) h5 hf
          refine ⟨wv (1 + m'), rfl, .ref p, rfl, .ref tp, rfl, 1 + m', .ref p, tp, pa, pb, q, r, rfl, by omega, h5, k08 _ _ etp, k08 _ _ epa, k08 _ _ epb, q0, r0, zi, zo, .inr ⟨p, zs', rfl, tz', hf, hz, fun H9 k9 => ?_⟩⟩
          generalize (ar (1 + m')).all (fun u => decide (gain (fz zs') q r (1 + m') u = 0)) = due at st
          refine ⟨wv (1 + m'), rfl, .ref p, rfl, vi, rfl, vi, q, rfl, hvi8.same k9, fun HA x1 kA hx1 => ⟨vo, rfl, vo, r, rfl, hvo8.same (k9.trans kA), fun HB y1 kB hy1 => .inl ⟨1 + m', p, x1, y1, q, r, zs', rfl, by omega, by omega, hx1.same kB, hy1, tz'.same (k9.trans (kA.trans kB)), hf, hz4, fun HC kC => ?_⟩⟩⟩
          have k8C := k9.trans (kA.trans (kB.trans kC))
          rw [st]
          have eis : (if due = true then some ((zs'.map Prod.snd).headD 0 / (wsl q r (1 + m')).headD 0) else none).isSome = due := by cases due <;> rfl
          rw [eis]
          refine ⟨.bl due, rfl, .bl due, .ty "bool", .type "bool", .type "bool", true, rfl, .ty _, .base (.bl _), kit_ty (by decide +kernel), true, rfl, iteF ?_⟩
          refine ⟨.bl due, rfl, .bl due, rfl, (by cases due <;> rfl), _, rfl, ?_⟩
          rw [decide_eq_true rfl]
          refine iteF ?_
          refine ⟨wv (1 + m'), rfl, .ref p, rfl, vi, rfl, vi, q, rfl, hvi8.same k8C, fun HD x5 kD hx5 => ⟨vo, rfl, vo, r, rfl, hvo8.same (k8C.trans kD), fun HE y5 kE hy5 => .inl ⟨1 + m', p, x5, y5, q, r, zs', rfl, by omega, by omega, hx5.same kE, hy5, tz'.same (k8C.trans (kD.trans kE)), hf, hz4, fun HF v kF ho => ?_⟩⟩⟩
          have k8F := k8C.trans (kD.trans (kE.trans kF))
          have k0F := k08.trans k8F
          rw [st] at ho
          cases due with
          | false =>
            cases ho
            refine ⟨.bl false, rfl, false, rfl, iteF (iteF ?_)⟩
            exact ⟨.bl false, rfl, false, rfl, iteT ⟨.non, rfl, rfl, _, rfl, iteF ⟨_, _, _, _, rfl, k8.trans k8F⟩⟩⟩
          | true =>
            obtain ⟨pv, rfl, ppv⟩ := ho
            obtain ⟨vs, ev, av⟩ := id (tz'.same k8F)
            have hzl : zs'.length = 2 ^ (1 + m') := by rw [← ar_len, ← hf, List.length_map]
            obtain ⟨zf, hzf⟩ : ∃ z, zs'[0]? = some z := ⟨_, List.getElem?_eq_getElem (by omega)⟩
            obtain ⟨wf, hwf⟩ : ∃ z, (tz q r (1 + m'))[0]? = some z := ⟨_, List.getElem?_eq_getElem (by rw [tz_len]; omega)⟩
            obtain ⟨vf, hvf, tf, af, rfl, etf, paf⟩ := av.getz hzf
            obtain ⟨uf, huf, tg, ag, rfl, etg, pag⟩ := au.getz hwf
            obtain ⟨dxf, eaf⟩ := id paf
            have e1 : (zs'.map Prod.snd).headD 0 = zf.2 := by
              cases zs' with
              | nil => simp at hzf
              | cons z zs' =>
                obtain rfl := Option.some.inj hzf
                rfl
            have e2 : (wsl q r (1 + m')).headD 0 = wf.2 := by
              unfold wsl
              cases hh : tz q r (1 + m') with
              | nil => rw [hh] at hwf; simp at hwf
              | cons z zz =>
                rw [hh] at hwf
                obtain rfl := Option.some.inj hwf
                rfl
            rw [e1, e2] at ppv
            have hwf1 := hwz wf (List.mem_of_getElem? hwf)
            refine ⟨.bl true, rfl, true, rfl, iteT ⟨.ref pv, rfl, .ref p, rfl, p, vs, 0, .ref tf, rfl, rfl, SqL.of ev, atI_nat (j := 0) hvf, tf, _, 1, .ref af, rfl, rfl, SqT.of etf, rfl, af, dxf, _, rfl, eaf, no_over _, .ref pt, rfl, pt, us, 0, .ref tg, rfl, rfl, SqL.of (k0F _ _ eu), atI_nat (j := 0) huf, tg, _, 1, .ref ag, rfl, rfl, SqT.of (k0F _ _ etg), rfl, ?_⟩⟩
            refine ⟨af, ag, zf.2, wf.2, rfl, paf, pag.same k0F, (hz zf (List.mem_of_getElem? hzf)).2.mono (by decide), hwf1.2.mono (by decide), ne_above hwf1.1, fun HG pq kG nG pG => ?_⟩
            refine ne_parts (ppv.same kG) pG ?_
            rw [decide_eq_true rfl]
            exact ⟨_, rfl, iteF ⟨.bl true, rfl, true, rfl, iteF (iteF ⟨_, _, _, _, rfl, k8.trans (k8F.trans kG)⟩)⟩⟩
      · rintro σ H8 ⟨y10, y11, y12, y13, rfl, k8⟩
        exact nx _ _ _ _ _ _ _ _ _ _ _ _ _ _ _ _ rfl (k07.trans k8)
    obtain ⟨tL, pL, hL⟩ : ∃ tL, PSs (cxOf CX0 P w K mg base nLaw "law" (defScope sLaw) f cdv A outer s H E).nox ((defBody sLaw).drop 2) tL ∧
        ∀ (H1 : Hp) (p1 : Addr) (zs : List Int), H1 p1 = some (.lst (zs.map V.int)) → tL { nx := fun _ H' => Q .non H', rt := Q } [some (.ref a), some (.ref p1), none, none, none, none, none, none, none, none, none, none, none, none, none, none] H1 := by
      refine ⟨_, pss_cons (ps_for PassesOwn.never rfl (pi_list (pv 1)) (pg_name (i := 2) nd rfl (.inl rfl))
          (pss_cons (ps_set (i := 3) nd rfl (.inl rfl) (pe_op op_add pe_int (pe_ix ix_list (pe_call Gd hr (by rfl) R1.g R1.F.kp R1.b .nil pass0 (pa_cons (pe_op op_fdiv (pv 2) pe_int) (pa_cons (pe_lst (pa_cons pe_int pa_nil)) pa_nil))) pe_int (fun _ _ => rfl))))
        (pss_cons (ps_set (i := 4) nd rfl (.inl rfl) (pe_call Gm hr (by rfl) R3.g R3.F.kp R3.b .nil pass0 (pa_cons (pe_op op_fdiv (pv 2) pe_int) pa_nil)))
        (pss_cons (ps_set (i := 5) nd rfl (.inl rfl) (pe_call Gm hr (by rfl) R3.g R3.F.kp R3.b .nil pass0 (pa_cons (pe_op op_fdiv (pv 2) pe_int) pa_nil)))
        (pss_cons (ps_set (i := 6) nd rfl (.inl rfl) (pe_tup (pa_cons (pe_call Go hr (by rfl) R4.g R4.F.kp R4.b .nil pass0 (pa_cons (pv 4) pa_nil)) (pa_cons (pe_call Go hr (by rfl) R4.g R4.F.kp R4.b .nil pass0 (pa_cons (pv 5) pa_nil)) pa_nil))))
        (pss_cons (ps_set (i := 7) nd rfl (.inl rfl) (pe_call GB hr (by rfl) N.X.kb N.X.Fb.kp N.X.bb .nil pass0 (pa_cons (pv 3) (pa_cons (pe_call Gp hr (by rfl) R2.g R2.F.kp R2.b .nil pass0 (pa_cons (pv 4) pa_nil)) (pa_cons (pe_call Gp hr (by rfl) R2.g R2.F.kp R2.b .nil pass0 (pa_cons (pv 5) pa_nil)) pa_nil)))))
        (pss_cons (ps_set (i := 8) nd rfl (.inr rfl) (pe_make N.X.D.M.M GI hr (by rfl) T.mgC N.X.D.M.b3 .nil pass0 (pa_cons (pe_op op_add pe_int (pe_op op_mod (pv 2) pe_int)) (pa_cons (pe_op op_add pe_int (pe_op op_mod (pe_op op_fdiv (pv 2) pe_int) pe_int)) pa_nil))))
        pB)))))))
        (pss_one (ps_ret pe_bl)), fun H1 p1 zs e1 => ?_⟩
      refine ⟨.ref p1, rfl, p1, rfl, ⟨_, SqL.of e1⟩, ?_⟩
      refine for_list (K := K) (a := p1) (xs := zs.map V.int) (fun i σ H2 => ∃ y2 y3 y4 y5 y6 y7 y8 y9 y10 y11 y12 y13 y14 y15, σ = [some (.ref a), some (.ref p1), y2, y3, y4, y5, y6, y7, y8, y9, y10, y11, y12, y13, y14, y15] ∧ Same H1 H2) ⟨_, _, _, _, _, _, _, _, _, _, _, _, _, _, rfl, Same.refl _⟩ (fun i σ H2 _ ⟨_, _, _, _, _, _, _, _, _, _, _, _, _, _, _, h⟩ => SqL.of (h _ _ e1)) ?_ ?_
      · rintro i v σ H2 hv ⟨y2, y3, y4, y5, y6, y7, y8, y9, y10, y11, y12, y13, y14, y15, rfl, s2⟩
        rw [List.getElem?_map] at hv
        obtain ⟨c, _, rfl⟩ := Option.map_eq_some_iff.mp hv
        refine ⟨.int c, rfl, c, 11, rfl, rfl, ⟨by decide, by decide⟩, (by show 1 ≤ sizeLine; decide), fun l2 n2 => ?_⟩
        refine ⟨c / 11, l2, [4], rfl, SqL.of upd_same, ?_, by decide, fun H5 p5 k5 n5 e5 => ?_⟩
        · intro z hz
          obtain rfl := List.mem_singleton.mp hz
          exact ⟨by decide, by decide⟩
        obtain ⟨d0, ed, hd0⟩ := draws1 (c := c / 11) (z0 := 4) (by decide)
        rw [ed] at e5
        have k25 : Same H2 H5 := (same_upd n2).trans k5
        refine ⟨p5, _, 0, .int d0, rfl, rfl, SqL.of e5, rfl, 1, d0, rfl, rfl, ?_⟩
        obtain ⟨m', rfl⟩ : ∃ m' : Nat, d0 = (m' : Int) := ⟨d0.toNat, by omega⟩
        have hm : 1 + m' < 5 := by omega
        refine ⟨.int c, rfl, c, 3, rfl, rfl, ⟨by decide, by decide⟩, c / 3, rfl, fun H6 vi q k6 hvi => ?_⟩
        refine ⟨.int c, rfl, c, 5, rfl, rfl, ⟨by decide, by decide⟩, c / 5, rfl, fun H7 vo r k7 hvo => ?_⟩
        have hvi := hvi.same k7
        refine ⟨vi, rfl, vi, q, rfl, hvi, fun H8 pa k8 ea => ⟨vo, rfl, vo, r, rfl, hvo.same k8, fun H9 pb k9 eb => ⟨(by show 2 ≤ sizeLine; decide), fun tp ntp => ?_⟩⟩⟩
        have kA := same_upd (o := .tup [V.ref pa, .ref pb]) ntp
        have etp : upd H9 tp (.tup [V.ref pa, .ref pb]) tp = some (.tup [.ref pa, .ref pb]) := upd_same
        generalize upd H9 tp (.tup [V.ref pa, .ref pb]) = HA at kA etp
        have k7A := k8.trans (k9.trans kA)
        refine ⟨wv (1 + m'), rfl, vi, rfl, vi, q, rfl, hvi.same k7A, fun HB x kB hx => ⟨vo, rfl, vo, r, rfl, hvo.same (k7A.trans kB), fun HC y kC hy => ?_⟩⟩
        refine ⟨1 + m', x, y, q, r, rfl, by omega, by omega, hx.same kC, hy, fun HD pt kD nD tD => ?_⟩
        have kAD := kB.trans (kC.trans kD)
        have c1 := Int.emod_nonneg c (show (7 : Int) ≠ 0 by decide)
        have c2 := Int.emod_lt_of_pos c (show (0 : Int) < 7 by decide)
        have c3 := Int.emod_nonneg (c / 7) (show (7 : Int) ≠ 0 by decide)
        have c4 := Int.emod_lt_of_pos (c / 7) (show (0 : Int) < 7 by decide)
        refine ⟨.int c, rfl, c, 7, rfl, rfl, (show (0 : Int) < 7 by decide), 1, c % 7, rfl, rfl, .int c, rfl, c, 7, rfl, rfl, ⟨by decide, by decide⟩, c / 7, 7, rfl, rfl, (show (0 : Int) < 7 by decide), 1, c / 7 % 7, rfl, rfl, ?_⟩
        intro ps dxp npp hdxp epp
        refine ⟨ps, dxp, 1 + c % 7, 1 + c / 7 % 7, rfl, by omega, Nat.lt_of_lt_of_le (show (1 + c / 7 % 7).natAbs < 2 ^ 4 by omega) (Nat.pow_le_pow_right (by decide) (by decide)), upd_same, rfl, ?_⟩
        rw [upd_upd]
        obtain ⟨kE, wps⟩ := mk_facts (C := C) (q := Rat.divInt (1 + c % 7) (1 + c / 7 % 7)) npp hdxp
        generalize upd (upd HD dxp (.own ps)) ps (.ins C dxp (pf (Rat.divInt (1 + c % 7) (1 + c / 7 % 7)))) = HE at kE wps
        have kAE := kAD.trans kE
        have k7E := k7A.trans kAE
        have k2E : Same H2 HE := k25.trans (k6.trans (k7.trans k7E))
        exact hB _ _ _ _ _ _ _ _ _ _ _ _ _ _ _ _ _ _ _ _ _ _ hm (hvi.same k7E) (hvo.same k7E) (kAE _ _ etp) ((k9.trans (kA.trans kAE)) _ _ ea) ((kA.trans kAE) _ _ eb) (tD.same kE) wps (frac_above (by omega) (by omega)) (sz_divInt (by omega) (show (1 + c % 7).natAbs < 2 ^ 4 by omega) (show (1 + c / 7 % 7).natAbs < 2 ^ 4 by omega)) fun σ HZ _ _ _ _ _ _ _ _ _ _ _ _ _ _ e sm => ⟨_, _, _, _, _, _, _, _, _, _, _, _, _, _, e, s2.trans (k2E.trans sm)⟩
      · rintro σ H2 ⟨y2, y3, y4, y5, y6, y7, y8, y9, y10, y11, y12, y13, y14, y15, rfl, s2⟩
        exact qq _
    refine ⟨_, pss_cons (ps_set (i := 1) nd rfl (.inl rfl) (pe_slice sl_list (pv 0) po_none (po_some pe_int)))
      (pss_cons (ps_if (pt_cmpR (op_eqD hu64) (pv 1) (pe_lst pa_nil) (nomark _)) (pss_one (ps_set (i := 1) nd rfl (.inl rfl) (pe_lst (pa_cons pe_int pa_nil)))) pss_nil) pL), ?_⟩
    obtain ⟨zs, ez, hzl⟩ := cut_ints ns 6 hlen
    refine ⟨.ref a, rfl, 6, rfl, a, _, rfl, hS, fun p np => ?_⟩
    rw [ez]
    refine ⟨.ref p, rfl, Nat.zero_le _, fun p2 n2 => ?_⟩
    have npp : p ≠ p2 := fun e => by
      rw [← e, upd_same] at n2
      cases n2
    refine ⟨.list (dis zs), .list [], .lst (SqL.of (by rw [upd_ne npp, upd_same])) (dp_ints zs), .lst (SqL.of upd_same) .nil, shaped_zs zs, shaped_zs [], _, rfl, ?_⟩
    refine ite2 (fun e => ⟨(by show 1 ≤ sizeLine; decide), fun p3 n3 => ?_⟩) (fun e => ?_)
    · exact hL _ p3 [0] upd_same
    · exact hL _ p zs (by rw [upd_ne npp, upd_same])
end
end Hop

set_option Elab.async false
set_option linter.all false
set_option maxRecDepth 100000
set_option maxHeartbeats 2000000
namespace Hop
open PySem L2 HopR
open C8 (InsC call_isC)
theorem kit_tyC {K : PySem.W.Frag} {C : Addr} {T : String} (hd : PySem.W.hasDictIn K C = true) (ht : PySem.W.typeIn K (.ref C) = some (.type "type")) (h : PySem.W.subIn K (.type T) (.ref C) = some false) : PySem.W.kitOne K (.type T) (.ref C) = some false := by
  obtain ⟨cd, hc, _⟩ := PySem.W.any_some hd
  have e2 : ((PySem.W.clsIn K C).isSome && PySem.W.typeIn K (.ref C) == some (.type "type")) = true := by rw [hc, ht] <;> rfl
  unfold PySem.W.kitOne
  have e1 : ¬ ((Value.type T == Value.ref C) = true) := fun z => nomatch (beq_iff_eq.mp z)
  rw [if_neg e1]
  show (if ((PySem.W.clsIn K C).isSome && PySem.W.typeIn K (.ref C) == some (.type "type")) = true then PySem.W.subIn K (.type T) (.ref C) else none) = some false
  rw [if_pos e2]
  exact h
/-! ### what the top has written -/
theorem all_mk {l : PySem.W.OpenLaw} {w : World} {K : PySem.W.Frag} {h : Heap} {mg : Str → Option Value} {fa : Addr} (X : K.In h) (G : h.Ns mainGlobals mg) (hfa : mg "law" = some (.ref fa))
    {f1 : Addr} {od1 an1 : Option Addr} {sl1 : Array (Option Value)} {oc1 kV1 dc1 pm1 cd1 ct1 : Value}
    {f0 : Addr} {od0 an0 : Option Addr} {sl0 : Array (Option Value)} {oc0 kV0 dc0 pm0 cd0 ct0 : Value}
    {f2 : Addr} {od2 an2 : Option Addr} {sl2 : Array (Option Value)} {oc2 kV2 dc2 pm2 cd2 ct2 : Value}
    {fu1 : Addr} {odu1 anu1 : Option Addr} {slu1 : Array (Option Value)} {ocu1 kVu1 dcu1 pmu1 cdu1 ctu1 : Value}
    {fz1 : Addr} {odz1 anz1 : Option Addr} {slz1 : Array (Option Value)} {ocz1 kVz1 dcz1 pmz1 cdz1 ctz1 : Value}
    {fR1 : Addr} {odR1 anR1 : Option Addr} {slR1 : Array (Option Value)} {ocR1 kVR1 dcR1 pmR1 cdR1 ctR1 : Value}
    {fR2 : Addr} {odR2 anR2 : Option Addr} {slR2 : Array (Option Value)} {ocR2 kVR2 dcR2 pmR2 cdR2 ctR2 : Value}
    {fA1 : Addr} {odA1 anA1 : Option Addr} {slA1 : Array (Option Value)} {ocA1 kVA1 dcA1 pmA1 cdA1 ctA1 : Value}
    {fA2 : Addr} {odA2 anA2 : Option Addr} {slA2 : Array (Option Value)} {ocA2 kVA2 dcA2 pmA2 cdA2 ctA2 : Value}
    {fP1 : Addr} {odP1 anP1 : Option Addr} {slP1 : Array (Option Value)} {ocP1 kVP1 dcP1 pmP1 cdP1 ctP1 : Value}
    {fP2 : Addr} {odP2 anP2 : Option Addr} {slP2 : Array (Option Value)} {ocP2 kVP2 dcP2 pmP2 cdP2 ctP2 : Value}
    {fW1 : Addr} {odW1 anW1 : Option Addr} {slW1 : Array (Option Value)} {ocW1 kVW1 dcW1 pmW1 cdW1 ctW1 : Value}
    {fW2 : Addr} {odW2 anW2 : Option Addr} {slW2 : Array (Option Value)} {ocW2 kVW2 dcW2 pmW2 cdW2 ctW2 : Value}
    {fB1 : Addr} {odB1 anB1 : Option Addr} {slB1 : Array (Option Value)} {ocB1 kVB1 dcB1 pmB1 cdB1 ctB1 : Value}
    {fF1 : Addr} {odF1 anF1 : Option Addr} {slF1 : Array (Option Value)} {ocF1 kVF1 dcF1 pmF1 cdF1 ctF1 : Value}
    {fE1 : Addr} {odE1 anE1 : Option Addr} {slE1 : Array (Option Value)} {ocE1 kVE1 dcE1 pmE1 cdE1 ctE1 : Value}
    {fS1 : Addr} {odS1 anS1 : Option Addr} {slS1 : Array (Option Value)} {ocS1 kVS1 dcS1 pmS1 cdS1 ctS1 : Value}
    {ft1 : Addr} {odt1 ant1 : Option Addr} {slt1 : Array (Option Value)} {oct1 kVt1 dct1 pmt1 cdt1 ctt1 : Value}
    {ft2 : Addr} {odt2 ant2 : Option Addr} {slt2 : Array (Option Value)} {oct2 kVt2 dct2 pmt2 cdt2 ctt2 : Value}
    {ft3 : Addr} {odt3 ant3 : Option Addr} {slt3 : Array (Option Value)} {oct3 kVt3 dct3 pmt3 cdt3 ctt3 : Value}
    {ft4 : Addr} {odt4 ant4 : Option Addr} {slt4 : Array (Option Value)} {oct4 kVt4 dct4 pmt4 cdt4 ctt4 : Value}
    {fw : Addr} {odw anw : Option Addr} {slw : Array (Option Value)} {ocw kVw dcw pmw cdw ctw : Value}
    {fq1 : Addr} {odq1 anq1 : Option Addr} {slq1 : Array (Option Value)} {ocq1 kVq1 dcq1 pmq1 cdq1 ctq1 : Value}
    {fq2 : Addr} {odq2 anq2 : Option Addr} {slq2 : Array (Option Value)} {ocq2 kVq2 dcq2 pmq2 cdq2 ctq2 : Value}
    {fq3 : Addr} {odq3 anq3 : Option Addr} {slq3 : Array (Option Value)} {ocq3 kVq3 dcq3 pmq3 cdq3 ctq3 : Value}
    {fn1 : Addr} {odn1 ann1 : Option Addr} {sln1 : Array (Option Value)} {ocn1 kVn1 dcn1 pmn1 cdn1 ctn1 : Value}
    {fn2 : Addr} {odn2 ann2 : Option Addr} {sln2 : Array (Option Value)} {ocn2 kVn2 dcn2 pmn2 cdn2 ctn2 : Value}
    {fn3 : Addr} {odn3 ann3 : Option Addr} {sln3 : Array (Option Value)} {ocn3 kVn3 dcn3 pmn3 cdn3 ctn3 : Value}
    {fn4 : Addr} {odn4 ann4 : Option Addr} {sln4 : Array (Option Value)} {ocn4 kVn4 dcn4 pmn4 cdn4 ctn4 : Value}
    {fn5 : Addr} {odn5 ann5 : Option Addr} {sln5 : Array (Option Value)} {ocn5 kVn5 dcn5 pmn5 cdn5 ctn5 : Value}
    {fn8 : Addr} {odn8 ann8 : Option Addr} {sln8 : Array (Option Value)} {ocn8 kVn8 dcn8 pmn8 cdn8 ctn8 : Value}
    {fg1 : Addr} {odg1 ang1 : Option Addr} {slg1 : Array (Option Value)} {ocg1 kVg1 dcg1 pmg1 cdg1 ctg1 : Value}
    {fg2 : Addr} {odg2 ang2 : Option Addr} {slg2 : Array (Option Value)} {ocg2 kVg2 dcg2 pmg2 cdg2 ctg2 : Value}
    {fg3 : Addr} {odg3 ang3 : Option Addr} {slg3 : Array (Option Value)} {ocg3 kVg3 dcg3 pmg3 cdg3 ctg3 : Value}
    {fL : Addr} {odL anL : Option Addr} {slL : Array (Option Value)} {ocL kVL dcL pmL cdL ctL : Value}
    {tb0 : Tok}
    {tf0 : Tok}
    {tm0 : Tok}
    {tx0 : Tok}
    {d : Addr} {es : Array DictEntry} {n : Nat} {tvo tvp : Tok}
    {C : Addr}
    {fmp : Addr} {odmp anmp : Option Addr} {slmp : Array (Option Value)} {ocmp kVmp dcmp pmmp cdmp ctmp : Value}
    {fmt : Addr} {odmt anmt : Option Addr} {slmt : Array (Option Value)} {ocmt kVmt dcmt pmmt cdmt ctmt : Value}
    {fmx : Addr} {odmx anmx : Option Addr} {slmx : Array (Option Value)} {ocmx kVmx dcmx pmmx cdmx ctmx : Value}
    {fmo : Addr} {odmo anmo : Option Addr} {slmo : Array (Option Value)} {ocmo kVmo dcmo pmmo cdmo ctmo : Value}
    {nmC qC : Str} {NC : Addr} {bsC subC : List Value} {hdC abC : Bool} {snC : List Str} {colC : Option Bool} {ddC : Option Addr} {x0 x1 x2 x3 x5 : Option Value} {nwC : String}
    {fi Ti : Addr} {odi ani oTi : Option Addr} {sli sTi : Array (Option Value)} {oci kVi dci pmi cdi cti cTi : Value} {nTi : Nat}
    {tki0 : Tok}
    {fv1 Tv1 : Addr} {odv1 anv1 oTv1 : Option Addr} {slv1 sTv1 : Array (Option Value)} {ocv1 kVv1 dcv1 pmv1 cdv1 ctv1 cTv1 : Value} {nTv1 : Nat}
    {fv2 Tv2 : Addr} {odv2 anv2 oTv2 : Option Addr} {slv2 sTv2 : Array (Option Value)} {ocv2 kVv2 dcv2 pmv2 cdv2 ctv2 cTv2 : Value} {nTv2 : Nat}
    {fv3 Tv3 : Addr} {odv3 anv3 oTv3 : Option Addr} {slv3 sTv3 : Array (Option Value)} {ocv3 kVv3 dcv3 pmv3 cdv3 ctv3 cTv3 : Value} {nTv3 : Nat}
    {fv4 Tv4 : Addr} {odv4 anv4 oTv4 : Option Addr} {slv4 sTv4 : Array (Option Value)} {ocv4 kVv4 dcv4 pmv4 cdv4 ctv4 cTv4 : Value} {nTv4 : Nat}
    (a1 : PySem.W.nsIn K mainGlobals "is_whole" = some (some (.ref f1))) (l1 : K.lookup f1 = some ⟨oc1, od1, .func (PySem.W.fnOf "is_whole" "is_whole" (defArgs sIsWhole) (defBody sIsWhole) (defScope sIsWhole) .none kV1 dc1 pm1 an1 cd1 ct1), sl1⟩) (c1 : PySem.W.codeIn K cd1 "is_whole" = true) (k1 : PySem.W.keepIn K (.ref f1) = true)
    (a0 : PySem.W.nsIn K mainGlobals "need_number" = some (some (.ref f0))) (l0 : K.lookup f0 = some ⟨oc0, od0, .func (PySem.W.fnOf "need_number" "need_number" (defArgs sNeedNum) (defBody sNeedNum) (defScope sNeedNum) .none kV0 dc0 pm0 an0 cd0 ct0), sl0⟩) (c0 : PySem.W.codeIn K cd0 "need_number" = true) (k0 : PySem.W.keepIn K (.ref f0) = true)
    (a2 : PySem.W.nsIn K mainGlobals "common_divisor" = some (some (.ref f2))) (l2 : K.lookup f2 = some ⟨oc2, od2, .func (PySem.W.fnOf "common_divisor" "common_divisor" (defArgs sDivisor) (defBody sDivisor) (defScope sDivisor) .none kV2 dc2 pm2 an2 cd2 ct2), sl2⟩) (c2 : PySem.W.codeIn K cd2 "common_divisor" = true) (k2 : PySem.W.keepIn K (.ref f2) = true)
    (au1 : PySem.W.nsIn K mainGlobals "power" = some (some (.ref fu1))) (lu1 : K.lookup fu1 = some ⟨ocu1, odu1, .func (PySem.W.fnOf "power" "power" (defArgs sPower) (defBody sPower) (defScope sPower) .none kVu1 dcu1 pmu1 anu1 cdu1 ctu1), slu1⟩) (cu1 : PySem.W.codeIn K cdu1 "power" = true) (ku1 : PySem.W.keepIn K (.ref fu1) = true)
    (az1 : PySem.W.nsIn K mainGlobals "lowest" = some (some (.ref fz1))) (lz1 : K.lookup fz1 = some ⟨ocz1, odz1, .func (PySem.W.fnOf "lowest" "lowest" (defArgs sLowest) (defBody sLowest) (defScope sLowest) .none kVz1 dcz1 pmz1 anz1 cdz1 ctz1), slz1⟩) (cz1 : PySem.W.codeIn K cdz1 "lowest" = true) (kz1 : PySem.W.keepIn K (.ref fz1) = true)
    (aR1 : PySem.W.nsIn K mainGlobals "is_row" = some (some (.ref fR1))) (lR1 : K.lookup fR1 = some ⟨ocR1, odR1, .func (PySem.W.fnOf "is_row" "is_row" (defArgs sIsRow) (defBody sIsRow) (defScope sIsRow) .none kVR1 dcR1 pmR1 anR1 cdR1 ctR1), slR1⟩) (cR1 : PySem.W.codeIn K cdR1 "is_row" = true) (kR1 : PySem.W.keepIn K (.ref fR1) = true)
    (aR2 : PySem.W.nsIn K mainGlobals "need_row" = some (some (.ref fR2))) (lR2 : K.lookup fR2 = some ⟨ocR2, odR2, .func (PySem.W.fnOf "need_row" "need_row" (defArgs sNeedRow) (defBody sNeedRow) (defScope sNeedRow) .none kVR2 dcR2 pmR2 anR2 cdR2 ctR2), slR2⟩) (cR2 : PySem.W.codeIn K cdR2 "need_row" = true) (kR2 : PySem.W.keepIn K (.ref fR2) = true)
    (aA1 : PySem.W.nsIn K mainGlobals "row_at" = some (some (.ref fA1))) (lA1 : K.lookup fA1 = some ⟨ocA1, odA1, .func (PySem.W.fnOf "row_at" "row_at" (defArgs sRowAt) (defBody sRowAt) (defScope sRowAt) .none kVA1 dcA1 pmA1 anA1 cdA1 ctA1), slA1⟩) (cA1 : PySem.W.codeIn K cdA1 "row_at" = true) (kA1 : PySem.W.keepIn K (.ref fA1) = true)
    (aA2 : PySem.W.nsIn K mainGlobals "all_rows" = some (some (.ref fA2))) (lA2 : K.lookup fA2 = some ⟨ocA2, odA2, .func (PySem.W.fnOf "all_rows" "all_rows" (defArgs sAllR) (defBody sAllR) (defScope sAllR) .none kVA2 dcA2 pmA2 anA2 cdA2 ctA2), slA2⟩) (cA2 : PySem.W.codeIn K cdA2 "all_rows" = true) (kA2 : PySem.W.keepIn K (.ref fA2) = true)
    (aP1 : PySem.W.nsIn K mainGlobals "pace_from" = some (some (.ref fP1))) (lP1 : K.lookup fP1 = some ⟨ocP1, odP1, .func (PySem.W.fnOf "pace_from" "pace_from" (defArgs sPaceFrom) (defBody sPaceFrom) (defScope sPaceFrom) .none kVP1 dcP1 pmP1 anP1 cdP1 ctP1), slP1⟩) (cP1 : PySem.W.codeIn K cdP1 "pace_from" = true) (kP1 : PySem.W.keepIn K (.ref fP1) = true)
    (aP2 : PySem.W.nsIn K mainGlobals "paces_from" = some (some (.ref fP2))) (lP2 : K.lookup fP2 = some ⟨ocP2, odP2, .func (PySem.W.fnOf "paces_from" "paces_from" (defArgs sPacesFrom) (defBody sPacesFrom) (defScope sPacesFrom) .none kVP2 dcP2 pmP2 anP2 cdP2 ctP2), slP2⟩) (cP2 : PySem.W.codeIn K cdP2 "paces_from" = true) (kP2 : PySem.W.keepIn K (.ref fP2) = true)
    (aW1 : PySem.W.nsIn K mainGlobals "is_word" = some (some (.ref fW1))) (lW1 : K.lookup fW1 = some ⟨ocW1, odW1, .func (PySem.W.fnOf "is_word" "is_word" (defArgs sIsWord) (defBody sIsWord) (defScope sIsWord) .none kVW1 dcW1 pmW1 anW1 cdW1 ctW1), slW1⟩) (cW1 : PySem.W.codeIn K cdW1 "is_word" = true) (kW1 : PySem.W.keepIn K (.ref fW1) = true)
    (aW2 : PySem.W.nsIn K mainGlobals "need_word" = some (some (.ref fW2))) (lW2 : K.lookup fW2 = some ⟨ocW2, odW2, .func (PySem.W.fnOf "need_word" "need_word" (defArgs sNeedWord) (defBody sNeedWord) (defScope sNeedWord) .none kVW2 dcW2 pmW2 anW2 cdW2 ctW2), slW2⟩) (cW2 : PySem.W.codeIn K cdW2 "need_word" = true) (kW2 : PySem.W.keepIn K (.ref fW2) = true)
    (aB1 : PySem.W.nsIn K mainGlobals "with_bead" = some (some (.ref fB1))) (lB1 : K.lookup fB1 = some ⟨ocB1, odB1, .func (PySem.W.fnOf "with_bead" "with_bead" (defArgs sWithBead) (defBody sWithBead) (defScope sWithBead) .none kVB1 dcB1 pmB1 anB1 cdB1 ctB1), slB1⟩) (cB1 : PySem.W.codeIn K cdB1 "with_bead" = true) (kB1 : PySem.W.keepIn K (.ref fB1) = true)
    (aF1 : PySem.W.nsIn K mainGlobals "with_free" = some (some (.ref fF1))) (lF1 : K.lookup fF1 = some ⟨ocF1, odF1, .func (PySem.W.fnOf "with_free" "with_free" (defArgs sWithFree) (defBody sWithFree) (defScope sWithFree) .none kVF1 dcF1 pmF1 anF1 cdF1 ctF1), slF1⟩) (cF1 : PySem.W.codeIn K cdF1 "with_free" = true) (kF1 : PySem.W.keepIn K (.ref fF1) = true)
    (aE1 : PySem.W.nsIn K mainGlobals "ends_of" = some (some (.ref fE1))) (lE1 : K.lookup fE1 = some ⟨ocE1, odE1, .func (PySem.W.fnOf "ends_of" "ends_of" (defArgs sEndsOf) (defBody sEndsOf) (defScope sEndsOf) .none kVE1 dcE1 pmE1 anE1 cdE1 ctE1), slE1⟩) (cE1 : PySem.W.codeIn K cdE1 "ends_of" = true) (kE1 : PySem.W.keepIn K (.ref fE1) = true)
    (aS1 : PySem.W.nsIn K mainGlobals "share" = some (some (.ref fS1))) (lS1 : K.lookup fS1 = some ⟨ocS1, odS1, .func (PySem.W.fnOf "share" "share" (defArgs sShare) (defBody sShare) (defScope sShare) .none kVS1 dcS1 pmS1 anS1 cdS1 ctS1), slS1⟩) (cS1 : PySem.W.codeIn K cdS1 "share" = true) (kS1 : PySem.W.keepIn K (.ref fS1) = true)
    (at1 : PySem.W.nsIn K mainGlobals "is_above_nought" = some (some (.ref ft1))) (lt1 : K.lookup ft1 = some ⟨oct1, odt1, .func (PySem.W.fnOf "is_above_nought" "is_above_nought" (defArgs sAbove) (defBody sAbove) (defScope sAbove) .none kVt1 dct1 pmt1 ant1 cdt1 ctt1), slt1⟩) (ct1 : PySem.W.codeIn K cdt1 "is_above_nought" = true) (kt1 : PySem.W.keepIn K (.ref ft1) = true)
    (at2 : PySem.W.nsIn K mainGlobals "is_line" = some (some (.ref ft2))) (lt2 : K.lookup ft2 = some ⟨oct2, odt2, .func (PySem.W.fnOf "is_line" "is_line" (defArgs sLine) (defBody sLine) (defScope sLine) .none kVt2 dct2 pmt2 ant2 cdt2 ctt2), slt2⟩) (ct2 : PySem.W.codeIn K cdt2 "is_line" = true) (kt2 : PySem.W.keepIn K (.ref ft2) = true)
    (at3 : PySem.W.nsIn K mainGlobals "is_table" = some (some (.ref ft3))) (lt3 : K.lookup ft3 = some ⟨oct3, odt3, .func (PySem.W.fnOf "is_table" "is_table" (defArgs sIsTable) (defBody sIsTable) (defScope sIsTable) .none kVt3 dct3 pmt3 ant3 cdt3 ctt3), slt3⟩) (ct3 : PySem.W.codeIn K cdt3 "is_table" = true) (kt3 : PySem.W.keepIn K (.ref ft3) = true)
    (at4 : PySem.W.nsIn K mainGlobals "times_between" = some (some (.ref ft4))) (lt4 : K.lookup ft4 = some ⟨oct4, odt4, .func (PySem.W.fnOf "times_between" "times_between" (defArgs sBetween) (defBody sBetween) (defScope sBetween) .none kVt4 dct4 pmt4 ant4 cdt4 ctt4), slt4⟩) (ct4 : PySem.W.codeIn K cdt4 "times_between" = true) (kt4 : PySem.W.keepIn K (.ref ft4) = true)
    (aw : PySem.W.nsIn K mainGlobals "_law_drawn" = some (some (.ref fw))) (lw : K.lookup fw = some ⟨ocw, odw, .func (PySem.W.fnOf "_law_drawn" "_law_drawn" (defArgs sDrawn) (defBody sDrawn) (defScope sDrawn) .none kVw dcw pmw anw cdw ctw), slw⟩) (cw : PySem.W.codeIn K cdw "_law_drawn" = true) (kw : PySem.W.keepIn K (.ref fw) = true)
    (aq1 : PySem.W.nsIn K mainGlobals "_law_part" = some (some (.ref fq1))) (lq1 : K.lookup fq1 = some ⟨ocq1, odq1, .func (PySem.W.fnOf "_law_part" "_law_part" (defArgs sLPart) (defBody sLPart) (defScope sLPart) .none kVq1 dcq1 pmq1 anq1 cdq1 ctq1), slq1⟩) (cq1 : PySem.W.codeIn K cdq1 "_law_part" = true) (kq1 : PySem.W.keepIn K (.ref fq1) = true)
    (aq2 : PySem.W.nsIn K mainGlobals "_law_low" = some (some (.ref fq2))) (lq2 : K.lookup fq2 = some ⟨ocq2, odq2, .func (PySem.W.fnOf "_law_low" "_law_low" (defArgs sLLow) (defBody sLLow) (defScope sLLow) .none kVq2 dcq2 pmq2 anq2 cdq2 ctq2), slq2⟩) (cq2 : PySem.W.codeIn K cdq2 "_law_low" = true) (kq2 : PySem.W.keepIn K (.ref fq2) = true)
    (aq3 : PySem.W.nsIn K mainGlobals "_law_small_pace" = some (some (.ref fq3))) (lq3 : K.lookup fq3 = some ⟨ocq3, odq3, .func (PySem.W.fnOf "_law_small_pace" "_law_small_pace" (defArgs sLSmall) (defBody sLSmall) (defScope sLSmall) .none kVq3 dcq3 pmq3 anq3 cdq3 ctq3), slq3⟩) (cq3 : PySem.W.codeIn K cdq3 "_law_small_pace" = true) (kq3 : PySem.W.keepIn K (.ref fq3) = true)
    (an1 : PySem.W.nsIn K mainGlobals "_law_all_rows" = some (some (.ref fn1))) (ln1 : K.lookup fn1 = some ⟨ocn1, odn1, .func (PySem.W.fnOf "_law_all_rows" "_law_all_rows" (defArgs sAllRows) (defBody sAllRows) (defScope sAllRows) .none kVn1 dcn1 pmn1 ann1 cdn1 ctn1), sln1⟩) (cn1 : PySem.W.codeIn K cdn1 "_law_all_rows" = true) (kn1 : PySem.W.keepIn K (.ref fn1) = true)
    (an2 : PySem.W.nsIn K mainGlobals "_law_is_table" = some (some (.ref fn2))) (ln2 : K.lookup fn2 = some ⟨ocn2, odn2, .func (PySem.W.fnOf "_law_is_table" "_law_is_table" (defArgs sLIsTable) (defBody sLIsTable) (defScope sLIsTable) .none kVn2 dcn2 pmn2 ann2 cdn2 ctn2), sln2⟩) (cn2 : PySem.W.codeIn K cdn2 "_law_is_table" = true) (kn2 : PySem.W.keepIn K (.ref fn2) = true)
    (an3 : PySem.W.nsIn K mainGlobals "_law_changes" = some (some (.ref fn3))) (ln3 : K.lookup fn3 = some ⟨ocn3, odn3, .func (PySem.W.fnOf "_law_changes" "_law_changes" (defArgs sLChanges) (defBody sLChanges) (defScope sLChanges) .none kVn3 dcn3 pmn3 ann3 cdn3 ctn3), sln3⟩) (cn3 : PySem.W.codeIn K cdn3 "_law_changes" = true) (kn3 : PySem.W.keepIn K (.ref fn3) = true)
    (an4 : PySem.W.nsIn K mainGlobals "_law_pace_at" = some (some (.ref fn4))) (ln4 : K.lookup fn4 = some ⟨ocn4, odn4, .func (PySem.W.fnOf "_law_pace_at" "_law_pace_at" (defArgs sPaceAt) (defBody sPaceAt) (defScope sPaceAt) .none kVn4 dcn4 pmn4 ann4 cdn4 ctn4), sln4⟩) (cn4 : PySem.W.codeIn K cdn4 "_law_pace_at" = true) (kn4 : PySem.W.keepIn K (.ref fn4) = true)
    (an5 : PySem.W.nsIn K mainGlobals "_law_times" = some (some (.ref fn5))) (ln5 : K.lookup fn5 = some ⟨ocn5, odn5, .func (PySem.W.fnOf "_law_times" "_law_times" (defArgs sLTimes) (defBody sLTimes) (defScope sLTimes) .none kVn5 dcn5 pmn5 ann5 cdn5 ctn5), sln5⟩) (cn5 : PySem.W.codeIn K cdn5 "_law_times" = true) (kn5 : PySem.W.keepIn K (.ref fn5) = true)
    (an8 : PySem.W.nsIn K mainGlobals "_law_plus" = some (some (.ref fn8))) (ln8 : K.lookup fn8 = some ⟨ocn8, odn8, .func (PySem.W.fnOf "_law_plus" "_law_plus" (defArgs sLPlus) (defBody sLPlus) (defScope sLPlus) .none kVn8 dcn8 pmn8 ann8 cdn8 ctn8), sln8⟩) (cn8 : PySem.W.codeIn K cdn8 "_law_plus" = true) (kn8 : PySem.W.keepIn K (.ref fn8) = true)
    (ag1 : PySem.W.nsIn K mainGlobals "_law_is_still" = some (some (.ref fg1))) (lg1 : K.lookup fg1 = some ⟨ocg1, odg1, .func (PySem.W.fnOf "_law_is_still" "_law_is_still" (defArgs sLIsStill) (defBody sLIsStill) (defScope sLIsStill) .none kVg1 dcg1 pmg1 ang1 cdg1 ctg1), slg1⟩) (cg1 : PySem.W.codeIn K cdg1 "_law_is_still" = true) (kg1 : PySem.W.keepIn K (.ref fg1) = true)
    (ag2 : PySem.W.nsIn K mainGlobals "_law_own" = some (some (.ref fg2))) (lg2 : K.lookup fg2 = some ⟨ocg2, odg2, .func (PySem.W.fnOf "_law_own" "_law_own" (defArgs sLOwn) (defBody sLOwn) (defScope sLOwn) .none kVg2 dcg2 pmg2 ang2 cdg2 ctg2), slg2⟩) (cg2 : PySem.W.codeIn K cdg2 "_law_own" = true) (kg2 : PySem.W.keepIn K (.ref fg2) = true)
    (ag3 : PySem.W.nsIn K mainGlobals "_law_bent_table" = some (some (.ref fg3))) (lg3 : K.lookup fg3 = some ⟨ocg3, odg3, .func (PySem.W.fnOf "_law_bent_table" "_law_bent_table" (defArgs sBentT) (defBody sBentT) (defScope sBentT) .none kVg3 dcg3 pmg3 ang3 cdg3 ctg3), slg3⟩) (cg3 : PySem.W.codeIn K cdg3 "_law_bent_table" = true) (kg3 : PySem.W.keepIn K (.ref fg3) = true)
    (aL : PySem.W.nsIn K mainGlobals "law" = some (some (.ref fL))) (lL : K.lookup fL = some ⟨ocL, odL, .func (PySem.W.fnOf "law" "law" (defArgs sLaw) (defBody sLaw) (defScope sLaw) .none kVL dcL pmL anL cdL ctL), slL⟩) (cL : PySem.W.codeIn K cdL "law" = true) (kL : PySem.W.keepIn K (.ref fL) = true)
    (z0 : PySem.W.nsIn K mainGlobals "len" = some none)
    (z1 : PySem.W.nsIn K mainGlobals "range" = some none)
    (z2 : PySem.W.nsIn K mainGlobals "abs" = some none)
    (z3 : PySem.W.nsIn K mainGlobals "isinstance" = some none)
    (z4 : PySem.W.nsIn K mainGlobals "int" = some none)
    (z5 : PySem.W.nsIn K mainGlobals "bool" = some none)
    (z6 : PySem.W.nsIn K mainGlobals "all" = some none)
    (z7 : PySem.W.nsIn K mainGlobals "str" = some none)
    (z8 : PySem.W.nsIn K mainGlobals "reversed" = some none)
    (z9 : PySem.W.nsIn K mainGlobals "sorted" = some none)
    (z10 : PySem.W.nsIn K mainGlobals "list" = some none)
    (z11 : PySem.W.nsIn K mainGlobals "repr" = some none)
    (z12 : PySem.W.nsIn K mainGlobals "sum" = some none)
    (z13 : PySem.W.nsIn K mainGlobals "zip" = some none)
    (z14 : PySem.W.nsIn K mainGlobals "enumerate" = some none)
    (z15 : PySem.W.nsIn K mainGlobals "tuple" = some none)
    (z16 : PySem.W.nsIn K mainGlobals "dict" = some none)
    (gb0 : PySem.W.nsIn K mainGlobals "BEAD" = some (some (.str "o" tb0)))
    (gf0 : PySem.W.nsIn K mainGlobals "FREE" = some (some (.str "." tf0)))
    (gm0 : PySem.W.nsIn K mainGlobals "MOST_PLACES" = some (some (.int 30 tm0)))
    (gx0 : PySem.W.nsIn K mainGlobals "MOST_IN_TABLE" = some (some (.int 8 tx0)))
    (gd : PySem.W.nsIn K mainGlobals "OTHER_SIGN" = some (some (.ref d)))
    (ld : K.lookup d = some ⟨.type "dict", none, .dict es n, #[]⟩)
    (kd : PySem.W.KeysLit w.params es.toList)
    (sd : (d == sysModules) = false)
    (vo : PySem.W.nsIn K d "o" = some (some (.str "." tvo)))
    (vp : PySem.W.nsIn K d "." = some (some (.str "o" tvp)))
    (gC : PySem.W.nsIn K mainGlobals "Part" = some (some (.ref C)))
    (C_pg : PySem.W.plainGet K C Str.empty = true)
    (C_hd : PySem.W.hasDictIn K C = true)
    (C_po : PySem.W.plainOver K C = true)
    (C_sa : PySem.W.findIn K (.ref C) "__setattr__" = some (some (.builtin "object.__setattr__")))
    (C_mk : PySem.W.makesIn K C = true)
    (C_kc : PySem.W.keepIn K (.ref C) = true)
    (C_ha : PySem.W.findIn K (.ref C) "__class__" = some (some (.builtin "object.__class__")))
    (C_hm : PySem.W.mroIn K C (.type "object") = some true)
    (q_hn : PySem.W.specialIn K (.builtin "object.__class__") "__get__" = some (some (.builtin "getset_descriptor.__get__")))
    (q_htk : PySem.W.takesIn K (.builtin "object.__class__") = some true)
    (C_n_top : PySem.W.findIn K (.ref C) "top" = some none)
    (C_n_bottom : PySem.W.findIn K (.ref C) "bottom" = some none)
    (mmp : PySem.W.findIn K (.ref C) "plus" = some (some (.ref fmp)))
    (nmp : PySem.W.isFn K (.ref fmp) = true)
    (lmp : K.lookup fmp = some ⟨ocmp, odmp, .func (PySem.W.fnOf "plus" "Part.plus" (defArgs sPlus) (defBody sPlus) (defScope sPlus) .none kVmp dcmp pmmp anmp cdmp ctmp), slmp⟩)
    (cmp : PySem.W.codeIn K cdmp "Part.plus" = true)
    (kmp : PySem.W.keepIn K (.ref fmp) = true)
    (mmt : PySem.W.findIn K (.ref C) "times" = some (some (.ref fmt)))
    (nmt : PySem.W.isFn K (.ref fmt) = true)
    (lmt : K.lookup fmt = some ⟨ocmt, odmt, .func (PySem.W.fnOf "times" "Part.times" (defArgs sTimes) (defBody sTimes) (defScope sTimes) .none kVmt dcmt pmmt anmt cdmt ctmt), slmt⟩)
    (cmt : PySem.W.codeIn K cdmt "Part.times" = true)
    (kmt : PySem.W.keepIn K (.ref fmt) = true)
    (mmx : PySem.W.findIn K (.ref C) "__eq__" = some (some (.ref fmx)))
    (nmx : PySem.W.isFn K (.ref fmx) = true)
    (lmx : K.lookup fmx = some ⟨ocmx, odmx, .func (PySem.W.fnOf "__eq__" "Part.__eq__" (defArgs sEq) (defBody sEq) (defScope sEq) .none kVmx dcmx pmmx anmx cdmx ctmx), slmx⟩)
    (cmx : PySem.W.codeIn K cdmx "Part.__eq__" = true)
    (kmx : PySem.W.keepIn K (.ref fmx) = true)
    (mmo : PySem.W.findIn K (.ref C) "over" = some (some (.ref fmo)))
    (nmo : PySem.W.isFn K (.ref fmo) = true)
    (lmo : K.lookup fmo = some ⟨ocmo, odmo, .func (PySem.W.fnOf "over" "Part.over" (defArgs sOver) (defBody sOver) (defScope sOver) .none kVmo dcmo pmmo anmo cdmo ctmo), slmo⟩)
    (cmo : PySem.W.codeIn K cdmo "Part.over" = true)
    (kmo : PySem.W.keepIn K (.ref fmo) = true)
    (eqK : K.lookup C = some (excClassObj nmC qC C NC bsC [.type "object"] hdC snC subC abC colC ddC x0 x1 x2 x3 x5 nwC))
    (eqO : PySem.W.nsOkIn K NC = true)
    (eqE : PySem.W.nsIn K NC "__eq__" = some (some (.ref fmx)))
    (eqN : PySem.W.nsIn K NC "__ne__" = some none)
    (ai : PySem.W.findIn K (.ref C) "__init__" = some (some (.ref fi)))
    (ni : PySem.W.isFn K (.ref fi) = true)
    (li : K.lookup fi = some ⟨oci, odi, .func (PySem.W.fnOf "__init__" "Part.__init__" (defArgs sInit) (defBody sInit) (defScope sInit) (.ref Ti) kVi dci pmi ani cdi cti), sli⟩)
    (ci : PySem.W.codeIn K cdi "Part.__init__" = true)
    (ki : PySem.W.keepIn K (.ref fi) = true)
    (di : K.lookup Ti = some ⟨cTi, oTi, .seq #[.int 1 tki0] nTi, sTi⟩)
    (av1 : PySem.W.nsIn K mainGlobals "weight" = some (some (.ref fv1)))
    (nv1 : PySem.W.isFn K (.ref fv1) = true)
    (lv1 : K.lookup fv1 = some ⟨ocv1, odv1, .func (PySem.W.fnOf "weight" "weight" (defArgs sWeight) (defBody sWeight) (defScope sWeight) (.ref Tv1) kVv1 dcv1 pmv1 anv1 cdv1 ctv1), slv1⟩)
    (cv1 : PySem.W.codeIn K cdv1 "weight" = true)
    (kv1 : PySem.W.keepIn K (.ref fv1) = true)
    (dv1 : K.lookup Tv1 = some ⟨cTv1, oTv1, .seq #[.none, .none] nTv1, sTv1⟩)
    (av2 : PySem.W.nsIn K mainGlobals "table" = some (some (.ref fv2)))
    (nv2 : PySem.W.isFn K (.ref fv2) = true)
    (lv2 : K.lookup fv2 = some ⟨ocv2, odv2, .func (PySem.W.fnOf "table" "table" (defArgs sTable) (defBody sTable) (defScope sTable) (.ref Tv2) kVv2 dcv2 pmv2 anv2 cdv2 ctv2), slv2⟩)
    (cv2 : PySem.W.codeIn K cdv2 "table" = true)
    (kv2 : PySem.W.keepIn K (.ref fv2) = true)
    (dv2 : K.lookup Tv2 = some ⟨cTv2, oTv2, .seq #[.none, .none] nTv2, sTv2⟩)
    (av3 : PySem.W.nsIn K mainGlobals "times_told" = some (some (.ref fv3)))
    (nv3 : PySem.W.isFn K (.ref fv3) = true)
    (lv3 : K.lookup fv3 = some ⟨ocv3, odv3, .func (PySem.W.fnOf "times_told" "times_told" (defArgs sTimesTold) (defBody sTimesTold) (defScope sTimesTold) (.ref Tv3) kVv3 dcv3 pmv3 anv3 cdv3 ctv3), slv3⟩)
    (cv3 : PySem.W.codeIn K cdv3 "times_told" = true)
    (kv3 : PySem.W.keepIn K (.ref fv3) = true)
    (dv3 : K.lookup Tv3 = some ⟨cTv3, oTv3, .seq #[.none, .none] nTv3, sTv3⟩)
    (av4 : PySem.W.nsIn K mainGlobals "is_still" = some (some (.ref fv4)))
    (nv4 : PySem.W.isFn K (.ref fv4) = true)
    (lv4 : K.lookup fv4 = some ⟨ocv4, odv4, .func (PySem.W.fnOf "is_still" "is_still" (defArgs sStill) (defBody sStill) (defScope sStill) (.ref Tv4) kVv4 dcv4 pmv4 anv4 cdv4 ctv4), slv4⟩)
    (cv4 : PySem.W.codeIn K cdv4 "is_still" = true)
    (kv4 : PySem.W.keepIn K (.ref fv4) = true)
    (dv4 : K.lookup Tv4 = some ⟨cTv4, oTv4, .seq #[.none, .none] nTv4, sTv4⟩)
    (tyC : PySem.W.typeIn K (.ref C) = some (.type "type"))
    (kt_NoneType : PySem.W.subIn K (.type "NoneType") (.ref C) = some false)
    (kt_int : PySem.W.subIn K (.type "int") (.ref C) = some false)
    (kt_str : PySem.W.subIn K (.type "str") (.ref C) = some false)
    (kt_tuple : PySem.W.subIn K (.type "tuple") (.ref C) = some false)
    (kt_bool : PySem.W.subIn K (.type "bool") (.ref C) = some false)
    : ∃ fd : FuncData, (∀ (s : Shared) (v : Value), BindsTo s fd ⟨[v], []⟩ [("_law_script", v)]) ∧ ∀ base : Heap, K.In base → base.Ns mainGlobals mg → FnOk l.prog w K mg base CX0 11 fa fd ["_law_script"] (spLaw K) := by
  have e := hfa.symm.trans (PySem.W.mg_of X G aL)
  cases e
  have F1 := fun_mk (st := sIsWhole) l1 c1 k1
  have b1 := F1.binds (ps := ["thing"]) fun _ _ _ _ _ _ us hl => match us, hl with | [_], _ => rfl
  have N1 := Fn.mk (ps := ["thing"]) F1 b1 (PySem.W.mg_of X G a1)
  have F0 := fun_mk (st := sNeedNum) l0 c0 k0
  have b0 := F0.binds (ps := ["thing", "least", "most"]) fun _ _ _ _ _ _ us hl => match us, hl with | [_, _, _], _ => rfl
  have N0 := Fn.mk (ps := ["thing", "least", "most"]) F0 b0 (PySem.W.mg_of X G a0)
  have F2 := fun_mk (st := sDivisor) l2 c2 k2
  have b2 := F2.binds (ps := ["one", "other"]) fun _ _ _ _ _ _ us hl => match us, hl with | [_, _], _ => rfl
  have N2 := Fn.mk (ps := ["one", "other"]) F2 b2 (PySem.W.mg_of X G a2)
  have Fu1 := fun_mk (st := sPower) lu1 cu1 ku1
  have bu1 := Fu1.binds (ps := ["number", "many"]) fun _ _ _ _ _ _ us hl => match us, hl with | [_, _], _ => rfl
  have Nu1 := Fn.mk (ps := ["number", "many"]) Fu1 bu1 (PySem.W.mg_of X G au1)
  have Fz1 := fun_mk (st := sLowest) lz1 cz1 kz1
  have bz1 := Fz1.binds (ps := ["top", "bottom"]) fun _ _ _ _ _ _ us hl => match us, hl with | [_, _], _ => rfl
  have Nz1 := Fn.mk (ps := ["top", "bottom"]) Fz1 bz1 (PySem.W.mg_of X G az1)
  have FR1 := fun_mk (st := sIsRow) lR1 cR1 kR1
  have bR1 := FR1.binds (ps := ["thing"]) fun _ _ _ _ _ _ us hl => match us, hl with | [_], _ => rfl
  have NR1 := Fn.mk (ps := ["thing"]) FR1 bR1 (PySem.W.mg_of X G aR1)
  have FR2 := fun_mk (st := sNeedRow) lR2 cR2 kR2
  have bR2 := FR2.binds (ps := ["thing"]) fun _ _ _ _ _ _ us hl => match us, hl with | [_], _ => rfl
  have NR2 := Fn.mk (ps := ["thing"]) FR2 bR2 (PySem.W.mg_of X G aR2)
  have FA1 := fun_mk (st := sRowAt) lA1 cA1 kA1
  have bA1 := FA1.binds (ps := ["many", "number"]) fun _ _ _ _ _ _ us hl => match us, hl with | [_, _], _ => rfl
  have NA1 := Fn.mk (ps := ["many", "number"]) FA1 bA1 (PySem.W.mg_of X G aA1)
  have FA2 := fun_mk (st := sAllR) lA2 cA2 kA2
  have bA2 := FA2.binds (ps := ["many"]) fun _ _ _ _ _ _ us hl => match us, hl with | [_], _ => rfl
  have NA2 := Fn.mk (ps := ["many"]) FA2 bA2 (PySem.W.mg_of X G aA2)
  have FP1 := fun_mk (st := sPaceFrom) lP1 cP1 kP1
  have bP1 := FP1.binds (ps := ["thing"]) fun _ _ _ _ _ _ us hl => match us, hl with | [_], _ => rfl
  have NP1 := Fn.mk (ps := ["thing"]) FP1 bP1 (PySem.W.mg_of X G aP1)
  have FP2 := fun_mk (st := sPacesFrom) lP2 cP2 kP2
  have bP2 := FP2.binds (ps := ["inn", "out"]) fun _ _ _ _ _ _ us hl => match us, hl with | [_, _], _ => rfl
  have NP2 := Fn.mk (ps := ["inn", "out"]) FP2 bP2 (PySem.W.mg_of X G aP2)
  have FW1 := fun_mk (st := sIsWord) lW1 cW1 kW1
  have bW1 := FW1.binds (ps := ["thing"]) fun _ _ _ _ _ _ us hl => match us, hl with | [_], _ => rfl
  have NW1 := Fn.mk (ps := ["thing"]) FW1 bW1 (PySem.W.mg_of X G aW1)
  have FW2 := fun_mk (st := sNeedWord) lW2 cW2 kW2
  have bW2 := FW2.binds (ps := ["thing"]) fun _ _ _ _ _ _ us hl => match us, hl with | [_], _ => rfl
  have NW2 := Fn.mk (ps := ["thing"]) FW2 bW2 (PySem.W.mg_of X G aW2)
  have FB1 := fun_mk (st := sWithBead) lB1 cB1 kB1
  have bB1 := FB1.binds (ps := ["table"]) fun _ _ _ _ _ _ us hl => match us, hl with | [_], _ => rfl
  have NB1 := Fn.mk (ps := ["table"]) FB1 bB1 (PySem.W.mg_of X G aB1)
  have FF1 := fun_mk (st := sWithFree) lF1 cF1 kF1
  have bF1 := FF1.binds (ps := ["table"]) fun _ _ _ _ _ _ us hl => match us, hl with | [_], _ => rfl
  have NF1 := Fn.mk (ps := ["table"]) FF1 bF1 (PySem.W.mg_of X G aF1)
  have FE1 := fun_mk (st := sEndsOf) lE1 cE1 kE1
  have bE1 := FE1.binds (ps := ["word"]) fun _ _ _ _ _ _ us hl => match us, hl with | [_], _ => rfl
  have NE1 := Fn.mk (ps := ["word"]) FE1 bE1 (PySem.W.mg_of X G aE1)
  have FS1 := fun_mk (st := sShare) lS1 cS1 kS1
  have bS1 := FS1.binds (ps := ["pace", "many", "most"]) fun _ _ _ _ _ _ us hl => match us, hl with | [_, _, _], _ => rfl
  have NS1 := Fn.mk (ps := ["pace", "many", "most"]) FS1 bS1 (PySem.W.mg_of X G aS1)
  have Ft1 := fun_mk (st := sAbove) lt1 ct1 kt1
  have bt1 := Ft1.binds (ps := ["thing"]) fun _ _ _ _ _ _ us hl => match us, hl with | [_], _ => rfl
  have Nt1 := Fn.mk (ps := ["thing"]) Ft1 bt1 (PySem.W.mg_of X G at1)
  have Ft2 := fun_mk (st := sLine) lt2 ct2 kt2
  have bt2 := Ft2.binds (ps := ["thing", "row"]) fun _ _ _ _ _ _ us hl => match us, hl with | [_, _], _ => rfl
  have Nt2 := Fn.mk (ps := ["thing", "row"]) Ft2 bt2 (PySem.W.mg_of X G at2)
  have Ft3 := fun_mk (st := sIsTable) lt3 ct3 kt3
  have bt3 := Ft3.binds (ps := ["thing", "rows"]) fun _ _ _ _ _ _ us hl => match us, hl with | [_, _], _ => rfl
  have Nt3 := Fn.mk (ps := ["thing", "rows"]) Ft3 bt3 (PySem.W.mg_of X G at3)
  have Ft4 := fun_mk (st := sBetween) lt4 ct4 kt4
  have bt4 := Ft4.binds (ps := ["found", "told"]) fun _ _ _ _ _ _ us hl => match us, hl with | [_, _], _ => rfl
  have Nt4 := Fn.mk (ps := ["found", "told"]) Ft4 bt4 (PySem.W.mg_of X G at4)
  have Fw := fun_mk (st := sDrawn) lw cw kw
  have bw := Fw.binds (ps := ["_law_cell", "_law_sizes"]) fun _ _ _ _ _ _ us hl => match us, hl with | [_, _], _ => rfl
  have Nw := Fn.mk (ps := ["_law_cell", "_law_sizes"]) Fw bw (PySem.W.mg_of X G aw)
  have Fq1 := fun_mk (st := sLPart) lq1 cq1 kq1
  have bq1 := Fq1.binds (ps := ["_law_pace"]) fun _ _ _ _ _ _ us hl => match us, hl with | [_], _ => rfl
  have Nq1 := Fn.mk (ps := ["_law_pace"]) Fq1 bq1 (PySem.W.mg_of X G aq1)
  have Fq2 := fun_mk (st := sLLow) lq2 cq2 kq2
  have bq2 := Fq2.binds (ps := ["_law_top", "_law_bottom"]) fun _ _ _ _ _ _ us hl => match us, hl with | [_, _], _ => rfl
  have Nq2 := Fn.mk (ps := ["_law_top", "_law_bottom"]) Fq2 bq2 (PySem.W.mg_of X G aq2)
  have Fq3 := fun_mk (st := sLSmall) lq3 cq3 kq3
  have bq3 := Fq3.binds (ps := ["_law_cell"]) fun _ _ _ _ _ _ us hl => match us, hl with | [_], _ => rfl
  have Nq3 := Fn.mk (ps := ["_law_cell"]) Fq3 bq3 (PySem.W.mg_of X G aq3)
  have Fn1 := fun_mk (st := sAllRows) ln1 cn1 kn1
  have bn1 := Fn1.binds (ps := ["_law_many"]) fun _ _ _ _ _ _ us hl => match us, hl with | [_], _ => rfl
  have Nn1 := Fn.mk (ps := ["_law_many"]) Fn1 bn1 (PySem.W.mg_of X G an1)
  have Fn2 := fun_mk (st := sLIsTable) ln2 cn2 kn2
  have bn2 := Fn2.binds (ps := ["_law_many", "_law_thing"]) fun _ _ _ _ _ _ us hl => match us, hl with | [_, _], _ => rfl
  have Nn2 := Fn.mk (ps := ["_law_many", "_law_thing"]) Fn2 bn2 (PySem.W.mg_of X G an2)
  have Fn3 := fun_mk (st := sLChanges) ln3 cn3 kn3
  have bn3 := Fn3.binds (ps := ["_law_row"]) fun _ _ _ _ _ _ us hl => match us, hl with | [_], _ => rfl
  have Nn3 := Fn.mk (ps := ["_law_row"]) Fn3 bn3 (PySem.W.mg_of X G an3)
  have Fn4 := fun_mk (st := sPaceAt) ln4 cn4 kn4
  have bn4 := Fn4.binds (ps := ["_law_row", "_law_shut", "_law_paces"]) fun _ _ _ _ _ _ us hl => match us, hl with | [_, _, _], _ => rfl
  have Nn4 := Fn.mk (ps := ["_law_row", "_law_shut", "_law_paces"]) Fn4 bn4 (PySem.W.mg_of X G an4)
  have Fn5 := fun_mk (st := sLTimes) ln5 cn5 kn5
  have bn5 := Fn5.binds (ps := ["_law_one", "_law_other"]) fun _ _ _ _ _ _ us hl => match us, hl with | [_, _], _ => rfl
  have Nn5 := Fn.mk (ps := ["_law_one", "_law_other"]) Fn5 bn5 (PySem.W.mg_of X G an5)
  have Fn8 := fun_mk (st := sLPlus) ln8 cn8 kn8
  have bn8 := Fn8.binds (ps := ["_law_one", "_law_other"]) fun _ _ _ _ _ _ us hl => match us, hl with | [_, _], _ => rfl
  have Nn8 := Fn.mk (ps := ["_law_one", "_law_other"]) Fn8 bn8 (PySem.W.mg_of X G an8)
  have Fg1 := fun_mk (st := sLIsStill) lg1 cg1 kg1
  have bg1 := Fg1.binds (ps := ["_law_many", "_law_thing", "_law_paces"]) fun _ _ _ _ _ _ us hl => match us, hl with | [_, _, _], _ => rfl
  have Ng1 := Fn.mk (ps := ["_law_many", "_law_thing", "_law_paces"]) Fg1 bg1 (PySem.W.mg_of X G ag1)
  have Fg2 := fun_mk (st := sLOwn) lg2 cg2 kg2
  have bg2 := Fg2.binds (ps := ["_law_pace"]) fun _ _ _ _ _ _ us hl => match us, hl with | [_], _ => rfl
  have Ng2 := Fn.mk (ps := ["_law_pace"]) Fg2 bg2 (PySem.W.mg_of X G ag2)
  have Fg3 := fun_mk (st := sBentT) lg3 cg3 kg3
  have bg3 := Fg3.binds (ps := ["_law_cell", "_law_some"]) fun _ _ _ _ _ _ us hl => match us, hl with | [_, _], _ => rfl
  have Ng3 := Fn.mk (ps := ["_law_cell", "_law_some"]) Fg3 bg3 (PySem.W.mg_of X G ag3)
  have y0 := PySem.W.mg_none_of X G z0
  have y1 := PySem.W.mg_none_of X G z1
  have y2 := PySem.W.mg_none_of X G z2
  have y3 := PySem.W.mg_none_of X G z3
  have y4 := PySem.W.mg_none_of X G z4
  have y5 := PySem.W.mg_none_of X G z5
  have y6 := PySem.W.mg_none_of X G z6
  have y7 := PySem.W.mg_none_of X G z7
  have y8 := PySem.W.mg_none_of X G z8
  have y9 := PySem.W.mg_none_of X G z9
  have y10 := PySem.W.mg_none_of X G z10
  have y11 := PySem.W.mg_none_of X G z11
  have y12 := PySem.W.mg_none_of X G z12
  have y13 := PySem.W.mg_none_of X G z13
  have y14 := PySem.W.mg_none_of X G z14
  have y15 := PySem.W.mg_none_of X G z15
  have y16 := PySem.W.mg_none_of X G z16
  have wb0 := PySem.W.mg_of X G gb0
  have wf0 := PySem.W.mg_of X G gf0
  have wm0 := PySem.W.mg_of X G gm0
  have wx0 := PySem.W.mg_of X G gx0
  have CLC : Cls K C := ⟨C_pg, C_hd, C_po, C_sa⟩
  have ICC : C8.InsC K C := ⟨CLC, C_ha, q_hn, q_htk, C_hm, kit_me⟩
  have Fmp := fun_mk (st := sPlus) lmp cmp kmp
  have bmp := Fmp.binds (ps := ["self", "other"]) fun _ _ _ _ _ _ us hl => match us, hl with | [_, _], _ => rfl
  have Fmt := fun_mk (st := sTimes) lmt cmt kmt
  have bmt := Fmt.binds (ps := ["self", "other"]) fun _ _ _ _ _ _ us hl => match us, hl with | [_, _], _ => rfl
  have Fmx := fun_mk (st := sEq) lmx cmx kmx
  have bmx := Fmx.binds (ps := ["self", "other"]) fun _ _ _ _ _ _ us hl => match us, hl with | [_, _], _ => rfl
  have Fmo := fun_mk (st := sOver) lmo cmo kmo
  have bmo := Fmo.binds (ps := ["self", "other"]) fun _ _ _ _ _ _ us hl => match us, hl with | [_, _], _ => rfl
  have Fi : FunD K "__init__" "Part.__init__" (defArgs sInit) (defBody sInit) (defScope sInit) [.int 1] [] fi _ := ⟨⟨oci, odi, _, _, _, _, _, _, _, sli, rfl, li, ci, .inr ⟨by simp, Ti, _, [.int 1 tki0], nTi, rfl, di, rfl, .cons (⟨_, rfl⟩) .nil⟩, .inl rfl⟩, ki⟩
  obtain ⟨dsi3, rri3, bi3⟩ := Fi.binds1 (ps := ["self", "top", "bottom"]) 3 1 (by simp) rfl (fun T kV doc pm an cdv ct us its hl hi => match us, its, hl, hi with | [_, _, _], [_], _, _ => ⟨_, rfl, rfl⟩)
  obtain rfl : dsi3 = [] := by cases rri3; rfl
  obtain ⟨dsi2, rri2, bi2⟩ := Fi.binds1 (ps := ["self", "top", "bottom"]) 2 0 (by simp) rfl (fun T kV doc pm an cdv ct us its hl hi => match us, its, hl, hi with | [_, _], [_], _, _ => ⟨_, rfl, rfl⟩)
  obtain ⟨d1i, rfl, r1i⟩ : ∃ d1, dsi2 = [d1] ∧ RelV (.int 1) d1 := by
    cases rri2 with
    | cons r rr =>
      cases rr
      exact ⟨_, rfl, r⟩
  have Fv1 : FunD K "weight" "weight" (defArgs sWeight) (defBody sWeight) (defScope sWeight) [.non, .non] [] fv1 _ := ⟨⟨ocv1, odv1, _, _, _, _, _, _, _, slv1, rfl, lv1, cv1, .inr ⟨by simp, Tv1, _, [.none, .none], nTv1, rfl, dv1, rfl, .cons (rfl) (.cons (rfl) .nil)⟩, .inl rfl⟩, kv1⟩
  obtain ⟨dsv13, rrv13, bv13⟩ := Fv1.binds1 (ps := ["row", "inn", "out"]) 3 2 (by simp) rfl (fun T kV doc pm an cdv ct us its hl hi => match us, its, hl, hi with | [_, _, _], [_, _], _, _ => ⟨_, rfl, rfl⟩)
  obtain rfl : dsv13 = [] := by cases rrv13; rfl
  obtain ⟨dsv11, rrv11, bv11⟩ := Fv1.binds1 (ps := ["row", "inn", "out"]) 1 0 (by simp) rfl (fun T kV doc pm an cdv ct us its hl hi => match us, its, hl, hi with | [_], [_, _], _, _ => ⟨_, rfl, rfl⟩)
  have Fv2 : FunD K "table" "table" (defArgs sTable) (defBody sTable) (defScope sTable) [.non, .non] [] fv2 _ := ⟨⟨ocv2, odv2, _, _, _, _, _, _, _, slv2, rfl, lv2, cv2, .inr ⟨by simp, Tv2, _, [.none, .none], nTv2, rfl, dv2, rfl, .cons (rfl) (.cons (rfl) .nil)⟩, .inl rfl⟩, kv2⟩
  obtain ⟨dsv23, rrv23, bv23⟩ := Fv2.binds1 (ps := ["many", "inn", "out"]) 3 2 (by simp) rfl (fun T kV doc pm an cdv ct us its hl hi => match us, its, hl, hi with | [_, _, _], [_, _], _, _ => ⟨_, rfl, rfl⟩)
  obtain rfl : dsv23 = [] := by cases rrv23; rfl
  obtain ⟨dsv21, rrv21, bv21⟩ := Fv2.binds1 (ps := ["many", "inn", "out"]) 1 0 (by simp) rfl (fun T kV doc pm an cdv ct us its hl hi => match us, its, hl, hi with | [_], [_, _], _, _ => ⟨_, rfl, rfl⟩)
  have Fv3 : FunD K "times_told" "times_told" (defArgs sTimesTold) (defBody sTimesTold) (defScope sTimesTold) [.non, .non] [] fv3 _ := ⟨⟨ocv3, odv3, _, _, _, _, _, _, _, slv3, rfl, lv3, cv3, .inr ⟨by simp, Tv3, _, [.none, .none], nTv3, rfl, dv3, rfl, .cons (rfl) (.cons (rfl) .nil)⟩, .inl rfl⟩, kv3⟩
  obtain ⟨dsv34, rrv34, bv34⟩ := Fv3.binds1 (ps := ["many", "thing", "inn", "out"]) 4 2 (by simp) rfl (fun T kV doc pm an cdv ct us its hl hi => match us, its, hl, hi with | [_, _, _, _], [_, _], _, _ => ⟨_, rfl, rfl⟩)
  obtain rfl : dsv34 = [] := by cases rrv34; rfl
  have Fv4 : FunD K "is_still" "is_still" (defArgs sStill) (defBody sStill) (defScope sStill) [.non, .non] [] fv4 _ := ⟨⟨ocv4, odv4, _, _, _, _, _, _, _, slv4, rfl, lv4, cv4, .inr ⟨by simp, Tv4, _, [.none, .none], nTv4, rfl, dv4, rfl, .cons (rfl) (.cons (rfl) .nil)⟩, .inl rfl⟩, kv4⟩
  obtain ⟨dsv44, rrv44, bv44⟩ := Fv4.binds1 (ps := ["many", "thing", "inn", "out"]) 4 2 (by simp) rfl (fun T kV doc pm an cdv ct us its hl hi => match us, its, hl, hi with | [_, _, _, _], [_, _], _, _ => ⟨_, rfl, rfl⟩)
  obtain rfl : dsv44 = [] := by cases rrv44; rfl
  obtain ⟨dA, dB, rfl, rA, rB⟩ : ∃ a b, dsv11 = [a, b] ∧ RelV .non a ∧ RelV .non b := by
    cases rrv11 with
    | cons r rr =>
      cases rr with
      | cons r' rr =>
        cases rr
        exact ⟨_, _, rfl, r, r'⟩
  have TR : TxtR K w mg d es n := ⟨y0, y1, y6, y3, y7, y4, y5, y8, y9, y10, y11, ⟨_, wb0⟩, ⟨_, wf0⟩, ⟨_, wm0⟩, PySem.W.mg_of X G gd, ⟨ld, kd, sd⟩, ⟨_, vo⟩, ⟨_, vp⟩⟩
  have T0 : TxtL mg := ⟨y12, y1, y0, y13, y14, y8⟩
  have MK : Mks K mg C fi f1 f2 _ _ _ d1i := ⟨⟨C_mk, ai, ni, C_kc⟩, Fi, bi3, bi2, r1i, N1, N2⟩
  have EC : EqC K C fmx := ⟨mmx, nmx, _, _, _, _, _, _, _, _, _, _, _, _, _, _, _, _, eqK, eqO, eqE, eqN⟩
  have EN : EnDefs K mg := ⟨⟨_, _, NR1⟩, ⟨_, _, NW1⟩, ⟨_, _, NW2⟩, ⟨_, _, NB1⟩, ⟨_, _, NF1⟩⟩
  have WD : WtDefs K mg C fi f1 f2 fv1 _ _ _ _ d1i dA dB := ⟨MK, EN, ⟨_, _, NR2⟩, ⟨_, _, NP1⟩, ⟨_, _, NP2⟩, ⟨_, _, NE1⟩, ⟨_, _, NS1⟩, ⟨_, _, Nu1⟩, Fv1, bv13, bv11, rA, rB, PySem.W.mg_of X G av1⟩
  have TB : TbDefs K mg C fi f1 f2 fv1 _ _ _ _ d1i dA dB := ⟨WD, ⟨_, _, N1⟩, ⟨_, _, N0⟩, ⟨_, _, NA1⟩, ⟨_, _, NA2⟩, ⟨_, wx0⟩⟩
  have PD : PtDefs K mg C fi f1 f2 _ _ _ d1i fz1 fmt fmo fmx fmp _ _ _ _ _ := ⟨MK, Nz1, Fmt, bmt, ⟨mmt, nmt, kmt⟩, Fmo, bmo, ⟨mmo, nmo, kmo⟩, Fmx, bmx, EC, Fmp, bmp, ⟨mmp, nmp, kmp⟩⟩
  have XD : TtDefs K mg C fi f1 f2 fv1 fv2 fz1 fmt fmo fmx fmp _ _ _ _ _ _ _ _ _ _ d1i dA dB := ⟨TB, PD, Fv2, bv23, PySem.W.mg_of X G av2, ⟨_, _, Nt1⟩, ⟨_, _, Nt2⟩, ⟨_, _, Nt3⟩, ⟨_, _, Nt4⟩⟩
  have TT : TxtT mg := ⟨y15, y10, y7, y6, y13⟩
  obtain ⟨dD, dE, rfl, rD, rE⟩ : ∃ a b, dsv21 = [a, b] ∧ RelV .non a ∧ RelV .non b := by
    cases rrv21 with
    | cons r rr =>
      cases rr with
      | cons r' rr =>
        cases rr
        exact ⟨_, _, rfl, r, r'⟩
  have KP : KpT K C := ⟨kit_tyC C_hd tyC kt_NoneType, kit_tyC C_hd tyC kt_int, kit_tyC C_hd tyC kt_str, kit_tyC C_hd tyC kt_tuple, kit_tyC C_hd tyC kt_bool⟩
  have LS : LsDefs K mg := ⟨⟨_, _, Nn2⟩, ⟨_, _, Nn1⟩, ⟨_, _, Nn3⟩, ⟨_, _, Nn5⟩, ⟨_, _, Nn4⟩, ⟨_, _, Nn8⟩, ⟨_, _, Nq2⟩, y16⟩
  have DF : Df K mg C fi f1 f2 fv1 fv2 fz1 fmt fmo fmx fmp fv4 fv3 _ _ _ _ _ _ _ _ _ _ _ _ d1i dA dB dD dE := ⟨XD, Fv4, bv44, PySem.W.mg_of X G av4, Fv3, bv34, PySem.W.mg_of X G av3, bv21, rD, rE, LS, ⟨_, _, Nw⟩, ⟨_, _, Nq1⟩, ⟨_, _, Nq3⟩, ⟨_, _, Ng2⟩, ⟨_, _, Ng1⟩, ⟨_, _, Ng3⟩, KP⟩
  have T : TxtP K mg C := ⟨y0, y1, y2, y3, y4, y5, ICC, C_n_top, C_n_bottom, PySem.W.mg_of X G gC⟩
  exact ⟨PySem.W.fnOf "law" "law" (defArgs sLaw) (defBody sLaw) (defScope sLaw) .none kVL dcL pmL anL cdL ctL, fun s v => .of_eq rfl, fun base _ _ => ok_law (fun_mk (st := sLaw) lL cL kL) DF T TR T0 TT⟩
end Hop
open PySem PySem.W PyProof.Rows in
set_option maxRecDepth 100000 in
set_option maxHeartbeats 0 in
theorem PySem.Challenge.cw_hopline_k71_still_tables_or_not_holds : PySem.Challenge.rw_hopline_k71_still_tables_or_not.Holds := by
  w_on; o_law; k_head; (case hw => w_witness2)
  k_fill
  refine L2.walk_of (l := PySem.Challenge.rw_hopline_k71_still_tables_or_not) (n := 63) (k := 11) (x := "_law_script") (CX := fun _ => L2.CX0) (sp := fun w => Hop.spLaw _) rfl (by decide) rfl ⟨rfl, by decide, by decide⟩ (fun w h Y => PySem.W.kIn_of Y) ?F (fun _ _ a ns hl _ hS => ⟨a, ns, rfl, hS, hl, fun _ => rfl⟩) (fun _ _ _ _ _ h => h)
  case F =>
    intro w mg fa h KX G hmg
    refine' Hop.all_mk KX G hmg ?u_a1 ?u_l1 ?u_c1 ?u_k1 ?u_a0 ?u_l0 ?u_c0 ?u_k0 ?u_a2 ?u_l2 ?u_c2 ?u_k2 ?u_au1 ?u_lu1 ?u_cu1 ?u_ku1 ?u_az1 ?u_lz1 ?u_cz1 ?u_kz1 ?u_aR1 ?u_lR1 ?u_cR1 ?u_kR1 ?u_aR2 ?u_lR2 ?u_cR2 ?u_kR2 ?u_aA1 ?u_lA1 ?u_cA1 ?u_kA1 ?u_aA2 ?u_lA2 ?u_cA2 ?u_kA2 ?u_aP1 ?u_lP1 ?u_cP1 ?u_kP1 ?u_aP2 ?u_lP2 ?u_cP2 ?u_kP2 ?u_aW1 ?u_lW1 ?u_cW1 ?u_kW1 ?u_aW2 ?u_lW2 ?u_cW2 ?u_kW2 ?u_aB1 ?u_lB1 ?u_cB1 ?u_kB1 ?u_aF1 ?u_lF1 ?u_cF1 ?u_kF1 ?u_aE1 ?u_lE1 ?u_cE1 ?u_kE1 ?u_aS1 ?u_lS1 ?u_cS1 ?u_kS1 ?u_at1 ?u_lt1 ?u_ct1 ?u_kt1 ?u_at2 ?u_lt2 ?u_ct2 ?u_kt2 ?u_at3 ?u_lt3 ?u_ct3 ?u_kt3 ?u_at4 ?u_lt4 ?u_ct4 ?u_kt4 ?u_aw ?u_lw ?u_cw ?u_kw ?u_aq1 ?u_lq1 ?u_cq1 ?u_kq1 ?u_aq2 ?u_lq2 ?u_cq2 ?u_kq2 ?u_aq3 ?u_lq3 ?u_cq3 ?u_kq3 ?u_an1 ?u_ln1 ?u_cn1 ?u_kn1 ?u_an2 ?u_ln2 ?u_cn2 ?u_kn2 ?u_an3 ?u_ln3 ?u_cn3 ?u_kn3 ?u_an4 ?u_ln4 ?u_cn4 ?u_kn4 ?u_an5 ?u_ln5 ?u_cn5 ?u_kn5 ?u_an8 ?u_ln8 ?u_cn8 ?u_kn8 ?u_ag1 ?u_lg1 ?u_cg1 ?u_kg1 ?u_ag2 ?u_lg2 ?u_cg2 ?u_kg2 ?u_ag3 ?u_lg3 ?u_cg3 ?u_kg3 ?u_aL ?u_lL ?u_cL ?u_kL ?u_z0 ?u_z1 ?u_z2 ?u_z3 ?u_z4 ?u_z5 ?u_z6 ?u_z7 ?u_z8 ?u_z9 ?u_z10 ?u_z11 ?u_z12 ?u_z13 ?u_z14 ?u_z15 ?u_z16 ?u_gb0 ?u_gf0 ?u_gm0 ?u_gx0 ?u_gd ?u_ld ?u_kd ?u_sd ?u_vo ?u_vp ?u_gC ?u_C_pg ?u_C_hd ?u_C_po ?u_C_sa ?u_C_mk ?u_C_kc ?u_C_ha ?u_C_hm ?u_q_hn ?u_q_htk ?u_C_n_top ?u_C_n_bottom ?u_mmp ?u_nmp ?u_lmp ?u_cmp ?u_kmp ?u_mmt ?u_nmt ?u_lmt ?u_cmt ?u_kmt ?u_mmx ?u_nmx ?u_lmx ?u_cmx ?u_kmx ?u_mmo ?u_nmo ?u_lmo ?u_cmo ?u_kmo ?u_eqK ?u_eqO ?u_eqE ?u_eqN ?u_ai ?u_ni ?u_li ?u_ci ?u_ki ?u_di ?u_av1 ?u_nv1 ?u_lv1 ?u_cv1 ?u_kv1 ?u_dv1 ?u_av2 ?u_nv2 ?u_lv2 ?u_cv2 ?u_kv2 ?u_dv2 ?u_av3 ?u_nv3 ?u_lv3 ?u_cv3 ?u_kv3 ?u_dv3 ?u_av4 ?u_nv4 ?u_lv4 ?u_cv4 ?u_kv4 ?u_dv4 ?u_tyC ?u_kt_NoneType ?u_kt_int ?u_kt_str ?u_kt_tuple ?u_kt_bool
    (case u_a1 => k_is)
    (case u_l1 => k_is)
    (case u_c1 => k_is)
    (case u_k1 => k_is)
    (case u_a0 => k_is)
    (case u_l0 => k_is)
    (case u_c0 => k_is)
    (case u_k0 => k_is)
    (case u_a2 => k_is)
    (case u_l2 => k_is)
    (case u_c2 => k_is)
    (case u_k2 => k_is)
    (case u_au1 => k_is)
    (case u_lu1 => k_is)
    (case u_cu1 => k_is)
    (case u_ku1 => k_is)
    (case u_az1 => k_is)
    (case u_lz1 => k_is)
    (case u_cz1 => k_is)
    (case u_kz1 => k_is)
    (case u_aR1 => k_is)
    (case u_lR1 => k_is)
    (case u_cR1 => k_is)
    (case u_kR1 => k_is)
    (case u_aR2 => k_is)
    (case u_lR2 => k_is)
    (case u_cR2 => k_is)
    (case u_kR2 => k_is)
    (case u_aA1 => k_is)
    (case u_lA1 => k_is)
    (case u_cA1 => k_is)
    (case u_kA1 => k_is)
    (case u_aA2 => k_is)
    (case u_lA2 => k_is)
    (case u_cA2 => k_is)
    (case u_kA2 => k_is)
    (case u_aP1 => k_is)
    (case u_lP1 => k_is)
    (case u_cP1 => k_is)
    (case u_kP1 => k_is)
    (case u_aP2 => k_is)
    (case u_lP2 => k_is)
    (case u_cP2 => k_is)
    (case u_kP2 => k_is)
    (case u_aW1 => k_is)
    (case u_lW1 => k_is)
    (case u_cW1 => k_is)
    (case u_kW1 => k_is)
    (case u_aW2 => k_is)
    (case u_lW2 => k_is)
    (case u_cW2 => k_is)
    (case u_kW2 => k_is)
    (case u_aB1 => k_is)
    (case u_lB1 => k_is)
    (case u_cB1 => k_is)
    (case u_kB1 => k_is)
    (case u_aF1 => k_is)
    (case u_lF1 => k_is)
    (case u_cF1 => k_is)
    (case u_kF1 => k_is)
    (case u_aE1 => k_is)
    (case u_lE1 => k_is)
    (case u_cE1 => k_is)
    (case u_kE1 => k_is)
    (case u_aS1 => k_is)
    (case u_lS1 => k_is)
    (case u_cS1 => k_is)
    (case u_kS1 => k_is)
    (case u_at1 => k_is)
    (case u_lt1 => k_is)
    (case u_ct1 => k_is)
    (case u_kt1 => k_is)
    (case u_at2 => k_is)
    (case u_lt2 => k_is)
    (case u_ct2 => k_is)
    (case u_kt2 => k_is)
    (case u_at3 => k_is)
    (case u_lt3 => k_is)
    (case u_ct3 => k_is)
    (case u_kt3 => k_is)
    (case u_at4 => k_is)
    (case u_lt4 => k_is)
    (case u_ct4 => k_is)
    (case u_kt4 => k_is)
    (case u_aw => k_is)
    (case u_lw => k_is)
    (case u_cw => k_is)
    (case u_kw => k_is)
    (case u_aq1 => k_is)
    (case u_lq1 => k_is)
    (case u_cq1 => k_is)
    (case u_kq1 => k_is)
    (case u_aq2 => k_is)
    (case u_lq2 => k_is)
    (case u_cq2 => k_is)
    (case u_kq2 => k_is)
    (case u_aq3 => k_is)
    (case u_lq3 => k_is)
    (case u_cq3 => k_is)
    (case u_kq3 => k_is)
    (case u_an1 => k_is)
    (case u_ln1 => k_is)
    (case u_cn1 => k_is)
    (case u_kn1 => k_is)
    (case u_an2 => k_is)
    (case u_ln2 => k_is)
    (case u_cn2 => k_is)
    (case u_kn2 => k_is)
    (case u_an3 => k_is)
    (case u_ln3 => k_is)
    (case u_cn3 => k_is)
    (case u_kn3 => k_is)
    (case u_an4 => k_is)
    (case u_ln4 => k_is)
    (case u_cn4 => k_is)
    (case u_kn4 => k_is)
    (case u_an5 => k_is)
    (case u_ln5 => k_is)
    (case u_cn5 => k_is)
    (case u_kn5 => k_is)
    (case u_an8 => k_is)
    (case u_ln8 => k_is)
    (case u_cn8 => k_is)
    (case u_kn8 => k_is)
    (case u_ag1 => k_is)
    (case u_lg1 => k_is)
    (case u_cg1 => k_is)
    (case u_kg1 => k_is)
    (case u_ag2 => k_is)
    (case u_lg2 => k_is)
    (case u_cg2 => k_is)
    (case u_kg2 => k_is)
    (case u_ag3 => k_is)
    (case u_lg3 => k_is)
    (case u_cg3 => k_is)
    (case u_kg3 => k_is)
    (case u_aL => k_is)
    (case u_lL => k_is)
    (case u_cL => k_is)
    (case u_kL => k_is)
    (case u_z0 => k_is)
    (case u_z1 => k_is)
    (case u_z2 => k_is)
    (case u_z3 => k_is)
    (case u_z4 => k_is)
    (case u_z5 => k_is)
    (case u_z6 => k_is)
    (case u_z7 => k_is)
    (case u_z8 => k_is)
    (case u_z9 => k_is)
    (case u_z10 => k_is)
    (case u_z11 => k_is)
    (case u_z12 => k_is)
    (case u_z13 => k_is)
    (case u_z14 => k_is)
    (case u_z15 => k_is)
    (case u_z16 => k_is)
    (case u_gb0 => k_is)
    (case u_gf0 => k_is)
    (case u_gm0 => k_is)
    (case u_gx0 => k_is)
    (case u_gd => k_is)
    (case u_ld => k_is)
    (case u_kd => k_keys)
    (case u_sd => decide)
    (case u_vo => k_is)
    (case u_vp => k_is)
    (case u_gC => k_is)
    (case u_C_pg => k_is)
    (case u_C_hd => k_is)
    (case u_C_po => k_is)
    (case u_C_sa => k_is)
    (case u_C_mk => k_is)
    (case u_C_kc => k_is)
    (case u_C_ha => k_is)
    (case u_C_hm => k_is)
    (case u_q_hn => k_is)
    (case u_q_htk => k_is)
    (case u_C_n_top => k_is)
    (case u_C_n_bottom => k_is)
    (case u_mmp => k_is)
    (case u_nmp => k_is)
    (case u_lmp => k_is)
    (case u_cmp => k_is)
    (case u_kmp => k_is)
    (case u_mmt => k_is)
    (case u_nmt => k_is)
    (case u_lmt => k_is)
    (case u_cmt => k_is)
    (case u_kmt => k_is)
    (case u_mmx => k_is)
    (case u_nmx => k_is)
    (case u_lmx => k_is)
    (case u_cmx => k_is)
    (case u_kmx => k_is)
    (case u_mmo => k_is)
    (case u_nmo => k_is)
    (case u_lmo => k_is)
    (case u_cmo => k_is)
    (case u_kmo => k_is)
    (case u_eqK => k_is)
    (case u_eqO => first | kernel_rfl | decide +kernel | rfl)
    (case u_eqE => k_is)
    (case u_eqN => k_is)
    (case u_ai => k_is)
    (case u_ni => k_is)
    (case u_li => k_is)
    (case u_ci => k_is)
    (case u_ki => k_is)
    (case u_di => k_is)
    (case u_av1 => k_is)
    (case u_nv1 => k_is)
    (case u_lv1 => k_is)
    (case u_cv1 => k_is)
    (case u_kv1 => k_is)
    (case u_dv1 => k_is)
    (case u_av2 => k_is)
    (case u_nv2 => k_is)
    (case u_lv2 => k_is)
    (case u_cv2 => k_is)
    (case u_kv2 => k_is)
    (case u_dv2 => k_is)
    (case u_av3 => k_is)
    (case u_nv3 => k_is)
    (case u_lv3 => k_is)
    (case u_cv3 => k_is)
    (case u_kv3 => k_is)
    (case u_dv3 => k_is)
    (case u_av4 => k_is)
    (case u_nv4 => k_is)
    (case u_lv4 => k_is)
    (case u_cv4 => k_is)
    (case u_kv4 => k_is)
    (case u_dv4 => k_is)
    (case u_tyC => k_is)
    (case u_kt_NoneType => first | kx_is | k_is | kernel_rfl | decide +kernel)
    (case u_kt_int => first | kx_is | k_is | kernel_rfl | decide +kernel)
    (case u_kt_str => first | kx_is | k_is | kernel_rfl | decide +kernel)
    (case u_kt_tuple => first | kx_is | k_is | kernel_rfl | decide +kernel)
    (case u_kt_bool => first | kx_is | k_is | kernel_rfl | decide +kernel)
