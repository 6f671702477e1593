import PyProof.Rows.All
import Wide.All
import OpenK.AllK
import Wide.FinOn
import HandS.ForMost
import HandS.Wide
import HandS.Style
import HandS.RevTup
import HandS.Rev
import HandS.IsInst
import HandS.More
import HandS.Conv
import HandS.Defaults
import HandS.ForExc
import HandS.OwnEq
import HandS.Flow
import PyProof.ListStr
import HandS.Walk
import HandS.EndBits
import PyProof.ReprRoads
import PyProof.ReprLen
import HandS.Exc
import HandS.ExcIs
import HandS.TryOnly
import HandS.ExcOwn
import HandS.WordsExc
import HandS.FStr
import PyProof.FString3
import KE.KExcLine
import KE.KCallOwn
import PyProof.ReprReads
import PyProof.ReprNest
import HandS.MapJoin
import HandS.WideBits
import HandS.StrMore
import PyProof.FitsStr
import PyProof.InstNe
import HandS.Codes
import HandS.SortInts
import HandS.SortRule
import KE.KSortTupAny
import HandS.Dict
import HandS.SortOrd
import PyProof.TupleOfStr
import HandS.SortKw
import KE.GoesZip
import KE.GoesMore
import PyProof.Draws
import PyProof.WalksT
import PyProof.EqAt
import PyProof.EqKinds
import KE.KFmtOwn
import PyProof.StrHeap
import PySem.Challenge.RW_hopline_k04_parts_read
import HandS.Text

set_option Elab.async false
set_option linter.all false
set_option maxRecDepth 100000
namespace HopR
open PySem PySem.Spec PyProof.Rows L2
/-! rules of my own: texts -/
/-- the signs of a text, each a text -/
def sg (z : Str) : List Str := z.cps.toList.map fun c => ⟨#[c]⟩
theorem sg_len (z : Str) : (sg z).length = z.length := by
  unfold sg
  rw [List.length_map]
  rfl
theorem sg_get {z : Str} {i : Nat} {c : Nat} (h : z.cps[i]? = some c) : (sg z)[i]? = some ⟨#[c]⟩ := by
  unfold sg
  rw [List.getElem?_map, Array.getElem?_toList, h]
  rfl
theorem strsAre_of : ∀ (vs : List Value) (ys : List Str), vs.length = ys.length → (∀ (j : Nat) (v : Value), vs[j]? = some v → ∃ y t, ys[j]? = some y ∧ v = .str y t) → StrsAre vs ys
  | [], [], _, _ => .nil
  | v :: r, y :: q, hl, h => by
    obtain ⟨y', t, e1, e2⟩ := h 0 v rfl
    have e3 : y = y' := Option.some.inj e1
    subst e3 e2
    exact .cons y t (strsAre_of r q (by simpa using hl) fun j w hw => h (j + 1) w hw)
theorem signs_are {z : Str} {acc : Array Value} (h : ItemsOf (SignAt z) acc z.cps.size) : StrsAre acc.toList (sg z) := by
  refine strsAre_of _ _ (by rw [sg_len, Array.length_toList, h.1]; rfl) fun j v hv => ?_
  obtain ⟨c, u, hc, e⟩ := h.2 j v (by rw [← Array.getElem?_toList]; exact hv)
  exact ⟨⟨#[c]⟩, u, sg_get hc, e⟩
section
variable {X : Cx}
/-- sorted(text) -/
def rSortT : List V → Hp → VK → Prop := fun vs H Q => ∃ z : Str, vs = [.str z] ∧ z.length < 64 ∧ ∀ (ys : List Str) (p : Addr), ys.Perm (sg z) → sortedS ys = true → H p = none → Q (.ref p) (upd H p (.lst (ys.map V.str)))
theorem cr_sortT (hcm : X.calm = true) : CallR X (.builtin "sorted") rSortT := by
  intro pins s σ H xs us Q I r h
  obtain ⟨z, rfl, h64, q⟩ := h
  obtain ⟨u, rfl, t, rfl⟩ := vals1 r
  refine Calls.call_function_entry kind_sorted plain_sorted entry_sorted (args_sorted1 (.str z t)) ?_
  unfold Builtin.«sorted»
  refine wpAny_bind (m := checkCount "sorted" 1 1 [Value.str z t].length) (wpAny_pure ?_)
  have hz : z.cps.size < 64 := h64
  refine wpAny_bind (wpAny_collect_str (A := X.A.in1) (show X.A.in1.handled = none from I.ok.hd hcm) z t (fun s' acc hk hg hdr hos hit => ?_) (Nat.le_trans (Nat.le_of_lt hz) (by decide)))
  have hS := signs_are hit
  have es : s' = { s with heap := s'.heap, toks := s'.toks } := by
    cases s'
    cases s
    simp only at hg hdr hos
    subst hg hdr hos
    rfl
  have hal : acc.toList.length < 64 := by rw [Array.length_toList, hit.1]; exact hz
  refine wpAny_bind (wpAny_newList ?_ (Nat.le_trans (Nat.le_of_lt hal) (by decide)))
  have hoL : (s'.heap.push (seqObj "list" acc.toList.toArray 0)).get? s'.heap.objs.size = some (seqObj "list" acc.toList.toArray 0) := Heap.get?_push_size _ rfl
  refine wpAny_bind (wpAny_holding (wpAny_call_entry slot_list_sort ⟨_, hoL, rfl⟩ entry_list_sort (list_sort_treeK strKind_oneLt hoL hS.keysOf (fun v₁ v₂ rest e => keyKind_strs (by rw [← e]; exact hS)) hal fun st' hp hs => ⟨_, rfl, ?_⟩) (args_list_sort _)))
  obtain ⟨ys, g1, g2, g3⟩ := sorted_out_str hS hp hs
  obtain ⟨ep, he'⟩ := sortedHeap_at (vs := acc.toList) (out := (arrOf st').map (·.2)) hoL
  have I1 : Inv X pins σ H s' := by
    rw [es]
    exact I.kept hk
  have hlen : (ys.map V.str).length ≤ sizeLine := by
    rw [List.length_map, g2.length_eq, sg_len]
    exact Nat.le_trans (Nat.le_of_lt h64) (by decide)
  have hne : ∀ b o, s'.heap.get? b = some o → (sortedHeap (s'.heap.push (seqObj "list" acc.toList.toArray 0)) s'.heap.objs.size acc.toList ((arrOf st').map (·.2))).get? b = some o := fun b o e => by
    rw [sortedHeap_old (Nat.ne_of_lt (Heap.lt_size e)) (by rw [size_push']; exact Nat.lt_succ_of_lt (Heap.lt_size e))]
    exact Heap.get?_push_of_some _ e
  refine wpAny_pure ⟨_, rfl, .ref _, upd H s'.heap.objs.size (.lst (ys.map V.str)), I1.laid (t' := s'.toks) hne (Nat.le_refl _) ?_, rfl, q ys _ g2 g3 (I1.hok.fresh (Nat.le_refl _))⟩
  exact ⟨hlen, ((arrOf st').map (·.2)).toList, ep, vals_of_strs g1, by rw [Array.toArray_toList]; exact he'⟩
/-- list(text) -/
def rListT : List V → Hp → VK → Prop := fun vs H Q => ∃ z : Str, vs = [.str z] ∧ z.length ≤ sizeLine ∧ ∀ p : Addr, H p = none → Q (.ref p) (upd H p (.lst ((sg z).map V.str)))
theorem cr_listT (hcm : X.calm = true) : CallR X (.type "list") rListT := by
  intro pins s σ H xs us Q I r h
  obtain ⟨z, rfl, hz, q⟩ := h
  obtain ⟨u, rfl, t, rfl⟩ := vals1 r
  refine call_list_str (I.ok.hd hcm) z t (fun h' tk acc c' hk hS' hit => ?_) hz
  refine ⟨.ref _, upd H s.heap.objs.size (.lst ((sg z).map V.str)), I.laid hk (Nat.le_refl _) ?_, rfl, q _ (I.hok.fresh (Nat.le_refl _))⟩
  exact ⟨by rw [List.length_map, sg_len]; exact hz, acc.toList, c', vals_of_strs (signs_are hit), by rw [Array.toArray_toList]; exact hS'⟩
/-- text * n -/
def repS (z : Str) (n : Nat) : Str := ⟨((List.replicate n z.cps.toList).flatten).toArray⟩
theorem foldl_app : ∀ (n : Nat) (a b : Array Nat), ((List.replicate n a).foldl (· ++ ·) b).toList = b.toList ++ (List.replicate n a.toList).flatten
  | 0, a, b => by simp
  | n + 1, a, b => by
    rw [List.replicate_succ, List.foldl_cons, foldl_app n, List.replicate_succ, List.flatten_cons, Array.toList_append, List.append_assoc]
theorem repS_len (z : Str) (k : Nat) : (repS z k).length = z.length * k := by
  show ((List.replicate k z.cps.toList).flatten).toArray.size = z.cps.size * k
  rw [List.size_toArray, List.length_flatten, List.map_replicate, List.sum_replicate_nat, Array.length_toList, Nat.mul_comm]
def rRepS : R2 := fun x y H Q => ∃ (z : Str) (k : Nat), x = .str z ∧ y = .int (k : Int) ∧ z.length * k ≤ 1000000 ∧ k ≤ 1000000 ∧ Q (.str (repS z k)) H
theorem op_repS : OpR X (binaryOp .Mult) rRepS := by
  intro pins s σ H x y v u Q I rx ry h
  obtain ⟨z, k, rfl, rfl, hz, hk, q⟩ := h
  obtain ⟨t, rfl⟩ := rx
  obtain ⟨t', rfl⟩ := ry
  refine PySem.P.mul_str ?_ ?_ ?_ ?_
  · rw [decide_eq_false (by omega), decide_eq_false (by omega)]
    rfl
  · intro h1 _
    have h0 : (0 : Int) < (k : Int) := by omega
    have h2 : ((z.length * k : Nat) : Int) ≤ 2 ^ 63 - 1 := by omega
    rw [Int.natCast_mul] at h2
    have h3 := (Int.le_ediv_iff_mul_le h0).mpr h2
    omega
  · intro _ _
    unfold Builtin.Str.tooLong
    rw [Int.toNat_natCast, sizeLine_eq]
    exact decide_eq_false (by omega)
  · by_cases h1 : (k : Int) < 1
    · rw [if_pos h1]
      have e : repS z k = Str.empty := by
        have : k = 0 := by omega
        subst this
        rfl
      rw [e] at q
      exact ⟨by decide, .str _, H, I.tok _, ⟨_, rfl⟩, q⟩
    · rw [if_neg h1]
      by_cases h2 : ((k : Int) == 1 || z.length == 0) = true
      · rw [if_pos h2]
        have e : repS z k = z := by
          rw [Bool.or_eq_true] at h2
          rcases h2 with h2 | h2
          · have h3 : (k : Int) = 1 := by simpa using h2
            have h4 : k = 1 := by omega
            subst h4
            unfold repS
            simp
          · have h3 : z.length = 0 := by simpa using h2
            have h4 : z.cps = #[] := Array.eq_empty_of_size_eq_zero h3
            unfold repS
            cases z with | mk zc =>
            simp only at h4
            subst h4
            simp
        rw [e] at q
        exact ⟨.str z, H, I, ⟨t, rfl⟩, q⟩
      · rw [if_neg h2]
        have e : (⟨(List.replicate (k : Int).toNat z.cps).foldl (· ++ ·) #[]⟩ : Str) = repS z k := by
          unfold repS
          rw [Int.toNat_natCast, ← Array.toArray_toList (xs := (List.replicate k z.cps).foldl (· ++ ·) #[]), foldl_app]
          rfl
        rw [e]
        have hl : (repS z k).length ≤ sizeLine := by
          rw [repS_len, sizeLine_eq]
          omega
        exact ⟨hl, .str _, H, I.tok _, ⟨_, rfl⟩, q⟩
/-- text[::-1] -/
def revS (z : Str) : Str := ⟨z.cps.toList.reverse.toArray⟩
theorem revS_len (z : Str) : (revS z).length = z.length := by
  show z.cps.toList.reverse.toArray.size = z.cps.size
  rw [List.size_toArray, List.length_reverse, Array.length_toList]
theorem rev_pick (z : Str) : (⟨((PySem.Builtin.Str.strSliceIndices none none (-1) z.length).filterMap (z.cps[·]?)).toArray⟩ : Str) = revS z := by
  unfold revS
  have e : PySem.Builtin.Str.strSliceIndices none none (-1) z.length = (List.range z.length).reverse := by
    rw [← PySem.W.krv_range, ← PySem.W.krv_sliceRange]
    rfl
  have e2 := PySem.W.krv_all z.cps
  rw [e, List.filterMap_reverse]
  show (⟨((List.range z.cps.size).filterMap (z.cps[·]?)).reverse.toArray⟩ : Str) = _
  rw [e2]
def tRevS (te : TE) : TE := fun σ H Q => te σ H fun x H1 => ∃ z : Str, x = .str z ∧ z.length ≤ sizeLine ∧ Q (.str (revS z)) H1
theorem pe_revS {e : Expr} {te : TE} {k : Nat} {p1 p2 p3 pos : Pos} (he : PE X e te) : PE X (.Subscript e (.Slice none none (some (.UnaryOp .USub (.Constant (.int 1) k p1) p2)) p3) pos) (tRevS te) := by
  refine ⟨fun pins s σ H Q I h => Subscript_ (thn (he.run pins s σ H _ I h) fun v s1 ⟨x, H1, I1, r1, z, ex, hz, q⟩ => ?_)⟩
  subst ex
  obtain ⟨t, rfl⟩ := r1
  have hst : PO X (some (.UnaryOp .USub (.Constant (.int 1) k p1) p2)) (tPart (tUn (rU fun i => .int (-i)) (tC (.int 1)))) := po_some (pe_un un_neg pe_int)
  refine wpAny_Slice (thn (po_none.run pins s1 σ H1 (fun o K2 => o = none ∧ K2 = H1) I1 ⟨rfl, rfl⟩) fun vl s2 ⟨l, H2, I2, pl, el, e2⟩ => ?_)
  subst el e2
  refine thn (po_none.run pins s2 σ H2 (fun o K3 => o = none ∧ K3 = H2) I2 ⟨rfl, rfl⟩) fun vu s3 ⟨u, H3, I3, pu, eu, e3⟩ => ?_
  subst eu e3
  refine thn (hst.run pins s3 σ H3 (fun o K4 => o = some (-1) ∧ K4 = H3) I3 ⟨1, rfl, -1, rfl, rfl, rfl⟩) fun vs s4 ⟨o, H4, I4, ps, eo, e4⟩ => ?_
  subst eo e4
  obtain ⟨l, rfl, hl⟩ := IsPart.raw pl
  obtain ⟨u, rfl, hu⟩ := IsPart.raw pu
  obtain ⟨st, rfl, hst'⟩ := IsPart.raw ps
  have I5 : Inv X pins σ H4 { s4 with heap := s4.heap.push { cls := .type "slice", data := .fields #[partValue l, partValue u, partValue st] } } := I4.kept (t' := s4.toks) fun b ob qq => Heap.get?_push_of_some _ qq
  show wpAny (model X.prog X.w) X.A (subscriptTail e (.Slice none none (some (.UnaryOp .USub (.Constant (.int 1) k p1) p2)) p3) (.str z t) (.ref s4.heap.objs.size)) (EP X pins σ Q) X.xe { s4 with heap := s4.heap.push { cls := .type "slice", data := .fields #[partValue l, partValue u, partValue st] } }
  refine tail_any (ops := [.ref s4.heap.objs.size, .str z t]) (T := "str") (typeIs_str _ _ _) F.slot_str_getitem.lookup ?_ (by with_unfolding_all rfl)
  refine wpAny_getItem_str_slice (l := l) (u := u) (st := st) (Heap.IsSliceOf.new ..) (by rw [hst']; decide) ?_
  have em : sliceMade z t l u st = .str (revS z) := by
    unfold sliceMade slicePicked
    rw [hst', hl, hu]
    rw [if_neg (by simp)]
    rw [← rev_pick z]
    rfl
  rw [em]
  exact ⟨by rw [revS_len]; exact hz, .str _, H4, I5.tok _, ⟨_, rfl⟩, q⟩
end
end HopR

set_option Elab.async false
set_option linter.all false
set_option maxRecDepth 100000
namespace HopR
open PySem PySem.Spec PyProof.Rows L2
/-! rows as lists of truths -/
def cd (b : Bool) : Nat := if b then 111 else 46
def tx (bs : List Bool) : Str := ⟨(bs.map cd).toArray⟩
theorem cd_inj {a b : Bool} (h : cd a = cd b) : a = b := by
  cases a <;> cases b <;> first | rfl | (exact absurd h (by decide))
theorem map_cd_inj : ∀ {as bs : List Bool}, as.map cd = bs.map cd → as = bs
  | [], [], _ => rfl
  | [], _ :: _, h => by simp at h
  | _ :: _, [], h => by simp at h
  | a :: r, b :: q, h => by
    rw [List.map_cons, List.map_cons] at h
    injection h with h1 h2
    rw [cd_inj h1, map_cd_inj h2]
theorem tx_inj {as bs : List Bool} (h : tx as = tx bs) : as = bs := by
  unfold tx at h
  injection h with h
  exact map_cd_inj (by simpa using congrArg Array.toList h)
theorem tx_len (bs : List Bool) : (tx bs).length = bs.length := by
  show (bs.map cd).toArray.size = bs.length
  rw [List.size_toArray, List.length_map]
theorem tx_list (bs : List Bool) : (tx bs).cps.toList = bs.map cd := rfl
theorem tx_get {bs : List Bool} {i : Nat} {b : Bool} (h : bs[i]? = some b) : (tx bs).cps[i]? = some (cd b) := by
  show (bs.map cd).toArray[i]? = some (cd b)
  rw [List.getElem?_toArray, List.getElem?_map, h]
  rfl
theorem ext_str {a b : Str} (h : a.cps.toList = b.cps.toList) : a = b := by
  cases a with | mk x =>
  cases b with | mk y =>
  have e : x = y := Array.toList_inj.mp h
  rw [e]
theorem tx_app (as bs : List Bool) : tx as ++ tx bs = tx (as ++ bs) := by
  apply ext_str
  show ((as.map cd).toArray ++ (bs.map cd).toArray).toList = (as ++ bs).map cd
  rw [Array.toList_append, List.map_append]
theorem tx_rev (bs : List Bool) : revS (tx bs) = tx bs.reverse := by
  unfold revS tx
  simp
theorem tx_sg (bs : List Bool) : sg (tx bs) = bs.map fun b => tx [b] := by
  unfold sg
  rw [tx_list, List.map_map]
  rfl
theorem tx_o : ("o" : Str) = tx [true] := by decide +kernel
theorem tx_f : ("." : Str) = tx [false] := by decide +kernel
/-- a row walked sign by sign: a turn's sign is the text of that place's truth -/
theorem walk_tx {bs : List Bool} : Walk (Its (tx bs)) bs.length (fun _ => True) (fun i H v H' => H' = H ∧ ∃ b, bs[i]? = some b ∧ v = .str (tx [b])) := by
  have w := walk_str (z := tx bs)
  rw [show (tx bs).cps.size = bs.length from tx_len bs] at w
  refine w.mono (fun _ g => g) fun i H x H' hi _ y => ?_
  obtain ⟨e1, c, e2, e3⟩ := y
  have hb : bs[i]? = some bs[i] := List.getElem?_eq_getElem hi
  rw [tx_get hb] at e2
  cases e2
  exact ⟨e1, _, hb, e3⟩
def for_tx {bs : List Bool} {g : TG} {tb : TS} {D : Ends} {σ : L2.St} {H : Hp} (Pv : Nat → L2.St → Hp → Prop) (h0 : Pv 0 σ H)
    (hs : ∀ i b σ H, bs[i]? = some b → Pv i σ H → g (.str (tx [b])) σ H fun σ2 H2 => tb { D with nx := Pv (i + 1), ct := Pv (i + 1), bk := D.nx } σ2 H2) (hd : ∀ σ H, Pv bs.length σ H → D.nx σ H) :=
  for_it (walk_tx (bs := bs)) (g := g) (tb := tb) (D := D) (σ := σ) (H := H) Pv h0 (fun _ _ _ _ _ => trivial)
    (fun i x σ H H' _ p y => by
      obtain ⟨e1, b, hb, e2⟩ := y
      subst e1 e2
      exact hs i b σ _ hb p) hd
def lc_tx {bs : List Bool} {g : TG} {tt : TT} {te : TE} {vs : List Nat} {σ : L2.St} {H1 : Hp} {D : Addr} {Qd : Hp → Prop} (Pv : Nat → Hp → Prop) (h0 : Pv 0 (upd H1 D (.lst [])))
    (hs : ∀ i b H, bs[i]? = some b → Pv i H → g (.str (tx [b])) (wipe σ vs) H fun σ2 H2 => wipe σ2 vs = wipe σ vs ∧ tt σ2 H2 fun kept H3 =>
      if kept = true then (te σ2 H3 fun y H4 => ∃ acc, H4 D = some (.lst acc) ∧ acc.length < sizeLine ∧ Pv (i + 1) (upd H4 D (.lst (acc ++ [y])))) else Pv (i + 1) H3)
    (hd : ∀ H, Pv bs.length H → Qd H) :=
  lc_it (walk_tx (bs := bs)) (g := g) (tt := tt) (te := te) (vs := vs) (σ := σ) (H1 := H1) (D := D) (Qd := Qd) Pv h0 (fun _ _ _ _ => trivial)
    (fun i x H H' _ p y => by
      obtain ⟨e1, b, hb, e2⟩ := y
      subst e1 e2
      exact hs i b _ hb p) hd
end HopR

set_option Elab.async false
set_option linter.all false
set_option maxRecDepth 100000
namespace HopR
open PySem PySem.Spec PyProof.Rows L2 TL
theorem joinL_nil : ∀ ps : List (List Nat), joinL [] ps = ps.flatten
  | [] => rfl
  | [p] => by
    show p = p ++ []
    rw [List.append_nil]
  | p :: q :: r => by
    show p ++ ([] ++ joinL [] (q :: r)) = p ++ (q :: r).flatten
    rw [List.nil_append, joinL_nil (q :: r)]
theorem join0_list (ys : List Str) : (Txt.join "" ys).cps.toList = (ys.map fun y => y.cps.toList).flatten := by
  have e : Txt.join "" ys = Str.join "" ys := PySem.StrLaws.glued_eq_join "" ys
  rw [e]
  have h := tl_join "" ys
  have h2 : tl ("" : Str) = [] := by decide +kernel
  rw [h2, joinL_nil] at h
  exact h
theorem join_tx (bs : List Bool) : Txt.join "" (bs.map fun b => tx [b]) = tx bs := by
  apply ext_str
  rw [join0_list, List.map_map, tx_list]
  induction bs with
  | nil => rfl
  | cons b r ih =>
    rw [List.map_cons, List.flatten_cons, ih]
    rfl
theorem sum_ones : ∀ bs : List Bool, ((bs.map fun b => tx [b]).map (·.length)).sum = bs.length
  | [] => rfl
  | b :: r => by
    rw [List.map_cons, List.map_cons, List.sum_cons, sum_ones r, tx_len]
    show 1 + r.length = r.length + 1
    omega
theorem join_fits {bs : List Bool} (h : bs.length ≤ 1000) : ((bs.map fun b => tx [b]).map (·.length)).sum + (bs.map fun b => tx [b]).length * ("" : Str).length ≤ 16777216 := by
  have e : ("" : Str).length = 0 := by decide +kernel
  rw [sum_ones, e, Nat.mul_zero]
  omega
theorem cut_tx (bs : List Bool) (lo hi : Option Int) : cutS (tx bs) lo hi = tx ((bs.drop (HT.sIx bs.length 0 lo)).take (HT.sIx bs.length bs.length hi - HT.sIx bs.length 0 lo)) := by
  apply ext_str
  unfold cutS
  rw [tx_len, tx_list, tx_list, List.map_take, List.map_drop]
theorem cut_to (bs : List Bool) (k : Nat) : cutS (tx bs) none (some (k : Int)) = tx (bs.take k) := by
  rw [cut_tx, HT.sIx_none, HT.sIx_nat, List.drop_zero, Nat.sub_zero]
  by_cases h : k ≤ bs.length
  · rw [Nat.min_eq_left h]
  · rw [Nat.min_eq_right (by omega), List.take_length, List.take_of_length_le (by omega)]
theorem cut_from (bs : List Bool) (k : Nat) : cutS (tx bs) (some (k : Int)) none = tx (bs.drop k) := by
  rw [cut_tx, HT.sIx_none, HT.sIx_nat]
  by_cases h : k ≤ bs.length
  · rw [Nat.min_eq_left h, List.take_of_length_le (by rw [List.length_drop]; exact Nat.le_refl _)]
  · rw [Nat.min_eq_right (by omega), List.drop_length, List.drop_of_length_le (by omega), List.take_nil]
theorem cut_at (bs : List Bool) (k m : Nat) : cutS (tx bs) (some (k : Int)) (some ((k : Int) + (m : Int))) = tx ((bs.drop k).take m) := by
  have e : ((k : Int) + (m : Int)) = ((k + m : Nat) : Int) := by omega
  rw [e, cut_tx, HT.sIx_nat, HT.sIx_nat]
  by_cases h : k ≤ bs.length
  · rw [Nat.min_eq_left h]
    by_cases h2 : k + m ≤ bs.length
    · rw [Nat.min_eq_left h2, Nat.add_sub_cancel_left]
    · rw [Nat.min_eq_right (by omega), List.take_of_length_le (by rw [List.length_drop]; exact Nat.le_refl _), List.take_of_length_le (by rw [List.length_drop]; omega)]
  · rw [Nat.min_eq_right (by omega), Nat.min_eq_right (by omega), List.drop_length, List.drop_of_length_le (by omega), List.take_nil, List.take_nil]
theorem cut_mid (bs : List Bool) (h : 2 ≤ bs.length) : cutS (tx bs) (some 1) (some (-1)) = tx ((bs.drop 1).take (bs.length - 2)) := by
  rw [cut_tx]
  have e1 : HT.sIx bs.length 0 (some 1) = 1 := by
    rw [show (some (1 : Int)) = some ((1 : Nat) : Int) from rfl, HT.sIx_nat]
    omega
  have e2 : HT.sIx bs.length bs.length (some (-1)) = bs.length - 1 := by
    show (if (-1 : Int) < 0 then ((-1 : Int) + (bs.length : Int)).toNat else min (-1 : Int).toNat bs.length) = bs.length - 1
    rw [if_pos (by decide)]
    omega
  rw [e1, e2]
  congr 2
/-! ### rows: walls, changes, the mirror -/
def ends (bs : List Bool) : List Bool := true :: (bs ++ [false])
theorem ends_len (bs : List Bool) : (ends bs).length = bs.length + 2 := by
  unfold ends
  rw [List.length_cons, List.length_append]
  rfl
def opn (bs : List Bool) (k : Nat) : Bool := decide (((ends bs).drop k).take 2 = [true, false])
def walls (bs : List Bool) : List Nat := (List.range (bs.length + 1)).filter (opn bs)
def bhd (bs : List Bool) (k : Nat) : List Bool := (ends bs).take k ++ [false] ++ [true] ++ (ends bs).drop (k + 2)
def chg (bs : List Bool) (k : Nat) : List Bool := ((bhd bs k).drop 1).take ((bhd bs k).length - 2)
def mir (bs : List Bool) : List Bool := bs.reverse.map (!·)
def num (bs : List Bool) : Int := bs.foldl (fun n b => n * 2 + (if b then 1 else 0)) 0
theorem mem_walls {bs : List Bool} {k : Nat} : k ∈ walls bs ↔ k ≤ bs.length ∧ opn bs k = true := by
  unfold walls
  rw [List.mem_filter, List.mem_range, Nat.lt_succ_iff]
theorem mir_len (bs : List Bool) : (mir bs).length = bs.length := by
  unfold mir
  rw [List.length_map, List.length_reverse]
theorem walls_len (bs : List Bool) : (walls bs).length ≤ bs.length + 1 := by
  unfold walls
  exact Nat.le_trans (List.length_filter_le _ _) (by rw [List.length_range]; exact Nat.le_refl _)
theorem bhd_len {bs : List Bool} {k : Nat} (h : k ≤ bs.length) : (bhd bs k).length = bs.length + 2 := by
  unfold bhd
  rw [List.length_append, List.length_append, List.length_append, List.length_take, List.length_drop, ends_len]
  show min k (bs.length + 2) + 1 + 1 + (bs.length + 2 - (k + 2)) = bs.length + 2
  omega
theorem chg_len {bs : List Bool} {k : Nat} (h : k ≤ bs.length) : (chg bs k).length = bs.length := by
  unfold chg
  rw [List.length_take, List.length_drop, bhd_len h]
  omega
end HopR

set_option Elab.async false
set_option linter.all false
set_option maxRecDepth 100000
namespace HopR
open PySem PySem.Spec PyProof.Rows L2
/-! ### defs that are called where no repr is under way -/
/-- the promise sp of the def at f, kept wherever it is called while no repr is under way -/
structure FnOkG (P : Program) (w : World) (K : PySem.W.Frag) (mg : Str → Option Value) (base : Heap) (CX : CXT) (k : Nat) (f : Addr) (fd : FuncData) (ps : List Str) (sp : Sp) : Prop where
  arity : ∀ {vs H Q E}, sp vs H Q E → vs.length = ps.length
  calls : ∀ {A : Around} {outer : List Env} {s : Shared} {H : Hp} {args : Args} {us : List Value} {vs : List V} {Q : VK} {E : XK}, A.guards = some [] → Room k A → Env0 P w K mg base A outer s H →
    BindsTo s fd args (ps.zip us) → Vals vs us → sp vs H Q E → codeAny (model P w) A (.call (.ref f) args) (CR CX outer P w H s Q E) s
section
variable {P : Program} {w : World} {K : PySem.W.Frag} {mg : Str → Option Value} {base : Heap}
theorem FnOkG.of {CX : CXT} {k : Nat} {f : Addr} {fd : FuncData} {ps : List Str} {sp : Sp} (F : FnOk P w K mg base CX k f fd ps sp) : FnOkG P w K mg base CX k f fd ps sp where
  arity h := F.len _ _ _ _ h
  calls _ room e0 bind vals prom := F.run _ _ _ _ _ _ _ _ _ room e0 bind vals prom
/-- what the body's end says to the caller -/
theorem ends_say {CX : CXT} {N : List Str} {qual : Str} {scope : Scope} {f : Addr} {cdv : Value} {A : Around} {outer : List Env} {s : Shared} {H : Hp} {Q : VK} {E : XK} {fl : Flow} {s' : Shared}
    (h : SP (cxOf CX P w K mg base N qual scope f cdv A outer s H E) [] { nx := fun _ H' => Q .non H', rt := Q } fl s') :
    match fl with | .ret u => CE outer P w H s Q u s' | .next => CE outer P w H s Q Value.none s' | _ => False := by
  match fl, h with
  | .ret u, ⟨v, σ', H', J, rv, g⟩ => exact ⟨v, H', J.os, J.bare, J.base, J.hok, rv, g⟩
  | .next, ⟨σ', H', J, g⟩ => exact ⟨V.non, H', J.os, J.bare, J.base, J.hok, rfl, g⟩
  | .brk, ⟨_, _, _, g⟩ => exact g
  | .cont, ⟨_, _, _, g⟩ => exact g
theorem okG {x qual : Str} {st : Stmt} {f : Addr} {fd : FuncData} {N ps : List Str} {k : Nat} {sp : Sp} (F : Fun K x qual st f fd) (S : FnScope N ps (defScope st)) (len : ∀ vs H Q E, sp vs H Q E → vs.length = ps.length)
    (body : ∀ (cdv : Value) (A : Around) (outer : List Env) (s : Shared) (H : Hp) (vs : List V) (Q : VK) (E : XK), A.guards = some [] → Room k (A.deeper (envOfC qual (defScope st) s.heap.objs.size f cdv)) → sp vs H Q E →
      ∃ t, PSs (cxOf CX0 P w K mg base N qual (defScope st) f cdv A outer s H E).nox (defBody st) t ∧ t { nx := fun _ H' => Q .non H', rt := Q } (start N vs) H) : FnOkG P w K mg base CX0 (k + 1) f fd ps sp where
  arity h := len _ _ _ _ h
  calls {A outer s H args us vs Q E} free room e0 bind vals prom := by
    obtain ⟨_, _, _, _, _, _, cdv, _, _, rfl, lk, code⟩ := F.ex
    have old : ∀ b o, base.get? b = some o → s.heap.get? b = some o := fun b o e => (e0.bs b o e).1
    have here := e0.mod.kin.keeps old
    obtain ⟨t, pr, rd⟩ := body cdv A outer s H vs Q E free (room.deeper _) prom
    have kinds : ∀ y ∈ ps.zip us, (defScope st).names.lookup y.1 = some .local ∨ ((defScope st).names.lookup y.1 = some .cell ∧ ((cellsFrom (s.heap.objs.size + 1) (defScope st).names []).lookup y.1).isSome = true) := by
      intro y hy
      have hp : y.1 ∈ ps := by
        obtain ⟨y1, y2⟩ := y
        exact (List.of_mem_zip hy).1
      exact (S.par _ hp).imp id fun g => ⟨g, PySem.W.cellsFrom_some _ _ _ (.inl g)⟩
    refine codeAny_call_function room.depth (here _ _ lk) rfl S.co S.gen rfl (PySem.W.codeRec_of here code) (bind _ _ _ _ ?_)
    refine wpAny_newFunctionEnv_cells S.kind kinds fun _ e s1 x => ?_
    cases e
    refine ⟨(e0.mod.nolimit.keeps old).keeps x.toInCall.keep, codeAny_func ?_⟩
    have run := pr.nox.run [] s1 _ H _ (inv_start S room.hd e0 (len _ _ _ _ prom) vals x) rd
    refine wpAny_mono run (fun fl s' h => ?_) fun _ _ z => z
    have said := ends_say h
    cases fl with
    | ret _ => exact said
    | next => exact said
    | brk => exact said.elim
    | cont => exact said.elim
end
section
variable {X : Cx} {CX : CXT} {k : Nat} {f : Addr} {fd : FuncData} {ps : List Str} {sp : Sp} {ds : List Value} {dvs : List V} {E : XK}
theorem after_call {pins : List (Addr × Obj)} {σ : L2.St} {H : Hp} {s : Shared} {Q : VK} (hx : Passes CX X E) (I : Inv X pins σ H s) {r : Except Value Flow} {s' : Shared} (h : CR CX X.stack X.prog X.w H s Q E r s') :
    match r with | .ok (.ret u) => EP X pins σ Q u s' | .ok _ => False | .error e => X.xe e s' := by
  match r, h with
  | .error e, h => exact hx pins σ H s e s' I h
  | .ok (.ret u), h => exact I.after h
  | .ok .next, h => exact h
  | .ok .brk, h => exact h
  | .ok .cont, h => exact h
variable {x : Str} {p pos : Pos} {e : Expr} {es : List Expr} {t : TA}
/-- f(e, ..) at a place where no repr is under way -/
theorem pe_callG (F : FnOkG X.prog X.w X.K X.mg X.base CX k f fd ps sp) (hG : X.A.guards = some []) (hr : Room k X.A) (hg : Gl X x) (hm : X.mg x = some (.ref f)) (hk : PySem.W.keepIn X.K (.ref f) = true) (hb : Binds X.K fd ps ds) (hd : Vals dvs ds) (hx : Passes CX X E)
    (ha : PA X (e :: es) t) (hdb : (x == ("__debug__" : Str)) = false := by decide)
    (he : starEach (e :: es) X.env = (false, eval e X.env) :: starEach es X.env := by rfl) (hpl : (backTo pos (starEach es X.env)).any (·.1) = false := by rfl) :
    PE X (.Call (.Name x p) (e :: es) [] pos) (tCall sp dvs E t) := by
  constructor
  intro pins s σ H Q I h
  refine wpAny_Call_Name_kw (ld_glob I hg hm (PySem.W.callWith_K (h₀ := X.base) I.ok.mod.kin hk (thn (ha.run pos pins s σ H _ I h) ?_) he hpl) hdb)
  rintro us s1 ⟨vs, H1, I1, vals, prom⟩
  have all := vals.append hd
  have size : (us ++ ds).length = ps.length := all.length.symm.trans (F.arity prom)
  refine ⟨I1.kIn, wpAny_call (codeAny_mono (F.calls hG hr I1.env0 (hb s1 us I1.kIn size) all prom) fun r s' h => ?_)⟩
  have := after_call hx I1 h
  cases r with
  | error e => exact this
  | ok fl => cases fl <;> exact this
/-! ### repr of data -/
def rReprD (K : PySem.W.Frag) : List V → Hp → VK → Prop := fun vs H Q => ∃ (v : V) (d : PyData), vs = [v] ∧ Dp K H v d ∧ d.showable = true ∧ d.hasDict = false ∧ d.depth ≤ 64 ∧ d.shown.length ≤ sizeLine ∧ Q (.str d.shown) H
theorem cr_reprD (hG : X.A.guards = some []) (hu : X.A.units + 66 < cLine) : CallR X (.builtin "repr") (rReprD X.K) := by
  rintro pins s σ H _ us Q I r ⟨v, d, rfl, hd, hs, hn, hdep, hz, q⟩
  obtain ⟨u, rfl, rv⟩ := vals1 r
  obtain ⟨as, rd⟩ := Dp.reads I d v u hd rv
  cases hd with
  | non =>
    cases rv
    exact P.repr_of_none ⟨.str _, H, I.tok _, ⟨_, rfl⟩, q⟩
  | bl b =>
    cases rv
    exact P.repr_of_bool ⟨.str _, H, I.tok _, ⟨_, rfl⟩, q⟩
  | int i =>
    obtain ⟨t, rfl⟩ := rv
    have hb : i.natAbs.log2 < 1920 := of_decide_eq_true (by simpa only [PyData.showable] using hs)
    exact P.repr_of_int hb ⟨.str _, H, I.tok _, ⟨_, rfl⟩, by simpa only [PyData.shown] using q⟩
  | str x =>
    obtain ⟨t, rfl⟩ := rv
    exact P.repr_of_str ⟨.str _, H, I.tok _, ⟨_, rfl⟩, by simpa only [PyData.shown] using q⟩ (by simpa only [PyData.shown] using hz)
  | lst h1 h2 =>
    cases rv
    exact repr_of_reads' rd hs (fun e => absurd (hn.symm.trans e) (by decide)) hG (by omega) (fun _ _ e => e) (fun h' t tk hk => ⟨.str _, H, I.kept hk, ⟨_, rfl⟩, q⟩) hz
  | tup h1 h2 =>
    cases rv
    exact repr_of_reads' rd hs (fun e => absurd (hn.symm.trans e) (by decide)) hG (by omega) (fun _ _ e => e) (fun h' t tk hk => ⟨.str _, H, I.kept hk, ⟨_, rfl⟩, q⟩) hz
end
/-! ### the end -/
section
variable (K : PySem.W.Frag) (a : Addr) (vs : List Value) (ns : List Int)
/-- the script as the heap has it -/
abbrev scrO : Obj := { cls := .type "list", data := .seq vs.toArray }
/-- tracked is the script alone, locked, and not even that where the top wrote it -/
def scrH : Hp := fun b => if b = a ∧ K.lookup a = none then some (.frz (scrO vs) (.lst (ns.map V.int))) else none
theorem scrH_or (b : Addr) : scrH K a vs ns b = none ∨ (b = a ∧ K.lookup a = none ∧ scrH K a vs ns b = some (.frz (scrO vs) (.lst (ns.map V.int)))) := by
  unfold scrH
  by_cases h : b = a ∧ K.lookup a = none
  · exact .inr ⟨h.1, h.2, if_pos h⟩
  · exact .inl (if_neg h)
theorem scrH_only : Only (scrH K a vs ns) := fun b => (scrH_or K a vs ns b).imp id fun ⟨_, _, e⟩ => ⟨_, _, e⟩
end
section
variable {P : Program} {w : World} {K : PySem.W.Frag} {a : Addr} {vs : List Value} {ns : List Int} {h : Heap}
theorem scrH_sq (kin : K.In h) (at_ : h.get? a = some (scrO vs)) (hi : IntsAre vs ns) (few : ns.length ≤ sizeLine) : SqL K (scrH K a vs ns) a (ns.map V.int) := by
  cases hk : K.lookup a with
  | none => exact .inl (.inr ⟨scrO vs, if_pos ⟨rfl, hk⟩⟩)
  | some o =>
    obtain rfl : o = scrO vs := Option.some.inj ((kin a o hk).symm.trans at_)
    exact .inr ⟨_, vs.toArray, _, hk, rfl, rfl, rfl, by rw [List.size_toArray, hi.length]; exact few, by simpa using vals_ints hi⟩
theorem scrH_ok (at_ : h.get? a = some (scrO vs)) (hi : IntsAre vs ns) (few : ns.length ≤ sizeLine) : HOk P w (scrH K a vs ns) h := by
  intro b u e
  rcases scrH_or K a vs ns b with n | ⟨rfl, _, y⟩
  · exact absurd (n.symm.trans e) (by simp)
  · cases y.symm.trans e
    refine ⟨at_, ?_, vs, _, vals_ints hi, at_⟩
    rw [List.length_map]
    exact few
/-- what isn't the script, and what the top wrote, stands also where the tracked is hidden -/
theorem scrH_base (at_ : h.get? a = some (scrO vs)) {b : Addr} {o : Obj} (e : h.get? b = some o) (q : o ≠ scrO vs ∨ K.lookup b ≠ none) : (hidT h (scrH K a vs ns)).get? b = some o := by
  refine hidT_get e ((scrH_or K a vs ns b).resolve_right ?_)
  rintro ⟨rfl, n, _⟩
  exact q.elim (fun z => z (Option.some.inj (e.symm.trans at_))) fun z => z n
theorem scrH_ns (at_ : h.get? a = some (scrO vs)) {b : Addr} {m : Str → Option Value} : h.Ns b m → (hidT h (scrH K a vs ns)).Ns b m := by
  rintro ⟨o, es, ep, e, dd, r⟩
  refine ⟨o, es, ep, scrH_base at_ e (.inl ?_), dd, r⟩
  rintro rfl
  exact absurd dd (by simp)
end
/-- a law whose promise holds where no repr is under way: nothing is, where it is called -/
theorem walk_ofG {l : PySem.W.OpenLaw} {n k : Nat} {q : Program} {loose : List Str} {XP : (Str → Option Value) → Heap → Prop} {YP : World → Heap → Prop} {d : DefRec} {K : Params → PySem.W.Frag} {sp : World → Sp} {x : Str}
    (most : l.most = some n) (few : n ≤ sizeLine) (plain : d.params.defaults = []) (room : Room k callerA) (top : ∀ (w : World) (h : Heap), YP w h → (K w.params).In h)
    (F : ∀ (w : World) (mg : Str → Option Value) (fa : Addr) (h : Heap), (K w.params).In h → h.Ns mainGlobals mg → mg d.name = some (.ref fa) →
      ∃ fd : FuncData, (∀ (s : Shared) (u : Value), BindsTo s fd ⟨[u], []⟩ [(x, u)]) ∧ ∀ base : Heap, (K w.params).In base → base.Ns mainGlobals mg → FnOkG l.prog w (K w.params) mg base CX0 k fa fd [x] (sp w))
    (prom : ∀ (w : World) (H : Hp) (a : Addr) (ns : List Int), ns.length ≤ n → (∀ z ∈ ns, Builtin.Int.intBits z ≤ 1048576) → Only H → SqL (K w.params) H a (ns.map V.int) → sp w [.ref a] H (fun v _ => v = .bl true) fun _ _ _ => False) :
    PySem.W.WalkO q loose XP YP l.row.toRowW d [] (fun f vs => PySem.call f vs) := by
  apply Att.attach_callB most plain
  intro w s₀ s₁ mg mb fa o pm cd doc a vs ns G Y _ _ _ hmg at_ isI size bits gens
  have kin := top w _ Y
  obtain ⟨fd, bind, hF⟩ := F w mg fa _ kin G.T.g hmg
  have few' := Nat.le_trans size few
  have ok : HOk l.prog w (scrH (K w.params) a vs ns) s₁.heap := scrH_ok at_ isI few'
  have kin' : (K w.params).In (hidT s₁.heap (scrH (K w.params) a vs ns)) := fun b o e => scrH_base at_ (kin b o e) (.inr (by rw [e]; simp))
  have g' := scrH_ns (K := K w.params) (ns := ns) at_ G.T.g
  obtain ⟨mc, lim1, lim2⟩ := G.T.nolimit
  have e0 : Env0 l.prog w (K w.params) mg (hidT s₁.heap (scrH (K w.params) a vs ns)) callerA [] s₁ (scrH (K w.params) a vs ns) :=
    ⟨rfl, ⟨kin', g', ⟨mb, scrH_ns at_ G.T.b, G.T.builtins⟩, ⟨mc, scrH_ns at_ lim1, lim2⟩⟩, fun _ _ => of_hidT, Nat.le_of_eq (hidT_size _ _), trivial, (by intro _ z; cases z), ok, AllBare.of_eq gens⟩
  refine codeAny_mono ((hF _ kin' g').calls (us := [.ref a]) (vs := [.ref a]) rfl room e0 (bind s₁ (.ref a)) (.cons rfl .nil) (prom w _ a ns size bits (scrH_only (K w.params) a vs ns) (scrH_sq kin at_ isI few'))) fun r s' h => ?_
  match r, h with
  | .error e, h => exact h.elim
  | .ok .next, h => exact h.elim
  | .ok .brk, h => exact h.elim
  | .ok .cont, h => exact h.elim
  | .ok (.ret u), ⟨v, H', os, bare, un, ok', rel, is⟩ =>
    have is : v = .bl true := is
    subst is
    cases (show u = Value.bool true from rel)
    refine ⟨rfl, OldK.of_keep ?_, os, bare⟩
    intro b o e
    rcases scrH_or (K w.params) a vs ns b with z | ⟨rfl, _, z⟩
    · exact un.keep b o e z (fun m => nomatch m) (by simp)
    · cases at_.symm.trans e
      exact (ok' _ _ (un.frzs _ _ _ z)).1
end HopR

set_option Elab.async false
set_option linter.all false
set_option maxRecDepth 100000
namespace HopR
open PySem PySem.Spec PyProof.Rows L2
theorem hu66 {A : Around} {k : Nat} (hr : Room k A) : A.units + 66 < cLine := by
  have := hr.un
  omega
/-! ### f(k = v, ..), no value by its place -/
section
variable {X : Cx} {CX : CXT} {k : Nat} {f : Addr} {fd : FuncData} {ps ks : List Str} {sp : Sp} {E : XK} {x : Str} {p pos : Pos} {kws : List Keyword} {tk : TA}
def tCallKw (m : Nat) (sp : Sp) (gV : List V → List V) (E : XK) (tk : TA) : TE := fun σ H Q => tk σ H fun zs H2 => zs.length = m ∧ sp (gV zs) H2 Q E
theorem pe_callKw {g : List Value → List Value} {gV : List V → List V} (F : FnOk X.prog X.w X.K X.mg X.base CX k f fd ps sp) (hr : Room k X.A) (hg : Gl X x) (hm : X.mg x = some (.ref f)) (hk : PySem.W.keepIn X.K (.ref f) = true)
    (hb : ∀ (s : Shared) (ws : List Value), X.K.In s.heap → ws.length = ks.length → BindsTo s fd ⟨[], ks.zip ws⟩ (ps.zip (g ws))) (hrel : ∀ {zs : List V} {ws : List Value}, Vals zs ws → Vals (gV zs) (g ws)) (hx : Passes CX X E) (hkw : PK X kws tk)
    (hall : (backToKw pos (keywordEach kws X.env)).all (·.1.isSome) = true := by rfl) (hks : (backToKw pos (keywordEach kws X.env)).filterMap (·.1) = ks := by rfl) (hdb : (x == ("__debug__" : Str)) = false := by decide)
    (hpl : ((backTo pos (starEach [] X.env)).any (·.1) || (backToKw pos (keywordEach kws X.env)).any (·.1.isNone)) = false := by rfl) :
    PE X (.Call (.Name x p) [] kws pos) (tCallKw ks.length sp gV E tk) := by
  refine ⟨fun pins s σ H Q I h => wpAny_Call_Name_kw (ld_glob I hg hm ?_ hdb)⟩
  refine PySem.W.callWith_KW0 (h₀ := X.base) I.ok.mod.kin hk hall (thn (hkw.run pos pins s σ H _ I h) fun ws s2 ⟨zs, H2, I2, rz, l2, q2⟩ => ⟨I2.kIn, ?_⟩) hpl
  rw [hks]
  refine wpAny_call (codeAny_mono (F.run X.A X.stack s2 H2 ⟨[], ks.zip ws⟩ (g ws) (gV zs) Q E hr I2.env0 (hb s2 ws I2.kIn (rz.length.symm.trans l2)) (hrel rz) q2) fun r s' hq => ?_)
  match r, hq with
  | .error e, hq => exact hx pins σ H2 s2 e s' I2 hq
  | .ok (.ret u), hq => exact I2.after hq
  | .ok .next, hq => exact hq.elim
  | .ok .brk, hq => exact hq.elim
  | .ok .cont, hq => exact hq.elim
end
/-! ### lists of small numbers as data -/
def wv (k : Nat) : V := .int (k : Int)
def dw (k : Nat) : PyData := PyData.int (k : Int)
theorem dp_walls {K : PySem.W.Frag} {H : Hp} : ∀ ks : List Nat, DpAll K H (ks.map wv) (ks.map dw)
  | [] => .nil
  | k :: r => .cons (.int _) (dp_walls r)
theorem lay_dw : ∀ ks : List Nat, PyData.canLayAll0 (ks.map dw) = true
  | [] => rfl
  | k :: r => by
    rw [List.map_cons]
    simp only [PyData.canLayAll0, lay_dw r, Bool.and_true]
    rfl
theorem deep_dw : ∀ ks : List Nat, PyData.depthAll (ks.map dw) = 0
  | [] => rfl
  | k :: r => by
    rw [List.map_cons]
    simp only [PyData.depthAll, deep_dw r]
    rfl
theorem shaped_ints (ks : List Nat) : SeqAt.shaped (.list (ks.map dw)) = true := by
  unfold SeqAt.shaped
  rw [Bool.and_eq_true]
  refine ⟨?_, decide_eq_true ?_⟩
  · simp only [PyData.canLay0, lay_dw]
  · simp only [PyData.depth, deep_dw]
    decide
theorem show_dw : ∀ ks : List Nat, (∀ k ∈ ks, k ≤ 30) → PyData.showableAll (ks.map dw) = true
  | [], _ => rfl
  | k :: r, h => by
    have hk := h k (List.mem_cons_self ..)
    have e : PyData.showable (dw k) = true := by
      show decide ((k : Int).natAbs.log2 < 1920) = true
      refine decide_eq_true (Nat.lt_of_le_of_lt (Nat.log2_le_self _) ?_)
      show k < 1920
      omega
    rw [List.map_cons]
    simp only [PyData.showableAll, e, show_dw r fun q hq => h q (List.mem_cons_of_mem _ hq), Bool.and_true]
theorem nodict_dw : ∀ ks : List Nat, PyData.hasDictAll (ks.map dw) = false
  | [] => rfl
  | k :: r => by
    rw [List.map_cons]
    simp only [PyData.hasDictAll, nodict_dw r, Bool.or_false]
    rfl
theorem text30 : ∀ k < 31, (PyData.shown (dw k)).length ≤ 2 := by decide +kernel
theorem shown_len : ∀ ks : List Nat, (∀ k ∈ ks, k ≤ 30) → ((PyData.shownAll (ks.map dw)).map (·.length)).sum ≤ 2 * ks.length ∧ (PyData.shownAll (ks.map dw)).length = ks.length
  | [], _ => ⟨Nat.le_refl _, rfl⟩
  | k :: r, h => by
    obtain ⟨h1, h2⟩ := shown_len r fun q hq => h q (List.mem_cons_of_mem _ hq)
    have hk := text30 k (by have := h k (List.mem_cons_self ..); omega)
    rw [List.map_cons]
    simp only [PyData.shownAll, List.map_cons, List.sum_cons, List.length_cons]
    omega
theorem ints_show {ks : List Nat} (h : ∀ k ∈ ks, k ≤ 30) (hl : ks.length ≤ 1000) : (PyData.list (ks.map dw)).showable = true ∧ (PyData.list (ks.map dw)).hasDict = false ∧ (PyData.list (ks.map dw)).depth ≤ 64 ∧ (PyData.list (ks.map dw)).shown.length ≤ sizeLine := by
  obtain ⟨h1, h2⟩ := shown_len ks h
  refine ⟨?_, ?_, ?_, ?_⟩
  · simp only [PyData.showable, show_dw ks h]
  · simp only [PyData.hasDict, nodict_dw]
  · simp only [PyData.depth, deep_dw]
    decide
  · simp only [PyData.shown]
    have h3 := listText_len_le (PyData.shownAll (ks.map dw))
    rw [sizeLine_eq]
    omega
/-! ### the law's own words of walls and changes -/
theorem opn_eq {bs : List Bool} {k : Nat} (h : k ≤ bs.length) : opn bs k = ((decide (k = 0) || bs.getD (k - 1) false) && (decide (k = bs.length) || !bs.getD k true)) := by
  have hl := ends_len bs
  have e1 : (ends bs)[k]?.getD false = (decide (k = 0) || bs.getD (k - 1) false) := by
    unfold ends
    cases k with
    | zero => rfl
    | succ j =>
      rw [List.getElem?_cons_succ, List.getElem?_append_left (by omega), List.getD_eq_getElem?_getD]
      simp
  have e2 : (ends bs)[k + 1]?.getD true = (decide (k ≠ bs.length) && bs.getD k true) := by
    unfold ends
    rw [List.getElem?_cons_succ]
    by_cases hk : k = bs.length
    · subst hk
      rw [List.getElem?_append_right (Nat.le_refl _)]
      simp
    · rw [List.getElem?_append_left (by omega), List.getD_eq_getElem?_getD, decide_eq_true hk]
      rfl
  have e3 : opn bs k = (((ends bs)[k]?.getD false) && !((ends bs)[k + 1]?.getD true)) := by
    have g1 : (ends bs)[k]? = some (ends bs)[k] := List.getElem?_eq_getElem (by omega)
    have g2 : (ends bs)[k + 1]? = some (ends bs)[k + 1] := List.getElem?_eq_getElem (by omega)
    have g3 : ((ends bs).drop k).take 2 = [(ends bs)[k], (ends bs)[k + 1]] := by
      rw [List.drop_eq_getElem_cons (by omega), List.drop_eq_getElem_cons (by omega)]
      rfl
    unfold opn
    rw [g3, g1, g2]
    show decide ([(ends bs)[k], (ends bs)[k + 1]] = [true, false]) = ((ends bs)[k] && !(ends bs)[k + 1])
    cases (ends bs)[k] <;> cases (ends bs)[k + 1] <;> rfl
  rw [e3, e1, e2]
  by_cases hk : k = bs.length
  · simp [hk]
  · simp [hk]
def lbeh (bs : List Bool) (k : Nat) : List Bool := if k < bs.length then (if 0 < k then bs.set (k - 1) false else bs).set k true else (if 0 < k then bs.set (k - 1) false else bs)
theorem lbeh_len (bs : List Bool) (k : Nat) : (lbeh bs k).length = bs.length := by
  unfold lbeh
  split <;> split <;> simp
theorem chg_get {bs : List Bool} {k i : Nat} (h : k ≤ bs.length) (hi : i < bs.length) : (chg bs k)[i]? = some (if i + 1 = k then false else if i = k then true else bs[i]) := by
  have hl := ends_len bs
  have hb := bhd_len h
  have he : (ends bs)[i + 1]? = some bs[i] := by
    unfold ends
    rw [List.getElem?_cons_succ, List.getElem?_append_left hi, List.getElem?_eq_getElem hi]
  unfold chg
  rw [List.getElem?_take_of_lt (by rw [hb]; omega), List.getElem?_drop, Nat.add_comm 1 i]
  unfold bhd
  rw [List.append_assoc, List.append_assoc]
  by_cases h1 : i + 1 < k
  · rw [List.getElem?_append_left (by rw [List.length_take]; omega), List.getElem?_take_of_lt h1, he, if_neg (by omega), if_neg (by omega)]
  · rw [List.getElem?_append_right (by rw [List.length_take]; omega), List.length_take, Nat.min_eq_left (by omega)]
    by_cases h2 : i + 1 = k
    · rw [if_pos h2, h2, Nat.sub_self]
      rfl
    · rw [if_neg h2]
      by_cases h3 : i = k
      · rw [if_pos h3, show i + 1 - k = 1 by omega]
        rfl
      · rw [if_neg h3]
        obtain ⟨m, hm⟩ : ∃ m, i + 1 - k = m + 2 := ⟨i + 1 - k - 2, by omega⟩
        rw [hm]
        show ((ends bs).drop (k + 2))[m]? = some bs[i]
        rw [List.getElem?_drop, show k + 2 + m = i + 1 by omega, he]
theorem lbeh_eq {bs : List Bool} {k : Nat} (h : k ≤ bs.length) : lbeh bs k = chg bs k := by
  apply List.ext_getElem?
  intro i
  by_cases hi : i < bs.length
  · rw [chg_get h hi]
    unfold lbeh
    have g : bs[i]? = some bs[i] := List.getElem?_eq_getElem hi
    have inner : (if 0 < k then bs.set (k - 1) false else bs)[i]? = some (if i + 1 = k then false else bs[i]) := by
      by_cases hk : 0 < k
      · rw [if_pos hk, List.getElem?_set]
        by_cases e : k - 1 = i
        · rw [if_pos e, if_pos (by omega), if_pos (by omega)]
        · rw [if_neg e, if_neg (by omega), g]
      · rw [if_neg hk, if_neg (by omega), g]
    have il : (if 0 < k then bs.set (k - 1) false else bs).length = bs.length := by
      split <;> simp
    by_cases hk : k < bs.length
    · rw [if_pos hk, List.getElem?_set]
      by_cases e : k = i
      · rw [if_pos e, if_pos (by rw [il]; exact hk), if_neg (by omega), if_pos e.symm]
      · rw [if_neg e, inner]
        by_cases e2 : i + 1 = k
        · rw [if_pos e2, if_pos e2]
        · rw [if_neg e2, if_neg e2, if_neg (fun z => e z.symm)]
    · rw [if_neg hk, inner]
      by_cases e2 : i + 1 = k
      · rw [if_pos e2, if_pos e2]
      · rw [if_neg e2, if_neg e2, if_neg (by omega)]
  · rw [List.getElem?_eq_none (by rw [lbeh_len]; omega), List.getElem?_eq_none (by rw [chg_len h]; omega)]
end HopR

set_option Elab.async false
set_option linter.all false
set_option maxRecDepth 100000
namespace HopR
open PySem PySem.Spec PyProof.Rows L2
/-! ### an exception that is kept behind its suite -/
/-- the exception at a, of the class cls, its dict d, kept as a value -/
def ExH (cls : Value) (d : Option Addr) (a : Addr) : HO := .ext fun h => ∃ (oe : Obj) (vs : Array Value), h.get? a = some oe ∧ Zc cls d oe ∧ oe.data = .fields vs
theorem exH_ok {P : Program} {w : World} {H : Hp} {h : Heap} {a : Addr} {cls : Value} {d : Option Addr} {oe : Obj} {vs : Array Value} (e : h.get? a = some oe) (z : Zc cls d oe) (q : oe.data = .fields vs) : ObjOk P w H h a (ExH cls d a) :=
  ⟨⟨oe, vs, e, z, q⟩, ⟨oe, e⟩, fun _ _ ⟨o, v, q, r⟩ k => ⟨o, v, k o q, r⟩⟩
section
variable {X : Cx} {pins : List (Addr × Obj)} {σ σ0 : L2.St} {H H0 : Hp} {s sI : Shared} {a : Addr} {oe : Obj} {vs : Array Value} {o : HO}
/-- an object that came behind the entry is tracked from now on -/
theorem track (I : Inv X pins σ H s) (J : Inv X pins σ0 H0 sI) (hI : sI.heap.get? a = none) (hx : X.ex = []) (na : H a = none) (nL : a ≠ X.env.locals) (ha : s.heap.get? a = some oe) (hd : oe.data = .fields vs) (new : ObjOk X.prog X.w (upd H a o) s.heap a o) : Inv X pins σ (upd H a o) s := by
  have n0 : ∀ b u, X.s_0.heap.get? b = some u → b ≠ a := by
    intro b u e z
    subst z
    obtain ⟨u2, q⟩ := J.base.there b u e (by rw [hx]; exact fun z => nomatch z)
    rw [hI] at q
    cases q
  have nN : ∀ {b : Addr} {u : HO}, H b = some u → b ≠ a := fun e => ne_of_none e na
  have bs := I.base
  refine ⟨I.ok, I.os, I.bare, ⟨bs.keep, bs.slot, ?_, bs.there, ?_, ?_, ?_⟩, I.loc, I.cell, ?_, ?_, ?_, ?_, I.len⟩
  · intro b u e n q
    rw [upd_ne (n0 b u e)]
    exact bs.free b u e n q
  · intro b xs e
    have q := bs.tups b xs e
    rw [upd_ne (nN q)]
    exact q
  · intro b ob u e
    have q := bs.frzs b ob u e
    rw [upd_ne (nN q)]
    exact q
  · intro b ps e
    obtain ⟨m, q⟩ := bs.tbls b ps e
    exact ⟨m, by rw [upd_ne (nN q)]; exact q⟩
  · rw [upd_ne nL.symm]
    exact I.free
  · intro x c e
    have nc : c ≠ a := by
      intro z
      subst z
      obtain ⟨v, oc, e1, e2⟩ := I.cell x c e
      rw [ha] at e1
      cases e1
      rw [hd] at e2
      cases e2
    rw [upd_ne nc]
    exact I.freeC x c e
  · intro p hp
    have np : p.1 ≠ a := by
      intro z
      have q := (J.pin p hp).1
      rw [z, hI] at q
      cases q
    obtain ⟨e, n, r⟩ := I.pin p hp
    exact ⟨e, by rw [upd_ne np]; exact n, r⟩
  · intro b u e
    by_cases hb : b = a
    · subst hb
      rw [upd_same] at e
      cases e
      exact new
    · rw [upd_ne hb] at e
      refine (I.hok b u e).stay (fun c v _ q => q) (fun c q => ?_) (fun c xs q => ?_)
      · rw [upd_ne (nN q)]
        exact q
      · rw [upd_ne (nN q)]
        exact q
end
theorem fly_keeps {B h h' : Heap} {l : List Env} {a : Addr} {Z : Obj → Prop} (x : HandSPX.FlyingZ B l a Z h) (k : ∀ b o, h.get? b = some o → h'.get? b = some o) : HandSPX.FlyingZ B l a Z h' := by
  obtain ⟨x1, x2, x3, oe, vs, T, oT, ts, e1, e2, e3, e4, e5, e6, e7, e8, e9⟩ := x
  exact ⟨fun b o e => k b o (x1 b o e), x2, x3.of_keeps (fun b o e _ => ⟨o, k b o e, rfl⟩), oe, vs, T, oT, ts, k _ _ e1, e2, e3, e4, e5, e6, k _ _ e7, e8, e9⟩
/-- the clause's test takes the exceptions whose class has m -/
def Tests (X : Cx) (t : Expr) (m : Value → Prop) : Prop :=
  ∀ (a : Addr) (oe : Obj) (pn pins : List (Addr × Obj)) (σ : L2.St) (H : Hp) (s : Shared) (cls : Value) (Q : Value → Shared → Prop) (E : Value → Shared → Prop), Inv (X.suite a ((a, oe) :: pn)) pins σ H s → s.heap.get? a = some oe → oe.cls = cls → m cls →
    (∀ (c : Value) (h' : Heap), (∀ b o, s.heap.get? b = some o → h'.get? b = some o) → PySem.W.Looks (model X.prog X.w) h' (excMatches (.ref a) c) true → Q c { s with heap := h' }) → wpAny (model X.prog X.w) (X.A.mark (some (.ref a))) (eval t X.env) Q E s
theorem ld_nm {X : Cx} {x : Str} {c : Value} {pins : List (Addr × Obj)} {σ : L2.St} {H : Hp} {s : Shared} {Q : Value → Shared → Prop} {E : Value → Shared → Prop} {p : Pos} (I : Inv X pins σ H s) (hc : Names X x c) (q : Q c s) : wpAny (model X.prog X.w) X.A (eval (.Name x p) X.env) Q E s := by
  obtain ⟨g, nd, h | ⟨h1, h2, h3⟩⟩ := hc
  · exact ld_glob I g h q nd
  · exact ld_blt I g h1 h2 q h3 nd
theorem ty_looks {P : Program} {w : World} {h : Heap} {a : Addr} {oe : Obj} {cls : Value} (e : h.get? a = some oe) (c : oe.cls = cls) : PySem.W.Looks (model P w) h (typeOf (.ref a)) cls := by
  intro A Q E s k q
  exact wpAny_typeOf_ref (k _ _ e) (by rw [c]; exact q)
theorem tests_one {X : Cx} {x : Str} {c : Value} {p : Pos} (hc : Names X x c) : Tests X (.Name x p) fun cls => PySem.W.exmOne X.K cls c = some true := by
  intro a oe pn pins σ H s cls Q E I ha hcl hm k
  exact ld_nm (X := X.suite a ((a, oe) :: pn)) I hc (k c s.heap (fun _ _ z => z) (PySem.W.exm_one I.kIn (ty_looks ha hcl) hm))
theorem tests_two {X : Cx} {x1 x2 : Str} {c1 c2 : Value} {p1 p2 pos : Pos} {u} (h1 : Names X x1 c1) (h2 : Names X x2 c2) : Tests X (.Tuple [.Name x1 p1, .Name x2 p2] u pos) fun cls => PySem.W.exmAny X.K cls [c1, c2] = some true := by
  intro a oe pn pins σ H s cls Q E I ha hcl hm k
  refine wpAny_Tuple_spliced ?_
  refine Calls.spliced_cons (ld_nm (X := X.suite a ((a, oe) :: pn)) I h1 ?_)
  refine Calls.spliced_cons (ld_nm (X := X.suite a ((a, oe) :: pn)) I h2 (Calls.spliced_nil ⟨by show 2 ≤ sizeLine; decide, ?_⟩))
  have hk : ∀ b o, s.heap.get? b = some o → (s.heap.push { cls := .type "tuple", data := .seq [c1, c2].toArray }).get? b = some o := fun b o e => Heap.get?_push_of_some _ e
  refine k (.ref s.heap.objs.size) _ hk ?_
  exact PySem.W.exm_tup2 (fun b o e => hk b o (I.kIn b o e)) (ty_looks (hk _ _ ha) hcl) (Heap.get?_push_size _ rfl) hm
/-- what 'except .. as n: v = n' wishes of an exception of the body: it is taken, and kept in slot j; slot i, n's, is empty behind it -/
def wHeld (m : Value → Prop) (i j : Nat) (D : Ends) : WX := fun cls d σ H => m cls ∧ ∀ a, H a = none → D.nx (((σ.set i (some (.ref a))).set j (some (.ref a))).set i none) (upd H a (ExH cls d a))
section
variable {X : Cx} {n v : Str} {i j : Nat} {t : Expr} {m : Value → Prop} {body : List Stmt} {pos pos' p1 p2 p3 : Pos} {tb : WX → TS}
theorem ps_try_held (hs : X.stack = X.env :: X.outer) (hf : X.env.frame = some X.env.locals) (hN : X.N.Nodup) (hi : X.N[i]? = some n) (hj : X.N[j]? = some v) (hln : X.env.kindOf n = some .local) (hlv : X.env.kindOf v = some .local) (hx : X.ex = []) (ht : Tests X t m)
    (hb : ∀ (W : WX) (pn : List (Addr × Obj)) (xe : Value → Shared → Prop), Takes (X.tr pn xe) W → PassesOwn (model X.prog X.w) X.A X.env xe → PSs (X.tr pn xe) body (tb W))
    (hsu : ∀ (a : Addr) (oe : Obj) (pn : List (Addr × Obj)), PSs (X.suite a ((a, oe) :: pn)) [.Assign [.Name v p1] (.Name n p2) p3] (tAsg (tVar i) (gName j))) :
    PS X (.Try body [.ExceptHandler (some t) (some n) [.Assign [.Name v p1] (.Name n p2) p3] pos'] [] [] pos) (fun D σ H => tb (wHeld m i j D) D σ H) := by
  constructor
  intro pins s σ H D I h
  have ok := I.ok
  have frm : X.A.frames = some (X.env :: X.outer) := ok.frames.trans (congrArg some hs)
  have body_ := hb (wHeld m i j D) (X.pn ++ pins) (fun e s₁ => wpAny (model X.prog X.w) X.A (noteFrame e X.env) (fun _ s₂ => wpAny (model X.prog X.w) X.A (setFlight e none) (fun _ s₃ => wpAny (model X.prog X.w) X.A (handleBy e X.env [.ExceptHandler (some t) (some n) [.Assign [.Name v p1] (.Name n p2) p3] pos']) (SP X pins D) X.xe s₃) X.xe s₂) X.xe s₁) ?caught PassesOwn.looking
  · refine wpAny_Try_except (wpAny_mono (body_.run [] s σ H D (I.toTry _) h) ?_ fun _ _ z => z)
    intro f s1 hsp
    match f, hsp with
    | .next, ⟨σ', H', J', q⟩ => exact wpAny_execs_nil ⟨σ', H', J'.ofTry ok, q⟩
    | .brk, ⟨σ', H', J', q⟩ => exact ⟨σ', H', J'.ofTry ok, q⟩
    | .cont, ⟨σ', H', J', q⟩ => exact ⟨σ', H', J'.ofTry ok, q⟩
    | .ret u, ⟨v, σ', H', J', r, q⟩ => exact ⟨v, σ', H', J'.ofTry ok, r, q⟩
  case caught =>
    rintro u s' ⟨a, B, sI, pins', σ', H', cls, d, rfl, J', nb, up, sky, na, os, ag, hm, hk⟩
    have J : Inv X pins σ' H' sI := J'.ofTry ok
    have sk2 : Sky B (X.env :: X.outer) a (Zc cls d) X.env.locals s'.heap := hs ▸ sky
    show wpAny (model X.prog X.w) X.A (noteFrame (.ref a) X.env) _ _ _
    refine Sky.land Zc.steady frm hf sk2 fun h3 fl3 up3 => ?_
    have notF : ∀ {g : Heap}, HandSPX.FlyingZ B (X.env :: X.outer) a (Zc cls d) g → a ∉ frs (X.env :: X.outer) := by
      intro g fl hmem
      obtain ⟨o1, v1, e1, _, e3⟩ := fl.there
      obtain ⟨_, o2, e2, hn2⟩ := fl.2.2.1.mem hmem
      rw [e1] at e2
      cases e2
      exact hn2 _ e3
    have nfr := notF fl3
    have nL : a ≠ X.env.locals := by
      intro z
      exact nfr (List.mem_filterMap.mpr ⟨X.env, List.mem_cons_self, hf.trans (congrArg some z.symm)⟩)
    have nF : a ∉ X.fs := by
      intro z
      obtain ⟨e, he, q⟩ := List.mem_filterMap.mp z
      exact nfr (List.mem_filterMap.mpr ⟨e, List.mem_cons_of_mem _ he, q⟩)
    have nI : sI.heap.get? a = none := by
      cases e : sI.heap.get? a with
      | none => rfl
      | some o =>
        have q := nb a o e (by rw [hs]; exact nfr)
        rw [fl3.2.1] at q
        cases q
    obtain ⟨oe3, vs3, he3, hz3, hd3⟩ := fl3.there
    have J3 : Inv X pins σ' H' { s' with heap := h3 } := J.landed nb fl3.1 (up.trans up3) os ag
    refine wpAny_handleBy_cons (codeAny_handlers_test ?_) (fun q => nomatch q)
    refine ht a oe3 _ _ _ _ _ cls _ _ (J3.suite he3 hd3 na nL nF) he3 hz3.1 hm fun c h' kp lk => lk.here ?_
    refine codeAny_handlers_suite_as (HandSPX.lands_againZ (fly_keeps fl3 kp) fun h4 fl4 up4 => ?_)
    have upA : sI.heap.UpToSlots h4 := ((up.trans up3).trans (Heap.UpToSlots.of_keeps kp)).trans up4
    have J4 : Inv X pins σ' H' { s' with heap := h4 } := J.landed nb fl4.1 upA os ag
    obtain ⟨oe4, vs4, he4, hz4, hd4⟩ := fl4.there
    refine store_ok (X := X.suite a ((a, oe4) :: (X.pn ++ pins))) (v := .ref a) (J4.suite he4 hd4 na nL nF) hN hi (.inl hln) rfl (fun s5 S5 => ?_) (.inr hln)
    have hlen : i < σ'.length := by
      rw [J.len]
      exact (List.getElem?_eq_some_iff.mp hi).1
    refine wpAny_mono ((hsu a oe4 (X.pn ++ pins)).run [] s5 _ H' { nx := fun σ6 H6 => σ6 = (σ'.set i (some (.ref a))).set j (some (.ref a)) ∧ H6 = H', rt := fun _ _ => False } S5 ?_) (fun f s6 hsp => ?_) (fun _ _ z => False.elim z)
    · exact ⟨.ref a, by simp [hlen], rfl, rfl⟩
    match f, hsp with
    | .next, ⟨σ6, H6, S6, e6, e7⟩ =>
      subst e6 e7
      refine gone_ok (X := X.suite a ((a, oe4) :: (X.pn ++ pins))) S6 hN hi hln fun s7 S7 => ?_
      have ha7 := (S7.pin (a, oe4) (List.mem_append_left _ List.mem_cons_self)).1
      exact ⟨_, _, track (S7.unsuite ok) J nI hx na nL ha7 hd4 (exH_ok ha7 hz4 hd4), hk a na⟩
    | .brk, ⟨_, _, _, z⟩ => exact z.elim
    | .cont, ⟨_, _, _, z⟩ => exact z.elim
    | .ret u, ⟨_, _, _, _, _, z⟩ => exact z.elim
end
end HopR

set_option Elab.async false
set_option linter.all false
set_option maxRecDepth 100000
namespace HopR
open PySem PySem.Spec PyProof.Rows L2
/-! ### isinstance of a kept exception without a dict -/
section
variable {X : Cx}
theorem held_at {pins : List (Addr × Obj)} {σ : L2.St} {H : Hp} {s : Shared} {a D : Addr} (I : Inv X pins σ H s) (ha : H a = some (ExH (.ref D) none a)) : ∃ oe, PySem.W.InstAt s.heap a oe D none := by
  obtain ⟨⟨oe, vs, e, ⟨z1, z2⟩, q⟩, _, _⟩ := I.hok a _ ha
  obtain ⟨oc, od, oda, osl⟩ := oe
  dsimp only at z1 z2 q
  subst z1 z2 q
  exact ⟨_, e, rfl, rfl, trivial⟩
/-- isinstance(kept, c) -/
def rIsH (K : PySem.W.Frag) : List V → Hp → VK → Prop := fun xs H Q => ∃ (a D : Addr) (c : V) (cv : Value) (b : Bool), xs = [.ref a, c] ∧ H a = some (ExH (.ref D) none a) ∧ ExcC K D ∧ ClsV c cv ∧ PySem.W.kitOne K (.ref D) cv = some b ∧ Q (.bl b) H
theorem call_isH : CallR X (.builtin "isinstance") (rIsH X.K) := by
  rintro pins s σ H xs us Q I r ⟨a, D, c, cv, b, rfl, ha, C, kc, e, q⟩
  obtain ⟨u1, u2, rfl, r1, r2⟩ := vals2 r
  obtain rfl := kc.eq r2
  cases (show u1 = Value.ref a from r1)
  obtain ⟨oe, J⟩ := held_at I ha
  exact PySem.W.kia_one (PySem.W.handS_kitx_exc C.hg C.hk C.hs C.hd C.ha C.hn C.ht C.hm) I.kIn J e (fun z => nomatch z) fun tk => ⟨.bl b, H, I.tok tk, rfl, q⟩
/-- isinstance(kept, (c1, c2, ..)) -/
def rIsHT (K : PySem.W.Frag) : List V → Hp → VK → Prop := fun xs H Q => ∃ (a D tp : Addr) (cs : List V) (ws : List Value) (b : Bool), xs = [.ref a, .ref tp] ∧ H a = some (ExH (.ref D) none a) ∧ ExcC K D ∧ H tp = some (.tup cs) ∧ Paired ClsV cs ws ∧ PySem.W.kitAny K (.ref D) ws = some b ∧ Q (.bl b) H
theorem call_isHT : CallR X (.builtin "isinstance") (rIsHT X.K) := by
  rintro pins s σ H xs us Q I r ⟨a, D, tp, cs, ws, b, rfl, ha, C, ht, kc, e, q⟩
  obtain ⟨u1, u2, rfl, r1, r2⟩ := vals2 r
  cases (show u1 = Value.ref a from r1)
  cases (show u2 = Value.ref tp from r2)
  obtain ⟨oe, J⟩ := held_at I ha
  have hT : ObjOk X.prog X.w H s.heap tp (.tup cs) := I.hok tp _ ht
  obtain ⟨_, its, rv, ⟨oc, od, dt, osl⟩, g1, g2, n, g3⟩ := hT
  obtain rfl := ClsV.all kc rv
  simp only at g2 g3
  subst g2 g3
  exact PySem.W.kia_tup (PySem.W.handS_kitx_exc C.hg C.hk C.hs C.hd C.ha C.hn C.ht C.hm) I.kIn J g1 e (fun z => nomatch z) fun tk => ⟨.bl b, H, I.tok tk, rfl, q⟩
end
/-! ### things that are whole numbers or not -/
/-- x is of a built-in type that is no whole number's -/
def Odd (K : PySem.W.Frag) (H : Hp) (x : V) : Prop := ∃ t bI, TyX K H x t ∧ PySem.W.kitOne K t (.type "int") = some bI ∧ (bI = true → PySem.W.kitOne K t (.type "bool") = some true)
theorem odd_non {K : PySem.W.Frag} {H : Hp} : Odd K H .non := ⟨_, false, .base .non, kit_ty (by decide +kernel), fun z => nomatch z⟩
theorem odd_bl {K : PySem.W.Frag} {H : Hp} {b : Bool} : Odd K H (.bl b) := ⟨_, true, .base (.bl b), kit_ty (by decide +kernel), fun _ => kit_ty (by decide +kernel)⟩
theorem odd_str {K : PySem.W.Frag} {H : Hp} {z : Str} : Odd K H (.str z) := ⟨_, false, .base (.str z), kit_ty (by decide +kernel), fun z => nomatch z⟩
theorem odd_lst {K : PySem.W.Frag} {H : Hp} {a : Addr} {xs : List V} (e : H a = some (.lst xs)) : Odd K H (.ref a) := ⟨_, false, .base (.lst e), kit_ty (by decide +kernel), fun z => nomatch z⟩
theorem odd_tup {K : PySem.W.Frag} {H : Hp} {a : Addr} {xs : List V} (e : H a = some (.tup xs)) : Odd K H (.ref a) := ⟨_, false, .base (.tup e), kit_ty (by decide +kernel), fun z => nomatch z⟩
theorem odd_dK {K : PySem.W.Frag} {H : Hp} {a : Addr} {xs : List (Key × V)} (e : H a = some (.dK xs)) : Odd K H (.ref a) := ⟨_, false, .base (.dK e), kit_ty (by decide +kernel), fun z => nomatch z⟩
end HopR

set_option Elab.async false
set_option linter.all false
set_option maxRecDepth 100000
namespace HopR
open PySem L2
theorem same_upd {H : Hp} {p : Addr} {o : HO} (h : H p = none) : Same H (upd H p o) := fun b x e => by
  rw [upd_ne (ne_of_none e h)]
  exact e
theorem same_new {H H1 : Hp} {p : Addr} {o : HO} (h : H p = none) (s : Same H H1) : Same H (upd H1 p o) := fun b x e => by
  rw [upd_ne (ne_of_none e h)]
  exact s _ _ e
/-- a def of the text, its binding, where its name leads -/
structure Fn (K : PySem.W.Frag) (mg : Str → Option Value) (x : Str) (st : Stmt) (ps : List Str) (f : Addr) (fd : FuncData) : Prop where
  F : Fun K x x st f fd
  b : Binds K fd ps []
  g : mg x = some (.ref f)
end HopR

set_option Elab.async false
set_option linter.all false
set_option maxRecDepth 100000
namespace HopR
open PySem L2
/-! ### classes of refusals -/
theorem kit_own {K : PySem.W.Frag} {D C : Addr} {b : Bool} (ne : D ≠ C) (hd : PySem.W.hasDictIn K C = true) (ht : PySem.W.typeIn K (.ref C) = some (.type "type")) (h : PySem.W.subIn K (.ref D) (.ref C) = some b) : PySem.W.kitOne K (.ref D) (.ref C) = some b := by
  obtain ⟨cd, hc, _⟩ := PySem.W.any_some hd
  have e1 : ((Value.ref D == Value.ref C) = true) = False := by
    rw [eq_iff_iff]
    exact ⟨fun z => ne (Value.ref.inj (beq_iff_eq.mp z)), False.elim⟩
  have e2 : ((PySem.W.clsIn K C).isSome && PySem.W.typeIn K (.ref C) == some (.type "type")) = true := by rw [hc, ht] <;> rfl
  unfold PySem.W.kitOne
  rw [if_neg (by rw [e1]; exact id)]
  show (if ((PySem.W.clsIn K C).isSome && PySem.W.typeIn K (.ref C) == some (.type "type")) = true then PySem.W.subIn K (.ref D) (.ref C) else none) = some b
  rw [if_pos e2]
  exact h
theorem kit_me {K : PySem.W.Frag} {D : Addr} : PySem.W.kitOne K (.ref D) (.ref D) = some true := by
  unfold PySem.W.kitOne
  rw [if_pos (by simp)]
theorem kit_blt {K : PySem.W.Frag} {D : Addr} {T : String} {b : Bool} (m : PySem.W.kitMeta T = true) (h : PySem.W.subIn K (.ref D) (.type T) = some b) : PySem.W.kitOne K (.ref D) (.type T) = some b := by
  have e1 : ¬ ((Value.ref D == Value.type T) = true) := fun z => nomatch (beq_iff_eq.mp z)
  unfold PySem.W.kitOne
  rw [if_neg e1]
  show (if PySem.W.kitMeta T = true then PySem.W.subIn K (.ref D) (.type T) else none) = some b
  rw [if_pos m]
  exact h
theorem kitAny_cons {K : PySem.W.Frag} {t c : Value} {r : List Value} (h : PySem.W.kitOne K t c = some false) (q : PySem.W.kitAny K t r = some false) : PySem.W.kitAny K t (c :: r) = some false := by
  simp only [PySem.W.kitAny, h, q]
theorem kitAny_nil {K : PySem.W.Frag} {t : Value} : PySem.W.kitAny K t [] = some false := by simp only [PySem.W.kitAny]
theorem exmAny2 {K : PySem.W.Frag} {t c1 c2 : Value} {b1 b2 : Bool} (h1 : PySem.W.exmOne K t c1 = some b1) (h2 : PySem.W.exmOne K t c2 = some b2) : PySem.W.exmAny K t [c1, c2] = some (b1 || b2) := by
  simp only [PySem.W.exmAny, h1, h2, Bool.or_false]
/-- an own exception class, as its instances are made and asked -/
structure Xc (K : PySem.W.Frag) (D : Addr) (bm : List Value) (nw : String) : Prop where
  x : PySem.W.excIn K D bm nw = true
  k : PySem.W.keepIn K (.ref D) = true
  be : PySem.W.subIn K (.ref D) (.type "BaseException") = some true
  ty : PySem.W.typeIn K (.ref D) = some (.type "type")
  c : ExcC K D
abbrev bmV : List Value := [.type "ValueError", .type "Exception", .type "BaseException", .type "object"]
abbrev bmZ : List Value := [.type "ZeroDivisionError", .type "ArithmeticError", .type "Exception", .type "BaseException", .type "object"]
/-! ### things by their kind -/
theorem tyx_same {K : PySem.W.Frag} {H H' : Hp} {x : V} {t : Value} (s : Same H H') (ty : TyX K H x t) : TyX K H' x t := by
  cases ty with
  | base h =>
    cases h with
    | non => exact .base .non
    | bl x => exact .base (.bl x)
    | int i => exact .base (.int i)
    | str x => exact .base (.str x)
    | flt x => exact .base (.flt x)
    | lst e => exact .base (.lst (s _ _ e))
    | frz e => exact .base (.frz (s _ _ e))
    | tup e => exact .base (.tup (s _ _ e))
    | dK e => exact .base (.dK (s _ _ e))
    | dT e => exact .base (.dT (s _ _ e))
    | ins e a b c d f => exact .base (.ins (s _ _ e) a b c d f)
  | byt b => exact .byt b
  | set e => exact .set (s _ _ e)
  | kList e c => exact .kList e c
  | kTuple e c => exact .kTuple e c
  | kDict e c => exact .kDict e c
  | fTuple e => exact .fTuple (s _ _ e)
  | fDict e => exact .fDict (s _ _ e)
theorem odd_same {K : PySem.W.Frag} {H H' : Hp} {x : V} (s : Same H H') (h : Odd K H x) : Odd K H' x := by
  obtain ⟨t, b, ty, k⟩ := h
  exact ⟨t, b, tyx_same s ty, k⟩
/-- x is no text -/
def NoTxt (K : PySem.W.Frag) (H : Hp) (x : V) : Prop := ∃ t, TyX K H x t ∧ PySem.W.kitOne K t (.type "str") = some false
theorem notxt_non {K : PySem.W.Frag} {H : Hp} : NoTxt K H .non := ⟨_, .base .non, kit_ty (by decide +kernel)⟩
theorem notxt_bl {K : PySem.W.Frag} {H : Hp} {b : Bool} : NoTxt K H (.bl b) := ⟨_, .base (.bl b), kit_ty (by decide +kernel)⟩
theorem notxt_int {K : PySem.W.Frag} {H : Hp} {i : Int} : NoTxt K H (.int i) := ⟨_, .base (.int i), kit_ty (by decide +kernel)⟩
theorem notxt_lst {K : PySem.W.Frag} {H : Hp} {a : Addr} {xs : List V} (e : H a = some (.lst xs)) : NoTxt K H (.ref a) := ⟨_, .base (.lst e), kit_ty (by decide +kernel)⟩
theorem notxt_tup {K : PySem.W.Frag} {H : Hp} {a : Addr} {xs : List V} (e : H a = some (.tup xs)) : NoTxt K H (.ref a) := ⟨_, .base (.tup e), kit_ty (by decide +kernel)⟩
theorem notxt_dK {K : PySem.W.Frag} {H : Hp} {a : Addr} {xs : List (Key × V)} (e : H a = some (.dK xs)) : NoTxt K H (.ref a) := ⟨_, .base (.dK e), kit_ty (by decide +kernel)⟩
theorem notxt_same {K : PySem.W.Frag} {H H' : Hp} {x : V} (s : Same H H') (h : NoTxt K H x) : NoTxt K H' x := by
  obtain ⟨t, ty, k⟩ := h
  exact ⟨t, tyx_same s ty, k⟩
/-! ### signs in the written dict of both signs -/
/-- the sign is a bead or a free place -/
def okc (c : Nat) : Bool := decide (c = 111) || decide (c = 46)
theorem okc_cd (b : Bool) : okc (cd b) = true := by cases b <;> rfl
def keyText : Value → Option Str
  | .str s _ => some s
  | _ => none
theorem keyText_str {v : Value} {s : Str} (h : keyText v = some s) : ∃ t, v = .str s t := by
  cases v <;> simp [keyText] at h
  exact ⟨_, by rw [h]⟩
def keysAre (es : Array DictEntry) : Prop := es.toList.map (fun e => keyText e.key) = [some ("o" : Str), some ("." : Str)]
theorem sign_in {K : PySem.W.Frag} {d : Addr} {es : Array DictEntry} {n : Nat} (l : K.lookup d = some ⟨.type "dict", none, .dict es n, #[]⟩) (hk : keysAre es) (c : Nat) : ∃ r, PySem.W.nsIn K d ⟨#[c]⟩ = some r ∧ r.isSome = okc c := by
  unfold keysAre at hk
  obtain ⟨e1, e2, hes⟩ : ∃ e1 e2, es.toList = [e1, e2] := by
    have hl := congrArg List.length hk
    rw [List.length_map] at hl
    match h : es.toList, hl with
    | [e1, e2], _ => exact ⟨e1, e2, rfl⟩
  rw [hes] at hk
  obtain ⟨t1, k1⟩ := keyText_str (List.cons.inj hk).1
  obtain ⟨t2, k2⟩ := keyText_str (List.cons.inj (List.cons.inj hk).2).1
  have i1 : e1.key.isStr ⟨#[c]⟩ = decide (c = 111) := by
    rw [k1]
    by_cases h : c = 111
    · subst h
      show (("o" : Str) == ⟨#[111]⟩) = true
      decide +kernel
    · rw [decide_eq_false h]
      have : ¬ (("o" : Str) = ⟨#[c]⟩) := fun z => by
        have z2 := congrArg (fun q : Str => q.cps.toList) z
        have z3 : [111] = [c] := z2
        exact h (List.cons.inj z3).1.symm
      simp [Value.isStr, this]
  have i2 : e2.key.isStr ⟨#[c]⟩ = decide (c = 46) := by
    rw [k2]
    by_cases h : c = 46
    · subst h
      show (("." : Str) == ⟨#[46]⟩) = true
      decide +kernel
    · rw [decide_eq_false h]
      have : ¬ (("." : Str) = ⟨#[c]⟩) := fun z => by
        have z2 := congrArg (fun q : Str => q.cps.toList) z
        have z3 : [46] = [c] := z2
        exact h (List.cons.inj z3).1.symm
      simp [Value.isStr, this]
  have r1 : e1.refKey = false := by unfold DictEntry.refKey; rw [k1]
  have r2 : e2.refKey = false := by unfold DictEntry.refKey; rw [k2]
  unfold PySem.W.nsIn
  rw [l]
  simp only [hes, List.find?, i1, i2, List.any_cons, r1, r2, List.any_nil, Bool.or_false]
  unfold okc
  by_cases h1 : c = 111
  · simp [h1]
  · by_cases h2 : c = 46
    · simp [h2]
    · simp [h1, h2]
/-- x is no row: no text, or one that is too short, too long, or has another sign -/
def NotRow (K : PySem.W.Frag) (H : Hp) (x : V) : Prop := NoTxt K H x ∨ ∃ z : Str, x = .str z ∧ z.length ≤ 10000 ∧ (z.length = 0 ∨ 30 < z.length ∨ ∃ c ∈ z.cps.toList, okc c = false)
def NotWord (K : PySem.W.Frag) (H : Hp) (x : V) : Prop := NoTxt K H x ∨ ∃ z : Str, x = .str z ∧ z.length ≤ 10000 ∧ (30 < z.length ∨ ∃ c ∈ z.cps.toList, okc c = false)
theorem notrow_same {K : PySem.W.Frag} {H H' : Hp} {x : V} (s : Same H H') (h : NotRow K H x) : NotRow K H' x := h.imp (notxt_same s) id
theorem notword_same {K : PySem.W.Frag} {H H' : Hp} {x : V} (s : Same H H') (h : NotWord K H x) : NotWord K H' x := h.imp (notxt_same s) id
theorem notword_row {K : PySem.W.Frag} {H : Hp} {x : V} (h : NotWord K H x) : NotRow K H x := h.imp id fun ⟨z, e, l, q⟩ => ⟨z, e, l, .inr q⟩
end HopR

set_option Elab.async false
set_option linter.all false
set_option maxRecDepth 100000
namespace HopR
open PySem L2
/-! ### words: where they can be shortened, and to what -/
def shp (bs : List Bool) (i : Nat) : Bool := decide ((bs.drop i).take 2 = [true, false])
def plc (bs : List Bool) : List Nat := (List.range bs.length).filter (shp bs)
def shA (bs : List Bool) (k : Nat) : List Bool := bs.take (k + 1) ++ bs.drop (k + 2)
def shB (bs : List Bool) (k : Nat) : List Bool := bs.take k ++ bs.drop (k + 1)
theorem shp_split {bs : List Bool} {i : Nat} (h : shp bs i = true) : bs = bs.take i ++ true :: false :: bs.drop (i + 2) ∧ i + 2 ≤ bs.length := by
  have h := of_decide_eq_true h
  have e : bs.drop i = [true, false] ++ (bs.drop i).drop 2 := by
    conv => lhs; rw [← List.take_append_drop 2 (bs.drop i), h]
  rw [List.drop_drop] at e
  have hl := congrArg List.length e
  rw [List.length_drop, List.length_append, List.length_drop] at hl
  have hl2 : bs.length - i = 2 + (bs.length - (i + 2)) := hl
  refine ⟨?_, by omega⟩
  conv => lhs; rw [← List.take_append_drop i bs, e]
  rfl
theorem plc_shp {bs : List Bool} {k : Nat} (h : k ∈ plc bs) : shp bs k = true ∧ k < bs.length := ⟨(List.mem_filter.mp h).2, List.mem_range.mp (List.mem_filter.mp h).1⟩
theorem plc_few (bs : List Bool) : (plc bs).length ≤ bs.length := by
  refine Nat.le_trans (List.length_filter_le _ _) ?_
  rw [List.length_range]
  exact Nat.le_refl _
theorem shA_len {bs : List Bool} {k : Nat} (h : k + 2 ≤ bs.length) : (shA bs k).length + 1 = bs.length := by
  unfold shA
  rw [List.length_append, List.length_take, List.length_drop]
  omega
theorem shB_len {bs : List Bool} {k : Nat} (h : k + 2 ≤ bs.length) : (shB bs k).length + 1 = bs.length := by
  unfold shB
  rw [List.length_append, List.length_take, List.length_drop]
  omega
theorem shA_eq {bs : List Bool} {k : Nat} (h : k ∈ plc bs) : shA bs k = bs.take k ++ [true] ++ bs.drop (k + 2) := by
  obtain ⟨e, hl⟩ := shp_split (plc_shp h).1
  unfold shA
  have e2 : bs.take (k + 1) = bs.take k ++ [true] := by
    rw [List.take_add_one]
    congr 1
    rw [e, List.getElem?_append_right (by rw [List.length_take]; omega), List.length_take, show k - min k bs.length = 0 by omega]
    rfl
  rw [e2]
theorem shB_eq {bs : List Bool} {k : Nat} (h : k ∈ plc bs) : shB bs k = bs.take k ++ [false] ++ bs.drop (k + 2) := by
  obtain ⟨e, hl⟩ := shp_split (plc_shp h).1
  unfold shB
  rw [List.append_assoc]
  congr 1
  have e3 : bs.drop (k + 1) = false :: bs.drop (k + 2) := by
    have h1 : k + 1 < bs.length := by omega
    rw [List.drop_eq_getElem_cons h1]
    congr 1
    have h2 : bs[k + 1]? = some false := by
      rw [e, List.getElem?_append_right (by rw [List.length_take]; omega), List.length_take, show k + 1 - min k bs.length = 1 by omega]
      rfl
    rw [List.getElem?_eq_getElem h1] at h2
    exact Option.some.inj h2
  rw [e3]
  rfl
/-! ### words and other things -/
def isRowB (z : Str) : Bool := decide (1 ≤ z.length) && (decide (z.length ≤ 30) && z.cps.toList.all okc)
def isWordB (z : Str) : Bool := decide (z.length ≤ 30) && z.cps.toList.all okc
/-- whether x is a row -/
def RowB (K : PySem.W.Frag) (H : Hp) (x : V) (b : Bool) : Prop := (NoTxt K H x ∧ b = false) ∨ ∃ z : Str, x = .str z ∧ z.length ≤ 10000 ∧ b = isRowB z
/-- whether x is a word -/
def WordB (K : PySem.W.Frag) (H : Hp) (x : V) (b : Bool) : Prop := (NoTxt K H x ∧ b = false) ∨ ∃ z : Str, x = .str z ∧ z.length ≤ 10000 ∧ b = isWordB z
theorem wordB_same {K : PySem.W.Frag} {H H' : Hp} {x : V} {b : Bool} (s : Same H H') (h : WordB K H x b) : WordB K H' x b := h.imp (fun ⟨q, e⟩ => ⟨notxt_same s q, e⟩) id
theorem rowB_same {K : PySem.W.Frag} {H H' : Hp} {x : V} {b : Bool} (s : Same H H') (h : RowB K H x b) : RowB K H' x b := h.imp (fun ⟨q, e⟩ => ⟨notxt_same s q, e⟩) id
theorem okc_tx (bs : List Bool) : (tx bs).cps.toList.all okc = true := by
  rw [tx_list, List.all_map, List.all_eq_true]
  exact fun b _ => okc_cd b
theorem isWord_tx {bs : List Bool} (h : bs.length ≤ 30) : isWordB (tx bs) = true := by
  unfold isWordB
  rw [okc_tx, tx_len, decide_eq_true h]
  rfl
theorem isRow_tx {bs : List Bool} (h1 : 1 ≤ bs.length) (h : bs.length ≤ 30) : isRowB (tx bs) = true := by
  unfold isRowB
  rw [okc_tx, tx_len, decide_eq_true h, decide_eq_true h1]
  rfl
theorem len0 {z : Str} (h : z.length = 0) : z = "" := by
  apply ext_str
  have : z.cps = #[] := Array.eq_empty_of_size_eq_zero h
  rw [this]
  rfl
/-- as the program tells it: a row, or the text without signs -/
theorem isWord_or (z : Str) : isWordB z = (isRowB z || decide (z = "")) := by
  unfold isWordB isRowB
  by_cases h : z.length = 0
  · rw [len0 h]
    decide +kernel
  · have ne : ¬ z = "" := fun e => h (by rw [e]; decide +kernel)
    rw [decide_eq_false ne, decide_eq_true (show 1 ≤ z.length by omega)]
    simp
/-- a spot at which the word of bs can't be shortened -/
def BadSpot (K : PySem.W.Frag) (H : Hp) (y : V) (ks : List Nat) : Prop := Odd K H y ∨ ∃ i : Int, y = .int i ∧ ∀ k ∈ ks, i ≠ (k : Int)
theorem badspot_same {K : PySem.W.Frag} {H H' : Hp} {y : V} {ks : List Nat} (s : Same H H') (h : BadSpot K H y ks) : BadSpot K H' y ks := h.imp (odd_same s) id
theorem inV_in {ks : List Nat} {k : Nat} (h : k ∈ ks) : inV (wv k) (ks.map wv) = true := by
  unfold inV
  rw [List.any_eq_true]
  exact ⟨wv k, List.mem_map_of_mem h, by unfold wv eqV; simp⟩
theorem inV_no {ks : List Nat} {i : Int} (h : ∀ k ∈ ks, i ≠ (k : Int)) : inV (.int i) (ks.map wv) = false := by
  unfold inV
  rw [List.any_eq_false]
  intro x hx
  obtain ⟨k, hk, rfl⟩ := List.mem_map.mp hx
  unfold wv eqV
  simp
  have := h k hk
  omega
theorem flat_ks (ks : List Nat) : (ks.map wv).all flatV = true := by
  rw [List.all_eq_true]
  intro x hx
  obtain ⟨k, _, rfl⟩ := List.mem_map.mp hx
  rfl
theorem fit {m : Nat} (h : m ≤ 10000) : m ≤ sizeLine := Nat.le_trans h (by decide)
theorem fit' {m : Nat} (h : m ≤ 10000) : m < sizeLine := Nat.lt_of_le_of_lt h (by decide)
theorem tx_fit {bs : List Bool} (h : bs.length ≤ 10000) : (tx bs).length ≤ sizeLine := by
  rw [tx_len]
  exact fit h
theorem tx_nil : ("" : Str) = tx [] := by decide +kernel
theorem dec_str {a b : Str} {p : Prop} [Decidable p] (h : a = b ↔ p) : decide (V.str a = V.str b) = decide p := by
  by_cases q : p
  · rw [decide_eq_true q, decide_eq_true (by rw [h.mpr q])]
  · rw [decide_eq_false q, decide_eq_false fun z => q (h.mp (V.str.inj z))]
end HopR

set_option Elab.async false
set_option linter.all false
set_option maxRecDepth 100000
namespace HopR
open PySem L2
/-! ### the draws -/
def dval (left : Int) (k : Nat) (z : Int) : Int :=
  if (1000000000000000000 : Int) ≤ left then left % z
  else
    let small := left % 1000000000000000000
    let one := (small + 7 * (k : Int) + 1) * (48271 + 2 * (k : Int) * (k : Int)) % 2147483647
    let two := (small / 3 + 11 * (k : Int) + 5) * (39373 + 6 * (k : Int)) % 2147483629
    (one * two + one / 64) % z
def dleft (left : Int) (z : Int) : Int := if (1000000000000000000 : Int) ≤ left then left / z else left
def draws : Int → Nat → List Int → List Int
  | _, _, [] => []
  | left, k, z :: r => dval left k z :: draws (dleft left z) (k + 1) r
theorem draws_len : ∀ (zs : List Int) (c : Int) (k : Nat), (draws c k zs).length = zs.length
  | [], _, _ => rfl
  | z :: r, c, k => by
    show (draws (dleft c z) (k + 1) r).length + 1 = r.length + 1
    rw [draws_len r]
theorem dval_ok {c : Int} {k : Nat} {z : Int} (h : 0 < z) : 0 ≤ dval c k z ∧ dval c k z < z := by
  unfold dval
  split
  · exact ⟨Int.emod_nonneg _ (by omega), Int.emod_lt_of_pos _ h⟩
  · exact ⟨Int.emod_nonneg _ (by omega), Int.emod_lt_of_pos _ h⟩
theorem draws_ok : ∀ (zs : List Int) (c : Int) (k : Nat), (∀ z ∈ zs, 0 < z) → ∀ (i : Nat) (d z : Int), (draws c k zs)[i]? = some d → zs[i]? = some z → 0 ≤ d ∧ d < z
  | [], _, _, _, i, d, z, _, h => by simp at h
  | y :: r, c, k, hp, 0, d, z, h1, h2 => by
    have e1 : dval c k y = d := Option.some.inj h1
    have e2 : y = z := Option.some.inj h2
    subst e1 e2
    exact dval_ok (hp y (List.mem_cons_self ..))
  | y :: r, c, k, hp, i + 1, d, z, h1, h2 => draws_ok r _ _ (fun q hq => hp q (List.mem_cons_of_mem _ hq)) i d z h1 h2
/-- the size of a draw is one that is reckoned with -/
def SizeOk (z : Int) : Prop := 0 < z ∧ z < 18446744073709551616
def bits (cs : List Int) : List Bool := cs.map fun c => decide (c = 1)
theorem signs_rows : ∀ (ys : List Str), (∀ y ∈ ys, ∃ b, y = tx [b]) → ∃ bs : List Bool, ys = bs.map fun b => tx [b]
  | [], _ => ⟨[], rfl⟩
  | y :: r, h => by
    obtain ⟨b, e⟩ := h y (List.mem_cons_self ..)
    obtain ⟨bs, e2⟩ := signs_rows r fun z hz => h z (List.mem_cons_of_mem _ hz)
    exact ⟨b :: bs, by rw [e, e2]; rfl⟩
theorem dot_o (c : Int) (h0 : 0 ≤ c) (h2 : c < 2) : atI (".o" : Str).cps.toList c = some (cd (decide (c = 1))) := by
  have e : (".o" : Str).cps.toList = [46, 111] := by decide +kernel
  rw [e]
  rcases (show c = 0 ∨ c = 1 by omega) with rfl | rfl
  · decide
  · decide
/-- a row -/
def Row (bs : List Bool) : Prop := 1 ≤ bs.length ∧ bs.length ≤ 30
theorem row_size {bs : List Bool} (h : Row bs) : (tx bs).length ≤ sizeLine := tx_fit (Nat.le_trans h.2 (by decide))
theorem flat_rep {α : Type} (x : α) : ∀ m : Nat, (List.replicate m [x]).flatten = List.replicate m x
  | 0 => rfl
  | m + 1 => by
    rw [List.replicate_succ, List.flatten_cons, flat_rep x m]
    rfl
theorem rep_of (m : Nat) : repS "o." m = tx (List.replicate m [true, false]).flatten := by
  unfold repS tx
  have e : ("o." : Str).cps.toList = [true, false].map cd := by decide +kernel
  rw [e, List.map_flatten, List.map_replicate]
theorem rep_of_len (m : Nat) : (List.replicate m [true, false]).flatten.length = 2 * m := by
  rw [List.length_flatten, List.map_replicate, List.sum_replicate_nat]
  show m * 2 = 2 * m
  omega
def spDrawn (K : PySem.W.Frag) : Sp := fun vs H Q _ => ∃ (c : Int) (a : Addr) (zs : List Int), vs = [.int c, .ref a] ∧ SqL K H a (zs.map V.int) ∧ (∀ z ∈ zs, SizeOk z) ∧ zs.length ≤ 1000 ∧
  ∀ H' p, Same H H' → H p = none → H' p = some (.lst ((draws c 0 zs).map V.int)) → Q (.ref p) H'
def spCellH (K : PySem.W.Frag) : Sp := fun vs H Q _ => ∃ (a : Addr) (ns : List Int) (k : Nat), vs = [.ref a, .int (k : Int)] ∧ SqL K H a (ns.map V.int) ∧ ∀ c : Int, Q (.int c) H
def spLRow : Sp := fun vs H Q _ => ∃ (c : Int) (M : Nat), vs = [.int c, .int (M : Int)] ∧ 1 ≤ M ∧ M ≤ 30 ∧ ∀ H' bs, Same H H' → 1 ≤ bs.length → bs.length ≤ M → Q (.str (tx bs)) H'
end HopR

set_option Elab.async false
set_option linter.all false
set_option maxRecDepth 100000
namespace HopR
open PySem PySem.Spec PyProof.Rows L2
open Builtin Builtin.Str Builtin.Int
/-! ### f"{n:b}" for n to 100 -/
/-- the figures of n by twos -/
def binText (n : Nat) : Str := ⟨((Nat.toDigits 2 n).map Char.toNat).toArray⟩
set_option maxHeartbeats 8000000 in
theorem gives_b : ∀ (n : Nat) (t u : Tok), n < 101 → Gives («int.__format__» ⟨[.int (n : Int) t, .str "b" u], []⟩) (.str (binText n))
  | 0, _, _, _ => .of_eq rfl
  | 1, _, _, _ => .of_eq rfl
  | 2, _, _, _ => .of_eq rfl
  | 3, _, _, _ => .of_eq rfl
  | 4, _, _, _ => .of_eq rfl
  | 5, _, _, _ => .of_eq rfl
  | 6, _, _, _ => .of_eq rfl
  | 7, _, _, _ => .of_eq rfl
  | 8, _, _, _ => .of_eq rfl
  | 9, _, _, _ => .of_eq rfl
  | 10, _, _, _ => .of_eq rfl
  | 11, _, _, _ => .of_eq rfl
  | 12, _, _, _ => .of_eq rfl
  | 13, _, _, _ => .of_eq rfl
  | 14, _, _, _ => .of_eq rfl
  | 15, _, _, _ => .of_eq rfl
  | 16, _, _, _ => .of_eq rfl
  | 17, _, _, _ => .of_eq rfl
  | 18, _, _, _ => .of_eq rfl
  | 19, _, _, _ => .of_eq rfl
  | 20, _, _, _ => .of_eq rfl
  | 21, _, _, _ => .of_eq rfl
  | 22, _, _, _ => .of_eq rfl
  | 23, _, _, _ => .of_eq rfl
  | 24, _, _, _ => .of_eq rfl
  | 25, _, _, _ => .of_eq rfl
  | 26, _, _, _ => .of_eq rfl
  | 27, _, _, _ => .of_eq rfl
  | 28, _, _, _ => .of_eq rfl
  | 29, _, _, _ => .of_eq rfl
  | 30, _, _, _ => .of_eq rfl
  | 31, _, _, _ => .of_eq rfl
  | 32, _, _, _ => .of_eq rfl
  | 33, _, _, _ => .of_eq rfl
  | 34, _, _, _ => .of_eq rfl
  | 35, _, _, _ => .of_eq rfl
  | 36, _, _, _ => .of_eq rfl
  | 37, _, _, _ => .of_eq rfl
  | 38, _, _, _ => .of_eq rfl
  | 39, _, _, _ => .of_eq rfl
  | 40, _, _, _ => .of_eq rfl
  | 41, _, _, _ => .of_eq rfl
  | 42, _, _, _ => .of_eq rfl
  | 43, _, _, _ => .of_eq rfl
  | 44, _, _, _ => .of_eq rfl
  | 45, _, _, _ => .of_eq rfl
  | 46, _, _, _ => .of_eq rfl
  | 47, _, _, _ => .of_eq rfl
  | 48, _, _, _ => .of_eq rfl
  | 49, _, _, _ => .of_eq rfl
  | 50, _, _, _ => .of_eq rfl
  | 51, _, _, _ => .of_eq rfl
  | 52, _, _, _ => .of_eq rfl
  | 53, _, _, _ => .of_eq rfl
  | 54, _, _, _ => .of_eq rfl
  | 55, _, _, _ => .of_eq rfl
  | 56, _, _, _ => .of_eq rfl
  | 57, _, _, _ => .of_eq rfl
  | 58, _, _, _ => .of_eq rfl
  | 59, _, _, _ => .of_eq rfl
  | 60, _, _, _ => .of_eq rfl
  | 61, _, _, _ => .of_eq rfl
  | 62, _, _, _ => .of_eq rfl
  | 63, _, _, _ => .of_eq rfl
  | 64, _, _, _ => .of_eq rfl
  | 65, _, _, _ => .of_eq rfl
  | 66, _, _, _ => .of_eq rfl
  | 67, _, _, _ => .of_eq rfl
  | 68, _, _, _ => .of_eq rfl
  | 69, _, _, _ => .of_eq rfl
  | 70, _, _, _ => .of_eq rfl
  | 71, _, _, _ => .of_eq rfl
  | 72, _, _, _ => .of_eq rfl
  | 73, _, _, _ => .of_eq rfl
  | 74, _, _, _ => .of_eq rfl
  | 75, _, _, _ => .of_eq rfl
  | 76, _, _, _ => .of_eq rfl
  | 77, _, _, _ => .of_eq rfl
  | 78, _, _, _ => .of_eq rfl
  | 79, _, _, _ => .of_eq rfl
  | 80, _, _, _ => .of_eq rfl
  | 81, _, _, _ => .of_eq rfl
  | 82, _, _, _ => .of_eq rfl
  | 83, _, _, _ => .of_eq rfl
  | 84, _, _, _ => .of_eq rfl
  | 85, _, _, _ => .of_eq rfl
  | 86, _, _, _ => .of_eq rfl
  | 87, _, _, _ => .of_eq rfl
  | 88, _, _, _ => .of_eq rfl
  | 89, _, _, _ => .of_eq rfl
  | 90, _, _, _ => .of_eq rfl
  | 91, _, _, _ => .of_eq rfl
  | 92, _, _, _ => .of_eq rfl
  | 93, _, _, _ => .of_eq rfl
  | 94, _, _, _ => .of_eq rfl
  | 95, _, _, _ => .of_eq rfl
  | 96, _, _, _ => .of_eq rfl
  | 97, _, _, _ => .of_eq rfl
  | 98, _, _, _ => .of_eq rfl
  | 99, _, _, _ => .of_eq rfl
  | 100, _, _, _ => .of_eq rfl
  | n + 101, _, _, h => False.elim (Nat.not_lt_of_le (Nat.le_add_left 101 n) h)
end HopR

set_option Elab.async false
set_option linter.all false
set_option maxRecDepth 100000
namespace HopR
open PySem PySem.Spec PyProof.Rows L2
def tFmtB (te : TE) : TE := fun σ H Q => te σ H fun x H1 => ∃ n : Nat, x = .int (n : Int) ∧ n < 101 ∧ Q (.str (binText n)) H1
theorem bin_small : ∀ n < 101, (binText n).length ≤ sizeLine := by decide +kernel
theorem len_b : (("b" : Str).length == 0) = false := by decide +kernel
theorem fit_b : ("b" : Str).length ≤ sizeLine := by decide +kernel
theorem field_b {prog : Program} {w : World} {A : Around} {E : Value → Shared → Prop} {s : Shared} {n : Nat} {t : Tok} {Q : Value → Shared → Prop} (hn : n < 101) (h : Q (.str (binText n) (s.toks + 1)) { s with toks := s.toks + 1 + 1 }) : wpAny (model prog w) A (formatField (.int (n : Int) t) "b") Q E s :=
  wpAny_formatField_spec (T := "int") (idf := "int.__format__") (B := PySem.Builtin.«int.__format__») (v := .int (n : Int) t) (sp := "b") (x := binText n) len_b (fun s' => typeIs_int s' (n : Int) t) PySem.F.slot_int_format PySem.F.entry_int_format PySem.F.args_int_format_2 (fun u => @gives_b n t u hn) h fit_b (bin_small n hn)
theorem pe_fmtB {X : Cx} {e : Expr} {te : TE} {pos p1 p2 : Pos} {k : Nat} (he : PE X e te) : PE X (.FormattedValue e (-1) (some (.JoinedStr [.Constant (.str "b") k p1] p2)) pos) (tFmtB te) := by
  constructor
  intro pins s σ H Q I h
  refine wpAny_FormattedValue_spec (thn (he.run pins s σ H _ I h) ?_)
  rintro v s1 ⟨x, H1, I1, rx, n, rfl, hn, q⟩
  obtain ⟨t, rfl⟩ := rx
  have js : PE X (.JoinedStr [.Constant (.str "b") k p1] p2) (tC (.str "b")) := pe_joined1 pe_str
  refine thn (js.run pins s1 σ H1 (fun y H2 => y = .str "b" ∧ H2 = H1) I1 ⟨rfl, rfl⟩) ?_
  rintro r s2 ⟨y, H2, I2, ry, rfl, rfl⟩
  obtain ⟨t2, rfl⟩ := ry
  exact ⟨_, t2, rfl, field_b hn ⟨.str (binText n), H2, I2.tok _, ⟨_, rfl⟩, q⟩⟩
end HopR

set_option Elab.async false
set_option linter.all false
set_option maxRecDepth 100000
namespace HopR
open PySem PySem.Spec PyProof.Rows L2
section
variable {X : Cx}
/-! ### x *= y, wide -/
def ipMulW : TIp := fun x y H Q => ∃ i j, x = .int i ∧ y = .int j ∧ CMulW i j ∧ Q (.int (i * j)) H
theorem ip_mulW : PIp X .Mult ipMulW := by
  intro pins s σ H x y v u Q I r1 r2 h
  obtain ⟨i, j, e1, e2, c, q⟩ := h
  subst e1; subst e2
  obtain ⟨t, rfl⟩ := r1
  obtain ⟨t', rfl⟩ := r2
  exact imul_int ⟨.int _, H, I.tok _, ⟨_, rfl⟩, q⟩ c.ok
/-! ### a body in a try whose exceptions are wished for by their class and heap alone -/
def tSome (W : WX) (tb : XK → TS) : TS := fun D σ H => ∃ E1 : XK, (∀ cls d σ' H', E1 cls d H' → W cls d σ' H') ∧ tb E1 D σ H
theorem pss_some {W : WX} {body : List Stmt} {tb : XK → TS} (h : ∀ E1 : XK, (∀ cls d σ' H', E1 cls d H' → W cls d σ' H') → PSs X body (tb E1)) : PSs X body (tSome W tb) :=
  ⟨fun pins s σ H D I ⟨E1, hW, q⟩ => (h E1 hW).run pins s σ H D I q⟩
end
/-! ### the figures of n by twos, from the left -/
def step2 (m c : Nat) : Nat := 2 * m + (if c = 49 then 1 else 0)
theorem bin_fold : ∀ n < 101, (binText n).cps.toList.foldl step2 0 = n := by decide +kernel
theorem step2_le : ∀ (cs : List Nat) (m : Nat), m ≤ cs.foldl step2 m
  | [], m => Nat.le_refl m
  | c :: r, m => by
    rw [List.foldl_cons]
    refine Nat.le_trans ?_ (step2_le r _)
    unfold step2
    omega
theorem bin_le {n i c : Nat} (hn : n < 101) (h : (binText n).cps[i]? = some c) : step2 (((binText n).cps.toList.take i).foldl step2 0) c = ((binText n).cps.toList.take (i + 1)).foldl step2 0 ∧ step2 (((binText n).cps.toList.take i).foldl step2 0) c ≤ n := by
  have e : ((binText n).cps.toList.take (i + 1)).foldl step2 0 = step2 (((binText n).cps.toList.take i).foldl step2 0) c := by
    have h2 : (binText n).cps.toList[i]? = some c := by
      rw [Array.getElem?_toList]
      exact h
    rw [List.take_add_one, h2, List.foldl_append]
    rfl
  refine ⟨e.symm, ?_⟩
  rw [← e]
  have := step2_le ((binText n).cps.toList.drop (i + 1)) (((binText n).cps.toList.take (i + 1)).foldl step2 0)
  rw [← List.foldl_append, List.take_append_drop, bin_fold n hn] at this
  exact this
theorem pow_lt {x : Int} {e m n : Nat} (h : x.natAbs < 2 ^ e) (hm : m ≤ n) : (x ^ m).natAbs < 2 ^ (e * n + 1) := by
  rw [Int.natAbs_pow]
  have h1 : x.natAbs ^ m ≤ (2 ^ e) ^ m := Nat.pow_le_pow_left (Nat.le_of_lt h) m
  rw [← Nat.pow_mul] at h1
  have h2 : 2 ^ (e * m) ≤ 2 ^ (e * n) := Nat.pow_le_pow_right (by decide) (Nat.mul_le_mul_left e hm)
  have h3 : 2 ^ (e * n) < 2 ^ (e * n + 1) := Nat.pow_lt_pow_right (by decide) (by omega)
  omega
end HopR

set_option Elab.async false
set_option linter.all false
set_option maxRecDepth 100000
namespace HopR
open PySem PySem.Spec PyProof.Rows L2
/-! ### len, str and repr of objects of an own class; an attribute as a target -/
section
variable {X : Cx} {CX : CXT} {n : Nat} {C f : Addr} {fd : FuncData} {ps : List Str} {sp : Sp} {E : XK}
/-- a def called by a built-in that runs in the same frames -/
theorem call_at {A : Around} {pins : List (Addr × Obj)} {σ : L2.St} {H : Hp} {s : Shared} {Q : VK} {us : List Value} {vs : List V} (F : FnOk X.prog X.w X.K X.mg X.base CX n f fd ps sp) (room : Room n A) (frames : A.frames = X.A.frames) (bind : Binds X.K fd ps []) (lets : Passes CX X E)
    (I : Inv X pins σ H s) (vals : Vals vs us) (prom : sp vs H Q E) : wpAny (model X.prog X.w) A (call (.ref f) us) (EP X pins σ Q) X.xe s := by
  have I0 := I.env0
  have here : Env0 X.prog X.w X.K X.mg X.base A X.stack s H := { frames := frames.trans I0.frames, mod := I0.mod, bs := I0.bs, bsz := I0.bsz, funs := I0.funs, frf := I0.frf, hok := I0.hok, bare := I0.bare }
  have size := vals.length.symm.trans (F.len _ _ _ _ prom)
  have bound := bind s us I.kIn (by rw [List.append_nil]; exact size)
  rw [List.append_nil] at bound
  refine wpAny_call (codeAny_mono (F.run A X.stack s H ⟨us, []⟩ us vs Q E room here bound vals prom) fun r s' h => ?_)
  have said := after_call lets I h
  cases r with
  | error e => exact said
  | ok fl => cases fl <;> exact said
/-- one object of the class, and what its method promises of it -/
def rOwn1 (C : Addr) (sp : Sp) (E : XK) (R : V → Hp → VK → Prop) : List V → Hp → VK → Prop := fun xs H Q => ∃ a dx fs, xs = [.ref a] ∧ H a = some (.ins C dx fs) ∧ sp [.ref a] H (fun v H' => R v H' Q) E
def isLen : V → Hp → VK → Prop := fun v H Q => ∃ i : Int, v = .int i ∧ (0 ≤ i ∧ i < 2 ^ 63) ∧ Q (.int i) H
def isTxt : V → Hp → VK → Prop := fun v H Q => ∃ z : Str, v = .str z ∧ Q (.str z) H
/-- len(o) -/
theorem cr_lenOwn (len : PySem.W.findIn X.K (.ref C) "__len__" = some (some (.ref f))) (fn : PySem.W.isFn X.K (.ref f) = true) (F : FnOk X.prog X.w X.K X.mg X.base CX n f fd ps sp) (room : Room (n + 1) X.A) (bind : Binds X.K fd ps []) (lets : Passes CX X E) :
    CallR X (.builtin "len") (rOwn1 C sp E isLen) := by
  rintro pins s σ H _ us Q I r ⟨a, dx, fs, rfl, ha, prom⟩
  obtain ⟨u, rfl, rv⟩ := vals1 r
  cases rv
  obtain ⟨_, J, _⟩ := ins_get I.hok ha
  obtain ⟨od, J, _⟩ := J.look
  obtain ⟨m, F0⟩ := I.fr
  refine PySem.W.len_K F0 I.ok.mod.kin J len fn (thn (call_at F room.in1 rfl bind lets I (us := [.ref a]) (vs := [.ref a]) (.cons rfl .nil) prom) ?_)
  rintro w s' ⟨z, H', I', rz, i, rfl, hi, q⟩
  obtain ⟨t, rfl⟩ := rz
  exact ⟨hi, .int i, H', I'.tok _, ⟨_, rfl⟩, q⟩
/-- str(o) -/
theorem cr_strOwn (str : PySem.W.findIn X.K (.ref C) "__str__" = some (some (.ref f))) (fn : PySem.W.isFn X.K (.ref f) = true) (F : FnOk X.prog X.w X.K X.mg X.base CX n f fd ps sp) (room : Room (n + 2) X.A) (bind : Binds X.K fd ps []) (lets : Passes CX X E) :
    CallR X (.type "str") (rOwn1 C sp E isTxt) := by
  rintro pins s σ H _ us Q I r ⟨a, dx, fs, rfl, ha, prom⟩
  obtain ⟨u, rfl, rv⟩ := vals1 r
  cases rv
  obtain ⟨_, J, _⟩ := ins_get I.hok ha
  obtain ⟨od, J, _⟩ := J.look
  have un := room.un
  refine PySem.W.kso_call (by show X.A.units + 1 + 1 < cLine; omega) I.kIn J str fn (thn (call_at F room.in1.in1 rfl bind lets I (us := [.ref a]) (vs := [.ref a]) (.cons rfl .nil) prom) ?_)
  rintro w s' ⟨z, H', I', rz, y, rfl, q⟩
  obtain ⟨t, rfl⟩ := rz
  exact ⟨.str y, H', I', ⟨_, rfl⟩, q⟩
/-- repr(o) -/
theorem cr_reprOwn (rep : PySem.W.findIn X.K (.ref C) "__repr__" = some (some (.ref f))) (fn : PySem.W.isFn X.K (.ref f) = true) (F : FnOk X.prog X.w X.K X.mg X.base CX n f fd ps sp) (room : Room (n + 1) X.A) (bind : Binds X.K fd ps []) (lets : Passes CX X E) :
    CallR X (.builtin "repr") (rOwn1 C sp E isTxt) := by
  rintro pins s σ H _ us Q I r ⟨a, dx, fs, rfl, ha, prom⟩
  obtain ⟨u, rfl, rv⟩ := vals1 r
  cases rv
  obtain ⟨_, J, _⟩ := ins_get I.hok ha
  obtain ⟨od, J, _⟩ := J.look
  obtain ⟨m, F0⟩ := I.fr
  have un := room.un
  refine PySem.W.repr_K (by show X.A.units + 1 < cLine; omega) F0 I.ok.mod.kin J rep fn (thn (call_at F room.in1 rfl bind lets I (us := [.ref a]) (vs := [.ref a]) (.cons rfl .nil) prom) ?_)
  rintro w s' ⟨z, H', I', rz, y, rfl, q⟩
  obtain ⟨t, rfl⟩ := rz
  exact ⟨.str y, H', I', ⟨_, rfl⟩, q⟩
end
section
variable {X : Cx}
/-- o.f as a target: the field is put -/
def gFld (K : PySem.W.Frag) (to : TE) (f : Str) : TG := fun v σ H Q => to σ H fun o H1 => ∃ a C dx fs, o = .ref a ∧ H1 a = some (.ins C dx fs) ∧ Cls K C ∧ NoAttr K C f ∧ fs.length < 1000 ∧ Q σ (upd H1 a (.ins C dx (putF f v fs)))
theorem pg_fld {o : Expr} {to : TE} {f : Str} {pos : Pos} (ho : PE X o to) : PG X (.Attribute o f pos) (gFld X.K to f) := by
  constructor
  intro pins s σ H v u Q I r h
  rw [assign_Attribute]
  refine wpAny_bind (wpAny_holding (thn (ho.run pins s σ H _ I h) ?_))
  rintro ov s1 ⟨x, H1, I1, rx, a, C, dx, fs, rfl, ea, c, na, few, q⟩
  cases rx
  refine wpAny_bind (wpAny_standAt (wpAny_bind (wpAny_holding (setattr_ok I1 ea c na few r fun s2 I2 => ?_))))
  exact wpAny_release ⟨σ, _, I2, q⟩
end
end HopR

set_option Elab.async false
set_option linter.all false
set_option maxRecDepth 100000
namespace HopR
open PySem PySem.Spec PyProof.Rows L2
/-! ### repr of a list that holds own objects beside data -/
section
variable {X : Cx}
/-- what repr tells of an item of the list at L, n defs deep, now and later -/
def Itm (X : Cx) (n : Nat) (L : Addr) (H : Hp) (x : V) (t : Str) : Prop :=
  ∀ (pins : List (Addr × Obj)) (σ : L2.St) (H1 : Hp) (s : Shared) (u : Value) (base : Nat) (A : Around) (g : List Code) (Q : Str → Shared → Prop), Same H H1 → Inv X pins σ H1 s → RelV x u → base + t.length ≤ sizeLine →
    Room n A → A.frames = X.A.frames → A.guards = some g → (∀ b, b ≠ L → Clear g b) → (∀ s' H2, Inv X pins σ H2 s' → Same H1 H2 → Q t s') → wpAny (model X.prog X.w) A (pyReprUnder base u) Q X.xe s
theorem vals_has {p : Addr} : ∀ {xs : List V} {us : List Value}, Vals xs us → V.ref p ∈ xs → Value.ref p ∈ us
  | _, _, .cons (a := x) (b := y) r t, h => by
    rcases List.mem_cons.mp h with e | h
    · rw [← e] at r
      cases (show y = Value.ref p from r)
      exact List.mem_cons_self ..
    · exact List.mem_cons_of_mem _ (vals_has t h)
theorem all_read {h : Heap} {v : Value} : ∀ {us : List Value} {ds : List PyData} {as : List Addr}, ReadsAll h us ds as → v ∈ us → ∃ d as', Reads h v d as'
  | _, _, _, .cons r t, hm => by
    rcases List.mem_cons.mp hm with e | hm
    · rw [e]
      exact ⟨_, _, r⟩
    · exact all_read t hm
/-- an own object is no datum -/
theorem no_datum {pins : List (Addr × Obj)} {σ : L2.St} {H : Hp} {s : Shared} {p C dx : Addr} {fs : List (Str × V)} (I : Inv X pins σ H s) (hp : H p = some (.ins C dx fs)) {d : PyData} {as : List Addr} : ¬ Reads s.heap (.ref p) d as := by
  obtain ⟨_, J, _⟩ := ins_get I.hok hp
  obtain ⟨od, J, _⟩ := J.look
  have h1 := J.at_
  have h2 := J.cls
  intro r
  cases r with
  | list a b _ _ =>
    rw [h1] at a
    cases a
    rw [h2] at b
    cases b
  | tuple a b _ _ =>
    rw [h1] at a
    cases a
    rw [h2] at b
    cases b
  | dict a b _ _ _ =>
    rw [h1] at a
    cases a
    rw [h2] at b
    cases b
/-- nor is a list that holds one -/
theorem no_datumL {pins : List (Addr × Obj)} {σ : L2.St} {H : Hp} {s : Shared} {L p C dx : Addr} {xs : List V} {fs : List (Str × V)} (I : Inv X pins σ H s) (hL : H L = some (.lst xs)) (hm : V.ref p ∈ xs) (hp : H p = some (.ins C dx fs)) {d : PyData} {as : List Addr} : ¬ Reads s.heap (.ref L) d as := by
  obtain ⟨its, rv, ⟨o, k, ho, hc, hs, hd⟩, _⟩ := I.list (SqL.of hL)
  have hi := vals_has rv hm
  intro r
  cases r with
  | list a _ c e =>
    rw [ho] at a
    cases a
    rw [hd] at c
    cases c
    obtain ⟨d', as', r'⟩ := all_read e (by simpa using hi)
    exact no_datum I hp r'
  | tuple a b _ _ =>
    rw [ho] at a
    cases a
    rw [hc] at b
    exact absurd (Value.type.inj b) (by decide)
  | dict a b _ _ _ =>
    rw [ho] at a
    cases a
    rw [hc] at b
    exact absurd (Value.type.inj b) (by decide)
theorem itm_data {n : Nat} {L : Addr} {H : Hp} {x : V} {d : PyData} (hd : ∀ H1, Same H H1 → Dp X.K H1 x d) (hs : d.showable = true) (hn : d.hasDict = false) (hdep : d.depth ≤ 64) (hz : d.shown.length ≤ sizeLine)
    (hL : ∀ pins σ H1 s, Same H H1 → Inv X pins σ H1 s → ∀ e as, ¬ Reads s.heap (.ref L) e as) : Itm X n L H x d.shown := by
  intro pins σ H1 s u base A g Q sm I ru hb room fr hg hcl hQ
  obtain ⟨as, rd⟩ := Dp.reads I d x u (hd H1 sm) ru
  obtain ⟨bs, few, tells⟩ := ReprK.of_reads (prog := X.prog) (w := X.w) rd hs (fun e => absurd (hn.symm.trans e) (by decide)) hz
  refine tells base hb A g X.xe s Q hg (fun b hb' => hcl b fun e => ?_) (by have := room.un; omega) (fun _ _ e => e) (fun h' tk hk => hQ _ H1 (I.kept hk) (Same.refl _))
  obtain ⟨d', as', r', _⟩ := few b hb'
  rw [e] at r'
  exact hL _ _ _ _ sm I _ _ r'
/-- a special method found in an own class, called by `last` -/
theorem special_own {M : Model} {A : Around} {E : Value → Shared → Prop} {s : Shared} {K : PySem.W.Frag} {x C f : Addr} {ox : Obj} {od : Option Obj} {name : Str} {last : Value → List Value → Sem Value} {Q : Option Value → Shared → Prop} (kin : K.In s.heap) (J : PySem.W.InstAt s.heap x ox C od)
    (has : PySem.W.findIn K (.ref C) name = some (some (.ref f))) (fn : PySem.W.isFn K (.ref f) = true) (run : wpAny M A (last (.ref f) [.ref x]) (fun v => Q (some v)) E s) : wpAny M A (callSpecialIfBoundBy? last (.ref x) name) Q E s := by
  have tell : wpAny M A (do let v ← last (.ref f) [.ref x]; pure (some v)) Q E s := wpAny_bind (wpAny_mono run (fun _ _ h => wpAny_pure h) fun _ _ h => h)
  have bound := PySem.W.bind_fn (M := M) kin (.ref x) (beq_iff_eq.mp fn)
  unfold callSpecialIfBoundBy? bindSpecialIfBound?
  refine wpAny_holding (wpAny_bind (wpAny_bind (wpAny_bind (J.type.here ((PySem.W.looks_findIn kin has).here (wpAny_bind (wpAny_askSetting (wpAny_ite ?_))))))))
  split
  · exact wpAny_bind (bound.here (wpAny_pure tell))
  · exact wpAny_tryCatch (wpAny_bind (bound.here (wpAny_pure tell)))
theorem itm_own {CX : CXT} {k n : Nat} {L a C dx f : Addr} {H : Hp} {fs : List (Str × V)} {fd : FuncData} {ps : List Str} {sp : Sp} {E : XK} {t : Str} (ha : H a = some (.ins C dx fs)) (rep : PySem.W.findIn X.K (.ref C) "__repr__" = some (some (.ref f))) (fn : PySem.W.isFn X.K (.ref f) = true)
    (F : FnOk X.prog X.w X.K X.mg X.base CX k f fd ps sp) (kn : k ≤ n) (bind : Binds X.K fd ps []) (lets : Passes CX X E) (prom : ∀ H1, Same H H1 → sp [.ref a] H1 (fun v H2 => v = .str t ∧ Same H1 H2) E) : Itm X n L H (.ref a) t := by
  intro pins σ H1 s u base A g Q sm I ru hb room fr hg hcl hQ
  cases (show u = Value.ref a from ru)
  obtain ⟨_, J, _⟩ := ins_get I.hok (sm _ _ ha)
  obtain ⟨od, J, _⟩ := J.look
  have un := room.un
  refine wpAny_pyReprUnder_ref (by omega) ?_
  unfold pyReprObjUnder pyReprObjBy
  refine wpAny_bind (wpAny_cRoomFor (by omega) (wpAny_bind (wpAny_bind (J.type.here ((PySem.W.looks_findIn I.kIn rep).here ?_)))))
  show wpAny _ _ (if (some (Value.ref f)).isNone = true then _ else _) _ _ _
  rw [if_neg (by simp)]
  refine wpAny_bind (special_own I.kIn J rep fn (thn (call_at F (room.mono kn) fr bind lets I (us := [.ref a]) (vs := [.ref a]) (.cons rfl .nil) (prom H1 sm)) ?_))
  rintro v s' ⟨z, H', I', rz, rfl, sm'⟩
  obtain ⟨tk, rfl⟩ := rz
  exact wpAny_bind (wpAny_isInstance (T := "str") (b := true) rfl isSubtype_str_str (wpAny_pure ⟨_, _, rfl, hQ s' H' I' sm'⟩))
theorem vals_at : ∀ {xs : List V} {us : List Value}, Vals xs us → ∀ (i : Nat) x u, xs[i]? = some x → us[i]? = some u → RelV x u
  | _, _, .cons r t, 0, x, u, h1, h2 => by
    cases h1
    cases h2
    exact r
  | _, _, .cons r t, i + 1, x, u, h1, h2 => vals_at t i x u h1 h2
theorem texts_of : ∀ {ts : List Str} {us : List Value}, Vals (ts.map V.str) us → ∃ l : List (Str × Tok), us = strValues l ∧ l.map (·.1) = ts
  | [], _, h => by
    cases h
    exact ⟨[], rfl, rfl⟩
  | t :: ts, _, h => by
    cases h with
    | cons r h =>
      obtain ⟨k, rfl⟩ := r
      obtain ⟨l, rfl, e⟩ := texts_of h
      exact ⟨(t, k) :: l, rfl, by rw [List.map_cons, e]⟩
theorem room_loop {k : Nat} {A : Around} (r : Room (k + 1) A) (args : Args) : Room k (A.under (.builtin "list.__repr__.loop" args)) :=
  ⟨r.hd, by
    have := r.dp
    have e : (A.under (.builtin "list.__repr__.loop" args)).depth ≤ A.depth + 1 := by
      first | exact Nat.le_refl _ | (simp [Around.under, Code.weight, Code.isCreation, Code.isGuard, Code.isCaller, Code.frames, Code.isFrame, guardIds])
    omega, by
    have := r.un
    rw [units_under_list_loop]
    omega⟩
theorem frames_loop {A : Around} (args : Args) : (A.under (.builtin "list.__repr__.loop" args)).frames = A.frames := by
  first | rfl | simp [Around.under, Code.envs, Code.isFrame, pushEnvs]
/-- all turns of the list's repr, the texts so far at P -/
theorem turns {A : Around} {n : Nat} {L P : Addr} {H : Hp} {xs : List V} {ts : List Str} {R : Result → Shared → Prop} (hg : A.guards = some []) (room : Room (n + 1) A) (fr : A.frames = X.A.frames) (hP : H P = none) (hL : H L = some (.lst xs)) (len : ts.length = xs.length)
    (tell : ∀ (i : Nat) x t, xs[i]? = some x → ts[i]? = some t → Itm X n L H x t) (fits : (listText ts).length ≤ sizeLine) (bad : ∀ e s', X.xe e s' → R (.error e) s') {pins : List (Addr × Obj)} {σ : L2.St}
    (good : ∀ s' H2 u, Inv X pins σ H2 s' → Same H H2 → R (.ok (.ret (.str (listText ts) u))) s') :
    ∀ (k i : Nat) (H1 : Hp) (s : Shared), xs.length - i = k → i ≤ xs.length → Inv X pins σ H1 s → Same H H1 → H1 P = some (.lst ((ts.take i).map V.str)) →
      codeAny (model X.prog X.w) A (.builtin "list.__repr__.loop" ⟨[.ref L, rawInt i, .ref P, rawInt ((piled (ts.take i) : Nat) : Int)], []⟩) R s := by
  have few := textFrom_len ts 0 "["
  have whole : (listText ts).length = (textFrom 0 "[" ts).length + 1 := by
    show (textFrom 0 "[" ts ++ "]").length = _
    rw [strLen_append]
    rfl
  intro k
  induction k with
  | zero =>
    intro i H1 s hk hi I sm eP
    obtain ⟨its, rv, ⟨o, m, ho, _, _, hd⟩, _⟩ := I.list (SqL.of (sm _ _ hL))
    obtain ⟨its2, rv2, ⟨o2, m2, ho2, _, _, hd2⟩, _⟩ := I.list (SqL.of eP)
    obtain ⟨l, el, e1⟩ := texts_of rv2
    have none_ : its.toArray[i]? = none := by
      have := rv.length
      simp
      omega
    rw [List.take_of_length_le (by omega)] at e1
    refine codeAny_builtin F.entry_list_repr_loop ?_
    show wpAny _ _ (Builtin.«list.__repr__.loop» ⟨[.ref L, .int i 0, .ref P, .int ((piled (ts.take i) : Nat) : Int) 0], []⟩) _ _ s
    rw [repr_loop_tree]
    refine wpAny_bind (wpAny_listItems ho hd ?_)
    rw [Int.toNat_natCast]
    simp only [none_]
    unfold reprEnd
    refine wpAny_bind (wpAny_listItems ho2 hd2 ?_)
    rw [show its2.toArray.toList = strValues l from el, repr_fold, e1]
    exact wpAny_bind (wpAny_pure (wpAny_bind (wpAny_mkStr (wpAny_pure (good _ H1 _ (I.tok _) sm)) fits)))
  | succ k ih =>
    intro i H1 s hk hi I sm eP
    have hlt : i < xs.length := by omega
    obtain ⟨its, rv, ⟨o, m, ho, _, _, hd⟩, _⟩ := I.list (SqL.of (sm _ _ hL))
    have hli := rv.length
    obtain ⟨t, ht⟩ : ∃ t, ts[i]? = some t := ⟨ts[i]'(by omega), List.getElem?_eq_getElem _⟩
    obtain ⟨x, hx⟩ : ∃ x, xs[i]? = some x := ⟨xs[i], List.getElem?_eq_getElem hlt⟩
    have here : its.toArray[i]? = some (its[i]'(by omega)) := by simp
    have rel : RelV x (its[i]'(by omega)) := vals_at rv i _ _ hx (List.getElem?_eq_getElem _)
    have p1 := piled_take_succ ht
    have p2 := piled_take_le ts (i + 1)
    have p3 := piled_le_listText ts
    refine codeAny_builtin F.entry_list_repr_loop ?_
    show wpAny _ _ (Builtin.«list.__repr__.loop» ⟨[.ref L, .int i 0, .ref P, .int ((piled (ts.take i) : Nat) : Int) 0], []⟩) _ _ s
    rw [repr_loop_tree]
    refine wpAny_bind (wpAny_listItems ho hd ?_)
    rw [Int.toNat_natCast]
    simp only [here]
    rw [Int.toNat_natCast]
    refine wpAny_bind (wpAny_holding (wpAny_mono (tell i x t hx ht pins σ H1 s _ (piled (ts.take i) + 1) _ _ _ sm I rel (by omega) (room_loop room _) ((frames_loop _).trans fr) (guards_under_guard (isGuard_list_loop _) hg) (fun b hb => (Clear.nil b).cons (a := L) fun e => hb e.symm) ?_) (fun _ _ h => h) bad))
    intro s' H2 I2 sm2
    refine wpAny_bind (wpAny_mkStr ?_ (Nat.le_trans (few.2.1 t (List.mem_of_getElem? ht)) (by omega)))
    refine wpAny_bind ?_
    show wpAny _ _ (updateSeq P _) _ _ _
    have eP2 := sm2 _ _ eP
    obtain ⟨hz2, its2, n2, rv2, e2⟩ := (show ObjOk X.prog X.w H2 s'.heap P (.lst ((ts.take i).map V.str)) from I2.hok P _ eP2)
    have hl2 := rv2.length
    have hl3 : ((ts.take i).map V.str).length = i := by
      rw [List.length_map, List.length_take]
      omega
    have few1 := few.1
    rw [if_neg (Nat.lt_irrefl 0)] at few1
    refine wpAny_updateSeq e2 rfl (wpAny_pure ⟨F.quiet_list_repr_loop _, ?_⟩) (by rw [List.size_toArray]; omega) (by rw [Array.size_push, List.size_toArray]; omega)
    have i1 : ((i : Int) + 1) = ((i + 1 : Nat) : Int) := by omega
    have i2 : piled (ts.take i) + (t.length + 2) = piled (ts.take (i + 1)) := by omega
    rw [i1, i2]
    have et : (ts.take (i + 1)).map V.str = (ts.take i).map V.str ++ [V.str t] := by
      rw [List.take_add_one, ht, List.map_append]
      rfl
    refine ih (i + 1) (upd H2 P (.lst ((ts.take (i + 1)).map V.str))) _ (by omega) hlt (I2.write (e := P) (by rw [eP2]; trivial) (.inl rfl) (fun b u hb q => (Heap.get?_update_other _ _ (Ne.symm hb)).trans q) ⟨_, Heap.get?_update_self _ e2 rfl⟩ ⟨?_, its2 ++ [.str t s'.toks], n2 + 1, ?_, ?_⟩) (same_new hP (sm.trans sm2)) upd_same
    · rw [et, List.length_append, hl3]
      show i + 1 ≤ sizeLine
      omega
    · rw [et]
      exact rv2.append (.cons ⟨_, rfl⟩ .nil)
    · refine (Heap.get?_update_self _ e2 rfl).trans ?_
      simp [Obj.mapSeq]
/-- repr(xs), xs no empty list, of data and of own objects -/
def rReprL (X : Cx) (n : Nat) : List V → Hp → VK → Prop := fun vs H Q => ∃ (L : Addr) (x : V) (xs : List V) (ts : List Str), vs = [.ref L] ∧ H L = some (.lst (x :: xs)) ∧ ts.length = (x :: xs).length ∧ (∀ (i : Nat) y t, (x :: xs)[i]? = some y → ts[i]? = some t → Itm X n L H y t) ∧
  (listText ts).length ≤ sizeLine ∧ ∀ H', Same H H' → Q (.str (listText ts)) H'
theorem cr_reprL {n : Nat} (hG : X.A.guards = some []) (room : Room (n + 3) X.A) : CallR X (.builtin "repr") (rReprL X n) := by
  rintro pins s σ H _ us Q I r ⟨L, x, xs, ts, rfl, hL, len, tell, fits, q⟩
  obtain ⟨u, rfl, rv⟩ := vals1 r
  cases (show u = Value.ref L from rv)
  obtain ⟨its, rv2, ⟨o, m, ho, hc, _, hd⟩, _⟩ := I.list (SqL.of hL)
  have un := room.un
  have type : s.TypeIs (.ref L) "list" := ⟨o, ho, hc⟩
  have nP : H s.heap.objs.size = none := I.hok.fresh (Nat.le_refl _)
  cases rv2 with
  | cons r1 r2 =>
    refine call_repr_slot (by omega) type F.slot_list_repr.toG ?_
    refine wpAny_call (codeAny_call_builtin F.slot_list_repr.plain F.entry_list_repr (F.slot_list_repr.check _ _ _ _ _ _ _ _ type (F.args_list_repr_1 _) ?_))
    refine wpAny_list_repr_head (A := X.A.in1.in1) hG (fun _ _ _ h => nomatch h) ho hd ?_
    refine wpAny_bind (m := newList []) (wpAny_newObj_type (wpAny_pure ⟨F.quiet_list_repr_loop _, ?_⟩))
    refine turns (A := X.A.in1) (n := n) hG (Room.mono (k := n + 2) (j := n + 1) room.in1 (Nat.le_succ _)) rfl nP hL len tell fits ?bad (pins := pins) (σ := σ) ?good _ 0 (upd H s.heap.objs.size (.lst [])) _ rfl (Nat.zero_le _) (I.laid (t' := s.toks) (fun b o e => Heap.get?_push_of_some _ e) (Nat.le_refl _) ⟨Nat.zero_le _, [], 0, .nil, Heap.get?_push_size _ rfl⟩) (same_upd nP) upd_same
    case bad => exact fun e s' h => h
    case good => exact fun s' H2 u I2 sm => ⟨_, _, rfl, .str _, H2, I2, ⟨_, rfl⟩, q H2 sm⟩
end
end HopR

set_option Elab.async false
set_option linter.all false
set_option maxRecDepth 100000
namespace HopR
open PySem PySem.Spec PyProof.Rows L2
/-! ### sep.join(reversed(xs)), xs a list of texts -/
theorem gives_join (a : Str) : ∀ (l : List (Str × Tok)), Builtin.Str.tooLong ((l.map (·.1)).toArray.foldl (· + ·.length + a.length) 0) = false → Gives (joinTail a (strValues l)) (joinMade a l)
  | [], ok => gives_joinTail a [] ok
  | [p], ok => gives_joinTail a [p] ok
  | p :: q :: r, ok => gives_joinTail a (p :: q :: r) ok
section
variable {X : Cx}
def tJoinRev (K : PySem.W.Frag) (to te : TE) : TE := fun σ H Q => to σ H fun x H1 => (∃ a, x = .str a) ∧ te σ H1 fun v H2 => ∃ (a : Str) (q : Addr) (ts : List Str), x = .str a ∧ v = .ref q ∧ SqL K H2 q (ts.map V.str) ∧ (ts.map (·.length)).sum + ts.length * a.length ≤ 16777216 ∧ Q (.str (Txt.join a ts.reverse)) H2
theorem join_back {A : Around} {E : Value → Shared → Prop} {pins : List (Addr × Obj)} {σ : L2.St} {H : Hp} {s : Shared} {Q : Value → Shared → Prop} {q : Addr} {a : Str} {t : Tok} {ts : List Str} (I : Inv X pins σ H s) (handled : A.handled = none) (hq : SqL X.K H q (ts.map V.str)) (fits : (ts.map (·.length)).sum + ts.length * a.length ≤ 16777216)
    (good : ∀ s' u, Inv X pins σ H s' → Q (.str (Txt.join a ts.reverse) u) s') :
    wpAny (model X.prog X.w) A (call (.type "reversed") [.ref q]) (fun v s1 => wpAny (model X.prog X.w) A (call (.builtin "str.join") [.str a t, v]) Q E s1) E s := by
  obtain ⟨its, rv, plain, few⟩ := I.list hq
  have at_ := plain.isList
  obtain ⟨o, ho, _⟩ := id at_
  have ne : q ≠ s.heap.objs.size := Nat.ne_of_lt (Heap.lt_size ho)
  have size : its.toArray.size ≤ sizeLine := by
    rw [List.size_toArray, ← rv.length]
    exact few
  obtain ⟨f0, f1, f2, f3, f4, f5⟩ := I.fpOk (H' := H) (b := s.heap.objs.size) (Nat.le_refl _) (I.hok.fresh (Nat.le_refl _))
  refine call_reversed_list at_ ?_
  have I2 : Inv X pins σ H { s with heap := s.heap.push (revObj q ((its.toArray.size : Int) - 1)) } := I.kept (t' := s.toks) fun b o e => Heap.get?_push_of_some _ e
  have it : (s.heap.push (revObj q ((its.toArray.size : Int) - 1))).IsRevIter s.heap.objs.size q ((its.toArray.size : Int) - 1) := ⟨_, Heap.get?_push_size _ rfl, rfl, rfl⟩
  have lst := at_.push (revObj q ((its.toArray.size : Int) - 1))
  generalize s.heap.push (revObj q ((its.toArray.size : Int) - 1)) = h1 at I2 it lst
  have walk := Walks.listRev (prog := X.prog) (w := X.w) (A := A.in1) handled s.heap.objs.size q ne its.toArray
  refine wpAny_call (codeAny_call_builtin F.slot_str_join.plain F.entry_str_join (F.slot_str_join.check _ _ _ _ _ _ _ _ (typeIs_str _ _ _) (F.args_str_join_2 _ _) ?_))
  rw [join_tree_other]
  refine wpAny_bind (wpAny_typeOf (it.typeIs (s := { s with heap := h1 })) ?_)
  show wpAny _ A.in1 ((pyIter (.ref s.heap.objs.size)).tryCatch _ >>= fun i => collect i >>= fun items => joinTail a items) _ _ _
  refine wpAny_bind (wpAny_tryCatch (walk.self 0 { s with heap := h1 } _ _ ⟨Nat.zero_le _, by simpa using it, lst⟩ (wpAny_bind ?_)))
  refine RT.collect_rev (s := { s with heap := h1 }) (A := A.in1) handled it lst ne size fun h' tk acc keep are => ?_
  have I3 : Inv X pins σ H { s with heap := h', toks := tk } := I2.turned (t' := tk) (fun b o hb e => keep b o hb e) f0 f1 f3 f4 f5
  have back := RT.vals_rev rv are
  rw [← List.map_reverse] at back
  obtain ⟨l, el, e1⟩ := texts_of back
  rw [el]
  have fits2 : (ts.reverse.map (·.length)).sum + ts.reverse.length * a.length ≤ 16777216 := by
    rw [List.map_reverse, List.sum_reverse, List.length_reverse]
    exact fits
  have ok := joinOk_of fits2
  rw [← e1] at ok
  unfold JoinOk at ok
  rw [Bool.not_eq_true'] at ok
  have gives := gives_join a l ok
  have told : ∀ u k, Q (.str (Txt.join a (l.map (·.1))) u) { s with heap := h', toks := k } := fun u k => by
    rw [e1]
    exact good _ u (I3.tok k)
  exact gives X.prog X.w A (wants Q E) _ (post_join l ⟨joinFit_length ok, told⟩)
theorem pe_joinRev {o e : Expr} {to te : TE} {apos pos p pos2 : Pos} (hc : X.calm = true) (ho : PE X o to) (hg : Gl X "reversed") (hm : X.mg "reversed" = none) (he : PE X e te)
    (hs1 : starEach [.Call (.Name "reversed" p) [e] [] pos2] X.env = [(false, eval (.Call (.Name "reversed" p) [e] [] pos2) X.env)] := by rfl) (hs : starEach [e] X.env = (false, eval e X.env) :: starEach [] X.env := by rfl)
    (hbase : attributeBase o "join" X.env (eval o X.env) = eval o X.env := by rfl) (hline : (apos.endLine == pos.line) = true := by rfl) :
    PE X (.Call (.Attribute o "join" apos) [.Call (.Name "reversed" p) [e] [] pos2] [] pos) (tJoinRev X.K to te) := by
  constructor
  intro pins s σ H Q I h
  refine PySem.Call_method1 hbase hs1 hline (thn (ho.run pins s σ H _ I h) ?_)
  rintro v s1 ⟨x, H1, I1, r1, ⟨a, rfl⟩, q1⟩
  obtain ⟨t, rfl⟩ := r1
  refine ⟨"str", _, F.plainAttrs_str, F.slot_str_join, F.type_str_join, typeIs_str _ _ _, (fun _ e => nomatch e), Calls.callWith_builtin rfl (Calls.evalArgs_plain (Calls.spliced_cons ?_))⟩
  refine wpAny_Call_Name_kw (ld_blt I1 hg hm PyProof.Rows.boot_reversed (PyProof.Rows.callWith_type1 (args_cons (thn (he.run pins s1 σ H1 _ I1 q1) ?_) hs) hs rfl))
  rintro u s2 ⟨y, H2, I2, r2, a', q, ts, ea, rfl, hq, fits, good⟩
  cases ea
  cases (show u = Value.ref q from r2)
  refine args_nil ?_
  refine wpAny_mono (join_back (X := X) (E := X.xe) (Q := EP X pins σ Q) I2 (I2.ok.hd hc) hq fits fun s' u I' => ⟨.str _, H2, I', ⟨u, rfl⟩, good⟩) (fun v s4 h4 => Calls.spliced_nil h4) fun _ _ z => z
end
end HopR

set_option Elab.async false
set_option linter.all false
set_option maxRecDepth 100000
set_option exponentiation.threshold 200000
namespace HopR
open PySem PySem.Spec PyProof.Rows L2
/-! ### a whole number written piece by piece -/
def pcs (r : Nat) : List Str := if h : 10 ^ 64 ≤ r then Txt.zfill (Str.ofString (toString (((r % 10 ^ 64 : Nat) : Int)))) 64 :: pcs (r / 10 ^ 64) else [Str.ofString (toString ((r : Nat) : Int))]
termination_by r
decreasing_by exact Nat.div_lt_self (Nat.lt_of_lt_of_le (by decide) h) (by decide)
theorem pcs_big {r : Nat} (h : 10 ^ 64 ≤ r) : pcs r = Txt.zfill (Str.ofString (toString (((r % 10 ^ 64 : Nat) : Int)))) 64 :: pcs (r / 10 ^ 64) := by
  rw [pcs, dif_pos h]
theorem pcs_small {r : Nat} (h : r < 10 ^ 64) : pcs r = [Str.ofString (toString ((r : Nat) : Int))] := by
  rw [pcs, dif_neg (Nat.not_le.mpr h)]
theorem pcs_len : ∀ (k r : Nat), r < 10 ^ (64 * (k + 1)) → (pcs r).length ≤ k + 1
  | 0, r, h => by
    rw [pcs_small h]
    exact Nat.le_refl _
  | k + 1, r, h => by
    by_cases hb : 10 ^ 64 ≤ r
    · rw [pcs_big hb, List.length_cons]
      refine Nat.succ_le_succ (pcs_len k _ ?_)
      refine Nat.div_lt_of_lt_mul ?_
      rw [← Nat.pow_add]
      exact Nat.lt_of_lt_of_le h (Nat.pow_le_pow_right (by decide) (by omega))
    · rw [pcs_small (Nat.not_le.mp hb)]
      exact Nat.succ_le_succ (Nat.zero_le _)
theorem zfill_len (x : Str) (n : Nat) : (Txt.zfill x (n : Int)).length ≤ x.length + n + 1 := by
  unfold Txt.zfill
  split
  · omega
  · unfold zfilled
    have key : ∀ c, x.cps[0]? = some c → 1 ≤ x.length := fun c hc => (Array.getElem?_eq_some_iff.mp hc).1
    split
    · rename_i hc
      rw [size_cat, size_padded, size_strSub x 0 1 (key _ hc), size_strSub x 1 x.length (Nat.le_refl _)]
      omega
    · rename_i hc
      rw [size_cat, size_padded, size_strSub x 0 1 (key _ hc), size_strSub x 1 x.length (Nat.le_refl _)]
      omega
    · rw [size_padded]
      omega
theorem pcs_fit : ∀ (k r : Nat), r < 10 ^ (64 * (k + 1)) → ∀ z ∈ pcs r, z.length ≤ 129
  | 0, r, h, z, hz => by
    rw [pcs_small h] at hz
    rw [List.mem_singleton.mp hz]
    exact Nat.le_trans (toString_length_le (k := 64) (Int.natCast_nonneg _) (by decide) (by exact_mod_cast h)) (by decide)
  | k + 1, r, h, z, hz => by
    by_cases hb : 10 ^ 64 ≤ r
    · rw [pcs_big hb] at hz
      rcases List.mem_cons.mp hz with rfl | hz
      · have h1 : (Str.ofString (toString (((r % 10 ^ 64 : Nat) : Int)))).length ≤ 64 := toString_length_le (Int.natCast_nonneg _) (by decide) (by exact_mod_cast (Nat.mod_lt r (by decide)))
        have h2 := zfill_len (Str.ofString (toString (((r % 10 ^ 64 : Nat) : Int)))) 64
        exact Nat.le_trans h2 (by omega)
      · refine pcs_fit k _ ?_ z hz
        refine Nat.div_lt_of_lt_mul ?_
        rw [← Nat.pow_add]
        exact Nat.lt_of_lt_of_le h (Nat.pow_le_pow_right (by decide) (by omega))
    · have hb := Nat.not_le.mp hb
      rw [pcs_small hb] at hz
      rw [List.mem_singleton.mp hz]
      exact Nat.le_trans (toString_length_le (k := 64) (Int.natCast_nonneg _) (by decide) (by exact_mod_cast hb)) (by decide)
/-- the text -/
def fig (n : Nat) : Str := Txt.join "" (pcs n).reverse
theorem wide_38 {n : Nat} (h : n < 2 ^ 8000) : n < 10 ^ (64 * (37 + 1)) := Nat.lt_of_lt_of_le h (by decide)
theorem by_piece (i : Int) : Builtin.divisionGoesByPylong i 10000000000000000000000000000000000000000000000000000000000000000 = false := by
  unfold Builtin.divisionGoesByPylong
  exact Bool.and_eq_false_iff.mpr (.inl (by decide))
end HopR

set_option Elab.async false
set_option linter.all false
set_option maxRecDepth 100000
namespace HopR
open PySem PySem.Spec PyProof.Rows L2
/-! ### == and != by an own __eq__ of a class of the text, whose own names hold no __ne__ -/
structure EqC (K : PySem.W.Frag) (C f : Addr) : Prop where
  eq : PySem.W.findIn K (.ref C) "__eq__" = some (some (.ref f))
  fn : PySem.W.isFn K (.ref f) = true
  own : ∃ nm q N bs hd sn sub ab col dd k0 k1 k2 k3 k5 nw, K.lookup C = some (excClassObj nm q C N bs [.type "object"] hd sn sub ab col dd k0 k1 k2 k3 k5 nw) ∧ PySem.W.nsOkIn K N = true ∧ PySem.W.nsIn K N "__eq__" = some (some (.ref f)) ∧ PySem.W.nsIn K N "__ne__" = some none
theorem name_here {K : PySem.W.Frag} {h : Heap} {N : Addr} {mg : Str → Option Value} {x : Str} {v : Value} (kin : K.In h) (names : h.Ns N mg) (e : PySem.W.nsIn K N x = some (some v)) : mg x = some v := by
  rcases names with ⟨o, es, ep, at_, data, -, find⟩
  rw [← find]
  revert e
  unfold PySem.W.nsIn
  cases look : K.lookup N with
  | none => exact fun e => nomatch e
  | some ob =>
    obtain rfl : ob = o := Option.some.inj ((kin _ _ look).symm.trans at_)
    obtain ⟨cls, dict, dat, slots⟩ := ob
    obtain rfl : dat = .dict es ep := data
    intro e
    unfold nsFind findBy
    rw [← Array.find?_toList]
    cases hit : es.toList.find? (·.key.isStr x) with
    | none =>
      simp only [hit] at e
      split at e <;> cases e
    | some en =>
      simp only [hit] at e
      cases e
      rfl
theorem fn_here {K : PySem.W.Frag} {h : Heap} {f : Addr} (kin : K.In h) (fn : PySem.W.isFn K (.ref f) = true) : ∃ o, h.get? f = some o ∧ o.cls = .type "function" := by
  have e : (K.lookup f).map (·.cls) = some (Value.type "function") := beq_iff_eq.mp fn
  obtain ⟨o, look, cls⟩ := Option.map_eq_some_iff.mp e
  exact ⟨o, kin _ _ look, cls⟩
theorem EqC.here {K : PySem.W.Frag} {h : Heap} {C f a : Addr} {o : Obj} (c : EqC K C f) (kin : K.In h) (at_ : h.get? a = some o) (cls : o.cls = .ref C) : h.OwnEqNoNe a C f "object" [.type "object"] := by
  obtain ⟨nm, q, N, bs, hd, sn, sub, ab, col, dd, k0, k1, k2, k3, k5, nw, look, ok, heq, hne⟩ := c.own
  obtain ⟨of, hf, hc⟩ := fn_here kin c.fn
  have names : h.Ns N (h.nsMap N) := .of_isNs (PySem.W.isNs_of_in kin ok)
  exact ⟨o, of, nm, q, N, bs, hd, sn, sub, ab, col, dd, k0, k1, k2, k3, k5, nw, h.nsMap N, _, at_, cls, kin _ _ look, names, name_here kin names heq, hf, hc, PySem.F.cmp_object.mro, PySem.F.cmp_object.eq.lookup, PySem.W.nsMap_none_of_in kin ok hne⟩
section
variable {X : Cx} {CX : CXT} {n : Nat} {C f : Addr} {fd : FuncData} {ps : List Str} {sp : Sp} {E : XK}
/-- two instances of the class; what its __eq__ promises of them, a truth -/
def rOwn (C : Addr) (sp : Sp) (E : XK) (neg : Bool) : R2 := fun x y H Q => ∃ a b dx dy fs gs, x = .ref a ∧ y = .ref b ∧ H a = some (.ins C dx fs) ∧ H b = some (.ins C dy gs) ∧ sp [.ref a, .ref b] H (fun v H' => ∃ k : Bool, v = .bl k ∧ Q (.bl (k ^^ neg)) H') E
theorem two_refs {a b : Addr} : Vals [V.ref a, V.ref b] [Value.ref a, Value.ref b] := .cons rfl (.cons rfl .nil)
theorem op_eqOwn (c : EqC X.K C f) (F : FnOk X.prog X.w X.K X.mg X.base CX n f fd ps sp) (room : Room n X.A) (bind : Binds X.K fd ps []) (lets : Passes CX X E) : OpR X (compareOp .Eq) (rOwn C sp E false) := by
  rintro pins s σ H _ _ v u Q I rx ry ⟨a, b, dx, dy, fs, gs, rfl, rfl, ha, hb, prom⟩
  cases rx; cases ry
  obtain ⟨_, J, _⟩ := ins_get I.hok ha
  obtain ⟨_, J', _⟩ := ins_get I.hok hb
  obtain ⟨_, J, _⟩ := J.look
  obtain ⟨_, J', _⟩ := J'.look
  obtain ⟨m, F0⟩ := I.fr
  refine PySem.W.cmp_K (op := .Eq) (tb := .ref C) room.units0 F0 I.ok.mod.kin J J'.type (by simp [PySem.W.notFirst]) c.eq c.fn (thn (call_at F room rfl bind lets I two_refs prom) ?_)
  rintro w s' ⟨z, H', I', rz, k, rfl, q⟩
  cases rz
  refine ⟨.bl k, H', I', rfl, ?_⟩
  rw [Bool.xor_false] at q
  exact q
theorem op_neOwn (c : EqC X.K C f) (F : FnOk X.prog X.w X.K X.mg X.base CX n f fd ps sp) (room : Room (n + 1) X.A) (bind : Binds X.K fd ps []) (lets : Passes CX X E) : OpR X (compareOp .NotEq) (rOwn C sp E true) := by
  rintro pins ⟨hp, g, d, t, os⟩ σ H _ _ v u Q I rx ry ⟨a, b, dx, dy, fs, gs, rfl, rfl, ha, hb, prom⟩
  cases rx; cases ry
  obtain ⟨_, J, _⟩ := ins_get I.hok ha
  obtain ⟨_, J', _⟩ := ins_get I.hok hb
  obtain ⟨_, J, _⟩ := J.look
  obtain ⟨_, J', _⟩ := J'.look
  have un := room.un
  refine compareOp_ne_ownEq PySem.F.cmp_object (c.here I.kIn J.at_ J.cls) J'.at_ J'.cls (by omega) (thn (call_at (A := X.A.in1) F room.in1 rfl bind lets I two_refs prom) ?_)
  rintro w s' ⟨z, H', I', rz, k, rfl, q⟩
  cases rz
  refine ⟨k, rfl, .bl (!k), H', I', rfl, ?_⟩
  rw [Bool.xor_true] at q
  exact q
end
end HopR

set_option Elab.async false
set_option linter.all false
set_option maxRecDepth 100000
namespace HopR
open PySem PySem.Spec PyProof.Rows L2
/-! ### numbers: // by any number but 0 -/
def CDivWN (_ j : Int) : Prop := j ≠ 0 ∧ j.natAbs.log2 < 9000
theorem op_fdivWN {X : Cx} : OpR X (binaryOp .FloorDiv) (rI CDivWN fun i j => .int (i.fdiv j)) := opI fun i j _ _ _ _ _ hc q => floordiv_int hc.1 q (.inl (PyProof.noPylong_of_log2 hc.2))
theorem gcd_fmod (a b : Int) : Int.gcd b (a.fmod b) = Int.gcd a b := by
  rw [Int.fmod_def, Int.mul_comm, Int.gcd_sub_mul_right_right, Int.gcd_comm]
theorem fmod_less (a : Int) {b : Int} (h : b ≠ 0) : (a.fmod b).natAbs < b.natAbs := by
  have h1 := Int.emod_nonneg a h
  have h2 := Int.emod_lt a h
  rw [Int.fmod_eq_emod]
  by_cases h3 : 0 ≤ b ∨ b ∣ a
  · rw [if_pos h3]
    omega
  · rw [if_neg h3]
    have h4 : a % b ≠ 0 := fun e => h3 (.inr (Int.dvd_of_emod_eq_zero e))
    have h5 : b < 0 := by
      refine Int.not_le.mp fun e => h3 (.inl e)
    omega
/-! ### fractions -/
theorem low_num {t b : Int} (h : b ≠ 0) : (t.fdiv (if b < 0 then -(Int.gcd t b : Int) else (Int.gcd t b : Int))) = (Rat.divInt t b).num := by
  have hd : ((Int.gcd t b : Nat) : Int) ∣ t := Int.gcd_dvd_left ..
  rw [Rat.num_divInt, Int.gcd_comm b t]
  by_cases hb : b < 0
  · rw [if_pos hb, Int.fdiv_eq_ediv_of_dvd (by rw [Int.neg_dvd]; exact hd), Int.ediv_neg, Int.sign_eq_neg_one_of_neg hb, Int.neg_one_mul, Int.neg_ediv_of_dvd hd]
  · have hb2 : 0 < b := by omega
    rw [if_neg hb, Int.fdiv_eq_ediv_of_dvd hd, Int.sign_eq_one_of_pos hb2, Int.one_mul]
theorem low_den {t b : Int} (h : b ≠ 0) : (b.fdiv (if b < 0 then -(Int.gcd t b : Int) else (Int.gcd t b : Int))) = ((Rat.divInt t b).den : Int) := by
  have hd : ((Int.gcd t b : Nat) : Int) ∣ b := Int.gcd_dvd_right ..
  rw [Rat.den_divInt, if_neg h, Int.gcd_comm b t]
  rw [Int.natCast_ediv]
  by_cases hb : b < 0
  · rw [if_pos hb, Int.fdiv_eq_ediv_of_dvd (by rw [Int.neg_dvd]; exact hd), Int.ediv_neg, Int.ofNat_natAbs_of_nonpos (by omega), Int.neg_ediv_of_dvd hd]
  · rw [if_neg hb, Int.fdiv_eq_ediv_of_dvd hd, Int.natAbs_of_nonneg (by omega)]
theorem gcd_pos {t b : Int} (h : b ≠ 0) : 0 < Int.gcd t b := Int.gcd_pos_of_ne_zero_right _ h
/-- both numbers of the fraction are below 2 ^ n -/
def Sz (n : Nat) (q : Rat) : Prop := q.num.natAbs < 2 ^ n ∧ q.den < 2 ^ n
theorem Sz.mono {n m : Nat} {q : Rat} (h : Sz n q) (hm : n ≤ m) : Sz m q := ⟨Nat.lt_of_lt_of_le h.1 (Nat.pow_le_pow_right (by decide) hm), Nat.lt_of_lt_of_le h.2 (Nat.pow_le_pow_right (by decide) hm)⟩
theorem sz_divInt {t b : Int} {n : Nat} (h : b ≠ 0) (ht : t.natAbs < 2 ^ n) (hb : b.natAbs < 2 ^ n) : Sz n (Rat.divInt t b) := by
  have g := gcd_pos (t := t) h
  constructor
  · rw [Rat.num_divInt]
    refine Nat.lt_of_le_of_lt (Int.natAbs_ediv_le_natAbs _ _) ?_
    rw [Int.natAbs_mul]
    rcases Int.lt_or_gt_of_ne h with h | h
    · rw [Int.sign_eq_neg_one_of_neg h]; simpa using ht
    · rw [Int.sign_eq_one_of_pos h]; simpa using ht
  · rw [Rat.den_divInt, if_neg h]
    exact Nat.lt_of_le_of_lt (Nat.div_le_self _ _) hb
theorem den_ne (q : Rat) : ((q.den : Nat) : Int) ≠ 0 := by
  have := q.den_nz
  omega
theorem pos_two (n : Nat) : 0 < 2 ^ n := Nat.pow_pos (by decide)
theorem two_lt {a b : Nat} {n : Nat} (ha : a < 2 ^ n) (hb : b < 2 ^ n) : a + b < 2 ^ (n + 1) := by
  rw [Nat.pow_succ]
  omega
theorem add_eq (q r : Rat) : q + r = Rat.divInt (q.num * r.den + r.num * q.den) ((q.den : Int) * (r.den : Int)) := by
  conv => lhs; rw [← Rat.num_divInt_den q, ← Rat.num_divInt_den r]
  exact Rat.divInt_add_divInt _ _ (den_ne q) (den_ne r)
theorem sub_eq (q r : Rat) : q - r = Rat.divInt (q.num * r.den - r.num * q.den) ((q.den : Int) * (r.den : Int)) := by
  conv => lhs; rw [← Rat.num_divInt_den q, ← Rat.num_divInt_den r]
  exact Rat.divInt_sub_divInt _ _ (den_ne q) (den_ne r)
theorem mul_eq (q r : Rat) : q * r = Rat.divInt (q.num * r.num) ((q.den : Int) * (r.den : Int)) := by
  conv => lhs; rw [← Rat.num_divInt_den q, ← Rat.num_divInt_den r]
  exact Rat.divInt_mul_divInt _ _
theorem div_eq (q r : Rat) : q / r = Rat.divInt (q.num * r.den) ((q.den : Int) * r.num) := by
  rw [Rat.div_def]
  conv => lhs; rw [← Rat.num_divInt_den q, ← Rat.num_divInt_den r]
  rw [Rat.inv_divInt]
  exact Rat.divInt_mul_divInt _ _
end HopR

set_option Elab.async false
set_option linter.all false
set_option maxRecDepth 100000
namespace HopR
open PySem PySem.Spec PyProof.Rows L2
/-! ### products, divided out crosswise -/
theorem mul_num (q r : Rat) : (q.num.fdiv (Int.gcd q.num (r.den : Int) : Int)) * (r.num.fdiv (Int.gcd r.num (q.den : Int) : Int)) = (q * r).num := by
  have h1 : ((Int.gcd q.num (r.den : Int) : Nat) : Int) ∣ q.num := Int.gcd_dvd_left ..
  have h2 : ((Int.gcd r.num (q.den : Int) : Nat) : Int) ∣ r.num := Int.gcd_dvd_left ..
  rw [Int.fdiv_eq_ediv_of_dvd h1, Int.fdiv_eq_ediv_of_dvd h2]
  show _ = (Rat.mul q r).num
  unfold Rat.mul
  rfl
theorem mul_den (q r : Rat) : ((q.den : Int).fdiv (Int.gcd r.num (q.den : Int) : Int)) * ((r.den : Int).fdiv (Int.gcd q.num (r.den : Int) : Int)) = ((q * r).den : Int) := by
  have h1 : ((Int.gcd q.num (r.den : Int) : Nat) : Int) ∣ (r.den : Int) := Int.gcd_dvd_right ..
  have h2 : ((Int.gcd r.num (q.den : Int) : Nat) : Int) ∣ (q.den : Int) := Int.gcd_dvd_right ..
  rw [Int.fdiv_eq_ediv_of_dvd h1, Int.fdiv_eq_ediv_of_dvd h2]
  show _ = ((Rat.mul q r).den : Int)
  unfold Rat.mul
  rfl
end HopR

set_option Elab.async false
set_option linter.all false
set_option maxRecDepth 100000
namespace HopR
open PySem L2
/-! ### fractions above nought -/
theorem num_pos {q : Rat} (h : 0 < q) : 0 < q.num := by
  have h1 : 0 ≤ q.num := Rat.num_nonneg.mpr (by grind)
  have h2 : q.num ≠ 0 := fun e => by
    have : q = 0 := Rat.num_eq_zero.mp e
    rw [this] at h
    exact absurd h (by decide)
  omega
theorem pos_num {q : Rat} (h : 0 < q.num) : 0 < q := by
  have h1 : 0 ≤ q := Rat.num_nonneg.mp (by omega)
  have h2 : q ≠ 0 := fun e => by
    rw [e] at h
    exact absurd h (by decide)
  grind
theorem add_above {x y : Rat} (h : 0 ≤ y) (h2 : 0 < x) : 0 < y + x := by grind
theorem le_above {x : Rat} (h : 0 < x) : 0 ≤ x := by grind
theorem div_ne {q r : Rat} (h : 0 < q) (h2 : 0 < r) : q / r ≠ 0 := by
  rw [Rat.div_def]
  intro e
  rcases Rat.mul_eq_zero.mp e with e | e
  · rw [e] at h
    exact absurd h (by decide)
  · have h3 : r = 0 := by rw [← Rat.inv_inv r, e, Rat.inv_zero]
    rw [h3] at h2
    exact absurd h2 (by decide)
theorem ne_above {x : Rat} (h : 0 < x) : x ≠ 0 := fun e => by
  rw [e] at h
  exact absurd h (by decide)
theorem nat_low (n : Nat) : (0 : Rat) ≤ ((n : Int) : Rat) := by exact_mod_cast Nat.zero_le n
theorem nat_above {n : Nat} (h : 0 < n) : (0 : Rat) < ((n : Int) : Rat) := by exact_mod_cast h
theorem rat_int (t : Int) : Rat.divInt t 1 = (t : Rat) := by
  rw [Rat.divInt_eq_div]
  show (t : Rat) / ((1 : Int) : Rat) = (t : Rat)
  rw [Rat.div_def]
  have e : ((1 : Int) : Rat)⁻¹ = 1 := by decide +kernel
  rw [e, Rat.mul_one]
theorem sz_int {n k : Nat} (h : n < 2 ^ k) (hk : 1 ≤ k) : Sz k ((n : Int) : Rat) := by
  refine ⟨h, ?_⟩
  show 1 < 2 ^ k
  exact Nat.one_lt_two_pow (by omega)
theorem sz_add {n m : Nat} {q r : Rat} (h1 : Sz n q) (h2 : Sz m r) : Sz (n + m + 1) (q + r) := by
  rw [add_eq]
  have b1 : (q.num * r.den).natAbs < 2 ^ (n + m) := by
    rw [Int.natAbs_mul, Nat.pow_add]
    exact Nat.mul_lt_mul'' h1.1 h2.2
  have b2 : (r.num * q.den).natAbs < 2 ^ (n + m) := by
    rw [Int.natAbs_mul, Nat.add_comm, Nat.pow_add]
    exact Nat.mul_lt_mul'' h2.1 h1.2
  refine sz_divInt (Int.mul_ne_zero (den_ne q) (den_ne r)) ?_ ?_
  · exact Nat.lt_of_le_of_lt (Int.natAbs_add_le _ _) (two_lt b1 b2)
  · rw [Int.natAbs_mul]
    have h3 : q.den * r.den < 2 ^ (n + m) := by
      rw [Nat.pow_add]
      exact Nat.mul_lt_mul'' h1.2 h2.2
    exact Nat.lt_of_lt_of_le h3 (Nat.pow_le_pow_right (by decide) (by omega))
theorem sz_mul {n m : Nat} {q r : Rat} (h1 : Sz n q) (h2 : Sz m r) : Sz (n + m) (q * r) := by
  rw [mul_eq]
  refine sz_divInt (Int.mul_ne_zero (den_ne q) (den_ne r)) ?_ ?_
  · rw [Int.natAbs_mul, Nat.pow_add]
    exact Nat.mul_lt_mul'' h1.1 h2.1
  · rw [Int.natAbs_mul, Nat.pow_add]
    exact Nat.mul_lt_mul'' h1.2 h2.2
theorem sz_inv {n : Nat} {r : Rat} (h : Sz n r) (h0 : r ≠ 0) : Sz n r⁻¹ := by
  rw [Rat.inv_def]
  exact sz_divInt (fun e => h0 (Rat.num_eq_zero.mp e)) h.2 h.1
theorem sz_div {n m : Nat} {q r : Rat} (h1 : Sz n q) (h2 : Sz m r) (h0 : r ≠ 0) : Sz (n + m) (q / r) := by
  rw [Rat.div_def]
  exact sz_mul h1 (sz_inv h2 h0)
/-! ### walls -/
theorem two_in {l : List Nat} {a b : Nat} (ha : a ∈ l) (hb : b ∈ l) (h : a ≠ b) : 2 ≤ l.length := by
  match l, ha, hb with
  | [x], ha, hb =>
    have h1 := List.mem_singleton.mp ha
    have h2 := List.mem_singleton.mp hb
    omega
  | _ :: _ :: _, _, _ => simp
theorem one_in {l : List Nat} {a : Nat} (ha : a ∈ l) : 1 ≤ l.length := by
  match l, ha with
  | _ :: _, _ => simp
end HopR

set_option Elab.async false
set_option linter.all false
set_option maxRecDepth 100000
namespace HopR
open PySem PySem.Spec PyProof.Rows L2
/-! ### {o!r} in an f-string, o of an own class -/
section
variable {X : Cx} {CX : CXT} {n : Nat} {C f : Addr} {fd : FuncData} {ps : List Str} {sp : Sp} {E : XK} {e : Expr} {te : TE} {pos : Pos}
def tFmtO (C : Addr) (sp : Sp) (E : XK) (te : TE) : TE := fun σ H Q => te σ H fun x H1 => ∃ a dx fs, x = .ref a ∧ H1 a = some (.ins C dx fs) ∧ sp [.ref a] H1 (fun v H' => ∃ z : Str, v = .str z ∧ z.length ≤ sizeLine ∧ Q (.str z) H') E
theorem pe_fmtO (rep : PySem.W.findIn X.K (.ref C) "__repr__" = some (some (.ref f))) (fn : PySem.W.isFn X.K (.ref f) = true) (F : FnOk X.prog X.w X.K X.mg X.base CX n f fd ps sp) (room : Room (n + 1) X.A) (bind : Binds X.K fd ps []) (lets : Passes CX X E) (he : PE X e te) :
    PE X (.FormattedValue e 114 none pos) (tFmtO C sp E te) := by
  constructor
  intro pins s σ H Q I h
  refine wpAny_FormattedValue_repr (thn (he.run pins s σ H _ I h) ?_)
  rintro u s1 ⟨_, H1, I1, ru, a, dx, fs, rfl, ha, prom⟩
  cases (show u = Value.ref a from ru)
  obtain ⟨_, J, _⟩ := ins_get I1.hok ha
  obtain ⟨od, J, _⟩ := J.look
  have un := room.un
  rw [pyReprObj_eq_pyReprObjBy]
  unfold pyReprObjBy
  refine wpAny_bind (wpAny_cRoomFor (by omega) (wpAny_bind (wpAny_bind (J.type.here ((PySem.W.looks_findIn I1.kIn rep).here ?_)))))
  show wpAny _ _ (if (some (Value.ref f)).isNone = true then _ else _) _ _ _
  rw [if_neg (by simp)]
  refine wpAny_bind (special_own I1.kIn J rep fn (thn (call_at F (room.mono (Nat.le_succ n)) rfl bind lets I1 (us := [.ref a]) (vs := [.ref a]) (.cons rfl .nil) prom) ?_))
  rintro v s' ⟨_, H', I', rz, z, rfl, hz, q⟩
  obtain ⟨tk, rfl⟩ := rz
  refine wpAny_bind (wpAny_isInstance (T := "str") (b := true) rfl isSubtype_str_str (wpAny_pure ?_))
  exact wpAny_formatField_str ⟨.str z, H', I', ⟨_, rfl⟩, q⟩ ⟨.str z, H', I'.tok _, ⟨_, rfl⟩, q⟩ hz
/-- o == p by the class's own __eq__, told by its two facts alone -/
theorem op_eqTwo (eq : PySem.W.findIn X.K (.ref C) "__eq__" = some (some (.ref f))) (fn : PySem.W.isFn X.K (.ref f) = true) (F : FnOk X.prog X.w X.K X.mg X.base CX n f fd ps sp) (room : Room n X.A) (bind : Binds X.K fd ps []) (lets : Passes CX X E) : OpR X (compareOp .Eq) (rOwn C sp E false) := by
  rintro pins s σ H _ _ v u Q I rx ry ⟨a, b, dx, dy, fs, gs, rfl, rfl, ha, hb, prom⟩
  cases rx; cases ry
  obtain ⟨_, J, _⟩ := ins_get I.hok ha
  obtain ⟨_, J', _⟩ := ins_get I.hok hb
  obtain ⟨_, J, _⟩ := J.look
  obtain ⟨_, J', _⟩ := J'.look
  obtain ⟨m, F0⟩ := I.fr
  refine PySem.W.cmp_K (op := .Eq) (tb := .ref C) room.units0 F0 I.ok.mod.kin J J'.type (by simp [PySem.W.notFirst]) eq fn (thn (call_at F room rfl bind lets I two_refs prom) ?_)
  rintro w s' ⟨z, H', I', rz, k, rfl, q⟩
  cases rz
  rw [Bool.xor_false] at q
  exact ⟨.bl k, H', I', rfl, q⟩
end
/-! ### lists of new tuples -/
def TupH {α : Type} (H : Hp) (f : α → List V) : List α → List V → Prop
  | [], vs => vs = []
  | a :: r, vs => ∃ p vr, vs = .ref p :: vr ∧ H p = some (.tup (f a)) ∧ TupH H f r vr
section
variable {α : Type} {H H' : Hp} {f : α → List V}
theorem tupH_same (s : Same H H') : ∀ {as : List α} {vs : List V}, TupH H f as vs → TupH H' f as vs
  | [], _, h => h
  | _ :: _, _, ⟨p, vr, e, h1, h2⟩ => ⟨p, vr, e, s _ _ h1, tupH_same s h2⟩
theorem tupH_upd {D : Addr} {xs : List V} {o : HO} (hD : H D = some (.lst xs)) : ∀ {as : List α} {vs : List V}, TupH H f as vs → TupH (upd H D o) f as vs
  | [], _, h => h
  | _ :: _, _, ⟨p, vr, e, h1, h2⟩ => ⟨p, vr, e, by
      rw [upd_ne (fun z => by rw [z, hD] at h1; cases h1)]
      exact h1, tupH_upd hD h2⟩
theorem tupH_add {a : α} {p : Addr} (h1 : H p = some (.tup (f a))) : ∀ {as : List α} {vs : List V}, TupH H f as vs → TupH H f (as ++ [a]) (vs ++ [.ref p])
  | [], _, h => by
    cases h
    exact ⟨p, [], rfl, h1, rfl⟩
  | _ :: _, _, ⟨p', vr, e, h2, h3⟩ => ⟨p', vr ++ [.ref p], by rw [e]; rfl, h2, tupH_add h1 h3⟩
theorem tupH_len : ∀ {as : List α} {vs : List V}, TupH H f as vs → vs.length = as.length
  | [], _, h => by
    cases h
    rfl
  | _ :: _, _, ⟨_, vr, e, _, h2⟩ => by rw [e, List.length_cons, List.length_cons, tupH_len h2]
theorem tupH_at : ∀ {as : List α} {vs : List V} {k : Nat} {a : α}, TupH H f as vs → as[k]? = some a → ∃ p, vs[k]? = some (.ref p) ∧ H p = some (.tup (f a))
  | [], _, k, a, h, e => by simp at e
  | b :: r, _, 0, a, ⟨p, vr, ev, h1, h2⟩, e => by
    have : b = a := Option.some.inj e
    subst this
    exact ⟨p, by rw [ev]; rfl, h1⟩
  | b :: r, _, k + 1, a, ⟨p, vr, ev, h1, h2⟩, e => by
    obtain ⟨p', e1, e2⟩ := tupH_at (k := k) h2 e
    exact ⟨p', by rw [ev]; exact e1, e2⟩
end
end HopR

set_option Elab.async false
set_option linter.all false
set_option maxRecDepth 100000
namespace HopT
open PySem PySem.Spec PyProof.Rows L2
/-! ### sorted(tuples of ints, of any lengths but nought): the same tuples in some order -/
section
variable {prog : Program} {w : World} {A : Around} {E : Value → Shared → Prop} {s : Shared}
def Whole (u : Value) : Prop := ∃ (x : Int) (t : Tok), u = .int x t
def Begun (h : Heap) (v : Value) : Prop := ∃ a o f us n, v = .ref a ∧ h.get? a = some o ∧ o.cls = .type "tuple" ∧ o.data = .seq (f :: us).toArray n ∧ ∀ u ∈ f :: us, Whole u
/-- two rows of ints are always told apart or alike -/
theorem apart {b z : Bool} : ∀ (l : List (Value × Value)) (i : Nat), (∀ p ∈ l, Whole p.1 ∧ Whole p.2) → ∃ c : Bool, ∀ Q : Bool → Shared → Prop, Q c s → PySem.W.KatLex prog w A b z Q l i s
  | [], _, _ => ⟨z, fun _ q => PySem.W.kat_nil q⟩
  | (_, _) :: l, i, hl => by
    obtain ⟨⟨x, t, rfl⟩, ⟨y, u, rfl⟩⟩ := hl _ (List.mem_cons_self ..)
    obtain ⟨c, hc⟩ := apart l (i + 1) (fun p m => hl p (List.mem_cons_of_mem _ m))
    by_cases same : x = y
    · exact ⟨c, fun Q q => PySem.W.kat_cons (SeqAt.EqAt.int_int x t y u prog w _ _ (PySem.W.kat_go (fun _ => PySem.W.kat_yes (hc Q q)) (fun no => by simp [same] at no)))⟩
    · exact ⟨decide (x < y), fun Q q => PySem.W.kat_cons (SeqAt.EqAt.int_int x t y u prog w _ _ (PySem.W.kat_go (fun yes => absurd (by simpa using yes) same) (fun _ => PySem.W.kat_no (TS.oneLt_ints _ q))))⟩
theorem heads {h : Heap} : ∀ vs : List Value, (∀ v ∈ vs, Begun h v) → ∃ fs : List Value, PySem.W.KatTups h vs fs ∧ fs.length = vs.length ∧ ∀ f ∈ fs, Whole f
  | [], _ => ⟨[], .nil, rfl, by simp⟩
  | v :: vs, hv => by
    obtain ⟨fs, k, l, z⟩ := heads vs (fun u m => hv u (List.mem_cons_of_mem _ m))
    obtain ⟨a, o, f, us, n, rfl, g, c, d, i⟩ := hv v (List.mem_cons_self ..)
    refine ⟨f :: fs, .cons g c d (by simp) k, by simp [l], ?_⟩
    intro x m
    cases m with
    | head => exact i f (List.mem_cons_self ..)
    | tail _ m => exact z x m
theorem can_sort {a : Addr} {vs : List Value} (some' : vs ≠ []) (hv : ∀ v ∈ vs, Begun s.heap v) (na : ∀ o, s.heap.get? a = some o → o.cls ≠ .type "tuple") : Srt.Sortable prog w A s a vs := fun h' keep => by
  have hv' : ∀ v ∈ vs, Begun h' v := fun v m => by
    obtain ⟨b, o, f, us, n, e, g, c, r⟩ := hv v m
    exact ⟨b, o, f, us, n, e, keep b o (by rintro rfl; exact na o g c) g, c, r⟩
  obtain ⟨fs, k, l, z⟩ := heads vs hv'
  have p : 0 < fs.length := by rw [l]; exact List.length_pos_iff.mpr some'
  have nt : (Value.type "int" != Value.type "tuple") = true := by first | decide +kernel | rfl
  refine ⟨tuples' true, fun Q E q => PySem.W.kat_kind (T := .type "int") k p (fun f m => ?_) rfl (nt ▸ q), fun x y hx hy => ?_⟩
  · obtain ⟨i, t, rfl⟩ := z f m
    exact .now
  · obtain ⟨a1, o1, f1, us1, n1, e1, g1, c1, d1, i1⟩ := hv' _ hx
    obtain ⟨a2, o2, f2, us2, n2, e2, g2, c2, d2, i2⟩ := hv' _ hy
    obtain ⟨c, hc⟩ := apart (prog := prog) (w := w) (A := A) (s := { s with heap := h' }) (b := true) (z := decide ((f1 :: us1).toArray.size < (f2 :: us2).toArray.size)) ((f1 :: us1).zip (f2 :: us2)) 0 (fun p m => ⟨i1 _ (List.of_mem_zip m).1, i2 _ (List.of_mem_zip m).2⟩)
    rw [e1, e2]
    exact ⟨c, PySem.W.kat_lt g1 d1 g2 d2 (hc _ ⟨rfl, rfl⟩)⟩
end
def rSortedZ (K : PySem.W.Frag) : List V → Hp → VK → Prop := fun vs H Q => ∃ (a : Addr) (ts : List Addr), vs = [.ref a] ∧ SqL K H a (ts.map V.ref) ∧ (∀ t ∈ ts, ∃ (n : Int) (ns : List Int), H t = some (.tup ((n :: ns).map V.int))) ∧
  ∀ (ys : List Addr) p, ys.Perm ts → H p = none → Q (.ref p) (upd H p (.lst (ys.map V.ref)))
theorem refs_are : ∀ {ts : List Addr} {us : List Value}, Vals (ts.map V.ref) us → us = ts.map Value.ref
  | [], _, .nil => rfl
  | _ :: _, _, .cons r t => by cases r; rw [refs_are t]; rfl
theorem are_refs : ∀ ts : List Addr, Vals (ts.map V.ref) (ts.map Value.ref)
  | [] => .nil
  | _ :: ts => .cons rfl (are_refs ts)
theorem perm_refs {out : List Value} {ts : List Addr} (h : out.Perm (ts.map Value.ref)) : ∃ ys : List Addr, out = ys.map Value.ref ∧ ys.Perm ts := by
  let f : Value → Addr := fun v => match v with | .ref a => a | _ => 0
  have e : ∀ l : List Addr, (l.map Value.ref).map f = l := fun l => by induction l with
    | nil => rfl
    | cons x l ih => rw [List.map_cons, List.map_cons, ih]
  refine ⟨out.map f, ?_, by have := h.map f; rwa [e] at this⟩
  rw [List.map_map]
  refine (List.map_id out).symm.trans (List.map_congr_left fun v m => ?_)
  obtain ⟨a, _, rfl⟩ := List.mem_map.mp (h.mem_iff.mp m)
  rfl
theorem cr_sortedZ {X : Cx} : CallR X (.builtin "sorted") (rSortedZ X.K) := by
  rintro pins s σ H vs us Q I r ⟨a, ts, rfl, hs, ht, q⟩
  obtain ⟨its, rv, isl, big⟩ := I.list hs
  obtain rfl := refs_are rv
  rw [Vals.ref1 r]
  have beg : ∀ v ∈ ts.map Value.ref, Begun s.heap v := by
    intro v m
    obtain ⟨t, mt, rfl⟩ := List.mem_map.mp m
    obtain ⟨n, ns, e⟩ := ht t mt
    obtain ⟨_, vs', r', o, g, c, k, d⟩ := I.hok _ _ e
    have wh := SrtO.ints_mem r'.ints
    cases r' with
    | cons r0 rs => exact ⟨t, o, _, _, k, rfl, g, c, d, wh⟩
  refine Srt.sorted_any isl.isList (by simpa using big) (fun two h1 b hb kk => can_sort (by rintro e; rw [e] at two; simp at two) (fun v m => ?_) (fun o g => ?_)) (fun out po => ?_)
  · obtain ⟨t, o, f, us, n, e, g, rest⟩ := beg v m
    exact ⟨t, o, f, us, n, e, (kk _ _ g).2, rest⟩
  · obtain rfl := Option.some.inj (g.symm.trans hb)
    exact fun c => absurd (Value.type.inj c) (by decide)
  · obtain ⟨ys, rfl, py⟩ := perm_refs po
    obtain ⟨k, at'⟩ := sortedAll_at s.heap (ts.map Value.ref) (ys.map Value.ref).toArray
    have len : (ys.map V.ref).length ≤ sizeLine := by rw [List.length_map, py.length_eq]; simpa using big
    exact ⟨.ref _, upd H (s.heap.objs.size + 1) (.lst (ys.map V.ref)), I.laid (t' := s.toks) (fun _ _ => sortedAll_old) (Nat.le_succ _) ⟨len, _, k, are_refs ys, at'⟩, rfl, q ys _ py (I.hok.fresh (Nat.le_succ _))⟩
end HopT

set_option Elab.async false
set_option linter.all false
set_option maxRecDepth 100000
namespace HopT
open PySem PySem.Spec PyProof.Rows L2
/-! ### sorted(tuples of ints and texts, alike in their kinds): in order, however many -/
def ltK : Key → Key → Bool
  | .inl x, .inl y => decide (x < y)
  | .inr s, .inr t => decide (s.cps.toList < t.cps.toList)
  | .inl _, .inr _ => true
  | .inr _, .inl _ => false
def lexK : List Key → List Key → Bool
  | [], [] => false
  | [], _ :: _ => true
  | _ :: _, [] => false
  | a :: l, b :: m => if a = b then lexK l m else ltK a b
theorem str_ext {s t : Str} (h : s.cps.toList = t.cps.toList) : s = t := by
  cases s; cases t
  exact congrArg Str.mk (Array.toList_inj.mp h)
theorem ltK_irr (a : Key) : ltK a a = false := by
  cases a with
  | inl x => exact decide_eq_false (Int.lt_irrefl _)
  | inr s => exact decide_eq_false (List.lt_irrefl _)
theorem ltK_asym (a b : Key) (h : ltK a b = true) : ltK b a = false := by
  cases a <;> cases b
  · exact decide_eq_false (by have := of_decide_eq_true h; omega)
  · rfl
  · cases h
  · exact decide_eq_false (fun z => List.lt_asymm (of_decide_eq_true h) z)
theorem ltK_tri (a b : Key) (h1 : ltK a b = false) (h2 : ltK b a = false) : a = b := by
  cases a <;> cases b
  · have := of_decide_eq_false h1; have := of_decide_eq_false h2; congr 1; omega
  · cases h1
  · cases h2
  · exact congrArg Sum.inr (str_ext (List.le_antisymm (of_decide_eq_false h2) (of_decide_eq_false h1)))
theorem ltK_tr (a b c : Key) (h1 : ltK b a = false) (h2 : ltK c b = false) : ltK c a = false := by
  cases a <;> cases b <;> cases c <;> first | cases h1; done | cases h2; done | rfl | skip
  · exact decide_eq_false (by have := of_decide_eq_false h1; have := of_decide_eq_false h2; omega)
  · exact decide_eq_false (List.le_trans (of_decide_eq_false h1) (of_decide_eq_false h2))
theorem lexK_asym : ∀ l m : List Key, lexK l m = true → lexK m l = false
  | [], [], h => by cases h
  | [], _ :: _, _ => rfl
  | _ :: _, [], h => by cases h
  | a :: l, b :: m, h => by
    unfold lexK at h ⊢
    by_cases e : a = b
    · rw [if_pos e] at h; rw [if_pos e.symm]; exact lexK_asym l m h
    · rw [if_neg e] at h; rw [if_neg (Ne.symm e)]; exact ltK_asym _ _ h
theorem lexK_tr : ∀ l m k : List Key, lexK m l = false → lexK k m = false → lexK k l = false
  | [], [], k, _, h => h
  | [], _ :: _, [], _, h => by cases h
  | [], _ :: _, _ :: _, _, _ => rfl
  | _ :: _, [], _, h, _ => by cases h
  | _ :: _, _ :: _, [], _, h => by cases h
  | a :: l, b :: m, c :: k, h1, h2 => by
    unfold lexK at h1 h2 ⊢
    by_cases e1 : b = a
    · subst e1
      rw [if_pos rfl] at h1
      by_cases e2 : c = b
      · rw [if_pos e2] at h2 ⊢; exact lexK_tr l m k h1 h2
      · rw [if_neg e2] at h2 ⊢; exact h2
    · rw [if_neg e1] at h1
      by_cases e2 : c = b
      · subst e2; rw [if_neg e1]; exact h1
      · rw [if_neg e2] at h2
        have h3 := ltK_tr _ _ _ h1 h2
        by_cases e3 : c = a
        · subst e3
          exact absurd (ltK_tri _ _ h2 h1) (fun z => e2 z)
        · rw [if_neg e3]; exact h3
theorem swo_lexK {α : Type} (k : α → List Key) : SrtO.Swo fun x y => lexK (k x) (k y) := ⟨fun x y => lexK_asym _ _, fun x y z => lexK_tr _ _ _⟩
def kindK : Key → Bool
  | .inl _ => true
  | .inr _ => false
section
variable {prog : Program} {w : World} {A : Around} {E : Value → Shared → Prop} {s : Shared}
def KeysAre (ks : List Key) (us : List Value) : Prop := Vals (ks.map kV) us
theorem lex_run {b : Bool} : ∀ {ks ms : List Key} {us vs : List Value} (i : Nat), KeysAre ks us → KeysAre ms vs → ks.map kindK = ms.map kindK → ∀ Q : Bool → Shared → Prop, Q (lexK ks ms) s → PySem.W.KatLex prog w A b false Q (us.zip vs) i s
  | [], [], _, _, _, .nil, .nil, _, _, q => PySem.W.kat_nil q
  | [], _ :: _, _, _, _, _, _, h, _, _ => by simp at h
  | _ :: _, [], _, _, _, _, _, h, _, _ => by simp at h
  | .inl x :: ks, .inr y :: ms, _, _, _, _, _, h, _, _ => by simp [kindK] at h
  | .inr x :: ks, .inl y :: ms, _, _, _, _, _, h, _, _ => by simp [kindK] at h
  | .inl x :: ks, .inl y :: ms, _, _, i, .cons r1 t1, .cons r2 t2, h, Q, q => by
    obtain ⟨t, rfl⟩ := r1
    obtain ⟨u, rfl⟩ := r2
    have h' : ks.map kindK = ms.map kindK := (List.cons.inj h).2
    unfold lexK at q
    refine PySem.W.kat_cons (SeqAt.EqAt.int_int x t y u prog w _ _ (PySem.W.kat_go (fun e1 => ?_) (fun e1 => ?_)))
    · have e : x = y := by simpa using e1
      rw [if_pos (congrArg Sum.inl e)] at q
      exact PySem.W.kat_yes (lex_run (i + 1) t1 t2 h' Q q)
    · have e : ¬ x = y := by simpa using e1
      rw [if_neg (fun z => e (Sum.inl.inj z))] at q
      exact PySem.W.kat_no (oneLt_any_int q)
  | .inr x :: ks, .inr y :: ms, _, _, i, .cons r1 t1, .cons r2 t2, h, Q, q => by
    obtain ⟨t, rfl⟩ := r1
    obtain ⟨u, rfl⟩ := r2
    have h' : ks.map kindK = ms.map kindK := (List.cons.inj h).2
    unfold lexK at q
    refine PySem.W.kat_cons (SeqAt.EqAt.str_str x t y u prog w _ _ (PySem.W.kat_go (fun e1 => ?_) (fun e1 => ?_)))
    · have e : x = y := by simpa using e1
      rw [if_pos (congrArg Sum.inr e)] at q
      exact PySem.W.kat_yes (lex_run (i + 1) t1 t2 h' Q q)
    · have e : ¬ x = y := by simpa using e1
      rw [if_neg (fun z => e (Sum.inr.inj z))] at q
      exact PySem.W.kat_no (oneLt_any_str q)
/-- at v a tuple of the keys ks -/
def TupK (h : Heap) (v : Value) (ks : List Key) : Prop := ∃ a o us n, v = .ref a ∧ h.get? a = some o ∧ o.cls = .type "tuple" ∧ o.data = .seq us.toArray n ∧ KeysAre ks us
theorem TupK.keeps {h h' : Heap} {v : Value} {ks : List Key} (x : TupK h v ks) (k : ∀ b o, h.get? b = some o → o.cls = .type "tuple" → h'.get? b = some o) : TupK h' v ks := by
  obtain ⟨a, o, us, n, e, g, c, r⟩ := x
  exact ⟨a, o, us, n, e, k _ _ g c, c, r⟩
theorem tup_heads {h : Heap} {k : Value → List Key} {c : Bool} {κs : List Bool} : ∀ vs : List Value, (∀ v ∈ vs, TupK h v (k v) ∧ (k v).map kindK = c :: κs) → ∃ fs : List Value, PySem.W.KatTups h vs fs ∧ fs.length = vs.length ∧ ∀ f ∈ fs, if c then ∃ i t, f = .int i t else ∃ x t, f = .str x t
  | [], _ => ⟨[], .nil, rfl, by simp⟩
  | v :: vs, hv => by
    obtain ⟨fs, kt, l, z⟩ := tup_heads vs (fun u m => hv u (List.mem_cons_of_mem _ m))
    obtain ⟨⟨a, o, us, n, e, g, cl, d, ka⟩, hk⟩ := hv v (List.mem_cons_self ..)
    generalize k v = kv at hk ka
    cases kv with
    | nil => simp at hk
    | cons x ks =>
      obtain ⟨f, us', rfl, r, t⟩ : ∃ f us', us = f :: us' ∧ RelV (kV x) f ∧ Vals (ks.map kV) us' := by
        cases ka with
        | cons r t => exact ⟨_, _, rfl, r, t⟩
      refine ⟨f :: fs, ?_, by simp [l], ?_⟩
      · rw [e]; exact .cons g cl d (by simp) kt
      · intro y m
        rcases List.mem_cons.mp m with rfl | m
        · have hx : kindK x = c := (List.cons.inj hk).1
          cases x with
          | inl i => obtain ⟨t, e⟩ := r; have : c = true := hx.symm; rw [this]; exact ⟨i, t, e⟩
          | inr i => obtain ⟨t, e⟩ := r; have : c = false := hx.symm; rw [this]; exact ⟨i, t, e⟩
        · exact z y m
theorem tups_sortable {a : Addr} {vs : List Value} {k : Value → List Key} {c : Bool} {κs : List Bool} (h0 : 0 < vs.length) (hp : ∀ v ∈ vs, TupK s.heap v (k v) ∧ (k v).map kindK = c :: κs) (ha : ∀ o, s.heap.get? a = some o → o.cls ≠ .type "tuple") : SrtO.SortableO prog w A s a vs fun v u => lexK (k v) (k u) := by
  intro h' keep
  have hp' : ∀ v ∈ vs, TupK h' v (k v) ∧ (k v).map kindK = c :: κs := fun v hm => ⟨(hp v hm).1.keeps fun b o e cl => keep b o (fun z => by subst z; exact ha o e cl) e, (hp v hm).2⟩
  obtain ⟨fs, h1, h2, h3⟩ := tup_heads vs hp'
  refine ⟨tuples' true, fun Q E hq => ?_, ?_⟩
  · cases c with
    | true =>
      have nt : (Value.type "int" != Value.type "tuple") = true := by first | decide +kernel | rfl
      refine PySem.W.kat_kind (T := .type "int") h1 (by omega) (fun f hm => ?_) (by rfl) (nt ▸ hq)
      obtain ⟨x, t, rfl⟩ := h3 f hm
      exact PySem.W.Looks.now
    | false =>
      have nt : (Value.type "str" != Value.type "tuple") = true := by first | decide +kernel | rfl
      refine PySem.W.kat_kind (T := .type "str") h1 (by omega) (fun f hm => ?_) (by rfl) (nt ▸ hq)
      obtain ⟨x, t, rfl⟩ := h3 f hm
      exact PySem.W.Looks.now
  · intro p q hm hm'
    obtain ⟨⟨a1, o1, us1, n1, e1, g1, c1, d1, k1⟩, z1⟩ := hp' _ hm
    obtain ⟨⟨a2, o2, us2, n2, e2, g2, c2, d2, k2⟩, z2⟩ := hp' _ hm'
    show wpAny (model prog w) A (keyLt' (tuples' true) p.1 q.1) (fun r s' => s' = _ ∧ r = lexK (k p.1) (k q.1)) (fun _ _ => False) _
    rw [show keyLt' (tuples' true) p.1 q.1 = keyLt' (tuples' true) (.ref a1) (.ref a2) by rw [e1, e2]]
    refine PySem.W.kat_lt g1 d1 g2 d2 ?_
    have len : us1.length = us2.length := by
      have l1 := Vals.length k1
      have l2 := Vals.length k2
      have l3 := congrArg List.length (z1.trans z2.symm)
      rw [List.length_map] at l1 l2
      rw [List.length_map, List.length_map] at l3
      omega
    have ef : decide (us1.toArray.size < us2.toArray.size) = false := by
      rw [List.size_toArray, List.size_toArray]
      exact decide_eq_false (by omega)
    rw [ef]
    exact lex_run 0 k1 k2 (z1.trans z2.symm) _ ⟨rfl, rfl⟩
end
abbrev ltV (k : V → List Key) (x y : V) : Bool := lexK (k x) (k y)
/-- sorted(xs), xs a list of tuples of ints and texts, alike in their kinds -/
def rSortedTK (K : PySem.W.Frag) : List V → Hp → VK → Prop := fun vs H Q => ∃ (a : Addr) (xs : List V) (k : V → List Key) (c : Bool) (κs : List Bool), vs = [V.ref a] ∧ SqL K H a xs ∧ (∀ x ∈ xs, ∃ t, x = V.ref t ∧ H t = some (.tup ((k x).map kV)) ∧ (k x).map kindK = c :: κs) ∧
  ∀ ys p, SrtO.Srtd (ltV k) ys → ys.Perm xs → H p = none → Q (.ref p) (upd H p (.lst ys))
theorem cr_sortedTK {X : Cx} : CallR X (.builtin "sorted") (rSortedTK X.K) := by
  intro pins s σ H vs us Q I r h
  obtain ⟨a, xs, k, c, κs, rfl, hs, hx, q⟩ := h
  obtain ⟨its, rv, hl, hz⟩ := I.list hs
  rw [Vals.ref1 r]
  obtain ⟨e1, e2⟩ := refs_back rv fun x m => by
    obtain ⟨t, e, _⟩ := hx x m
    exact ⟨t, e⟩
  have tk : ∀ v ∈ its, TupK s.heap v (k (backV v)) ∧ (k (backV v)).map kindK = c :: κs := fun v hv => by
    obtain ⟨t, rfl⟩ := e2 v hv
    have hm : V.ref t ∈ xs := by rw [e1]; exact List.mem_map.mpr ⟨_, hv, rfl⟩
    obtain ⟨t', e, ht, hk⟩ := hx _ hm
    cases e
    obtain ⟨_, its2, r2, o, ho, hc, n, hd⟩ := I.hok _ _ ht
    exact ⟨⟨t, o, its2, n, rfl, ho, hc, hd, r2⟩, hk⟩
  refine SrtO.sorted_ord (swo_lexK fun v => k (backV v)) hl.isList (by rw [← rv.length]; exact hz) (fun h2 h₁ b hb kk => ?_) fun out hso hst => ?_
  · refine tups_sortable (s := { s with heap := h₁ }) (by omega) (fun v hm => ⟨(tk v hm).1.keeps fun b o e _ => (kk b o e).2, (tk v hm).2⟩) fun o e => ?_
    obtain rfl := Option.some.inj (e.symm.trans hb)
    exact fun c => absurd (Value.type.inj c) (by decide)
  · have h3 : ∀ u ∈ out, ∃ a, u = Value.ref a := fun u hu => e2 u (hst.perm.mem_iff.mp hu)
    have pm : (out.map backV).Perm xs := by rw [e1]; exact hst.perm.map backV
    obtain ⟨n, hn⟩ := sortedAll_at s.heap its out.toArray
    refine ⟨.ref _, upd H (s.heap.objs.size + 1) (.lst (out.map backV)), I.laid (t' := s.toks) (fun _ _ => sortedAll_old) (Nat.le_succ _) ⟨?_, out, n, vals_back h3, hn⟩, rfl, q _ _ (SrtO.srtd_map hso) pm (I.hok.fresh (Nat.le_succ _))⟩
    rw [pm.length_eq]
    exact hz
end HopT

set_option Elab.async false
set_option linter.all false
set_option maxRecDepth 100000
/-! Heaps of a row: a course in any order fills one. -/
namespace HopH
abbrev T3 := Nat × Nat × Bool
/-- of the letters S the tuples R are a heap -/
structure Heaped (bs : List Bool) (S : List Nat) (R : List T3) : Prop where
  inn : ∀ b f s, (b, f, s) ∈ R → b ∈ S ∧ f ∈ S ∧ b < f ∧ bs[b]? = some true ∧ bs[f]? = some false
  nd : (R.map fun e => (e.1, e.2.1)).Nodup
  has : ∀ b f, b ∈ S → f ∈ S → b < f → bs[b]? = some true → bs[f]? = some false → ((∃ s, (b, f, s) ∈ R) ↔ ∀ k ∈ S, b < k → k < f → (k, f, true) ∉ R ∧ (b, k, false) ∉ R)
theorem pair_mem {R : List T3} {b f : Nat} : (b, f) ∈ R.map (fun e : T3 => (e.1, e.2.1)) ↔ ∃ s, (b, f, s) ∈ R := by
  rw [List.mem_map]
  constructor
  · rintro ⟨⟨b', f', s⟩, m, e⟩
    cases e
    exact ⟨s, m⟩
  · rintro ⟨s, m⟩
    exact ⟨_, m, rfl⟩
theorem heaped_nil {bs : List Bool} {S : List Nat} (h : ∀ b f, b ∈ S → f ∈ S → b < f → bs[b]? = some true → bs[f]? = some false → False) : Heaped bs S [] :=
  ⟨fun _ _ _ m => absurd m (by simp), by simp, fun b f hb hf l h1 h2 => (h b f hb hf l h1 h2).elim⟩
theorem Heaped.perm {bs : List Bool} {S : List Nat} {R R' : List T3} (h : Heaped bs S R) (p : R.Perm R') : Heaped bs S R' := by
  refine ⟨fun b f s m => h.inn b f s (p.mem_iff.mpr m), (p.map _).nodup_iff.mp h.nd, fun b f hb hf l h1 h2 => ?_⟩
  have e := h.has b f hb hf l h1 h2
  constructor
  · rintro ⟨s, m⟩ k hk k1 k2
    have := e.mp ⟨s, p.mem_iff.mpr m⟩ k hk k1 k2
    exact ⟨fun z => this.1 (p.mem_iff.mpr z), fun z => this.2 (p.mem_iff.mpr z)⟩
  · intro q
    obtain ⟨s, m⟩ := e.mpr fun k hk k1 k2 => ⟨fun z => (q k hk k1 k2).1 (p.mem_iff.mp z), fun z => (q k hk k1 k2).2 (p.mem_iff.mp z)⟩
    exact ⟨s, p.mem_iff.mp m⟩
theorem bad {o : Option Bool} (h1 : o = some true) (h2 : o = some false) : False := by rw [h1] at h2; cases h2
/-- a step at b, f that leaves the free place out -/
theorem heaped_free {bs : List Bool} {S S' : List Nat} {R : List T3} {b f : Nat} (hb : b ∈ S) (hf : f ∈ S) (bf : b < f) (adj : ∀ k ∈ S, b < k → k < f → False) (h1 : bs[b]? = some true) (h2 : bs[f]? = some false)
    (hS : ∀ x, x ∈ S' ↔ x ∈ S ∧ x ≠ f) (h : Heaped bs S' R) : Heaped bs S ((b, f, true) :: R) := by
  have nf : ∀ x s, (x, f, s) ∉ R := fun x s m => ((hS f).mp (h.inn _ _ _ m).2.1).2 rfl
  refine ⟨fun b1 f1 s m => ?_, ?_, fun b1 f1 hb1 hf1 l k1 k2 => ?_⟩
  · rcases List.mem_cons.mp m with e | m
    · cases e; exact ⟨hb, hf, bf, h1, h2⟩
    · obtain ⟨a, c, d⟩ := h.inn _ _ _ m
      exact ⟨((hS _).mp a).1, ((hS _).mp c).1, d⟩
  · rw [List.map_cons, List.nodup_cons]
    exact ⟨fun m => by obtain ⟨s, m⟩ := pair_mem.mp m; exact nf _ _ m, h.nd⟩
  · by_cases ef : f1 = f
    · subst ef
      by_cases eb : b1 = b
      · subst eb
        exact ⟨fun _ k hk z1 z2 => (adj k hk z1 z2).elim, fun _ => ⟨true, List.mem_cons_self ..⟩⟩
      · have lb : b1 < b := by
          rcases Nat.lt_trichotomy b1 b with z | z | z
          · exact z
          · exact absurd z eb
          · exact (adj b1 hb1 z l).elim
        constructor
        · rintro ⟨s, m⟩
          rcases List.mem_cons.mp m with e | m
          · cases e; exact absurd rfl eb
          · exact (nf _ _ m).elim
        · intro q
          exact ((q b hb lb bf).1 (List.mem_cons_self ..)).elim
    · have nb : b1 ≠ f := fun e => by rw [e] at k1; exact bad k1 h2
      have e := h.has b1 f1 ((hS _).mpr ⟨hb1, nb⟩) ((hS _).mpr ⟨hf1, ef⟩) l k1 k2
      have i1 : ∀ x s, (x, f1, s) ∈ (b, f, true) :: R ↔ (x, f1, s) ∈ R := fun x s => by
        constructor
        · intro m
          rcases List.mem_cons.mp m with e | m
          · cases e; exact absurd rfl ef
          · exact m
        · exact List.mem_cons_of_mem _
      have i2 : ∀ k, (b1, k, false) ∈ (b, f, true) :: R ↔ (b1, k, false) ∈ R := fun k => by
        constructor
        · intro m
          rcases List.mem_cons.mp m with e | m
          · cases e
          · exact m
        · exact List.mem_cons_of_mem _
      constructor
      · rintro ⟨s, m⟩ k hk z1 z2
        rw [i1, i2]
        by_cases ek : k = f
        · subst ek
          refine ⟨fun z => ?_, nf _ _⟩
          exact bad (h.inn _ _ _ z).2.2.2.1 h2
        · exact e.mp ⟨s, (i1 _ _).mp m⟩ k ((hS _).mpr ⟨hk, ek⟩) z1 z2
      · intro q
        obtain ⟨s, m⟩ := e.mpr fun k hk z1 z2 => by
          have := q k ((hS _).mp hk).1 z1 z2
          rw [i1, i2] at this
          exact this
        exact ⟨s, (i1 _ _).mpr m⟩
/-- a step at b, f that leaves the bead out -/
theorem heaped_bead {bs : List Bool} {S S' : List Nat} {R : List T3} {b f : Nat} (hb : b ∈ S) (hf : f ∈ S) (bf : b < f) (adj : ∀ k ∈ S, b < k → k < f → False) (h1 : bs[b]? = some true) (h2 : bs[f]? = some false)
    (hS : ∀ x, x ∈ S' ↔ x ∈ S ∧ x ≠ b) (h : Heaped bs S' R) : Heaped bs S ((b, f, false) :: R) := by
  have nb : ∀ x s, (b, x, s) ∉ R := fun x s m => ((hS b).mp (h.inn _ _ _ m).1).2 rfl
  refine ⟨fun b1 f1 s m => ?_, ?_, fun b1 f1 hb1 hf1 l k1 k2 => ?_⟩
  · rcases List.mem_cons.mp m with e | m
    · cases e; exact ⟨hb, hf, bf, h1, h2⟩
    · obtain ⟨a, c, d⟩ := h.inn _ _ _ m
      exact ⟨((hS _).mp a).1, ((hS _).mp c).1, d⟩
  · rw [List.map_cons, List.nodup_cons]
    exact ⟨fun m => by obtain ⟨s, m⟩ := pair_mem.mp m; exact nb _ _ m, h.nd⟩
  · by_cases eb : b1 = b
    · subst eb
      by_cases ef : f1 = f
      · subst ef
        exact ⟨fun _ k hk z1 z2 => (adj k hk z1 z2).elim, fun _ => ⟨false, List.mem_cons_self ..⟩⟩
      · have lf : f < f1 := by
          rcases Nat.lt_trichotomy f f1 with z | z | z
          · exact z
          · exact absurd z.symm ef
          · exact (adj f1 hf1 l z).elim
        constructor
        · rintro ⟨s, m⟩
          rcases List.mem_cons.mp m with e | m
          · cases e; exact absurd rfl ef
          · exact (nb _ _ m).elim
        · intro q
          exact ((q f hf bf lf).2 (List.mem_cons_self ..)).elim
    · have nf : f1 ≠ b := fun e => by rw [e] at k2; exact bad h1 k2
      have e := h.has b1 f1 ((hS _).mpr ⟨hb1, eb⟩) ((hS _).mpr ⟨hf1, nf⟩) l k1 k2
      have i1 : ∀ x s, (b1, x, s) ∈ (b, f, false) :: R ↔ (b1, x, s) ∈ R := fun x s => by
        constructor
        · intro m
          rcases List.mem_cons.mp m with e | m
          · cases e; exact absurd rfl eb
          · exact m
        · exact List.mem_cons_of_mem _
      have i2 : ∀ k, (k, f1, true) ∈ (b, f, false) :: R ↔ (k, f1, true) ∈ R := fun k => by
        constructor
        · intro m
          rcases List.mem_cons.mp m with e | m
          · cases e
          · exact m
        · exact List.mem_cons_of_mem _
      constructor
      · rintro ⟨s, m⟩ k hk z1 z2
        rw [i1, i2]
        by_cases ek : k = b
        · subst ek
          refine ⟨nb _ _, fun z => ?_⟩
          exact bad h1 (h.inn _ _ _ z).2.2.2.2
        · exact e.mp ⟨s, (i1 _ _).mp m⟩ k ((hS _).mpr ⟨hk, ek⟩) z1 z2
      · intro q
        obtain ⟨s, m⟩ := e.mpr fun k hk z1 z2 => by
          have := q k ((hS _).mp hk).1 z1 z2
          rw [i1, i2] at this
          exact this
        exact ⟨s, (i1 _ _).mpr m⟩
/-! ### which cells have a sign -/
theorem one_o {bs : List Bool} {S : List Nat} {R : List T3} (h : Heaped bs S R) {b1 b2 f : Nat} (m1 : (b1, f, true) ∈ R) (m2 : (b2, f, true) ∈ R) : b1 = b2 := by
  have go : ∀ {x y : Nat}, (x, f, true) ∈ R → (y, f, true) ∈ R → ¬ x < y := fun {x y} mx my l => by
    obtain ⟨a, b, c, d, e⟩ := h.inn _ _ _ mx
    obtain ⟨a', b', c', d', e'⟩ := h.inn _ _ _ my
    exact ((h.has x f a b c d e).mp ⟨_, mx⟩ y a' l c').1 my
  have := go m1 m2
  have := go m2 m1
  omega
theorem one_dot {bs : List Bool} {S : List Nat} {R : List T3} (h : Heaped bs S R) {b f1 f2 : Nat} (m1 : (b, f1, false) ∈ R) (m2 : (b, f2, false) ∈ R) : f1 = f2 := by
  have go : ∀ {x y : Nat}, (b, x, false) ∈ R → (b, y, false) ∈ R → ¬ x < y := fun {x y} mx my l => by
    obtain ⟨a, c, d, e, g⟩ := h.inn _ _ _ mx
    obtain ⟨a', c', d', e', g'⟩ := h.inn _ _ _ my
    exact ((h.has b y a' c' d' e' g').mp ⟨_, my⟩ x c d l).2 mx
  have := go m1 m2
  have := go m2 m1
  omega
/-- a cell has a sign just where no nearer one uses the bead or the free place up -/
theorem signed_iff {bs : List Bool} {S : List Nat} {R : List T3} (h : Heaped bs S R) {b f : Nat} (hb : b ∈ S) (hf : f ∈ S) (l : b < f) (h1 : bs[b]? = some true) (h2 : bs[f]? = some false) :
    (∃ s, (b, f, s) ∈ R) ↔ (∀ k, (k, f, true) ∈ R → k ≤ b) ∧ (∀ k, (b, k, false) ∈ R → f ≤ k) := by
  rw [h.has b f hb hf l h1 h2]
  constructor
  · intro q
    refine ⟨fun k m => ?_, fun k m => ?_⟩
    · obtain ⟨a, _, c, _⟩ := h.inn _ _ _ m
      by_cases z : k ≤ b
      · exact z
      · exact ((q k a (by omega) c).1 m).elim
    · obtain ⟨_, a, c, _⟩ := h.inn _ _ _ m
      by_cases z : f ≤ k
      · exact z
      · exact ((q k a c (by omega)).2 m).elim
  · rintro ⟨q1, q2⟩ k hk z1 z2
    exact ⟨fun m => by have := q1 k m; omega, fun m => by have := q2 k m; omega⟩
/-- what is left: free places ahead of beads -/
theorem left_apart {bs : List Bool} {S : List Nat} {R : List T3} (h : Heaped bs S R) {b f : Nat} (hb : b ∈ S) (hf : f ∈ S) (h1 : bs[b]? = some true) (h2 : bs[f]? = some false) (lb : ∀ k, (b, k, false) ∉ R) (lf : ∀ k, (k, f, true) ∉ R) : f < b := by
  rcases Nat.lt_trichotomy f b with z | z | z
  · exact z
  · rw [z] at h2; exact (bad h1 h2).elim
  · obtain ⟨s, m⟩ := (signed_iff h hb hf z h1 h2).mpr ⟨fun k m => (lf k m).elim, fun k m => (lb k m).elim⟩
    cases s with
    | true => exact (lf _ m).elim
    | false => exact (lb _ m).elim
/-! ### sorted lists with the same members are one -/
theorem same_sorted {α : Type} {lt : α → α → Prop} (irr : ∀ x, ¬ lt x x) (asym : ∀ x y, lt x y → lt y x → False) : ∀ {l m : List α}, l.Pairwise lt → m.Pairwise lt → (∀ x, x ∈ l ↔ x ∈ m) → l = m
  | [], [], _, _, _ => rfl
  | [], y :: m, _, _, h => absurd ((h y).mpr (List.mem_cons_self ..)) (by simp)
  | x :: l, [], _, _, h => absurd ((h x).mp (List.mem_cons_self ..)) (by simp)
  | x :: l, y :: m, hl, hm, h => by
    obtain ⟨hx, hl'⟩ := List.pairwise_cons.mp hl
    obtain ⟨hy, hm'⟩ := List.pairwise_cons.mp hm
    have e : x = y := by
      rcases List.mem_cons.mp ((h x).mp (List.mem_cons_self ..)) with e | e
      · exact e
      · rcases List.mem_cons.mp ((h y).mpr (List.mem_cons_self ..)) with e' | e'
        · exact e'.symm
        · exact (asym _ _ (hx _ e') (hy _ e)).elim
    subst e
    refine congrArg (x :: ·) (same_sorted irr asym hl' hm' fun z => ?_)
    constructor
    · intro mz
      rcases List.mem_cons.mp ((h z).mp (List.mem_cons_of_mem _ mz)) with e | e
      · subst e; exact (irr _ (hx _ mz)).elim
      · exact e
    · intro mz
      rcases List.mem_cons.mp ((h z).mpr (List.mem_cons_of_mem _ mz)) with e | e
      · subst e; exact (irr _ (hy _ mz)).elim
      · exact e
/-! ### the cells of a row, and those that are due -/
def beadsOf (bs : List Bool) : List Nat := (List.range bs.length).filter fun p => bs[p]? == some true
def freesOf (bs : List Bool) : List Nat := (List.range bs.length).filter fun p => bs[p]? == some false
def cellsN (bs : List Bool) : List (Nat × Nat) := (beadsOf bs).flatMap fun b => ((freesOf bs).filter fun f => decide (b < f)).map fun f => (b, f)
abbrev I3 := Int × Int × Bool
def ci (c : Nat × Nat) : Int × Int := ((c.1 : Int), (c.2 : Int))
def c3 (e : T3) : I3 := ((e.1 : Int), (e.2.1 : Int), e.2.2)
def pr3 (e : I3) : Int × Int := (e.1, e.2.1)
/-- the nearest bead of a free place: the last one of the list that uses it up -/
def nbI (ts : List I3) (f : Int) : Option Int := (ts.filter fun e => decide (e.2.1 = f) && e.2.2).getLast?.map (·.1)
/-- the nearest free place of a bead: the first one of the list that uses it up -/
def nfI (ts : List I3) (b : Int) : Option Int := (ts.filter fun e => decide (e.1 = b) && !e.2.2).head?.map (·.2.1)
def dueI (ts : List I3) (c : Nat × Nat) : Bool := decide ((nbI ts (c.2 : Int)).getD (c.1 : Int) ≤ (c.1 : Int)) && decide ((c.2 : Int) ≤ (nfI ts (c.1 : Int)).getD (c.2 : Int))
def dueCells (bs : List Bool) (ts : List I3) : List (Int × Int) := ((cellsN bs).filter (dueI ts)).map ci
def isHeapB (bs : List Bool) (ts : List I3) : Bool := decide (ts.map pr3 = dueCells bs ts)
theorem mem_beads {bs : List Bool} {p : Nat} : p ∈ beadsOf bs ↔ bs[p]? = some true := by
  unfold beadsOf
  rw [List.mem_filter, List.mem_range, beq_iff_eq]
  exact ⟨fun h => h.2, fun h => ⟨(List.getElem?_eq_some_iff.mp h).1, h⟩⟩
theorem mem_frees {bs : List Bool} {p : Nat} : p ∈ freesOf bs ↔ bs[p]? = some false := by
  unfold freesOf
  rw [List.mem_filter, List.mem_range, beq_iff_eq]
  exact ⟨fun h => h.2, fun h => ⟨(List.getElem?_eq_some_iff.mp h).1, h⟩⟩
theorem mem_cells {bs : List Bool} {b f : Nat} : (b, f) ∈ cellsN bs ↔ bs[b]? = some true ∧ bs[f]? = some false ∧ b < f := by
  unfold cellsN
  rw [List.mem_flatMap]
  constructor
  · rintro ⟨x, hx, m⟩
    obtain ⟨y, hy, e⟩ := List.mem_map.mp m
    cases e
    obtain ⟨h1, h2⟩ := List.mem_filter.mp hy
    exact ⟨mem_beads.mp hx, mem_frees.mp h1, of_decide_eq_true h2⟩
  · rintro ⟨h1, h2, h3⟩
    exact ⟨b, mem_beads.mpr h1, List.mem_map.mpr ⟨f, List.mem_filter.mpr ⟨mem_frees.mpr h2, decide_eq_true h3⟩, rfl⟩⟩
def ltN (a b : Nat × Nat) : Prop := a.1 < b.1 ∨ a.1 = b.1 ∧ a.2 < b.2
def ltP2 (a b : Int × Int) : Prop := a.1 < b.1 ∨ a.1 = b.1 ∧ a.2 < b.2
theorem range_lt (n : Nat) : (List.range n).Pairwise (· < ·) := List.pairwise_lt_range
theorem flat_lt (g : Nat → List Nat) : ∀ l : List Nat, l.Pairwise (· < ·) → (∀ b, (g b).Pairwise (· < ·)) → (l.flatMap fun b => (g b).map fun f => (b, f)).Pairwise ltN
  | [], _, _ => by simp
  | b :: l, h, hg => by
    obtain ⟨h1, h2⟩ := List.pairwise_cons.mp h
    rw [List.flatMap_cons, List.pairwise_append]
    refine ⟨List.pairwise_map.mpr ((hg b).imp fun h => .inr ⟨rfl, h⟩), flat_lt g l h2 hg, ?_⟩
    intro x hx y hy
    obtain ⟨f, _, rfl⟩ := List.mem_map.mp hx
    obtain ⟨b', hb', m⟩ := List.mem_flatMap.mp hy
    obtain ⟨f', _, rfl⟩ := List.mem_map.mp m
    exact .inl (h1 _ hb')
theorem cells_sorted (bs : List Bool) : (cellsN bs).Pairwise ltN :=
  flat_lt (fun b => (freesOf bs).filter fun f => decide (b < f)) _ ((range_lt _).filter _) fun b => ((range_lt _).filter _).filter _
theorem due_sorted (bs : List Bool) (ts : List I3) : (dueCells bs ts).Pairwise ltP2 := by
  unfold dueCells
  refine List.pairwise_map.mpr (((cells_sorted bs).filter _).imp fun h => ?_)
  rcases h with h | ⟨h1, h2⟩
  · exact .inl (show _ < _ by show ((_ : Nat) : Int) < ((_ : Nat) : Int); omega)
  · exact .inr ⟨by show ((_ : Nat) : Int) = ((_ : Nat) : Int); omega, by show ((_ : Nat) : Int) < ((_ : Nat) : Int); omega⟩
theorem last_mem {α : Type} {l : List α} {x : α} (h : l.getLast? = some x) : x ∈ l := List.mem_of_getLast? h
theorem head_mem {α : Type} {l : List α} {x : α} (h : l.head? = some x) : x ∈ l := List.mem_of_head? h
/-- of a heap: due is what has a sign -/
theorem due_iff {bs : List Bool} {S : List Nat} {R : List T3} (h : Heaped bs S R) {ts : List I3} (p : ts.Perm (R.map c3)) {b f : Nat} (hb : b ∈ S) (hf : f ∈ S) (l : b < f) (h1 : bs[b]? = some true) (h2 : bs[f]? = some false) : dueI ts (b, f) = true ↔ ∃ s, (b, f, s) ∈ R := by
  have mem : ∀ x y s, ((x, y, s) : I3) ∈ ts ↔ ∃ x' y' : Nat, x = x' ∧ y = y' ∧ (x', y', s) ∈ R := fun x y s => by
    rw [p.mem_iff, List.mem_map]
    constructor
    · rintro ⟨⟨x', y', s'⟩, m, e⟩
      cases e
      exact ⟨x', y', rfl, rfl, m⟩
    · rintro ⟨x', y', rfl, rfl, m⟩
      exact ⟨_, m, rfl⟩
  rw [signed_iff h hb hf l h1 h2]
  unfold dueI
  rw [Bool.and_eq_true, decide_eq_true_eq, decide_eq_true_eq]
  have a : ((nbI ts (f : Int)).getD (b : Int) ≤ (b : Int)) ↔ ∀ k, (k, f, true) ∈ R → k ≤ b := by
    unfold nbI
    cases e : (ts.filter fun e => decide (e.2.1 = (f : Int)) && e.2.2).getLast? with
    | none =>
      have em := List.getLast?_eq_none_iff.mp e
      refine ⟨fun _ k m => ?_, fun _ => Int.le_refl _⟩
      have : ((k : Int), (f : Int), true) ∈ ts.filter fun e => decide (e.2.1 = (f : Int)) && e.2.2 := List.mem_filter.mpr ⟨(mem _ _ _).mpr ⟨k, f, rfl, rfl, m⟩, by simp⟩
      rw [em] at this
      exact absurd this (by simp)
    | some x =>
      obtain ⟨m, q⟩ := List.mem_filter.mp (last_mem e)
      obtain ⟨x1, x2, x3⟩ := x
      have q1 : x2 = (f : Int) ∧ x3 = true := by simpa using q
      obtain ⟨rfl, rfl⟩ := q1
      obtain ⟨k0, f0, rfl, e2, m0⟩ := (mem _ _ _).mp m
      have : f0 = f := by omega
      subst this
      show ((k0 : Nat) : Int) ≤ (b : Int) ↔ _
      constructor
      · intro le k mk
        rw [one_o h mk m0]
        omega
      · intro q
        have := q _ m0
        omega
  have c : ((f : Int) ≤ (nfI ts (b : Int)).getD (f : Int)) ↔ ∀ k, (b, k, false) ∈ R → f ≤ k := by
    unfold nfI
    cases e : (ts.filter fun e => decide (e.1 = (b : Int)) && !e.2.2).head? with
    | none =>
      have em := List.head?_eq_none_iff.mp e
      refine ⟨fun _ k m => ?_, fun _ => Int.le_refl _⟩
      have : ((b : Int), (k : Int), false) ∈ ts.filter fun e => decide (e.1 = (b : Int)) && !e.2.2 := List.mem_filter.mpr ⟨(mem _ _ _).mpr ⟨b, k, rfl, rfl, m⟩, by simp⟩
      rw [em] at this
      exact absurd this (by simp)
    | some x =>
      obtain ⟨m, q⟩ := List.mem_filter.mp (head_mem e)
      obtain ⟨x1, x2, x3⟩ := x
      have q1 : x1 = (b : Int) ∧ x3 = false := by simpa using q
      obtain ⟨rfl, rfl⟩ := q1
      obtain ⟨b0, k0, e1, rfl, m0⟩ := (mem _ _ _).mp m
      have : b0 = b := by omega
      subst this
      show (f : Int) ≤ ((k0 : Nat) : Int) ↔ _
      constructor
      · intro le k mk
        rw [one_dot h mk m0]
        omega
      · intro q
        have := q _ m0
        omega
  rw [a, c]
/-- a heap, sorted, is what the program lets by -/
theorem heap_ok {bs : List Bool} {R : List T3} (h : Heaped bs (List.range bs.length) R) {ts : List I3} (p : ts.Perm (R.map c3)) (so : (ts.map pr3).Pairwise ltP2) : ts.map pr3 = dueCells bs ts := by
  refine same_sorted (lt := ltP2) (fun x h => ?_) (fun x y h1 h2 => ?_) so (due_sorted bs ts) fun ⟨x, y⟩ => ?_
  · unfold ltP2 at h; omega
  · unfold ltP2 at h1 h2; omega
  · unfold dueCells
    rw [List.mem_map, List.mem_map]
    constructor
    · rintro ⟨e, m, q⟩
      obtain ⟨⟨b, f, s⟩, mR, rfl⟩ := List.mem_map.mp (p.mem_iff.mp m)
      cases q
      obtain ⟨hb, hf, l, h1, h2⟩ := h.inn _ _ _ mR
      exact ⟨(b, f), List.mem_filter.mpr ⟨mem_cells.mpr ⟨h1, h2, l⟩, (due_iff h p hb hf l h1 h2).mpr ⟨s, mR⟩⟩, rfl⟩
    · rintro ⟨⟨b, f⟩, m, q⟩
      cases q
      obtain ⟨mc, md⟩ := List.mem_filter.mp m
      obtain ⟨h1, h2, l⟩ := mem_cells.mp mc
      obtain ⟨s, mR⟩ := (due_iff h p (List.mem_range.mpr (List.getElem?_eq_some_iff.mp h1).1) (List.mem_range.mpr (List.getElem?_eq_some_iff.mp h2).1) l h1 h2).mp md
      exact ⟨c3 (b, f, s), p.mem_iff.mpr (List.mem_map.mpr ⟨_, mR, rfl⟩), rfl⟩
/-- sorted by all three, no cell twice: sorted by cells -/
theorem pairs_lt {R : List T3} (nd : (R.map fun e => (e.1, e.2.1)).Nodup) {ts : List I3} (p : ts.Perm (R.map c3)) (so : ts.Pairwise fun x y => ¬ ltP2 (pr3 y) (pr3 x)) : (ts.map pr3).Pairwise ltP2 := by
  have nd2 : (ts.map pr3).Nodup := by
    rw [(p.map pr3).nodup_iff, List.map_map, show pr3 ∘ c3 = ci ∘ (fun e : T3 => (e.1, e.2.1)) from rfl, ← List.map_map]
    refine List.Pairwise.map _ ?_ nd
    rintro ⟨a, b⟩ ⟨a', b'⟩ ne e
    unfold ci at e
    injection e with e1 e2
    have e1 : (a : Int) = (a' : Int) := e1
    have e2 : (b : Int) = (b' : Int) := e2
    exact ne (by rw [Int.ofNat.inj e1, Int.ofNat.inj e2])
  have so2 : (ts.map pr3).Pairwise fun x y => ¬ ltP2 y x := List.pairwise_map.mpr so
  refine (List.Pairwise.and nd2 so2).imp ?_
  rintro ⟨a, b⟩ ⟨a', b'⟩ ⟨ne, n⟩
  unfold ltP2 at n ⊢
  have n' : ¬ (a' < a ∨ a' = a ∧ b' < b) := n
  show a < a' ∨ a = a' ∧ b < b'
  rcases Int.lt_trichotomy a a' with z | z | z
  · exact .inl z
  · subst z
    rcases Int.lt_trichotomy b b' with z | z | z
    · exact .inr ⟨rfl, z⟩
    · subst z; exact absurd rfl ne
    · exact absurd (.inr ⟨rfl, z⟩) n'
  · exact absurd (.inl z) n'
end HopH

set_option Elab.async false
set_option linter.all false
set_option maxRecDepth 100000
namespace HopW
/-! ### weights of words -/
/-- a line's numbers, each with g of its place -/
def lp (g : Nat → Rat) : List Nat → Rat
  | [] => 0
  | m :: l => (m : Rat) * g 0 + lp (fun b => g (b + 1)) l
def tp (x : Rat) (g : Nat → Rat) : List (List Nat) → Rat
  | [] => 0
  | l :: t => lp g l + x * tp x g t
def sfx : List Nat → List Nat
  | [] => []
  | m :: l => (m + l.sum) :: sfx l
def go (s : Nat) : List (List Nat) → List (List Nat)
  | [] => [[s]]
  | l :: t => (s :: sfx l.tail) :: go l.sum t
def sg (h : Nat → Rat) : Nat → Rat
  | 0 => 0
  | b + 1 => h 0 + sg (fun j => h (j + 1)) b
def fg (x : Rat) (g : Nat → Rat) : Nat → Rat := fun b => x * g 0 + sg (fun j => g (j + 1)) b
def stT (T : List (List Nat)) (b : Bool) : List (List Nat) := if b then T.map (0 :: ·) else go 0 T
def gf (x : Rat) : List Bool → (Nat → Rat) → (Nat → Rat)
  | [], g => g
  | true :: w, g => fun b => gf x w g (b + 1)
  | false :: w, g => fg x (gf x w g)
theorem cast_add (a b : Nat) : ((a + b : Nat) : Rat) = (a : Rat) + (b : Rat) := by exact_mod_cast rfl
theorem lp_lin (c : Rat) (h : Nat → Rat) : ∀ l : List Nat, lp (fun b => c + h b) l = c * (l.sum : Rat) + lp h l := by
  intro l
  induction l generalizing h with
  | nil => show (0 : Rat) = c * ((0 : Nat) : Rat) + 0; grind
  | cons m l ih =>
    show (m : Rat) * (c + h 0) + lp (fun b => c + h (b + 1)) l = c * ((m :: l).sum : Rat) + ((m : Rat) * h 0 + lp (fun b => h (b + 1)) l)
    rw [ih (fun b => h (b + 1)), List.sum_cons, cast_add]
    grind
theorem lp_sfx (h : Nat → Rat) (m : Nat) : ∀ l : List Nat, lp (sg h) (m :: l) = lp h (sfx l) := by
  intro l
  induction l generalizing h m with
  | nil => show (m : Rat) * 0 + 0 = 0; grind
  | cons m' l ih =>
    show (m : Rat) * 0 + lp (fun b => h 0 + sg (fun j => h (j + 1)) b) (m' :: l) = ((m' + l.sum : Nat) : Rat) * h 0 + lp (fun b => h (b + 1)) (sfx l)
    rw [lp_lin, ih, List.sum_cons]
    grind
theorem lp_fg (x : Rat) (g : Nat → Rat) (l : List Nat) : lp (fg x g) l = x * ((l.sum : Rat) * g 0) + lp (fun b => g (b + 1)) (sfx l.tail) := by
  unfold fg
  rw [lp_lin]
  cases l with
  | nil => show x * g 0 * ((0 : Nat) : Rat) + 0 = x * (((0 : Nat) : Rat) * g 0) + 0; grind
  | cons m l =>
    rw [lp_sfx, List.tail_cons]
    grind
theorem tp_go (x : Rat) (g : Nat → Rat) : ∀ (T : List (List Nat)) (s : Nat), tp x g (go s T) = (s : Rat) * g 0 + tp x (fg x g) T := by
  intro T
  induction T with
  | nil =>
    intro s
    show ((s : Rat) * g 0 + 0) + x * 0 = (s : Rat) * g 0 + 0
    grind
  | cons l t ih =>
    intro s
    show ((s : Rat) * g 0 + lp (fun b => g (b + 1)) (sfx l.tail)) + x * tp x g (go l.sum t) = (s : Rat) * g 0 + (lp (fg x g) l + x * tp x (fg x g) t)
    rw [ih, lp_fg]
    grind
theorem tp_bead (x : Rat) (g : Nat → Rat) : ∀ T : List (List Nat), tp x g (T.map (0 :: ·)) = tp x (fun b => g (b + 1)) T := by
  intro T
  induction T with
  | nil => rfl
  | cons l t ih =>
    show (((0 : Nat) : Rat) * g 0 + lp (fun b => g (b + 1)) l) + x * tp x g (t.map (0 :: ·)) = lp (fun b => g (b + 1)) l + x * tp x (fun b => g (b + 1)) t
    rw [ih]
    grind
theorem tp_st (x : Rat) (g : Nat → Rat) (T : List (List Nat)) (b : Bool) : tp x g (stT T b) = tp x (gf x [b] g) T := by
  cases b with
  | true => exact tp_bead x g T
  | false =>
    show tp x g (go 0 T) = tp x (fg x g) T
    rw [tp_go]
    show ((0 : Nat) : Rat) * g 0 + tp x (fg x g) T = _
    grind
theorem gf_app (x : Rat) (g : Nat → Rat) : ∀ u v : List Bool, gf x (u ++ v) g = gf x u (gf x v g)
  | [], _ => rfl
  | true :: u, v => by
    show (fun b => gf x (u ++ v) g (b + 1)) = fun b => gf x u (gf x v g) (b + 1)
    rw [gf_app x g u v]
  | false :: u, v => by
    show fg x (gf x (u ++ v) g) = fg x (gf x u (gf x v g))
    rw [gf_app x g u v]
theorem tp_fold (x : Rat) (g : Nat → Rat) : ∀ (w : List Bool) (T : List (List Nat)), tp x g (w.foldl stT T) = tp x (gf x w g) T := by
  intro w
  induction w with
  | nil => intro T; rfl
  | cons b w ih =>
    intro T
    show tp x g (w.foldl stT (stT T b)) = _
    rw [ih, tp_st]
    show tp x (gf x [b] (gf x w g)) T = _
    rw [← gf_app]
    rfl
def tbl (w : List Bool) : List (List Nat) := w.foldl stT [[1]]
/-- the weight of a word: x for each free place left, y for each bead -/
def wt (x y : Rat) (w : List Bool) : Rat := gf x w (fun b => y ^ b) 0
theorem wt_tbl (x y : Rat) (w : List Bool) : tp x (fun b => y ^ b) (tbl w) = wt x y w := by
  unfold tbl wt
  rw [tp_fold]
  show (((1 : Nat) : Rat) * gf x w (fun b => y ^ b) 0 + 0) + x * 0 = _
  grind
/-! ### what the weights keep -/
theorem sg_add (h k : Nat → Rat) : ∀ b, sg (fun j => h j + k j) b = sg h b + sg k b := by
  intro b
  induction b generalizing h k with
  | zero => show (0 : Rat) = 0 + 0; grind
  | succ b ih =>
    show h 0 + k 0 + sg (fun j => h (j + 1) + k (j + 1)) b = (h 0 + sg (fun j => h (j + 1)) b) + (k 0 + sg (fun j => k (j + 1)) b)
    rw [ih]
    grind
theorem sg_mul (c : Rat) (h : Nat → Rat) : ∀ b, sg (fun j => c * h j) b = c * sg h b := by
  intro b
  induction b generalizing h with
  | zero => show (0 : Rat) = c * 0; grind
  | succ b ih =>
    show c * h 0 + sg (fun j => c * h (j + 1)) b = c * (h 0 + sg (fun j => h (j + 1)) b)
    rw [ih]
    grind
theorem gf_add (x : Rat) (h k : Nat → Rat) : ∀ (w : List Bool) (b : Nat), gf x w (fun j => h j + k j) b = gf x w h b + gf x w k b := by
  intro w
  induction w with
  | nil => intro b; rfl
  | cons s w ih =>
    intro b
    cases s with
    | true => exact ih (b + 1)
    | false =>
      show x * gf x w (fun j => h j + k j) 0 + sg (fun j => gf x w (fun j => h j + k j) (j + 1)) b = (x * gf x w h 0 + sg (fun j => gf x w h (j + 1)) b) + (x * gf x w k 0 + sg (fun j => gf x w k (j + 1)) b)
      rw [ih 0, show (fun j => gf x w (fun j => h j + k j) (j + 1)) = fun j => gf x w h (j + 1) + gf x w k (j + 1) from funext fun j => ih (j + 1), sg_add]
      grind
theorem gf_mul (x c : Rat) (h : Nat → Rat) : ∀ (w : List Bool) (b : Nat), gf x w (fun j => c * h j) b = c * gf x w h b := by
  intro w
  induction w with
  | nil => intro b; rfl
  | cons s w ih =>
    intro b
    cases s with
    | true => exact ih (b + 1)
    | false =>
      show x * gf x w (fun j => c * h j) 0 + sg (fun j => gf x w (fun j => c * h j) (j + 1)) b = c * (x * gf x w h 0 + sg (fun j => gf x w h (j + 1)) b)
      rw [ih 0, show (fun j => gf x w (fun j => c * h j) (j + 1)) = fun j => c * gf x w h (j + 1) from funext fun j => ih (j + 1), sg_mul]
      grind
theorem sg_last (h : Nat → Rat) : ∀ b, sg h (b + 1) = sg h b + h b := by
  intro b
  induction b generalizing h with
  | zero => show h 0 + 0 = 0 + h 0; grind
  | succ b ih =>
    show h 0 + sg (fun j => h (j + 1)) (b + 1) = (h 0 + sg (fun j => h (j + 1)) b) + h (b + 1)
    rw [ih]
    grind
/-- a bead that comes out is gone, or the free place is -/
theorem wt_of (x y : Rat) (u v : List Bool) : wt x y (u ++ true :: false :: v) = wt x y (u ++ true :: v) + wt x y (u ++ false :: v) := by
  unfold wt
  rw [gf_app, gf_app, gf_app, ← gf_add]
  congr 1
  funext b
  show x * gf x v (fun b => y ^ b) 0 + sg (fun j => gf x v (fun b => y ^ b) (j + 1)) (b + 1) = gf x v (fun b => y ^ b) (b + 1) + (x * gf x v (fun b => y ^ b) 0 + sg (fun j => gf x v (fun b => y ^ b) (j + 1)) b)
  rw [sg_last]
  grind
theorem wt_free (x y : Rat) (v : List Bool) : wt x y (false :: v) = x * wt x y v := by
  show x * gf x v (fun b => y ^ b) 0 + 0 = x * gf x v (fun b => y ^ b) 0
  grind
theorem wt_bead (x y : Rat) (v : List Bool) : wt x y (v ++ [true]) = y * wt x y v := by
  unfold wt
  rw [gf_app, ← gf_mul]
  congr 1
  funext b
  show y ^ (b + 1) = y * y ^ b
  rw [Rat.pow_succ, Rat.mul_comm]
theorem sg_pow {x y : Rat} (h : x * y = x + y) : ∀ b, x + sg (fun j => y ^ (j + 1)) b = x * y ^ b := by
  intro b
  induction b with
  | zero => show x + 0 = x * y ^ 0; rw [Rat.pow_zero]; grind
  | succ b ih =>
    rw [sg_last, Rat.pow_succ]
    have e : x * (y ^ b * y) = y ^ b * (x * y) := by grind
    rw [e, h]
    grind
theorem gf_one {x y : Rat} (h : x * y = x + y) : ∀ (w : List Bool) (b : Nat), gf x w (fun b => y ^ b) b = x ^ (w.count false) * y ^ (w.count true) * y ^ b := by
  intro w
  induction w with
  | nil => intro b; show y ^ b = x ^ 0 * y ^ 0 * y ^ b; rw [Rat.pow_zero, Rat.pow_zero]; grind
  | cons s w ih =>
    intro b
    cases s with
    | true =>
      show gf x w (fun b => y ^ b) (b + 1) = _
      rw [ih, List.count_cons_of_ne (by decide), List.count_cons_self, Rat.pow_succ, Rat.pow_succ]
      grind
    | false =>
      show x * gf x w (fun b => y ^ b) 0 + sg (fun j => gf x w (fun b => y ^ b) (j + 1)) b = _
      rw [ih, show (fun j => gf x w (fun b => y ^ b) (j + 1)) = fun j => (x ^ (w.count false) * y ^ (w.count true)) * y ^ (j + 1) from funext fun j => ih (j + 1), sg_mul, List.count_cons_self, List.count_cons_of_ne (by decide), Rat.pow_succ, Rat.pow_zero]
      have e := sg_pow h b
      grind
theorem wt_one {x y : Rat} (h : x * y = x + y) (w : List Bool) : wt x y w = x ^ (w.count false) * y ^ (w.count true) := by
  unfold wt
  rw [gf_one h, Rat.pow_zero]
  grind
/-! ### all heaps counted -/
def sn (h : Nat → Nat) : Nat → Nat
  | 0 => 0
  | b + 1 => h 0 + sn (fun j => h (j + 1)) b
def gn : List Bool → Nat → Nat
  | [], _ => 1
  | true :: w, b => gn w (b + 1)
  | false :: w, b => sn (gn w) (b + 1)
theorem sn_sg (h : Nat → Nat) : ∀ b, ((sn h b : Nat) : Rat) = sg (fun j => (h j : Rat)) b := by
  intro b
  induction b generalizing h with
  | zero => rfl
  | succ b ih =>
    show ((h 0 + sn (fun j => h (j + 1)) b : Nat) : Rat) = (h 0 : Rat) + sg (fun j => (h (j + 1) : Rat)) b
    rw [cast_add, ih]
theorem gn_gf : ∀ (w : List Bool) (b : Nat), ((gn w b : Nat) : Rat) = gf 1 w (fun b => 1 ^ b) b := by
  intro w
  induction w with
  | nil =>
    intro b
    show ((1 : Nat) : Rat) = 1 ^ b
    induction b with
    | zero => rfl
    | succ b ih => rw [Rat.pow_succ, ← ih, Rat.mul_one]
  | cons s w ih =>
    intro b
    cases s with
    | true => exact ih (b + 1)
    | false =>
      show ((sn (gn w) (b + 1) : Nat) : Rat) = 1 * gf 1 w (fun b => 1 ^ b) 0 + sg (fun j => gf 1 w (fun b => 1 ^ b) (j + 1)) b
      rw [sn_sg]
      show (gn w 0 : Rat) + sg (fun j => (gn w (j + 1) : Rat)) b = _
      rw [ih 0, show (fun j => (gn w (j + 1) : Rat)) = fun j => gf 1 w (fun b => 1 ^ b) (j + 1) from funext fun j => ih (j + 1)]
      grind
theorem gn_wt (w : List Bool) : ((gn w 0 : Nat) : Rat) = wt 1 1 w := gn_gf w 0
end HopW

set_option Elab.async false
set_option linter.all false
set_option maxRecDepth 100000
namespace HopW
open L2
/-! ### a dict that counts -/
section
variable {α κ : Type} [DecidableEq α] [DecidableEq κ]
def zv (ι : α → κ) (l : List (α × Int)) : List (κ × V) := l.map fun p => (ι p.1, .int p.2)
def gz (k : α) : List (α × Int) → Int
  | [] => 0
  | (j, v) :: l => if j = k then v else gz k l
def pz (k : α) (c : Int) : List (α × Int) → List (α × Int)
  | [] => [(k, c)]
  | (j, v) :: l => if j = k then (j, v + c) :: l else (j, v) :: pz k c l
def ds (φ : α → Rat) : List (α × Int) → Rat
  | [] => 0
  | (j, v) :: l => (v : Rat) * φ j + ds φ l
/-- the keys are told once each -/
def Once (l : List (α × Int)) : Prop := (l.map (·.1)).Nodup
theorem val_zv {ι : α → κ} (inj : ∀ a b, ι a = ι b → a = b) (k : α) : ∀ l : List (α × Int), (valV (zv ι l) (ι k)).getD (.int 0) = .int (gz k l)
  | [] => rfl
  | (j, v) :: l => by
    show (valV ((ι j, V.int v) :: zv ι l) (ι k)).getD (.int 0) = .int (if j = k then v else gz k l)
    by_cases e : j = k
    · rw [if_pos e, valV_pos (by rw [e])]; rfl
    · rw [if_neg e, valV_neg (fun z => e (inj _ _ z))]
      exact val_zv inj k l
theorem val_in {ι : α → κ} (inj : ∀ a b, ι a = ι b → a = b) {k : α} : ∀ {l : List (α × Int)} {i : Nat} {c : Int}, Once l → l[i]? = some (k, c) → valV (zv ι l) (ι k) = some (.int c)
  | (j, v) :: l, 0, c, _, h => by
    obtain ⟨rfl, rfl⟩ := Prod.mk.inj (Option.some.inj h)
    exact valV_pos rfl
  | (j, v) :: l, i + 1, c, o, h => by
    have o' : (j :: l.map (·.1)).Nodup := o
    have h' : l[i]? = some (k, c) := h
    obtain ⟨n1, n2⟩ := List.nodup_cons.mp o'
    have m : k ∈ l.map (·.1) := List.mem_map.mpr ⟨(k, c), List.mem_of_getElem? h', rfl⟩
    refine (valV_neg (fun z => n1 ?_)).trans (val_in inj (i := i) n2 h')
    rw [inj _ _ (show ι j = ι k from z)]; exact m
theorem no_key {ι : α → κ} (inj : ∀ a b, ι a = ι b → a = b) {k : α} : ∀ {l : List (α × Int)}, k ∉ l.map (·.1) → valV (zv ι l) (ι k) = none ∧ ∀ x, (zv ι l).map (fun kv => if kv.1 = ι k then (kv.1, x) else kv) = zv ι l
  | [], _ => ⟨rfl, fun _ => rfl⟩
  | (j, v) :: l, h => by
    have h' : k ∉ j :: l.map (·.1) := h
    have n1 : ¬ ι j = ι k := fun z => h' (by rw [inj _ _ z]; exact List.mem_cons_self ..)
    obtain ⟨a, b⟩ := no_key inj (l := l) (fun m => h' (List.mem_cons_of_mem _ m))
    refine ⟨(valV_neg n1).trans a, fun x => ?_⟩
    show (if ι j = ι k then (ι j, x) else (ι j, V.int v)) :: (zv ι l).map _ = (ι j, V.int v) :: zv ι l
    rw [if_neg n1, b x]
theorem any_zv {ι : α → κ} (k : α) (l : List (α × Int)) : ((zv ι l).any fun kv => decide (kv.1 = ι k)) = (valV (zv ι l) (ι k)).isSome := valV_any (ι k) _
theorem put_zv {ι : α → κ} (inj : ∀ a b, ι a = ι b → a = b) (k : α) (c : Int) : ∀ {l : List (α × Int)}, Once l → putK (zv ι l) (ι k) (.int (gz k l + c)) = zv ι (pz k c l)
  | [], _ => by
    rw [putK_new _ (show valV (zv ι ([] : List (α × Int))) (ι k) = none from rfl)]
    show [(ι k, V.int (0 + c))] = [(ι k, V.int c)]
    rw [Int.zero_add]
  | (j, v) :: l, o => by
    have o' : (j :: l.map (·.1)).Nodup := o
    obtain ⟨n1, n2⟩ := List.nodup_cons.mp o'
    by_cases e : j = k
    · subst e
      show putK ((ι j, V.int v) :: zv ι l) (ι j) (.int ((if j = j then v else gz j l) + c)) = zv ι (if j = j then (j, v + c) :: l else _)
      rw [if_pos rfl, if_pos rfl]
      have q := (no_key inj n1).2 (.int (v + c))
      unfold putK
      rw [if_pos (by simp)]
      show (if ι j = ι j then (ι j, V.int (v + c)) else _) :: (zv ι l).map _ = (ι j, V.int (v + c)) :: zv ι l
      rw [if_pos rfl, q]
    · have n3 : ¬ ι j = ι k := fun z => e (inj _ _ z)
      have ih := put_zv inj k c n2
      show putK ((ι j, V.int v) :: zv ι l) (ι k) (.int ((if j = k then v else gz k l) + c)) = zv ι (if j = k then _ else (j, v) :: pz k c l)
      rw [if_neg e, if_neg e]
      show _ = (ι j, V.int v) :: zv ι (pz k c l)
      rw [← ih]
      generalize V.int (gz k l + c) = x
      unfold putK
      rw [List.any_cons, show decide ((ι j, V.int v).1 = ι k) = false from decide_eq_false n3, Bool.false_or, List.map_cons, if_neg n3]
      by_cases t : ((zv ι l).any fun kv => decide (kv.1 = ι k)) = true
      · rw [if_pos t, if_pos t]
      · rw [if_neg t, if_neg t]; rfl
theorem ds_pz (φ : α → Rat) (k : α) (c : Int) : ∀ l : List (α × Int), ds φ (pz k c l) = ds φ l + (c : Rat) * φ k
  | [] => by show (c : Rat) * φ k + 0 = 0 + (c : Rat) * φ k; grind
  | (j, v) :: l => by
    unfold pz
    split
    · rename_i e; subst e
      show ((v + c : Int) : Rat) * φ j + ds φ l = (v : Rat) * φ j + ds φ l + (c : Rat) * φ j
      rw [Rat.intCast_add]; grind
    · show (v : Rat) * φ j + ds φ (pz k c l) = (v : Rat) * φ j + ds φ l + (c : Rat) * φ k
      rw [ds_pz φ k c l]; grind
theorem keys_pz {k x : α} {c : Int} : ∀ {l : List (α × Int)}, x ∈ (pz k c l).map (·.1) → x = k ∨ x ∈ l.map (·.1)
  | [], h => .inl (by simpa [pz] using h)
  | (j, v) :: l, h => by
    unfold pz at h
    split at h
    · exact .inr h
    · rcases List.mem_cons.mp h with e | m
      · exact .inr (by rw [e]; exact List.mem_cons_self ..)
      · rcases keys_pz m with e | m
        · exact .inl e
        · exact .inr (List.mem_cons_of_mem _ m)
theorem once_pz {k : α} {c : Int} : ∀ {l : List (α × Int)}, Once l → Once (pz k c l)
  | [], _ => by simp [Once, pz]
  | (j, v) :: l, o => by
    have o' : (j :: l.map (·.1)).Nodup := o
    obtain ⟨n1, n2⟩ := List.nodup_cons.mp o'
    unfold pz
    split
    · exact o
    · rename_i e
      exact List.nodup_cons.mpr ⟨fun m => (keys_pz m).elim e n1, once_pz n2⟩
theorem len_pz (k : α) (c : Int) : ∀ l : List (α × Int), (pz k c l).length ≤ l.length + 1
  | [] => Nat.le_refl _
  | (j, v) :: l => by
    unfold pz
    split
    · exact Nat.le_succ _
    · exact Nat.succ_le_succ (len_pz k c l)
theorem ds_app (φ : α → Rat) : ∀ l m : List (α × Int), ds φ (l ++ m) = ds φ l + ds φ m
  | [], m => by show ds φ m = 0 + ds φ m; grind
  | (j, v) :: l, m => by show (v : Rat) * φ j + ds φ (l ++ m) = (v : Rat) * φ j + ds φ l + ds φ m; rw [ds_app φ l m]; grind
theorem ds_take {φ : α → Rat} {l : List (α × Int)} {i : Nat} {k : α} {c : Int} (h : l[i]? = some (k, c)) : ds φ (l.take (i + 1)) = ds φ (l.take i) + (c : Rat) * φ k := by
  rw [List.take_succ, h, ds_app]
  show ds φ (l.take i) + ((c : Rat) * φ k + 0) = _
  grind
end
/-! ### a word without a bead before a free place -/
theorem wt_rest (x y : Rat) (f b : Nat) : wt x y (List.replicate f false ++ List.replicate b true) = x ^ f * y ^ b := by
  induction f with
  | zero =>
    induction b with
    | zero => simp [wt, gf]
    | succ b ih =>
      rw [List.replicate_succ', ← List.append_assoc, wt_bead, ih]
      grind
  | succ f ih =>
    rw [List.replicate_succ, List.cons_append, wt_free, ih]
    grind
end HopW

set_option Elab.async false
set_option linter.all false
set_option maxRecDepth 100000
namespace HopW
open L2
theorem all_pz {α : Type} [DecidableEq α] {R : α → Prop} {k : α} {c : Int} (hk : R k) (hc : 0 ≤ c) : ∀ {l : List (α × Int)}, (∀ p ∈ l, R p.1 ∧ 0 ≤ p.2) → ∀ p ∈ pz k c l, R p.1 ∧ 0 ≤ p.2
  | [], _, p, m => by
    obtain rfl := List.mem_singleton.mp m
    exact ⟨hk, hc⟩
  | (j, v) :: l, h, p, m => by
    have h0 := h _ (List.mem_cons_self ..)
    have h1 : ∀ p ∈ l, R p.1 ∧ 0 ≤ p.2 := fun p m => h p (List.mem_cons_of_mem _ m)
    unfold pz at m
    split at m
    · rcases List.mem_cons.mp m with rfl | m
      · exact ⟨h0.1, Int.add_nonneg h0.2 hc⟩
      · exact h1 p m
    · rcases List.mem_cons.mp m with rfl | m
      · exact h0
      · exact all_pz hk hc h1 p m
/-- what a dict of words, or of ends, keeps -/
structure Tl {α : Type} (R : α → Prop) (M : Nat) (l : List (α × Int)) : Prop where
  o : (l.map (·.1)).Nodup
  a : ∀ p ∈ l, R p.1 ∧ 0 ≤ p.2
  n : l.length ≤ M
theorem Tl.nil {α : Type} {R : α → Prop} {M : Nat} : Tl R M ([] : List (α × Int)) := ⟨List.nodup_nil, by simp, Nat.zero_le _⟩
theorem Tl.put {α : Type} [DecidableEq α] {R : α → Prop} {M : Nat} {l : List (α × Int)} {k : α} {c : Int} (t : Tl R M l) (hk : R k) (hc : 0 ≤ c) : Tl R (M + 1) (pz k c l) :=
  ⟨once_pz t.o, all_pz hk hc t.a, Nat.le_trans (len_pz k c l) (Nat.succ_le_succ t.n)⟩
theorem Tl.up {α : Type} {R : α → Prop} {M N : Nat} {l : List (α × Int)} (t : Tl R M l) (h : M ≤ N) : Tl R N l := ⟨t.o, t.a, Nat.le_trans t.n h⟩
theorem Tl.at {α : Type} {R : α → Prop} {M : Nat} {l : List (α × Int)} (t : Tl R M l) {i : Nat} {k : α} {c : Int} (h : l[i]? = some (k, c)) : R k ∧ 0 ≤ c := t.a _ (List.mem_of_getElem? h)
/-- one turn over a word: an end is told -/
theorem ds_end {x y : Rat} {f b : Nat} {c : Int} {T : List (List Bool × Int)} {i : Nat} (h : T[i]? = some (List.replicate f false ++ List.replicate b true, c)) (G : List ((Nat × Nat) × Int)) {Z : Rat} {L : List (List Bool × Int)}
    (e : ds (wt x y) L + ds (fun e => x ^ e.1 * y ^ e.2) G = ds (wt x y) (T.take i) + Z) : ds (wt x y) L + ds (fun e => x ^ e.1 * y ^ e.2) (pz (f, b) c G) = ds (wt x y) (T.take (i + 1)) + Z := by
  rw [ds_pz, ds_take h, wt_rest]
  show _ + (_ + (c : Rat) * (x ^ f * y ^ b)) = _
  grind
/-- two shorter words are told -/
theorem ds_two {x y : Rat} {u v : List Bool} {c : Int} {T : List (List Bool × Int)} {i : Nat} (h : T[i]? = some (u ++ true :: false :: v, c)) {Z g : Rat} {L : List (List Bool × Int)}
    (e : ds (wt x y) L + g = ds (wt x y) (T.take i) + Z) : ds (wt x y) (pz (u ++ false :: v) c (pz (u ++ true :: v) c L)) + g = ds (wt x y) (T.take (i + 1)) + Z := by
  rw [ds_pz, ds_pz, ds_take h, wt_of]
  grind
end HopW

set_option Elab.async false
set_option linter.all false
set_option maxRecDepth 100000
namespace HopW
open L2
/-! ### ends, weighed by any function of both their numbers -/
def stF (F : Nat → Nat → Rat) : Nat → Nat → Rat := fun a b => F (a + 1) 0 + sg (fun j => F a (j + 1)) b
def gF : List Bool → (Nat → Nat → Rat) → (Nat → Nat → Rat)
  | [], F => F
  | true :: w, F => fun a b => gF w F a (b + 1)
  | false :: w, F => stF (gF w F)
def tF (F : Nat → Nat → Rat) : List (List Nat) → Rat
  | [] => 0
  | l :: t => lp (F 0) l + tF (fun a => F (a + 1)) t
theorem lp_stF (F : Nat → Nat → Rat) (l : List Nat) : lp (stF F 0) l = (l.sum : Rat) * F 1 0 + lp (fun b => F 0 (b + 1)) (sfx l.tail) := by
  show lp (fun b => F 1 0 + sg (fun j => F 0 (j + 1)) b) l = _
  rw [lp_lin]
  cases l with
  | nil => show F 1 0 * ((0 : Nat) : Rat) + 0 = ((0 : Nat) : Rat) * F 1 0 + 0; grind
  | cons m l =>
    rw [lp_sfx, List.tail_cons]
    grind
theorem tF_go : ∀ (T : List (List Nat)) (F : Nat → Nat → Rat) (s : Nat), tF F (go s T) = (s : Rat) * F 0 0 + tF (stF F) T := by
  intro T
  induction T with
  | nil =>
    intro F s
    show ((s : Rat) * F 0 0 + 0) + 0 = (s : Rat) * F 0 0 + 0
    grind
  | cons l t ih =>
    intro F s
    show ((s : Rat) * F 0 0 + lp (fun b => F 0 (b + 1)) (sfx l.tail)) + tF (fun a => F (a + 1)) (go l.sum t) = (s : Rat) * F 0 0 + (lp (stF F 0) l + tF (fun a => stF F (a + 1)) t)
    rw [ih, lp_stF]
    show _ + ((l.sum : Rat) * F 1 0 + tF (stF (fun a => F (a + 1))) t) = _
    have e : (fun a => stF F (a + 1)) = stF (fun a => F (a + 1)) := rfl
    rw [e]
    grind
theorem tF_bead : ∀ (T : List (List Nat)) (F : Nat → Nat → Rat), tF F (T.map (0 :: ·)) = tF (fun a b => F a (b + 1)) T := by
  intro T
  induction T with
  | nil => intro F; rfl
  | cons l t ih =>
    intro F
    show (((0 : Nat) : Rat) * F 0 0 + lp (fun b => F 0 (b + 1)) l) + tF (fun a => F (a + 1)) (t.map (0 :: ·)) = lp (fun b => F 0 (b + 1)) l + tF (fun a b => F (a + 1) (b + 1)) t
    rw [ih]
    grind
theorem tF_st (F : Nat → Nat → Rat) (T : List (List Nat)) (b : Bool) : tF F (stT T b) = tF (gF [b] F) T := by
  cases b with
  | true => exact tF_bead T F
  | false =>
    show tF F (go 0 T) = tF (stF F) T
    rw [tF_go]
    show ((0 : Nat) : Rat) * F 0 0 + tF (stF F) T = _
    grind
theorem gF_app (F : Nat → Nat → Rat) : ∀ u v : List Bool, gF (u ++ v) F = gF u (gF v F)
  | [], _ => rfl
  | true :: u, v => by
    show (fun a b => gF (u ++ v) F a (b + 1)) = fun a b => gF u (gF v F) a (b + 1)
    rw [gF_app F u v]
  | false :: u, v => by
    show stF (gF (u ++ v) F) = stF (gF u (gF v F))
    rw [gF_app F u v]
theorem tF_fold (F : Nat → Nat → Rat) : ∀ (w : List Bool) (T : List (List Nat)), tF F (w.foldl stT T) = tF (gF w F) T := by
  intro w
  induction w with
  | nil => intro T; rfl
  | cons b w ih =>
    intro T
    show tF F (w.foldl stT (stT T b)) = _
    rw [ih, tF_st]
    show tF (gF [b] (gF w F)) T = _
    rw [← gF_app]
    rfl
def wF (F : Nat → Nat → Rat) (w : List Bool) : Rat := gF w F 0 0
theorem wF_tbl (F : Nat → Nat → Rat) (w : List Bool) : tF F (tbl w) = wF F w := by
  unfold tbl wF
  rw [tF_fold]
  show (((1 : Nat) : Rat) * gF w F 0 0 + 0) + 0 = _
  grind
theorem gF_add (F G : Nat → Nat → Rat) : ∀ (w : List Bool) (a b : Nat), gF w (fun i j => F i j + G i j) a b = gF w F a b + gF w G a b := by
  intro w
  induction w with
  | nil => intro a b; rfl
  | cons s w ih =>
    intro a b
    cases s with
    | true => exact ih a (b + 1)
    | false =>
      show gF w (fun i j => F i j + G i j) (a + 1) 0 + sg (fun j => gF w (fun i j => F i j + G i j) a (j + 1)) b = (gF w F (a + 1) 0 + sg (fun j => gF w F a (j + 1)) b) + (gF w G (a + 1) 0 + sg (fun j => gF w G a (j + 1)) b)
      rw [ih (a + 1) 0, show (fun j => gF w (fun i j => F i j + G i j) a (j + 1)) = fun j => gF w F a (j + 1) + gF w G a (j + 1) from funext fun j => ih a (j + 1), sg_add]
      grind
/-- a bead that comes out is gone, or the free place is -/
theorem wF_of (F : Nat → Nat → Rat) (u v : List Bool) : wF F (u ++ true :: false :: v) = wF F (u ++ true :: v) + wF F (u ++ false :: v) := by
  unfold wF
  rw [gF_app, gF_app, gF_app, ← gF_add]
  congr 1
  funext a b
  show gF v F (a + 1) 0 + sg (fun j => gF v F a (j + 1)) (b + 1) = gF v F a (b + 1) + (gF v F (a + 1) 0 + sg (fun j => gF v F a (j + 1)) b)
  rw [sg_last]
  grind
theorem gF_up (F : Nat → Nat → Rat) : ∀ (w : List Bool) (a b : Nat), gF w F (a + 1) b = gF w (fun i => F (i + 1)) a b := by
  intro w
  induction w with
  | nil => intro a b; rfl
  | cons s w ih =>
    intro a b
    cases s with
    | true => exact ih a (b + 1)
    | false =>
      show gF w F (a + 1 + 1) 0 + sg (fun j => gF w F (a + 1) (j + 1)) b = gF w (fun i => F (i + 1)) (a + 1) 0 + sg (fun j => gF w (fun i => F (i + 1)) a (j + 1)) b
      rw [ih (a + 1) 0, show (fun j => gF w F (a + 1) (j + 1)) = fun j => gF w (fun i => F (i + 1)) a (j + 1) from funext fun j => ih a (j + 1)]
theorem wF_free (F : Nat → Nat → Rat) (v : List Bool) : wF F (false :: v) = wF (fun i => F (i + 1)) v := by
  show gF v F 1 0 + 0 = gF v (fun i => F (i + 1)) 0 0
  rw [gF_up]
  grind
theorem wF_bead (F : Nat → Nat → Rat) (v : List Bool) : wF F (v ++ [true]) = wF (fun i j => F i (j + 1)) v := by
  unfold wF
  rw [gF_app]
  rfl
theorem wF_rest (F : Nat → Nat → Rat) (f b : Nat) : wF F (List.replicate f false ++ List.replicate b true) = F f b := by
  induction f generalizing F with
  | zero =>
    induction b generalizing F with
    | zero => rfl
    | succ b ih => rw [List.replicate_succ', ← List.append_assoc, wF_bead, ih]
  | succ f ih => rw [List.replicate_succ, List.cons_append, wF_free, ih]
theorem wF_frees (F : Nat → Nat → Rat) (v : List Bool) : ∀ k : Nat, wF F (List.replicate k false ++ v) = wF (fun i j => F (i + k) j) v := by
  intro k
  induction k generalizing F with
  | zero => rfl
  | succ k ih =>
    rw [List.replicate_succ, List.cons_append, wF_free, ih]
    congr 1
theorem wF_beads (F : Nat → Nat → Rat) (v : List Bool) : ∀ k : Nat, wF F (v ++ List.replicate k true) = wF (fun i j => F i (j + k)) v := by
  intro k
  induction k generalizing F with
  | zero => rw [List.replicate_zero, List.append_nil]; rfl
  | succ k ih =>
    rw [List.replicate_succ', ← List.append_assoc, wF_bead, ih]
    congr 1
/-- not too many ends -/
theorem two_add (m : Nat) : ∀ n : Nat, (2 : Rat) ^ (m + n) = 2 ^ m * 2 ^ n
  | 0 => by rw [Nat.add_zero, Rat.pow_zero, Rat.mul_one]
  | n + 1 => by rw [← Nat.add_assoc, Rat.pow_succ, Rat.pow_succ, two_add m n, Rat.mul_assoc]
theorem sg_two (c : Rat) (h : Nat → Rat) (hc : 0 ≤ c) : ∀ b : Nat, (∀ j, h j ≤ c * 2 ^ (j + 1)) → sg h b + c ≤ c * 2 ^ (b + 1) := by
  intro b
  induction b with
  | zero => intro _; show 0 + c ≤ c * 2 ^ 1; grind
  | succ b ih =>
    intro hh
    have h1 := ih hh
    have h2 := hh b
    rw [sg_last, Rat.pow_succ (n := b + 1)]
    grind
theorem gF_one : ∀ (w : List Bool) (a b : Nat), gF w (fun _ _ => 1) a b ≤ 2 ^ (w.length + b) := by
  intro w
  induction w with
  | nil =>
    intro a b
    show (1 : Rat) ≤ 2 ^ (0 + b)
    rw [Nat.zero_add]
    induction b with
    | zero => rw [Rat.pow_zero]; grind
    | succ b ih => rw [Rat.pow_succ]; grind
  | cons s w ih =>
    intro a b
    cases s with
    | true =>
      have := ih a (b + 1)
      show gF w (fun _ _ => 1) a (b + 1) ≤ 2 ^ (w.length + 1 + b)
      rw [show w.length + 1 + b = w.length + (b + 1) by omega]
      exact this
    | false =>
      have h0 := ih (a + 1) 0
      have p0 : (0 : Rat) ≤ 2 ^ w.length := Rat.le_of_lt (Rat.pow_pos (by decide))
      have h1 := sg_two (2 ^ w.length) (fun j => gF w (fun _ _ => 1) a (j + 1)) p0 b (fun j => by
        rw [← two_add]
        exact ih a (j + 1))
      rw [← two_add] at h1
      show gF w (fun _ _ => 1) (a + 1) 0 + sg (fun j => gF w (fun _ _ => 1) a (j + 1)) b ≤ 2 ^ (w.length + 1 + b)
      rw [show w.length + 1 + b = w.length + (b + 1) by omega]
      rw [Nat.add_zero] at h0
      grind
theorem wF_one (w : List Bool) : wF (fun _ _ => 1) w ≤ 2 ^ w.length := gF_one w 0 0
end HopW

set_option Elab.async false
set_option linter.all false
set_option maxRecDepth 100000
namespace HopW
/-! ### lists of ends: the ends of a table, sorted, and alone so -/
abbrev En := (Nat × Nat) × Int
def lt2 (p q : Nat × Nat) : Prop := p.1 < q.1 ∨ p.1 = q.1 ∧ p.2 < q.2
def Sd (l : List En) : Prop := l.Pairwise (fun a b => lt2 a.1 b.1) ∧ ∀ e ∈ l, 0 < e.2
theorem lt2_irr (p : Nat × Nat) : ¬ lt2 p p := by unfold lt2; omega
theorem lt2_tri (p q : Nat × Nat) : lt2 p q ∨ p = q ∨ lt2 q p := by
  obtain ⟨a, b⟩ := p
  obtain ⟨c, d⟩ := q
  unfold lt2
  simp only [Prod.mk.injEq]
  omega
theorem Sd.tail {e : En} {l : List En} (h : Sd (e :: l)) : Sd l := ⟨(List.pairwise_cons.mp h.1).2, fun x m => h.2 x (List.mem_cons_of_mem _ m)⟩
theorem Sd.head {e : En} {l : List En} (h : Sd (e :: l)) : 0 < e.2 ∧ ∀ x ∈ l, lt2 e.1 x.1 := ⟨h.2 e (List.mem_cons_self ..), (List.pairwise_cons.mp h.1).1⟩
def at1 (k : Nat × Nat) : Nat × Nat → Rat := fun e => if e = k then 1 else 0
theorem ds_off {k : Nat × Nat} : ∀ {l : List En}, (∀ x ∈ l, x.1 ≠ k) → ds (at1 k) l = 0
  | [], _ => rfl
  | (j, v) :: l, h => by
    show (v : Rat) * at1 k j + ds (at1 k) l = 0
    rw [ds_off (l := l) (fun x m => h x (List.mem_cons_of_mem _ m)), show at1 k j = 0 from if_neg (h (j, v) (List.mem_cons_self ..))]
    grind
theorem ds_head {e : En} {l : List En} (h : Sd (e :: l)) : ds (at1 e.1) (e :: l) = (e.2 : Rat) := by
  show (e.2 : Rat) * at1 e.1 e.1 + ds (at1 e.1) l = _
  rw [ds_off (l := l) (fun x m z => lt2_irr _ (by have := h.head.2 x m; rw [z] at this; exact this)), show at1 e.1 e.1 = 1 from if_pos rfl]
  grind
theorem ds_less {k : Nat × Nat} {e : En} {l : List En} (h : Sd (e :: l)) (hk : lt2 k e.1) : ds (at1 k) (e :: l) = 0 := ds_off fun x m z => by
  rcases List.mem_cons.mp m with rfl | m
  · rw [z] at hk; exact lt2_irr _ hk
  · have h2 := h.head.2 x m
    rw [z] at h2
    unfold lt2 at hk h2
    omega
theorem pos_cast {c : Int} (h : 0 < c) : ((c : Int) : Rat) ≠ 0 := fun e => by
  have := Rat.intCast_eq_zero_iff.mp e
  omega
/-- two such lists that weigh alike are the same -/
theorem sd_same : ∀ {l m : List En}, Sd l → Sd m → (∀ φ : Nat × Nat → Rat, ds φ l = ds φ m) → l = m
  | [], [], _, _, _ => rfl
  | [], e :: m, _, h, w => by
    have := w (at1 e.1)
    rw [ds_head h] at this
    exact absurd this.symm (pos_cast h.head.1)
  | e :: l, [], h, _, w => by
    have := w (at1 e.1)
    rw [ds_head h] at this
    exact absurd this (pos_cast h.head.1)
  | e :: l, e' :: m, h, h', w => by
    rcases lt2_tri e.1 e'.1 with c | c | c
    · have := w (at1 e.1)
      rw [ds_head h, ds_less h' c] at this
      exact absurd this (pos_cast h.head.1)
    · have w1 := w (at1 e.1)
      rw [ds_head h, c, ds_head h'] at w1
      have c2 : e.2 = e'.2 := Rat.intCast_inj.mp w1
      have ee : e = e' := Prod.ext c c2
      subst ee
      congr 1
      refine sd_same h.tail h'.tail fun φ => ?_
      have := w φ
      have this : (e.2 : Rat) * φ e.1 + ds φ l = (e.2 : Rat) * φ e.1 + ds φ m := this
      grind
    · have := w (at1 e'.1)
      rw [ds_head h', ds_less h c] at this
      exact absurd this.symm (pos_cast h'.head.1)
/-! ### the ends of a table -/
def enL (f b : Nat) : List Nat → List En
  | [] => []
  | m :: l => (if 0 < m then [((f, b), (m : Int))] else []) ++ enL f (b + 1) l
def enT (f : Nat) : List (List Nat) → List En
  | [] => []
  | l :: t => enL f 0 l ++ enT (f + 1) t
def φF (F : Nat → Nat → Rat) : Nat × Nat → Rat := fun e => F e.1 e.2
theorem ds_if (φ : Nat × Nat → Rat) (k : Nat × Nat) (m : Nat) : ds φ (if 0 < m then [(k, (m : Int))] else []) = (m : Rat) * φ k := by
  by_cases h : 0 < m
  · rw [if_pos h]
    show ((m : Int) : Rat) * φ k + 0 = _
    rw [Rat.intCast_natCast]; grind
  · rw [if_neg h, show m = 0 by omega]
    show (0 : Rat) = ((0 : Nat) : Rat) * φ k
    grind
theorem ds_enL (F : Nat → Nat → Rat) (f : Nat) : ∀ (l : List Nat) (b : Nat), ds (φF F) (enL f b l) = lp (fun j => F f (b + j)) l
  | [], _ => rfl
  | m :: l, b => by
    show ds (φF F) ((if 0 < m then [((f, b), (m : Int))] else []) ++ enL f (b + 1) l) = (m : Rat) * F f (b + 0) + lp (fun j => F f (b + (j + 1))) l
    rw [ds_app, ds_if, ds_enL F f l (b + 1), show (fun j => F f (b + 1 + j)) = fun j => F f (b + (j + 1)) from funext fun j => by rw [Nat.add_assoc, Nat.add_comm 1 j]]
    rfl
theorem ds_enT (F : Nat → Nat → Rat) : ∀ (T : List (List Nat)) (f : Nat), ds (φF F) (enT f T) = tF (fun a => F (f + a)) T
  | [], _ => rfl
  | l :: t, f => by
    show ds (φF F) (enL f 0 l ++ enT (f + 1) t) = lp (F (f + 0)) l + tF (fun a => F (f + (a + 1))) t
    rw [ds_app, ds_enL, ds_enT F t (f + 1), show (fun a => F (f + 1 + a)) = fun a => F (f + (a + 1)) from funext fun j => by rw [Nat.add_assoc, Nat.add_comm 1 j]]
    simp only [Nat.zero_add, Nat.add_zero]
theorem enL_mem {f : Nat} {e : En} : ∀ {l : List Nat} {b : Nat}, e ∈ enL f b l → e.1.1 = f ∧ b ≤ e.1.2 ∧ 0 < e.2
  | [], _, h => absurd h (by simp [enL])
  | m :: l, b, h => by
    rcases List.mem_append.mp h with h | h
    · by_cases hm : 0 < m
      · rw [if_pos hm] at h
        obtain rfl := List.mem_singleton.mp h
        exact ⟨rfl, Nat.le_refl _, by show (0 : Int) < (m : Int); omega⟩
      · rw [if_neg hm] at h
        exact absurd h (by simp)
    · obtain ⟨h1, h2, h3⟩ := enL_mem h
      exact ⟨h1, by omega, h3⟩
theorem enL_sd (f : Nat) : ∀ (l : List Nat) (b : Nat), (enL f b l).Pairwise (fun a b => lt2 a.1 b.1)
  | [], _ => List.Pairwise.nil
  | m :: l, b => by
    refine List.pairwise_append.mpr ⟨?_, enL_sd f l (b + 1), fun x hx y hy => ?_⟩
    · by_cases hm : 0 < m
      · rw [if_pos hm]; exact List.pairwise_singleton _ _
      · rw [if_neg hm]; exact List.Pairwise.nil
    · obtain ⟨y1, y2, _⟩ := enL_mem hy
      by_cases hm : 0 < m
      · rw [if_pos hm] at hx
        obtain rfl := List.mem_singleton.mp hx
        exact .inr ⟨y1.symm, by show b < _; omega⟩
      · rw [if_neg hm] at hx
        exact absurd hx (by simp)
theorem enT_mem {e : En} : ∀ {T : List (List Nat)} {f : Nat}, e ∈ enT f T → f ≤ e.1.1 ∧ 0 < e.2
  | [], _, h => absurd h (by simp [enT])
  | l :: t, f, h => by
    rcases List.mem_append.mp h with h | h
    · obtain ⟨h1, _, h3⟩ := enL_mem h
      exact ⟨by omega, h3⟩
    · obtain ⟨h1, h3⟩ := enT_mem h
      exact ⟨by omega, h3⟩
theorem enT_sd : ∀ (T : List (List Nat)) (f : Nat), (enT f T).Pairwise (fun a b => lt2 a.1 b.1)
  | [], _ => List.Pairwise.nil
  | l :: t, f => List.pairwise_append.mpr ⟨enL_sd f l 0, enT_sd t (f + 1), fun x hx y hy => .inl (by
      have := (enL_mem hx).1
      have := (enT_mem hy).1
      omega)⟩
/-- the ends of a word, sorted -/
def eN (w : List Bool) : List En := enT 0 (tbl w)
theorem eN_sd (w : List Bool) : Sd (eN w) := ⟨enT_sd _ _, fun e h => (enT_mem h).2⟩
theorem eN_ds (F : Nat → Nat → Rat) (w : List Bool) : ds (φF F) (eN w) = wF F w := by
  unfold eN
  rw [ds_enT, ← wF_tbl]
  congr 1
  funext a
  rw [Nat.zero_add]
theorem eN_is {l : List En} {w : List Bool} (h : Sd l) (hw : ∀ F : Nat → Nat → Rat, ds (φF F) l = wF F w) : l = eN w :=
  sd_same h (eN_sd w) fun φ => by
    have := hw (fun a b => φ (a, b))
    rw [← eN_ds] at this
    exact this
theorem le_ds {φ : Nat × Nat → Rat} (h1 : ∀ k, φ k = 1) : ∀ {l : List En}, (∀ e ∈ l, 0 < e.2) → 0 ≤ ds φ l ∧ ∀ e ∈ l, (e.2 : Rat) ≤ ds φ l
  | [], _ => ⟨Rat.le_refl, by simp⟩
  | (j, v) :: l, h => by
    obtain ⟨i1, i2⟩ := le_ds h1 (l := l) (fun x m => h x (List.mem_cons_of_mem _ m))
    have hv : (0 : Rat) ≤ (v : Rat) := by
      have : 0 < v := h (j, v) (List.mem_cons_self ..)
      exact Rat.intCast_nonneg.mpr (by omega)
    have e : ds φ ((j, v) :: l) = (v : Rat) + ds φ l := by
      show (v : Rat) * φ j + ds φ l = _
      rw [h1]; grind
    rw [e]
    refine ⟨by grind, fun x m => ?_⟩
    rcases List.mem_cons.mp m with rfl | m
    · show (v : Rat) ≤ _; grind
    · have := i2 x m; grind
theorem eN_most {w : List Bool} {e : En} (h : e ∈ eN w) : 0 < e.2 ∧ e.2.natAbs ≤ 2 ^ w.length := by
  have p := (eN_sd w).2 e h
  refine ⟨p, ?_⟩
  have h1 := (le_ds (φ := φF fun _ _ => 1) (fun _ => rfl) (eN_sd w).2).2 e h
  rw [eN_ds] at h1
  have h2 := Rat.le_trans h1 (wF_one w)
  have h3 : (e.2 : Rat) ≤ (((2 : Int) ^ w.length : Int) : Rat) := by
    rw [Rat.intCast_pow]; exact h2
  have h4 : e.2 ≤ (2 : Int) ^ w.length := Rat.intCast_le_intCast.mp h3
  have h5 : ((2 ^ w.length : Nat) : Int) = (2 : Int) ^ w.length := by simp
  omega
end HopW

set_option Elab.async false
set_option linter.all false
set_option maxRecDepth 100000
namespace HopW
/-! ### what a sorted list of ends is -/
def le3 (p q : En) : Prop := p.1.1 < q.1.1 ∨ p.1.1 = q.1.1 ∧ (p.1.2 < q.1.2 ∨ p.1.2 = q.1.2 ∧ p.2 ≤ q.2)
theorem sd_of : ∀ {l : List En}, l.Pairwise le3 → (l.map (·.1)).Nodup → (∀ e ∈ l, 0 < e.2) → Sd l
  | [], _, _, _ => ⟨.nil, by simp⟩
  | e :: l, h, n, p => by
    have h' := List.pairwise_cons.mp h
    have n' : (e.1 :: l.map (·.1)).Nodup := n
    have n2 := List.nodup_cons.mp n'
    have ih := sd_of h'.2 n2.2 (fun x m => p x (List.mem_cons_of_mem _ m))
    refine ⟨List.pairwise_cons.mpr ⟨fun x m => ?_, ih.1⟩, p⟩
    have h3 := h'.1 x m
    have ne : e.1 ≠ x.1 := fun z => n2.1 (List.mem_map.mpr ⟨x, m, z.symm⟩)
    obtain ⟨⟨a, b⟩, c⟩ := e
    obtain ⟨⟨a', b'⟩, c'⟩ := x
    have h3 : a < a' ∨ a = a' ∧ (b < b' ∨ b = b' ∧ c ≤ c') := h3
    show a < a' ∨ a = a' ∧ b < b'
    have ne : ¬ (a = a' ∧ b = b') := fun z => ne (by rw [z.1, z.2])
    omega
theorem all_pz1 {α : Type} [DecidableEq α] {R : α → Prop} {k : α} {c : Int} (hk : R k) (hc : 0 < c) : ∀ {l : List (α × Int)}, (∀ p ∈ l, R p.1 ∧ 0 < p.2) → ∀ p ∈ pz k c l, R p.1 ∧ 0 < p.2
  | [], _, p, m => by
    obtain rfl := List.mem_singleton.mp m
    exact ⟨hk, hc⟩
  | (j, v) :: l, h, p, m => by
    have h0 := h _ (List.mem_cons_self ..)
    have h1 : ∀ p ∈ l, R p.1 ∧ 0 < p.2 := fun p m => h p (List.mem_cons_of_mem _ m)
    have h0' : 0 < v := h0.2
    unfold pz at m
    split at m
    · rcases List.mem_cons.mp m with rfl | m
      · exact ⟨h0.1, by show 0 < v + c; omega⟩
      · exact h1 p m
    · rcases List.mem_cons.mp m with rfl | m
      · exact h0
      · exact all_pz1 hk hc h1 p m
/-- what a dict of words, or of ends, keeps: none told nought times -/
structure Tp {α : Type} (R : α → Prop) (M : Nat) (l : List (α × Int)) : Prop where
  o : (l.map (·.1)).Nodup
  a : ∀ p ∈ l, R p.1 ∧ 0 < p.2
  n : l.length ≤ M
theorem Tp.nil {α : Type} {R : α → Prop} {M : Nat} : Tp R M ([] : List (α × Int)) := ⟨List.nodup_nil, by simp, Nat.zero_le _⟩
theorem Tp.put {α : Type} [DecidableEq α] {R : α → Prop} {M : Nat} {l : List (α × Int)} {k : α} {c : Int} (t : Tp R M l) (hk : R k) (hc : 0 < c) : Tp R (M + 1) (pz k c l) :=
  ⟨once_pz t.o, all_pz1 hk hc t.a, Nat.le_trans (len_pz k c l) (Nat.succ_le_succ t.n)⟩
theorem Tp.up {α : Type} {R : α → Prop} {M N : Nat} {l : List (α × Int)} (t : Tp R M l) (h : M ≤ N) : Tp R N l := ⟨t.o, t.a, Nat.le_trans t.n h⟩
theorem Tp.at {α : Type} {R : α → Prop} {M : Nat} {l : List (α × Int)} (t : Tp R M l) {i : Nat} {k : α} {c : Int} (h : l[i]? = some (k, c)) : R k ∧ 0 < c := t.a _ (List.mem_of_getElem? h)
/-- one turn over a word: an end is told -/
theorem dsF_end {F : Nat → Nat → Rat} {f b : Nat} {c : Int} {T : List (List Bool × Int)} {i : Nat} (h : T[i]? = some (List.replicate f false ++ List.replicate b true, c)) (G : List En) {Z : Rat} {L : List (List Bool × Int)}
    (e : ds (wF F) L + ds (φF F) G = ds (wF F) (T.take i) + Z) : ds (wF F) L + ds (φF F) (pz (f, b) c G) = ds (wF F) (T.take (i + 1)) + Z := by
  rw [ds_pz, ds_take h, wF_rest]
  show _ + (_ + (c : Rat) * F f b) = _
  grind
/-- two shorter words are told -/
theorem dsF_two {F : Nat → Nat → Rat} {u v : List Bool} {c : Int} {T : List (List Bool × Int)} {i : Nat} (h : T[i]? = some (u ++ true :: false :: v, c)) {Z g : Rat} {L : List (List Bool × Int)}
    (e : ds (wF F) L + g = ds (wF F) (T.take i) + Z) : ds (wF F) (pz (u ++ false :: v) c (pz (u ++ true :: v) c L)) + g = ds (wF F) (T.take (i + 1)) + Z := by
  rw [ds_pz, ds_pz, ds_take h, wF_of]
  grind
theorem ds_permF {α : Type} (φ : α → Rat) {l m : List (α × Int)} (p : l.Perm m) : ds φ l = ds φ m := by
  induction p with
  | nil => rfl
  | cons x _ ih =>
    show (x.2 : Rat) * φ x.1 + ds φ _ = (x.2 : Rat) * φ x.1 + ds φ _
    rw [ih]
  | swap x y l =>
    show (y.2 : Rat) * φ y.1 + ((x.2 : Rat) * φ x.1 + ds φ l) = (x.2 : Rat) * φ x.1 + ((y.2 : Rat) * φ y.1 + ds φ l)
    grind
  | trans _ _ a b => exact a.trans b
theorem tp_sorted {R : Nat × Nat → Prop} {M : Nat} {l m : List En} (t : Tp R M l) (p : m.Perm l) (h : m.Pairwise le3) : Sd m :=
  sd_of h ((p.map (·.1)).nodup_iff.mpr t.o) (fun e he => (t.a e (p.mem_iff.mp he)).2)
/-! ### great words: so many beads ahead of so many free places -/
def Wb (F : Nat → Nat → Rat) (i j : Nat) : Rat := wF F (List.replicate i true ++ List.replicate j false)
theorem Wb_of (F : Nat → Nat → Rat) (i j : Nat) : Wb F (i + 1) (j + 1) = Wb F (i + 1) j + Wb F i (j + 1) := by
  unfold Wb
  have h := wF_of F (List.replicate i true) (List.replicate j false)
  rw [List.replicate_succ' (n := i), List.replicate_succ (n := j), List.append_assoc, List.append_assoc]
  exact h
theorem Wb_none (F : Nat → Nat → Rat) (j : Nat) : Wb F 0 j = F j 0 := by
  have h := wF_rest F j 0
  rw [List.replicate_zero, List.append_nil] at h
  exact h
theorem Wb_all (F : Nat → Nat → Rat) (i : Nat) : Wb F i 0 = F 0 i := by
  have h := wF_rest F 0 i
  unfold Wb
  rw [List.replicate_zero, List.append_nil]
  exact h
def sR (c : Nat → Rat) : Nat → Rat
  | 0 => 0
  | n + 1 => sR c n + c n
theorem sR_same {c d : Nat → Rat} : ∀ {n : Nat}, (∀ j, j < n → c j = d j) → sR c n = sR d n
  | 0, _ => rfl
  | n + 1, h => by
    show sR c n + c n = sR d n + d n
    rw [sR_same (fun j hj => h j (by omega)), h n (by omega)]
theorem sR_one {c d : Nat → Rat} {k : Nat} {z : Rat} : ∀ {n : Nat}, k < n → (∀ j, j ≠ k → d j = c j) → d k = c k + z → sR d n = sR c n + z
  | 0, h, _, _ => absurd h (by omega)
  | n + 1, h, h1, h2 => by
    show sR d n + d n = sR c n + c n + z
    by_cases e : k = n
    · subst e
      rw [sR_same (c := d) (d := c) (fun j hj => h1 j (by omega)), h2]
      grind
    · rw [sR_one (n := n) (by omega) h1 h2, h1 n (fun z => e z.symm)]
      grind
def rw1 (F : Nat → Nat → Rat) (M : Nat → Nat → Int) (i : Nat) : Nat → Rat := sR fun j => (M i j : Rat) * Wb F i j
/-- what is still to be looked at: all lines below s (fr places each), and m places of line s -/
def XM (F : Nat → Nat → Rat) (fr : Nat) (M : Nat → Nat → Int) (s m : Nat) : Rat := sR (fun i => rw1 F M i fr) s + rw1 F M s m
def addc (M : Nat → Nat → Int) (i0 j0 : Nat) (v : Int) : Nat → Nat → Int := fun i j => if i = i0 ∧ j = j0 then M i j + v else M i j
theorem rw1_off {F : Nat → Nat → Rat} {M : Nat → Nat → Int} {i0 j0 i m : Nat} {v : Int} (h : i ≠ i0 ∨ m ≤ j0) : rw1 F (addc M i0 j0 v) i m = rw1 F M i m := by
  refine sR_same fun j hj => ?_
  rw [show addc M i0 j0 v i j = M i j from if_neg (by omega)]
theorem rw1_on {F : Nat → Nat → Rat} {M : Nat → Nat → Int} {i0 j0 m : Nat} {v : Int} (h : j0 < m) : rw1 F (addc M i0 j0 v) i0 m = rw1 F M i0 m + (v : Rat) * Wb F i0 j0 := by
  refine sR_one h (fun j hj => ?_) ?_
  · rw [show addc M i0 j0 v i0 j = M i0 j from if_neg (by omega)]
  · rw [show addc M i0 j0 v i0 j0 = M i0 j0 + v from if_pos ⟨rfl, rfl⟩, Rat.intCast_add]
    grind
theorem XM_in {F : Nat → Nat → Rat} {fr : Nat} {M : Nat → Nat → Int} {s m j0 : Nat} {v : Int} (h : j0 < m) : XM F fr (addc M s j0 v) s m = XM F fr M s m + (v : Rat) * Wb F s j0 := by
  unfold XM
  rw [rw1_on h, sR_same (d := fun i => rw1 F M i fr) (fun i hi => rw1_off (.inl (by omega)))]
  grind
theorem XM_below {F : Nat → Nat → Rat} {fr : Nat} {M : Nat → Nat → Int} {s m j0 : Nat} {v : Int} (h : j0 < fr) : XM F fr (addc M s j0 v) (s + 1) m = XM F fr M (s + 1) m + (v : Rat) * Wb F s j0 := by
  unfold XM
  rw [rw1_off (i := s + 1) (.inl (by omega)), sR_one (c := fun i => rw1 F M i fr) (k := s) (z := (v : Rat) * Wb F s j0) (by omega) (fun i hi => rw1_off (.inl hi)) (rw1_on h)]
  grind
theorem XM_less (F : Nat → Nat → Rat) (fr : Nat) (M : Nat → Nat → Int) (s m : Nat) : XM F fr M s (m + 1) = XM F fr M s m + (M s m : Rat) * Wb F s m := by
  show sR (fun i => rw1 F M i fr) s + (rw1 F M s m + (M s m : Rat) * Wb F s m) = sR (fun i => rw1 F M i fr) s + rw1 F M s m + _
  grind
theorem XM_line (F : Nat → Nat → Rat) (fr : Nat) (M : Nat → Nat → Int) (s : Nat) : XM F fr M (s + 1) 0 = XM F fr M s fr := by
  show sR (fun i => rw1 F M i fr) s + rw1 F M s fr + 0 = sR (fun i => rw1 F M i fr) s + rw1 F M s fr
  grind
theorem XM_zero (F : Nat → Nat → Rat) (fr : Nat) (M : Nat → Nat → Int) : XM F fr M 0 0 = 0 := by
  show (0 : Rat) + 0 = 0
  grind
/-- a turn within: one way on each hand -/
theorem XM_turn {F : Nat → Nat → Rat} {fr : Nat} {M : Nat → Nat → Int} {s m : Nat} (h : m + 1 < fr) : XM F fr (addc (addc M (s + 1) m (M (s + 1) (m + 1))) s (m + 1) (M (s + 1) (m + 1))) (s + 1) (m + 1) = XM F fr M (s + 1) (m + 1 + 1) := by
  rw [XM_below h, XM_in (by omega), XM_less F fr M (s + 1) (m + 1), Wb_of]
  grind
theorem zero_sum {F : Nat → Nat → Rat} {i n : Nat} : rw1 F (fun _ _ => 0) i n = 0 := by
  unfold rw1
  induction n with
  | zero => rfl
  | succ n ih =>
    show sR _ n + ((0 : Int) : Rat) * Wb F i n = 0
    rw [ih]
    have : ((0 : Int) : Rat) = 0 := rfl
    grind
theorem zero_all {F : Nat → Nat → Rat} {fr s : Nat} : sR (fun i => rw1 F (fun _ _ => 0) i fr) s = 0 := by
  induction s with
  | zero => rfl
  | succ n ih =>
    show sR _ n + rw1 F (fun _ _ => 0) n fr = 0
    rw [ih, zero_sum]
    grind
theorem XM_start (F : Nat → Nat → Rat) (B f : Nat) : XM F (f + 1) (addc (fun _ _ => 0) B f 1) B (f + 1) = Wb F B f := by
  rw [XM_in (Nat.lt_succ_self f)]
  unfold XM
  rw [zero_sum, zero_all]
  have : ((1 : Int) : Rat) = 1 := rfl
  grind
theorem addc_nn {M : Nat → Nat → Int} (h : ∀ i j, 0 ≤ M i j) {i0 j0 : Nat} {v : Int} (hv : 0 ≤ v) : ∀ i j, 0 ≤ addc M i0 j0 v i j := fun i j => by
  unfold addc
  have := h i j
  split <;> omega
/-- ends moved on: free places ahead, beads behind -/
def mv (p q : Nat) (e : En) : En := ((e.1.1 + p, e.1.2 + q), e.2)
theorem ds_mv (F : Nat → Nat → Rat) (p q : Nat) : ∀ G : List En, ds (φF F) (G.map (mv p q)) = ds (φF fun i j => F (i + p) (j + q)) G
  | [] => rfl
  | e :: G => by
    show (e.2 : Rat) * F (e.1.1 + p) (e.1.2 + q) + ds (φF F) (G.map (mv p q)) = (e.2 : Rat) * F (e.1.1 + p) (e.1.2 + q) + ds _ G
    rw [ds_mv F p q G]
theorem once_mv {p q : Nat} : ∀ {G : List En}, (G.map (·.1)).Nodup → ((G.map (mv p q)).map (·.1)).Nodup
  | [], _ => List.nodup_nil
  | e :: G, h => by
    have h' : (e.1 :: G.map (·.1)).Nodup := h
    obtain ⟨n1, n2⟩ := List.nodup_cons.mp h'
    refine List.nodup_cons.mpr ⟨fun m => n1 ?_, once_mv n2⟩
    obtain ⟨x, mx, ex⟩ := List.mem_map.mp m
    obtain ⟨y, my, rfl⟩ := List.mem_map.mp mx
    refine List.mem_map.mpr ⟨y, my, ?_⟩
    have e1 : y.1.1 + p = e.1.1 + p := congrArg Prod.fst ex
    have e2 : y.1.2 + q = e.1.2 + q := congrArg Prod.snd ex
    exact Prod.ext (by omega) (by omega)
/-- the word of p free places, i beads, j free places, q beads -/
def gw (p i j q : Nat) : List Bool := List.replicate p false ++ (List.replicate i true ++ List.replicate j false) ++ List.replicate q true
theorem wF_gw (F : Nat → Nat → Rat) (p i j q : Nat) : wF F (gw p i j q) = Wb (fun a b => F (a + p) (b + q)) i j := by
  unfold gw
  rw [wF_beads, wF_frees]
  rfl
end HopW

set_option Elab.async false
set_option linter.all false
set_option maxRecDepth 100000
namespace HopT
open PySem PySem.Spec PyProof.Rows L2
/-! ### sorted(tuples of three ints), any number of them: rising -/
abbrev T3 := Int × Int × Int
def lexT (p q : T3) : Bool := if p.1 = q.1 then (if p.2.1 = q.2.1 then decide (p.2.2 < q.2.2) else decide (p.2.1 < q.2.1)) else decide (p.1 < q.1)
theorem lexT_iff {p q : T3} : lexT p q = true ↔ p.1 < q.1 ∨ (p.1 = q.1 ∧ (p.2.1 < q.2.1 ∨ (p.2.1 = q.2.1 ∧ p.2.2 < q.2.2))) := by
  unfold lexT
  by_cases e : p.1 = q.1
  · rw [if_pos e]
    by_cases e2 : p.2.1 = q.2.1
    · rw [if_pos e2, decide_eq_true_eq]; omega
    · rw [if_neg e2, decide_eq_true_eq]; omega
  · rw [if_neg e, decide_eq_true_eq]; omega
theorem lexT_no {p q : T3} : lexT p q = false ↔ ¬ (p.1 < q.1 ∨ (p.1 = q.1 ∧ (p.2.1 < q.2.1 ∨ (p.2.1 = q.2.1 ∧ p.2.2 < q.2.2)))) := by
  rw [← lexT_iff]
  cases lexT p q <;> simp
theorem swo_lexT (k : Value → T3) : SrtO.Swo fun v u => lexT (k v) (k u) := by
  refine ⟨fun x y h => ?_, fun x y z h1 h2 => ?_⟩
  · have a := lexT_iff.mp h
    refine lexT_no.mpr ?_
    omega
  · have a := lexT_no.mp h1
    have b := lexT_no.mp h2
    refine lexT_no.mpr ?_
    omega
def IsTrip (h : Heap) (v : Value) (x y z : Int) : Prop := ∃ a o t u r n, v = .ref a ∧ h.get? a = some o ∧ o.cls = .type "tuple" ∧ o.data = .seq [Value.int x t, Value.int y u, Value.int z r].toArray n
section
variable {prog : Program} {w : World} {A : Around} {E : Value → Shared → Prop} {s : Shared}
theorem trip_cmp {vs : List Value} {k : Value → T3} (hp : ∀ v ∈ vs, IsTrip s.heap v (k v).1 (k v).2.1 (k v).2.2) : SrtO.Cmp prog w A s (tuples' true) (fun p => p.1 ∈ vs) (SrtO.lt2 fun v u => lexT (k v) (k u)) := by
  intro p q hm hm'
  have h1 := hp _ hm
  have h2 := hp _ hm'
  show wpAny (model prog w) A (keyLt' (tuples' true) p.1 q.1) (fun r s' => s' = s ∧ r = lexT (k p.1) (k q.1)) (fun _ _ => False) s
  unfold lexT
  generalize (k p.1).1 = x at h1 ⊢
  generalize (k p.1).2.1 = y at h1 ⊢
  generalize (k p.1).2.2 = z at h1 ⊢
  generalize (k q.1).1 = x' at h2 ⊢
  generalize (k q.1).2.1 = y' at h2 ⊢
  generalize (k q.1).2.2 = z' at h2 ⊢
  obtain ⟨a, o, t, u, r, n, e, ho, hc, hd⟩ := h1
  obtain ⟨a', o', t', u', r', n', e', ho', hc', hd'⟩ := h2
  rw [e, e']
  refine PySem.W.kat_lt ho hd ho' hd' ?_
  show PySem.W.KatLex prog w A true (decide (3 < 3)) _ [(.int x t, .int x' t'), (.int y u, .int y' u'), (.int z r, .int z' r')] 0 s
  refine PySem.W.kat_cons (SeqAt.EqAt.int_int x t x' t' prog w _ _ ?_)
  refine PySem.W.kat_go (fun e1 => ?_) (fun e1 => ?_)
  · have ex : x = x' := by simpa using e1
    refine PySem.W.kat_yes (PySem.W.kat_cons (SeqAt.EqAt.int_int y u y' u' prog w _ _ ?_))
    refine PySem.W.kat_go (fun e2 => ?_) (fun e2 => ?_)
    · have ey : y = y' := by simpa using e2
      refine PySem.W.kat_yes (PySem.W.kat_cons (SeqAt.EqAt.int_int z r z' r' prog w _ _ ?_))
      refine PySem.W.kat_go (fun e3 => ?_) (fun e3 => ?_)
      · have ez : z = z' := by simpa using e3
        have e4 : (if x = x' then (if y = y' then decide (z < z') else decide (y < y')) else decide (x < x')) = false := by
          rw [if_pos ex, if_pos ey, ez]
          exact decide_eq_false (Int.lt_irrefl _)
        exact PySem.W.kat_yes (PySem.W.kat_nil ⟨rfl, e4.symm⟩)
      · have e4 : (if x = x' then (if y = y' then decide (z < z') else decide (y < y')) else decide (x < x')) = decide (z < z') := by rw [if_pos ex, if_pos ey]
        refine PySem.W.kat_no (TS.oneLt_ints _ ?_)
        exact (show s = s ∧ decide (z < z') = _ from ⟨rfl, e4.symm⟩)
    · have ey : ¬ y = y' := by simpa using e2
      have e4 : (if x = x' then (if y = y' then decide (z < z') else decide (y < y')) else decide (x < x')) = decide (y < y') := by rw [if_pos ex, if_neg ey]
      refine PySem.W.kat_no (TS.oneLt_ints _ ?_)
      exact (show s = s ∧ decide (y < y') = _ from ⟨rfl, e4.symm⟩)
  · have ex : ¬ x = x' := by simpa using e1
    have e4 : (if x = x' then (if y = y' then decide (z < z') else decide (y < y')) else decide (x < x')) = decide (x < x') := if_neg ex
    exact PySem.W.kat_no (TS.oneLt_ints _ (show s = s ∧ decide (x < x') = _ from ⟨rfl, e4.symm⟩))
theorem trips_sortableO {a : Addr} {vs : List Value} {k : Value → T3} (some' : vs ≠ []) (hp : ∀ v ∈ vs, IsTrip s.heap v (k v).1 (k v).2.1 (k v).2.2) (na : ∀ o, s.heap.get? a = some o → o.cls ≠ .type "tuple") : SrtO.SortableO prog w A s a vs fun v u => lexT (k v) (k u) := by
  intro h' keep
  have hp' : ∀ v ∈ vs, IsTrip h' v (k v).1 (k v).2.1 (k v).2.2 := fun v hm => by
    obtain ⟨b, o, t, u, r, n, e, ho, hc, hd⟩ := hp v hm
    exact ⟨b, o, t, u, r, n, e, keep b o (by rintro rfl; exact na o ho hc) ho, hc, hd⟩
  have hv' : ∀ v ∈ vs, Begun h' v := fun v hm => by
    obtain ⟨b, o, t, u, r, n, e, ho, hc, hd⟩ := hp' v hm
    refine ⟨b, o, _, _, n, e, ho, hc, hd, fun x hx => ?_⟩
    rcases List.mem_cons.mp hx with rfl | hx
    · exact ⟨_, _, rfl⟩
    rcases List.mem_cons.mp hx with rfl | hx
    · exact ⟨_, _, rfl⟩
    obtain rfl := List.mem_singleton.mp hx
    exact ⟨_, _, rfl⟩
  obtain ⟨fs, kt, l, z⟩ := heads vs hv'
  have p : 0 < fs.length := by rw [l]; exact List.length_pos_iff.mpr some'
  have nt : (Value.type "int" != Value.type "tuple") = true := by first | decide +kernel | rfl
  refine ⟨tuples' true, fun Q E q => PySem.W.kat_kind (T := .type "int") kt p (fun f m => ?_) rfl (nt ▸ q), trip_cmp hp'⟩
  obtain ⟨i, t, rfl⟩ := z f m
  exact .now
end
def rSortedQ (K : PySem.W.Frag) : List V → Hp → VK → Prop := fun vs H Q => ∃ (a : Addr) (ts : List Addr) (k : Addr → T3), vs = [.ref a] ∧ SqL K H a (ts.map V.ref) ∧ (∀ t ∈ ts, H t = some (.tup [.int (k t).1, .int (k t).2.1, .int (k t).2.2])) ∧
  ∀ (ys : List Addr) p, ys.Perm ts → ys.Pairwise (fun x y => lexT (k y) (k x) = false) → H p = none → Q (.ref p) (upd H p (.lst (ys.map V.ref)))
theorem cr_sortedQ {X : Cx} : CallR X (.builtin "sorted") (rSortedQ X.K) := by
  rintro pins s σ H vs us Q I r ⟨a, ts, k, rfl, hs, ht, q⟩
  obtain ⟨its, rv, isl, big⟩ := I.list hs
  obtain rfl := refs_are rv
  rw [Vals.ref1 r]
  let kv : Value → T3 := fun v => match v with | .ref a => k a | _ => (0, 0, 0)
  have beg : ∀ v ∈ ts.map Value.ref, IsTrip s.heap v (kv v).1 (kv v).2.1 (kv v).2.2 := by
    intro v m
    obtain ⟨t, mt, rfl⟩ := List.mem_map.mp m
    obtain ⟨_, vs', r', o, g, c, n, d⟩ := I.hok _ _ (ht t mt)
    cases r' with
    | cons r0 rs =>
      cases rs with
      | cons r1 rs =>
        cases rs with
        | cons r2 rs =>
          cases rs
          obtain ⟨t0, rfl⟩ := r0
          obtain ⟨t1, rfl⟩ := r1
          obtain ⟨t2, rfl⟩ := r2
          exact ⟨t, o, t0, t1, t2, n, rfl, g, c, d⟩
  refine SrtO.sorted_ord (swo_lexT kv) isl.isList (by simpa using big) (fun two h1 b hb kk => trips_sortableO (by rintro e; rw [e] at two; simp at two) (fun v m => ?_) (fun o g => ?_)) (fun out so st => ?_)
  · obtain ⟨b', o, t, u, r, n, e, g, rest⟩ := beg v m
    exact ⟨b', o, t, u, r, n, e, (kk _ _ g).2, rest⟩
  · obtain rfl := Option.some.inj (g.symm.trans hb)
    exact fun c => absurd (Value.type.inj c) (by decide)
  · obtain ⟨ys, rfl, py⟩ := perm_refs st.perm
    obtain ⟨kk, at'⟩ := sortedAll_at s.heap (ts.map Value.ref) (ys.map Value.ref).toArray
    have len : (ys.map V.ref).length ≤ sizeLine := by rw [List.length_map, py.length_eq]; simpa using big
    have so' : ys.Pairwise (fun x y => lexT (k y) (k x) = false) := List.pairwise_map.mp so
    exact ⟨.ref _, upd H (s.heap.objs.size + 1) (.lst (ys.map V.ref)), I.laid (t' := s.toks) (fun _ _ => sortedAll_old) (Nat.le_succ _) ⟨len, _, kk, are_refs ys, at'⟩, rfl, q ys _ py so' (I.hok.fresh (Nat.le_succ _))⟩
end HopT

set_option Elab.async false
set_option linter.all false
set_option maxRecDepth 100000
namespace HopR
open PySem L2
/-- a list of draws by its places -/
theorem draws2 {c z0 z1 : Int} (h0 : 0 < z0) (h1 : 0 < z1) : ∃ d0 d1 : Int, draws c 0 [z0, z1] = [d0, d1] ∧ (0 ≤ d0 ∧ d0 < z0) ∧ (0 ≤ d1 ∧ d1 < z1) := by
  have hl := draws_len [z0, z1] c 0
  match hd : draws c 0 [z0, z1], hl with
  | [d0, d1], _ =>
    have hp : ∀ z ∈ [z0, z1], 0 < z := by
      intro z hz
      simp only [List.mem_cons, List.not_mem_nil, or_false] at hz
      rcases hz with rfl | rfl
      · exact h0
      · exact h1
    exact ⟨d0, d1, rfl, draws_ok _ c 0 hp 0 d0 z0 (by rw [hd]; rfl) rfl, draws_ok _ c 0 hp 1 d1 z1 (by rw [hd]; rfl) rfl⟩
end HopR

set_option Elab.async false
set_option linter.all false
set_option maxRecDepth 100000
namespace HopR
open PySem L2
/-! ### texts by their codes -/
def rt (cs : List Nat) : Str := ⟨cs.toArray⟩
def one (c : Nat) : Str := ⟨#[c]⟩
theorem rt_list (cs : List Nat) : (rt cs).cps.toList = cs := by simp [rt]
theorem rt_len (cs : List Nat) : (rt cs).length = cs.length := by
  show cs.toArray.size = cs.length
  simp
theorem rt_of (z : Str) : rt z.cps.toList = z := ext_str (rt_list _)
theorem rt_inj {a b : List Nat} (h : rt a = rt b) : a = b := by
  have := congrArg (fun q : Str => q.cps.toList) h
  simpa only [rt_list] using this
theorem rt_app (a b : List Nat) : rt a ++ rt b = rt (a ++ b) := by
  apply ext_str
  rw [rt_list]
  show ((rt a).cps ++ (rt b).cps).toList = a ++ b
  rw [Array.toList_append, rt_list, rt_list]
theorem rt_fit {cs : List Nat} (h : cs.length ≤ 10000) : (rt cs).length ≤ sizeLine := by
  rw [rt_len]
  exact fit h
theorem sg_rt (cs : List Nat) : sg (rt cs) = cs.map one := by
  unfold sg
  rw [rt_list]
  rfl
theorem join_rt (cs : List Nat) : Txt.join "" (cs.map one) = rt cs := by
  apply ext_str
  rw [join0_list, List.map_map, rt_list]
  induction cs with
  | nil => rfl
  | cons b r ih =>
    rw [List.map_cons, List.flatten_cons, ih]
    rfl
theorem ones_sum : ∀ cs : List Nat, ((cs.map one).map (·.length)).sum = cs.length
  | [] => rfl
  | c :: r => by
    rw [List.map_cons, List.map_cons, List.sum_cons, ones_sum r]
    show 1 + r.length = r.length + 1
    omega
theorem join_rt_fits {cs : List Nat} (h : cs.length ≤ 1000) : ((cs.map one).map (·.length)).sum + (cs.map one).length * ("" : Str).length ≤ 16777216 := by
  have e : ("" : Str).length = 0 := by decide +kernel
  rw [ones_sum, e, Nat.mul_zero]
  omega
theorem cut_rt (cs : List Nat) (lo hi : Option Int) : cutS (rt cs) lo hi = rt ((cs.drop (HT.sIx cs.length 0 lo)).take (HT.sIx cs.length cs.length hi - HT.sIx cs.length 0 lo)) := by
  apply ext_str
  unfold cutS
  rw [rt_len, rt_list, rt_list]
theorem cut_rt_to (cs : List Nat) (k : Nat) : cutS (rt cs) none (some (k : Int)) = rt (cs.take k) := by
  rw [cut_rt, HT.sIx_none, HT.sIx_nat, List.drop_zero, Nat.sub_zero]
  by_cases h : k ≤ cs.length
  · rw [Nat.min_eq_left h]
  · rw [Nat.min_eq_right (by omega), List.take_length, List.take_of_length_le (by omega)]
theorem cut_rt_from (cs : List Nat) (k : Nat) : cutS (rt cs) (some (k : Int)) none = rt (cs.drop k) := by
  rw [cut_rt, HT.sIx_none, HT.sIx_nat]
  by_cases h : k ≤ cs.length
  · rw [Nat.min_eq_left h, List.take_of_length_le (by rw [List.length_drop]; exact Nat.le_refl _)]
  · rw [Nat.min_eq_right (by omega), List.drop_length, List.drop_of_length_le (by omega), List.take_nil]
theorem one_inj {a b : Nat} (h : one a = one b) : a = b := by
  have := congrArg (fun q : Str => q.cps.toList) h
  exact (List.cons.inj this).1
theorem one_eq (a b : Nat) : (one a == one b) = decide (a = b) := by
  by_cases h : a = b
  · subst h
    simp
  · rw [decide_eq_false h]
    have : ¬ (one a = one b) := fun z => h (one_inj z)
    simp [this]
/-! ### signs in a written dict -/
theorem find_key (c : Nat) : ∀ (ts : List Nat) (L : List DictEntry), L.map (fun e => keyText e.key) = ts.map (fun q => some (one q)) → (L.find? (·.key.isStr (one c))).isSome = decide (c ∈ ts) ∧ L.any (·.refKey) = false
  | [], [], _ => ⟨by simp, rfl⟩
  | [], e :: r, h => by simp at h
  | q :: ts, [], h => by simp at h
  | q :: ts, e :: r, h => by
    rw [List.map_cons, List.map_cons] at h
    obtain ⟨h1, h2⟩ := List.cons.inj h
    obtain ⟨t, hk⟩ := keyText_str h1
    obtain ⟨i1, i2⟩ := find_key c ts r h2
    have e1 : e.key.isStr (one c) = decide (q = c) := by
      rw [hk]
      exact one_eq q c
    refine ⟨?_, ?_⟩
    · rw [List.find?_cons, e1]
      by_cases hq : q = c
      · rw [decide_eq_true hq]
        simp [hq]
      · rw [decide_eq_false hq]
        show (r.find? (·.key.isStr (one c))).isSome = _
        rw [i1]
        have : ¬ c = q := fun z => hq z.symm
        simp [this]
    · rw [List.any_cons, i2, Bool.or_false]
      unfold DictEntry.refKey
      rw [hk]
theorem key_in {K : PySem.W.Frag} {d : Addr} {es : Array DictEntry} {n : Nat} {ts : List Nat} (l : K.lookup d = some ⟨.type "dict", none, .dict es n, #[]⟩) (hk : es.toList.map (fun e => keyText e.key) = ts.map (fun q => some (one q))) (c : Nat) :
    ∃ r, PySem.W.nsIn K d (one c) = some r ∧ r.isSome = decide (c ∈ ts) := by
  obtain ⟨h1, h2⟩ := find_key c ts es.toList hk
  unfold PySem.W.nsIn
  rw [l]
  simp only
  cases hf : es.toList.find? (·.key.isStr (one c)) with
  | some e =>
    rw [hf] at h1
    exact ⟨_, rfl, h1⟩
  | none =>
    rw [hf] at h1
    simp only [h2]
    exact ⟨_, rfl, h1⟩
/-! ### rings -/
def okr (c : Nat) : Bool := decide (c ∈ [97, 98, 46])
def isRingB (z : Str) : Bool := decide (2 ≤ z.length) && (decide (z.length ≤ 12) && z.cps.toList.all okr)
/-- whether x is a ring -/
def RingB (K : PySem.W.Frag) (H : Hp) (x : V) (b : Bool) : Prop := (NoTxt K H x ∧ b = false) ∨ ∃ z : Str, x = .str z ∧ z.length ≤ 10000 ∧ b = isRingB z
theorem ringB_same {K : PySem.W.Frag} {H H' : Hp} {x : V} {b : Bool} (s : Same H H') (h : RingB K H x b) : RingB K H' x b := h.imp (fun ⟨q, e⟩ => ⟨notxt_same s q, e⟩) id
/-- a ring by its codes -/
structure Rg (cs : List Nat) : Prop where
  lo : 2 ≤ cs.length
  hi : cs.length ≤ 12
  ok : ∀ c ∈ cs, c ∈ [97, 98, 46]
theorem Rg.isB {cs : List Nat} (h : Rg cs) : isRingB (rt cs) = true := by
  unfold isRingB
  rw [rt_len, rt_list, decide_eq_true h.lo, decide_eq_true h.hi]
  show cs.all okr = true
  rw [List.all_eq_true]
  exact fun c hc => decide_eq_true (h.ok c hc)
/-- how far above the others a sign stands -/
def rk (c : Nat) : Nat := if c = 97 then 2 else if c = 98 then 1 else 0
def nxt (cs : List Nat) (i : Nat) : Nat := (i + 1) % cs.length
theorem nxt_lt {cs : List Nat} (h : Rg cs) (i : Nat) : nxt cs i < cs.length := Nat.mod_lt _ (Nat.lt_of_lt_of_le (by decide) h.lo)
/-- the signs at a place and at the next one exchanged -/
def swp (cs : List Nat) (i : Nat) : List Nat := (cs.set i (cs.getD (nxt cs i) 0)).set (nxt cs i) (cs.getD i 0)
theorem swp_len (cs : List Nat) (i : Nat) : (swp cs i).length = cs.length := by
  unfold swp
  rw [List.length_set, List.length_set]
def ups (cs : List Nat) (i : Nat) : Bool := decide (rk (cs.getD (nxt cs i) 0) < rk (cs.getD i 0))
def rchg (cs : List Nat) (m : Nat) : List Nat := (List.range m).filter (ups cs)
theorem rchg_succ (cs : List Nat) (i : Nat) : rchg cs (i + 1) = rchg cs i ++ (if ups cs i then [i] else []) := by
  unfold rchg
  rw [List.range_succ, List.filter_append]
  congr 1
  cases h : ups cs i with
  | true => simp [h]
  | false => simp [h]
theorem rchg_few (cs : List Nat) (m : Nat) : (rchg cs m).length ≤ m := by
  refine Nat.le_trans (List.length_filter_le _ _) ?_
  rw [List.length_range]
  exact Nat.le_refl _
/-- the data of the changes -/
def dchg (cs : List Nat) (ks : List Nat) : List PyData := ks.map fun (k : Nat) => PyData.tuple [.int (k : Int), .str (rt (swp cs k))]
/-- a list of tuples (place, ring) -/
def Tups (H : Hp) (cs : List Nat) : List Nat → List V → Prop
  | [], vs => vs = []
  | k :: r, vs => ∃ p vr, vs = .ref p :: vr ∧ H p = some (.tup [.int (k : Int), .str (rt (swp cs k))]) ∧ Tups H cs r vr
theorem tups_same {H H' : Hp} {cs : List Nat} (s : Same H H') : ∀ {ks : List Nat} {vs : List V}, Tups H cs ks vs → Tups H' cs ks vs
  | [], _, h => h
  | k :: r, _, ⟨p, vr, e, h1, h2⟩ => ⟨p, vr, e, s _ _ h1, tups_same s h2⟩
theorem tups_add {H : Hp} {cs : List Nat} {k : Nat} {p : Addr} (h1 : H p = some (.tup [.int (k : Int), .str (rt (swp cs k))])) : ∀ {ks : List Nat} {vs : List V}, Tups H cs ks vs → Tups H cs (ks ++ [k]) (vs ++ [.ref p])
  | [], _, h => by
    cases h
    exact ⟨p, [], rfl, h1, rfl⟩
  | q :: r, _, ⟨p', vr, e, h2, h3⟩ => ⟨p', vr ++ [.ref p], by rw [e]; rfl, h2, tups_add h1 h3⟩
theorem tups_upd {H : Hp} {cs : List Nat} {D : Addr} {xs : List V} {o : HO} (hD : H D = some (.lst xs)) : ∀ {ks : List Nat} {vs : List V}, Tups H cs ks vs → Tups (upd H D o) cs ks vs
  | [], _, h => h
  | k :: r, _, ⟨p, vr, e, h1, h2⟩ => ⟨p, vr, e, by
      rw [upd_ne (fun z => by rw [z, hD] at h1; cases h1)]
      exact h1, tups_upd hD h2⟩
theorem tups_len {H : Hp} {cs : List Nat} : ∀ {ks : List Nat} {vs : List V}, Tups H cs ks vs → vs.length = ks.length
  | [], _, h => by
    cases h
    rfl
  | k :: r, _, ⟨p, vr, e, _, h2⟩ => by
    rw [e, List.length_cons, List.length_cons, tups_len h2]
theorem tups_dp {K : PySem.W.Frag} {H : Hp} {cs : List Nat} : ∀ {ks : List Nat} {vs : List V}, Tups H cs ks vs → DpAll K H vs (dchg cs ks)
  | [], _, h => by
    cases h
    exact .nil
  | k :: r, _, ⟨p, vr, e, h1, h2⟩ => by
    rw [e]
    exact .cons (.tup (SqT.of h1) (.cons (.int _) (.cons (.str _) .nil))) (tups_dp h2)
theorem getD_small {cs : List Nat} (h : Rg cs) (i : Nat) : cs.getD i 0 < 1114112 := by
  rw [List.getD_eq_getElem?_getD]
  cases e : cs[i]? with
  | none => show 0 < 1114112; decide
  | some c =>
    have := h.ok c (List.mem_of_getElem? e)
    simp only [List.mem_cons, List.not_mem_nil, or_false] at this
    show c < 1114112
    omega
theorem strOk_swp {cs : List Nat} (h : Rg cs) (i : Nat) : PyData.strOk (rt (swp cs i)) = true := by
  unfold PyData.strOk
  rw [← Array.all_toList, rt_list, List.all_eq_true]
  intro c hc
  refine decide_eq_true ?_
  unfold swp at hc
  rcases List.mem_or_eq_of_mem_set hc with h1 | rfl
  · rcases List.mem_or_eq_of_mem_set h1 with h2 | rfl
    · have := h.ok c h2
      simp only [List.mem_cons, List.not_mem_nil, or_false] at this
      omega
    · exact getD_small h _
  · exact getD_small h _
theorem lay_dchg {cs : List Nat} (h : Rg cs) : ∀ ks : List Nat, PyData.canLayAll0 (dchg cs ks) = true
  | [] => rfl
  | k :: r => by
    show PyData.canLayAll0 (.tuple [.int (k : Int), .str (rt (swp cs k))] :: dchg cs r) = true
    simp only [PyData.canLayAll0, lay_dchg h r, Bool.and_true, PyData.canLay0, strOk_swp h]
theorem deep_dchg (cs : List Nat) : ∀ ks : List Nat, PyData.depthAll (dchg cs ks) ≤ 1
  | [] => by show 0 ≤ 1; decide
  | k :: r => by
    show PyData.depthAll (.tuple [.int (k : Int), .str (rt (swp cs k))] :: dchg cs r) ≤ 1
    have := deep_dchg cs r
    simp only [PyData.depthAll, PyData.depth]
    omega
theorem shaped_dchg {cs : List Nat} (h : Rg cs) (ks : List Nat) : SeqAt.shaped (.list (dchg cs ks)) = true := by
  unfold SeqAt.shaped
  rw [Bool.and_eq_true]
  refine ⟨?_, decide_eq_true ?_⟩
  · simp only [PyData.canLay0, lay_dchg h]
  · have := deep_dchg cs ks
    simp only [PyData.depth]
    omega
theorem eqv_dchg {cs : List Nat} (h : Rg cs) (ks : List Nat) : PyData.eqv (.list (dchg cs ks)) (.list (dchg cs ks)) = true := PySem.SeqAt.eqv_refl _ (by simp only [PyData.canLay0, lay_dchg h])
end HopR

set_option Elab.async false
set_option linter.all false
set_option maxRecDepth 100000
namespace HopR
open PySem PySem.Spec PyProof.Rows L2
section
variable {X : Cx}
/-- tuple(text) -/
def rTupT : List V → Hp → VK → Prop := fun vs H Q => ∃ z : Str, vs = [.str z] ∧ z.length ≤ sizeLine ∧ ∀ p : Addr, H p = none → Q (.ref p) (upd H p (.tup ((sg z).map V.str)))
theorem cr_tupT (hcm : X.calm = true) : CallR X (.type "tuple") rTupT := by
  rintro pins s σ H _ us Q I r ⟨z, rfl, hz, q⟩
  obtain ⟨_, rfl, t, rfl⟩ := vals1 r
  refine call_tuple_str (I.ok.hd hcm) z t (fun h' tk acc old items => ?_) hz
  have after : Inv X pins σ H { s with heap := h', toks := tk } := I.kept old
  refine ⟨.ref h'.objs.size, _, after.laid (t' := tk) (fun b o e => Heap.get?_push_of_some _ e) (Nat.le_refl _) ?_, rfl, q _ (after.hok.fresh (Nat.le_refl _))⟩
  refine ⟨by rw [List.length_map, sg_len]; exact hz, acc.toList, vals_of_strs (signs_are items), ?_⟩
  rw [Array.toArray_toList]
  exact IsTup.new _ _
end
/-! ### lists of whole numbers as data -/
def dis (zs : List Int) : List PyData := zs.map PyData.int
theorem dp_ints {K : PySem.W.Frag} {H : Hp} : ∀ zs : List Int, DpAll K H (zs.map V.int) (dis zs)
  | [] => .nil
  | z :: r => .cons (.int z) (dp_ints r)
theorem lay_ints : ∀ zs : List Int, PyData.canLayAll0 (dis zs) = true
  | [] => rfl
  | z :: r => by
    show PyData.canLayAll0 (.int z :: dis r) = true
    simp only [PyData.canLayAll0, lay_ints r, Bool.and_true]
    rfl
theorem deep_ints : ∀ zs : List Int, PyData.depthAll (dis zs) = 0
  | [] => rfl
  | z :: r => by
    show PyData.depthAll (.int z :: dis r) = 0
    simp only [PyData.depthAll, deep_ints r]
    rfl
theorem shaped_zs (zs : List Int) : SeqAt.shaped (.list (dis zs)) = true := by
  unfold SeqAt.shaped
  rw [Bool.and_eq_true]
  refine ⟨?_, decide_eq_true ?_⟩
  · simp only [PyData.canLay0, lay_ints]
  · simp only [PyData.depth, deep_ints]
    decide
theorem cut_ints (ns : List Int) (hi : Int) (hl : ns.length ≤ 63) : ∃ zs : List Int, cutV (ns.map V.int) none (some hi) = zs.map V.int ∧ zs.length ≤ 63 := by
  unfold cutV
  refine ⟨(ns.drop (HT.sIx (ns.map V.int).length 0 none)).take (HT.sIx (ns.map V.int).length (ns.map V.int).length (some hi) - HT.sIx (ns.map V.int).length 0 none), by rw [List.map_take, List.map_drop], ?_⟩
  rw [List.length_take, List.length_drop]
  omega
end HopR

set_option Elab.async false
set_option linter.all false
set_option maxRecDepth 100000
namespace HopR
open PySem PySem.Spec PyProof.Rows L2
/-! ### sorted(texts, reverse=True): the same texts, in some order -/
def ltS (v u : Value) : Bool := decide ((strOf v).cps.toList < (strOf u).cps.toList)
theorem swo_txt : SrtO.Swo ltS where
  asym x y h := decide_eq_false (List.lt_asymm (of_decide_eq_true h))
  tr x y z h1 h2 := by
    have a := List.not_lt.mp (of_decide_eq_false h1)
    have b := List.not_lt.mp (of_decide_eq_false h2)
    exact decide_eq_false (List.not_lt.mpr (List.le_trans a b))
section
variable {prog : Program} {w : World} {A : Around} {s : Shared}
theorem texts_sortable {l : Addr} {vs : List Value} {ss : List Str} (are : StrsAre vs ss) (two : 2 ≤ vs.length) : SrtO.SortableO prog w A s l vs ltS := by
  intro h' _
  refine ⟨oneType', fun Q E q => ?_, fun x y hx hy => ?_⟩
  · obtain ⟨a, b, r, rfl⟩ : ∃ a b r, vs = a :: b :: r := by
      match vs, two with
      | a :: b :: r, _ => exact ⟨a, b, r, rfl⟩
    rw [keyKind_strs are]
    exact wpAny_pure q
  · obtain ⟨a, t, ea⟩ := are.all _ hx
    obtain ⟨b, u, eb⟩ := are.all _ hy
    show wpAny (model prog w) A (keyLt' oneType' x.1 y.1) (fun r s' => s' = _ ∧ r = ltS x.1 y.1) (fun _ _ => False) _
    rw [ea, eb, keyLt'_oneType]
    exact oneLt_str ⟨rfl, rfl⟩
end
section
variable {X : Cx}
def rSortTR (K : PySem.W.Frag) : List V → List V → Hp → VK → Prop := fun vs zs H Q => ∃ (a : Addr) (xs : List Str), vs = [.ref a] ∧ zs = [.bl true] ∧ SqL K H a (xs.map V.str) ∧ ∀ (ys : List Str) (p : Addr), ys.Perm xs → H p = none → Q (.ref p) (upd H p (.lst (ys.map V.str)))
theorem strs_of_vals : ∀ {xs : List Str} {us : List Value}, Vals (xs.map V.str) us → StrsAre us xs
  | [], _, h => by
    cases h
    exact .nil
  | x :: r, _, h => by
    cases h with
    | cons a b =>
      obtain ⟨t, rfl⟩ := a
      exact .cons x t (strs_of_vals b)
theorem cr_sortTR : CallRK X (.builtin "sorted") [Str.ofString "reverse"] (rSortTR X.K) := by
  rintro pins s σ H _ _ us ws Q I r rz ⟨a, xs, rfl, rfl, hs, q⟩
  obtain rfl := Vals.ref1 r
  obtain ⟨w1, rfl, e1⟩ := vals1 rz
  obtain rfl : w1 = Value.bool true := e1
  obtain ⟨its, rv, hl, hz⟩ := I.list hs
  have are := strs_of_vals rv
  refine SrtR.sorted_ordK (b := true) (fun _ => rfl) (args_sorted_rev _ _) (fun _ => args_list_sort_rev _ _) swo_txt hl.isList (by rw [← rv.length]; exact hz) (fun two _ _ _ _ => texts_sortable are two) fun out _ stb => ?_
  have pm : out.reverse.Perm its := out.reverse_perm.trans (stb.perm.trans its.reverse_perm)
  have are' : StrsAre out.reverse (out.reverse.map strOf) := strsAre_map _ fun v hv => are.all v (pm.mem_iff.mp hv)
  have pm' : (out.reverse.map strOf).Perm xs := by
    have := pm.map strOf
    rw [are.strs] at this
    exact this
  obtain ⟨ep, at_⟩ := sortedAll_at s.heap its (if true = true then out.toArray.reverse else out.toArray)
  have hlen : ((out.reverse.map strOf).map V.str).length ≤ sizeLine := by
    rw [List.length_map, pm'.length_eq]
    rw [List.length_map] at hz
    exact hz
  refine ⟨.ref (s.heap.objs.size + 1), upd H (s.heap.objs.size + 1) (.lst ((out.reverse.map strOf).map V.str)), I.laid (t' := s.toks) (fun _ _ => sortedAll_old) (Nat.le_succ _) ⟨hlen, out.reverse, ep, vals_of_strs are', ?_⟩, rfl, q _ _ pm' (I.hok.fresh (Nat.le_succ _))⟩
  rw [at_]
  simp
end
end HopR

set_option Elab.async false
set_option linter.all false
set_option maxRecDepth 100000
namespace HopR
open PySem PySem.Spec PyProof.Rows L2
/-! ### walks that hand out new tuples -/
/-- n turns; at each a new tuple of items that Y tells -/
def ItTup (n : Nat) (Y : Nat → List V → Prop) : It :=
  ⟨fun i _ => i < n, fun i H v H' => ∃ T xs, v = .ref T ∧ H T = none ∧ H' = upd H T (.tup xs) ∧ Y i xs, fun i _ => n ≤ i⟩
theorem turn_tup {P : Program} {w : World} {K : PySem.W.Frag} {elts : List Expr} {kk : Nat} {tpos : Pos} {it : Addr} {fp wr : List Addr} {n : Nat} {Pt : Nat → Array Value → Prop} {St : Nat → Heap → Prop} {Mid : Nat → Addr → Heap → Prop} {Y : Nat → List V → Prop}
    (mem : it ∈ fp) (obj : ∀ i h, St i h → ∀ b ∈ fp, ∃ o, h.get? b = some o ∧ ∀ v, o.data ≠ .cell v) (W : ∀ A : Around, A.handled = none → WalksT P w A it fp wr n Pt St Mid)
    (tells : ∀ i vals, Pt i vals → ∃ xs, xs.length ≤ sizeLine ∧ Vals xs vals.toList ∧ Y i xs) (self : ∀ (A : Around) (i : Nat) (s : Shared) (Q : Value → Shared → Prop) (E : Value → Shared → Prop), St i s.heap → Q (.ref it) s → wpAny (model P w) A (pyIter (.ref it)) Q E s)
    (W0 : WalksT P w callerA it fp wr n Pt St Mid) :
    Turn P w K (.Tuple elts kk tpos) (ItTup n Y) fp it (fun i h => i ≤ n ∧ St i h) where
  mem := mem
  obj i h st := obj i h st.2
  keep i h h' st k := ⟨st.1, W0.frame i h h' st.2 k⟩
  item := by
    intro X hP hw hK calm i pins s σ H E I free st go
    subst hP hw hK
    have V := W X.A (I.ok.hd calm)
    refine V.item i s _ E go st.2 fun T vals h1 tk told new tup mid old => ⟨.ref T, rfl, ?_⟩
    refine V.go elts kk tpos i T _ _ E mid fun h2 st2 old2 => ?_
    obtain ⟨xs, few, are, y⟩ := tells i vals told
    have out := V.apart i T h1 mid
    obtain ⟨o, ho, hr⟩ := tup
    have tup2 : h2.IsTuple T vals := ⟨o, old2 T o out ho, hr⟩
    have ok : ObjOk X.prog X.w (upd H T (.tup xs)) h2 T (.tup xs) := ⟨few, vals.toList, are, by rw [Array.toArray_toList]; exact tup2⟩
    have J : Inv X pins σ (upd H T (.tup xs)) { s with heap := h2, toks := tk } := I.turnedNew (ch := fp) (fun b ob nb q => old2 b ob (fun z => nb (V.sub b z)) (old b ob (fun z => nb (V.sub b z)) q)) free new ok
    refine ⟨.ref T, _, J, rfl, ⟨T, xs, rfl, I.hok.fresh new, rfl, y⟩, ⟨go, st2⟩, fun b hb => ?_⟩
    obtain ⟨ob, q, _⟩ := obj i s.heap st.2 b hb
    rw [upd_ne (Nat.ne_of_lt (Nat.lt_of_lt_of_le (Heap.lt_size q) new))]
    exact (free b hb).1
  done := by
    intro X hP hw hK calm i pins s σ H E I free st stop
    subst hP hw hK
    have V := W X.A (I.ok.hd calm)
    obtain rfl : i = n := Nat.le_antisymm st.1 stop
    exact V.done s _ E st.2 fun h1 tk old => ⟨rfl, I.turnedL (ch := fp) (fun b o nb q => old b o (fun z => nb (V.sub b z)) q) free⟩
  self A i s Q E st q := self A i s Q E st.2 q
/-- a loop over such a walk -/
theorem walk_tup {n : Nat} {Y : Nat → List V → Prop} : Walk (ItTup n Y) n (fun _ => True) (fun i H v H' => ∃ T xs, v = .ref T ∧ H T = none ∧ H' = upd H T (.tup xs) ∧ Y i xs) :=
  ⟨fun _ _ lt _ => lt, fun _ _ => Nat.le_refl _, fun _ _ _ _ _ _ y => y⟩
/-! ### zip(text, text) -/
theorem draws_txt {prog : Program} {w : World} {A : Around} (hh : A.handled = none) (it : Addr) (x : Str) (t : Tok) :
    Draws prog w A it [it] x.cps.size (fun i v => ∃ c u, x.cps[i]? = some c ∧ v = .str ⟨#[c]⟩ u) (fun i h => h.IsStrIter it (strIterType x) x t i) := by
  unfold strIterType
  split
  · exact .strAscii hh it x t
  · exact .strWide hh it x t
/-- the signs of both texts, place by place -/
def ZipY (x y : Str) (i : Nat) (vs : List V) : Prop := ∃ c e, x.cps[i]? = some c ∧ y.cps[i]? = some e ∧ vs = [.str ⟨#[c]⟩, .str ⟨#[e]⟩]
def iZipS (ta : TA) : TI := fun σ H R => ta σ H fun vs H1 => ∃ x y : Str, vs = [.str x, .str y] ∧ R (ItTup (min x.cps.size y.cps.size) (ZipY x y)) H1
theorem pi_zipS {X : Cx} {e e2 : Expr} {ta : TA} {p pos tpos : Pos} {elts : List Expr} {kk : Nat} (hg : Gl X "zip") (hm : X.mg "zip" = none) (ha : PA X [e, e2] ta)
    (hs : starEach [e, e2] X.env = (false, eval e X.env) :: starEach [e2] X.env := by rfl) (hpl : (backTo pos (starEach [e2] X.env)).any (·.1) = false := by rfl) :
    PI X (.Tuple elts kk tpos) (.Call (.Name "zip" p) [e, e2] [] pos) (iZipS ta) := by
  constructor
  intro pins s σ H R I h
  refine Call_ (ld_blt I hg hm boot_zip (callWith_type1 (thn (ha.run pos pins s σ H _ I h) ?_) hs hpl))
  rintro us s1 ⟨_, H1, J, rel, x, y, rfl, q⟩
  obtain ⟨_, _, rfl, ⟨t, rfl⟩, u, rfl⟩ := vals2 rel
  refine zip_begins2 (begins_text x t) (begins_text y u) trivial trivial fun h' isz pin pout at1 at2 _ old => wpAny_pyIter_zip isz ?_
  have sep : ZipSep2 (s1.heap.objs.size + 4) (s1.heap.objs.size + 2) (s1.heap.objs.size + 3) s1.heap.objs.size (s1.heap.objs.size + 1) [s1.heap.objs.size] [s1.heap.objs.size + 1] := by
    constructor <;> simp
  have W : ∀ A : Around, A.handled = none → WalksT X.prog X.w A (s1.heap.objs.size + 4) _ _ _ _ _ _ := fun A hh => WalksT.zipD2 sep (draws_txt (A := A.in1) hh s1.heap.objs.size x t) (draws_txt (A := A.in1) hh (s1.heap.objs.size + 1) y u)
  refine ⟨s1.heap.objs.size + 4, _, _, _, H1, rfl, J.kept (t' := s1.toks) old, turn_tup (Y := ZipY x y) (by simp) ?_ W ?_ ?_ (W callerA rfl), ⟨Nat.zero_le _, isz, pin, ⟨_, _, pout⟩, ⟨_, at1, rfl, rfl⟩, ⟨_, at2, rfl, rfl⟩⟩, ?_, q⟩
  · rintro i h ⟨hz, h1, ⟨_, _, h2⟩, ⟨o1, g1, _, d1⟩, ⟨o2, g2, _, d2⟩⟩ b hb
    have hb : b = s1.heap.objs.size + 4 ∨ b = s1.heap.objs.size + 2 ∨ b = s1.heap.objs.size + 3 ∨ b = s1.heap.objs.size ∨ b = s1.heap.objs.size + 1 := by simpa using hb
    rcases hb with rfl | rfl | rfl | rfl | rfl
    · exact ⟨_, hz, fun v q => nomatch q⟩
    · exact ⟨_, h1, fun v q => nomatch q⟩
    · exact ⟨_, h2, fun v q => nomatch q⟩
    · exact ⟨o1, g1, fun v q => by rw [d1] at q; cases q⟩
    · exact ⟨o2, g2, fun v q => by rw [d2] at q; cases q⟩
  · rintro i vals ⟨_, _, ⟨c, t1, hc, rfl⟩, ⟨e, t2, he, rfl⟩, rfl⟩
    exact ⟨[.str ⟨#[c]⟩, .str ⟨#[e]⟩], by show 2 ≤ sizeLine; decide, .cons ⟨t1, rfl⟩ (.cons ⟨t2, rfl⟩ .nil), c, e, hc, he, rfl⟩
  · exact fun A i s Q E st q => wpAny_pyIter_zip st.1 q
  · intro b hb
    have hb : b = s1.heap.objs.size + 4 ∨ b = s1.heap.objs.size + 2 ∨ b = s1.heap.objs.size + 3 ∨ b = s1.heap.objs.size ∨ b = s1.heap.objs.size + 1 := by simpa using hb
    have le : s1.heap.objs.size ≤ b := by
      rcases hb with rfl | rfl | rfl | rfl | rfl
      · exact Nat.le_add_right _ _
      · exact Nat.le_add_right _ _
      · exact Nat.le_add_right _ _
      · exact Nat.le_refl _
      · exact Nat.le_add_right _ _
    exact J.fpOk le (J.hok.fresh le)
end HopR

set_option Elab.async false
set_option linter.all false
set_option maxRecDepth 100000
namespace HopR
open PySem L2
/-! ### a row beneath a row -/
def ust (u l : Bool) : Int := (if u then 1 else 0) - (if l then 0 else 1)
def bn : Int → List Bool → List Bool → Bool
  | o, u :: us, l :: ls => if o + ust u l < 0 then false else bn (o + ust u l) us ls
  | o, _, _ => decide (o = 0)
theorem bn_nil (o : Int) (ls : List Bool) : bn o [] ls = decide (o = 0) := by
  cases ls <;> rfl
theorem bn_cons (o : Int) (u l : Bool) (us ls : List Bool) : bn o (u :: us) (l :: ls) = if o + ust u l < 0 then false else bn (o + ust u l) us ls := rfl
def rise (b : Bool) : Int := if b then 1 else -1
theorem rise_two (u l : Bool) : rise u + rise l = 2 * ust u l := by cases u <;> cases l <;> rfl
/-- as the law looks -/
def lb : Int → List Bool → List Nat → Bool
  | h, u :: us, c :: cs => if okc c = false then false else if h + rise u + rise (decide (c = 111)) < 0 then false else lb (h + rise u + rise (decide (c = 111))) us cs
  | h, _, _ => decide (h = 0)
def bls (cs : List Nat) : List Bool := cs.map fun c => decide (c = 111)
theorem lb_eq : ∀ (us : List Bool) (cs : List Nat) (o : Int), us.length = cs.length → lb (2 * o) us cs = (cs.all okc && bn o us (bls cs))
  | [], [], o, _ => by
    show decide (2 * o = 0) = (true && decide (o = 0))
    by_cases h : o = 0
    · rw [decide_eq_true h, decide_eq_true (by omega)]; rfl
    · rw [decide_eq_false h, decide_eq_false (by omega)]; rfl
  | [], c :: cs, o, h => by simp at h
  | u :: us, [], o, h => by simp at h
  | u :: us, c :: cs, o, h => by
    have hl : us.length = cs.length := by simpa using h
    show (if okc c = false then false else if 2 * o + rise u + rise (decide (c = 111)) < 0 then false else lb (2 * o + rise u + rise (decide (c = 111))) us cs) = ((okc c && cs.all okc) && (if o + ust u (decide (c = 111)) < 0 then false else bn (o + ust u (decide (c = 111))) us (bls cs)))
    cases hc : okc c with
    | false => rfl
    | true =>
      rw [if_neg (by decide)]
      have e := rise_two u (decide (c = 111))
      have e2 : 2 * o + rise u + rise (decide (c = 111)) = 2 * (o + ust u (decide (c = 111))) := by omega
      rw [e2, lb_eq us cs _ hl, Bool.true_and]
      by_cases hn : o + ust u (decide (c = 111)) < 0
      · rw [if_pos hn, if_pos (by omega), Bool.and_false]
      · rw [if_neg hn, if_neg (by omega)]
/-- whether x is beneath the row of bs -/
def bnB (bs : List Bool) (cs : List Nat) : Bool := decide (cs.length = bs.length) && (cs.all okc && bn 0 bs (bls cs))
def BnB (K : PySem.W.Frag) (H : Hp) (bs : List Bool) (x : V) (b : Bool) : Prop := (NoTxt K H x ∧ b = false) ∨ ∃ cs : List Nat, x = .str (rt cs) ∧ cs.length ≤ 10000 ∧ b = bnB bs cs
theorem bnB_same {K : PySem.W.Frag} {H H' : Hp} {bs : List Bool} {x : V} {b : Bool} (s : Same H H') (h : BnB K H bs x b) : BnB K H' bs x b := h.imp (fun ⟨q, e⟩ => ⟨notxt_same s q, e⟩) id
theorem tx_rt (bs : List Bool) : tx bs = rt (bs.map cd) := ext_str (by rw [tx_list, rt_list])
theorem bls_tx (bs : List Bool) : bls (bs.map cd) = bs := by
  unfold bls
  rw [List.map_map]
  conv => rhs; rw [← List.map_id bs]
  congr 1
  funext b
  cases b <;> rfl
theorem okc_map (bs : List Bool) : (bs.map cd).all okc = true := by
  rw [List.all_map, List.all_eq_true]
  exact fun b _ => okc_cd b
theorem okc_row {cs : List Nat} (h : cs.all okc = true) : rt cs = tx (bls cs) := by
  rw [tx_rt]
  congr 1
  unfold bls
  rw [List.map_map]
  conv => lhs; rw [← List.map_id cs]
  apply List.map_congr_left
  intro c hc
  have := List.all_eq_true.mp h c hc
  unfold okc at this
  simp only [Bool.or_eq_true, decide_eq_true_eq] at this
  rcases this with rfl | rfl <;> rfl
theorem bnB_tx (bs ls : List Bool) : bnB bs (ls.map cd) = (decide (ls.length = bs.length) && bn 0 bs ls) := by
  unfold bnB
  rw [List.length_map, okc_map, bls_tx, Bool.true_and]
end HopR

set_option Elab.async false
set_option linter.all false
set_option maxRecDepth 100000
namespace HopR
open PySem L2
/-! ### how many ways lead on from each height -/
def geti (L : List Int) (i : Int) : Int := if 0 ≤ i ∧ i < (L.length : Int) then L.getD i.toNat 0 else 0
def own (b : Bool) (L : List Int) : List Int := (List.range L.length).map fun h : Nat => geti L ((h : Int) + (rise b - 1)) + geti L ((h : Int) + (rise b + 1))
def tab (L0 : List Int) : List Bool → List (List Int)
  | [] => [L0]
  | b :: bs => own b ((tab L0 bs).headD []) :: tab L0 bs
theorem own_len (b : Bool) (L : List Int) : (own b L).length = L.length := by
  unfold own
  rw [List.length_map, List.length_range]
theorem own_at {b : Bool} {L : List Int} {h : Nat} (hh : h < L.length) : geti (own b L) (h : Int) = geti L ((h : Int) + (rise b - 1)) + geti L ((h : Int) + (rise b + 1)) := by
  conv => lhs; unfold geti
  rw [if_pos ⟨by omega, by rw [own_len]; omega⟩]
  unfold own
  rw [Int.toNat_natCast, List.getD_eq_getElem?_getD, List.getElem?_map, List.getElem?_range hh]
  rfl
/-- the table from the row's beginning on -/
def hd (L0 : List Int) (bs : List Bool) : List Int := (tab L0 bs).headD []
theorem tab_hd (L0 : List Int) (bs : List Bool) : ∃ r, tab L0 bs = hd L0 bs :: r := by
  cases bs with
  | nil => exact ⟨[], rfl⟩
  | cons b r => exact ⟨tab L0 r, rfl⟩
theorem hd_cons (L0 : List Int) (b : Bool) (bs : List Bool) : hd L0 (b :: bs) = own b (hd L0 bs) := rfl
theorem hd_len (L0 : List Int) : ∀ bs : List Bool, (hd L0 bs).length = L0.length
  | [] => rfl
  | b :: r => by rw [hd_cons, own_len, hd_len L0 r]
theorem tab_len (L0 : List Int) : ∀ bs : List Bool, (tab L0 bs).length = bs.length + 1
  | [] => rfl
  | b :: r => by
    show (tab L0 r).length + 1 = r.length + 1 + 1
    rw [tab_len L0 r]
theorem tab_at (L0 : List Int) : ∀ (bs : List Bool) (k : Nat), k ≤ bs.length → (tab L0 bs)[k]? = some (hd L0 (bs.drop k))
  | bs, 0, _ => by
    obtain ⟨r, e⟩ := tab_hd L0 bs
    rw [e]
    rfl
  | [], k + 1, h => by simp at h
  | b :: r, k + 1, h => by
    show (tab L0 r)[k]? = some (hd L0 (r.drop k))
    exact tab_at L0 r k (by simpa using h)
theorem geti_nn {L : List Int} (h : ∀ x ∈ L, 0 ≤ x) (i : Int) : 0 ≤ geti L i := by
  unfold geti
  split
  · rw [List.getD_eq_getElem?_getD]
    cases e : L[i.toNat]? with
    | none => exact Int.le_refl _
    | some x => exact h x (List.mem_of_getElem? e)
  · exact Int.le_refl _
theorem own_nn {b : Bool} {L : List Int} (h : ∀ x ∈ L, 0 ≤ x) : ∀ x ∈ own b L, 0 ≤ x := by
  intro x hx
  obtain ⟨i, _, rfl⟩ := List.mem_map.mp hx
  have h1 := geti_nn h ((i : Int) + (rise b - 1))
  have h2 := geti_nn h ((i : Int) + (rise b + 1))
  omega
theorem hd_nn {L0 : List Int} (h : ∀ x ∈ L0, 0 ≤ x) : ∀ bs : List Bool, ∀ x ∈ hd L0 bs, 0 ≤ x
  | [] => h
  | b :: r => by
    rw [hd_cons]
    exact own_nn (hd_nn h r)
/-- something always leads on from height 0 -/
theorem hd_zero {L0 : List Int} (h : ∀ x ∈ L0, 0 ≤ x) (h0 : 0 < geti L0 0) (hl : 0 < L0.length) : ∀ bs : List Bool, 0 < geti (hd L0 bs) 0
  | [] => h0
  | b :: r => by
    have ih := hd_zero h h0 hl r
    have e := own_at (b := b) (L := hd L0 r) (h := 0) (by rw [hd_len]; exact hl)
    rw [hd_cons]
    have e' : geti (own b (hd L0 r)) 0 = geti (own b (hd L0 r)) ((0 : Nat) : Int) := rfl
    rw [e', e]
    have n1 := geti_nn (hd_nn h r) (((0 : Nat) : Int) + (rise b - 1))
    have n2 := geti_nn (hd_nn h r) (((0 : Nat) : Int) + (rise b + 1))
    cases b with
    | true =>
      have : (((0 : Nat) : Int) + (rise true - 1)) = 0 := rfl
      rw [this] at n1 ⊢
      omega
    | false =>
      have : (((0 : Nat) : Int) + (rise false + 1)) = 0 := rfl
      rw [this] at n2 ⊢
      omega
theorem geti_at {L : List Int} {j : Nat} (h : j < L.length) : atI (L.map V.int) (j : Int) = some (.int (geti L (j : Int))) := atI_nat (by
  unfold geti
  rw [if_pos ⟨by omega, by omega⟩, List.getElem?_map, List.getD_eq_getElem?_getD, Int.toNat_natCast, List.getElem?_eq_getElem h]
  rfl)
/-! ### lists of lists -/
def Lsts (H : Hp) (o : Addr) : List (List Int) → List V → Prop
  | [], vs => vs = []
  | L :: r, vs => ∃ p vr, vs = .ref p :: vr ∧ p ≠ o ∧ H p = some (.lst (L.map V.int)) ∧ Lsts H o r vr
theorem lsts_same {H H' : Hp} {o : Addr} (s : Same H H') : ∀ {Ls : List (List Int)} {vs : List V}, Lsts H o Ls vs → Lsts H' o Ls vs
  | [], _, h => h
  | L :: r, _, ⟨p, vr, e, n, h1, h2⟩ => ⟨p, vr, e, n, s _ _ h1, lsts_same s h2⟩
theorem lsts_upd {H : Hp} {o : Addr} {x : HO} : ∀ {Ls : List (List Int)} {vs : List V}, Lsts H o Ls vs → Lsts (upd H o x) o Ls vs
  | [], _, h => h
  | L :: r, _, ⟨p, vr, e, n, h1, h2⟩ => ⟨p, vr, e, n, by rw [upd_ne n]; exact h1, lsts_upd h2⟩
theorem lsts_len {H : Hp} {o : Addr} : ∀ {Ls : List (List Int)} {vs : List V}, Lsts H o Ls vs → vs.length = Ls.length
  | [], _, h => by
    cases h
    rfl
  | L :: r, _, ⟨p, vr, e, _, _, h2⟩ => by rw [e, List.length_cons, List.length_cons, lsts_len h2]
theorem lsts_at {H : Hp} {o : Addr} : ∀ {Ls : List (List Int)} {vs : List V} {k : Nat} {L : List Int}, Lsts H o Ls vs → Ls[k]? = some L → ∃ p, vs[k]? = some (.ref p) ∧ H p = some (.lst (L.map V.int))
  | [], _, k, L, h, e => by simp at e
  | M :: r, _, 0, L, ⟨p, vr, ev, _, h1, h2⟩, e => by
    have : M = L := Option.some.inj e
    subst this
    exact ⟨p, by rw [ev]; rfl, h1⟩
  | M :: r, _, k + 1, L, ⟨p, vr, ev, _, h1, h2⟩, e => by
    obtain ⟨p', e1, e2⟩ := lsts_at (k := k) h2 e
    exact ⟨p', by rw [ev]; exact e1, e2⟩
end HopR

set_option Elab.async false
set_option linter.all false
set_option maxRecDepth 100000
namespace HopR
open PySem L2
/-! ### lists of new tuples -/
def TupG {α : Type} (H : Hp) (f : α → List V) : List α → List V → Prop
  | [], vs => vs = []
  | a :: r, vs => ∃ p vr, vs = .ref p :: vr ∧ H p = some (.tup (f a)) ∧ TupG H f r vr
section
variable {α : Type} {H H' : Hp} {f : α → List V}
theorem tupG_same (s : Same H H') : ∀ {as : List α} {vs : List V}, TupG H f as vs → TupG H' f as vs
  | [], _, h => h
  | _ :: _, _, ⟨p, vr, e, h1, h2⟩ => ⟨p, vr, e, s _ _ h1, tupG_same s h2⟩
theorem tupG_upd {D : Addr} {xs : List V} {o : HO} (hD : H D = some (.lst xs)) : ∀ {as : List α} {vs : List V}, TupG H f as vs → TupG (upd H D o) f as vs
  | [], _, h => h
  | _ :: _, _, ⟨p, vr, e, h1, h2⟩ => ⟨p, vr, e, by
      rw [upd_ne (fun z => by rw [z, hD] at h1; cases h1)]
      exact h1, tupG_upd hD h2⟩
theorem tupG_add {a : α} {p : Addr} (h1 : H p = some (.tup (f a))) : ∀ {as : List α} {vs : List V}, TupG H f as vs → TupG H f (as ++ [a]) (vs ++ [.ref p])
  | [], _, h => by
    cases h
    exact ⟨p, [], rfl, h1, rfl⟩
  | _ :: _, _, ⟨p', vr, e, h2, h3⟩ => ⟨p', vr ++ [.ref p], by rw [e]; rfl, h2, tupG_add h1 h3⟩
theorem tupG_len : ∀ {as : List α} {vs : List V}, TupG H f as vs → vs.length = as.length
  | [], _, h => by
    cases h
    rfl
  | _ :: _, _, ⟨_, vr, e, _, h2⟩ => by rw [e, List.length_cons, List.length_cons, tupG_len h2]
theorem tupG_at : ∀ {as : List α} {vs : List V} {k : Nat} {a : α}, TupG H f as vs → as[k]? = some a → ∃ p, vs[k]? = some (.ref p) ∧ H p = some (.tup (f a))
  | [], _, k, a, h, e => by simp at e
  | b :: r, _, 0, a, ⟨p, vr, ev, h1, h2⟩, e => by
    have : b = a := Option.some.inj e
    subst this
    exact ⟨p, by rw [ev]; rfl, h1⟩
  | b :: r, _, k + 1, a, ⟨p, vr, ev, h1, h2⟩, e => by
    obtain ⟨p', e1, e2⟩ := tupG_at (k := k) h2 e
    exact ⟨p', by rw [ev]; exact e1, e2⟩
end
/-! ### from height to height -/
theorem geti_pos {L : List Int} {i : Int} (h : 0 < geti L i) : 0 ≤ i ∧ i < (L.length : Int) := by
  unfold geti at h
  split at h
  · assumption
  · omega
/-- the sign l leads on from height h -/
def leads (L : List Int) (h : Int) (u l : Bool) : Bool := decide (0 ≤ h + rise u + rise l) && decide (0 < geti L (h + rise u + rise l))
theorem some_leads {L : List Int} {h : Nat} {u : Bool} (hh : h < L.length) (hp : 0 < geti (own u L) (h : Int)) : ∃ l, leads L (h : Int) u l = true := by
  rw [own_at hh] at hp
  by_cases h1 : 0 < geti L ((h : Int) + (rise u - 1))
  · refine ⟨false, ?_⟩
    have e : (h : Int) + rise u + rise false = (h : Int) + (rise u - 1) := by
      show (h : Int) + rise u + (-1) = _
      omega
    unfold leads
    rw [e, decide_eq_true (geti_pos h1).1, decide_eq_true h1]
    rfl
  · have h2 : 0 < geti L ((h : Int) + (rise u + 1)) := by omega
    refine ⟨true, ?_⟩
    have e : (h : Int) + rise u + rise true = (h : Int) + (rise u + 1) := by
      show (h : Int) + rise u + 1 = _
      omega
    unfold leads
    rw [e, decide_eq_true (geti_pos h2).1, decide_eq_true h2]
    rfl
end HopR

set_option Elab.async false
set_option linter.all false
set_option maxRecDepth 100000
namespace HopR
open PySem L2
/-! ### data that can be shown -/
structure Okd (d : PyData) (k N : Nat) : Prop where
  sh : d.showable = true
  nd : d.hasDict = false
  dp : d.depth ≤ k
  ls : d.leavesShort 13 = true
  wt : d.weight ≤ N
structure Okds (ds : List PyData) (k N : Nat) : Prop where
  sh : PyData.showableAll ds = true
  nd : PyData.hasDictAll ds = false
  dp : PyData.depthAll ds ≤ k
  ls : PyData.leavesShortAll 13 ds = true
  wt : PyData.weightAll ds ≤ N
theorem Okds.nil {k : Nat} : Okds [] k 0 := ⟨rfl, rfl, Nat.zero_le _, rfl, Nat.le_refl _⟩
theorem Okds.cons {d : PyData} {ds : List PyData} {k N M : Nat} (a : Okd d k N) (b : Okds ds k M) : Okds (d :: ds) k (N + 1 + M) where
  sh := by simp only [PyData.showableAll, a.sh, b.sh, Bool.and_true]
  nd := by simp only [PyData.hasDictAll, a.nd, b.nd, Bool.or_false]
  dp := by
    simp only [PyData.depthAll]
    exact Nat.max_le.mpr ⟨a.dp, b.dp⟩
  ls := by simp only [PyData.leavesShortAll, a.ls, b.ls, Bool.and_true]
  wt := by
    simp only [PyData.weightAll]
    have := a.wt
    have := b.wt
    omega
theorem Okds.list {ds : List PyData} {k N : Nat} (a : Okds ds k N) : Okd (.list ds) (k + 1) N :=
  ⟨by simp only [PyData.showable, a.sh], by simp only [PyData.hasDict, a.nd], by simp only [PyData.depth]; exact Nat.succ_le_succ a.dp, by simp only [PyData.leavesShort, a.ls], by simp only [PyData.weight]; exact a.wt⟩
theorem Okds.tuple {ds : List PyData} {k N : Nat} (a : Okds ds k N) : Okd (.tuple ds) (k + 1) N :=
  ⟨by simp only [PyData.showable, a.sh], by simp only [PyData.hasDict, a.nd], by simp only [PyData.depth]; exact Nat.succ_le_succ a.dp, by simp only [PyData.leavesShort, a.ls], by simp only [PyData.weight]; exact a.wt⟩
theorem Okd.int {i : Int} {k : Nat} (h : i.natAbs < 1000000000000) : Okd (.int i) k 41 := by
  have hl : i.natAbs.log2 < 40 ∨ i.natAbs = 0 := by
    by_cases h0 : i.natAbs = 0
    · exact .inr h0
    · exact .inl ((Nat.log2_lt h0).mpr (by omega))
  have hl : i.natAbs.log2 < 40 := hl.elim id fun e => by
    rw [e]
    decide
  refine ⟨decide_eq_true (by omega), rfl, Nat.zero_le _, ?_, ?_⟩
  · simp only [PyData.leavesShort]
    exact decide_eq_true (PyData.shown_int_le h)
  · simp only [PyData.weight]
    split <;> omega
theorem Okd.bool {b : Bool} {k : Nat} : Okd (.bool b) k 0 := ⟨rfl, rfl, Nat.zero_le _, rfl, Nat.le_refl _⟩
theorem Okd.none {k : Nat} : Okd .none k 0 := ⟨rfl, rfl, Nat.zero_le _, rfl, Nat.le_refl _⟩
theorem Okd.tx {bs : List Bool} {k : Nat} : Okd (.str (tx bs)) k bs.length := by
  refine ⟨rfl, rfl, Nat.zero_le _, ?_, ?_⟩
  · simp only [PyData.leavesShort]
    rw [tx_list, List.all_map, List.all_eq_true]
    intro b _
    cases b <;> decide
  · simp only [PyData.weight]
    exact Nat.le_of_eq (tx_len bs)
theorem Okds.ints : ∀ {ks : List Nat} {k : Nat}, (∀ j ∈ ks, j < 1000000000000) → Okds (ks.map dw) k (42 * ks.length)
  | [], k, _ => Okds.nil
  | a :: r, k, h => by
    have h1 : Okd (dw a) k 41 := Okd.int (i := (a : Int)) (h a (List.mem_cons_self ..))
    have h2 : Okds (r.map dw) k (42 * r.length) := Okds.ints fun j hj => h j (List.mem_cons_of_mem _ hj)
    have := Okds.cons h1 h2
    rw [List.length_cons, show 42 * (r.length + 1) = 41 + 1 + 42 * r.length by omega]
    exact this
theorem Okd.mono {d : PyData} {k k' N N' : Nat} (a : Okd d k N) (hk : k ≤ k') (hN : N ≤ N') : Okd d k' N' := ⟨a.sh, a.nd, Nat.le_trans a.dp hk, a.ls, Nat.le_trans a.wt hN⟩
theorem Okd.fits {d : PyData} {k N : Nat} (a : Okd d k N) (hN : N ≤ 1048576) : d.shown.length ≤ sizeLine := PyData.shown_fits (B := 13) (by decide) (by decide) a.ls (Nat.le_trans a.wt hN)
end HopR

set_option Elab.async false
set_option linter.all false
set_option maxRecDepth 100000
namespace HopW
open PySem L2 HopR HopT
/-- an end: what stands in its tuple -/
def f3i (e : En) : List V := [.int (e.1.1 : Int), .int (e.1.2 : Int), .int e.2]
theorem paired_imp {α β : Type} {R S : α → β → Prop} (h : ∀ a b, R a b → S a b) : ∀ {l : List α} {m : List β}, Paired R l m → Paired S l m
  | _, _, .nil => .nil
  | _, _, .cons r t => .cons (h _ _ r) (paired_imp h t)
theorem paired_snoc {α β : Type} {R : α → β → Prop} {a : α} {b : β} : ∀ {l : List α} {m : List β}, Paired R l m → R a b → Paired R (l ++ [a]) (m ++ [b])
  | _, _, .nil, h => .cons h .nil
  | _, _, .cons r t, h => .cons r (paired_snoc t h)
theorem paired_left {α β : Type} {R : α → β → Prop} : ∀ {l : List α} {m : List β}, Paired R l m → ∀ a ∈ l, ∃ b, b ∈ m ∧ R a b
  | _, _, .nil, a, h => absurd h (by simp)
  | x :: l, _, .cons r t, a, h => by
    rcases List.mem_cons.mp h with rfl | h
    · exact ⟨_, List.mem_cons_self .., r⟩
    · obtain ⟨b, m, q⟩ := paired_left t a h
      exact ⟨b, List.mem_cons_of_mem _ m, q⟩
theorem paired_perm {α β : Type} {R : α → β → Prop} {k l : List α} (p : k.Perm l) : ∀ {m : List β}, Paired R l m → ∃ m', m'.Perm m ∧ Paired R k m' := by
  induction p with
  | nil => exact fun h => ⟨_, .refl _, h⟩
  | cons x _ ih =>
    intro m h
    cases h with
    | cons r t =>
      obtain ⟨m', p', h'⟩ := ih t
      exact ⟨_, p'.cons _, .cons r h'⟩
  | swap x y l =>
    intro m h
    cases h with
    | cons r t =>
      cases t with
      | cons r' t => exact ⟨_, .swap _ _ _, .cons r' (.cons r t)⟩
  | trans _ _ ih1 ih2 =>
    intro m h
    obtain ⟨m1, p1, h1⟩ := ih2 h
    obtain ⟨m2, p2, h2⟩ := ih1 h1
    exact ⟨m2, p2.trans p1, h2⟩
theorem paired_len {α β : Type} {R : α → β → Prop} : ∀ {l : List α} {m : List β}, Paired R l m → l.length = m.length
  | _, _, .nil => rfl
  | _, _, .cons _ t => congrArg (· + 1) (paired_len t)
theorem paired_right {α β : Type} {R : α → β → Prop} : ∀ {l : List α} {m : List β}, Paired R l m → ∀ b ∈ m, ∃ a, a ∈ l ∧ R a b
  | _, _, .nil, b, h => absurd h (by simp)
  | _, y :: m, .cons r t, b, h => by
    rcases List.mem_cons.mp h with rfl | h
    · exact ⟨_, List.mem_cons_self .., r⟩
    · obtain ⟨a, mm, q⟩ := paired_right t b h
      exact ⟨a, List.mem_cons_of_mem _ mm, q⟩
theorem paired_pw {α β : Type} {R : α → β → Prop} {S : α → α → Prop} {S' : β → β → Prop} (h : ∀ a b a' b', R a b → R a' b' → S a a' → S' b b') : ∀ {l : List α} {m : List β}, Paired R l m → l.Pairwise S → m.Pairwise S'
  | _, _, .nil, _ => .nil
  | _, _, .cons r t, p => by
    have p' := List.pairwise_cons.mp p
    refine List.pairwise_cons.mpr ⟨fun b hb => ?_, paired_pw h t p'.2⟩
    obtain ⟨a, ha, ra⟩ := paired_right t b hb
    exact h _ _ _ _ r ra (p'.1 a ha)
/-- what three ints stand at t -/
def trK (H : Hp) (t : Addr) : T3 := match H t with
  | some (.tup [.int a, .int b, .int c]) => (a, b, c)
  | _ => (0, 0, 0)
theorem trK_at {H : Hp} {t : Addr} {e : En} (h : H t = some (.tup (f3i e))) : trK H t = ((e.1.1 : Int), (e.1.2 : Int), e.2) := by
  unfold trK
  rw [h]
  rfl
theorem srt_keys {H : Hp} {ts : List Addr} {G : List En} (pr : Paired (fun t e => H t = some (.tup (f3i e))) ts G) : ∀ t ∈ ts, H t = some (.tup [.int (trK H t).1, .int (trK H t).2.1, .int (trK H t).2.2]) := fun t ht => by
  obtain ⟨e, _, h⟩ := paired_left pr t ht
  rw [trK_at h]
  exact h
theorem srt_ends {H : Hp} {ys : List Addr} {G : List En} (pr : Paired (fun t e => H t = some (.tup (f3i e))) ys G) (h : ys.Pairwise (fun x y => lexT (trK H y) (trK H x) = false)) : G.Pairwise le3 := by
  refine paired_pw (fun a b a' b' r r' s => ?_) pr h
  rw [trK_at r, trK_at r'] at s
  have s := lexT_no.mp s
  obtain ⟨⟨a, b⟩, c⟩ := b
  obtain ⟨⟨a', b'⟩, c'⟩ := b'
  have s : ¬ ((a' : Int) < a ∨ ((a' : Int) = a ∧ ((b' : Int) < b ∨ ((b' : Int) = b ∧ c' < c)))) := s
  show a < a' ∨ a = a' ∧ (b < b' ∨ b = b' ∧ c ≤ c')
  omega
theorem tupG_of {H : Hp} : ∀ {ts : List Addr} {G : List En}, Paired (fun t e => H t = some (.tup (f3i e))) ts G → TupG H f3i G (ts.map V.ref)
  | _, _, .nil => rfl
  | _, _, .cons r t => ⟨_, _, rfl, r, tupG_of t⟩
/-! ### a list of ends as data -/
def dE (G : List En) : PyData := .list (G.map fun e => .tuple [.int (e.1.1 : Int), .int (e.1.2 : Int), .int e.2])
theorem dp_ends {K : PySem.W.Frag} {H : Hp} : ∀ {G : List En} {vs : List V}, TupG H f3i G vs → DpAll K H vs (G.map fun e => .tuple [.int (e.1.1 : Int), .int (e.1.2 : Int), .int e.2])
  | [], _, h => by
    cases h
    exact .nil
  | e :: G, _, ⟨p, vr, ev, h1, h2⟩ => by
    rw [ev]
    exact .cons (.tup (SqT.of h1) (.cons (.int _) (.cons (.int _) (.cons (.int _) .nil)))) (dp_ends h2)
theorem dE_of {K : PySem.W.Frag} {H : Hp} {p : Addr} {vs : List V} {G : List En} (e : H p = some (.lst vs)) (g : TupG H f3i G vs) : Dp K H (.ref p) (dE G) := .lst (SqL.of e) (dp_ends g)
theorem lay_ends : ∀ G : List En, PyData.canLayAll0 (G.map fun e => .tuple [.int (e.1.1 : Int), .int (e.1.2 : Int), .int e.2]) = true
  | [] => rfl
  | e :: G => by
    rw [List.map_cons]
    simp only [PyData.canLayAll0, PyData.canLay0, lay_ends G, Bool.and_true]
theorem deep_ends : ∀ G : List En, PyData.depthAll (G.map fun e => .tuple [.int (e.1.1 : Int), .int (e.1.2 : Int), .int e.2]) ≤ 1
  | [] => Nat.zero_le _
  | e :: G => by
    rw [List.map_cons]
    have := deep_ends G
    simp only [PyData.depthAll, PyData.depth]
    omega
theorem dE_shaped (G : List En) : SeqAt.shaped (dE G) = true := by
  unfold SeqAt.shaped dE
  rw [Bool.and_eq_true]
  refine ⟨by simp only [PyData.canLay0, lay_ends], decide_eq_true ?_⟩
  have := deep_ends G
  simp only [PyData.depth]
  omega
theorem dE_self (G : List En) : PyData.eqv (dE G) (dE G) = true := SeqAt.eqv_refl _ (SeqAt.canLay_of_shaped (dE_shaped G))
theorem okd_ends : ∀ {G : List En}, (∀ e ∈ G, e.1.1 < 1000 ∧ e.1.2 < 1000 ∧ e.2.natAbs < 1000000000000) → Okds (G.map fun e => .tuple [.int (e.1.1 : Int), .int (e.1.2 : Int), .int e.2]) 1 (127 * G.length)
  | [], _ => Okds.nil
  | e :: G, h => by
    obtain ⟨h1, h2, h3⟩ := h e (List.mem_cons_self ..)
    have a1 : Okd (.int (e.1.1 : Int)) 0 41 := Okd.int (by omega)
    have a2 : Okd (.int (e.1.2 : Int)) 0 41 := Okd.int (by omega)
    have a3 : Okd (.int e.2) 0 41 := Okd.int h3
    have t := (Okds.cons a1 (Okds.cons a2 (Okds.cons a3 Okds.nil))).tuple
    have r := Okds.cons t (okd_ends (G := G) (fun e m => h e (List.mem_cons_of_mem _ m)))
    rw [List.length_cons, show 127 * (G.length + 1) = (41 + 1 + (41 + 1 + (41 + 1 + 0))) + 1 + 127 * G.length by omega]
    exact r
theorem okd_dE {G : List En} (h : ∀ e ∈ G, e.1.1 < 1000 ∧ e.1.2 < 1000 ∧ e.2.natAbs < 1000000000000) : Okd (dE G) 2 (127 * G.length) := (okd_ends h).list
theorem eN_near {w : List Bool} (hw : w.length ≤ 30) (hl : ∀ e ∈ eN w, e.1.1 < 1000 ∧ e.1.2 < 1000) : ∀ e ∈ eN w, e.1.1 < 1000 ∧ e.1.2 < 1000 ∧ e.2.natAbs < 1000000000000 := fun e he => by
  obtain ⟨h1, h2⟩ := hl e he
  refine ⟨h1, h2, Nat.lt_of_le_of_lt (eN_most he).2 (Nat.lt_of_le_of_lt (Nat.pow_le_pow_right (by decide) hw) (by decide))⟩
end HopW

set_option Elab.async false
set_option linter.all false
set_option maxRecDepth 100000
namespace HopH
open PySem PySem.Spec PyProof.Rows L2 HopR HopT
/-! ### lists of pairs and of triples in the machine -/
def t2v (c : Int × Int) : List V := [.int c.1, .int c.2]
def t3v (e : I3) : List V := [.int e.1, .int e.2.1, .str (tx [e.2.2])]
def k3 (e : I3) : List Key := [.inl e.1, .inl e.2.1, .inr (tx [e.2.2])]
/-- at p a list of new tuples -/
def TL {α : Type} (f : α → List V) (H : Hp) (p : Addr) (l : List α) : Prop := ∃ acc, H p = some (.lst acc) ∧ TupG H f l acc
theorem TL.same {α : Type} {f : α → List V} {H H' : Hp} {p : Addr} {l : List α} (s : Same H H') (h : TL f H p l) : TL f H' p l := let ⟨acc, e, g⟩ := h; ⟨acc, s _ _ e, tupG_same s g⟩
theorem tupG_item {α : Type} {H : Hp} {f : α → List V} : ∀ {as : List α} {vs : List V} {k : Nat} {x : V}, TupG H f as vs → vs[k]? = some x → ∃ a p, as[k]? = some a ∧ x = .ref p ∧ H p = some (.tup (f a))
  | [], _, k, x, h, e => by cases h; simp at e
  | a :: as, _, k, x, ⟨p, vr, ev, h1, h2⟩, e => by
    subst ev
    cases k with
    | zero => cases e; exact ⟨a, p, rfl, rfl, h1⟩
    | succ k => exact tupG_item (as := as) h2 e
theorem tupG_paired {α : Type} {H : Hp} {f : α → List V} : ∀ {as : List α} {vs : List V}, TupG H f as vs → Paired (fun v a => ∃ p, v = V.ref p ∧ H p = some (.tup (f a))) vs as
  | [], _, h => by cases h; exact .nil
  | a :: as, _, ⟨p, vr, ev, h1, h2⟩ => by subst ev; exact .cons ⟨p, rfl, h1⟩ (tupG_paired h2)
theorem tupG_back {α : Type} {H : Hp} {f : α → List V} : ∀ {as : List α} {vs : List V}, Paired (fun v a => ∃ p, v = V.ref p ∧ H p = some (.tup (f a))) vs as → TupG H f as vs
  | _, _, .nil => rfl
  | _, _, .cons ⟨p, e, h⟩ t => ⟨p, _, by rw [e], h, tupG_back t⟩
theorem paired_perm' {α β : Type} {R : α → β → Prop} {k l : List α} (p : k.Perm l) : ∀ {m : List β}, Paired R l m → ∃ m', m'.Perm m ∧ Paired R k m' := by
  induction p with
  | nil => exact fun h => ⟨_, .refl _, h⟩
  | cons x _ ih =>
    intro m h
    cases h with
    | cons r t =>
      obtain ⟨m', p', h'⟩ := ih t
      exact ⟨_, p'.cons _, .cons r h'⟩
  | swap x y l =>
    intro m h
    cases h with
    | cons r t =>
      cases t with
      | cons r' t => exact ⟨_, .swap _ _ _, .cons r' (.cons r t)⟩
  | trans _ _ ih1 ih2 =>
    intro m h
    obtain ⟨m1, p1, h1⟩ := ih2 h
    obtain ⟨m2, p2, h2⟩ := ih1 h1
    exact ⟨m2, p2.trans p1, h2⟩
theorem tupG_perm {α : Type} {H : Hp} {f : α → List V} {as : List α} {vs us : List V} (h : TupG H f as vs) (p : us.Perm vs) : ∃ bs, bs.Perm as ∧ TupG H f bs us := by
  obtain ⟨m, pm, h'⟩ := paired_perm' p (tupG_paired h)
  exact ⟨m, pm, tupG_back h'⟩
/-! ### sorted -/
def keyV? : V → Option Key
  | .int i => some (.inl i)
  | .str s => some (.inr s)
  | _ => none
def kOf (H : Hp) : V → List Key
  | .ref a => match H a with
    | some (.tup xs) => xs.filterMap keyV?
    | _ => []
  | _ => []
theorem keys_back : ∀ ks : List Key, (ks.map kV).filterMap keyV? = ks
  | [] => rfl
  | .inl i :: ks => by rw [List.map_cons]; show List.filterMap keyV? (V.int i :: _) = _; rw [List.filterMap_cons]; show _ :: _ = _; rw [keys_back ks]
  | .inr i :: ks => by rw [List.map_cons]; show List.filterMap keyV? (V.str i :: _) = _; rw [List.filterMap_cons]; show _ :: _ = _; rw [keys_back ks]
theorem kOf_at {H : Hp} {a : Addr} {ks : List Key} (e : H a = some (.tup (ks.map kV))) : kOf H (.ref a) = ks := by
  unfold kOf
  simp only [e]
  exact keys_back ks
theorem srtd_tup {α : Type} {H : Hp} {f : α → List V} {kf : α → List Key} (hf : ∀ a, f a = (kf a).map kV) : ∀ {as : List α} {vs : List V}, TupG H f as vs → SrtO.Srtd (ltV (kOf H)) vs → as.Pairwise fun x y => lexK (kf y) (kf x) = false
  | [], _, _, _ => .nil
  | a :: as, _, ⟨p, vr, ev, h1, h2⟩, h => by
    subst ev
    obtain ⟨h3, h4⟩ := List.pairwise_cons.mp h
    refine .cons (fun b mb => ?_) (srtd_tup hf h2 h4)
    obtain ⟨k, hk⟩ := List.mem_iff_getElem?.mp mb
    obtain ⟨q, e1, e2⟩ := tupG_at h2 hk
    have := h3 _ (List.mem_iff_getElem?.mpr ⟨k, e1⟩)
    unfold ltV at this
    rw [kOf_at (a := q) (ks := kf b) (by rw [e2, hf]), kOf_at (a := p) (ks := kf a) (by rw [h1, hf])] at this
    exact this
/-- sorted(xs), xs a list of tuples alike in their kinds, each told by an α -/
def rSortedA {α : Type} (f : α → List V) (kf : α → List Key) : List V → Hp → VK → Prop := fun vs H Q => ∃ (a : Addr) (l : List α), vs = [V.ref a] ∧ TL f H a l ∧
  ∀ l' p H', l'.Perm l → (l'.Pairwise fun x y => lexK (kf y) (kf x) = false) → Same H H' → H p = none → TL f H' p l' → Q (.ref p) H'
theorem cr_sortedA {X : Cx} {α : Type} {f : α → List V} {kf : α → List Key} (hf : ∀ a, f a = (kf a).map kV) {c : Bool} {κs : List Bool} (hk : ∀ a, (kf a).map kindK = c :: κs) : CallR X (.builtin "sorted") (rSortedA f kf) := by
  intro pins s σ H vs us Q I r h
  obtain ⟨a, l, rfl, ⟨acc, ea, g⟩, q⟩ := h
  refine cr_sortedTK pins s σ H _ us Q I r ⟨a, acc, kOf H, c, κs, rfl, SqL.of ea, fun x mx => ?_, fun ys p so pm np => ?_⟩
  · obtain ⟨i, hi⟩ := List.mem_iff_getElem?.mp mx
    obtain ⟨b, t, _, rfl, et⟩ := tupG_item g hi
    have e2 : H t = some (.tup ((kf b).map kV)) := by rw [et, hf]
    refine ⟨t, rfl, ?_, ?_⟩
    · rw [kOf_at e2]; exact e2
    · rw [kOf_at e2]; exact hk b
  · obtain ⟨bs, pb, gb⟩ := tupG_perm g pm
    exact q bs p _ pb (srtd_tup hf gb so) (same_upd np) np ⟨ys, upd_same, tupG_same (same_upd np) gb⟩
theorem t3v_key (e : I3) : t3v e = (k3 e).map kV := rfl
theorem cr_sorted3 {X : Cx} : CallR X (.builtin "sorted") (rSortedA t3v k3) := cr_sortedA (c := true) (κs := [true, false]) t3v_key fun _ => rfl
theorem lex3 {x y : I3} (h : lexK (k3 y) (k3 x) = false) : ¬ ltP2 (pr3 y) (pr3 x) := by
  intro l
  obtain ⟨x1, x2, x3⟩ := x
  obtain ⟨y1, y2, y3⟩ := y
  unfold ltP2 pr3 at l
  have l : y1 < x1 ∨ y1 = x1 ∧ y2 < x2 := l
  unfold k3 lexK at h
  by_cases e1 : y1 = x1
  · rw [if_pos (congrArg Sum.inl e1)] at h
    unfold lexK at h
    have h2 : y2 < x2 := by omega
    rw [if_neg (fun z => by have := Sum.inl.inj z; omega)] at h
    have := of_decide_eq_false h
    omega
  · rw [if_neg (fun z => e1 (Sum.inl.inj z))] at h
    have := of_decide_eq_false h
    omega
theorem sorted_pairs {R : List T3} (nd : (R.map fun e => (e.1, e.2.1)).Nodup) {ts : List I3} (p : ts.Perm (R.map c3)) (so : ts.Pairwise fun x y => lexK (k3 y) (k3 x) = false) : (ts.map pr3).Pairwise ltP2 := pairs_lt nd p (so.imp lex3)
/-! ### as data -/
def d2 (c : Int × Int) : PyData := .tuple [.int c.1, .int c.2]
def d3 (e : I3) : PyData := .tuple [.int e.1, .int e.2.1, .str (tx [e.2.2])]
theorem dp2 {K : PySem.W.Frag} {H : Hp} : ∀ {l : List (Int × Int)} {vs : List V}, TupG H t2v l vs → DpAll K H vs (l.map d2)
  | [], _, h => by cases h; exact .nil
  | e :: G, _, ⟨p, vr, ev, h1, h2⟩ => by
    rw [ev]
    exact .cons (.tup (SqT.of h1) (.cons (.int _) (.cons (.int _) .nil))) (dp2 h2)
theorem dp3 {K : PySem.W.Frag} {H : Hp} : ∀ {l : List I3} {vs : List V}, TupG H t3v l vs → DpAll K H vs (l.map d3)
  | [], _, h => by cases h; exact .nil
  | e :: G, _, ⟨p, vr, ev, h1, h2⟩ => by
    rw [ev]
    exact .cons (.tup (SqT.of h1) (.cons (.int _) (.cons (.int _) (.cons (.str _) .nil)))) (dp3 h2)
theorem tl_d2 {K : PySem.W.Frag} {H : Hp} {p : Addr} {l : List (Int × Int)} (h : TL t2v H p l) : Dp K H (.ref p) (.list (l.map d2)) := let ⟨_, e, g⟩ := h; .lst (SqL.of e) (dp2 g)
theorem tl_d3 {K : PySem.W.Frag} {H : Hp} {p : Addr} {l : List I3} (h : TL t3v H p l) : Dp K H (.ref p) (.list (l.map d3)) := let ⟨_, e, g⟩ := h; .lst (SqL.of e) (dp3 g)
theorem lay2 : ∀ l : List (Int × Int), PyData.canLayAll0 (l.map d2) = true
  | [] => rfl
  | e :: G => by
    rw [List.map_cons]
    unfold d2
    simp only [PyData.canLayAll0, PyData.canLay0, Bool.and_true]
    exact lay2 G
theorem deep2 : ∀ l : List (Int × Int), PyData.depthAll (l.map d2) ≤ 1
  | [] => Nat.zero_le _
  | e :: G => by
    rw [List.map_cons]
    have := deep2 G
    unfold d2 at this ⊢
    simp only [PyData.depthAll, PyData.depth]
    omega
theorem shaped2 (l : List (Int × Int)) : SeqAt.shaped (.list (l.map d2)) = true := by
  unfold SeqAt.shaped
  rw [Bool.and_eq_true]
  refine ⟨by simp only [PyData.canLay0, lay2], decide_eq_true ?_⟩
  have := deep2 l
  simp only [PyData.depth]
  omega
theorem lay3 : ∀ l : List I3, PyData.canLayAll0 (l.map d3) = true
  | [] => rfl
  | e :: G => by
    rw [List.map_cons]
    have ok : PyData.strOk (tx [e.2.2]) = true := by cases e.2.2 <;> decide +kernel
    have ih := lay3 G
    unfold d3 at ih ⊢
    simp only [PyData.canLayAll0, PyData.canLay0, Bool.and_true, ok, ih]
theorem deep3 : ∀ l : List I3, PyData.depthAll (l.map d3) ≤ 1
  | [] => Nat.zero_le _
  | e :: G => by
    rw [List.map_cons]
    have := deep3 G
    unfold d3 at this ⊢
    simp only [PyData.depthAll, PyData.depth]
    omega
theorem shaped3 (l : List I3) : SeqAt.shaped (.list (l.map d3)) = true := by
  unfold SeqAt.shaped
  rw [Bool.and_eq_true]
  refine ⟨by simp only [PyData.canLay0, lay3], decide_eq_true ?_⟩
  have := deep3 l
  simp only [PyData.depth]
  omega
theorem eqv2 (c c' : Int × Int) : PyData.eqv (d2 c) (d2 c') = decide (c = c') := by
  obtain ⟨a, b⟩ := c
  obtain ⟨a', b'⟩ := c'
  unfold d2
  simp only [PyData.eqv, PyData.eqvAll, Bool.and_true]
  by_cases h1 : a = a' <;> by_cases h2 : b = b' <;> simp [h1, h2]
theorem eqvL2 : ∀ l m : List (Int × Int), PyData.eqvAll (l.map d2) (m.map d2) = decide (l = m)
  | [], [] => rfl
  | [], _ :: _ => by simp [PyData.eqvAll]
  | _ :: _, [] => by simp [PyData.eqvAll]
  | x :: l, y :: m => by
    rw [List.map_cons, List.map_cons]
    simp only [PyData.eqvAll, eqv2, eqvL2 l m]
    by_cases h1 : x = y <;> by_cases h2 : l = m <;> simp [h1, h2]
theorem eqvT2 (l m : List (Int × Int)) : PyData.eqv (.list (l.map d2)) (.list (m.map d2)) = decide (l = m) := by
  rw [← eqvL2]
  simp only [PyData.eqv]
/-! ### the nearest ones, as the list is gone through -/
theorem nbI_snoc (ts : List I3) (e : I3) (f : Int) : nbI (ts ++ [e]) f = if e.2.1 = f ∧ e.2.2 = true then some e.1 else nbI ts f := by
  unfold nbI
  rw [List.filter_append]
  by_cases h : e.2.1 = f ∧ e.2.2 = true
  · rw [if_pos h, List.filter_cons_of_pos (by simp [h]), List.filter_nil, List.getLast?_concat]
    rfl
  · rw [if_neg h, List.filter_cons_of_neg (by simpa using h), List.filter_nil, List.append_nil]
theorem nfI_snoc (ts : List I3) (e : I3) (b : Int) : nfI (ts ++ [e]) b = match nfI ts b with | some x => some x | none => if e.1 = b ∧ e.2.2 = false then some e.2.1 else none := by
  unfold nfI
  rw [List.filter_append]
  cases h : ts.filter (fun e => decide (e.1 = b) && !e.2.2) with
  | cons x l => rfl
  | nil =>
    rw [List.nil_append]
    show _ = if e.1 = b ∧ e.2.2 = false then some e.2.1 else none
    by_cases h : e.1 = b ∧ e.2.2 = false
    · rw [if_pos h, List.filter_cons_of_pos (by simp [h])]; rfl
    · rw [if_neg h, List.filter_cons_of_neg (by simpa using h)]; rfl
theorem nbI_nil (f : Int) : nbI [] f = none := rfl
theorem nfI_nil (f : Int) : nfI [] f = none := rfl
/-! ### the places of beads, of free places, from the left -/
def plsTo (v : Bool) (bs : List Bool) (i : Nat) : List Nat := (List.range i).filter fun p => bs[p]? == some v
theorem plsTo_step {v b : Bool} {bs : List Bool} {i : Nat} (h : bs[i]? = some b) : plsTo v bs (i + 1) = plsTo v bs i ++ (if b = v then [i] else []) := by
  unfold plsTo
  rw [List.range_succ, List.filter_append]
  by_cases e : b = v
  · rw [if_pos e, List.filter_cons_of_pos (by rw [h, e]; simp), List.filter_nil]
  · rw [if_neg e, List.filter_cons_of_neg (by rw [h]; simpa using e), List.filter_nil]
theorem plsTo_len (v : Bool) (bs : List Bool) (i : Nat) : (plsTo v bs i).length ≤ i := by
  unfold plsTo
  exact Nat.le_trans (List.length_filter_le _ _) (by rw [List.length_range]; exact Nat.le_refl _)
/-! ### cells, row by row -/
def cellsTo (bs : List Bool) (B : List Nat) (F : List Nat) : List (Nat × Nat) := B.flatMap fun b => (F.filter fun f => decide (b < f)).map fun f => (b, f)
theorem cellsN_eq (bs : List Bool) : cellsN bs = cellsTo bs (plsTo true bs bs.length) (plsTo false bs bs.length) := rfl
end HopH

set_option Elab.async false
set_option linter.all false
set_option maxRecDepth 100000
/-! ### own == and != beside anything, and `in` a list of one -/
namespace OwnAny
open PySem PySem.W PySem.Spec PyProof.Rows
section
variable {prog : Program} {w : World} {A : Around} {E : Value → Shared → Prop} {s : Shared} {C x f : Addr} {B : String} {bm : List Value} {v tb : Value}
/-- object.__ne__ of an own object asks the own __eq__, whatever stands beside it -/
theorem obj_ne (own : s.heap.OwnEqNoNe x C f B bm) (room : A.units < cLine) {Q : Fin → Shared → Prop}
    (said : wpAny (model prog w) A (call (.ref f) [.ref x, v]) (fun r s' => ∃ b, r = .bool b ∧ Q (.done (.ret (.bool (!b)))) s') E s) :
    wpAny (model prog w) A (Builtin.«object.__ne__» ⟨[.ref x, v], []⟩) Q E s := by
  obtain ⟨hp, g, d, tk, os⟩ := s
  unfold Builtin.«object.__ne__»
  repeat (first
    | with_reducible refine wpAny_cRoomFor room ?_
    | (refine wpAny_bind (m := callSpecialIfBound? (.ref x) (Str.ofString "__eq__") [v]) (wpAny_callSpecialIfBound?_own own.ownEq (wpAny_mono said (fun r s' z => by
        obtain ⟨b, rfl, q⟩ := z
        repeat (first | exact q | exact wpAny_pure q | exact wpAny_truthy_bool q | (refine wpAny_bind (m := truthy (.bool _)) (wpAny_truthy_bool ?_)) | wp_step)) fun _ _ z => z)))
    | wp_step)
/-- own != anything -/
theorem ne_any (FB : CmpFacts B bm) (own : s.heap.OwnEqNoNe x C f B bm) (ty : Looks (model prog w) s.heap (typeOf v) tb) (apart : tb = .ref C ∨ Looks (model prog w) s.heap (isSubtype tb (.ref C)) false) (room : A.units + 1 < cLine) {Q : Value → Shared → Prop}
    (said : wpAny (model prog w) A.in1 (call (.ref f) [.ref x, v]) (fun r s' => ∃ b, r = .bool b ∧ Q (.bool (!b)) s') E s) : wpAny (model prog w) A (richCompare .NotEq (.ref x) v) Q E s := by
  obtain ⟨hp, g, d, tk, os⟩ := s
  obtain ⟨o, of, nm, q, N, bs, hd, sn, sub, ab, col, dd, k0, k1, k2, k3, k5, nw, mN, y, at_, cls, atC, names, _, _, _, _, _, none⟩ := id own
  have asked : wpAny (model prog w) A (tryCompare (.ref x) "__ne__" v) (fun r s' => ∃ b, r = some (.bool b) ∧ Q (.bool b) s') E ⟨hp, g, d, tk, os⟩ := by
    unfold tryCompare
    refine wpAny_bind (wpAny_callSpecialIfBound?_inst at_ cls atC names none FB.mro FB.ne (wpAny_call (codeAny_call_builtin FB.ne.plain F.cmpEntry_ne (wpAny_check_slot_inst F.cmpKind_ne F.cmpSplit_ne (F.cmpArgs_ne _ _) FB.hasObject at_ cls atC
      (obj_ne (A := A.in1) own (by show A.units + 1 < cLine; exact room) (wpAny_mono said (fun r s' z => ?_) fun _ _ z => z))))))
    obtain ⟨b, rfl, q⟩ := z
    exact ⟨b, rfl, wpAny_pure ⟨!b, rfl, q⟩⟩
  unfold richCompare
  simp only [oneThing_ref]
  refine wpAny_holding (wpAny_bind (wpAny_cRoomFor (Nat.lt_of_succ_lt room) ?_))
  rw [cmpInfo_NotEq]
  dsimp only
  refine wpAny_bind (wpAny_typeOf_ref at_ ?_)
  rw [cls]
  refine wpAny_bind (ty.here ?_)
  split
  · rename_i ne
    rcases apart with e | e
    · rw [e] at ne
      simp at ne
    · refine wpAny_bind (e.here ?_)
      simp only [Bool.false_eq_true, if_false]
      refine wpAny_bind (wpAny_mono asked (fun r s' z => ?_) fun _ _ z => z)
      obtain ⟨b, rfl, q⟩ := z
      exact wpAny_pure q
  · refine wpAny_bind (wpAny_pure ?_)
    simp only [Bool.false_eq_true, if_false]
    refine wpAny_bind (wpAny_mono asked (fun r s' z => ?_) fun _ _ z => z)
    obtain ⟨b, rfl, q⟩ := z
    exact wpAny_pure q
end
end OwnAny
namespace HopR
open PySem PySem.Spec PyProof.Rows L2
section
variable {X : Cx} {CX : CXT} {n : Nat} {C f : Addr} {fd : FuncData} {ps : List Str} {sp : Sp} {E : XK}
theorem typ_looks {pins : List (Addr × Obj)} {σ : L2.St} {H : Hp} {s : Shared} {x : V} {u t : Value} (I : Inv X pins σ H s) (rx : RelV x u) (ty : TyX X.K H x t) : PySem.W.Looks (model X.prog X.w) s.heap (typeOf u) t := by
  obtain ⟨P, kx, hp, _⟩ := kit_of I rx ty
  exact kx.ty _ _ I.kIn hp
/-- an own object beside anything; what its __eq__ promises of both, a truth -/
def rOwnA (K : PySem.W.Frag) (C : Addr) (sp : Sp) (E : XK) (neg : Bool) : R2 := fun x y H Q => ∃ a dx fs t, x = .ref a ∧ H a = some (.ins C dx fs) ∧ TyX K H y t ∧ PySem.W.notFirst K C t = true ∧ sp [.ref a, y] H (fun v H' => ∃ k : Bool, v = .bl k ∧ Q (.bl (k ^^ neg)) H') E
theorem op_eqA (c : EqC X.K C f) (F : FnOk X.prog X.w X.K X.mg X.base CX n f fd ps sp) (room : Room n X.A) (bind : Binds X.K fd ps []) (lets : Passes CX X E) : OpR X (compareOp .Eq) (rOwnA X.K C sp E false) := by
  rintro pins s σ H _ y v u Q I rx ry ⟨a, dx, fs, t, rfl, ha, ty, nf, prom⟩
  cases rx
  obtain ⟨_, J, _⟩ := ins_get I.hok ha
  obtain ⟨_, J, _⟩ := J.look
  obtain ⟨m, F0⟩ := I.fr
  refine PySem.W.cmp_K (op := .Eq) (tb := t) room.units0 F0 I.ok.mod.kin J (typ_looks I ry ty) nf c.eq c.fn (thn (call_at F room rfl bind lets I (us := [.ref a, u]) (vs := [.ref a, y]) (.cons rfl (.cons ry .nil)) prom) ?_)
  rintro w s' ⟨z, H', I', rz, k, rfl, q⟩
  cases rz
  rw [Bool.xor_false] at q
  exact ⟨.bl k, H', I', rfl, q⟩
theorem op_neA (c : EqC X.K C f) (F : FnOk X.prog X.w X.K X.mg X.base CX n f fd ps sp) (room : Room (n + 1) X.A) (bind : Binds X.K fd ps []) (lets : Passes CX X E) : OpR X (compareOp .NotEq) (rOwnA X.K C sp E true) := by
  rintro pins s σ H _ y v u Q I rx ry ⟨a, dx, fs, t, rfl, ha, ty, nf, prom⟩
  cases rx
  obtain ⟨_, J, _⟩ := ins_get I.hok ha
  obtain ⟨_, J, _⟩ := J.look
  have un := room.un
  have apart : t = .ref C ∨ PySem.W.Looks (model X.prog X.w) s.heap (isSubtype t (.ref C)) false := by
    rcases Bool.or_eq_true_iff.mp nf with e | e
    · exact .inl (beq_iff_eq.mp e)
    · exact .inr (PySem.W.looks_subIn I.kIn (beq_iff_eq.mp e))
  show wpAny _ _ (richCompare .NotEq (.ref a) u) _ _ _
  refine OwnAny.ne_any PySem.F.cmp_object (c.here I.kIn J.at_ J.cls) (typ_looks I ry ty) apart (by omega) (thn (call_at (A := X.A.in1) F room.in1 rfl bind lets I (us := [.ref a, u]) (vs := [.ref a, y]) (.cons rfl (.cons ry .nil)) prom) ?_)
  rintro w s' ⟨z, H', I', rz, k, rfl, q⟩
  cases rz
  refine ⟨k, rfl, .bl (!k), H', I', rfl, ?_⟩
  rw [Bool.xor_true] at q
  exact q
end
end HopR

set_option Elab.async false
set_option linter.all false
set_option maxRecDepth 100000
/-! ### a list of one own object: `in` and == -/
namespace OwnAny
open PySem PySem.SeqAt
open AutoSeq1 (wpAny_loadPart')
open MeetsSeq MeetsSeq2 MeetsSeq3 SeqRoads2
section
variable {prog : Program} {w : World} {A : Around} {R : Result → Shared → Prop} {l m : Addr} {x y : Value} {k : Bool} {I : Shared → Prop}
/-- a list of the one item y -/
def One (l : Addr) (y : Value) (t : Shared) : Prop := ∃ n its, t.heap.get? l = some { cls := .type "list", data := .seq its n } ∧ its[(0 : Int).toNat]? = some y ∧ its[((1 : Nat) : Int).toNat]? = none ∧ its.size = 1
theorem one_in (here : ∀ t, I t → One l y t) (alike : ∀ t, I t → wpAny (model prog w) A.in1 (eqBool y x) (fun r t' => r = k ∧ I t') (fun e t' => R (.error e) t') t)
    (stop : ∀ t, I t → R (.ok (.ret (.bool k))) t) {t : Shared} (h : I t) :
    wpAny (model prog w) A.in1 (Builtin.«list.__contains__» ⟨[.ref l, x], []⟩) (GQ.FinOf prog w A R) (fun e t' => R (.error e) t') t := by
  have last : ∀ t, I t → k = false → wpAny (model prog w) A.in1 (Builtin.«list.__contains__.loop» ⟨[.ref l, x, rawInt ((1 : Nat) : Int)], []⟩) (GQ.FinOf prog w A R) (fun e t' => R (.error e) t') t := fun t h e => by
    obtain ⟨n, its, g, e0, e1, ez⟩ := here t h
    have done := stop t h
    rw [e] at done
    obtain ⟨hp, gs, d, tk, os⟩ := t
    wp_walk using wpAny_loadPart' g
    rw [e1]
    wp_walk
    exact done
  have first : ∀ t, I t → wpAny (model prog w) A.in1 (Builtin.«list.__contains__.loop» ⟨[.ref l, x, rawInt 0], []⟩) (GQ.FinOf prog w A R) (fun e t' => R (.error e) t') t := fun t h => by
    obtain ⟨n, its, g, e0, e1, ez⟩ := here t h
    have al := alike t h
    obtain ⟨hp, gs, d, tk, os⟩ := t
    wp_walk using wpAny_loadPart' g
    rw [e0]
    refine wpAny_bind (wpAny_mono al (fun r t2 q => ?_) fun _ _ z => z)
    obtain ⟨rfl, q2⟩ := q
    cases hr : r with
    | true =>
      have done := stop t2 q2
      rw [hr] at done
      obtain ⟨hp2, g2, d2, tk2, os2⟩ := t2
      wp_walk
      exact done
    | false =>
      have go := last t2 q2 hr
      obtain ⟨hp2, g2, d2, tk2, os2⟩ := t2
      wp_walk
      exact ⟨plainId_quiet plain_contains_loop _, codeAny_builtin entry_contains_loop (by rw [Around.under_plainId plain_contains_loop _]; exact go)⟩
  obtain ⟨n, its, g, e0, e1, ez⟩ := here t h
  have go := first t h
  obtain ⟨hp, gs, d, tk, os⟩ := t
  wp_walk using wpAny_loadPart' g
  exact ⟨plainId_quiet plain_contains_loop _, codeAny_builtin entry_contains_loop (by rw [Around.under_plainId plain_contains_loop _]; exact go)⟩
theorem ones_eq (hl : ∀ t, I t → One l x t) (hm : ∀ t, I t → One m y t) (alike : ∀ t, I t → wpAny (model prog w) A.in1 (eqBool x y) (fun r t' => r = k ∧ I t') (fun e t' => R (.error e) t') t)
    (stop : ∀ t, I t → R (.ok (.ret (.bool k))) t) {t : Shared} (h : I t) :
    wpAny (model prog w) A.in1 (Builtin.«list.__eq__» ⟨[.ref l, .ref m], []⟩) (GQ.FinOf prog w A R) (fun e t' => R (.error e) t') t := by
  have last : ∀ t, I t → k = true → wpAny (model prog w) A.in1 (Builtin.«list.__eq__.loop» ⟨[.ref l, .ref m, rawInt ((1 : Nat) : Int), rawInt 2], []⟩) (GQ.FinOf prog w A R) (fun e t' => R (.error e) t') t := fun t h e => by
    obtain ⟨n, its, g, e0, e1, ez⟩ := hl t h
    obtain ⟨n', its', g', e0', e1', ez'⟩ := hm t h
    have done := stop t h
    rw [e] at done
    obtain ⟨hp, gs, d, tk, os⟩ := t
    wp_walk using wpAny_loadPart' g, wpAny_loadPart' g'
    rw [e1, e1']
    wp_walk using wpAny_loadPart' g, wpAny_loadPart' g'
    have z : (its.size == its'.size) = true := by rw [ez, ez']; rfl
    show R (.ok (.ret (.bool (its.size == its'.size)))) _
    rw [z]
    exact done
  have first : ∀ t, I t → wpAny (model prog w) A.in1 (Builtin.«list.__eq__.loop» ⟨[.ref l, .ref m, rawInt 0, rawInt 2], []⟩) (GQ.FinOf prog w A R) (fun e t' => R (.error e) t') t := fun t h => by
    obtain ⟨n, its, g, e0, e1, ez⟩ := hl t h
    obtain ⟨n', its', g', e0', e1', ez'⟩ := hm t h
    have al := alike t h
    obtain ⟨hp, gs, d, tk, os⟩ := t
    wp_walk using wpAny_loadPart' g, wpAny_loadPart' g'
    rw [e0, e0']
    refine wpAny_bind (wpAny_mono al (fun r t2 q => ?_) fun _ _ z => z)
    obtain ⟨rfl, q2⟩ := q
    cases hr : r with
    | true =>
      have go := last t2 q2 hr
      obtain ⟨hp2, g2, d2, tk2, os2⟩ := t2
      wp_walk
      exact ⟨plainId_quiet plain_eq_loop _, codeAny_builtin entry_eq_loop (by rw [Around.under_plainId plain_eq_loop _]; exact go)⟩
    | false =>
      have done := stop t2 q2
      rw [hr] at done
      obtain ⟨n2, its2, g2', e02, _, ez2⟩ := hl t2 q2
      obtain ⟨n3, its3, g3, e03, _, ez3⟩ := hm t2 q2
      obtain ⟨hp2, g2, d2, tk2, os2⟩ := t2
      wp_walk using wpAny_loadPart' g2', wpAny_loadPart' g3
      rw [e02, e03]
      wp_walk
      exact done
  obtain ⟨n, its, g, e0, e1, ez⟩ := hl t h
  obtain ⟨n', its', g', e0', e1', ez'⟩ := hm t h
  have go := first t h
  have lists := AutoSeq1.sub_list_list
  have z0 : ¬ (its.size != its'.size) = true := by rw [ez, ez']; simp
  obtain ⟨hp, gs, d, tk, os⟩ := t
  wp_walk using wpAny_loadPart' g, wpAny_loadPart' g'
  exact ⟨plainId_quiet plain_eq_loop _, codeAny_builtin entry_eq_loop (by rw [Around.under_plainId plain_eq_loop _]; exact go)⟩
end
end OwnAny
namespace HopR
open PySem PySem.Spec PyProof.Rows L2
section
variable {X : Cx} {CX : CXT} {n : Nat} {C f : Addr} {fd : FuncData} {ps : List Str} {sp : Sp} {E : XK}
/-- two own objects, as == inside a list asks them -/
theorem own_eqBool (c : EqC X.K C f) (F : FnOk X.prog X.w X.K X.mg X.base CX n f fd ps sp) {A : Around} (room : Room n A) (frames : A.frames = X.A.frames) (bind : Binds X.K fd ps []) (lets : Passes CX X E)
    {pins : List (Addr × Obj)} {σ : L2.St} {H : Hp} {s : Shared} {a b dx dy : Addr} {fs gs : List (Str × V)} {k : Bool} (I : Inv X pins σ H s) (ha : H a = some (.ins C dx fs)) (hb : H b = some (.ins C dy gs)) (self : a = b → k = true)
    (prom : sp [.ref a, .ref b] H (fun v H' => v = .bl k ∧ Ext H H') E) :
    wpAny (model X.prog X.w) A (eqBool (.ref a) (.ref b)) (fun r s' => r = k ∧ LoopI X pins σ H s') X.xe s := by
  by_cases same : a = b
  · have e := self same
    subst same
    exact SeqAt.EqAt.same (A := A) (s := s) (.ref a) X.prog X.w X.xe _ ⟨e.symm, H, I, Ext.rfl'⟩
  · obtain ⟨_, J, _⟩ := ins_get I.hok ha
    obtain ⟨_, J', _⟩ := ins_get I.hok hb
    obtain ⟨_, J, _⟩ := J.look
    obtain ⟨_, J', _⟩ := J'.look
    obtain ⟨m, F0⟩ := I.fr
    refine GQ.eqBool_refG same (PySem.W.cmp_K (op := .Eq) (tb := .ref C) room.units0 F0 I.ok.mod.kin J J'.type (by simp [PySem.W.notFirst]) c.eq c.fn (thn (call_at (A := A) F room frames bind lets I two_refs prom) ?_))
    rintro w s' ⟨z, H', I', rz, rfl, e⟩
    cases rz
    exact ⟨k, rfl, rfl, H', I', e⟩
/-- a in [b] -/
def rInOwn (C : Addr) (sp : Sp) (E : XK) : R2 := fun x y H Q => ∃ (a b l dx dy : Addr) (fs gs : List (Str × V)) (k : Bool), x = .ref a ∧ y = .ref l ∧ H a = some (.ins C dx fs) ∧ H b = some (.ins C dy gs) ∧ H l = some (.lst [.ref b]) ∧ (a = b → k = true) ∧
  (∀ H', Ext H H' → sp [.ref b, .ref a] H' (fun v H'' => v = .bl k ∧ Ext H' H'') E) ∧ ∀ H', Ext H H' → Q (.bl k) H'
theorem one_here {l b : Addr} {pins : List (Addr × Obj)} {σ : L2.St} {H : Hp} {t : Shared} (h : LoopI X pins σ H t) (e : H l = some (.lst [.ref b])) : OwnAny.One l (.ref b) t := by
  obtain ⟨H', I', x⟩ := h
  obtain ⟨_, its, k, r, g⟩ := I'.hok _ _ (x _ _ e)
  obtain ⟨v, rfl, rv⟩ := vals1 r
  cases rv
  exact ⟨k, _, g, rfl, rfl, rfl⟩
theorem op_inOwn (c : EqC X.K C f) (F : FnOk X.prog X.w X.K X.mg X.base CX n f fd ps sp) (room : Room (n + 1) X.A) (bind : Binds X.K fd ps []) (lets : Passes CX X E) : OpR X (compareOp .In) (rInOwn C sp E) := by
  rintro pins s σ H _ _ v u Q I rx ry ⟨a, b, l, dx, dy, fs, gs, k, rfl, rfl, ha, hb, hl, self, prom, q⟩
  cases rx; cases ry
  have turns : ∀ t, LoopI X pins σ H t → wpAny (model X.prog X.w) X.A.in1 (eqBool (.ref b) (.ref a)) (fun r t' => r = k ∧ LoopI X pins σ H t') X.xe t := fun t ⟨H', I', x⟩ =>
    wpAny_mono (own_eqBool c F room.in1 rfl bind lets I' (x _ _ hb) (x _ _ ha) (fun e => self e.symm) (prom H' x)) (fun r t' ⟨e, H'', I'', x'⟩ => ⟨e, H'', I'', x.trans x'⟩) fun _ _ z => z
  obtain ⟨m, its, g, _⟩ := one_here ⟨H, I, Ext.rfl'⟩ hl
  show wpAny (model X.prog X.w) X.A (do return Value.bool (← contains (.ref l) (.ref a))) (EP X pins σ Q) X.xe s
  refine wpAny_bind (wpAny_contains_slot ⟨_, g, rfl⟩ PySem.F.slot_list_contains (GQ.call_here PySem.F.slot_list_contains ⟨_, g, rfl⟩ PySem.F.entry_list_contains (PySem.F.args_list_contains_2 _ _) ?_))
  exact OwnAny.one_in (R := wants (fun v t => wpAny (model X.prog X.w) X.A (truthy v) (fun r t' => wpAny (model X.prog X.w) X.A (pure (.bool r)) (EP X pins σ Q) X.xe t') X.xe t) X.xe) (I := fun t => LoopI X pins σ H t) (fun t h => one_here h hl) turns
    (fun t ⟨H', I', x⟩ => by
      show wpAny (model X.prog X.w) X.A (truthy (.bool k)) (fun r t' => wpAny (model X.prog X.w) X.A (pure (.bool r)) (EP X pins σ Q) X.xe t') X.xe t
      refine wpAny_truthy_bool (wpAny_pure ?_)
      exact ⟨.bl k, H', I', rfl, q H' x⟩) ⟨H, I, Ext.rfl'⟩
/-- [a] == [b] -/
def rOnes (C : Addr) (sp : Sp) (E : XK) : R2 := fun x y H Q => ∃ (a b l m dx dy : Addr) (fs gs : List (Str × V)) (k : Bool), x = .ref l ∧ y = .ref m ∧ H a = some (.ins C dx fs) ∧ H b = some (.ins C dy gs) ∧ H l = some (.lst [.ref a]) ∧ H m = some (.lst [.ref b]) ∧ (a = b → k = true) ∧
  (∀ H', Ext H H' → sp [.ref a, .ref b] H' (fun v H'' => v = .bl k ∧ Ext H' H'') E) ∧ ∀ H', Ext H H' → Q (.bl k) H'
theorem op_eqOnes (c : EqC X.K C f) (F : FnOk X.prog X.w X.K X.mg X.base CX n f fd ps sp) (room : Room (n + 1) X.A) (bind : Binds X.K fd ps []) (lets : Passes CX X E) : OpR X (compareOp .Eq) (rOnes C sp E) := by
  rintro pins s σ H _ _ v u Q I rx ry ⟨a, b, l, m, dx, dy, fs, gs, k, rfl, rfl, ha, hb, hl, hm, self, prom, q⟩
  cases rx; cases ry
  have turns : ∀ t, LoopI X pins σ H t → wpAny (model X.prog X.w) X.A.in1 (eqBool (.ref a) (.ref b)) (fun r t' => r = k ∧ LoopI X pins σ H t') X.xe t := fun t ⟨H', I', x⟩ =>
    wpAny_mono (own_eqBool c F room.in1 rfl bind lets I' (x _ _ ha) (x _ _ hb) self (prom H' x)) (fun r t' ⟨e, H'', I'', x'⟩ => ⟨e, H'', I'', x.trans x'⟩) fun _ _ z => z
  obtain ⟨j, its, g, _⟩ := one_here ⟨H, I, Ext.rfl'⟩ hl
  obtain ⟨j', its', g', _⟩ := one_here ⟨H, I, Ext.rfl'⟩ hm
  show wpAny (model X.prog X.w) X.A (richCompare .Eq (.ref l) (.ref m)) (EP X pins σ Q) X.xe s
  refine wpAny_richCompare_same_room (op := .Eq) ⟨_, g, rfl⟩ ⟨_, g', rfl⟩ PySem.F.slot_list_eq (GQ.call_here PySem.F.slot_list_eq ⟨_, g, rfl⟩ PySem.F.entry_list_eq (PySem.F.args_list_eq_2 _ _) ?_) room.units0
  exact OwnAny.ones_eq (R := wants (fun v t => v ≠ .notImplemented ∧ EP X pins σ Q v t) X.xe) (I := fun t => LoopI X pins σ H t) (fun t h => one_here h hl) (fun t h => one_here h hm) turns
    (fun t ⟨H', I', x⟩ => ⟨(fun z => nomatch z), .bl k, H', I', rfl, q H' x⟩) ⟨H, I, Ext.rfl'⟩
end
end HopR

set_option Elab.async false
set_option linter.all false
set_option maxRecDepth 100000
/-! ### anything == an own object: the other says nothing, the own __eq__ is asked -/
namespace OwnAny
open PySem PySem.W PySem.Spec PySem.SeqAt PyProof.Rows
open AutoSeq1 (wpAny_loadPart')
section
variable {prog : Program} {w : World} {A : Around} {E : Value → Shared → Prop} {s : Shared} {K : Frag} {C x f : Addr} {od : Option Obj} {ox : Obj} {T id : String} {v : Value}
theorem eq_from (ty : s.TypeIs v T) (slot : Slot T (cmpInfo .Eq).2.1 id) (dec : ∀ Q' : Value → Shared → Prop, Q' .notImplemented s → wpAny (model prog w) A (call (.builtin id) [v, .ref x]) Q' E s)
    (kin : K.In s.heap) (inst : InstAt s.heap x ox C od) (apart : subIn K (.ref C) (.type T) = some false) (eq : findIn K (.ref C) "__eq__" = some (some (.ref f))) (fn : isFn K (.ref f) = true) (room : A.units < cLine) {Q : Value → Shared → Prop}
    (said : wpAny (model prog w) A (call (.ref f) [.ref x, v]) (fun r s' => ∃ b, r = .bool b ∧ Q (.bool b) s') E s) : wpAny (model prog w) A (richCompare .Eq v (.ref x)) Q E s := by
  have back : wpAny (model prog w) A (tryCompare (.ref x) (cmpInfo .Eq).2.2 v) (fun r s' => ∃ b, r = some (.bool b) ∧ Q (.bool b) s') E s := by
    unfold tryCompare
    refine wpAny_bind (ifBound_K kin inst eq fn (wpAny_mono said (fun r s' z => ?_) fun _ _ z => z))
    obtain ⟨b, rfl, q⟩ := z
    exact wpAny_pure ⟨b, rfl, q⟩
  have ne : (Value.type T != Value.ref C) = true := rfl
  unfold richCompare
  simp only [ty.oneThing_none]
  refine wpAny_holding (wpAny_bind (wpAny_cRoomFor room ?_))
  refine wpAny_bind (wpAny_typeOf ty (wpAny_bind (inst.type.here ?_)))
  rw [if_pos ne]
  refine wpAny_bind ((looks_subIn kin apart).here ?_)
  simp only [Bool.false_eq_true, if_false, Bool.not_false, if_true]
  refine wpAny_bind (wpAny_tryCompare_declines ty slot (dec _ ⟨rfl, ?_⟩))
  refine wpAny_bind (wpAny_mono back (fun r s' z => ?_) fun _ _ z => z)
  obtain ⟨b, rfl, q⟩ := z
  exact wpAny_pure q
variable {Q' : Value → Shared → Prop} {dx : Addr}
theorem none_dec (q : Q' .notImplemented s) : wpAny (model prog w) A (call (.builtin "NoneType.__eq__") [.none, .ref x]) Q' E s :=
  call_gives F.slot_NoneType_eq rfl F.entry_NoneType_eq (F.args_NoneType_eq_2 _ _) (NoneType___eq___none_ref_0 x) q
theorem int_dec_own (b : Value) (hb : (∃ i t, b = .int i t) ∨ ∃ k, b = .bool k) : Meets (Builtin.«int.__eq__» ⟨[b, .ref x], []⟩) (fun _ R s => s.heap.get? x = some (instObj C dx) ∧ R (.ok (.ret .notImplemented)) s) := by
  rcases hb with ⟨i, t, rfl⟩ | ⟨k, rfl⟩
  · exact .of_wp fun prog w A R s h => by obtain ⟨hp, g, d, tk, os⟩ := s; obtain ⟨hl, h⟩ := h; wp_walk using wpAny_loadPart' hl, wpAny_load hl; exact ⟨_, rfl, h⟩
  · exact .of_wp fun prog w A R s h => by obtain ⟨hp, g, d, tk, os⟩ := s; obtain ⟨hl, h⟩ := h; wp_walk using wpAny_loadPart' hl, wpAny_load hl; exact ⟨_, rfl, h⟩
theorem str_dec_own (z : Str) (t : Tok) : Meets (Builtin.«str.__eq__» ⟨[.str z t, .ref x], []⟩) (fun _ R s => s.heap.get? x = some (instObj C dx) ∧ R (.ok (.ret .notImplemented)) s) :=
  .of_wp fun prog w A R s h => by obtain ⟨hp, g, d, tk, os⟩ := s; obtain ⟨hl, h⟩ := h; wp_walk using wpAny_loadPart' hl, wpAny_load hl; exact ⟨_, rfl, h⟩
theorem list_dec_own (l : Addr) (items : Array Value) (n : Nat) (dd : Option Addr) (sl : Array (Option Value)) {R : Result → Shared → Prop} (hl : s.heap.get? l = some { cls := .type "list", dict := dd, data := .seq items n, slots := sl })
    (hx : s.heap.get? x = some (instObj C dx)) (apart : Looks (model prog w) s.heap (isSubtype (.ref C) (.type "list")) false) (h : R (.ok (.ret .notImplemented)) s) :
    wpAny (model prog w) A.in1 (Builtin.«list.__eq__» ⟨[.ref l, .ref x], []⟩) (GQ.FinOf prog w A R) (fun e t' => R (.error e) t') s := by
  obtain ⟨hp, g, d, tk, os⟩ := s
  wp_walk using wpAny_loadPart' hl, wpAny_loadPart' hx, apart.here
  exact h
theorem tuple_dec_own (l : Addr) (items : Array Value) (n : Nat) (dd : Option Addr) (sl : Array (Option Value)) {R : Result → Shared → Prop} (hl : s.heap.get? l = some { cls := .type "tuple", dict := dd, data := .seq items n, slots := sl })
    (hx : s.heap.get? x = some (instObj C dx)) (apart : Looks (model prog w) s.heap (isSubtype (.ref C) (.type "tuple")) false) (h : R (.ok (.ret .notImplemented)) s) :
    wpAny (model prog w) A.in1 (Builtin.«tuple.__eq__» ⟨[.ref l, .ref x], []⟩) (GQ.FinOf prog w A R) (fun e t' => R (.error e) t') s := by
  obtain ⟨hp, g, d, tk, os⟩ := s
  wp_walk using wpAny_loadPart' hl, wpAny_loadPart' hx, apart.here
  exact h
end
end OwnAny
namespace HopR
open PySem PySem.Spec PyProof.Rows L2
/-- an own class is none of the built-in ones -/
structure FromC (K : PySem.W.Frag) (C : Addr) : Prop where
  non : PySem.W.subIn K (.ref C) (.type "NoneType") = some false
  int : PySem.W.subIn K (.ref C) (.type "int") = some false
  bool : PySem.W.subIn K (.ref C) (.type "bool") = some false
  str : PySem.W.subIn K (.ref C) (.type "str") = some false
  list : PySem.W.subIn K (.ref C) (.type "list") = some false
  tuple : PySem.W.subIn K (.ref C) (.type "tuple") = some false
def Other (H : Hp) (y : V) : Prop := y = .non ∨ (∃ i, y = .int i) ∨ (∃ b, y = .bl b) ∨ (∃ z, y = .str z) ∨ (∃ l xs, y = .ref l ∧ H l = some (.lst xs)) ∨ ∃ l xs, y = .ref l ∧ H l = some (.tup xs)
section
variable {X : Cx} {CX : CXT} {n : Nat} {C f : Addr} {fd : FuncData} {ps : List Str} {sp : Sp} {E : XK}
/-- anything beside an own object on the right; what its __eq__ promises of both, a truth -/
def rEqFrom (C : Addr) (sp : Sp) (E : XK) : R2 := fun y x H Q => ∃ a dx fs, x = .ref a ∧ H a = some (.ins C dx fs) ∧ Other H y ∧ sp [.ref a, y] H (fun v H' => ∃ k : Bool, v = .bl k ∧ Q (.bl k) H') E
theorem op_eqFrom (c : EqC X.K C f) (fc : FromC X.K C) (F : FnOk X.prog X.w X.K X.mg X.base CX n f fd ps sp) (room : Room n X.A) (bind : Binds X.K fd ps []) (lets : Passes CX X E) : OpR X (compareOp .Eq) (rEqFrom C sp E) := by
  rintro pins s σ H y _ u v Q I ry rx ⟨a, dx, fs, rfl, ha, oth, prom⟩
  cases rx
  obtain ⟨_, J, _⟩ := ins_get I.hok ha
  obtain ⟨_, J, _⟩ := J.look
  have said : wpAny (model X.prog X.w) X.A (call (.ref f) [.ref a, u]) (fun r s' => ∃ b, r = .bool b ∧ EP X pins σ Q (.bool b) s') X.xe s := by
    refine thn (call_at F room rfl bind lets I (us := [.ref a, u]) (vs := [.ref a, y]) (.cons rfl (.cons ry .nil)) prom) ?_
    rintro w s' ⟨z, H', I', rz, k, rfl, q⟩
    cases rz
    exact ⟨k, rfl, .bl k, H', I', rfl, q⟩
  have un := room.units0
  show wpAny (model X.prog X.w) X.A (richCompare .Eq u (.ref a)) (EP X pins σ Q) X.xe s
  rcases oth with rfl | ⟨i, rfl⟩ | ⟨b, rfl⟩ | ⟨z, rfl⟩ | ⟨l, xs, rfl, hl⟩ | ⟨l, xs, rfl, hl⟩
  · cases (show u = Value.none from ry)
    exact OwnAny.eq_from (show s.TypeIs .none "NoneType" from rfl) PySem.F.slot_NoneType_eq (fun _ q => OwnAny.none_dec q) I.kIn J fc.non c.eq c.fn un said
  · obtain ⟨t, e⟩ := (show ∃ t, u = Value.int i t from ry)
    subst e
    exact OwnAny.eq_from (typeIs_int s i t) PySem.F.slot_int_eq (fun _ q => call_meets PySem.F.slot_int_eq (typeIs_int s i t) PySem.F.entry_int_eq (PySem.F.args_int_eq_2 _ _) (OwnAny.int_dec_own _ (.inl ⟨i, t, rfl⟩)) ⟨J.at_, q⟩) I.kIn J fc.int c.eq c.fn un said
  · cases (show u = Value.bool b from ry)
    have ty : s.TypeIs (.bool b) "bool" := rfl
    exact OwnAny.eq_from ty PySem.F.slot_bool_eq (fun _ q => call_meets PySem.F.slot_bool_eq ty PySem.F.entry_int_eq (PySem.F.args_int_eq_2 _ _) (OwnAny.int_dec_own _ (.inr ⟨b, rfl⟩)) ⟨J.at_, q⟩) I.kIn J fc.bool c.eq c.fn un said
  · obtain ⟨t, e⟩ := (show ∃ t, u = Value.str z t from ry)
    subst e
    exact OwnAny.eq_from (typeIs_str s z t) PySem.F.slot_str_eq (fun _ q => call_meets PySem.F.slot_str_eq (typeIs_str s z t) PySem.F.entry_str_eq (PySem.F.args_str_eq_2 _ _) (OwnAny.str_dec_own z t) ⟨J.at_, q⟩) I.kIn J fc.str c.eq c.fn un said
  · cases ry
    obtain ⟨_, its, k, r, g⟩ := I.hok _ _ hl
    have ty : s.TypeIs (.ref l) "list" := ⟨_, g, rfl⟩
    exact OwnAny.eq_from ty PySem.F.slot_list_eq (fun Q' q => GQ.call_here PySem.F.slot_list_eq ty PySem.F.entry_list_eq (PySem.F.args_list_eq_2 _ _) (OwnAny.list_dec_own (R := wants Q' X.xe) l its.toArray k none #[] g J.at_ (PySem.W.looks_subIn I.kIn fc.list) q)) I.kIn J fc.list c.eq c.fn un said
  · cases ry
    obtain ⟨its, r, ⟨⟨cls, dd, data, sl⟩, g, hc, k, hd⟩, _⟩ := I.tuple (SqT.of hl)
    dsimp only at hc hd
    subst hc hd
    have ty : s.TypeIs (.ref l) "tuple" := ⟨_, g, rfl⟩
    exact OwnAny.eq_from ty PySem.F.slot_tuple_eq (fun Q' q => GQ.call_here PySem.F.slot_tuple_eq ty PySem.F.entry_tuple_eq (PySem.F.args_tuple_eq_2 _ _) (OwnAny.tuple_dec_own (R := wants Q' X.xe) l its.toArray k dd sl g J.at_ (PySem.W.looks_subIn I.kIn fc.tuple) q)) I.kIn J fc.tuple c.eq c.fn un said
end
end HopR

set_option Elab.async false
set_option linter.all false
set_option maxRecDepth 100000
namespace HopR
open PySem PySem.Spec PyProof.Rows L2
/-! ### {o} in an f-string, str of a list with own objects -/
/-- what an f-string asks of an own class -/
structure FmtC (K : PySem.W.Frag) (C f : Addr) : Prop where
  fmt : PySem.W.findIn K (.ref C) "__format__" = some (some (.builtin "object.__format__"))
  mro : PySem.W.mroIn K C (.type "object") = some true
  str : PySem.W.findIn K (.ref C) "__str__" = some (some (.ref f))
  fn : PySem.W.isFn K (.ref f) = true
section
variable {X : Cx} {CX : CXT} {n : Nat} {C f : Addr} {fd : FuncData} {ps : List Str} {sp : Sp} {E : XK} {e : Expr} {te : TE} {pos : Pos}
theorem pe_fmtS (c : FmtC X.K C f) (F : FnOk X.prog X.w X.K X.mg X.base CX n f fd ps sp) (room : Room (n + 2) X.A) (bind : Binds X.K fd ps []) (lets : Passes CX X E) (he : PE X e te) :
    PE X (.FormattedValue e (-1) none pos) (tFmtO C sp E te) := by
  constructor
  intro pins s σ H Q I h
  refine wpAny_FormattedValue_plain (thn (he.run pins s σ H _ I h) ?_)
  rintro u s1 ⟨_, H1, I1, ru, a, dx, fs, rfl, ha, prom⟩
  cases (show u = Value.ref a from ru)
  have I2 : Inv X pins σ H1 { s1 with toks := s1.toks + 1 } := I1.tok _
  obtain ⟨_, J, _⟩ := ins_get I1.hok ha
  obtain ⟨od, J, _⟩ := J.look
  have un := room.un
  refine PySem.W.kfo_fieldS (by show X.A.units + 1 < cLine; omega) I1.kIn J c.fmt c.mro c.str c.fn (thn (call_at (A := X.A.in1) F (Room.mono (k := n + 1) room.in1 (Nat.le_succ n)) rfl bind lets I2 (us := [.ref a]) (vs := [.ref a]) (.cons rfl .nil) prom) ?_)
  rintro v s' ⟨_, H', I', rz, z, rfl, hz, q⟩
  obtain ⟨tk, rfl⟩ := rz
  exact ⟨.str z, H', I', ⟨_, rfl⟩, q⟩
/-- list.__repr__ of a list with own objects -/
theorem list_repr_at {A : Around} (hG : A.guards = some []) (frames : A.frames = X.A.frames) (room : Room (n + 2) A) {pins : List (Addr × Obj)} {σ : L2.St} {H : Hp} {s : Shared} {L : Addr} {x : V} {xs : List V} {ts : List Str} {Q : VK} (I : Inv X pins σ H s)
    (hL : H L = some (.lst (x :: xs))) (len : ts.length = (x :: xs).length) (tell : ∀ (i : Nat) y t, (x :: xs)[i]? = some y → ts[i]? = some t → Itm X n L H y t) (fits : (listText ts).length ≤ sizeLine) (q : ∀ H', Same H H' → Q (.str (listText ts)) H') :
    wpAny (model X.prog X.w) A (call (.builtin "list.__repr__") [.ref L]) (fun r s₁ => ∃ y t, r = .str y t ∧ EP X pins σ Q r s₁) X.xe s := by
  obtain ⟨its, rv2, ⟨o, m, ho, hc, _, hd⟩, _⟩ := I.list (SqL.of hL)
  have un := room.un
  have type : s.TypeIs (.ref L) "list" := ⟨o, ho, hc⟩
  have nP : H s.heap.objs.size = none := I.hok.fresh (Nat.le_refl _)
  cases rv2 with
  | cons r1 r2 =>
    refine wpAny_call (codeAny_call_builtin F.slot_list_repr.plain F.entry_list_repr (F.slot_list_repr.check _ _ _ _ _ _ _ _ type (F.args_list_repr_1 _) ?_))
    refine wpAny_list_repr_head (A := A.in1) hG (fun _ _ _ h => nomatch h) ho hd ?_
    refine wpAny_bind (m := newList []) (wpAny_newObj_type (wpAny_pure ⟨F.quiet_list_repr_loop _, ?_⟩))
    refine turns (A := A) (n := n) hG (Room.mono (k := n + 2) (j := n + 1) room (Nat.le_succ _)) frames nP hL len tell fits ?bad (pins := pins) (σ := σ) ?good _ 0 (upd H s.heap.objs.size (.lst [])) _ rfl (Nat.zero_le _) (I.laid (t' := s.toks) (fun b o e => Heap.get?_push_of_some _ e) (Nat.le_refl _) ⟨Nat.zero_le _, [], 0, .nil, Heap.get?_push_size _ rfl⟩) (same_upd nP) upd_same
    case bad => exact fun e s' h => h
    case good => exact fun s' H2 u I2 sm => ⟨_, _, rfl, .str _, H2, I2, ⟨_, rfl⟩, q H2 sm⟩
open Builtin Builtin.Str in
theorem cr_strL (hG : X.A.guards = some []) (room : Room (n + 6) X.A) : CallR X (.type "str") (rReprL X n) := by
  rintro pins s σ H _ us Q I r ⟨L, x, xs, ts, rfl, hL, len, tell, fits, q⟩
  obtain ⟨u, rfl, rv⟩ := vals1 r
  cases (show u = Value.ref L from rv)
  obtain ⟨its, _, ⟨o, m, ho, hc, _, hd⟩, _⟩ := I.list (SqL.of hL)
  have un := room.un
  have type : s.TypeIs (.ref L) "list" := ⟨o, ho, hc⟩
  have told : wpAny (model X.prog X.w) X.A.in1.in1 (PySem.Builtin.Str.strOf (.ref L)) (fun r s₁ => ∃ y u, r = .str y u ∧ EP X pins σ Q r s₁) X.xe s := by
    unfold PySem.Builtin.Str.strOf
    rw [show isExactStr (.ref L) = false from rfl]
    refine wpAny_bind (m := cRoomFor _ _) (wpAny_cRoomFor (by show X.A.units + 1 + 1 < cLine; omega) ?_)
    refine wpAny_bind (m := callSpecial? (.ref L) (Str.ofString "__str__")) (wpAny_callSpecial?_slot type F.slot_list_str (call_object_str_slot (by show X.A.units + 1 + 1 + 1 < cLine; omega) type F.slot_list_str F.slot_list_repr.toG
      (wpAny_mono (list_repr_at (A := X.A.in1.in1.in1) hG rfl (Room.mono (k := n + 3) (j := n + 2) (Room.in1 (Room.in1 (Room.in1 room))) (Nat.le_succ _)) I hL len tell fits q) (fun r s₁ z => ?_) fun _ _ z => z)))
    obtain ⟨y, t, rfl, z⟩ := z
    exact wpAny_pure ⟨y, t, rfl, z⟩
  refine callType_codes (T := "str") (Bi := Builtin.«object.__init__») (Q₁ := fun r s₁ => ∃ y u, r = .str y u ∧ EP X pins σ Q r s₁) PySem.F.called_str (PySem.F.typeCall_str_1 _) PySem.F.entry_object_init ?_ ?_
  · refine codeAny_of_tree ?_
    show wpAny _ X.A.in1.in1 (do checkBuiltinCall "str.__new__" ⟨[.type "str", .ref L], []⟩; again (.builtin "str.__new__" ⟨[.type "str", .ref L], []⟩)) _ _ s
    refine wpAny_bind (wpAny_of_eq (PySem.F.newCall_str_1 _) (wpAny_pure ⟨plainId_quiet (by decide +kernel) _, codeAny_builtin PySem.F.entry_str_new ?_⟩))
    rw [Around.under_plainId (by decide +kernel) _]
    rw [str_new_tree]
    refine wpAny_bind (wpAny_pure ?_)
    refine wpAny_bind (wpAny_of_eq isSubtype_str_str ?_)
    exact wpAny_bind (wpAny_mono told (fun r s₁ hr => wpAny_pure hr) fun _ _ y => y)
  · rintro obj s₁ ⟨y, u, rfl, hq⟩
    exact ⟨typeIs_str _ _ _, PySem.F.args_object_init_2 _ _, object_init_meets PySem.F.called_str.init.lookup PySem.F.called_str.made (by decide) X.prog X.w X.A.in1 _ s₁ ⟨typeIs_str _ _ _, rfl, hq⟩⟩
end
end HopR

set_option Elab.async false
set_option linter.all false
set_option maxRecDepth 100000
set_option exponentiation.threshold 200000
namespace Hop
section
open PySem L2 HopR
open C8 (InsC call_isC)
def top (i : Nat) : Stmt := PySem.Challenge.pw_hopline_k04_parts_read.main.body.getD i (.Pass ⟨0, 0, 0, 0⟩)
abbrev sIsWhole : Stmt := top 10
abbrev sDivisor : Stmt := top 11
abbrev sFigures : Stmt := top 13
abbrev sDrawn : Stmt := top 20
abbrev sLow : Stmt := top 21
abbrev sFraction : Stmt := top 23
abbrev sLText : Stmt := top 24
abbrev sInit : Stmt := inClass (top 16) 0
abbrev sPStr : Stmt := inClass (top 16) 9
theorem tb_ : ¬ (("top" : Str) = "bottom") := by decide +kernel
def pf (q : Rat) : List (Str × V) := putF "bottom" (.int (q.den : Int)) (putF "top" (.int q.num) [])
theorem pf_top (q : Rat) : (pf q).lookup ("top" : Str) = some (.int q.num) := by
  unfold pf
  rw [lookup_putF, if_neg tb_, lookup_putF, if_pos rfl]
theorem pf_bottom (q : Rat) : (pf q).lookup ("bottom" : Str) = some (.int (q.den : Int)) := by
  unfold pf
  rw [lookup_putF, if_pos rfl]
/-- at a a Part of q -/
def PA (C : Addr) (H : Hp) (a : Addr) (q : Rat) : Prop := ∃ dx, H a = some (.ins C dx (pf q))
theorem PA.same {C : Addr} {H H' : Hp} {a : Addr} {q : Rat} (s : Same H H') (h : PA C H a q) : PA C H' a q := let ⟨dx, e⟩ := h; ⟨dx, s _ _ e⟩
/-- what is known of the class and of the built-ins -/
structure TxtP (K : PySem.W.Frag) (mg : Str → Option Value) (C : Addr) : Prop where
  len : mg "len" = none
  range : mg "range" = none
  abs : mg "abs" = none
  isi : mg "isinstance" = none
  int : mg "int" = none
  bool : mg "bool" = none
  ins : InsC K C
  nT : NoAttr K C "top"
  nB : NoAttr K C "bottom"
  mgC : mg "Part" = some (.ref C)
end
end Hop
namespace Hop
section
open PySem L2 HopR
open C8 (InsC call_isC)
variable {P : Program} {w : World} {K : PySem.W.Frag} {mg : Str → Option Value} {base : Heap} {C : Addr}
def spWhole : Sp := fun vs H Q _ => ∃ i : Int, vs = [.int i] ∧ Q (.bl true) H
theorem scWhole : FnScope ["thing"] ["thing"] (defScope sIsWhole) := ⟨rfl, rfl, rfl, by decide +kernel, rfl, by decide +kernel, by decide +kernel⟩
theorem ok_whole {f : Addr} {fd : FuncData} {k : Nat} (F : Fun K "is_whole" "is_whole" sIsWhole f fd) (T : TxtP K mg C) : FnOk P w K mg base CX0 (k + 1) f fd ["thing"] spWhole := by
  refine F.ok scWhole (fun vs H Q E h => ?_) (fun cdv A outer s H vs Q E hr h => ?_)
  · obtain ⟨i, rfl, _⟩ := h
    rfl
  · obtain ⟨i, rfl, q⟩ := h
    refine ⟨_, pss_one (ps_ret (pe_and (pe_callB call_isi (by rfl) T.isi (by decide +kernel) (pa_cons (pv 0) (pa_cons (pe_bltn (v := .ty "int") (by rfl) T.int (by decide +kernel) rfl) pa_nil)))
      (pe_one (pe_not (pe_callB call_isi (by rfl) T.isi (by decide +kernel) (pa_cons (pv 0) (pa_cons (pe_bltn (v := .ty "bool") (by rfl) T.bool (by decide +kernel) rfl) pa_nil))))))), ?_⟩
    refine ⟨.int i, rfl, .int i, .ty "int", .type "int", .type "int", true, rfl, .ty _, .base (.int _), kit_ty (by decide +kernel), true, rfl, ?_⟩
    exact ⟨.int i, rfl, .int i, .ty "bool", .type "int", .type "bool", false, rfl, .ty _, .base (.int _), kit_ty (by decide +kernel), false, rfl, q⟩
def spDivisor : Sp := fun vs H Q _ => ∃ a b : Int, vs = [.int a, .int b] ∧ Q (.int (Int.gcd a b : Int)) H
theorem scDivisor : FnScope ["one", "other"] ["one", "other"] (defScope sDivisor) := ⟨rfl, rfl, rfl, by decide +kernel, rfl, by decide +kernel, by decide +kernel⟩
theorem ok_divisor {f : Addr} {fd : FuncData} {k : Nat} (F : Fun K "common_divisor" "common_divisor" sDivisor f fd) (T : TxtP K mg C) : FnOk P w K mg base CX0 (k + 1) f fd ["one", "other"] spDivisor := by
  refine F.ok scDivisor (fun vs H Q E h => ?_) (fun cdv A outer s H vs Q E hr h => ?_)
  · obtain ⟨a, b, rfl, _⟩ := h
    rfl
  · obtain ⟨a, b, rfl, q⟩ := h
    have nd := scDivisor.nd
    refine ⟨_, pss_cons (ps_while PassesOwn.never (pt_cmpR op_ne (pv 1) pe_int (nomark _)) (pss_one (ps_par (by rfl) nd (i := 0) (j := 1) rfl rfl (by decide) rfl rfl (pa_cons (pv 1) (pa_cons (pe_op op_modN (pv 0) (pv 1)) pa_nil)) (by rfl))))
      (pss_one (ps_ret (pe_callB call_abs (by rfl) T.abs (by decide +kernel) (pa_cons (pv 0) pa_nil)))), ?_⟩
    refine while_by (fun σ H1 => ∃ x y : Int, σ = [some (.int x), some (.int y)] ∧ Int.gcd x y = Int.gcd a b ∧ H1 = H) (fun σ _ => match σ with | [_, some (.int y)] => y.natAbs | _ => 0) ⟨a, b, rfl, rfl, rfl⟩ ?_ ?_
    · rintro σ H1 ⟨x, y, rfl, e, rfl⟩
      refine ⟨.int y, rfl, rfl, _, rfl, ?_⟩
      by_cases hy : y = 0
      · subst hy
        refine iteNS rfl ⟨.int x, rfl, x, rfl, ?_⟩
        have e2 : (if x < 0 then -x else x) = (Int.gcd a b : Int) := by
          rw [← e, Int.gcd_zero_right]
          split <;> omega
        show Q (.int (if x < 0 then -x else x)) H1
        rw [e2]
        exact q
      · rw [decide_eq_false (fun z => hy (V.int.inj z))]
        refine iteT ⟨.int y, rfl, .int x, rfl, .int y, rfl, x, y, rfl, rfl, hy, _, _, rfl, ⟨y, x.fmod y, rfl, (gcd_fmod x y).trans e, rfl⟩, fmod_less x hy⟩
    · rintro σ H1 Q1 Q2 hm h
      obtain ⟨v, e1, e2, k2, e3, h⟩ := h
      exact ⟨v, e1, e2, k2, e3, hm _ _ h⟩
theorem scInit : FnScope ["self", "top", "bottom", "divisor"] ["self", "top", "bottom"] (defScope sInit) := ⟨rfl, rfl, rfl, by decide +kernel, rfl, by decide +kernel, by decide +kernel⟩
def spInit (C : Addr) : Sp := fun vs H Q _ => ∃ (p dx : Addr) (t b : Int), vs = [.ref p, .int t, .int b] ∧ b ≠ 0 ∧ b.natAbs < 2 ^ 8000 ∧ H p = some (.ins C dx []) ∧ Q .non (upd H p (.ins C dx (pf (Rat.divInt t b))))
theorem ok_init {f f1 f2 : Addr} {fd fd1 fd2 : FuncData} {k : Nat} (F : FunD K "__init__" "Part.__init__" (defArgs sInit) (defBody sInit) (defScope sInit) [.int 1] [] f fd) (N1 : Fn K mg "is_whole" sIsWhole ["thing"] f1 fd1) (N2 : Fn K mg "common_divisor" sDivisor ["one", "other"] f2 fd2) (T : TxtP K mg C) :
    FnOk P w K mg base CX0 (k + 2) f fd ["self", "top", "bottom"] (spInit C) := by
  have G1 : FnOk P w K mg base CX0 (k + 1) f1 fd1 ["thing"] spWhole := ok_whole N1.F T
  have G2 : FnOk P w K mg base CX0 (k + 1) f2 fd2 ["one", "other"] spDivisor := ok_divisor N2.F T
  refine F.ok scInit (fun vs H Q E h => ?_) (fun cdv A outer s H vs Q E hr h => ?_)
  · obtain ⟨p, dx, t, b, rfl, _⟩ := h
    rfl
  · obtain ⟨p, dx, t, b, rfl, hb, hb2, hp, q⟩ := h
    have nd := scInit.nd
    refine ⟨_, PSs.nox (pss_cons (ps_if (pt_not (pt_val (pe_call G1 hr (by rfl) N1.g N1.F.kp N1.b .nil pass0 (pa_cons (pv 1) pa_nil)))) (pss_one ps_never) pss_nil)
      (pss_cons (ps_if (pt_not (pt_val (pe_call G1 hr (by rfl) N1.g N1.F.kp N1.b .nil pass0 (pa_cons (pv 2) pa_nil)))) (pss_one ps_never) pss_nil)
      (pss_cons (ps_if (pt_cmpR op_eq (pv 2) pe_int (nomark _)) (pss_one ps_never) pss_nil)
      (pss_cons (ps_set (i := 3) nd rfl (.inl rfl) (pe_call G2 hr (by rfl) N2.g N2.F.kp N2.b .nil pass0 (pa_cons (pv 1) (pa_cons (pv 2) pa_nil))))
      (pss_cons (ps_if (pt_cmpR op_lt (pv 2) pe_int (nomark _)) (pss_one (ps_set (i := 3) nd rfl (.inl rfl) (pe_un un_neg (pv 3)))) pss_nil)
      (pss_cons (ps_fld (pv 0) (pe_op op_fdivWN (pv 1) (pv 3)) rfl)
      (pss_one (ps_fld (pv 0) (pe_op op_fdivWN (pv 2) (pv 3)) rfl)))))))), ?_⟩
    refine ⟨.int t, rfl, t, rfl, true, rfl, iteF ⟨.int b, rfl, b, rfl, true, rfl, iteF ⟨.int b, rfl, rfl, _, rfl, ?_⟩⟩⟩
    rw [decide_eq_false (fun z => hb (V.int.inj z))]
    refine iteF ⟨.int t, rfl, .int b, rfl, t, b, rfl, ?_⟩
    have hg := gcd_pos (t := t) hb
    have hgl : (Int.gcd t b).log2 < 9000 := by
      have h1 : Int.gcd t b ≤ b.natAbs := Nat.le_of_dvd (by omega) (Int.gcd_dvd_natAbs_right ..)
      exact Nat.lt_of_lt_of_le (PySem.Flt.log2_lt_of (by decide) (Nat.lt_of_le_of_lt h1 hb2)) (by decide)
    have fin : ∀ g : Int, g = (if b < 0 then -(Int.gcd t b : Int) else (Int.gcd t b : Int)) → CDivWN t g ∧ CDivWN b g := fun g e => by
      have e2 : g.natAbs = Int.gcd t b := by
        rw [e]
        split <;> omega
      unfold CDivWN
      rw [e2]
      exact ⟨⟨by omega, hgl⟩, ⟨by omega, hgl⟩⟩
    have done : ∀ g : Int, g = (if b < 0 then -(Int.gcd t b : Int) else (Int.gcd t b : Int)) → Q .non (upd (upd H p (.ins C dx (putF "top" (.int (t.fdiv g)) []))) p (.ins C dx (putF "bottom" (.int (b.fdiv g)) (putF "top" (.int (t.fdiv g)) [])))) := fun g e => by
      rw [upd_upd, e, low_num hb, low_den hb]
      exact q
    refine ⟨.int b, rfl, _, _, rfl, rfl, _, rfl, ite2 (fun e => ?_) (fun e => ?_)⟩
    · have e : b < 0 := of_decide_eq_true e
      have eg : -(Int.gcd t b : Int) = (if b < 0 then -(Int.gcd t b : Int) else (Int.gcd t b : Int)) := (if_pos e).symm
      obtain ⟨c1, c2⟩ := fin _ eg
      refine ⟨_, rfl, _, rfl, ?_⟩
      refine ⟨.int t, rfl, _, rfl, t, _, rfl, rfl, c1, .ref p, rfl, p, C, dx, _, rfl, hp, T.ins.cl, T.nT, (by show 0 < 1000; decide), ?_⟩
      exact ⟨.int b, rfl, _, rfl, b, _, rfl, rfl, c2, .ref p, rfl, p, C, dx, _, rfl, upd_same, T.ins.cl, T.nB, (by show 1 < 1000; decide), done _ eg⟩
    · have e : ¬ b < 0 := fun z => e (decide_eq_true z)
      have eg : (Int.gcd t b : Int) = (if b < 0 then -(Int.gcd t b : Int) else (Int.gcd t b : Int)) := (if_neg e).symm
      obtain ⟨c1, c2⟩ := fin _ eg
      refine ⟨.int t, rfl, _, rfl, t, _, rfl, rfl, c1, .ref p, rfl, p, C, dx, _, rfl, hp, T.ins.cl, T.nT, (by show 0 < 1000; decide), ?_⟩
      exact ⟨.int b, rfl, _, rfl, b, _, rfl, rfl, c2, .ref p, rfl, p, C, dx, _, rfl, upd_same, T.ins.cl, T.nB, (by show 1 < 1000; decide), done _ eg⟩
/-- what a Part is made with: its class, its __init__ and how that binds -/
structure Mks (K : PySem.W.Frag) (mg : Str → Option Value) (C fi f1 f2 : Addr) (gi g1 g2 : FuncData) (d1 : Value) : Prop where
  M : Mk K C fi
  F : FunD K "__init__" "Part.__init__" (defArgs sInit) (defBody sInit) (defScope sInit) [.int 1] [] fi gi
  b3 : Binds K gi ["self", "top", "bottom"] []
  b2 : Binds K gi ["self", "top", "bottom"] [d1]
  r1 : RelV (.int 1) d1
  N1 : Fn K mg "is_whole" sIsWhole ["thing"] f1 g1
  N2 : Fn K mg "common_divisor" sDivisor ["one", "other"] f2 g2
/-- a new Part, behind H -/
def New (C : Addr) (H : Hp) (q : Rat) (Q : VK) : Prop := ∀ H' p, Same H H' → H p = none → PA C H' p q → Q (.ref p) H'
theorem mk_facts {H : Hp} {x dx : Addr} {q : Rat} (hx : H x = none) (hdx : H dx = none) : Same H (upd (upd H dx (.own x)) x (.ins C dx (pf q))) ∧ PA C (upd (upd H dx (.own x)) x (.ins C dx (pf q))) x q := by
  refine ⟨fun c o e => ?_, dx, upd_same⟩
  rw [upd_ne (ne_of_none e hx), upd_ne (ne_of_none e hdx)]
  exact e
theorem scLow : FnScope ["_law_top", "_law_bottom", "_law_one", "_law_other"] ["_law_top", "_law_bottom"] (defScope sLow) := ⟨rfl, rfl, rfl, by decide +kernel, rfl, by decide +kernel, by decide +kernel⟩
def tq (q : Rat) : List V := [.int q.num, .int (q.den : Int)]
def spLow : Sp := fun vs H Q _ => ∃ t b : Int, vs = [.int t, .int b] ∧ b ≠ 0 ∧ b.natAbs < 2 ^ 8000 ∧ ∀ H' p, Same H H' → H p = none → H' p = some (.tup (tq (Rat.divInt t b))) → Q (.ref p) H'
theorem abs_nat (x : Int) : (if x < 0 then -x else x) = (x.natAbs : Int) := by
  split <;> omega
theorem ok_low {f : Addr} {fd : FuncData} {k : Nat} (F : Fun K "_law_low" "_law_low" sLow f fd) (T : TxtP K mg C) : FnOk P w K mg base CX0 (k + 1) f fd ["_law_top", "_law_bottom"] spLow := by
  refine F.ok scLow (fun vs H Q E h => ?_) (fun cdv A outer s H vs Q E hr h => ?_)
  · obtain ⟨a, b, rfl, _⟩ := h
    rfl
  · obtain ⟨t, b, rfl, hb, hb2, q⟩ := h
    have nd := scLow.nd
    refine ⟨_, pss_cons (ps_set (i := 2) nd rfl (.inl rfl) (pe_callB call_abs (by rfl) T.abs (by decide +kernel) (pa_cons (pv 0) pa_nil)))
      (pss_cons (ps_set (i := 3) nd rfl (.inl rfl) (pe_callB call_abs (by rfl) T.abs (by decide +kernel) (pa_cons (pv 1) pa_nil)))
      (pss_cons (ps_while PassesOwn.never (pt_cmpR op_gt (pv 3) pe_int (nomark _)) (pss_one (ps_par (by rfl) nd (i := 2) (j := 3) rfl rfl (by decide) rfl rfl (pa_cons (pv 3) (pa_cons (pe_op op_modN (pv 2) (pv 3)) pa_nil)) (by rfl))))
      (pss_cons (ps_if (pt_cmpR op_lt (pv 1) pe_int (nomark _)) (pss_one (ps_set (i := 2) nd rfl (.inl rfl) (pe_op op_sub pe_int (pv 2)))) pss_nil)
      (pss_one (ps_ret (pe_tup (pa_cons (pe_op op_fdivWN (pv 0) (pv 2)) (pa_cons (pe_op op_fdivWN (pv 1) (pv 2)) pa_nil)))))))), ?_⟩
    refine ⟨.int t, rfl, t, rfl, .int b, rfl, b, rfl, ?_⟩
    rw [abs_nat, abs_nat]
    have hg := gcd_pos (t := t) hb
    have hgl : (Int.gcd t b).log2 < 9000 := by
      have h1 : Int.gcd t b ≤ b.natAbs := Nat.le_of_dvd (by omega) (Int.gcd_dvd_natAbs_right ..)
      exact Nat.lt_of_lt_of_le (PySem.Flt.log2_lt_of (by decide) (Nat.lt_of_le_of_lt h1 hb2)) (by decide)
    have fin : ∀ g : Int, g = (if b < 0 then -(Int.gcd t b : Int) else (Int.gcd t b : Int)) → CDivWN t g ∧ CDivWN b g := fun g e => by
      have e2 : g.natAbs = Int.gcd t b := by
        rw [e]
        split <;> omega
      unfold CDivWN
      rw [e2]
      exact ⟨⟨by omega, hgl⟩, ⟨by omega, hgl⟩⟩
    have done : ∀ g : Int, g = (if b < 0 then -(Int.gcd t b : Int) else (Int.gcd t b : Int)) → ∀ p, H p = none → Q (.ref p) (upd H p (.tup [.int (t.fdiv g), .int (b.fdiv g)])) := fun g e p hp => by
      rw [e, low_num hb, low_den hb]
      exact q _ _ (same_upd hp) hp upd_same
    refine while_by (fun σ H1 => ∃ x y : Nat, σ = [some (.int t), some (.int b), some (.int (x : Int)), some (.int (y : Int))] ∧ Nat.gcd x y = Int.gcd t b ∧ H1 = H) (fun σ _ => match σ with | [_, _, _, some (.int y)] => y.natAbs | _ => 0) ⟨t.natAbs, b.natAbs, rfl, rfl, rfl⟩ ?_ ?_
    · rintro σ H1 ⟨x, y, rfl, e, rfl⟩
      refine ⟨_, rfl, _, _, rfl, rfl, _, rfl, ?_⟩
      by_cases hy : y = 0
      · subst hy
        rw [Nat.gcd_zero_right] at e
        subst e
        rw [decide_eq_false (show ¬ (((0 : Nat) : Int) > 0) by decide)]
        refine iteF ⟨.int b, rfl, _, _, rfl, rfl, _, rfl, ite2 (fun e => ?_) (fun e => ?_)⟩
        · have e : b < 0 := of_decide_eq_true e
          have eg : (0 : Int) - (Int.gcd t b : Int) = (if b < 0 then -(Int.gcd t b : Int) else (Int.gcd t b : Int)) := by
            rw [if_pos e]
            omega
          obtain ⟨c1, c2⟩ := fin _ eg
          exact ⟨_, rfl, _, _, rfl, rfl, .int t, rfl, _, rfl, t, _, rfl, rfl, c1, .int b, rfl, _, rfl, b, _, rfl, rfl, c2, (by show 2 ≤ sizeLine; decide), fun p hp => done _ eg p hp⟩
        · have e : ¬ b < 0 := fun z => e (decide_eq_true z)
          have eg : (Int.gcd t b : Int) = (if b < 0 then -(Int.gcd t b : Int) else (Int.gcd t b : Int)) := (if_neg e).symm
          obtain ⟨c1, c2⟩ := fin _ eg
          exact ⟨.int t, rfl, _, rfl, t, _, rfl, rfl, c1, .int b, rfl, _, rfl, b, _, rfl, rfl, c2, (by show 2 ≤ sizeLine; decide), fun p hp => done _ eg p hp⟩
      · have hyi : (y : Int) ≠ 0 := by omega
        have em : ((x : Int).fmod (y : Int)) = ((x % y : Nat) : Int) := by
          rw [Int.fmod_eq_emod_of_nonneg _ (by omega)]
          exact (Int.natCast_emod x y).symm
        rw [decide_eq_true (show (y : Int) > 0 by omega)]
        refine iteT ⟨_, rfl, _, rfl, _, rfl, _, _, rfl, rfl, hyi, _, _, rfl, ⟨y, x % y, (by show [some (V.int t), some (V.int b), some (V.int (y : Int)), some (V.int ((x : Int).fmod (y : Int)))] = _; rw [em]), ?_, rfl⟩, ?_⟩
        · rw [← e, Nat.gcd_comm y, ← Nat.gcd_rec, Nat.gcd_comm]
        · exact fmod_less (x : Int) hyi
    · rintro σ H1 Q1 Q2 hm h
      obtain ⟨v, e1, i1, j1, e2, e3, k2, e4, h⟩ := h
      exact ⟨v, e1, i1, j1, e2, e3, k2, e4, hm _ _ h⟩
theorem scDrawn : FnScope ["_law_cell", "_law_sizes", "_law_found", "_law_left", "_law_k", "_law_small", "_law_one", "_law_two"] ["_law_cell", "_law_sizes"] (defScope sDrawn) := ⟨rfl, rfl, rfl, by decide +kernel, rfl, by decide +kernel, by decide +kernel⟩
theorem ok_drawn {f : Addr} {fd : FuncData} {k : Nat} (F : Fun K "_law_drawn" "_law_drawn" sDrawn f fd) (mL : mg "len" = none) (mR : mg "range" = none) : FnOk P w K mg base CX0 (k + 1) f fd ["_law_cell", "_law_sizes"] (spDrawn K) := by
  refine F.ok scDrawn (fun vs H Q E h => ?_) (fun cdv A outer s H vs Q E hr h => ?_)
  · obtain ⟨c, a, zs, rfl, _⟩ := h
    rfl
  · obtain ⟨c, a, zs, rfl, hS, hz, hlen, q⟩ := h
    have nd := scDrawn.nd
    refine ⟨_, pss_cons (ps_set (i := 2) nd rfl (.inl rfl) (pe_lst pa_nil))
      (pss_cons (ps_set (i := 3) nd rfl (.inl rfl) (pv 0))
      (pss_cons (ps_for PassesOwn.never rfl (pi_range1 (by rfl) mR (pa_cons (pe_callB call_len_seq (by rfl) mL PySem.boot_len (pa_cons (pv 1) pa_nil)) pa_nil)) (pg_name (i := 4) nd rfl (.inl rfl))
        (pss_one (ps_if (pt_cmpR op_ge (pv 3) (pe_op op_pow pe_int pe_int) (nomark _))
          (pss_cons (ps_expr (pe_bm PySem.F.plainAttrs_list PySem.F.slot_list_append PySem.F.type_list_append mt_append (pv 2) (pa_cons (pe_op op_mod (pv 3) (pe_ix ix_list (pv 1) (pv 4) (fun _ _ => rfl))) pa_nil)))
            (pss_one (ps_set (i := 3) nd rfl (.inl rfl) (pe_op op_fdivW (pv 3) (pe_ix ix_list (pv 1) (pv 4) (fun _ _ => rfl))))))
          (pss_cons (ps_set (i := 5) nd rfl (.inl rfl) (pe_op op_mod (pv 3) (pe_op op_pow pe_int pe_int)))
          (pss_cons (ps_set (i := 6) nd rfl (.inl rfl) (pe_op op_mod (pe_op op_mul (pe_op op_add (pe_op op_add (pv 5) (pe_op op_mul pe_int (pv 4))) pe_int) (pe_op op_add pe_int (pe_op op_mul (pe_op op_mul pe_int (pv 4)) (pv 4)))) pe_int))
          (pss_cons (ps_set (i := 7) nd rfl (.inl rfl) (pe_op op_mod (pe_op op_mul (pe_op op_add (pe_op op_add (pe_op op_fdiv (pv 5) pe_int) (pe_op op_mul pe_int (pv 4))) pe_int) (pe_op op_add pe_int (pe_op op_mul pe_int (pv 4)))) pe_int))
          (pss_one (ps_expr (pe_bm PySem.F.plainAttrs_list PySem.F.slot_list_append PySem.F.type_list_append mt_append (pv 2) (pa_cons (pe_op op_mod (pe_op op_add (pe_op op_mul (pv 6) (pv 7)) (pe_op op_fdiv (pv 6) pe_int)) (pe_ix ix_list (pv 1) (pv 4) (fun _ _ => rfl))) pa_nil))))))))))
      (pss_one (ps_ret (pv 2))))), ?_⟩
    -- found = []; left = cell
    refine ⟨Nat.zero_le _, fun o no => ?_⟩
    have s1 : Same H (upd H o (.lst [])) := same_upd no
    refine ⟨.int c, rfl, .ref a, rfl, a, zs.map V.int, rfl, .inl (s1.seq hS), ((zs.map V.int).length : Int), rfl, by omega, (by rw [List.length_map]; omega), ?_⟩
    refine for_range (lo := 0) (n := zs.length) (fun i σ H3 => ∃ (l : Int) (y4 y5 y6 y7 : Option V) (ds : List Int), σ = [some (.int c), some (.ref a), some (.ref o), some (.int l), y4, y5, y6, y7] ∧
        Same H H3 ∧ H3 o = some (.lst (ds.map V.int)) ∧ ds.length = i ∧ ds ++ draws l i (zs.drop i) = draws c 0 zs)
      ⟨c, none, none, none, none, [], rfl, s1, upd_same, rfl, by simp⟩ ?_ ?_ |> (fun h => by rw [List.length_map]; exact h)
    · rintro i σ H3 hi ⟨l, y4, y5, y6, y7, ds, rfl, sm, eo, el, ed⟩
      have hA : SqL K H3 a (zs.map V.int) := sm.seq hS
      have hz1 := hz zs[i] (List.getElem_mem hi)
      have gz : zs[i]? = some zs[i] := List.getElem?_eq_getElem hi
      have g : atI (zs.map V.int) (i : Int) = some (.int zs[i]) := atI_nat (by rw [List.getElem?_map, gz]; rfl)
      have hd : zs.drop i = zs[i] :: zs.drop (i + 1) := List.drop_eq_getElem_cons hi
      rw [hd] at ed
      have ed' : (ds ++ [dval l i zs[i]]) ++ draws (dleft l zs[i]) (i + 1) (zs.drop (i + 1)) = draws c 0 zs := by
        rw [List.append_assoc]
        exact ed
      have small : (ds.map V.int).length < sizeLine := by
        rw [List.length_map]
        exact small1000 (by omega)
      rw [Int.zero_add]
      refine ⟨.int l, rfl, 10, 18, rfl, rfl, ⟨by decide, by decide, by decide⟩, l, 10 ^ 18, rfl, rfl, _, rfl, ite2 (fun e => ?_) (fun e => ?_)⟩
      · have e : (1000000000000000000 : Int) ≤ l := of_decide_eq_true e
        refine ⟨.ref o, rfl, .inl ⟨rfl, _, SqL.of eo⟩, .int l, rfl, .ref a, rfl, .int (i : Int), rfl, a, _, _, _, rfl, rfl, hA, g, l, zs[i], rfl, rfl, hz1.1, o, _, _, rfl, rfl, eo, small, ?_⟩
        have e1 : dval l i zs[i] = l % zs[i] := by
          unfold dval
          rw [if_pos e]
        have e2 : dleft l zs[i] = l / zs[i] := by
          unfold dleft
          rw [if_pos e]
        have sm2 : Same H (upd H3 o (.lst (ds.map V.int ++ [.int (l % zs[i])]))) := same_new no sm
        refine ⟨.int l, rfl, .ref a, rfl, .int (i : Int), rfl, a, _, _, _, rfl, rfl, sm2.seq hS, g, l, zs[i], rfl, rfl, wide_div hz1.1 (b := 64) (by have := hz1.2; have := hz1.1; omega) (by decide) (by decide), ?_⟩
        refine ⟨_, _, _, _, _, ds ++ [dval l i zs[i]], rfl, sm2, ?_, ?_, ?_⟩
        · rw [upd_same, e1, List.map_append]
          rfl
        · rw [List.length_append, el]
          rfl
        · rw [← e2]
          exact ed'
      · have e : ¬ (1000000000000000000 : Int) ≤ l := fun z => e (decide_eq_true z)
        have e2 : dleft l zs[i] = l := by
          unfold dleft
          rw [if_neg e]
        have hi1000 : (i : Int) < 1000 := by omega
        have s0 : 0 ≤ l % 1000000000000000000 := Int.emod_nonneg _ (by decide)
        have s9 : l % 1000000000000000000 < 1000000000000000000 := Int.emod_lt_of_pos _ (by decide)
        refine ⟨.int l, rfl, 10, 18, rfl, rfl, ⟨by decide, by decide, by decide⟩, l, 10 ^ 18, rfl, rfl, (show (0 : Int) < 10 ^ 18 by decide), ?_⟩
        refine ⟨_, rfl, .int (i : Int), rfl, 7, i, rfl, rfl, .inl ⟨by decide, by decide⟩, _, _, rfl, rfl, _, _, rfl, rfl, .int (i : Int), rfl, 2, i, rfl, rfl, .inl ⟨by decide, by decide⟩, .int (i : Int), rfl, _, _, rfl, rfl, .inl ⟨by omega, by omega⟩, _, _, rfl, rfl, _, _, rfl, rfl,
          .inl ⟨by show -(2 ^ 64) < l % 1000000000000000000 + 7 * (i : Int) + 1; omega, by show l % 1000000000000000000 + 7 * (i : Int) + 1 < 2 ^ 64; omega⟩, _, _, rfl, rfl, (show (0 : Int) < 2147483647 by decide), ?_⟩
        refine ⟨_, rfl, _, _, rfl, rfl, ⟨by decide, by decide⟩, .int (i : Int), rfl, 11, i, rfl, rfl, .inl ⟨by decide, by decide⟩, _, _, rfl, rfl, _, _, rfl, rfl, .int (i : Int), rfl, 6, i, rfl, rfl, .inl ⟨by decide, by decide⟩, _, _, rfl, rfl, _, _, rfl, rfl,
          .inl ⟨by show -(2 ^ 64) < l % 1000000000000000000 / 3 + 11 * (i : Int) + 5; omega, by show l % 1000000000000000000 / 3 + 11 * (i : Int) + 5 < 2 ^ 64; omega⟩, _, _, rfl, rfl, (show (0 : Int) < 2147483629 by decide), ?_⟩
        have o0 := Int.emod_nonneg ((l % 1000000000000000000 + 7 * (i : Int) + 1) * (48271 + 2 * (i : Int) * (i : Int))) (show (2147483647 : Int) ≠ 0 by decide)
        have o9 := Int.emod_lt_of_pos ((l % 1000000000000000000 + 7 * (i : Int) + 1) * (48271 + 2 * (i : Int) * (i : Int))) (show (0 : Int) < 2147483647 by decide)
        refine ⟨.ref o, rfl, .inl ⟨rfl, _, SqL.of eo⟩, _, rfl, _, rfl, _, _, rfl, rfl, .inl ⟨Int.lt_of_lt_of_le (by decide) o0, Int.lt_trans o9 (by decide)⟩, _, rfl, _, _, rfl, rfl, ⟨by decide, by decide⟩, _, _, rfl, rfl, .ref a, rfl, .int (i : Int), rfl, a, _, _, _, rfl, rfl, hA, g, _, zs[i], rfl, rfl, hz1.1, o, _, _, rfl, rfl, eo, small, ?_⟩
        have e1 : dval l i zs[i] = ((l % 1000000000000000000 + 7 * (i : Int) + 1) * (48271 + 2 * (i : Int) * (i : Int)) % 2147483647 * ((l % 1000000000000000000 / 3 + 11 * (i : Int) + 5) * (39373 + 6 * (i : Int)) % 2147483629) + (l % 1000000000000000000 + 7 * (i : Int) + 1) * (48271 + 2 * (i : Int) * (i : Int)) % 2147483647 / 64) % zs[i] := by
          unfold dval
          rw [if_neg e]
        refine ⟨_, _, _, _, _, ds ++ [dval l i zs[i]], rfl, same_new no sm, ?_, ?_, ?_⟩
        · rw [upd_same, e1, List.map_append]
          rfl
        · rw [List.length_append, el]
          rfl
        · rw [e2] at ed'
          exact ed'
    · rintro σ H3 ⟨l, y4, y5, y6, y7, ds, rfl, sm, eo, el, ed⟩
      rw [List.drop_length] at ed
      have ed : ds = draws c 0 zs := by
        rw [← ed]
        show ds = ds ++ []
        rw [List.append_nil]
      subst ed
      exact ⟨.ref o, rfl, q H3 o sm no eo⟩
theorem scFraction : FnScope ["_law_draws", "_law_top"] ["_law_draws"] (defScope sFraction) := ⟨rfl, rfl, rfl, by decide +kernel, rfl, by decide +kernel, by decide +kernel⟩
def spFraction (K : PySem.W.Frag) : Sp := fun vs H Q _ => ∃ (a : Addr) (d0 d1 d2 d3 d4 d5 : Int), vs = [.ref a] ∧ SqL K H a [.int d0, .int d1, .int d2, .int d3, .int d4, .int d5] ∧ (0 ≤ d0 ∧ d0 < 3) ∧ (0 ≤ d1 ∧ d1 < 1000000000000) ∧ (0 ≤ d2 ∧ d2 < 1000000000000000000) ∧ (0 ≤ d3 ∧ d3 < 2) ∧ (0 ≤ d4 ∧ d4 < 1000000000000) ∧ (0 ≤ d5 ∧ d5 < 2) ∧
  ∀ H' p q, Same H H' → H p = none → H' p = some (.tup (tq q)) → Sz 100 q → q.den ≤ 1000000000000 → Q (.ref p) H'
theorem ok_fraction {f fl : Addr} {fd gl : FuncData} {k : Nat} (F : Fun K "_law_fraction" "_law_fraction" sFraction f fd) (Nl : Fn K mg "_law_low" sLow ["_law_top", "_law_bottom"] fl gl) (T : TxtP K mg C) : FnOk P w K mg base CX0 (k + 2) f fd ["_law_draws"] (spFraction K) := by
  have Gl : FnOk P w K mg base CX0 (k + 1) fl gl ["_law_top", "_law_bottom"] spLow := ok_low Nl.F T
  refine F.ok scFraction (fun vs H Q E h => ?_) (fun cdv A outer s H vs Q E hr h => ?_)
  · obtain ⟨a, d0, d1, d2, d3, d4, d5, rfl, _⟩ := h
    rfl
  · obtain ⟨a, d0, d1, d2, d3, d4, d5, rfl, hS, h0, h1, h2, h3, h4, h5, q⟩ := h
    have nd := scFraction.nd
    refine ⟨_, pss_cons (ps_set (i := 1) nd rfl (.inl rfl) (pe_op op_mulW (pe_ix ix_list (pe_lst (pa_cons (pe_op op_mod (pe_ix ix_list (pv 0) pe_int (fun _ _ => rfl)) pe_int) (pa_cons (pe_ix ix_list (pv 0) pe_int (fun _ _ => rfl)) (pa_cons (pe_op op_add (pe_op op_mul (pe_ix ix_list (pv 0) pe_int (fun _ _ => rfl)) (pe_op op_pow pe_int pe_int)) (pe_ix ix_list (pv 0) pe_int (fun _ _ => rfl))) pa_nil)))) (pe_ix ix_list (pv 0) pe_int (fun _ _ => rfl)) (fun _ _ => rfl))
      (pe_ix ix_list (pe_lst (pa_cons pe_int (pa_cons (pe_un un_neg pe_int) pa_nil))) (pe_ix ix_list (pv 0) pe_int (fun _ _ => rfl)) (fun _ _ => rfl))))
      (pss_one (ps_ret (pe_call Gl hr (by rfl) Nl.g Nl.F.kp Nl.b .nil pass0 (pa_cons (pv 1) (pa_cons (pe_ix ix_list (pe_lst (pa_cons (pe_op op_add pe_int (pe_op op_mod (pe_ix ix_list (pv 0) pe_int (fun _ _ => rfl)) pe_int)) (pa_cons (pe_op op_add pe_int (pe_ix ix_list (pv 0) pe_int (fun _ _ => rfl))) pa_nil))) (pe_ix ix_list (pv 0) pe_int (fun _ _ => rfl)) (fun _ _ => rfl)) pa_nil))))), ?_⟩
    refine ⟨.ref a, rfl, a, _, 1, .int d1, rfl, rfl, hS, rfl, d1, 13, rfl, rfl, (show (0 : Int) < 13 by decide), .ref a, rfl, a, _, 1, .int d1, rfl, rfl, hS, rfl, ?_⟩
    refine ⟨.ref a, rfl, a, _, 1, .int d1, rfl, rfl, hS, rfl, 10, 18, rfl, rfl, ⟨by decide, by decide, by decide⟩, d1, _, rfl, rfl, .inl ⟨by omega, by omega⟩, .ref a, rfl, a, _, 2, .int d2, rfl, rfl, hS, rfl, _, _, rfl, rfl, (by show 3 ≤ sizeLine; decide), fun p hp => ?_⟩
    have s1 : Same H (upd H p (.lst [.int (d1 % 13), .int d1, .int (d1 * 10 ^ 18 + d2)])) := same_upd hp
    obtain ⟨n, hn, hnz⟩ : ∃ n : Int, atI [V.int (d1 % 13), .int d1, .int (d1 * 10 ^ 18 + d2)] d0 = some (.int n) ∧ 0 ≤ n ∧ n < 1000000000000000000000000000000 := by
      rcases (show d0 = 0 ∨ d0 = 1 ∨ d0 = 2 by omega) with rfl | rfl | rfl
      · exact ⟨_, rfl, by omega, by omega⟩
      · exact ⟨_, rfl, by omega, by omega⟩
      · exact ⟨_, rfl, by omega, by omega⟩
    refine ⟨.ref a, rfl, a, _, 0, .int d0, rfl, rfl, s1.seq hS, rfl, p, _, d0, .int n, rfl, rfl, SqL.of upd_same, hn, 1, rfl, (by show 2 ≤ sizeLine; decide), fun p2 hp2 => ?_⟩
    have s2 := same_new (o := .lst [.int 1, .int (-1)]) (s1.free hp2) s1
    obtain ⟨m, hm, hmz⟩ : ∃ m : Int, atI [V.int 1, .int (-1)] d3 = some (.int m) ∧ (m = 1 ∨ m = -1) := by
      rcases (show d3 = 0 ∨ d3 = 1 by omega) with rfl | rfl
      · exact ⟨_, rfl, .inl rfl⟩
      · exact ⟨_, rfl, .inr rfl⟩
    have zt : (n * m).natAbs < 2 ^ 100 := by
      rcases hmz with rfl | rfl <;> omega
    have zn : n.natAbs < 2 ^ 100 := by omega
    have zm : m.natAbs < 2 ^ 100 := by
      rcases hmz with rfl | rfl <;> decide
    refine ⟨.ref a, rfl, a, _, 3, .int d3, rfl, rfl, s2.seq hS, rfl, p2, _, d3, .int m, rfl, rfl, SqL.of upd_same, hm, n, m, rfl, rfl, wide_mul zn zm (by decide) (by decide) (by decide), ?_⟩
    refine ⟨.int (n * m), rfl, .ref a, rfl, a, _, 4, .int d4, rfl, rfl, s2.seq hS, rfl, d4, 12, rfl, rfl, (show (0 : Int) < 12 by decide), _, _, rfl, rfl, .ref a, rfl, a, _, 4, .int d4, rfl, rfl, s2.seq hS, rfl, _, _, rfl, rfl, (by show 2 ≤ sizeLine; decide), fun p3 hp3 => ?_⟩
    have s3 := same_new (o := .lst [.int (1 + d4 % 12), .int (1 + d4)]) (s2.free hp3) s2
    obtain ⟨b, hb, hb0⟩ : ∃ b : Int, atI [V.int (1 + d4 % 12), .int (1 + d4)] d5 = some (.int b) ∧ 0 < b ∧ b ≤ 1000000000000 := by
      rcases (show d5 = 0 ∨ d5 = 1 by omega) with rfl | rfl
      · exact ⟨_, rfl, by omega, by omega⟩
      · exact ⟨_, rfl, by omega, by omega⟩
    have zb : b.natAbs < 2 ^ 100 := by omega
    refine ⟨.ref a, rfl, a, _, 5, .int d5, rfl, rfl, s3.seq hS, rfl, p3, _, d5, .int b, rfl, rfl, SqL.of upd_same, hb, n * m, b, rfl, by omega, Nat.lt_of_lt_of_le zb (Nat.pow_le_pow_right (by decide) (by decide)), fun H4 p4 s4 n4 e4 => ?_⟩
    exact q H4 p4 _ (s3.trans s4) (s3.free n4) e4 (sz_divInt (by omega) zt zb) (by rw [Rat.den_divInt, if_neg (by omega)]; exact Nat.le_trans (Nat.div_le_self _ _) (by omega))
end
end Hop
namespace Hop
section
open PySem L2 HopR
open C8 (InsC call_isC)
def tI (i : Int) : Str := Str.ofString (toString i)
theorem minus_text (s : String) : (Str.ofString ("-" ++ s)).cps.toList = 45 :: (Str.ofString s).cps.toList := by
  unfold Str.ofString
  rw [String.toByteArray_append]
  have e : ("-" : String).toByteArray.data.toList = [45] := by decide +kernel
  rw [ByteArray.data_append, Array.toList_append, e]
  rfl
theorem neg_text {i : Int} (h : i < 0) : Txt.join "" ["-", tI ((i.natAbs : Nat) : Int)] = tI i := by
  obtain ⟨n, rfl⟩ : ∃ n : Nat, i = Int.negSucc n := by
    cases i with
    | ofNat m => exact absurd h (by simp)
    | negSucc n => exact ⟨n, rfl⟩
  have e1 : (Int.negSucc n).natAbs = n + 1 := rfl
  rw [e1]
  apply HopT.str_ext
  rw [join0_list]
  have e2 : toString (Int.negSucc n) = "-" ++ toString (n + 1) := rfl
  have e3 : toString (((n + 1 : Nat)) : Int) = toString (n + 1) := rfl
  unfold tI
  rw [e2, e3, minus_text]
  show _ ++ (_ ++ []) = _
  rw [List.append_nil]
  have e4 : ("-" : Str).cps.toList = [45] := by decide +kernel
  show ("-" : Str).cps.toList ++ _ = _
  rw [e4]
  rfl
theorem pos_text {i : Int} (h : ¬ i < 0) : Txt.join "" [tI ((i.natAbs : Nat) : Int)] = tI i := by
  have e : ((i.natAbs : Nat) : Int) = i := by omega
  rw [e]
  apply HopT.str_ext
  rw [join0_list]
  simp
theorem tI_len {i : Int} (h : i.natAbs < 10 ^ 64) : (tI i).length ≤ 65 := by
  by_cases z : i < 0
  · have e := neg_text z
    have l1 : (tI ((i.natAbs : Nat) : Int)).length ≤ 64 := PyProof.Rows.toString_length_le (Int.natCast_nonneg _) (by decide) (by exact_mod_cast h)
    have : (tI i).length = 1 + (tI ((i.natAbs : Nat) : Int)).length := by
      rw [← e]
      show (Txt.join "" ["-", tI ((i.natAbs : Nat) : Int)]).cps.size = _
      rw [← Array.length_toList, join0_list]
      simp only [List.map_cons, List.map_nil, List.flatten_cons, List.flatten_nil, List.append_nil, List.length_append]
      rfl
    omega
  · have e : ((i.natAbs : Nat) : Int) = i := by omega
    rw [← e]
    exact Nat.le_trans (PyProof.Rows.toString_length_le (k := 64) (Int.natCast_nonneg _) (by decide) (by exact_mod_cast h)) (by decide)
structure TxtF (mg : Str → Option Value) : Prop where
  piece : ∃ t, mg "PIECE" = some (.int 10000000000000000000000000000000000000000000000000000000000000000 t)
  many : ∃ t, mg "PIECE_FIGURES" = some (.int 64 t)
  divmod : mg "divmod" = none
  str : mg "str" = none
  reversed : mg "reversed" = none
  repr : mg "repr" = none
end
end Hop
namespace Hop
section
open PySem L2 HopR
open C8 (InsC call_isC)
variable {P : Program} {w : World} {K : PySem.W.Frag} {mg : Str → Option Value} {base : Heap} {C : Addr}
def spFig : Sp := fun vs H Q _ => ∃ i : Int, vs = [.int i] ∧ i.natAbs < 10 ^ 64 ∧ ∀ H', Same H H' → Q (.str (tI i)) H'
theorem scFig : FnScope ["number", "rest", "pieces", "piece"] ["number"] (defScope sFigures) := ⟨rfl, rfl, rfl, by decide +kernel, rfl, by decide +kernel, by decide +kernel⟩
theorem ok_figures {f : Addr} {fd : FuncData} {k : Nat} (F : Fun K "figures_of" "figures_of" sFigures f fd) (T : TxtP K mg C) (TF : TxtF mg) : FnOk P w K mg base CX0 (k + 1) f fd ["number"] spFig := by
  refine F.ok scFig (fun vs H Q E h => ?_) (fun cdv A outer s H vs Q E hr h => ?_)
  · obtain ⟨m, rfl, _⟩ := h
    rfl
  · obtain ⟨m, rfl, hm, h⟩ := h
    have nd := scFig.nd
    obtain ⟨tp, gp⟩ := TF.piece
    obtain ⟨tm, gm⟩ := TF.many
    refine ⟨_, pss_cons (ps_set (i := 1) nd rfl (.inl rfl) (pe_callB call_abs (by rfl) T.abs (by decide +kernel) (pa_cons (pv 0) pa_nil)))
      (pss_cons (ps_set (i := 2) nd rfl (.inl rfl) (pe_lst pa_nil))
      (pss_cons (ps_while PassesOwn.never (pt_cmpR op_ge (pv 1) (pe_glob (v := .int 10000000000000000000000000000000000000000000000000000000000000000) (by rfl) gp ⟨_, rfl⟩) (nomark _))
        (pss_cons (ps_asg (pe_callB call_divmodW (by rfl) TF.divmod (by decide +kernel) (pa_cons (pv 1) (pa_cons (pe_glob (v := .int 10000000000000000000000000000000000000000000000000000000000000000) (by rfl) gp ⟨_, rfl⟩) pa_nil))) (pg_tup (by rfl) (pgs_cons (pg_name (i := 1) nd rfl (.inl rfl)) (pgs_cons (pg_name (i := 3) nd rfl (.inl rfl)) pgs_nil))))
        (pss_one (ps_expr (pe_bm PySem.F.plainAttrs_list PySem.F.slot_list_append PySem.F.type_list_append mt_append (pv 2) (pa_cons (pe_bm PySem.F.plainAttrs_str PySem.F.slot_str_zfill PySem.F.type_str_zfill mt_zfill (pe_callTy call_str_int (by rfl) TF.str (by decide +kernel) (pa_cons (pv 3) pa_nil)) (pa_cons (pe_glob (v := .int 64) (by rfl) gm ⟨_, rfl⟩) pa_nil)) pa_nil))))))
      (pss_cons (ps_expr (pe_bm PySem.F.plainAttrs_list PySem.F.slot_list_append PySem.F.type_list_append mt_append (pv 2) (pa_cons (pe_callTy call_str_int (by rfl) TF.str (by decide +kernel) (pa_cons (pv 1) pa_nil)) pa_nil)))
      (pss_cons (ps_if (pt_cmpR op_lt (pv 0) pe_int (nomark _)) (pss_one (ps_expr (pe_bm PySem.F.plainAttrs_list PySem.F.slot_list_append PySem.F.type_list_append mt_append (pv 2) (pa_cons pe_str pa_nil)))) pss_nil)
      (pss_one (ps_ret (pe_joinRev rfl pe_str (by rfl) TF.reversed (pv 2)))))))), ?_⟩
    refine ⟨.int m, rfl, m, rfl, Nat.zero_le _, fun D nD => ?_⟩
    rw [abs_nat]
    have hl := tI_len hm
    have small : ((m.natAbs : Nat) : Int).natAbs.log2 < 1920 := by
      rw [Int.natAbs_natCast]
      have : m.natAbs < 2 ^ 1000 := Nat.lt_of_lt_of_le hm (by decide)
      exact PySem.Flt.log2_lt_of (by decide) (Nat.lt_of_lt_of_le this (Nat.pow_le_pow_right (by decide) (by decide)))
    have hl2 : (tI ((m.natAbs : Nat) : Int)).length ≤ 65 := tI_len (by rw [Int.natAbs_natCast]; exact hm)
    have hp : (10 : Nat) ^ 64 = 10000000000000000000000000000000000000000000000000000000000000000 := by decide
    refine while_by (fun σ H1 => σ = [some (.int m), some (.int ((m.natAbs : Nat) : Int)), some (.ref D), none] ∧ H1 = upd H D (.lst [])) (fun _ _ => 0) ⟨rfl, rfl⟩ ?_ ?_
    · rintro σ H1 ⟨rfl, rfl⟩
      refine ⟨.int ((m.natAbs : Nat) : Int), rfl, _, _, rfl, rfl, _, rfl, ?_⟩
      rw [decide_eq_false (show ¬ (10000000000000000000000000000000000000000000000000000000000000000 : Int) ≤ ((m.natAbs : Nat) : Int) by omega)]
      have s1 := same_upd (o := .lst []) nD
      have e1 : upd H D (.lst []) D = some (.lst []) := upd_same
      generalize upd H D (.lst []) = H2 at s1 e1
      refine iteF ⟨.ref D, rfl, .inl ⟨rfl, _, SqL.of e1⟩, .int ((m.natAbs : Nat) : Int), rfl, ((m.natAbs : Nat) : Int), rfl, small, D, _, _, rfl, rfl, e1, (by show 0 < sizeLine; decide), ?_⟩
      have s2 := same_new (o := .lst ([] ++ [V.str (Str.ofString (toString ((m.natAbs : Nat) : Int)))])) nD s1
      have e2 : upd H2 D (.lst ([] ++ [V.str (Str.ofString (toString ((m.natAbs : Nat) : Int)))])) D = some (.lst [.str (tI ((m.natAbs : Nat) : Int))]) := upd_same
      generalize upd H2 D (.lst ([] ++ [V.str (Str.ofString (toString ((m.natAbs : Nat) : Int)))])) = H3 at s2 e2
      refine ⟨.int m, rfl, m, 0, rfl, rfl, _, rfl, ite2 (fun z => ?_) (fun z => ?_)⟩
      · have z : m < 0 := of_decide_eq_true z
        refine ⟨.ref D, rfl, .inl ⟨rfl, _, SqL.of e2⟩, D, _, _, rfl, rfl, e2, (by show 1 < sizeLine; decide), ?_⟩
        have s3 := same_new (o := .lst ([.str (tI ((m.natAbs : Nat) : Int))] ++ [.str "-"])) nD s2
        have e3 : upd H3 D (.lst ([.str (tI ((m.natAbs : Nat) : Int))] ++ [.str "-"])) D = some (.lst (([tI ((m.natAbs : Nat) : Int), "-"] : List Str).map V.str)) := upd_same
        refine ⟨⟨_, rfl⟩, .ref D, rfl, "", D, [tI ((m.natAbs : Nat) : Int), "-"], rfl, rfl, SqL.of e3, ?_, ?_⟩
        · have l0 : ("" : Str).length = 0 := by decide
          have l1 : ("-" : Str).length = 1 := by decide
          simp only [List.map_cons, List.map_nil, List.sum_cons, List.sum_nil, l0, l1]
          omega
        · have := h _ s3
          rw [← neg_text z] at this
          exact this
      · have z : ¬ m < 0 := of_decide_eq_false (Bool.eq_false_iff.mpr z)
        refine ⟨⟨_, rfl⟩, .ref D, rfl, "", D, [tI ((m.natAbs : Nat) : Int)], rfl, rfl, SqL.of e2, ?_, ?_⟩
        · have l0 : ("" : Str).length = 0 := by decide
          simp only [List.map_cons, List.map_nil, List.sum_cons, List.sum_nil, l0]
          omega
        · have := h _ s2
          rw [← pos_text z] at this
          exact this
    · rintro σ H1 Q1 Q2 hm h
      obtain ⟨v, e1, i, j, e2, e3, k2, e4, h⟩ := h
      exact ⟨v, e1, i, j, e2, e3, k2, e4, hm _ _ h⟩
end
end Hop
namespace Hop
section
open PySem L2 HopR
open C8 (InsC call_isC)
theorem empty_app (x : Str) : Str.empty ++ x = x := by
  apply HopT.str_ext
  show (Str.empty ++ x).cps.toList = _
  have : (Str.empty ++ x).cps = Str.empty.cps ++ x.cps := rfl
  rw [this, Array.toList_append]
  rfl
def stx (q : Rat) : Str := if q.den = 1 then tI q.num else tI q.num ++ "/" ++ tI q.den
theorem sz_num {q : Rat} (h : Sz 100 q) : q.num.natAbs < 10 ^ 64 := Nat.lt_of_lt_of_le h.1 (by decide)
theorem sz_den' {q : Rat} (h : Sz 100 q) : ((q.den : Nat) : Int).natAbs < 10 ^ 64 := by
  rw [Int.natAbs_natCast]
  exact Nat.lt_of_lt_of_le h.2 (by decide)
end
end Hop
namespace Hop
section
open PySem L2 HopR
open C8 (InsC call_isC)
variable {P : Program} {w : World} {K : PySem.W.Frag} {mg : Str → Option Value} {base : Heap} {C fg : Addr} {gg : FuncData}
def spPStr (C : Addr) : Sp := fun vs H Q _ => ∃ a q, vs = [.ref a] ∧ PA C H a q ∧ Sz 100 q ∧ ∀ H', Same H H' → Q (.str (stx q)) H'
theorem scPStr : FnScope ["self"] ["self"] (defScope sPStr) := ⟨rfl, rfl, rfl, by decide +kernel, rfl, by decide +kernel, by decide +kernel⟩
theorem ok_pstr {f : Addr} {fd : FuncData} {k : Nat} (F : Fun K "__str__" "Part.__str__" sPStr f fd) (Nf : Fn K mg "figures_of" sFigures ["number"] fg gg) (T : TxtP K mg C) (TF : TxtF mg) : FnOk P w K mg base CX0 (k + 2) f fd ["self"] (spPStr C) := by
  have Gf : FnOk P w K mg base CX0 (k + 1) fg gg ["number"] spFig := ok_figures Nf.F T TF
  refine F.ok scPStr (fun vs H Q E h => ?_) (fun cdv A outer s H vs Q E hr h => ?_)
  · obtain ⟨a, q, rfl, _⟩ := h
    rfl
  · obtain ⟨a, q, rfl, ⟨dx, ha⟩, hz, h⟩ := h
    refine ⟨_, pss_cons (ps_if (pt_cmpR op_eq (pe_fld (pv 0) rfl) pe_int (nomark _)) (pss_one (ps_ret (pe_joined1 (pe_fmt (pe_call Gf hr (by rfl) Nf.g Nf.F.kp Nf.b .nil pass0 (pa_cons (pe_fld (pv 0) rfl) pa_nil)))))) pss_nil)
      (pss_one (ps_ret (pe_joined (.cons (pe_fmt (pe_call Gf hr (by rfl) Nf.g Nf.F.kp Nf.b .nil pass0 (pa_cons (pe_fld (pv 0) rfl) pa_nil))) (.cons pe_str (.cons (pe_fmt (pe_call Gf hr (by rfl) Nf.g Nf.F.kp Nf.b .nil pass0 (pa_cons (pe_fld (pv 0) rfl) pa_nil))) .nil)))))), ?_⟩
    have b1 := tI_len (sz_num hz)
    have b2 := tI_len (sz_den' hz)
    have sl : sizeLine = 16777216 := by decide
    have e0 : (Str.empty : Str).length = 0 := by decide
    have e1 : ("/" : Str).length = 1 := by decide
    refine ⟨.ref a, rfl, a, C, dx, _, _, rfl, ha, T.ins.cl, T.nB, pf_bottom q, rfl, _, rfl, ite2 (fun z => ?_) (fun z => ?_)⟩
    · have z : (V.int (q.den : Int)) = .int 1 := of_decide_eq_true z
      have z1 : q.den = 1 := by injection z with z; omega
      refine ⟨.ref a, rfl, a, C, dx, _, _, rfl, ha, T.ins.cl, T.nT, pf_top q, q.num, rfl, sz_num hz, fun H1 s1 => .inl ⟨_, rfl, by rw [sl]; omega, ?_⟩⟩
      have y := h H1 s1
      unfold stx at y
      rw [if_pos z1] at y
      exact y
    · have z1 : ¬ q.den = 1 := fun e => z (decide_eq_true (by rw [e]; rfl))
      refine ⟨.ref a, rfl, a, C, dx, _, _, rfl, ha, T.ins.cl, T.nT, pf_top q, q.num, rfl, sz_num hz, fun H1 s1 => .inl ⟨_, rfl, by rw [sl]; omega, _, rfl, by simp only [strLen_append, e0, sl]; omega, ?_⟩⟩
      refine ⟨"/", rfl, by simp only [strLen_append, e0, e1, sl]; omega, ?_⟩
      refine ⟨.ref a, rfl, a, C, dx, _, _, rfl, s1 _ _ ha, T.ins.cl, T.nB, pf_bottom q, (q.den : Int), rfl, sz_den' hz, fun H2 s2 => .inl ⟨_, rfl, by rw [sl]; omega, _, rfl, by simp only [strLen_append, e0, e1, sl]; omega, ?_⟩⟩
      have y := h H2 (s1.trans s2)
      unfold stx at y
      rw [if_neg z1, ← empty_app (tI q.num)] at y
      exact y
end
end Hop
namespace Hop
section
open PySem L2 HopR
open C8 (InsC call_isC)
variable {P : Program} {w : World} {K : PySem.W.Frag} {mg : Str → Option Value} {base : Heap} {C fe fr fs fg : Addr} {ge gr gs gg : FuncData}
def spLText : Sp := fun vs H Q _ => ∃ o q, vs = [.ref o] ∧ H o = some (.tup (tq q)) ∧ Sz 100 q ∧ Q (.str (stx q)) H
theorem scLText : FnScope ["_law_one"] ["_law_one"] (defScope sLText) := ⟨rfl, rfl, rfl, by decide +kernel, rfl, by decide +kernel, by decide +kernel⟩
theorem small_log {i : Int} (h : i.natAbs < 2 ^ 100) : i.natAbs.log2 < 1920 := PySem.Flt.log2_lt_of (by decide) (Nat.lt_of_lt_of_le h (Nat.pow_le_pow_right (by decide) (by decide)))
theorem ok_ltext {f : Addr} {fd : FuncData} {k : Nat} (F : Fun K "_law_text" "_law_text" sLText f fd) (T : TxtP K mg C) (TF : TxtF mg) : FnOk P w K mg base CX0 (k + 1) f fd ["_law_one"] spLText := by
  refine F.ok scLText (fun vs H Q E h => ?_) (fun cdv A outer s H vs Q E hr h => ?_)
  · obtain ⟨o, q, rfl, _⟩ := h
    rfl
  · obtain ⟨o, q, rfl, ho, hz, h⟩ := h
    have nd := scLText.nd
    refine ⟨_, pss_one (ps_ret (pe_op op_add_str (pe_callTy call_str_int (by rfl) TF.str (by decide +kernel) (pa_cons (pe_ix ix_tup (pv 0) pe_int (fun _ _ => rfl)) pa_nil))
      (pe_op op_repS (pe_op op_add_str pe_str (pe_callTy call_str_int (by rfl) TF.str (by decide +kernel) (pa_cons (pe_ix ix_tup (pv 0) pe_int (fun _ _ => rfl)) pa_nil))) (pe_callTy call_int1 (by rfl) T.int (by decide +kernel) (pa_cons (pe_cmpR op_ne (pe_ix ix_tup (pv 0) pe_int (fun _ _ => rfl)) pe_int (nomark _)) pa_nil))))), ?_⟩
    have b1 := tI_len (sz_num hz)
    have b2 := tI_len (sz_den' hz)
    have e1 : ("/" : Str).length = 1 := by decide
    have sl : sizeLine = 16777216 := by decide
    have dl : ((q.den : Nat) : Int).natAbs < 2 ^ 100 := by rw [Int.natAbs_natCast]; exact hz.2
    refine ⟨.ref o, rfl, o, _, 0, .int q.num, rfl, rfl, SqT.of ho, rfl, q.num, rfl, small_log hz.1, ?_⟩
    refine ⟨.ref o, rfl, o, _, 1, .int (q.den : Int), rfl, rfl, SqT.of ho, rfl, (q.den : Int), rfl, small_log dl, "/", tI (q.den : Int), rfl, rfl, by rw [e1, sl]; omega, ?_⟩
    refine ⟨.ref o, rfl, o, _, 1, .int (q.den : Int), rfl, rfl, SqT.of ho, rfl, rfl, .inr ⟨!decide (V.int (q.den : Int) = .int 1), rfl, ?_⟩⟩
    have hl : ("/" ++ tI (q.den : Int)).length ≤ 100 := by rw [strLen_append, e1]; omega
    unfold stx at h
    by_cases z : q.den = 1
    · rw [if_pos z] at h
      rw [decide_eq_true (show V.int (q.den : Int) = .int 1 by rw [z]; rfl)]
      refine ⟨"/" ++ tI (q.den : Int), 0, rfl, rfl, by omega, by decide, ?_⟩
      have r0 : repS ("/" ++ tI (q.den : Int)) 0 = "" := by apply HopT.str_ext; unfold repS; rfl
      rw [r0]
      refine ⟨tI q.num, "", rfl, rfl, by have : ("" : Str).length = 0 := by decide
                                         rw [this, sl]; omega, ?_⟩
      have ee : tI q.num ++ "" = tI q.num := by
        apply HopT.str_ext
        show (tI q.num ++ ("" : Str)).cps.toList = _
        have : (tI q.num ++ ("" : Str)).cps = (tI q.num).cps ++ ("" : Str).cps := rfl
        rw [this, Array.toList_append]
        exact List.append_nil _
      rw [ee]
      exact h
    · rw [if_neg z] at h
      rw [decide_eq_false (show ¬ V.int (q.den : Int) = .int 1 from fun e => z (by injection e with e; omega))]
      refine ⟨"/" ++ tI (q.den : Int), 1, rfl, rfl, by omega, by decide, ?_⟩
      have r1 : repS ("/" ++ tI (q.den : Int)) 1 = "/" ++ tI (q.den : Int) := by
        apply HopT.str_ext
        unfold repS
        simp
      rw [r1]
      refine ⟨tI q.num, "/" ++ tI (q.den : Int), rfl, rfl, by rw [sl]; omega, ?_⟩
      have ea : tI q.num ++ ("/" ++ tI (q.den : Int)) = tI q.num ++ "/" ++ tI (q.den : Int) := by
        apply HopT.str_ext
        show ((tI q.num).cps ++ (("/" : Str).cps ++ (tI (q.den : Int)).cps)).toList = ((tI q.num).cps ++ ("/" : Str).cps ++ (tI (q.den : Int)).cps).toList
        simp only [Array.toList_append, List.append_assoc]
      rw [ea]
      exact h
end
end Hop
namespace Hop
section
open PySem L2 HopR
open C8 (InsC call_isC)
abbrev sPower : Stmt := top 12
end
end Hop
namespace Hop
section
open PySem L2 HopR
open C8 (InsC call_isC)
variable {P : Program} {w : World} {K : PySem.W.Frag} {mg : Str → Option Value} {base : Heap} {C : Addr}
theorem scPower : FnScope ["number", "many", "result", "bit"] ["number", "many"] (defScope sPower) := ⟨rfl, rfl, rfl, by decide +kernel, rfl, by decide +kernel, by decide +kernel⟩
def spPower : Sp := fun vs H Q _ => ∃ (x : Int) (n e : Nat), vs = [.int x, .int (n : Int)] ∧ n < 101 ∧ x.natAbs < 2 ^ e ∧ e * n ≤ 3000 ∧ e ≤ 3000 ∧ Q (.int (x ^ n)) H
theorem one_49 : ("1" : Str) = ⟨#[49]⟩ := by decide +kernel
theorem ok_power {f : Addr} {fd : FuncData} {k : Nat} (F : Fun K "power" "power" sPower f fd) : FnOk P w K mg base CX0 (k + 1) f fd ["number", "many"] spPower := by
  refine F.ok scPower (fun vs H Q E h => ?_) (fun cdv A outer s H vs Q E hr h => ?_)
  · obtain ⟨x, n, e, rfl, _⟩ := h
    rfl
  · obtain ⟨x, n, e, rfl, hn, hx, he, he2, q⟩ := h
    have nd := scPower.nd
    refine ⟨_, pss_cons (ps_set (i := 2) nd rfl (.inl rfl) pe_int)
      (pss_cons (ps_for PassesOwn.never rfl (pi_str (pe_joined1 (pe_fmtB (pv 1)))) (pg_name (i := 3) nd rfl (.inl rfl))
        (pss_cons (ps_aug (i := 2) nd rfl (.inl rfl) (pv 2) ip_mulW)
        (pss_one (ps_if (pt_cmpR op_eq (pv 3) pe_str (nomark _)) (pss_one (ps_aug (i := 2) nd rfl (.inl rfl) (pv 0) ip_mulW)) pss_nil))))
      (pss_one (ps_ret (pv 2)))), ?_⟩
    refine ⟨.int (n : Int), rfl, n, rfl, hn, binText n, rfl, ?_⟩
    have up : ∀ m, m ≤ n → (x ^ m).natAbs < 2 ^ 3001 := fun m hm => Nat.lt_of_lt_of_le (pow_lt hx hm) (Nat.pow_le_pow_right (by decide) (by omega))
    refine for_it (walk_str (z := binText n)) (fun i σ H3 => ∃ y3, σ = [some (.int x), some (.int (n : Int)), some (.int (x ^ (((binText n).cps.toList.take i).foldl step2 0))), y3] ∧ H3 = H) ⟨none, by rw [List.take_zero, List.foldl_nil, Int.pow_zero]; rfl, rfl⟩ (fun _ _ _ _ _ => trivial) ?_ ?_
    · rintro i v σ H3 H4 _ ⟨y3, rfl, rfl⟩ ⟨rfl, c, hc, rfl⟩
      obtain ⟨e1, e2⟩ := bin_le hn hc
      generalize ((binText n).cps.toList.take i).foldl step2 0 = m at e1 e2 ⊢
      have e3 : 2 * m ≤ n := by
        unfold step2 at e2
        omega
      refine ⟨_, rfl, _, rfl, _, _, rfl, rfl, wide_mul (up m (by omega)) (up m (by omega)) (by decide) (by decide) (by decide), ?_⟩
      have e4 : x ^ m * x ^ m = x ^ (2 * m) := by rw [← Int.pow_add, Nat.two_mul]
      rw [e4]
      refine ⟨_, rfl, rfl, _, rfl, ?_⟩
      by_cases h49 : c = 49
      · have ec : decide (V.str ⟨#[c]⟩ = V.str "1") = true := decide_eq_true (by rw [one_49, h49])
        rw [ec]
        refine iteT ⟨_, rfl, _, rfl, _, _, rfl, rfl, wide_mul (up (2 * m) e3) (by have := up 1 (by unfold step2 at e2; rw [if_pos h49] at e2; omega); rw [Int.pow_one] at this; exact this) (by decide) (by decide) (by decide), ?_⟩
        refine ⟨some (.str ⟨#[c]⟩), ?_, rfl⟩
        rw [← e1]
        unfold step2
        rw [if_pos h49, Int.pow_succ]
        rfl
      · have ec : decide (V.str ⟨#[c]⟩ = V.str "1") = false := decide_eq_false fun z => by
          rw [one_49] at z
          have z := V.str.inj z
          injection z with z
          exact h49 (by simpa using z)
        rw [ec]
        refine iteF ⟨some (.str ⟨#[c]⟩), ?_, rfl⟩
        rw [← e1]
        unfold step2
        rw [if_neg h49]
        rfl
    · rintro σ H3 ⟨y3, rfl, rfl⟩
      refine ⟨_, rfl, ?_⟩
      have : ((binText n).cps.toList.take (binText n).cps.size).foldl step2 0 = n := by
        rw [← Array.length_toList, List.take_length, bin_fold n hn]
      rw [this]
      exact q
end
end Hop
namespace Hop
section
open PySem L2 HopR
open C8 (InsC call_isC)
abbrev sLIs : Stmt := top 22
end
end Hop
namespace Hop
section
open PySem L2 HopR
open C8 (InsC call_isC)
variable {P : Program} {w : World} {K : PySem.W.Frag} {mg : Str → Option Value} {base : Heap} {C NN BN : Addr}
def spOdd (K : PySem.W.Frag) : Sp := fun vs H Q _ => ∃ x, vs = [x] ∧ Odd K H x ∧ Q (.bl false) H
theorem ok_odd {f : Addr} {fd : FuncData} {k : Nat} (F : Fun K "is_whole" "is_whole" sIsWhole f fd) (T : TxtP K mg C) : FnOk P w K mg base CX0 (k + 1) f fd ["thing"] (spOdd K) := by
  refine F.ok scWhole (fun vs H Q E h => ?_) (fun cdv A outer s H vs Q E hr h => ?_)
  · obtain ⟨i, rfl, _⟩ := h
    rfl
  · obtain ⟨x, rfl, ⟨t, bI, ty, k1, k2⟩, q⟩ := h
    refine ⟨_, pss_one (ps_ret (pe_and (pe_callB call_isi (by rfl) T.isi (by decide +kernel) (pa_cons (pv 0) (pa_cons (pe_bltn (v := .ty "int") (by rfl) T.int (by decide +kernel) rfl) pa_nil)))
      (pe_one (pe_not (pe_callB call_isi (by rfl) T.isi (by decide +kernel) (pa_cons (pv 0) (pa_cons (pe_bltn (v := .ty "bool") (by rfl) T.bool (by decide +kernel) rfl) pa_nil))))))), ?_⟩
    refine ⟨x, rfl, x, .ty "int", t, .type "int", bI, rfl, .ty _, ty, k1, bI, rfl, ?_⟩
    cases bI with
    | false => exact q
    | true => exact ⟨x, rfl, x, .ty "bool", t, .type "bool", true, rfl, .ty _, ty, k2 rfl, true, rfl, q⟩
theorem scLIs : FnScope ["_law_found", "_law_due"] ["_law_found", "_law_due"] (defScope sLIs) := ⟨rfl, rfl, rfl, by decide +kernel, rfl, by decide +kernel, by decide +kernel⟩
def spLIs (K : PySem.W.Frag) (C : Addr) : Sp := fun vs H Q _ => ∃ (a dt : Addr) (t b : Int), vs = [.ref a, .ref dt] ∧ PA C H a (Rat.divInt t b) ∧ H dt = some (.tup [.int t, .int b]) ∧ b ≠ 0 ∧ b.natAbs < 2 ^ 8000 ∧ ∀ H', Same H H' → Q (.bl true) H'
theorem eqv_two (i j : Int) : PyData.eqv (.tuple [.int i, .int j]) (.tuple [.int i, .int j]) = true := by
  simp [PyData.eqv, PyData.eqvAll]
theorem ok_is {f fl : Addr} {fd gl : FuncData} {k : Nat} (F : Fun K "_law_is" "_law_is" sLIs f fd) (Nl : Fn K mg "_law_low" sLow ["_law_top", "_law_bottom"] fl gl) (T : TxtP K mg C) : FnOk P w K mg base CX0 (k + 2) f fd ["_law_found", "_law_due"] (spLIs K C) := by
  have Gl : FnOk P w K mg base CX0 (k + 1) fl gl ["_law_top", "_law_bottom"] spLow := ok_low Nl.F T
  refine F.ok scLIs (fun vs H Q E h => ?_) (fun cdv A outer s H vs Q E hr h => ?_)
  · obtain ⟨a, dt, t, b, rfl, _⟩ := h
    rfl
  · obtain ⟨a, dt, t, b, rfl, ⟨dx, ha⟩, ht, hb, hz, q⟩ := h
    have hu := hu66 hr
    refine ⟨_, pss_cons (ps_if (PW.pt (pw_or (pt_not (pt_val (pe_callB (call_isC T.ins) (by rfl) T.isi (by decide +kernel) (pa_cons (pv 0) (pa_cons (pe_glob (v := .ref C) (by rfl) T.mgC rfl) pa_nil)))))
        (pw_or (pt_val (pe_callB call_isi (by rfl) T.isi (by decide +kernel) (pa_cons (pe_fld (pv 0) rfl) (pa_cons (pe_bltn (v := .ty "bool") (by rfl) T.bool (by decide +kernel) rfl) pa_nil))))
        (pw_or1 (pt_val (pe_callB call_isi (by rfl) T.isi (by decide +kernel) (pa_cons (pe_fld (pv 0) rfl) (pa_cons (pe_bltn (v := .ty "bool") (by rfl) T.bool (by decide +kernel) rfl) pa_nil)))))))) (pss_one (ps_ret pe_bl)) pss_nil)
      (pss_cons (ps_if (PW.pt (pw_or (pt_not (pt_val (pe_callB call_isi (by rfl) T.isi (by decide +kernel) (pa_cons (pe_fld (pv 0) rfl) (pa_cons (pe_bltn (v := .ty "int") (by rfl) T.int (by decide +kernel) rfl) pa_nil)))))
        (pw_or1 (pt_not (pt_val (pe_callB call_isi (by rfl) T.isi (by decide +kernel) (pa_cons (pe_fld (pv 0) rfl) (pa_cons (pe_bltn (v := .ty "int") (by rfl) T.int (by decide +kernel) rfl) pa_nil)))))))) (pss_one (ps_ret pe_bl)) pss_nil)
      (pss_one (ps_ret (pe_cmpR (op_eqD (Nat.lt_of_le_of_lt (Nat.add_le_add_left (by decide : 64 ≤ 66) _) hu)) (pe_tup (pa_cons (pe_fld (pv 0) rfl) (pa_cons (pe_fld (pv 0) rfl) pa_nil)))
        (pe_call Gl hr (by rfl) Nl.g Nl.F.kp Nl.b .nil pass0 (pa_cons (pe_ix ix_tup (pv 1) pe_int (fun _ _ => rfl)) (pa_cons (pe_ix ix_tup (pv 1) pe_int (fun _ _ => rfl)) pa_nil))) (nomark _))))), ?_⟩
    generalize hq : Rat.divInt t b = r at ha
    refine ⟨.ref a, rfl, a, dx, _, rfl, ha, true, rfl, iteF ?_⟩
    refine ⟨.ref a, rfl, a, C, dx, _, _, rfl, ha, T.ins.cl, T.nT, pf_top r, .int r.num, .ty "bool", .type "int", .type "bool", false, rfl, .ty _, .base (.int _), kit_ty (by decide +kernel), false, rfl, iteF ?_⟩
    refine ⟨.ref a, rfl, a, C, dx, _, _, rfl, ha, T.ins.cl, T.nB, pf_bottom r, .int (r.den : Int), .ty "bool", .type "int", .type "bool", false, rfl, .ty _, .base (.int _), kit_ty (by decide +kernel), false, rfl, iteF ?_⟩
    refine ⟨.ref a, rfl, a, C, dx, _, _, rfl, ha, T.ins.cl, T.nT, pf_top r, .int r.num, .ty "int", .type "int", .type "int", true, rfl, .ty _, .base (.int _), kit_ty (by decide +kernel), true, rfl, iteF ?_⟩
    refine ⟨.ref a, rfl, a, C, dx, _, _, rfl, ha, T.ins.cl, T.nB, pf_bottom r, .int (r.den : Int), .ty "int", .type "int", .type "int", true, rfl, .ty _, .base (.int _), kit_ty (by decide +kernel), true, rfl, iteF ?_⟩
    refine ⟨.ref a, rfl, a, C, dx, _, _, rfl, ha, T.ins.cl, T.nT, pf_top r, .ref a, rfl, a, C, dx, _, _, rfl, ha, T.ins.cl, T.nB, pf_bottom r, (by show 2 ≤ sizeLine; decide), fun p hp => ?_⟩
    have s1 : Same H (upd H p (.tup [.int r.num, .int (r.den : Int)])) := same_upd hp
    have ht1 : SqT K _ dt _ := SqT.of (s1 _ _ ht)
    refine ⟨.ref dt, rfl, dt, _, 0, .int t, rfl, rfl, ht1, rfl, .ref dt, rfl, dt, _, 1, .int b, rfl, rfl, ht1, rfl, t, b, rfl, hb, hz, fun H2 p2 s2 n2 e2 => ?_⟩
    rw [hq] at e2
    refine ⟨.tuple [.int r.num, .int (r.den : Int)], .tuple [.int r.num, .int (r.den : Int)], .tup (SqT.of (s2 _ _ upd_same)) (.cons (.int _) (.cons (.int _) .nil)), .tup (SqT.of e2) (.cons (.int _) (.cons (.int _) .nil)), rfl, rfl, ?_⟩
    rw [eqv_two]
    exact q _ (s1.trans s2)
end
end Hop

set_option Elab.async false
set_option linter.all false
set_option maxRecDepth 100000
/-! V110: texts that write whole numbers and fractions: figL, cutL (at the first stroke), rdP (what a text writes), as lists of codes. -/
namespace Hop
open PySem TL
theorem rev_ind {P : List Nat → Prop} (h0 : P []) (h1 : ∀ L c, P L → P (L ++ [c])) : ∀ L, P L := by
  have : ∀ (n : Nat) (L : List Nat), L.length = n → P L := by
    intro n
    induction n with
    | zero => intro L e; rw [List.length_eq_zero_iff.mp e]; exact h0
    | succ n ih =>
      intro L e
      have hne : L ≠ [] := by rintro rfl; simp at e
      rw [← List.dropLast_concat_getLast hne]
      exact h1 _ _ (ih _ (by rw [List.length_dropLast]; omega))
  exact fun L => this _ L rfl
/-! ### figures -/
def digB (c : Nat) : Bool := decide (48 ≤ c) && decide (c ≤ 57)
def figL (L : List Nat) : Bool := !L.isEmpty && L.all digB && (L == [48] || !(L.head? == some 48))
def valL (L : List Nat) : Nat := NumText.digitsVal L
theorem dig_of {L : List Nat} (h : L.all digB = true) : NumText.AllDigits L := fun c hc => by
  have := List.all_eq_true.mp h c hc
  unfold digB at this
  rw [Bool.and_eq_true] at this
  exact ⟨of_decide_eq_true this.1, of_decide_eq_true this.2⟩
theorem fig_ne {L : List Nat} (h : figL L = true) : L ≠ [] := fun e => by rw [e] at h; exact absurd h (by decide)
theorem fig_all {L : List Nat} (h : figL L = true) : L.all digB = true := by
  unfold figL at h
  rw [Bool.and_eq_true, Bool.and_eq_true] at h
  exact h.1.2
theorem fig_dig {L : List Nat} (h : figL L = true) : NumText.AllDigits L := dig_of (fig_all h)
theorem val_app (L : List Nat) (c : Nat) : valL (L ++ [c]) = valL L * 10 + (c - 48) := by
  unfold valL NumText.digitsVal
  rw [List.foldl_append]
  rfl
theorem val_pos : ∀ (L : List Nat), L.all digB = true → L ≠ [] → L.head? ≠ some 48 → 1 ≤ valL L := by
  refine rev_ind (fun _ h => absurd rfl h) fun L c ih => ?_
  · intro ha _ hh
    rw [List.all_append, Bool.and_eq_true] at ha
    have hc : digB c = true := by have := ha.2; rw [List.all_cons, Bool.and_eq_true] at this; exact this.1
    unfold digB at hc
    rw [Bool.and_eq_true, decide_eq_true_eq, decide_eq_true_eq] at hc
    rw [val_app]
    by_cases e : L = []
    · subst e
      have : c ≠ 48 := fun e => hh (by rw [e]; rfl)
      omega
    · have : 1 ≤ valL L := ih ha.1 e (by cases L with
        | nil => exact absurd rfl e
        | cons x r => exact hh)
      omega
/-- what figures write is written so -/
theorem num_val : ∀ (L : List Nat), figL L = true → numL (valL L) = L := by
  refine rev_ind (fun h => absurd h (by decide)) fun L c ih => ?_
  · intro h
    have ha := fig_all h
    rw [List.all_append, Bool.and_eq_true] at ha
    have hc : digB c = true := by have := ha.2; rw [List.all_cons, Bool.and_eq_true] at this; exact this.1
    unfold digB at hc
    rw [Bool.and_eq_true, decide_eq_true_eq, decide_eq_true_eq] at hc
    rw [val_app]
    by_cases e : L = []
    · subst e
      have e0 : valL [] = 0 := rfl
      rw [e0, numL_lt (by omega)]
      show [48 + (0 * 10 + (c - 48))] = [c]
      congr 1
      omega
    · have hh : L.head? ≠ some 48 := by
        intro z
        unfold figL at h
        rw [Bool.and_eq_true] at h
        have h2 := h.2
        cases L with
        | nil => exact e rfl
        | cons x r =>
          have hx : x = 48 := by simpa using z
          subst hx
          rw [show ((48 :: r ++ [c]).head? == some 48) = true from rfl] at h2
          simp at h2
      have hf : figL L = true := by
        unfold figL
        rw [ha.1]
        have : L.isEmpty = false := by cases L with
          | nil => exact absurd rfl e
          | cons x r => rfl
        rw [this]
        have h3 : (L.head? == some 48) = false := by
          rw [Bool.eq_false_iff]
          intro z
          exact hh (by simpa using z)
        rw [h3]
        simp
      have hp : 1 ≤ valL L := val_pos L ha.1 e hh
      have hm : (valL L * 10 + (c - 48)) / 10 = valL L := by omega
      have hr : (valL L * 10 + (c - 48)) % 10 = c - 48 := by omega
      rw [numL_step (by omega), hm, hr, ih hf]
      congr 2
      omega
theorem num_fig (n : Nat) : figL (numL n) = true := by
  induction n using Nat.strongRecOn with
  | _ n ih =>
    by_cases h : n < 10
    · rw [numL_lt h]
      have : n = 0 ∨ n = 1 ∨ n = 2 ∨ n = 3 ∨ n = 4 ∨ n = 5 ∨ n = 6 ∨ n = 7 ∨ n = 8 ∨ n = 9 := by omega
      rcases this with rfl | rfl | rfl | rfl | rfl | rfl | rfl | rfl | rfl | rfl <;> decide
    · have i := ih (n / 10) (by omega)
      rw [numL_step (by omega)]
      have hne := fig_ne i
      have hal := fig_all i
      have hz : (numL (n / 10)).head? ≠ some 48 := by
        intro z
        unfold figL at i
        rw [Bool.and_eq_true] at i
        have h2 := i.2
        rw [z] at h2
        have e : numL (n / 10) = [48] := by simpa using h2
        have v := numL_val (n / 10)
        rw [e] at v
        have : NumText.digitsVal [48] = 0 := rfl
        omega
      unfold figL
      generalize numL (n / 10) = L at hne hal hz
      cases L with
      | nil => exact absurd rfl hne
      | cons x r =>
        have hx : x ≠ 48 := fun e => hz (by rw [e]; rfl)
        have e1 : ((x :: r ++ [48 + n % 10]).isEmpty) = false := rfl
        have e2 : ((x :: r ++ [48 + n % 10]).head? == some 48) = false := by
          show (some x == some 48) = false
          simpa using hx
        have e3 : (x :: r ++ [48 + n % 10]).all digB = true := by
          rw [List.all_append, hal]
          have : digB (48 + n % 10) = true := by
            unfold digB
            rw [decide_eq_true (by omega), decide_eq_true (by omega)]
            rfl
          simp [this]
        rw [e1, e2, e3]
        simp
/-! ### cut at the first stroke -/
def cutL : List Nat → List Nat × Option (List Nat)
  | [] => ([], none)
  | c :: r => if c = 47 then ([], some r) else (c :: (cutL r).1, (cutL r).2)
theorem cut_free : ∀ L : List Nat, 47 ∉ (cutL L).1
  | [] => by simp [cutL]
  | c :: r => by
    unfold cutL
    by_cases h : c = 47
    · rw [if_pos h]; simp
    · rw [if_neg h]
      intro z
      rcases List.mem_cons.mp z with z | z
      · exact h z.symm
      · exact cut_free r z
theorem cut_none : ∀ L : List Nat, (cutL L).2 = none → (cutL L).1 = L
  | [] => fun _ => rfl
  | c :: r => by
    unfold cutL
    by_cases h : c = 47
    · rw [if_pos h]; intro z; exact absurd z (by simp)
    · rw [if_neg h]
      intro z
      show c :: (cutL r).1 = _
      rw [cut_none r z]
theorem cut_some : ∀ (L T : List Nat), (cutL L).2 = some T → L = (cutL L).1 ++ 47 :: T
  | [], T => fun h => by simp [cutL] at h
  | c :: r, T => by
    unfold cutL
    by_cases h : c = 47
    · rw [if_pos h]
      intro z
      have : r = T := by simpa using z
      rw [this, h]
      rfl
    · rw [if_neg h]
      intro z
      show c :: r = c :: (cutL r).1 ++ 47 :: T
      rw [List.cons_append, ← cut_some r T z]
theorem cut_at : ∀ (A T : List Nat), 47 ∉ A → cutL (A ++ 47 :: T) = (A, some T)
  | [], T => fun _ => rfl
  | c :: r, T => fun h => by
    show cutL (c :: (r ++ 47 :: T)) = _
    unfold cutL
    rw [if_neg (fun e => h (by rw [e]; simp)), cut_at r T (fun z => h (List.mem_cons_of_mem _ z))]
theorem cut_no : ∀ (A : List Nat), 47 ∉ A → cutL A = (A, none)
  | [] => fun _ => rfl
  | c :: r => fun h => by
    unfold cutL
    rw [if_neg (fun e => h (by rw [e]; simp)), cut_no r (fun z => h (List.mem_cons_of_mem _ z))]
theorem cut_len : ∀ L : List Nat, (cutL L).1.length ≤ L.length
  | [] => by simp [cutL]
  | c :: r => by
    unfold cutL
    split
    · simp
    · have := cut_len r
      simp only [List.length_cons]
      omega
theorem cut_len2 (L T : List Nat) (h : (cutL L).2 = some T) : T.length ≤ L.length := by
  have := congrArg List.length (cut_some L T h)
  rw [List.length_append, List.length_cons] at this
  omega
def mkS (L : List Nat) : Str := ⟨L.toArray⟩
theorem mkS_tl (L : List Nat) : tl (mkS L) = L := rfl
theorem part_is (t : Str) : Txt.partition t "/" = (mkS (cutL (tl t)).1, (match (cutL (tl t)).2 with | none => Str.empty | some _ => "/"), (match (cutL (tl t)).2 with | none => Str.empty | some T => mkS T)) := by
  have ey : tl ("/" : Str) = 47 :: [] := by decide +kernel
  have hf : 47 ∉ tl (mkS (cutL (tl t)).1) := cut_free (tl t)
  cases h : (cutL (tl t)).2 with
  | none =>
    have e : mkS (cutL (tl t)).1 = t := ext_tl (cut_none _ h)
    have := partition_none (y := "/") ey hf
    rw [e] at this ⊢
    exact this
  | some T =>
    have e : mkS (cutL (tl t)).1 ++ "/" ++ mkS T = t := by
      apply ext_tl
      rw [tl_append, tl_append, ey]
      conv => rhs; rw [cut_some _ _ h]
      show (cutL (tl t)).1 ++ [47] ++ T = _
      simp
    have := partition_app (y := "/") ey (b := mkS T) hf
    rw [e] at this
    exact this
/-! ### a minus -/
def miB (L : List Nat) : Bool := L.head? == some 45
def fgs (L : List Nat) : List Nat := if miB L = true then L.tail else L
theorem starts_is (x y : Str) (c : Nat) (ey : tl y = [c]) : Txt.startswith x y = ((tl x).head? == some c) := by
  unfold Txt.startswith
  have ly : y.length = 1 := by rw [len_tl, ey]; rfl
  rw [StrLaws.subAt_eq, ly, len_tl x]
  show _ = ((tl x).head? == some c)
  have e2 : y.cps.toList = [c] := ey
  rw [e2]
  show (decide (0 + 1 ≤ (tl x).length) && (((tl x).drop 0).take 1 == [c])) = _
  cases tl x with
  | nil => rfl
  | cons d r =>
    show (decide (0 + 1 ≤ r.length + 1) && ([d] == [c])) = (some d == some c)
    rw [decide_eq_true (by omega), Bool.true_and]
    by_cases h : d = c
    · subst h; simp
    · have h1 : ([d] == [c]) = false := by simpa using h
      have h2 : (some d == some c) = false := by simpa using h
      rw [h1, h2]
theorem rempre_is (x : Str) : tl (Txt.removeprefix x "-") = fgs (tl x) := by
  have ey : tl ("-" : Str) = [45] := by decide +kernel
  have ly : ("-" : Str).length = 1 := by decide
  have hs := starts_is x "-" 45 ey
  rw [StrLaws.removeprefix_eq]
  unfold Txt.startswith at hs
  rw [hs]
  unfold fgs miB
  by_cases h : ((tl x).head? == some 45) = true
  · rw [if_pos h, if_pos h, ly]
    show ((tl x).drop 1).take (x.length - 1) = _
    rw [len_tl, List.take_of_length_le (by rw [List.length_drop]; omega)]
    cases tl x <;> rfl
  · rw [if_neg h, if_neg h]
theorem dig128 : ∀ c, c < 128 → Unicode.isDigit c = digB c := by decide +kernel
/-- text.isascii() and text.isdigit(): all are figures -/
theorem asc_dig (x : Str) : (Txt.isascii x && Txt.isdigit x) = (!(tl x).isEmpty && (tl x).all digB) := by
  unfold Txt.isascii Txt.isdigit
  have e1 : x.cps.all (· < 128) = (tl x).all (· < 128) := by rw [← Array.all_toList]
  have e2 : x.cps.all Unicode.isDigit = (tl x).all Unicode.isDigit := by rw [← Array.all_toList]
  rw [e1, e2, len_tl]
  have e3 : (decide ((tl x).length > 0)) = !(tl x).isEmpty := by cases tl x <;> simp
  rw [e3]
  generalize tl x = L
  have key : (L.all (fun c => decide (c < 128)) && L.all Unicode.isDigit) = L.all digB := by
    induction L with
    | nil => rfl
    | cons c r ih =>
      rw [List.all_cons, List.all_cons, List.all_cons, ← ih]
      by_cases h : c < 128
      · rw [decide_eq_true h, dig128 c h]
        cases digB c <;> cases r.all (fun c => decide (c < 128)) <;> cases r.all Unicode.isDigit <;> rfl
      · have : digB c = false := by
          unfold digB
          rw [decide_eq_false (show ¬ c ≤ 57 by omega)]
          simp
        rw [decide_eq_false h, this]
        simp
  rw [← key]
  cases L.isEmpty <;> cases L.all (fun c => decide (c < 128)) <;> cases L.all Unicode.isDigit <;> rfl
end Hop

set_option Elab.async false
set_option linter.all false
set_option maxRecDepth 100000
set_option exponentiation.threshold 200000
namespace Hop
open PySem L2 HopR TL
open C8 (InsC call_isC)
abbrev sIsFig : Stmt := top 14
abbrev sNumOf : Stmt := top 15
abbrev sRead : Stmt := top 17
/-! ### what a text writes -/
def iL (i : Int) : List Nat := if i < 0 then 45 :: numL i.natAbs else numL i.natAbs
theorem tI_iL (i : Int) : tl (tI i) = iL i := by
  unfold iL
  by_cases h : i < 0
  · rw [if_pos h]
    have e := neg_text h
    rw [← e, tl, join0_list]
    have e4 : ("-" : Str).cps.toList = [45] := by decide +kernel
    show ("-" : Str).cps.toList ++ (tl (tI ((i.natAbs : Nat) : Int)) ++ []) = _
    rw [e4, List.append_nil]
    show 45 :: tl (tI ((i.natAbs : Nat) : Int)) = _
    unfold tI
    rw [tl_num]
  · rw [if_neg h]
    have e : ((i.natAbs : Nat) : Int) = i := by omega
    rw [← e]
    unfold tI
    rw [tl_num, Int.natAbs_natCast]
theorem iL_free (i : Int) : 47 ∉ iL i := by
  unfold iL
  have f : ∀ n, 47 ∉ numL n := fun n => numL_free (by omega)
  split
  · intro z
    rcases List.mem_cons.mp z with z | z
    · exact absurd z (by decide)
    · exact f _ z
  · exact f _
theorem stx_tl (q : Rat) : tl (stx q) = iL q.num ++ (if q.den = 1 then [] else 47 :: numL q.den) := by
  unfold stx
  by_cases h : q.den = 1
  · rw [if_pos h, if_pos h, tI_iL, List.append_nil]
  · rw [if_neg h, if_neg h]
    show tl (tI q.num ++ "/" ++ tI (q.den : Int)) = _
    rw [tl_append, tl_append, tI_iL]
    have e4 : tl ("/" : Str) = [47] := by decide +kernel
    rw [e4]
    have : tl (tI ((q.den : Nat) : Int)) = numL q.den := by unfold tI; exact tl_num _
    rw [this, List.append_assoc]
    rfl
/-- the whole number that a head writes -/
def sgL (A : List Nat) : Int := if miB A = true then -((valL (fgs A) : Nat) : Int) else ((valL (fgs A) : Nat) : Int)
def rdT (n : Int) (T : List Nat) : Option Rat := if figL T = false then none else if valL T < 2 then none else if (Rat.divInt n (valL T : Int)).den = valL T then some (Rat.divInt n (valL T : Int)) else none
def rdL (L : List Nat) : Option Rat :=
  if figL (fgs (cutL L).1) = false then none
  else if (miB (cutL L).1 && fgs (cutL L).1 == [48]) = true then none
  else match (cutL L).2 with
    | none => some (Rat.divInt (sgL (cutL L).1) 1)
    | some T => rdT (sgL (cutL L).1) T
theorem mi_cons {A : List Nat} (h : miB A = true) : A = 45 :: fgs A := by
  unfold fgs
  rw [if_pos h]
  unfold miB at h
  cases A with
  | nil => exact absurd h (by decide)
  | cons c r =>
    have : c = 45 := by simpa using h
    rw [this]
    rfl
theorem val48 {L : List Nat} (h : figL L = true) : valL L = 0 ↔ L = [48] := by
  constructor
  · intro e
    have := num_val L h
    rw [e, numL_lt (by decide)] at this
    exact this.symm
  · intro e
    rw [e]
    rfl
theorem iL_sg {A : List Nat} (h : figL (fgs A) = true) : iL (sgL A) = A ↔ (miB A && fgs A == [48]) = false := by
  have v := num_val _ h
  have w := val48 h
  unfold sgL iL
  by_cases m : miB A = true
  · have ea := mi_cons m
    rw [if_pos m, m, Bool.true_and]
    by_cases z : fgs A = [48]
    · rw [w.mpr z, z]
      constructor
      · intro e
        rw [if_neg (by decide)] at e
        rw [z] at ea
        rw [ea] at e
        exact absurd e (by decide)
      · intro e
        exact absurd e (by decide)
    · have hz : valL (fgs A) ≠ 0 := fun e => z (w.mp e)
      rw [if_pos (by omega), Int.natAbs_neg, Int.natAbs_natCast, v]
      constructor
      · intro _
        rw [Bool.eq_false_iff]
        intro e
        exact z (by simpa using e)
      · intro _
        exact ea.symm
  · rw [if_neg m, if_neg (by omega), Int.natAbs_natCast, v]
    rw [Bool.eq_false_iff.mpr m, Bool.false_and]
    unfold fgs
    rw [if_neg m]
    simp
theorem num_eq {n : Int} {m : Nat} (hm : 0 < m) (h : (Rat.divInt n m).den = m) : (Rat.divInt n m).num = n := by
  generalize e : Rat.divInt n m = q at h
  have e1 := Rat.num_divInt_den q
  rw [h, ← e] at e1
  have hz : (m : Int) ≠ 0 := by omega
  have e2 := (Rat.divInt_eq_divInt_iff hz hz).mp e1
  have e3 := Int.eq_of_mul_eq_mul_right hz e2
  rw [← e]
  exact e3
/-- where all is figures: the text of the Part that they write is the text, or the text writes none -/
theorem read_is {L B : List Nat} (hA : figL (fgs (cutL L).1) = true) (hB : figL B = true) (hz : B ≠ [48]) (eB : B = (cutL L).2.getD [49]) :
    (tl (stx (Rat.divInt (sgL (cutL L).1) (valL B : Int))) = L → rdL L = some (Rat.divInt (sgL (cutL L).1) (valL B : Int))) ∧ (tl (stx (Rat.divInt (sgL (cutL L).1) (valL B : Int))) ≠ L → rdL L = none) := by
  have s := iL_sg hA
  have hf := cut_free L
  unfold rdL
  rw [if_neg (by rw [hA]; decide)]
  cases h : (cutL L).2 with
  | none =>
    rw [h] at eB
    have e1 : B = [49] := eB
    have v1 : valL B = 1 := by rw [e1]; rfl
    have eA := cut_none _ h
    rw [v1]
    have d1 : (Rat.divInt (sgL (cutL L).1) ((1 : Nat) : Int)).den = 1 := by
      show (Rat.divInt (sgL (cutL L).1) 1).den = 1
      rw [rat_int]
      rfl
    have n1 := num_eq (by decide) d1
    rw [stx_tl, d1, if_pos rfl, List.append_nil, n1]
    rw [eA] at s ⊢
    constructor
    · intro e
      rw [if_neg (by rw [s.mp e]; decide)]
      rfl
    · intro e
      rw [if_pos (by cases hh : (miB L && fgs L == [48]) with
        | true => rfl
        | false => exact absurd (s.mpr hh) e)]
  | some T =>
    rw [h] at eB
    have e1 : B = T := eB
    subst e1
    have eL := cut_some _ _ h
    have vp : 1 ≤ valL B := by
      have : valL B ≠ 0 := fun e => hz ((val48 hB).mp e)
      omega
    have vB := num_val _ hB
    have er : rdT (sgL (cutL L).1) B = if valL B < 2 then none else if (Rat.divInt (sgL (cutL L).1) (valL B : Int)).den = valL B then some (Rat.divInt (sgL (cutL L).1) (valL B : Int)) else none := by
      unfold rdT
      rw [if_neg (show ¬ figL B = false by rw [hB]; decide)]
    show (_ → (if (miB (cutL L).1 && fgs (cutL L).1 == [48]) = true then none else rdT (sgL (cutL L).1) B) = _) ∧ (_ → (if (miB (cutL L).1 && fgs (cutL L).1 == [48]) = true then none else rdT (sgL (cutL L).1) B) = none)
    rw [er]
    clear er
    generalize hm : valL B = m at vp vB ⊢
    generalize hAA : (cutL L).1 = A at *
    generalize hq : Rat.divInt (sgL A) (m : Int) = q
    rw [stx_tl]
    constructor
    · intro e
      by_cases d : q.den = 1
      · rw [if_pos d, List.append_nil] at e
        exact absurd (by rw [e, eL]; simp) (iL_free q.num)
      · rw [if_neg d] at e
        have c := congrArg cutL e
        rw [cut_at _ _ (iL_free _), eL, cut_at _ _ hf] at c
        have c1 : iL q.num = A := congrArg Prod.fst c
        have c2 : numL q.den = B := by
          have := congrArg Prod.snd c
          exact Option.some.inj this
        have c3 : q.den = m := numL_inj (by rw [c2, vB])
        have c4 : q.num = sgL A := by
          have := num_eq (n := sgL A) (m := m) vp (by rw [hq]; exact c3)
          rw [hq] at this
          exact this
        rw [c4] at c1
        rw [s.mp c1, if_neg (by decide), if_neg (by omega), if_pos c3]
    · intro e
      split
      · rfl
      · next z =>
        split
        · rfl
        · split
          · next d =>
            exfalso
            have d1 : q.den ≠ 1 := by omega
            have c4 : q.num = sgL A := by
              have := num_eq (n := sgL A) (m := m) vp (by rw [hq]; exact d)
              rw [hq] at this
              exact this
            apply e
            rw [if_neg d1, c4, s.mpr (Bool.eq_false_iff.mpr z), d, vB]
            exact eL.symm
          · rfl
/-- where not all is figures, it writes none -/
theorem read_no {L : List Nat} (h : figL (fgs (cutL L).1) = false ∨ figL ((cutL L).2.getD [49]) = false ∨ (cutL L).2.getD [49] = [48]) : rdL L = none := by
  unfold rdL
  split
  · rfl
  · next hA =>
    split
    · rfl
    · rcases h with h | h | h
      · exact absurd h hA
      · cases e : (cutL L).2 with
        | none => rw [e] at h; exact absurd h (by decide)
        | some T =>
          rw [e] at h
          have h : figL T = false := h
          show rdT _ T = none
          unfold rdT
          rw [if_pos h]
      · cases e : (cutL L).2 with
        | none => rw [e] at h; exact absurd h (by decide)
        | some T =>
          rw [e] at h
          have h : T = [48] := h
          show rdT _ T = none
          rw [h]
          rfl
theorem val_lt : ∀ (L : List Nat), L.all digB = true → valL L < 10 ^ L.length := by
  refine rev_ind (fun _ => by decide) fun L c ih ha => ?_
  rw [List.all_append, Bool.and_eq_true] at ha
  have hc : digB c = true := by have := ha.2; rw [List.all_cons, Bool.and_eq_true] at this; exact this.1
  unfold digB at hc
  rw [Bool.and_eq_true, decide_eq_true_eq, decide_eq_true_eq] at hc
  have i := ih ha.1
  rw [val_app, List.length_append, List.length_singleton, Nat.pow_succ]
  omega
end Hop

set_option Elab.async false
set_option linter.all false
set_option maxRecDepth 100000
set_option exponentiation.threshold 200000
namespace Hop
open PySem L2 HopR TL
open C8 (InsC call_isC)
section
variable {P : Program} {w : World} {K : PySem.W.Frag} {mg : Str → Option Value} {base : Heap} {C : Addr}
theorem str_dec {x y : Str} : decide (V.str x = V.str y) = (tl x == tl y) := by
  by_cases h : x = y
  · subst h
    rw [decide_eq_true rfl]
    simp
  · rw [decide_eq_false fun z => h (V.str.inj z)]
    symm
    rw [Bool.eq_false_iff]
    intro z
    exact h (ext_tl (by simpa using z))
/-! ### is_figures -/
def spIsFig : Sp := fun vs H Q _ => ∃ t : Str, vs = [.str t] ∧ Q (.bl (figL (tl t))) H
theorem scIsFig : FnScope ["text"] ["text"] (defScope sIsFig) := ⟨rfl, rfl, rfl, by decide +kernel, rfl, by decide +kernel, by decide +kernel⟩
theorem ok_isfig {f : Addr} {fd : FuncData} {k : Nat} (F : Fun K "is_figures" "is_figures" sIsFig f fd) : FnOk P w K mg base CX0 (k + 1) f fd ["text"] spIsFig := by
  refine F.ok scIsFig (fun vs H Q E h => ?_) (fun cdv A outer s H vs Q E hr h => ?_)
  · obtain ⟨t, rfl, _⟩ := h
    rfl
  · obtain ⟨t, rfl, q⟩ := h
    refine ⟨_, pss_one (ps_ret (pe_and (pe_m0 PySem.F.slot_str_isascii PySem.F.type_str_isascii mt_isascii (pv 0)) (pe_and (pe_m0 PySem.F.slot_str_isdigit PySem.F.type_str_isdigit mt_isdigit (pv 0))
      (pe_one (pe_or (pe_cmpR op_eq (pv 0) pe_str (nomark _)) (pe_one (pe_not (pe_m1 PySem.F.slot_str_startswith PySem.F.type_str_startswith mt_startswith (pv 0) pe_str)))))))), ?_⟩
    have e48 : tl ("0" : Str) = [48] := by decide +kernel
    have ef : figL (tl t) = (Txt.isascii t && Txt.isdigit t && (tl t == [48] || !(Txt.startswith t "0"))) := by
      rw [asc_dig, starts_is t "0" 48 e48]
      rfl
    rw [ef] at q
    refine ⟨.str t, rfl, ⟨t, rfl⟩, t, rfl, rfl, trivial, Txt.isascii t, rfl, ?_⟩
    cases h1 : Txt.isascii t with
    | false =>
      rw [h1] at q
      exact q
    | true =>
      rw [h1] at q
      refine ⟨.str t, rfl, ⟨t, rfl⟩, t, rfl, rfl, trivial, Txt.isdigit t, rfl, ?_⟩
      cases h2 : Txt.isdigit t with
      | false =>
        rw [h2] at q
        exact q
      | true =>
        rw [h2] at q
        refine ⟨.str t, rfl, rfl, _, rfl, ?_⟩
        rw [str_dec, e48]
        cases h3 : tl t == [48] with
        | true =>
          rw [h3] at q
          exact q
        | false =>
          rw [h3] at q
          exact ⟨.str t, rfl, ⟨t, rfl⟩, t, "0", rfl, rfl, _, rfl, q⟩
/-! ### number_of -/
structure TxtN (mg : Str → Option Value) : Prop where
  many : ∃ t, mg "PIECE_FIGURES" = some (.int 64 t)
  str : mg "str" = none
def spNumOf : Sp := fun vs H Q _ => ∃ t : Str, vs = [.str t] ∧ figL (tl t) = true ∧ t.length ≤ 60 ∧ Q (.int ((valL (tl t) : Nat) : Int)) H
theorem scNumOf : FnScope ["figures", "number", "start", "piece"] ["figures"] (defScope sNumOf) := ⟨rfl, rfl, rfl, by decide +kernel, rfl, by decide +kernel, by decide +kernel⟩
theorem cut_all (t : Str) (h : t.length ≤ 64) : cutS t (some 0) (some 64) = t := by
  apply ext_tl
  show (((tl t).drop (HT.sIx t.length 0 (some 0))).take (HT.sIx t.length t.length (some 64) - HT.sIx t.length 0 (some 0))) = _
  have e1 : HT.sIx t.length 0 (some 0) = 0 := by
    show (if (0 : Int) < 0 then ((0 : Int) + (t.length : Int)).toNat else min (Int.toNat 0) t.length) = 0
    rw [if_neg (by decide)]
    simp
  have e2 : HT.sIx t.length t.length (some 64) = t.length := by
    show (if (64 : Int) < 0 then ((64 : Int) + (t.length : Int)).toNat else min (Int.toNat 64) t.length) = _
    rw [if_neg (by decide)]
    show min 64 t.length = _
    omega
  rw [e1, e2, List.drop_zero, Nat.sub_zero, len_tl, List.take_length]
theorem rg64 : ∀ L : Nat, L < 61 → 1 ≤ L → (Builtin.Range.small 0 (L : Int) 64 && (Builtin.Range.rangeSize 0 (L : Int) 64 == ((1 : Nat) : Int))) = true := by decide +kernel
theorem rgc64 {L : Nat} (h : L ≤ 60) (h1 : 1 ≤ L) : RgC 0 (L : Int) 64 1 := by
  have := rg64 L (by omega) h1
  rw [Bool.and_eq_true] at this
  exact ⟨by decide, by decide, this.1, by simpa using this.2⟩
theorem ok_numof {f fp : Addr} {fd gp : FuncData} {k : Nat} (F : Fun K "number_of" "number_of" sNumOf f fd) (Np : Fn K mg "power" sPower ["number", "many"] fp gp) (T : TxtP K mg C) (TN : TxtN mg) : FnOk P w K mg base CX0 (k + 2) f fd ["figures"] spNumOf := by
  have Gp : FnOk P w K mg base CX0 (k + 1) fp gp ["number", "many"] spPower := ok_power Np.F
  refine F.ok scNumOf (fun vs H Q E h => ?_) (fun cdv A outer s H vs Q E hr h => ?_)
  · obtain ⟨t, rfl, _⟩ := h
    rfl
  · obtain ⟨t, rfl, hf, hl, q⟩ := h
    have nd := scNumOf.nd
    obtain ⟨tm, gm⟩ := TN.many
    refine ⟨_, pss_cons (ps_set (i := 1) nd rfl (.inl rfl) pe_int)
      (pss_cons (ps_for PassesOwn.never rfl (pi_range3 (by rfl) T.range (pa_cons pe_int (pa_cons (pe_callB call_len_str (by rfl) T.len PySem.boot_len (pa_cons (pv 0) pa_nil)) (pa_cons (pe_glob (v := .int 64) (by rfl) gm ⟨_, rfl⟩) pa_nil)))) (pg_name (i := 2) nd rfl (.inl rfl))
        (pss_cons (ps_set (i := 3) nd rfl (.inl rfl) (pe_slice sl_str (pv 0) (po_some (pv 2)) (po_some (pe_op op_add (pv 2) (pe_glob (v := .int 64) (by rfl) gm ⟨_, rfl⟩)))))
        (pss_one (ps_set (i := 1) nd rfl (.inl rfl) (pe_op op_add (pe_op op_mulW (pv 1) (pe_call Gp hr (by rfl) Np.g Np.F.kp Np.b .nil pass0 (pa_cons pe_int (pa_cons (pe_callB call_len_str (by rfl) T.len PySem.boot_len (pa_cons (pv 3) pa_nil)) pa_nil)))) (pe_callTy call_int_str (by rfl) T.int (by decide +kernel) (pa_cons (pv 3) pa_nil)))))))
      (pss_one (ps_ret (pv 1)))), ?_⟩
    have hne := fig_ne hf
    have h1 : 1 ≤ t.length := by
      rw [len_tl]
      cases h : tl t with
      | nil => exact absurd h hne
      | cons c r => simp
    have sl : t.length ≤ sizeLine := Nat.le_trans hl (by decide)
    refine ⟨.str t, rfl, t, rfl, sl, 0, (t.length : Int), 64, 1, rfl, rgc64 hl h1, ?_⟩
    refine for_rangeC (lo := 0) (c := 64) (n := 1) (fun i σ H3 => ((i = 0 ∧ σ = [some (.str t), some (.int 0), none, none]) ∨ (i = 1 ∧ ∃ y2 y3, σ = [some (.str t), some (.int ((valL (tl t) : Nat) : Int)), y2, y3])) ∧ H3 = H) ⟨.inl ⟨rfl, rfl⟩, rfl⟩ ?_ ?_
    · rintro i σ H3 hi ⟨h, rfl⟩
      have i0 : i = 0 := by omega
      subst i0
      rcases h with ⟨_, rfl⟩ | ⟨h, _⟩
      · have e0 : (0 : Int) + ((0 : Nat) : Int) * 64 = 0 := rfl
        rw [e0]
        refine ⟨.str t, rfl, .int 0, rfl, _, rfl, .int 0, rfl, 0, 64, rfl, rfl, _, rfl, t, rfl, sl, ?_⟩
        rw [show (0 : Int) + 64 = 64 from rfl, cut_all t (by omega)]
        refine ⟨.int 0, rfl, .str t, rfl, t, rfl, sl, 10, t.length, 4, rfl, by omega, by decide, by omega, by decide, 0, _, rfl, rfl, wide_mul (a := 1) (b := 1000) (by decide) ?_ (by decide) (by decide) (by decide), ?_⟩
        · rw [Int.natAbs_pow]
          exact Nat.lt_of_le_of_lt (Nat.pow_le_pow_right (by decide) hl) (by decide)
        have e1 : (0 : Int) * 10 ^ t.length = 0 := Int.zero_mul _
        refine ⟨.str t, rfl, t, _, rfl, intText_digits (fig_dig hf) hne (by omega), by omega, _, _, rfl, rfl, .inr ⟨rfl, some (.int 0), some (.str t), ?_⟩, rfl⟩
        show [some (V.str t), some (V.int (0 * 10 ^ t.length + ((valL (tl t) : Nat) : Int))), some (.int 0), some (.str t)] = _
        rw [e1, Int.zero_add]
      · exact absurd h (by decide)
    · rintro σ H3 ⟨h, rfl⟩
      rcases h with ⟨h, _⟩ | ⟨_, y2, y3, rfl⟩
      · exact absurd h (by decide)
      · exact ⟨_, rfl, q⟩
theorem sz_num2 {q : Rat} (h : Sz 200 q) : q.num.natAbs < 10 ^ 64 := Nat.lt_of_lt_of_le h.1 (by decide)
theorem sz_den2 {q : Rat} (h : Sz 200 q) : ((q.den : Nat) : Int).natAbs < 10 ^ 64 := by
  rw [Int.natAbs_natCast]
  exact Nat.lt_of_lt_of_le h.2 (by decide)
variable {fg : Addr} {gg : FuncData}
def spPStr2 (C : Addr) : Sp := fun vs H Q _ => ∃ a q, vs = [.ref a] ∧ PA C H a q ∧ Sz 200 q ∧ ∀ H', Same H H' → Q (.str (stx q)) H'
theorem scPStr2 : FnScope ["self"] ["self"] (defScope sPStr) := ⟨rfl, rfl, rfl, by decide +kernel, rfl, by decide +kernel, by decide +kernel⟩
theorem ok_pstr2 {f : Addr} {fd : FuncData} {k : Nat} (F : Fun K "__str__" "Part.__str__" sPStr f fd) (Nf : Fn K mg "figures_of" sFigures ["number"] fg gg) (T : TxtP K mg C) (TF : TxtF mg) : FnOk P w K mg base CX0 (k + 2) f fd ["self"] (spPStr2 C) := by
  have Gf : FnOk P w K mg base CX0 (k + 1) fg gg ["number"] spFig := ok_figures Nf.F T TF
  refine F.ok scPStr2 (fun vs H Q E h => ?_) (fun cdv A outer s H vs Q E hr h => ?_)
  · obtain ⟨a, q, rfl, _⟩ := h
    rfl
  · obtain ⟨a, q, rfl, ⟨dx, ha⟩, hz, h⟩ := h
    refine ⟨_, pss_cons (ps_if (pt_cmpR op_eq (pe_fld (pv 0) rfl) pe_int (nomark _)) (pss_one (ps_ret (pe_joined1 (pe_fmt (pe_call Gf hr (by rfl) Nf.g Nf.F.kp Nf.b .nil pass0 (pa_cons (pe_fld (pv 0) rfl) pa_nil)))))) pss_nil)
      (pss_one (ps_ret (pe_joined (.cons (pe_fmt (pe_call Gf hr (by rfl) Nf.g Nf.F.kp Nf.b .nil pass0 (pa_cons (pe_fld (pv 0) rfl) pa_nil))) (.cons pe_str (.cons (pe_fmt (pe_call Gf hr (by rfl) Nf.g Nf.F.kp Nf.b .nil pass0 (pa_cons (pe_fld (pv 0) rfl) pa_nil))) .nil)))))), ?_⟩
    have b1 := tI_len (sz_num2 hz)
    have b2 := tI_len (sz_den2 hz)
    have sl : sizeLine = 16777216 := by decide
    have e0 : (Str.empty : Str).length = 0 := by decide
    have e1 : ("/" : Str).length = 1 := by decide
    refine ⟨.ref a, rfl, a, C, dx, _, _, rfl, ha, T.ins.cl, T.nB, pf_bottom q, rfl, _, rfl, ite2 (fun z => ?_) (fun z => ?_)⟩
    · have z : (V.int (q.den : Int)) = .int 1 := of_decide_eq_true z
      have z1 : q.den = 1 := by injection z with z; omega
      refine ⟨.ref a, rfl, a, C, dx, _, _, rfl, ha, T.ins.cl, T.nT, pf_top q, q.num, rfl, sz_num2 hz, fun H1 s1 => .inl ⟨_, rfl, by rw [sl]; omega, ?_⟩⟩
      have y := h H1 s1
      unfold stx at y
      rw [if_pos z1] at y
      exact y
    · have z1 : ¬ q.den = 1 := fun e => z (decide_eq_true (by rw [e]; rfl))
      refine ⟨.ref a, rfl, a, C, dx, _, _, rfl, ha, T.ins.cl, T.nT, pf_top q, q.num, rfl, sz_num2 hz, fun H1 s1 => .inl ⟨_, rfl, by rw [sl]; omega, _, rfl, by simp only [strLen_append, e0, sl]; omega, ?_⟩⟩
      refine ⟨"/", rfl, by simp only [strLen_append, e0, e1, sl]; omega, ?_⟩
      refine ⟨.ref a, rfl, a, C, dx, _, _, rfl, s1 _ _ ha, T.ins.cl, T.nB, pf_bottom q, (q.den : Int), rfl, sz_den2 hz, fun H2 s2 => .inl ⟨_, rfl, by rw [sl]; omega, _, rfl, by simp only [strLen_append, e0, e1, sl]; omega, ?_⟩⟩
      have y := h H2 (s1.trans s2)
      unfold stx at y
      rw [if_neg z1, ← empty_app (tI q.num)] at y
      exact y
/-! ### read_part -/
def NoText (K : PySem.W.Frag) (H : Hp) (x : V) : Prop := ∃ t, TyX K H x t ∧ PySem.W.kitOne K t (.type "str") = some false
variable {fi f1 f2 fs NN : Addr} {gi g1 g2 gs : FuncData} {d1 : Value}
structure RdD (K : PySem.W.Frag) (mg : Str → Option Value) (C fi f1 f2 : Addr) (gi g1 g2 : FuncData) (d1 : Value) (fs : Addr) (gs : FuncData) (NN : Addr) : Prop where
  M : Mks K mg C fi f1 f2 gi g1 g2 d1
  pw : ∃ r s, Fn K mg "power" sPower ["number", "many"] r s
  fg : ∃ r s, Fn K mg "figures_of" sFigures ["number"] r s
  isf : ∃ r s, Fn K mg "is_figures" sIsFig ["text"] r s
  nof : ∃ r s, Fn K mg "number_of" sNumOf ["figures"] r s
  sc : FmtC K C fs
  Fs : Fun K "__str__" "Part.__str__" sPStr fs gs
  bs : Binds K gs ["self"] []
  gNN : mg "NoNumber" = some (.ref NN)
  N : Xc K NN bmV "ValueError.__new__"
def spRead (K : PySem.W.Frag) (C NN : Addr) : Sp := fun vs H Q E => ∃ x, vs = [x] ∧ ((NoText K H x ∧ E (.ref NN) none H) ∨
  (∃ t : Str, x = .str t ∧ t.length ≤ 60 ∧ ((∃ q, rdL (tl t) = some q ∧ New C H q Q) ∨ (rdL (tl t) = none ∧ ∀ H', Same H H' → E (.ref NN) none H'))))
abbrev nRead : List Str := ["text", "head", "slash", "tail", "top_figures", "bottom_figures", "top", "part"]
theorem scRead : FnScope nRead ["text"] (defScope sRead) := ⟨rfl, rfl, rfl, by decide +kernel, rfl, by decide +kernel, by decide +kernel⟩
theorem ok_read {f : Addr} {fd : FuncData} {k : Nat} (F : Fun K "read_part" "read_part" sRead f fd) (D : RdD K mg C fi f1 f2 gi g1 g2 d1 fs gs NN) (T : TxtP K mg C) (TF : TxtF mg) (TN : TxtN mg) : FnOk P w K mg base (L2.CX P w) (k + 5) f fd ["text"] (spRead K C NN) := by
  obtain ⟨r1, s1, R1⟩ := D.pw
  obtain ⟨r2, s2, R2⟩ := D.fg
  obtain ⟨r3, s3, R3⟩ := D.isf
  obtain ⟨r4, s4, R4⟩ := D.nof
  have GI : FnOk P w K mg base CX0 (k + 3) fi gi ["self", "top", "bottom"] (spInit C) := ok_init D.M.F D.M.N1 D.M.N2 T
  have G3 : FnOk P w K mg base CX0 (k + 4) r3 s3 ["text"] spIsFig := ok_isfig R3.F
  have G4 : FnOk P w K mg base CX0 (k + 4) r4 s4 ["figures"] spNumOf := ok_numof R4.F R1 T TN
  have GS : FnOk P w K mg base CX0 (k + 2) fs gs ["self"] (spPStr2 C) := ok_pstr2 D.Fs R2 T TF
  refine F.okX scRead (fun vs H Q E h => ?_) (fun cdv A outer s H vs Q E hr h => ?_)
  · obtain ⟨x, rfl, _⟩ := h
    rfl
  · obtain ⟨x, rfl, h⟩ := h
    have nd := scRead.nd
    rcases h with ⟨⟨ty, hx, kx⟩, e⟩ | ⟨t, rfl, hl, h⟩
    · refine ⟨_, pss_cons (ps_if (pt_not (pt_val (pe_callB call_isi (by rfl) T.isi (by decide +kernel) (pa_cons (pv 0) (pa_cons (pe_bltn (v := .ty "str") (by rfl) TN.str (by decide +kernel) rfl) pa_nil)))))
        (pss_one (ps_raise rfl (takes_of rfl rfl rfl rfl) (pmk_own PySem.F.excBase_ValueError D.N.x D.gNN D.N.k (raises_own D.N.be D.N.ty) rfl))) pss_nil) pss_never, ?_⟩
      exact ⟨x, rfl, x, .ty "str", ty, .type "str", false, rfl, .ty _, hx, kx, false, rfl, e⟩
    · have sl : t.length ≤ sizeLine := Nat.le_trans hl (by decide)
      have e47 : (("/" : Str).length == 0) = false := by decide
      have e45 : tl ("-" : Str) = [45] := by decide +kernel
      have e48 : tl ("0" : Str) = [48] := by decide +kernel
      have hv1 : ∀ L : List Nat, figL L = true → L.length ≤ 60 → valL L < 2 ^ 200 := fun L hf hl => Nat.lt_of_lt_of_le (val_lt L (fig_all hf)) (Nat.le_trans (Nat.pow_le_pow_right (by decide) hl) (by decide))
      obtain ⟨tY, pY, hY⟩ : ∃ tY, PSs (cxOf (L2.CX P w) P w K mg base nRead "read_part" (defScope sRead) f cdv A outer s H E) ((defBody sRead).drop 7) tY ∧ ∀ (D : Ends) (H1 : Hp) (n : Int) (bs : Str) (y1 y2 y3 y4 : Option V), D.rt = Q → Same H H1 → figL (tl bs) = true → bs.length ≤ 60 → valL (tl bs) ≠ 0 → n.natAbs < 2 ^ 200 →
          (tl (stx (Rat.divInt n (valL (tl bs) : Int))) = tl t → rdL (tl t) = some (Rat.divInt n (valL (tl bs) : Int))) → (tl (stx (Rat.divInt n (valL (tl bs) : Int))) ≠ tl t → rdL (tl t) = none) →
          tY D [some (.str t), y1, y2, y3, y4, some (.str bs), some (.int n), none] H1 := by
        refine ⟨_, pss_cons (ps_set (i := 7) nd rfl (.inl rfl) (pe_make D.M.M GI hr (by rfl) T.mgC D.M.b3 .nil pass0 (pa_cons (pv 6) (pa_cons (pe_call G4 hr (by rfl) R4.g R4.F.kp R4.b .nil pass0 (pa_cons (pv 5) pa_nil)) pa_nil))))
        (pss_cons (ps_if (pt_cmpR op_ne (pe_callTy (cr_strOwn D.sc.str D.sc.fn GS (hr.mono (by omega)) D.bs pass0) (by rfl) TN.str (by decide +kernel) (pa_cons (pv 7) pa_nil)) (pv 0) (nomark _))
          (pss_one (ps_raise rfl (takes_of rfl rfl rfl rfl) (pmk_own PySem.F.excBase_ValueError D.N.x D.gNN D.N.k (raises_own D.N.be D.N.ty) rfl))) pss_nil)
        (pss_one (ps_ret (pv 7)))), ?_⟩
        intro D0 H1 n bs y1 y2 y3 y4 eD sm f2 lbs bnz hn yes non
        refine ⟨.int n, rfl, .str bs, rfl, bs, rfl, f2, lbs, fun p dx np ndx ne => ?_⟩
        have lm := hv1 _ f2 (by rw [← len_tl]; exact lbs)
        have mz : ((valL (tl bs) : Nat) : Int) ≠ 0 := by omega
        refine ⟨p, dx, n, _, rfl, mz, by rw [Int.natAbs_natCast]; exact Nat.lt_of_lt_of_le lm (Nat.pow_le_pow_right (by decide) (by decide)), upd_same, rfl, ?_⟩
        have zq : Sz 200 (Rat.divInt n ((valL (tl bs) : Nat) : Int)) := sz_divInt mz hn (by rw [Int.natAbs_natCast]; exact lm)
        rw [upd_upd]
        obtain ⟨s1, p1⟩ := mk_facts (C := C) (q := Rat.divInt n ((valL (tl bs) : Nat) : Int)) np ndx
        generalize upd (upd H1 dx (.own p)) p (.ins C dx (pf (Rat.divInt n ((valL (tl bs) : Nat) : Int)))) = H2 at s1 p1
        generalize Rat.divInt n ((valL (tl bs) : Nat) : Int) = q at p1 zq yes non
        obtain ⟨dy, e1⟩ := id p1
        refine ⟨.ref p, rfl, p, dy, _, rfl, e1, p, q, rfl, p1, zq, fun H3 s3 => ⟨stx q, rfl, .str t, rfl, rfl, _, rfl, ?_⟩⟩
        have s03 := (sm.trans s1).trans s3
        rw [str_dec]
        cases z : tl (stx q) == tl t with
        | true =>
          have z1 : tl (stx q) = tl t := by simpa using z
          refine iteF ⟨.ref p, rfl, ?_⟩
          rw [eD]
          have y := yes z1
          rcases h with ⟨q2, e2, h⟩ | ⟨e2, _⟩
          · rw [y] at e2
            have := Option.some.inj e2
            subst this
            exact h H3 p s03 (sm.free np) (p1.same s3)
          · rw [y] at e2
            exact absurd e2 (by simp)
        | false =>
          have z1 : tl (stx q) ≠ tl t := fun e => by rw [e] at z; simp at z
          refine iteT ?_
          have y := non z1
          rcases h with ⟨q2, e2, _⟩ | ⟨_, h⟩
          · rw [y] at e2
            exact absurd e2 (by simp)
          · exact h H3 s03
      obtain ⟨tX, pX, hX⟩ : ∃ tX, PSs (cxOf (L2.CX P w) P w K mg base nRead "read_part" (defScope sRead) f cdv A outer s H E) ((defBody sRead).drop 4) tX ∧ ∀ (D : Ends) (H1 : Hp) (hd tf bs : Str) (y2 y3 : Option V), D.rt = Q → Same H H1 → tl hd = (cutL (tl t)).1 → tl tf = fgs (cutL (tl t)).1 → tl bs = (cutL (tl t)).2.getD [49] → tf.length ≤ 60 → bs.length ≤ 60 →
          tX D [some (.str t), some (.str hd), y2, y3, some (.str tf), some (.str bs), none, none] H1 := by
        refine ⟨_, pss_cons (ps_if (PW.pt (pw_or (pt_not (pt_val (pe_call G3 hr (by rfl) R3.g R3.F.kp R3.b .nil pass0 (pa_cons (pv 4) pa_nil)))) (pw_or (pt_not (pt_val (pe_call G3 hr (by rfl) R3.g R3.F.kp R3.b .nil pass0 (pa_cons (pv 5) pa_nil)))) (pw_or1 (pt_cmpR op_eq (pv 5) pe_str (nomark _))))))
          (pss_one (ps_raise rfl (takes_of rfl rfl rfl rfl) (pmk_own PySem.F.excBase_ValueError D.N.x D.gNN D.N.k (raises_own D.N.be D.N.ty) rfl))) pss_nil)
        (pss_cons (ps_set (i := 6) nd rfl (.inl rfl) (pe_call G4 hr (by rfl) R4.g R4.F.kp R4.b .nil pass0 (pa_cons (pv 4) pa_nil)))
        (pss_cons (ps_if (pt_val (pe_m1 PySem.F.slot_str_startswith PySem.F.type_str_startswith mt_startswith (pv 1) pe_str)) (pss_one (ps_set (i := 6) nd rfl (.inl rfl) (pe_un un_neg (pv 6)))) pss_nil)
        pY)), ?_⟩
        intro D0 H1 hd tf bs y2 y3 eD sm ehd etf ebs ltf lbs
        have eN : (∃ q, rdL (tl t) = some q ∧ New C H q Q) ∨ rdL (tl t) = none ∧ ∀ H' : Hp, Same H H' → E (.ref NN) none H' := h
        have no : rdL (tl t) = none → E (.ref NN) none H1 := fun e => by
          rcases h with ⟨q, e2, _⟩ | ⟨_, h⟩
          · rw [e] at e2
            exact absurd e2 (by simp)
          · exact h H1 sm
        refine ⟨.str tf, rfl, tf, rfl, _, rfl, ?_⟩
        cases f1 : figL (tl tf) with
        | false => exact iteT (no (read_no (.inl (by rw [← etf]; exact f1))))
        | true =>
          refine iteF ⟨.str bs, rfl, bs, rfl, _, rfl, ?_⟩
          cases f2 : figL (tl bs) with
          | false => exact iteT (no (read_no (.inr (.inl (by rw [← ebs]; exact f2)))))
          | true =>
            refine iteF ⟨.str bs, rfl, rfl, _, rfl, ?_⟩
            rw [str_dec, e48]
            cases f3 : tl bs == [48] with
            | true => exact iteT (no (read_no (.inr (.inr (by rw [← ebs]; simpa using f3)))))
            | false =>
              have hA : figL (fgs (cutL (tl t)).1) = true := by rw [← etf]; exact f1
              have hB : figL ((cutL (tl t)).2.getD [49]) = true := by rw [← ebs]; exact f2
              have hZ : (cutL (tl t)).2.getD [49] ≠ [48] := by rw [← ebs]; intro e; rw [e] at f3; exact absurd f3 (by decide)
              obtain ⟨yes, non⟩ := read_is (L := tl t) hA hB hZ rfl
              refine iteF ⟨.str tf, rfl, tf, rfl, f1, ltf, ?_⟩
              have hs := starts_is hd "-" 45 e45
              rw [ehd] at hs
              have sg : sgL (cutL (tl t)).1 = if miB (cutL (tl t)).1 = true then -((valL (fgs (cutL (tl t)).1) : Nat) : Int) else ((valL (fgs (cutL (tl t)).1) : Nat) : Int) := rfl
              rw [etf]
              refine ⟨.str hd, rfl, ⟨hd, rfl⟩, hd, "-", rfl, rfl, _, rfl, ?_⟩
              rw [hs]
              have lF := hv1 _ f1 (by rw [← len_tl]; exact ltf)
              rw [etf] at lF
              have nz : valL (tl bs) ≠ 0 := fun e => by rw [(val48 f2).mp e] at f3; exact absurd f3 (by decide)
              rw [ebs] at nz
              cases hm : ((cutL (tl t)).1.head? == some 45) with
              | true =>
                rw [show miB (cutL (tl t)).1 = true from hm, if_pos rfl] at sg
                rw [sg] at yes non
                refine iteT ⟨_, rfl, _, rfl, ?_⟩
                exact hY D0 H1 _ bs _ _ _ _ eD sm f2 lbs (by rw [ebs]; exact nz) (by rw [Int.natAbs_neg, Int.natAbs_natCast]; exact lF) (by rw [ebs]; exact yes) (by rw [ebs]; exact non)
              | false =>
                rw [show miB (cutL (tl t)).1 = false from hm, if_neg (by decide)] at sg
                rw [sg] at yes non
                refine iteF ?_
                exact hY D0 H1 _ bs _ _ _ _ eD sm f2 lbs (by rw [ebs]; exact nz) (by rw [Int.natAbs_natCast]; exact lF) (by rw [ebs]; exact yes) (by rw [ebs]; exact non)
      refine ⟨_, pss_cons (ps_if (pt_not (pt_val (pe_callB call_isi (by rfl) T.isi (by decide +kernel) (pa_cons (pv 0) (pa_cons (pe_bltn (v := .ty "str") (by rfl) TN.str (by decide +kernel) rfl) pa_nil)))))
        (pss_one ps_never) pss_nil)
        (pss_cons (ps_asg (pe_partition (pv 0) pe_str) (pg_tup (by rfl) (pgs_cons (pg_name (i := 1) nd rfl (.inl rfl)) (pgs_cons (pg_name (i := 2) nd rfl (.inl rfl)) (pgs_cons (pg_name (i := 3) nd rfl (.inl rfl)) pgs_nil)))))
        (pss_cons (ps_set (i := 4) nd rfl (.inl rfl) (pe_m1 PySem.F.slot_str_removeprefix PySem.F.type_str_removeprefix mt_removeprefix (pv 1) pe_str))
        (pss_cons (ps_set (i := 5) nd rfl (.inl rfl) (pe_ifExp (pt_truth (pv 2) (by intro _; rfl)) (pv 3) pe_str)) pX))), ?_⟩
      refine ⟨.str t, rfl, .str t, .ty "str", .type "str", .type "str", true, rfl, .ty _, .base (.str _), kit_ty (by decide +kernel), true, rfl, iteF ?_⟩
      refine ⟨.str t, rfl, ⟨t, rfl⟩, t, "/", rfl, rfl, e47, sl, fun p np => ?_⟩
      have hp := part_is t
      have hA : tl (Txt.partition t "/").1 = (cutL (tl t)).1 := by rw [hp]; rfl
      have hT : ∀ T, (cutL (tl t)).2 = some T → (Txt.partition t "/").2.1 = "/" ∧ tl (Txt.partition t "/").2.2 = T := fun T e => by rw [hp, e]; exact ⟨rfl, rfl⟩
      have hN : (cutL (tl t)).2 = none → (Txt.partition t "/").2.1 = Str.empty := fun e => by rw [hp, e]
      have lA : (cutL (tl t)).1.length ≤ 60 := by
        have := cut_len (tl t)
        rw [← len_tl] at this
        omega
      generalize (Txt.partition t "/").1 = hd at hA
      generalize (Txt.partition t "/").2.1 = sla at hT hN
      generalize (Txt.partition t "/").2.2 = tai at hT
      refine ⟨p, _, rfl, SqT.of upd_same, rfl, _, _, rfl, ?_⟩
      refine ⟨_, _, rfl, _, _, rfl, rfl, ?_⟩
      refine ⟨.str hd, rfl, ⟨hd, rfl⟩, hd, "-", rfl, rfl, by rw [len_tl, hA]; exact Nat.le_trans lA (by decide), ?_⟩
      have etf := rempre_is hd
      rw [hA] at etf
      have ltf : (Txt.removeprefix hd "-").length ≤ 60 := by
        rw [len_tl, etf]
        unfold fgs
        split
        · rw [List.length_tail]; omega
        · exact lA
      generalize Txt.removeprefix hd "-" = tf at etf ltf
      have sm := same_upd (o := .tup [V.str hd, V.str sla, V.str tai]) np
      cases hc : (cutL (tl t)).2 with
      | none =>
        have := hN hc
        subst this
        refine ⟨.str Str.empty, rfl, false, ⟨by decide, rfl⟩, iteF ?_⟩
        exact hX _ _ hd tf "1" (some (.str Str.empty)) (some (.str tai)) rfl sm hA etf (by rw [hc]; decide +kernel) ltf (by decide)
      | some B =>
        obtain ⟨e1, e2⟩ := hT B hc
        subst e1
        refine ⟨.str "/", rfl, true, ⟨by decide, rfl⟩, iteT ⟨.str tai, rfl, ?_⟩⟩
        have lB := cut_len2 _ _ hc
        exact hX _ _ hd tf tai (some (.str "/")) (some (.str tai)) rfl sm hA etf (by rw [hc]; exact e2) ltf (by rw [len_tl, e2]; rw [len_tl] at hl; omega)
end
end Hop

set_option Elab.async false
set_option linter.all false
set_option maxRecDepth 100000
set_option exponentiation.threshold 200000
namespace Hop
open PySem L2 HopR TL
open C8 (InsC call_isC)
abbrev sLFig : Stmt := top 25
abbrev sLRead : Stmt := top 26
abbrev sLTold : Stmt := top 27
abbrev sLRight : Stmt := top 28
abbrev sBent : Stmt := top 29
abbrev sLaw : Stmt := top 30
theorem shaped_nil8 : SeqAt.shaped (.list []) = true := by decide +kernel
theorem lay_signs : ∀ l : List Nat, (∀ c ∈ l, c < 1114112) → PyData.canLayAll0 (l.map fun c => PyData.str ⟨#[c]⟩) = true ∧ PyData.depthAll (l.map fun c => PyData.str ⟨#[c]⟩) = 0
  | [], _ => ⟨rfl, rfl⟩
  | c :: l, h => by
    obtain ⟨h1, h2⟩ := lay_signs l fun x m => h x (List.mem_cons_of_mem _ m)
    have hc : PyData.strOk ⟨#[c]⟩ = true := by
      unfold PyData.strOk
      have := h c List.mem_cons_self
      simp [this]
    refine ⟨?_, ?_⟩
    · simp only [List.map_cons, PyData.canLayAll0, PyData.canLay0, hc, h1, Bool.and_self]
    · simp only [List.map_cons, PyData.depthAll, PyData.depth, h2, Nat.max_self]
theorem shaped_signs (l : List Nat) (h : ∀ c ∈ l, c < 1114112) : SeqAt.shaped (.list (l.map fun c => PyData.str ⟨#[c]⟩)) = true := by
  obtain ⟨h1, h2⟩ := lay_signs l h
  unfold SeqAt.shaped
  rw [Bool.and_eq_true]
  refine ⟨by simp only [PyData.canLay0, h1], decide_eq_true ?_⟩
  simp only [PyData.depth, h2]
  omega
theorem dp_signs {K : PySem.W.Frag} {H : Hp} : ∀ l : List Nat, DpAll K H (l.map fun c => V.str ⟨#[c]⟩) (l.map fun c => PyData.str ⟨#[c]⟩)
  | [] => .nil
  | c :: r => .cons (.str _) (dp_signs r)
theorem eqv_none (l : List Nat) : PyData.eqv (.list (l.map fun c => PyData.str ⟨#[c]⟩)) (.list []) = l.isEmpty := by
  cases l <;> rfl

/-- a text that is read: short, plain signs -/
structure Tx (t : Str) : Prop where
  len : t.length ≤ 60
  asc : ∀ c ∈ tl t, c < 128
theorem Tx.of {t : Str} {L : List Nat} (e : tl t = L) (hl : L.length ≤ 60) (h : ∀ c ∈ L, c < 128) : Tx t := ⟨by rw [len_tl, e]; exact hl, by rw [e]; exact h⟩
theorem sgn10 : ("0123456789" : Str).cps.toList = [48, 49, 50, 51, 52, 53, 54, 55, 56, 57] := by decide +kernel
theorem dig_in (c : Nat) : decide (c ∈ ("0123456789" : Str).cps.toList) = digB c := by
  rw [sgn10]
  unfold digB
  by_cases h : 48 ≤ c ∧ c ≤ 57
  · rw [decide_eq_true h.1, decide_eq_true h.2, decide_eq_true]
    · rfl
    · have : c = 48 ∨ c = 49 ∨ c = 50 ∨ c = 51 ∨ c = 52 ∨ c = 53 ∨ c = 54 ∨ c = 55 ∨ c = 56 ∨ c = 57 := by omega
      rcases this with rfl | rfl | rfl | rfl | rfl | rfl | rfl | rfl | rfl | rfl <;> decide
  · rw [decide_eq_false fun m => h (by
      rcases List.mem_cons.mp m with rfl | m; · decide
      rcases List.mem_cons.mp m with rfl | m; · decide
      rcases List.mem_cons.mp m with rfl | m; · decide
      rcases List.mem_cons.mp m with rfl | m; · decide
      rcases List.mem_cons.mp m with rfl | m; · decide
      rcases List.mem_cons.mp m with rfl | m; · decide
      rcases List.mem_cons.mp m with rfl | m; · decide
      rcases List.mem_cons.mp m with rfl | m; · decide
      rcases List.mem_cons.mp m with rfl | m; · decide
      rcases List.mem_cons.mp m with rfl | m; · decide
      exact absurd m List.not_mem_nil)]
    symm
    rw [Bool.and_eq_false_iff]
    by_cases h1 : 48 ≤ c
    · exact .inr (decide_eq_false fun e => h ⟨h1, e⟩)
    · exact .inl (decide_eq_false h1)
def bads (l : List Nat) : List Nat := l.filter fun c => !digB c
theorem bads_all (l : List Nat) : (bads l).isEmpty = l.all digB := by
  unfold bads
  induction l with
  | nil => rfl
  | cons c l ih =>
    rw [List.filter_cons, List.all_cons]
    cases h : digB c with
    | true => simpa using ih
    | false => rfl
section
variable {P : Program} {w : World} {K : PySem.W.Frag} {mg : Str → Option Value} {base : Heap} {C : Addr}
def spLFig : Sp := fun vs H Q _ => ∃ t : Str, vs = [.str t] ∧ Tx t ∧ ∀ H', Same H H' → Q (.bl (figL (tl t))) H'
abbrev nLFig : List Str := ["_law_text_here", "_law_sign"]
theorem scLFig : FnScope nLFig ["_law_text_here"] (defScope sLFig) := ⟨rfl, rfl, rfl, by decide +kernel, rfl, by decide +kernel, by decide +kernel⟩
theorem ok_lfig {f : Addr} {fd : FuncData} {k : Nat} (F : Fun K "_law_is_figures" "_law_is_figures" sLFig f fd) : FnOk P w K mg base CX0 (k + 1) f fd ["_law_text_here"] spLFig := by
  refine F.ok scLFig (fun vs H Q E h => ?_) (fun cdv A outer s H vs Q E hr h => ?_)
  · obtain ⟨t, rfl, _⟩ := h
    rfl
  · obtain ⟨t, rfl, ht, q⟩ := h
    have nd := scLFig.nd
    have hu := hu66 hr
    have hu64 : (A.deeper (PyProof.Rows.envOfC "_law_is_figures" (defScope sLFig) s.heap.objs.size f cdv)).units + 64 < cLine := by omega
    refine ⟨_, pss_cons (ps_if (PW.pt (pw_or (pt_cmpR op_eq (pv 0) pe_str (nomark _)) (pw_or1 (pt_cmpR (op_neD hu64) (pe_lc (own := [("_law_sign", 1)]) (g := gName 1) rfl nd (pi_str (pv 0)) (blkOk_by (own := [("_law_sign", 1)]) (N := nLFig) (sc := defScope sLFig) (by decide +kernel)) (fun _ _ _ _ _ => pg_name (i := 1) nd rfl (Or.inl rfl)) (fun _ _ _ _ _ => pts_one (pt_cmpR op_notIn_sign (pv 1) pe_str (by rfl))) (fun _ _ _ _ _ => pv 1)) (pe_lst pa_nil) (nomark _))))) (pss_one (ps_ret pe_bl)) pss_nil)
      (pss_one (ps_ret (pe_or (pe_cmpR op_eq (pv 0) pe_str (nomark _)) (pe_one (pe_cmpR op_ne (pe_ix ix_str (pv 0) pe_int (fun _ _ => rfl)) pe_str (nomark _)))))), ?_⟩
    have e0 : tl ("" : Str) = [] := by decide +kernel
    have e48 : tl ("0" : Str) = [48] := by decide +kernel
    have ef : figL (tl t) = (!(tl t).isEmpty && (tl t).all digB && (tl t == [48] || !((tl t).head? == some 48))) := rfl
    have lz : t.cps.toList.length = t.length := Array.length_toList
    have hl := ht.len
    refine ⟨.str t, rfl, rfl, _, rfl, ?_⟩
    rw [str_dec, e0]
    cases hc : tl t with
    | nil =>
      rw [hc] at ef q
      rw [ef] at q
      exact iteT (q H (Same.refl _))
    | cons c0 r0 =>
      refine iteF ⟨.str t, rfl, t, rfl, fun D nD => ?_⟩
      refine lc_it walk_str (fun i H3 => Same H H3 ∧ H3 D = some (.lst ((bads (t.cps.toList.take i)).map fun c => V.str ⟨#[c]⟩))) ⟨same_upd nD, upd_same⟩ (fun _ _ _ _ => trivial) ?_ ?_
      · rintro i x H3 H' hi ⟨sm, eD⟩ ⟨rfl, c, hc, rfl⟩
        have et : bads (t.cps.toList.take (i + 1)) = bads (t.cps.toList.take i) ++ bads [c] := by
          unfold bads
          rw [List.take_add_one, Array.getElem?_toList, hc, List.filter_append]
          rfl
        refine ⟨rfl, .str ⟨#[c]⟩, rfl, c, _, rfl, rfl, _, rfl, ?_⟩
        rw [dig_in]
        cases ho : digB c with
        | true =>
          refine iteF ⟨sm, ?_⟩
          rw [et, eD]
          unfold bads
          simp [ho]
        | false =>
          refine iteT ⟨.str ⟨#[c]⟩, rfl, _, eD, ?_, same_new nD sm, ?_⟩
          · rw [List.length_map]
            have sl : sizeLine = 16777216 := by decide
            have l1 := List.length_filter_le (fun c => !digB c) (t.cps.toList.take i)
            have l2 := List.length_take_le i t.cps.toList
            have hi : i < t.length := hi
            unfold bads
            omega
          · rw [upd_same, et]
            unfold bads
            simp [ho]
      rintro H3 ⟨sm, eD⟩
      rw [List.take_of_length_le (by rw [lz]; exact Nat.le_refl _)] at eD
      refine ⟨Nat.zero_le _, fun pe npe => ⟨.list ((bads t.cps.toList).map fun c => PyData.str ⟨#[c]⟩), .list [], .lst (SqL.of (same_upd npe _ _ eD)) (dp_signs _), .lst (SqL.of upd_same) .nil, shaped_signs _ (fun c m => Nat.lt_trans (ht.asc c (List.mem_filter.mp m).1) (by decide)), shaped_nil8, _, rfl, ?_⟩⟩
      rw [eqv_none, bads_all]
      have s4 := sm.trans (same_upd (o := .lst []) npe)
      generalize upd H3 pe (.lst []) = H4 at s4
      have q := q H4 s4
      cases ha : t.cps.toList.all digB with
      | false =>
        rw [show (tl t).all digB = false from ha] at ef
        rw [ef] at q
        refine iteT ?_
        have e : (!(tl t).isEmpty && false && (tl t == [48] || !((tl t).head? == some 48))) = false := by simp
        rw [e] at q
        exact q
      | true =>
        rw [show (tl t).all digB = true from ha, hc] at ef
        rw [hc, ef] at q
        refine iteF ⟨.str t, rfl, rfl, _, rfl, ?_⟩
        rw [str_dec, e48, hc]
        cases h3 : (c0 :: r0 == [48]) with
        | true =>
          rw [h3] at q
          exact iteT q
        | false =>
          rw [h3] at q
          refine iteF ⟨.str t, rfl, t, 0, c0, rfl, rfl, Nat.le_trans hl (by decide), ?_, rfl, ?_⟩
          · exact atI_nat (j := 0) (by show (tl t)[0]? = _; rw [hc]; rfl)
          · have e5 : (!decide (V.str (⟨#[c0]⟩ : Str) = V.str "0")) = !((c0 :: r0).head? == some 48) := by
              rw [str_dec, e48]
              show (!([c0] == [48])) = !(some c0 == some 48)
              by_cases z : c0 = 48
              · subst z; rfl
              · have z1 : ([c0] == [48]) = false := by simpa using z
                have z2 : (some c0 == some 48) = false := by simpa using z
                rw [z1, z2]
            rw [e5]
            exact q
end
end Hop

set_option Elab.async false
set_option linter.all false
set_option maxRecDepth 100000
set_option exponentiation.threshold 200000
namespace Hop
open PySem L2 HopR TL
open C8 (InsC call_isC)
theorem sIx_none (n d : Nat) : HT.sIx n d none = d := rfl
theorem sIx_pos (n d : Nat) (i : Nat) : HT.sIx n d (some (i : Int)) = min i n := by
  show (if (i : Int) < 0 then ((i : Int) + (n : Int)).toNat else min (i : Int).toNat n) = _
  rw [if_neg (by omega)]
  simp
theorem cut_tl (z : Str) (lo hi : Option Int) : tl (cutS z lo hi) = ((tl z).drop (HT.sIx z.length 0 lo)).take (HT.sIx z.length z.length hi - HT.sIx z.length 0 lo) := rfl
theorem cut_head (z : Str) (k : Nat) : tl (cutS z none (some (k : Int))) = (tl z).take k := by
  rw [cut_tl, sIx_none, sIx_pos, List.drop_zero, Nat.sub_zero, len_tl]
  by_cases h : k ≤ (tl z).length
  · rw [Nat.min_eq_left h]
  · rw [Nat.min_eq_right (by omega), List.take_length, List.take_of_length_le (by omega)]
theorem cut_from (z : Str) (k : Nat) : tl (cutS z (some (k : Int)) none) = (tl z).drop k := by
  rw [cut_tl, sIx_none, sIx_pos, len_tl]
  by_cases h : k ≤ (tl z).length
  · rw [Nat.min_eq_left h, List.take_of_length_le (by rw [List.length_drop]; omega)]
  · rw [Nat.min_eq_right (by omega), Nat.sub_self, List.take_zero, List.drop_eq_nil_of_le (by omega)]
theorem cut_mi (z : Str) : (tl (cutS z none (some 1)) == [45]) = miB (tl z) := by
  have := cut_head z 1
  rw [show ((1 : Nat) : Int) = 1 from rfl] at this
  rw [this]
  unfold miB
  cases tl z with
  | nil => rfl
  | cons c r =>
    show ([c] == [45]) = (some c == some 45)
    by_cases h : c = 45
    · subst h; rfl
    · have h1 : ([c] == [45]) = false := by simpa using h
      have h2 : (some c == some 45) = false := by simpa using h
      rw [h1, h2]
def bI (b : Bool) : Int := if b = true then 1 else 0
theorem cut_fgs (z : Str) : tl (cutS z (some (bI (miB (tl z)))) none) = fgs (tl z) := by
  unfold fgs
  cases h : miB (tl z) with
  | true =>
    have := cut_from z 1
    show tl (cutS z (some ((1 : Nat) : Int)) none) = _
    rw [this, if_pos rfl]
    cases tl z <;> rfl
  | false =>
    have := cut_from z 0
    show tl (cutS z (some ((0 : Nat) : Int)) none) = _
    rw [this, if_neg (by decide)]
    rfl
theorem den_sg (A : List Nat) (m : Nat) : (Rat.divInt (sgL A) (m : Int)).den = (Rat.divInt ((valL (fgs A) : Nat) : Int) (m : Int)).den := by
  unfold sgL
  split
  · rw [← Rat.neg_divInt]
    rfl
  · rfl
def sgn (b : Bool) : Int := if b = true then -1 else 1
theorem sg_mul (A : List Nat) : ((valL (fgs A) : Nat) : Int) * sgn (miB A) = sgL A := by
  unfold sgL sgn
  cases miB A with
  | true => show ((valL (fgs A) : Nat) : Int) * (-1) = -((valL (fgs A) : Nat) : Int); omega
  | false => show ((valL (fgs A) : Nat) : Int) * 1 = ((valL (fgs A) : Nat) : Int); omega
section
variable {P : Program} {w : World} {K : PySem.W.Frag} {mg : Str → Option Value} {base : Heap} {C : Addr}
theorem cut_mem (L : List Nat) : ∀ c ∈ (cutL L).1, c ∈ L := fun c m => by
  cases h : (cutL L).2 with
  | none => rw [cut_none L h] at m; exact m
  | some T => rw [cut_some L T h]; exact List.mem_append_left _ m
theorem cut_mem2 (L T : List Nat) (h : (cutL L).2 = some T) : ∀ c ∈ T, c ∈ L := fun c m => by
  rw [cut_some L T h]
  exact List.mem_append_right _ (List.mem_cons_of_mem _ m)
theorem fgs_mem (A : List Nat) : ∀ c ∈ fgs A, c ∈ A := fun c m => by
  unfold fgs at m
  split at m
  · exact List.mem_of_mem_tail m
  · exact m
theorem fgs_len (A : List Nat) : (fgs A).length ≤ A.length := by
  unfold fgs
  split
  · rw [List.length_tail]; omega
  · exact Nat.le_refl _
theorem int_fig {x : Str} (h : figL (tl x) = true) (hl : x.length ≤ 60) : intText? x = some ((valL (tl x) : Nat) : Int) := intText_digits (fig_dig h) (fig_ne h) (by omega)
theorem val200 (L : List Nat) (hf : figL L = true) (hl : L.length ≤ 60) : valL L < 2 ^ 200 := Nat.lt_of_lt_of_le (val_lt L (fig_all hf)) (Nat.le_trans (Nat.pow_le_pow_right (by decide) hl) (by decide))
theorem at_sgn (b : Bool) : atI [V.int 1, V.int (-1)] (if b = true then 1 else 0) = some (.int (sgn b)) := by cases b <;> rfl
theorem sgn_one (b : Bool) : (sgn b).natAbs < 2 ^ 1 := by cases b <;> decide
def spLRead : Sp := fun vs H Q _ => ∃ t : Str, vs = [.str t] ∧ Tx t ∧ (∀ H', Same H H' → rdL (tl t) = none → Q .non H') ∧
  ∀ (H' : Hp) (p : Addr) (a b : Int), Same H H' → rdL (tl t) = some (Rat.divInt a b) → b ≠ 0 → b.natAbs < 2 ^ 8000 → H' p = some (.tup [.int a, .int b]) → Q (.ref p) H'
abbrev nLRead : List Str := ["_law_text_here", "_law_top", "_law_stroke", "_law_bottom", "_law_minus", "_law_figures"]
theorem scLRead : FnScope nLRead ["_law_text_here"] (defScope sLRead) := ⟨rfl, rfl, rfl, by decide +kernel, rfl, by decide +kernel, by decide +kernel⟩
theorem ok_lread {f : Addr} {fd : FuncData} {k : Nat} (F : Fun K "_law_read" "_law_read" sLRead f fd) (Nf : ∃ r s, Fn K mg "_law_is_figures" sLFig ["_law_text_here"] r s) (Nl : ∃ r s, Fn K mg "_law_low" sLow ["_law_top", "_law_bottom"] r s) (T : TxtP K mg C) : FnOk P w K mg base CX0 (k + 2) f fd ["_law_text_here"] spLRead := by
  obtain ⟨r1, s1, R1⟩ := Nf
  obtain ⟨r2, s2, R2⟩ := Nl
  have G1 : FnOk P w K mg base CX0 (k + 1) r1 s1 ["_law_text_here"] spLFig := ok_lfig R1.F
  have G2 : FnOk P w K mg base CX0 (k + 1) r2 s2 ["_law_top", "_law_bottom"] spLow := ok_low R2.F T
  refine F.ok scLRead (fun vs H Q E h => ?_) (fun cdv A outer s H vs Q E hr h => ?_)
  · obtain ⟨t, rfl, _⟩ := h
    rfl
  · obtain ⟨t, rfl, ht, qN, qS⟩ := h
    have nd := scLRead.nd
    have hl := ht.len
    have sl : t.length ≤ sizeLine := Nat.le_trans hl (by decide)
    have e47 : (("/" : Str).length == 0) = false := by decide
    have e45 : tl ("-" : Str) = [45] := by decide +kernel
    have e48 : tl ("0" : Str) = [48] := by decide +kernel
    have e0 : tl ("" : Str) = [] := by decide +kernel
    have e1 : tl ("/" : Str) = [47] := by decide +kernel
    have rd : rdL (tl t) = if figL (fgs (cutL (tl t)).1) = false then none else if (miB (cutL (tl t)).1 && fgs (cutL (tl t)).1 == [48]) = true then none else match (cutL (tl t)).2 with
      | none => some (Rat.divInt (sgL (cutL (tl t)).1) 1)
      | some T => rdT (sgL (cutL (tl t)).1) T := rfl
    have lA : (cutL (tl t)).1.length ≤ 60 := by
      have := cut_len (tl t)
      rw [← len_tl] at this
      omega
    have mA := cut_mem (tl t)
    obtain ⟨tX, pX, hX⟩ : ∃ tX, PSs (cxOf CX0 P w K mg base nLRead "_law_read" (defScope sLRead) f cdv A outer s H E).nox ((defBody sLRead).drop 4) tX ∧ ∀ (D : Ends) (H1 : Hp) (hd sla tai tf : Str) (b : Bool), b = miB (cutL (tl t)).1 → D.rt = Q → Same H H1 → tl tf = fgs (cutL (tl t)).1 → tf.length ≤ 60 → ((cutL (tl t)).2 = none → sla = Str.empty) → (∀ B, (cutL (tl t)).2 = some B → sla = "/" ∧ tl tai = B) → figL (fgs (cutL (tl t)).1) = true → (miB (cutL (tl t)).1 && fgs (cutL (tl t)).1 == [48]) = false →
        tX D [some (.str t), some (.str hd), some (.str sla), some (.str tai), some (.bl b), some (.str tf)] H1 := by
      refine ⟨_, (pss_cons (ps_if (pt_cmpR op_eq (pv 2) pe_str (nomark _)) (pss_one (ps_ret (pe_tup (pa_cons (pe_op op_mulW (pe_callTy call_int_str (by rfl) T.int (by decide +kernel) (pa_cons (pv 5) pa_nil)) (pe_ix ix_list (pe_lst (pa_cons pe_int (pa_cons (pe_un un_neg pe_int) pa_nil))) (pe_callTy call_int1 (by rfl) T.int (by decide +kernel) (pa_cons (pv 4) pa_nil)) (fun _ _ => rfl))) (pa_cons pe_int pa_nil))))) pss_nil)
      (pss_cons (ps_if (PW.pt (pw_or (pt_not (pt_val (pe_call G1 hr (by rfl) R1.g R1.F.kp R1.b .nil pass0 (pa_cons (pv 3) pa_nil)))) (pw_or (pt_cmpR op_lt (pe_callTy call_int_str (by rfl) T.int (by decide +kernel) (pa_cons (pv 3) pa_nil)) pe_int (nomark _)) (pw_or1 (pt_cmpR op_ne (pe_ix ix_tup (pe_call G2 hr (by rfl) R2.g R2.F.kp R2.b .nil pass0 (pa_cons (pe_callTy call_int_str (by rfl) T.int (by decide +kernel) (pa_cons (pv 5) pa_nil)) (pa_cons (pe_callTy call_int_str (by rfl) T.int (by decide +kernel) (pa_cons (pv 3) pa_nil)) pa_nil))) pe_int (fun _ _ => rfl)) (pe_callTy call_int_str (by rfl) T.int (by decide +kernel) (pa_cons (pv 3) pa_nil)) (nomark _)))))) (pss_one (ps_ret pe_non)) pss_nil)
      (pss_one (ps_ret (pe_tup (pa_cons (pe_op op_mulW (pe_callTy call_int_str (by rfl) T.int (by decide +kernel) (pa_cons (pv 5) pa_nil)) (pe_ix ix_list (pe_lst (pa_cons pe_int (pa_cons (pe_un un_neg pe_int) pa_nil))) (pe_callTy call_int1 (by rfl) T.int (by decide +kernel) (pa_cons (pv 4) pa_nil)) (fun _ _ => rfl))) (pa_cons (pe_callTy call_int_str (by rfl) T.int (by decide +kernel) (pa_cons (pv 3) pa_nil)) pa_nil))))))), ?_⟩
      intro D H1 hd sla tai tf b eb eD sm etf ltf hN hT fA nz
      subst eb
      rw [fA, nz, if_neg (by decide), if_neg (by decide)] at rd
      have fT : figL (tl tf) = true := by rw [etf]; exact fA
      have iF := int_fig fT ltf
      rw [etf] at iF
      have vF := val200 _ fA (Nat.le_trans (fgs_len _) lA)
      refine ⟨.str sla, rfl, rfl, _, rfl, ?_⟩
      rw [str_dec, e0]
      cases hc : (cutL (tl t)).2 with
      | none =>
        rw [hc] at rd
        have := hN hc
        subst this
        refine iteT ⟨.str tf, rfl, tf, _, rfl, iF, by omega, 1, rfl, (by show 2 ≤ sizeLine; decide), fun l nl => ?_⟩
        have s2 := same_upd (o := .lst [V.int 1, V.int (-1)]) nl
        refine ⟨.bl (miB (cutL (tl t)).1), rfl, .inr ⟨miB (cutL (tl t)).1, rfl, ?_⟩⟩
        refine ⟨l, _, _, _, rfl, rfl, SqL.of upd_same, at_sgn _, _, _, rfl, rfl, wide_mul (a := 200) (b := 1) (by rw [Int.natAbs_natCast]; exact vF) (sgn_one _) (by decide) (by decide) (by decide), ?_⟩
        refine ⟨(by show 2 ≤ sizeLine; decide), fun p2 np2 => ?_⟩
        show D.rt (.ref p2) (upd (upd H1 l (.lst [V.int 1, V.int (-1)])) p2 _)
        rw [eD]
        refine qS _ p2 _ 1 ((sm.trans s2).trans (same_upd np2)) ?_ (by decide) (by decide) upd_same
        rw [rd, sg_mul]
      | some B =>
        rw [hc] at rd
        obtain ⟨rfl, eB⟩ := hT B hc
        have lB : B.length ≤ 60 := by
          have := cut_len2 _ _ hc
          rw [← len_tl] at this
          omega
        have txB : Tx tai := .of eB lB fun c m => ht.asc c (cut_mem2 _ _ hc c m)
        refine iteF ⟨.str tai, rfl, tai, rfl, txB, fun H2 s2 => ⟨figL (tl tai), rfl, ?_⟩⟩
        have s02 := sm.trans s2
        rw [eB]
        have rdt : rdT (sgL (cutL (tl t)).1) B = if figL B = false then none else if valL B < 2 then none else if (Rat.divInt (sgL (cutL (tl t)).1) (valL B : Int)).den = valL B then some (Rat.divInt (sgL (cutL (tl t)).1) (valL B : Int)) else none := rfl
        have rd : rdL (tl t) = rdT (sgL (cutL (tl t)).1) B := rd
        rw [rdt] at rd
        cases fB : figL B with
        | false => exact iteT (by rw [eD]; exact qN H2 s02 (by rw [rd, if_pos fB]))
        | true =>
          rw [if_neg (by rw [fB]; decide)] at rd
          have ltai := txB.len
          have iB := int_fig (x := tai) (by rw [eB]; exact fB) ltai
          rw [eB] at iB
          have vB := val200 _ fB lB
          refine iteF ⟨.str tai, rfl, tai, _, rfl, iB, by omega, _, _, rfl, rfl, _, rfl, ?_⟩
          by_cases h2 : valL B < 2
          · rw [decide_eq_true (show ((valL B : Nat) : Int) < 2 by omega)]
            exact iteT (by rw [eD]; exact qN H2 s02 (by rw [rd, if_pos h2]))
          · rw [decide_eq_false (show ¬ ((valL B : Nat) : Int) < 2 by omega)]
            rw [if_neg h2] at rd
            refine iteF ⟨.str tf, rfl, tf, _, rfl, iF, by omega, .str tai, rfl, tai, _, rfl, iB, by omega, ?_⟩
            have mz : ((valL B : Nat) : Int) ≠ 0 := by omega
            have mb : ((valL B : Nat) : Int).natAbs < 2 ^ 8000 := by rw [Int.natAbs_natCast]; exact Nat.lt_of_lt_of_le vB (Nat.pow_le_pow_right (by decide) (by decide))
            refine ⟨_, _, rfl, mz, mb, fun H3 p3 s3 n3 e3 => ?_⟩
            have s03 := s02.trans s3
            have dn := den_sg (cutL (tl t)).1 (valL B)
            refine ⟨p3, _, 1, .int ((Rat.divInt ((valL (fgs (cutL (tl t)).1) : Nat) : Int) ((valL B : Nat) : Int)).den : Int), rfl, rfl, SqT.of e3, rfl, .str tai, rfl, tai, _, rfl, iB, by omega, rfl, _, rfl, ?_⟩
            rw [← dn]
            by_cases hd : (Rat.divInt (sgL (cutL (tl t)).1) ((valL B : Nat) : Int)).den = valL B
            · rw [decide_eq_true (show V.int ((Rat.divInt (sgL (cutL (tl t)).1) ((valL B : Nat) : Int)).den : Int) = V.int ((valL B : Nat) : Int) by rw [hd])]
              rw [if_pos hd] at rd
              refine iteF ⟨.str tf, rfl, tf, _, rfl, iF, by omega, 1, rfl, (by show 2 ≤ sizeLine; decide), fun l nl => ?_⟩
              have s4 := same_upd (o := .lst [V.int 1, V.int (-1)]) nl
              refine ⟨.bl (miB (cutL (tl t)).1), rfl, .inr ⟨miB (cutL (tl t)).1, rfl, ?_⟩⟩
              refine ⟨l, _, _, _, rfl, rfl, SqL.of upd_same, at_sgn _, _, _, rfl, rfl, wide_mul (a := 200) (b := 1) (by rw [Int.natAbs_natCast]; exact vF) (sgn_one _) (by decide) (by decide) (by decide), ?_⟩
              refine ⟨.str tai, rfl, tai, _, rfl, iB, by omega, (by show 2 ≤ sizeLine; decide), fun p2 np2 => ?_⟩
              show D.rt (.ref p2) (upd (upd H3 l (.lst [V.int 1, V.int (-1)])) p2 _)
              rw [eD]
              refine qS _ p2 _ _ ((s03.trans s4).trans (same_upd np2)) ?_ mz mb upd_same
              rw [rd, sg_mul]
            · rw [decide_eq_false (fun z => hd (by have := V.int.inj z; omega))]
              rw [if_neg hd] at rd
              exact iteT (by rw [eD]; exact qN H3 s03 rd)
    refine ⟨_, (pss_cons (ps_asg (pe_partition (pv 0) pe_str) (pg_tup (by rfl) (pgs_cons (pg_name (i := 1) nd rfl (.inl rfl)) (pgs_cons (pg_name (i := 2) nd rfl (.inl rfl)) (pgs_cons (pg_name (i := 3) nd rfl (.inl rfl)) pgs_nil)))))
      (pss_cons (ps_set (i := 4) nd rfl (.inl rfl) (pe_cmpR op_eq (pe_slice sl_str (pv 1) po_none (po_some pe_int)) pe_str (nomark _)))
      (pss_cons (ps_set (i := 5) nd rfl (.inl rfl) (pe_slice sl_str (pv 1) (po_some (pe_callTy call_int1 (by rfl) T.int (by decide +kernel) (pa_cons (pv 4) pa_nil))) po_none))
      (pss_cons (ps_if (PW.pt (pw_or (pt_not (pt_val (pe_call G1 hr (by rfl) R1.g R1.F.kp R1.b .nil pass0 (pa_cons (pv 5) pa_nil)))) (pw_or1 (PW.pt (pw_and (pt_val (pv 4)) (pw_and1 (pt_cmpR op_eq (pv 5) pe_str (nomark _)))))))) (pss_one (ps_ret pe_non)) pss_nil)
      pX)))), ?_⟩
    refine ⟨.str t, rfl, ⟨t, rfl⟩, t, "/", rfl, rfl, e47, sl, fun p np => ?_⟩
    have hp := part_is t
    have hA : tl (Txt.partition t "/").1 = (cutL (tl t)).1 := by rw [hp]; rfl
    have hT : ∀ T, (cutL (tl t)).2 = some T → (Txt.partition t "/").2.1 = "/" ∧ tl (Txt.partition t "/").2.2 = T := fun T e => by rw [hp, e]; exact ⟨rfl, rfl⟩
    have hN : (cutL (tl t)).2 = none → (Txt.partition t "/").2.1 = Str.empty := fun e => by rw [hp, e]
    generalize (Txt.partition t "/").1 = hd at hA
    generalize (Txt.partition t "/").2.1 = sla at hT hN
    generalize (Txt.partition t "/").2.2 = tai at hT
    refine ⟨p, _, rfl, SqT.of upd_same, rfl, _, _, rfl, ?_⟩
    refine ⟨_, _, rfl, _, _, rfl, rfl, ?_⟩
    have hdl : hd.length ≤ sizeLine := by rw [len_tl, hA]; exact Nat.le_trans lA (by decide)
    refine ⟨.str hd, rfl, 1, rfl, hd, rfl, hdl, rfl, ?_⟩
    rw [str_dec, e45, cut_mi, hA]
    have sm := same_upd (o := .tup [V.str hd, V.str sla, V.str tai]) np
    generalize upd H p (.tup [V.str hd, V.str sla, V.str tai]) = H1 at sm
    have etf := cut_fgs hd
    rw [hA] at etf
    refine ⟨.str hd, rfl, .bl (miB (cutL (tl t)).1), rfl, .inr ⟨miB (cutL (tl t)).1, rfl, bI (miB (cutL (tl t)).1), rfl, hd, rfl, hdl, ?_⟩⟩
    have ltf : (cutS hd (some (bI (miB (cutL (tl t)).1))) none).length ≤ 60 := by
      rw [len_tl, etf]
      exact Nat.le_trans (fgs_len _) lA
    generalize cutS hd (some (bI (miB (cutL (tl t)).1))) none = tf at etf ltf
    have txf : Tx tf := .of etf (Nat.le_trans (fgs_len _) lA) fun c m => ht.asc c (mA c (fgs_mem _ c m))
    refine ⟨.str tf, rfl, tf, rfl, txf, fun H2 s2 => ⟨figL (tl tf), rfl, ?_⟩⟩
    rw [etf]
    have s02 := sm.trans s2
    cases f1 : figL (fgs (cutL (tl t)).1) with
    | false => exact iteT (qN H2 s02 (by rw [rd, if_pos f1]))
    | true =>
      rw [if_neg (by rw [f1]; decide)] at rd
      refine iteF ⟨.bl (miB (cutL (tl t)).1), rfl, _, rfl, ?_⟩
      cases hm : miB (cutL (tl t)).1 with
      | false =>
        exact iteF (hX _ H2 hd sla tai tf false hm.symm rfl s02 etf ltf hN hT f1 (by rw [hm]; rfl))
      | true =>
        refine iteT ⟨.str tf, rfl, rfl, _, rfl, ?_⟩
        rw [str_dec, e48, etf]
        cases hz : (fgs (cutL (tl t)).1 == [48]) with
        | true => exact iteT (qN H2 s02 (by rw [rd, hm, hz]; rfl))
        | false =>
          exact iteF (hX _ H2 hd sla tai tf true hm.symm rfl s02 etf ltf hN hT f1 (by rw [hm, hz]; rfl))
end
end Hop

set_option Elab.async false
set_option linter.all false
set_option maxRecDepth 100000
set_option exponentiation.threshold 200000
namespace Hop
open PySem L2 HopR TL
open C8 (InsC call_isC)
structure Ev (K : PySem.W.Frag) (mg : Str → Option Value) (HE NN BN NP NR : Addr) : Prop where
  gHE : mg "HopError" = some (.ref HE)
  gNN : mg "NoNumber" = some (.ref NN)
  gBN : mg "ByNought" = some (.ref BN)
  gNP : mg "NoPace" = some (.ref NP)
  gNR : mg "NoRow" = some (.ref NR)
  ve : mg "ValueError" = none
  N : Xc K NN bmV "ValueError.__new__"
  mN : PySem.W.exmAny K (.ref NN) [.ref HE, .ref BN] = some true
  rA : PySem.W.kitAny K (.ref NN) [.ref NP, .ref NR] = some false
  nV : PySem.W.kitOne K (.ref NN) (.type "ValueError") = some true
section
variable {P : Program} {w : World} {K : PySem.W.Frag} {mg : Str → Option Value} {base : Heap} {C : Addr}
variable {fi f1 f2 fs HE NN BN NP NR : Addr} {gi g1 g2 gs : FuncData} {d1 : Value}
def spLTold (K : PySem.W.Frag) (C : Addr) : Sp := fun vs H Q _ => ∃ x, vs = [x] ∧ ((NoText K H x ∧ ∀ H' l, Same H H' → H' l = some (.lst []) → Q (.ref l) H') ∨
  (∃ t : Str, x = .str t ∧ t.length ≤ 60 ∧ (∀ H' l, Same H H' → rdL (tl t) = none → H' l = some (.lst []) → Q (.ref l) H') ∧ (∀ H' l a q, Same H H' → rdL (tl t) = some q → H' l = some (.lst [.ref a]) → PA C H' a q → Q (.ref l) H')))
abbrev nLTold : List Str := ["_law_text_here", "_law_error", "_law_found", "e"]
theorem scLTold : FnScope nLTold ["_law_text_here"] (defScope sLTold) := ⟨rfl, rfl, rfl, by decide +kernel, rfl, by decide +kernel, by decide +kernel⟩
theorem ok_ltold {f : Addr} {fd : FuncData} {k : Nat} (F : Fun K "_law_told" "_law_told" sLTold f fd) (Nr : ∃ r s, Fn K mg "read_part" sRead ["text"] r s) (D : RdD K mg C fi f1 f2 gi g1 g2 d1 fs gs NN) (T : TxtP K mg C) (TF : TxtF mg) (TN : TxtN mg) (Z : Ev K mg HE NN BN NP NR) : FnOk P w K mg base CX0 (k + 6) f fd ["_law_text_here"] (spLTold K C) := by
  obtain ⟨r1, s1, R1⟩ := Nr
  have GR : FnOk P w K mg base (L2.CX P w) (k + 5) r1 s1 ["text"] (spRead K C NN) := ok_read R1.F D T TF TN
  refine F.ok scLTold (fun vs H Q E h => ?_) (fun cdv A outer s H vs Q E hr h => ?_)
  · obtain ⟨x, rfl, _⟩ := h
    rfl
  · obtain ⟨x, rfl, h⟩ := h
    have nd := scLTold.nd
    obtain ⟨tL, pL, hL, hK⟩ : ∃ tL, PSs (cxOf CX0 P w K mg base nLTold "_law_told" (defScope sLTold) f cdv A outer s H E).nox ((defBody sLTold).drop 3) tL ∧ (∀ (D : Ends) (H1 : Hp) (a : Addr) (y0 y2 y3 : Option V), H1 a = some (ExH (.ref NN) none a) →
        (∀ H' l, Same H1 H' → H' l = some (.lst []) → D.rt (.ref l) H') → tL D [y0, some (.ref a), y2, y3] H1) ∧ (∀ (D : Ends) (H1 : Hp) (a : Addr) (y0 y3 : Option V), (∀ H' l, Same H1 H' → H' l = some (.lst [.ref a]) → D.rt (.ref l) H') → tL D [y0, some .non, some (.ref a), y3] H1) := by
      refine ⟨_, (pss_cons (ps_if (pt_cmpR op_isN (pv 1) pe_non (nomark _)) (pss_one (ps_ret (pe_lst (pa_cons (pv 2) pa_nil)))) pss_nil)
        (pss_cons (ps_if (PW.pt (pw_or (pt_not (pt_val (pe_callB call_isH (by rfl) T.isi (by decide +kernel) (pa_cons (pv 1) (pa_cons (pe_glob (v := .ref NN) (by rfl) Z.gNN rfl) pa_nil)))))
            (pw_or (pt_val (pe_callB call_isHT (by rfl) T.isi (by decide +kernel) (pa_cons (pv 1) (pa_cons (pe_tup (pa_cons (pe_glob (v := .ref NP) (by rfl) Z.gNP rfl) (pa_cons (pe_glob (v := .ref NR) (by rfl) Z.gNR rfl) pa_nil))) pa_nil))))
            (pw_or1 (pt_not (pt_val (pe_callB call_isH (by rfl) T.isi (by decide +kernel) (pa_cons (pv 1) (pa_cons (pe_bltn (v := .ty "ValueError") (by rfl) Z.ve (by decide +kernel) rfl) pa_nil)))))))))
          (pss_one (ps_ret (pe_lst (pa_cons pe_str pa_nil)))) pss_nil)
        (pss_one (ps_ret (pe_lst pa_nil))))), fun D H1 a y0 y2 y3 eA q => ?_, fun D H1 a y0 y3 q => ?_⟩
      · refine ⟨.ref a, rfl, rfl, _, rfl, ?_⟩
        rw [decide_eq_false (fun z => nomatch z)]
        refine iteF ⟨.ref a, rfl, a, NN, .ref NN, .ref NN, true, rfl, eA, Z.N.c, .own _, kit_me, true, rfl, iteF ?_⟩
        refine ⟨.ref a, rfl, (by show 2 ≤ sizeLine; decide), fun tp nt => ?_⟩
        have sT := same_upd (o := .tup [.ref NP, .ref NR]) nt
        refine ⟨a, NN, tp, _, _, false, rfl, sT _ _ eA, Z.N.c, upd_same, .cons (.own _) (.cons (.own _) .nil), Z.rA, false, rfl, iteF ?_⟩
        refine ⟨.ref a, rfl, a, NN, .ty "ValueError", .type "ValueError", true, rfl, sT _ _ eA, Z.N.c, .ty _, Z.nV, true, rfl, iteF ?_⟩
        exact ⟨Nat.zero_le _, fun l nl => q _ l (sT.trans (same_upd nl)) upd_same⟩
      · refine ⟨.non, rfl, rfl, _, rfl, ?_⟩
        rw [decide_eq_true rfl]
        exact iteT ⟨.ref a, rfl, (by show 1 ≤ sizeLine; decide), fun l nl => q _ l (same_upd nl) upd_same⟩
    refine ⟨_, pss_cons (ps_set (i := 1) nd rfl (.inl rfl) pe_non) (pss_cons (ps_set (i := 2) nd rfl (.inl rfl) pe_non)
        (pss_cons (ps_try_held (i := 3) (j := 1) rfl rfl nd rfl rfl rfl rfl rfl (tests_two ⟨rfl, by decide, .inl Z.gHE⟩ ⟨rfl, by decide, .inl Z.gBN⟩)
            (fun W1 pn xe tk _ => pss_one (ps_set (i := 2) nd rfl (.inl rfl) (pe_callS GR hr (by rfl) R1.g R1.F.kp R1.b (fun σ => passAt tk σ) (pa_cons (pv 0) pa_nil))))
            (fun a oe pn => pss_one (ps_set (i := 1) nd rfl (.inl rfl) (pv 3)))) pL)), ?_⟩
    rcases h with ⟨hx, q⟩ | ⟨t, rfl, hl, qN, qS⟩
    · refine ⟨x, rfl, x, rfl, .inl ⟨hx, Z.mN, fun a na => ?_⟩⟩
      have sA := same_upd (o := ExH (.ref NN) none a) na
      exact hL _ _ a _ _ _ upd_same (fun H' l s' e => q H' l (sA.trans s') e)
    · refine ⟨.str t, rfl, .str t, rfl, .inr ⟨t, rfl, hl, ?_⟩⟩
      cases hd : rdL (tl t) with
      | none =>
        refine .inr ⟨rfl, fun H1 s1 => ⟨Z.mN, fun a na => ?_⟩⟩
        have sA : Same H (upd H1 a (ExH (.ref NN) none a)) := same_new (s1.free na) s1
        exact hL _ _ a _ _ _ upd_same (fun H' l s' e => qN H' l (sA.trans s') hd e)
      | some r =>
        refine .inl ⟨r, rfl, fun H1 a s1 na pa => ?_⟩
        exact hK _ _ a _ _ (fun H' l s' e => qS H' l a r (s1.trans s') hd e (pa.same s'))
/-! ### _law_right -/
def spLRight : Sp := fun vs H Q _ => ∃ t : Str, vs = [.str t] ∧ Tx t ∧ ∀ H', Same H H' → Q (.bl true) H'
abbrev nLRight : List Str := ["_law_text_here", "_law_due", "_law_found"]
theorem scLRight : FnScope nLRight ["_law_text_here"] (defScope sLRight) := ⟨rfl, rfl, rfl, by decide +kernel, rfl, by decide +kernel, by decide +kernel⟩
structure LwD (K : PySem.W.Frag) (mg : Str → Option Value) (C fi f1 f2 : Addr) (gi g1 g2 : FuncData) (d1 : Value) (fs : Addr) (gs : FuncData) (HE NN BN NP NR : Addr) : Prop where
  D : RdD K mg C fi f1 f2 gi g1 g2 d1 fs gs NN
  Z : Ev K mg HE NN BN NP NR
  rp : ∃ r s, Fn K mg "read_part" sRead ["text"] r s
  lf : ∃ r s, Fn K mg "_law_is_figures" sLFig ["_law_text_here"] r s
  lo : ∃ r s, Fn K mg "_law_low" sLow ["_law_top", "_law_bottom"] r s
  lr : ∃ r s, Fn K mg "_law_read" sLRead ["_law_text_here"] r s
  lt : ∃ r s, Fn K mg "_law_told" sLTold ["_law_text_here"] r s
  li : ∃ r s, Fn K mg "_law_is" sLIs ["_law_found", "_law_due"] r s
theorem ok_lright {f : Addr} {fd : FuncData} {k : Nat} (F : Fun K "_law_right" "_law_right" sLRight f fd) (N : LwD K mg C fi f1 f2 gi g1 g2 d1 fs gs HE NN BN NP NR) (T : TxtP K mg C) (TF : TxtF mg) (TN : TxtN mg) : FnOk P w K mg base CX0 (k + 7) f fd ["_law_text_here"] spLRight := by
  obtain ⟨r1, s1, R1⟩ := N.lr
  obtain ⟨r2, s2, R2⟩ := N.lt
  obtain ⟨r3, s3, R3⟩ := N.li
  obtain ⟨r4, s4, R4⟩ := N.lo
  have G1 : FnOk P w K mg base CX0 (k + 6) r1 s1 ["_law_text_here"] spLRead := ok_lread R1.F N.lf N.lo T
  have G2 : FnOk P w K mg base CX0 (k + 6) r2 s2 ["_law_text_here"] (spLTold K C) := ok_ltold R2.F N.rp N.D T TF TN N.Z
  have G3 : FnOk P w K mg base CX0 (k + 6) r3 s3 ["_law_found", "_law_due"] (spLIs K C) := ok_is R3.F R4 T
  refine F.ok scLRight (fun vs H Q E h => ?_) (fun cdv A outer s H vs Q E hr h => ?_)
  · obtain ⟨t, rfl, _⟩ := h
    rfl
  · obtain ⟨t, rfl, ht, q⟩ := h
    have nd := scLRight.nd
    have hu := hu66 hr
    have hu64 : (A.deeper (PyProof.Rows.envOfC "_law_right" (defScope sLRight) s.heap.objs.size f cdv)).units + 64 < cLine := by omega
    refine ⟨_, pss_cons (ps_set (i := 1) nd rfl (.inl rfl) (pe_call G1 hr (by rfl) R1.g R1.F.kp R1.b .nil pass0 (pa_cons (pv 0) pa_nil)))
      (pss_cons (ps_set (i := 2) nd rfl (.inl rfl) (pe_call G2 hr (by rfl) R2.g R2.F.kp R2.b .nil pass0 (pa_cons (pv 0) pa_nil)))
      (pss_cons (ps_if (pt_cmpR op_isN (pv 1) pe_non (nomark _)) (pss_one (ps_ret (pe_cmpR (op_eqD hu64) (pv 2) (pe_lst pa_nil) (nomark _)))) pss_nil)
      (pss_one (ps_ret (pe_and (pe_cmpR op_eq (pe_callB call_len_seq (by rfl) T.len PySem.boot_len (pa_cons (pv 2) pa_nil)) pe_int (nomark _)) (pe_one (pe_call G3 hr (by rfl) R3.g R3.F.kp R3.b .nil pass0 (pa_cons (pe_ix ix_list (pv 2) pe_int (fun _ _ => rfl)) (pa_cons (pv 1) pa_nil))))))))), ?_⟩
    refine ⟨.str t, rfl, t, rfl, ht, fun H1 s1 hd => ?_, fun H1 p a b s1 hd hb hz ep => ?_⟩
    · refine ⟨.str t, rfl, .str t, rfl, .inr ⟨t, rfl, ht.len, fun H2 l s2 _ el => ?_, fun H2 l a r s2 hd2 _ _ => ?_⟩⟩
      · refine ⟨.non, rfl, rfl, _, rfl, ?_⟩
        rw [decide_eq_true rfl]
        refine iteT ⟨.ref l, rfl, Nat.zero_le _, fun p np => ⟨.list [], .list [], .lst (SqL.of (same_upd np _ _ el)) .nil, .lst (SqL.of upd_same) .nil, shaped_nil8, shaped_nil8, ?_⟩⟩
        exact q _ ((s1.trans s2).trans (same_upd np))
      · rw [hd] at hd2
        exact absurd hd2 (by simp)
    · refine ⟨.str t, rfl, .str t, rfl, .inr ⟨t, rfl, ht.len, fun H2 l s2 hd2 _ => ?_, fun H2 l a2 r s2 hd2 el pa => ?_⟩⟩
      · rw [hd] at hd2
        exact absurd hd2 (by simp)
      · have er : Rat.divInt a b = r := Option.some.inj (hd.symm.trans hd2)
        subst er
        refine ⟨.ref p, rfl, rfl, _, rfl, ?_⟩
        rw [decide_eq_false (fun z => nomatch z)]
        refine iteF ⟨.ref l, rfl, l, _, rfl, .inl (SqL.of el), rfl, _, rfl, ?_⟩
        rw [decide_eq_true (show V.int (([V.ref a2] : List V).length : Int) = V.int 1 from rfl)]
        refine iteT ⟨.ref l, rfl, l, _, 0, .ref a2, rfl, rfl, SqL.of el, rfl, .ref p, rfl, a2, p, a, b, rfl, pa, s2 _ _ ep, hb, hz, fun H3 s3 => ?_⟩
        exact q _ ((s1.trans s2).trans s3)
end
end Hop

set_option Elab.async false
set_option linter.all false
set_option maxRecDepth 100000
set_option exponentiation.threshold 200000
namespace Hop
open PySem L2 HopR TL
open C8 (InsC call_isC)
/-- a text of no more than so many plain signs -/
structure An (n : Nat) (x : Str) : Prop where
  len : x.length ≤ n
  asc : ∀ c ∈ tl x, c < 128
theorem An.app {n m : Nat} {x y : Str} (h : An n x) (g : An m y) : An (n + m) (x ++ y) := ⟨by rw [strLen_append]; have := h.len; have := g.len; omega, fun c hc => by
  rw [tl_append] at hc
  rcases List.mem_append.mp hc with hc | hc
  · exact h.asc c hc
  · exact g.asc c hc⟩
theorem An.cut {n : Nat} {x : Str} (h : An n x) (lo hi : Option Int) : An n (cutS x lo hi) := ⟨Nat.le_trans (cutS_length x lo hi) h.len, fun c hc => by
  rw [cut_tl] at hc
  exact h.asc c (List.mem_of_mem_drop (List.mem_of_mem_take hc))⟩
theorem An.tx {n : Nat} {x : Str} (h : An n x) (hn : n ≤ 60) : Tx x := ⟨Nat.le_trans h.len hn, h.asc⟩
theorem An.mono {n m : Nat} {x : Str} (h : An n x) (hn : n ≤ m) : An m x := ⟨Nat.le_trans h.len hn, h.asc⟩
theorem An.fit {n : Nat} {x : Str} (h : An n x) (hn : n ≤ 1000) : x.length ≤ sizeLine := by
  have : sizeLine = 16777216 := by decide
  have := h.len
  omega
theorem An.fit2 {n m : Nat} {x y : Str} (h : An n x) (g : An m y) (hn : n + m ≤ 1000) : x.length + y.length ≤ sizeLine := by
  have : sizeLine = 16777216 := by decide
  have := h.len
  have := g.len
  omega
theorem an_of {n : Nat} {x : Str} (L : List Nat) (e : tl x = L) (hl : L.length ≤ n) (h : L.all (fun c => decide (c < 128)) = true) : An n x := ⟨by rw [len_tl, e]; exact hl, fun c hc => by rw [e] at hc; exact of_decide_eq_true (List.all_eq_true.mp h c hc)⟩
theorem an_num {n k : Nat} (hk : 0 < k) (h : n < 10 ^ k) : (numL n).length ≤ k ∧ ∀ c ∈ numL n, c < 128 := ⟨numL_len hk h, fun c hc => by have := numL_digits n c hc; omega⟩
theorem an_tI {i : Int} {k : Nat} (hk : 0 < k) (h : i.natAbs < 10 ^ k) : An (k + 1) (tI i) := by
  obtain ⟨a, b⟩ := an_num hk h
  constructor
  · rw [len_tl, tI_iL]
    unfold iL
    split
    · rw [List.length_cons]; omega
    · omega
  · intro c hc
    rw [tI_iL] at hc
    unfold iL at hc
    split at hc
    · rcases List.mem_cons.mp hc with rfl | hc
      · decide
      · exact b c hc
    · exact b c hc
theorem an_stx {q : Rat} (h : Sz 100 q) (hd : q.den ≤ 1000000000000) : An 46 (stx q) := by
  have h1 : An 32 (tI q.num) := an_tI (k := 31) (by decide) (Nat.lt_trans h.1 (by decide))
  have h2 : An 1 ("/" : Str) := an_of [47] (by decide +kernel) (by decide) (by decide)
  obtain ⟨a, b⟩ := an_num (n := q.den) (k := 13) (by decide) (by omega)
  constructor
  · rw [len_tl, stx_tl, List.length_append]
    have := h1.len
    rw [len_tl, tI_iL] at this
    split
    · simp; omega
    · rw [List.length_cons]; omega
  · intro c hc
    rw [stx_tl] at hc
    rcases List.mem_append.mp hc with hc | hc
    · exact h1.asc c (by rw [tI_iL]; exact hc)
    · split at hc
      · exact absurd hc List.not_mem_nil
      · rcases List.mem_cons.mp hc with rfl | hc
        · decide
        · exact b c hc
theorem an_ins {n : Nat} {t sg : Str} (h : An n t) (g : An 1 sg) (k m : Nat) (hk : k ≤ m) : An (n + 1) (cutS t none (some (k : Int)) ++ sg ++ cutS t (some (m : Int)) none) := by
  have e : tl (cutS t none (some (k : Int)) ++ sg ++ cutS t (some (m : Int)) none) = (tl t).take k ++ tl sg ++ (tl t).drop m := by rw [tl_append, tl_append, cut_head, cut_from]
  constructor
  · rw [len_tl, e, List.length_append, List.length_append, List.length_take, List.length_drop]
    have := h.len
    have := g.len
    rw [len_tl] at *
    omega
  · intro c hc
    rw [e] at hc
    rcases List.mem_append.mp hc with hc | hc
    · rcases List.mem_append.mp hc with hc | hc
      · exact h.asc c (List.mem_of_mem_take hc)
      · exact g.asc c hc
    · exact h.asc c (List.mem_of_mem_drop hc)
theorem an_out {n : Nat} {t : Str} (h : An n t) (k m : Nat) (hk : k ≤ m) : An n (cutS t none (some (k : Int)) ++ cutS t (some (m : Int)) none) := by
  have e : tl (cutS t none (some (k : Int)) ++ cutS t (some (m : Int)) none) = (tl t).take k ++ (tl t).drop m := by rw [tl_append, cut_head, cut_from]
  constructor
  · rw [len_tl, e, List.length_append, List.length_take, List.length_drop]
    have := h.len
    rw [len_tl] at *
    omega
  · intro c hc
    rw [e] at hc
    rcases List.mem_append.mp hc with hc | hc
    · exact h.asc c (List.mem_of_mem_take hc)
    · exact h.asc c (List.mem_of_mem_drop hc)
theorem txt_at {ys : List Str} (h : ∀ y ∈ ys, Tx y) {d : Int} (h0 : 0 ≤ d) (h1 : d < ys.length) : ∃ y, atI (ys.map V.str) d = some (.str y) ∧ Tx y := by
  obtain ⟨n, rfl⟩ := Int.eq_ofNat_of_zero_le h0
  have hn : n < ys.length := by omega
  exact ⟨ys[n], atI_nat (by rw [List.getElem?_map, List.getElem?_eq_getElem hn]; rfl), h _ (List.getElem_mem hn)⟩
def sgns : List Nat := [48, 49, 50, 51, 52, 53, 54, 55, 56, 57, 45, 43, 47, 32, 46, 97, 95, 120, 10]
theorem sgns_is : ("0123456789-+/ .a_x\n" : Str).cps.toList = sgns := by decide +kernel
theorem sgns_at {d : Int} (h0 : 0 ≤ d) (h1 : d < 19) : ∃ c, atI ("0123456789-+/ .a_x\n" : Str).cps.toList d = some c ∧ c < 128 := by
  obtain ⟨n, rfl⟩ := Int.eq_ofNat_of_zero_le h0
  have hn : n < sgns.length := by show n < 19; omega
  have ha : ∀ c ∈ sgns, c < 128 := by decide
  exact ⟨sgns[n], atI_nat (by rw [sgns_is]; exact List.getElem?_eq_getElem hn), ha _ (List.getElem_mem hn)⟩
section
variable {P : Program} {w : World} {K : PySem.W.Frag} {mg : Str → Option Value} {base : Heap} {C : Addr}
def spBent (K : PySem.W.Frag) : Sp := fun vs H Q _ => ∃ (a o : Addr) (d0 d1 d2 d3 : Int) (q : Rat), vs = [.ref a, .ref o] ∧ SqL K H a [.int d0, .int d1, .int d2, .int d3] ∧ (0 ≤ d0 ∧ d0 < 13) ∧ (0 ≤ d1 ∧ d1 < 60) ∧ (0 ≤ d2 ∧ d2 < 19) ∧ (0 ≤ d3 ∧ d3 < 9) ∧
  H o = some (.tup (tq q)) ∧ Sz 100 q ∧ q.den ≤ 1000000000000 ∧ ∀ H' t, Same H H' → Tx t → Q (.str t) H'
abbrev nBent : List Str := ["_law_draws", "_law_one", "_law_text_here", "_law_at", "_law_sign", "_law_by", "_law_some"]
theorem scBent : FnScope nBent ["_law_draws", "_law_one"] (defScope sBent) := ⟨rfl, rfl, rfl, by decide +kernel, rfl, by decide +kernel, by decide +kernel⟩
theorem ok_bent {f : Addr} {fd : FuncData} {k : Nat} (F : Fun K "_law_bent" "_law_bent" sBent f fd) (Nt : ∃ r s, Fn K mg "_law_text" sLText ["_law_one"] r s) (T : TxtP K mg C) (TF : TxtF mg) : FnOk P w K mg base CX0 (k + 2) f fd ["_law_draws", "_law_one"] (spBent K) := by
  obtain ⟨r1, s1, R1⟩ := Nt
  have G1 : FnOk P w K mg base CX0 (k + 1) r1 s1 ["_law_one"] spLText := ok_ltext R1.F T TF
  refine F.ok scBent (fun vs H Q E h => ?_) (fun cdv A outer s H vs Q E hr h => ?_)
  · obtain ⟨a, o, d0, d1, d2, d3, q, rfl, _⟩ := h
    rfl
  · obtain ⟨a, o, d0, d1, d2, d3, q, rfl, hS, h0, h1, h2, h3, ho, hz, hd, h⟩ := h
    have nd := scBent.nd
    refine ⟨_, pss_cons (ps_set (i := 2) nd rfl (.inl rfl) (pe_call G1 hr (by rfl) R1.g R1.F.kp R1.b .nil pass0 (pa_cons (pv 1) pa_nil)))
      (pss_cons (ps_set (i := 3) nd rfl (.inl rfl) (pe_op op_mod (pe_ix ix_list (pv 0) pe_int (fun _ _ => rfl)) (pe_op op_add (pe_callB call_len_str (by rfl) T.len PySem.boot_len (pa_cons (pv 2) pa_nil)) pe_int)))
      (pss_cons (ps_set (i := 4) nd rfl (.inl rfl) (pe_ix ix_str pe_str (pe_ix ix_list (pv 0) pe_int (fun _ _ => rfl)) (fun _ _ => rfl)))
      (pss_cons (ps_set (i := 5) nd rfl (.inl rfl) (pe_op op_add pe_int (pe_ix ix_list (pv 0) pe_int (fun _ _ => rfl))))
      (pss_cons (ps_set (i := 6) nd rfl (.inl rfl) (pe_lst (pa_cons (pv 2)
          (pa_cons (pe_op op_add_str (pe_op op_add_str (pe_slice sl_str (pv 2) po_none (po_some (pv 3))) (pv 4)) (pe_slice sl_str (pv 2) (po_some (pv 3)) po_none))
          (pa_cons (pe_op op_add_str (pe_slice sl_str (pv 2) po_none (po_some (pv 3))) (pe_slice sl_str (pv 2) (po_some (pe_op op_add (pv 3) pe_int)) po_none))
          (pa_cons (pe_op op_add_str (pe_op op_add_str (pe_slice sl_str (pv 2) po_none (po_some (pv 3))) (pv 4)) (pe_slice sl_str (pv 2) (po_some (pe_op op_add (pv 3) pe_int)) po_none)) pa_nil))))))
      (pss_cons (ps_set (i := 6) nd rfl (.inl rfl) (pe_op op_cat (pv 6) (pe_lst (pa_cons (pe_op op_add_str (pe_op op_add_str (pe_callTy call_str_int (by rfl) TF.str (by decide +kernel) (pa_cons (pe_op op_mulW (pe_ix ix_tup (pv 1) pe_int (fun _ _ => rfl)) (pv 5)) pa_nil)) pe_str) (pe_callTy call_str_int (by rfl) TF.str (by decide +kernel) (pa_cons (pe_op op_mulW (pe_ix ix_tup (pv 1) pe_int (fun _ _ => rfl)) (pv 5)) pa_nil)))
          (pa_cons (pe_op op_add_str pe_str (pv 2)) (pa_cons (pe_op op_add_str (pv 2) pe_str) (pa_cons (pe_op op_add_str (pv 2) pe_str) (pa_cons (pe_op op_add_str (pv 2) pe_str) pa_nil))))))))
      (pss_one (ps_ret (pe_ix ix_list (pe_op op_cat (pv 6) (pe_lst (pa_cons (pe_op op_add_str pe_str (pv 2)) (pa_cons (pe_op op_add_str pe_str (pv 2)) (pa_cons (pe_op op_add_str pe_str (pv 2)) (pa_cons (pe_op op_add_str (pv 2) pe_str) pa_nil)))))) (pe_ix ix_list (pv 0) pe_int (fun _ _ => rfl)) (fun _ _ => rfl))))))))), ?_⟩
    have aT := an_stx hz hd
    refine ⟨.ref o, rfl, o, q, rfl, ho, hz, ?_⟩
    generalize hT : stx q = t at aT
    have sl := aT.fit (by decide)
    refine ⟨.ref a, rfl, a, _, 1, .int d1, rfl, rfl, hS, rfl, .str t, rfl, t, rfl, sl, _, _, rfl, rfl, _, _, rfl, rfl, (show (0 : Int) < (t.length : Int) + 1 by omega), ?_⟩
    obtain ⟨c, hc, c128⟩ := sgns_at h2.1 h2.2
    refine ⟨.ref a, rfl, a, _, 2, .int d2, rfl, rfl, hS, rfl, _, d2, c, rfl, rfl, (by decide), hc, ?_⟩
    refine ⟨.ref a, rfl, a, _, 3, .int d3, rfl, rfl, hS, rfl, _, _, rfl, rfl, ?_⟩
    have aS : An 1 (⟨#[c]⟩ : Str) := ⟨Nat.le_refl _, fun x hx => by
      have : x = c := by simpa using hx
      rw [this]
      exact c128⟩
    generalize (⟨#[c]⟩ : Str) = sg at aS
    have aC : ∀ lo hi, An 46 (cutS t lo hi) := fun lo hi => aT.cut lo hi
    refine ⟨.str t, rfl, .str t, rfl, .int (d1 % ((t.length : Int) + 1)), rfl, _, rfl, t, rfl, sl, .str sg, rfl, _, _, rfl, rfl, (aC _ _).fit2 aS (by decide), .str t, rfl, .int (d1 % ((t.length : Int) + 1)), rfl, _, rfl, t, rfl, sl, _, _, rfl, rfl, ((aC _ _).app aS).fit2 (aC _ _) (by decide), ?_⟩
    refine ⟨.str t, rfl, .int (d1 % ((t.length : Int) + 1)), rfl, _, rfl, t, rfl, sl, .str t, rfl, .int (d1 % ((t.length : Int) + 1)), rfl, _, _, rfl, rfl, _, rfl, t, rfl, sl, _, _, rfl, rfl, (aC _ _).fit2 (aC _ _) (by decide), ?_⟩
    refine ⟨.str t, rfl, .int (d1 % ((t.length : Int) + 1)), rfl, _, rfl, t, rfl, sl, .str sg, rfl, _, _, rfl, rfl, (aC _ _).fit2 aS (by decide), .str t, rfl, .int (d1 % ((t.length : Int) + 1)), rfl, _, _, rfl, rfl, _, rfl, t, rfl, sl, _, _, rfl, rfl, ((aC _ _).app aS).fit2 (aC _ _) (by decide), ?_⟩
    refine ⟨(by show 4 ≤ sizeLine; decide), fun l1 n1 => ?_⟩
    obtain ⟨ys, eys, hys, lys⟩ : ∃ ys : List Str, ys.map V.str = [V.str t, .str (cutS t none (some (d1 % ((t.length : Int) + 1))) ++ sg ++ cutS t (some (d1 % ((t.length : Int) + 1))) none), .str (cutS t none (some (d1 % ((t.length : Int) + 1))) ++ cutS t (some ((d1 % ((t.length : Int) + 1)) + 1)) none), .str (cutS t none (some (d1 % ((t.length : Int) + 1))) ++ sg ++ cutS t (some ((d1 % ((t.length : Int) + 1)) + 1)) none)] ∧ (∀ y ∈ ys, Tx y) ∧ ys.length = 4 := by
      obtain ⟨k, hk⟩ := Int.eq_ofNat_of_zero_le (Int.emod_nonneg d1 (show ((t.length : Int) + 1) ≠ 0 by omega))
      have hk1 : (d1 % ((t.length : Int) + 1)) + 1 = ((k + 1 : Nat) : Int) := by omega
      refine ⟨[t, cutS t none (some (d1 % ((t.length : Int) + 1))) ++ sg ++ cutS t (some (d1 % ((t.length : Int) + 1))) none, cutS t none (some (d1 % ((t.length : Int) + 1))) ++ cutS t (some ((d1 % ((t.length : Int) + 1)) + 1)) none, cutS t none (some (d1 % ((t.length : Int) + 1))) ++ sg ++ cutS t (some ((d1 % ((t.length : Int) + 1)) + 1)) none], rfl, ?_, rfl⟩
      rw [hk1, hk]
      intro y hy
      simp only [List.mem_cons, List.not_mem_nil, or_false] at hy
      rcases hy with rfl | rfl | rfl | rfl
      · exact aT.tx (by decide)
      · exact (an_ins aT aS k k (Nat.le_refl _)).tx (by decide)
      · exact (an_out aT k (k + 1) (by omega)).tx (by decide)
      · exact (an_ins aT aS k (k + 1) (by omega)).tx (by decide)
    have sA := same_upd (o := .lst (ys.map V.str)) n1
    have eA : upd H l1 (.lst (ys.map V.str)) l1 = some (.lst (ys.map V.str)) := upd_same
    rw [← eys]
    generalize upd H l1 (.lst (ys.map V.str)) = H1 at sA eA
    have nA : (q.num * (2 + d3)).natAbs < 10 ^ 33 := by
      rw [Int.natAbs_mul]
      have a1 := hz.1
      have a2 : (2 + d3).natAbs ≤ 10 := by omega
      exact Nat.lt_of_lt_of_le (Nat.mul_lt_mul_of_lt_of_le a1 a2 (by decide)) (by decide)
    have nB : ((q.den : Int) * (2 + d3)).natAbs < 10 ^ 14 := by
      rw [Int.natAbs_mul]
      have a1 : ((q.den : Nat) : Int).natAbs ≤ 1000000000000 := by rw [Int.natAbs_natCast]; exact hd
      have a2 : (2 + d3).natAbs ≤ 10 := by omega
      exact Nat.lt_of_le_of_lt (Nat.mul_le_mul a1 a2) (by decide)
    have aA := an_tI (k := 33) (by decide) nA
    have aB := an_tI (k := 14) (by decide) nB
    have aD : An 1 ("/" : Str) := an_of [47] (by decide +kernel) (by decide) (by decide)
    have lg : ∀ x : Int, x.natAbs < 10 ^ 33 → x.natAbs.log2 < 1920 := fun x h => PySem.Flt.log2_lt_of (by decide) (Nat.lt_of_lt_of_le h (by decide))
    have w3 : (2 + d3).natAbs < 2 ^ 100 := Nat.lt_of_le_of_lt (show (2 + d3).natAbs ≤ 10 by omega) (by decide)
    refine ⟨.ref l1, rfl, .ref o, rfl, o, _, 0, .int q.num, rfl, rfl, SqT.of (sA _ _ ho), rfl, .int (2 + d3), rfl, _, _, rfl, rfl, wide_mul (a := 100) (b := 100) hz.1 w3 (by decide) (by decide) (by decide), _, rfl, lg _ nA, ?_⟩
    refine ⟨_, _, rfl, rfl, aA.fit2 aD (by decide), .ref o, rfl, o, _, 1, .int (q.den : Int), rfl, rfl, SqT.of (sA _ _ ho), rfl, .int (2 + d3), rfl, _, _, rfl, rfl, wide_mul (a := 100) (b := 100) (by rw [Int.natAbs_natCast]; exact hz.2) w3 (by decide) (by decide) (by decide), _, rfl, lg _ (Nat.lt_trans nB (by decide)), ?_⟩
    refine ⟨_, _, rfl, rfl, (aA.app aD).fit2 aB (by decide), ?_⟩
    have c0 : An 1 ("0" : Str) := an_of [48] (by decide +kernel) (by decide) (by decide)
    have c1 : An 2 ("/1" : Str) := an_of [47, 49] (by decide +kernel) (by decide) (by decide)
    have c2 : An 2 ("/0" : Str) := an_of [47, 48] (by decide +kernel) (by decide) (by decide)
    have c3 : An 1 ("\n" : Str) := an_of [10] (by decide +kernel) (by decide) (by decide)
    have c4 : An 1 (" " : Str) := an_of [32] (by decide +kernel) (by decide) (by decide)
    have c5 : An 1 ("+" : Str) := an_of [43] (by decide +kernel) (by decide) (by decide)
    have c6 : An 1 ("-" : Str) := an_of [45] (by decide +kernel) (by decide) (by decide)
    have c7 : An 3 ("/-1" : Str) := an_of [47, 45, 49] (by decide +kernel) (by decide) (by decide)
    refine ⟨.str t, rfl, _, _, rfl, rfl, c0.fit2 aT (by decide), .str t, rfl, _, _, rfl, rfl, aT.fit2 c1 (by decide), .str t, rfl, _, _, rfl, rfl, aT.fit2 c2 (by decide), .str t, rfl, _, _, rfl, rfl, aT.fit2 c3 (by decide), (by show 5 ≤ sizeLine; decide), fun l2 n2 => ?_⟩
    obtain ⟨zs, ezs, hzs, lzs⟩ : ∃ zs : List Str, zs.map V.str = [V.str (tI (q.num * (2 + d3)) ++ "/" ++ tI ((q.den : Int) * (2 + d3))), .str ("0" ++ t), .str (t ++ "/1"), .str (t ++ "/0"), .str (t ++ "\n")] ∧ (∀ y ∈ zs, Tx y) ∧ zs.length = 5 := by
      refine ⟨[tI (q.num * (2 + d3)) ++ "/" ++ tI ((q.den : Int) * (2 + d3)), "0" ++ t, t ++ "/1", t ++ "/0", t ++ "\n"], rfl, ?_, rfl⟩
      intro y hy
      simp only [List.mem_cons, List.not_mem_nil, or_false] at hy
      rcases hy with rfl | rfl | rfl | rfl | rfl
      · exact ((aA.app aD).app aB).tx (by decide)
      · exact (c0.app aT).tx (by decide)
      · exact (aT.app c1).tx (by decide)
      · exact (aT.app c2).tx (by decide)
      · exact (aT.app c3).tx (by decide)
    have ez : [V.str (tI (q.num * (2 + d3)) ++ "/" ++ tI ((q.den : Int) * (2 + d3))), .str ("0" ++ t), .str (t ++ "/1"), .str (t ++ "/0"), .str (t ++ "\n")] = zs.map V.str := ezs.symm
    have sB := same_new (o := .lst [V.str (tI (q.num * (2 + d3)) ++ "/" ++ tI ((q.den : Int) * (2 + d3))), .str ("0" ++ t), .str (t ++ "/1"), .str (t ++ "/0"), .str (t ++ "\n")]) (sA.free n2) sA
    have eB := same_upd (o := .lst [V.str (tI (q.num * (2 + d3)) ++ "/" ++ tI ((q.den : Int) * (2 + d3))), .str ("0" ++ t), .str (t ++ "/1"), .str (t ++ "/0"), .str (t ++ "\n")]) n2 _ _ eA
    refine ⟨l1, l2, _, _, rfl, rfl, eB, upd_same, ?_, fun l3 n3 => ?_⟩
    · rw [List.length_map, lys]
      show 4 + 5 ≤ sizeLine
      decide
    have sC := same_new (o := .lst (ys.map V.str ++ [V.str (tI (q.num * (2 + d3)) ++ "/" ++ tI ((q.den : Int) * (2 + d3))), .str ("0" ++ t), .str (t ++ "/1"), .str (t ++ "/0"), .str (t ++ "\n")])) (sB.free n3) sB
    have eC : ∀ Hx : Hp, upd Hx l3 (.lst (ys.map V.str ++ [V.str (tI (q.num * (2 + d3)) ++ "/" ++ tI ((q.den : Int) * (2 + d3))), .str ("0" ++ t), .str (t ++ "/1"), .str (t ++ "/0"), .str (t ++ "\n")])) l3 = some (.lst ((ys ++ zs).map V.str)) := fun Hx => by rw [ez, ← List.map_append]; exact upd_same
    have eC := eC (upd H1 l2 (.lst [V.str (tI (q.num * (2 + d3)) ++ "/" ++ tI ((q.den : Int) * (2 + d3))), .str ("0" ++ t), .str (t ++ "/1"), .str (t ++ "/0"), .str (t ++ "\n")]))
    refine ⟨.ref l3, rfl, .str t, rfl, _, _, rfl, rfl, c4.fit2 aT (by decide), .str t, rfl, _, _, rfl, rfl, c5.fit2 aT (by decide), .str t, rfl, _, _, rfl, rfl, c6.fit2 aT (by decide), .str t, rfl, _, _, rfl, rfl, aT.fit2 c7 (by decide), (by show 4 ≤ sizeLine; decide), fun l4 n4 => ?_⟩
    have sD := same_new (o := .lst [V.str (" " ++ t), .str ("+" ++ t), .str ("-" ++ t), .str (t ++ "/-1")]) (sC.free n4) sC
    have eD := same_upd (o := .lst [V.str (" " ++ t), .str ("+" ++ t), .str ("-" ++ t), .str (t ++ "/-1")]) n4 _ _ eC
    refine ⟨l3, l4, _, _, rfl, rfl, eD, upd_same, ?_, fun l5 n5 => ?_⟩
    · rw [List.length_map, List.length_append, lys, lzs]
      show 4 + 5 + 4 ≤ sizeLine
      decide
    have sE := same_new (o := .lst ((ys ++ zs).map V.str ++ [V.str (" " ++ t), .str ("+" ++ t), .str ("-" ++ t), .str (t ++ "/-1")])) (sD.free n5) sD
    obtain ⟨y, ey, ty⟩ := txt_at (ys := (ys ++ zs) ++ [" " ++ t, "+" ++ t, "-" ++ t, t ++ "/-1"]) (d := d0) (fun y hy => by
      rcases List.mem_append.mp hy with hy | hy
      · rcases List.mem_append.mp hy with hy | hy
        · exact hys y hy
        · exact hzs y hy
      · simp only [List.mem_cons, List.not_mem_nil, or_false] at hy
        rcases hy with rfl | rfl | rfl | rfl
        · exact (c4.app aT).tx (by decide)
        · exact (c5.app aT).tx (by decide)
        · exact (c6.app aT).tx (by decide)
        · exact (aT.app c7).tx (by decide)) h0.1 (by
      rw [List.length_append, List.length_append, lys, lzs]
      show d0 < ((4 + 5 + 4 : Nat) : Int)
      omega)
    rw [List.map_append] at ey
    exact ⟨.ref a, rfl, a, _, 0, .int d0, rfl, rfl, sE.seq hS, rfl, l5, _, d0, .str y, rfl, rfl, SqL.of upd_same, ey, h _ y sE ty⟩
end
end Hop

set_option Elab.async false
set_option linter.all false
set_option maxRecDepth 100000
set_option exponentiation.threshold 200000
namespace Hop
open PySem L2 HopR TL
open C8 (InsC call_isC)
def sizes : List Int := [3, 1000000000000, 1000000000000000000, 2, 1000000000000, 2, 13, 60, 19, 9, 8]
theorem n11 {ds : List Int} (h : ds.length = 11) : ∃ e0 e1 e2 e3 e4 e5 e6 e7 e8 e9 ea, ds = [e0, e1, e2, e3, e4, e5, e6, e7, e8, e9, ea] :=
  match ds, h with
  | [e0, e1, e2, e3, e4, e5, e6, e7, e8, e9, ea], _ => ⟨e0, e1, e2, e3, e4, e5, e6, e7, e8, e9, ea, rfl⟩
def lits : List Str := ["", "-", "/", "1/", "/2", "-0", "0/5", "00", "1/1", "2/1", "1/0", "0", "-3/4", "1_0", "1 /2"]
theorem lits_ok : (lits.all fun y => decide (y.length ≤ 60) && (tl y).all fun c => decide (c < 128)) = true := by decide +kernel
theorem lits_tx {y : Str} (h : y ∈ lits) : Tx y := by
  have := List.all_eq_true.mp lits_ok y h
  rw [Bool.and_eq_true] at this
  exact ⟨of_decide_eq_true this.1, fun c hc => of_decide_eq_true (List.all_eq_true.mp this.2 c hc)⟩
section
variable {P : Program} {w : World} {K : PySem.W.Frag} {mg : Str → Option Value} {base : Heap} {C : Addr}
variable {fi f1 f2 fs HE NN BN NP NR : Addr} {gi g1 g2 gs : FuncData} {d1 : Value}
structure Df (K : PySem.W.Frag) (mg : Str → Option Value) (C fi f1 f2 : Addr) (gi g1 g2 : FuncData) (d1 : Value) (fs : Addr) (gs : FuncData) (HE NN BN NP NR : Addr) : Prop where
  W : LwD K mg C fi f1 f2 gi g1 g2 d1 fs gs HE NN BN NP NR
  dr : ∃ r s, Fn K mg "_law_drawn" sDrawn ["_law_cell", "_law_sizes"] r s
  fr : ∃ r s, Fn K mg "_law_fraction" sFraction ["_law_draws"] r s
  te : ∃ r s, Fn K mg "_law_text" sLText ["_law_one"] r s
  be : ∃ r s, Fn K mg "_law_bent" sBent ["_law_draws", "_law_one"] r s
  ri : ∃ r s, Fn K mg "_law_right" sLRight ["_law_text_here"] r s
  hi : PySem.W.kitOne K (.ref C) (.type "str") = some false
def spLaw (K : PySem.W.Frag) : Sp := fun vs H Q _ => ∃ (a : Addr) (ns : List Int), vs = [.ref a] ∧ SqL K H a (ns.map V.int) ∧ ns.length ≤ 63 ∧ ∀ H', Q (.bl true) H'
abbrev nLaw : List Str := ["_law_script", "_law_text_here", "_law_cell", "_law_draws", "_law_one"]
theorem scLaw : FnScope nLaw ["_law_script"] (defScope sLaw) := ⟨rfl, rfl, rfl, by decide +kernel, rfl, by decide +kernel, by decide +kernel⟩
theorem cut_ints4 (ns : List Int) (k : Int) (h : ns.length ≤ 63) : ∃ zs : List Int, cutV (ns.map V.int) none (some k) = zs.map V.int ∧ zs.length ≤ 63 := by
  unfold cutV
  refine ⟨(ns.drop (HT.sIx (ns.map V.int).length 0 none)).take (HT.sIx (ns.map V.int).length (ns.map V.int).length (some k) - HT.sIx (ns.map V.int).length 0 none), by rw [List.map_take, List.map_drop], ?_⟩
  rw [List.length_take, List.length_drop]
  omega
set_option maxHeartbeats 8000000 in
theorem ok_law {f : Addr} {fd : FuncData} (F : Fun K "law" "law" sLaw f fd) (N : Df K mg C fi f1 f2 gi g1 g2 d1 fs gs HE NN BN NP NR) (T : TxtP K mg C) (TF : TxtF mg) (TN : TxtN mg) : FnOk P w K mg base CX0 12 f fd ["_law_script"] (spLaw K) := by
  obtain ⟨q1, l1, R1⟩ := N.dr
  obtain ⟨q2, l2, R2⟩ := N.fr
  obtain ⟨q3, l3, R3⟩ := N.te
  obtain ⟨q4, l4, R4⟩ := N.be
  obtain ⟨q5, l5, R5⟩ := N.ri
  obtain ⟨q6, l6, R6⟩ := N.W.lt
  obtain ⟨q7, l7, R7⟩ := N.W.lo
  have GI : FnOk P w K mg base CX0 10 fi gi ["self", "top", "bottom"] (spInit C) := ok_init N.W.D.M.F N.W.D.M.N1 N.W.D.M.N2 T
  have G1 : FnOk P w K mg base CX0 11 q1 l1 ["_law_cell", "_law_sizes"] (spDrawn K) := ok_drawn R1.F T.len T.range
  have G2 : FnOk P w K mg base CX0 11 q2 l2 ["_law_draws"] (spFraction K) := ok_fraction R2.F R7 T
  have G3 : FnOk P w K mg base CX0 11 q3 l3 ["_law_one"] spLText := ok_ltext R3.F T TF
  have G4 : FnOk P w K mg base CX0 11 q4 l4 ["_law_draws", "_law_one"] (spBent K) := ok_bent R4.F N.te T TF
  have G5 : FnOk P w K mg base CX0 11 q5 l5 ["_law_text_here"] spLRight := ok_lright (k := 4) R5.F N.W T TF TN
  have G6 : FnOk P w K mg base CX0 11 q6 l6 ["_law_text_here"] (spLTold K C) := ok_ltold (k := 5) R6.F N.W.rp N.W.D T TF TN N.W.Z
  refine F.ok scLaw (fun vs H Q E h => ?_) (fun cdv A outer s H vs Q E hr h => ?_)
  · obtain ⟨a, ns, rfl, _⟩ := h
    rfl
  · obtain ⟨a, ns, rfl, hS, hlen, qq⟩ := h
    have nd := scLaw.nd
    have hu := hu66 hr
    have hu64 : (A.deeper (PyProof.Rows.envOfC "law" (defScope sLaw) s.heap.objs.size f cdv)).units + 64 < cLine := by omega
    refine ⟨_, pss_cons (ps_for PassesOwn.never rfl (pi_list (pe_lst (pa_cons pe_str (pa_cons pe_str (pa_cons pe_str (pa_cons pe_str (pa_cons pe_str (pa_cons pe_str (pa_cons pe_str (pa_cons pe_str (pa_cons pe_str (pa_cons pe_str (pa_cons pe_str (pa_cons pe_str (pa_cons pe_str (pa_cons pe_str (pa_cons pe_str pa_nil))))))))))))))))) (pg_name (i := 1) nd rfl (.inl rfl))
        (pss_one (ps_if (pt_not (pt_val (pe_call G5 hr (by rfl) R5.g R5.F.kp R5.b .nil pass0 (pa_cons (pv 1) pa_nil)))) (pss_one (ps_ret pe_bl)) pss_nil)))
      (pss_cons (ps_for PassesOwn.never rfl (pi_list (pe_op op_cat (pe_slice sl_list (pv 0) po_none (po_some pe_int)) (pe_lst (pa_cons pe_int pa_nil)))) (pg_name (i := 2) nd rfl (.inl rfl))
        (pss_cons (ps_set (i := 3) nd rfl (.inl rfl) (pe_call G1 hr (by rfl) R1.g R1.F.kp R1.b .nil pass0 (pa_cons (pv 2) (pa_cons (pe_op op_cat (pe_lst (pa_cons pe_int (pa_cons (pe_op op_pow pe_int pe_int) (pa_cons (pe_op op_pow pe_int pe_int) (pa_cons pe_int (pa_cons (pe_op op_pow pe_int pe_int) (pa_cons pe_int pa_nil))))))) (pe_lst (pa_cons pe_int (pa_cons pe_int (pa_cons pe_int (pa_cons pe_int (pa_cons pe_int pa_nil))))))) pa_nil))))
        (pss_cons (ps_set (i := 4) nd rfl (.inl rfl) (pe_call G2 hr (by rfl) R2.g R2.F.kp R2.b .nil pass0 (pa_cons (pe_slice sl_list (pv 3) po_none (po_some pe_int)) pa_nil)))
        (pss_cons (ps_if (PW.pt (pw_or (pt_not (pt_val (pe_call G5 hr (by rfl) R5.g R5.F.kp R5.b .nil pass0 (pa_cons (pe_call G3 hr (by rfl) R3.g R3.F.kp R3.b .nil pass0 (pa_cons (pv 4) pa_nil)) pa_nil))))
          (pw_or1 (pt_not (pt_val (pe_call G5 hr (by rfl) R5.g R5.F.kp R5.b .nil pass0 (pa_cons (pe_call G4 hr (by rfl) R4.g R4.F.kp R4.b .nil pass0 (pa_cons (pe_slice sl_list (pv 3) (po_some pe_int) (po_some pe_int)) (pa_cons (pv 4) pa_nil))) pa_nil))))))) (pss_one (ps_ret pe_bl)) pss_nil)
        (pss_one (ps_if (pt_cmpR (op_neD hu64) (pe_call G6 hr (by rfl) R6.g R6.F.kp R6.b .nil pass0 (pa_cons (pe_ix ix_list (pe_lst (pa_cons pe_non (pa_cons pe_int (pa_cons pe_bl (pa_cons (pe_tup (pa_cons pe_int (pa_cons pe_int pa_nil))) (pa_cons (pe_lst (pa_cons pe_str pa_nil)) (pa_cons (pe_cmpR op_eq pe_int pe_int (nomark _)) (pa_cons pe_dnewK (pa_cons (pe_make N.W.D.M.M GI hr (by rfl) T.mgC N.W.D.M.b3 .nil pass0 (pa_cons pe_int (pa_cons pe_int pa_nil))) pa_nil))))))))) (pe_ix ix_list (pv 3) pe_int (fun _ _ => rfl)) (fun _ _ => rfl)) pa_nil)) (pe_lst pa_nil) (nomark _)) (pss_one (ps_ret pe_bl)) pss_nil))))))
      (pss_one (ps_ret pe_bl))), ?_⟩
    refine ⟨(by show 15 ≤ sizeLine; decide), fun l nl => ?_⟩
    have el : ([V.str "", .str "-", .str "/", .str "1/", .str "/2", .str "-0", .str "0/5", .str "00", .str "1/1", .str "2/1", .str "1/0", .str "0", .str "-3/4", .str "1_0", .str "1 /2"] : List V) = lits.map V.str := rfl
    rw [el]
    have t0 := same_upd (o := .lst (lits.map V.str)) nl
    have e0 : upd H l (.lst (lits.map V.str)) l = some (.lst (lits.map V.str)) := upd_same
    generalize upd H l (.lst (lits.map V.str)) = H0 at t0 e0
    refine ⟨l, rfl, ⟨_, SqL.of e0⟩, ?_⟩
    refine for_list (K := K) (a := l) (xs := lits.map V.str) (fun i σ H4 => ∃ y1, σ = [some (.ref a), y1, none, none, none] ∧ Same H0 H4) ⟨_, rfl, Same.refl _⟩ (fun i σ H4 _ ⟨_, _, h⟩ => SqL.of (h _ _ e0)) ?_ ?_
    · rintro i x σ H4 hx ⟨y1, rfl, s4⟩
      rw [List.getElem?_map] at hx
      obtain ⟨y, hy, rfl⟩ := Option.map_eq_some_iff.mp hx
      exact ⟨.str y, rfl, y, rfl, lits_tx (List.mem_of_getElem? hy), fun H5 s5 => ⟨true, rfl, iteF ⟨_, rfl, s4.trans s5⟩⟩⟩
    rintro σ H4 ⟨y1, rfl, s4⟩
    have t4 := t0.trans s4
    obtain ⟨zs, ez, hzl⟩ := cut_ints4 ns 30 hlen
    refine ⟨.ref a, rfl, 30, rfl, a, _, rfl, t4.seq hS, fun p np => ?_⟩
    rw [ez]
    refine ⟨(by show 1 ≤ sizeLine; decide), fun p2 n2 => ?_⟩
    have t1 := same_upd (o := .lst (zs.map V.int)) np
    have ep : upd H4 p (.lst (zs.map V.int)) p = some (.lst (zs.map V.int)) := upd_same
    generalize upd H4 p (.lst (zs.map V.int)) = H1 at t1 ep n2
    have t2 := same_upd (o := .lst [.int 0]) n2
    have ep2 : upd H1 p2 (.lst [.int 0]) p2 = some (.lst [.int 0]) := upd_same
    generalize upd H1 p2 (.lst [.int 0]) = H2 at t2 ep2
    refine ⟨p, p2, zs.map V.int, [.int 0], rfl, rfl, t2 _ _ ep, ep2, (by rw [List.length_map]; have : sizeLine = 16777216 := by decide
                                                                         show zs.length + 1 ≤ _; omega), fun p3 n3 => ?_⟩
    have ecat : zs.map V.int ++ [V.int 0] = (zs ++ [0]).map V.int := by rw [List.map_append]; rfl
    rw [ecat]
    have e3 : upd H2 p3 (.lst ((zs ++ [0]).map V.int)) p3 = some (.lst ((zs ++ [0]).map V.int)) := upd_same
    generalize upd H2 p3 (.lst ((zs ++ [0]).map V.int)) = H3 at e3
    refine ⟨p3, rfl, ⟨_, SqL.of e3⟩, ?_⟩
    refine for_list (K := K) (a := p3) (xs := (zs ++ [0]).map V.int) (fun i σ H4 => ∃ y1 y2 y3 y4, σ = [some (.ref a), y1, y2, y3, y4] ∧ Same H3 H4) ⟨_, _, _, _, rfl, Same.refl _⟩ (fun i σ H4 _ ⟨_, _, _, _, _, h⟩ => SqL.of (h _ _ e3)) ?_ ?_
    · rintro i x σ H4 hx ⟨y1, y2, y3, y4, rfl, s4⟩
      rw [List.getElem?_map] at hx
      obtain ⟨c, _, rfl⟩ := Option.map_eq_some_iff.mp hx
      refine ⟨.int c, rfl, 10, 12, rfl, rfl, ⟨by decide, by decide, by decide⟩, 10, 18, rfl, rfl, ⟨by decide, by decide, by decide⟩, 10, 12, rfl, rfl, ⟨by decide, by decide, by decide⟩, (by show 6 ≤ sizeLine; decide), fun m1 nm1 => ?_⟩
      refine ⟨(by show 5 ≤ sizeLine; decide), fun m2 nm2 => ?_⟩
      have v1 := same_upd (o := .lst [.int 3, .int (10 ^ (12 : Int).toNat), .int (10 ^ (18 : Int).toNat), .int 2, .int (10 ^ (12 : Int).toNat), .int 2]) nm1
      have v2 := same_new (o := .lst [.int 13, .int 60, .int 19, .int 9, .int 8]) (v1.free nm2) v1
      refine ⟨m1, m2, _, _, rfl, rfl, same_upd nm2 _ _ upd_same, upd_same, (by decide), fun m4 nm4 => ?_⟩
      have v4 := same_new (o := .lst (sizes.map V.int)) (v2.free nm4) v2
      refine ⟨c, m4, sizes, rfl, SqL.of upd_same, ?_, by decide, fun H5 p4 s5 n5 e5 => ?_⟩
      · intro z hz
        simp only [sizes, List.mem_cons, List.not_mem_nil, or_false] at hz
        rcases hz with rfl | rfl | rfl | rfl | rfl | rfl | rfl | rfl | rfl | rfl | rfl <;> exact ⟨by decide, by decide⟩
      have sA : Same H4 H5 := v4.trans s5
      clear v1 v2 v4 s5
      generalize hds : draws c 0 sizes = ds at e5
      have hpos : ∀ z ∈ sizes, 0 < z := by decide
      have hok : ∀ (i : Nat) (x z : Int), ds[i]? = some x → sizes[i]? = some z → 0 ≤ x ∧ x < z := by
        rw [← hds]
        exact draws_ok _ c 0 hpos
      obtain ⟨a0, a1, a2, a3, a4, a5, a6, a7, a8, a9, aa, rfl⟩ := n11 (ds := ds) (by rw [← hds, draws_len]; rfl)
      have b10 := hok 10 _ _ rfl rfl
      refine ⟨.ref p4, rfl, 6, rfl, p4, _, rfl, SqL.of e5, fun m5 nm5 => ?_⟩
      refine ⟨m5, a0, a1, a2, a3, a4, a5, rfl, SqL.of upd_same, hok 0 _ _ rfl rfl, hok 1 _ _ rfl rfl, hok 2 _ _ rfl rfl, hok 3 _ _ rfl rfl, hok 4 _ _ rfl rfl, hok 5 _ _ rfl rfl, fun H6 o1 q s6 no1 h1 zq dq => ?_⟩
      have sB : Same H5 H6 := (same_upd nm5).trans s6
      have aT := an_stx zq dq
      refine ⟨.ref o1, rfl, o1, q, rfl, h1, zq, stx q, rfl, aT.tx (by decide), fun H7 s7 => ⟨true, rfl, iteF ?_⟩⟩
      have e7 := s7 _ _ (sB _ _ e5)
      refine ⟨.ref p4, rfl, 6, rfl, 10, rfl, p4, _, rfl, SqL.of e7, fun m6 nm6 => ?_⟩
      have s67 := same_upd (o := .lst [V.int a6, .int a7, .int a8, .int a9]) nm6
      refine ⟨.ref o1, rfl, m6, o1, a6, a7, a8, a9, q, rfl, SqL.of upd_same, hok 6 _ _ rfl rfl, hok 7 _ _ rfl rfl, hok 8 _ _ rfl rfl, hok 9 _ _ rfl rfl, s67 _ _ (s7 _ _ h1), zq, dq, fun H8 t s8 tt => ?_⟩
      refine ⟨t, rfl, tt, fun H9 s9 => ⟨true, rfl, iteF ?_⟩⟩
      have e9 := s9 _ _ (s8 _ _ (s67 _ _ e7))
      have sall : Same H3 H9 := s4.trans (sA.trans (sB.trans (s7.trans (s67.trans (s8.trans s9)))))
      refine ⟨(by show 2 ≤ sizeLine; decide), fun u1 nu1 => ⟨(by show 1 ≤ sizeLine; decide), fun u2 nu2 => ⟨rfl, fun u3 nu3 => fun pa dx npa ndx ne => ?_⟩⟩⟩
      have w1 := same_upd (o := .tup [V.int 1, .int 2]) nu1
      have f1e : upd H9 u1 (.tup [V.int 1, .int 2]) u1 = some (.tup [V.int 1, .int 2]) := upd_same
      generalize upd H9 u1 (.tup [V.int 1, .int 2]) = GA at w1 f1e nu2 nu3 npa ndx ⊢
      have w2 := same_upd (o := .lst [V.str "1"]) nu2
      have f2e : upd GA u2 (.lst [V.str "1"]) u2 = some (.lst [V.str "1"]) := upd_same
      generalize upd GA u2 (.lst [V.str "1"]) = GB at w2 f2e nu3 npa ndx ⊢
      have w3 := same_upd (o := .dK []) nu3
      have f3e : upd GB u3 (.dK []) u3 = some (.dK []) := upd_same
      generalize upd GB u3 (.dK []) = GC at w3 f3e npa ndx ⊢
      refine ⟨pa, dx, 1, 2, rfl, by decide, Nat.lt_of_lt_of_le (show (2 : Int).natAbs < 2 ^ 2 by decide) (Nat.pow_le_pow_right (by decide) (by decide)), upd_same, rfl, ?_⟩
      rw [upd_upd]
      obtain ⟨w4, pA⟩ := mk_facts (C := C) (q := Rat.divInt 1 2) npa ndx
      generalize upd (upd GC dx (.own pa)) pa (.ins C dx (pf (Rat.divInt 1 2))) = GD at w4 pA ⊢
      refine ⟨(by show 8 ≤ sizeLine; decide), fun o no => ?_⟩
      have w5 := same_upd (o := .lst [V.non, .int 7, .bl true, .ref u1, .ref u2, .bl (decide (V.int 1 = V.int 2)), .ref u3, .ref pa]) no
      have f5e : upd GD o (.lst [V.non, .int 7, .bl true, .ref u1, .ref u2, .bl (decide (V.int 1 = V.int 2)), .ref u3, .ref pa]) o = some (.lst [V.non, .int 7, .bl true, .ref u1, .ref u2, .bl (decide (V.int 1 = V.int 2)), .ref u3, .ref pa]) := upd_same
      generalize upd GD o (.lst [V.non, .int 7, .bl true, .ref u1, .ref u2, .bl (decide (V.int 1 = V.int 2)), .ref u3, .ref pa]) = GE at w5 f5e ⊢
      have w45 := w4.trans w5
      have w35 := w3.trans w45
      have w25 := w2.trans w35
      have w15 := w1.trans w25
      have hodd : ∀ i : Int, 0 ≤ i → i < 8 → ∃ x, atI [V.non, .int 7, .bl true, .ref u1, .ref u2, .bl (decide (V.int 1 = V.int 2)), .ref u3, .ref pa] i = some x ∧ NoText K GE x := by
        intro i i0 i8
        rcases (show i = 0 ∨ i = 1 ∨ i = 2 ∨ i = 3 ∨ i = 4 ∨ i = 5 ∨ i = 6 ∨ i = 7 by omega) with rfl | rfl | rfl | rfl | rfl | rfl | rfl | rfl
        · exact ⟨_, rfl, _, .base .non, kit_ty (by decide +kernel)⟩
        · exact ⟨_, rfl, _, .base (.int _), kit_ty (by decide +kernel)⟩
        · exact ⟨_, rfl, _, .base (.bl _), kit_ty (by decide +kernel)⟩
        · exact ⟨_, rfl, _, .base (.tup (w25 _ _ f1e)), kit_ty (by decide +kernel)⟩
        · exact ⟨_, rfl, _, .base (.lst (w35 _ _ f2e)), kit_ty (by decide +kernel)⟩
        · exact ⟨_, rfl, _, .base (.bl _), kit_ty (by decide +kernel)⟩
        · exact ⟨_, rfl, _, .base (.dK (w45 _ _ f3e)), kit_ty (by decide +kernel)⟩
        · obtain ⟨dz, ez⟩ := pA
          exact ⟨_, rfl, _, .base (.ins (w5 _ _ ez) T.ins.cl T.ins.ha T.ins.hn T.ins.htk T.ins.hm), N.hi⟩
      obtain ⟨x, ex, nx⟩ := hodd aa b10.1 b10.2
      refine ⟨.ref p4, rfl, p4, _, 10, .int aa, rfl, rfl, SqL.of (w15 _ _ e9), rfl, o, _, aa, x, rfl, rfl, SqL.of f5e, ex, x, rfl, .inl ⟨nx, fun HA lz sz ez2 => ?_⟩⟩
      refine ⟨Nat.zero_le _, fun pz npz => ⟨.list [], .list [], .lst (SqL.of (same_upd npz _ _ ez2)) .nil, .lst (SqL.of upd_same) .nil, shaped_nil8, shaped_nil8, _, rfl, iteF ?_⟩⟩
      exact ⟨_, _, _, _, rfl, sall.trans (w15.trans (sz.trans (same_upd npz)))⟩
    rintro σ H4 ⟨y1, y2, y3, y4, rfl, s4⟩
    exact qq _
end
end Hop

set_option Elab.async false
set_option linter.all false
set_option maxRecDepth 100000
set_option maxHeartbeats 2000000
namespace Hop
open PySem L2 HopR
open C8 (InsC call_isC)
/-! ### what the top has written -/
theorem all_mk {l : PySem.W.OpenLaw} {w : World} {K : PySem.W.Frag} {h : Heap} {mg : Str → Option Value} {fa : Addr} (X : K.In h) (G : h.Ns mainGlobals mg) (hfa : mg "law" = some (.ref fa))
    {f1 : Addr} {od1 an1 : Option Addr} {sl1 : Array (Option Value)} {oc1 kV1 dc1 pm1 cd1 ct1 : Value}
    {f2 : Addr} {od2 an2 : Option Addr} {sl2 : Array (Option Value)} {oc2 kV2 dc2 pm2 cd2 ct2 : Value}
    {fu1 : Addr} {odu1 anu1 : Option Addr} {slu1 : Array (Option Value)} {ocu1 kVu1 dcu1 pmu1 cdu1 ctu1 : Value}
    {ff : Addr} {odf anf : Option Addr} {slf : Array (Option Value)} {ocf kVf dcf pmf cdf ctf : Value}
    {fg1 : Addr} {odg1 ang1 : Option Addr} {slg1 : Array (Option Value)} {ocg1 kVg1 dcg1 pmg1 cdg1 ctg1 : Value}
    {fg2 : Addr} {odg2 ang2 : Option Addr} {slg2 : Array (Option Value)} {ocg2 kVg2 dcg2 pmg2 cdg2 ctg2 : Value}
    {fg3 : Addr} {odg3 ang3 : Option Addr} {slg3 : Array (Option Value)} {ocg3 kVg3 dcg3 pmg3 cdg3 ctg3 : Value}
    {fw : Addr} {odw anw : Option Addr} {slw : Array (Option Value)} {ocw kVw dcw pmw cdw ctw : Value}
    {fq1 : Addr} {odq1 anq1 : Option Addr} {slq1 : Array (Option Value)} {ocq1 kVq1 dcq1 pmq1 cdq1 ctq1 : Value}
    {fq2 : Addr} {odq2 anq2 : Option Addr} {slq2 : Array (Option Value)} {ocq2 kVq2 dcq2 pmq2 cdq2 ctq2 : Value}
    {fq3 : Addr} {odq3 anq3 : Option Addr} {slq3 : Array (Option Value)} {ocq3 kVq3 dcq3 pmq3 cdq3 ctq3 : Value}
    {fq4 : Addr} {odq4 anq4 : Option Addr} {slq4 : Array (Option Value)} {ocq4 kVq4 dcq4 pmq4 cdq4 ctq4 : Value}
    {fq5 : Addr} {odq5 anq5 : Option Addr} {slq5 : Array (Option Value)} {ocq5 kVq5 dcq5 pmq5 cdq5 ctq5 : Value}
    {fq6 : Addr} {odq6 anq6 : Option Addr} {slq6 : Array (Option Value)} {ocq6 kVq6 dcq6 pmq6 cdq6 ctq6 : Value}
    {fq7 : Addr} {odq7 anq7 : Option Addr} {slq7 : Array (Option Value)} {ocq7 kVq7 dcq7 pmq7 cdq7 ctq7 : Value}
    {fq8 : Addr} {odq8 anq8 : Option Addr} {slq8 : Array (Option Value)} {ocq8 kVq8 dcq8 pmq8 cdq8 ctq8 : Value}
    {fq9 : Addr} {odq9 anq9 : Option Addr} {slq9 : Array (Option Value)} {ocq9 kVq9 dcq9 pmq9 cdq9 ctq9 : Value}
    {fL : Addr} {odL anL : Option Addr} {slL : Array (Option Value)} {ocL kVL dcL pmL cdL ctL : Value}
    {tp0 : Tok}
    {tp1 : Tok}
    {C : Addr}
    {fms : Addr} {odms anms : Option Addr} {slms : Array (Option Value)} {ocms kVms dcms pmms cdms ctms : Value}
    {HE NN BN NP NR : Addr}
    {fi Ti : Addr} {odi ani oTi : Option Addr} {sli sTi : Array (Option Value)} {oci kVi dci pmi cdi cti cTi : Value} {nTi : Nat}
    {tki0 : Tok}
    (a1 : PySem.W.nsIn K mainGlobals "is_whole" = some (some (.ref f1))) (l1 : K.lookup f1 = some ⟨oc1, od1, .func (PySem.W.fnOf "is_whole" "is_whole" (defArgs sIsWhole) (defBody sIsWhole) (defScope sIsWhole) .none kV1 dc1 pm1 an1 cd1 ct1), sl1⟩) (c1 : PySem.W.codeIn K cd1 "is_whole" = true) (k1 : PySem.W.keepIn K (.ref f1) = true)
    (a2 : PySem.W.nsIn K mainGlobals "common_divisor" = some (some (.ref f2))) (l2 : K.lookup f2 = some ⟨oc2, od2, .func (PySem.W.fnOf "common_divisor" "common_divisor" (defArgs sDivisor) (defBody sDivisor) (defScope sDivisor) .none kV2 dc2 pm2 an2 cd2 ct2), sl2⟩) (c2 : PySem.W.codeIn K cd2 "common_divisor" = true) (k2 : PySem.W.keepIn K (.ref f2) = true)
    (au1 : PySem.W.nsIn K mainGlobals "power" = some (some (.ref fu1))) (lu1 : K.lookup fu1 = some ⟨ocu1, odu1, .func (PySem.W.fnOf "power" "power" (defArgs sPower) (defBody sPower) (defScope sPower) .none kVu1 dcu1 pmu1 anu1 cdu1 ctu1), slu1⟩) (cu1 : PySem.W.codeIn K cdu1 "power" = true) (ku1 : PySem.W.keepIn K (.ref fu1) = true)
    (af : PySem.W.nsIn K mainGlobals "figures_of" = some (some (.ref ff))) (lf : K.lookup ff = some ⟨ocf, odf, .func (PySem.W.fnOf "figures_of" "figures_of" (defArgs sFigures) (defBody sFigures) (defScope sFigures) .none kVf dcf pmf anf cdf ctf), slf⟩) (cf : PySem.W.codeIn K cdf "figures_of" = true) (kf : PySem.W.keepIn K (.ref ff) = true)
    (ag1 : PySem.W.nsIn K mainGlobals "is_figures" = some (some (.ref fg1))) (lg1 : K.lookup fg1 = some ⟨ocg1, odg1, .func (PySem.W.fnOf "is_figures" "is_figures" (defArgs sIsFig) (defBody sIsFig) (defScope sIsFig) .none kVg1 dcg1 pmg1 ang1 cdg1 ctg1), slg1⟩) (cg1 : PySem.W.codeIn K cdg1 "is_figures" = true) (kg1 : PySem.W.keepIn K (.ref fg1) = true)
    (ag2 : PySem.W.nsIn K mainGlobals "number_of" = some (some (.ref fg2))) (lg2 : K.lookup fg2 = some ⟨ocg2, odg2, .func (PySem.W.fnOf "number_of" "number_of" (defArgs sNumOf) (defBody sNumOf) (defScope sNumOf) .none kVg2 dcg2 pmg2 ang2 cdg2 ctg2), slg2⟩) (cg2 : PySem.W.codeIn K cdg2 "number_of" = true) (kg2 : PySem.W.keepIn K (.ref fg2) = true)
    (ag3 : PySem.W.nsIn K mainGlobals "read_part" = some (some (.ref fg3))) (lg3 : K.lookup fg3 = some ⟨ocg3, odg3, .func (PySem.W.fnOf "read_part" "read_part" (defArgs sRead) (defBody sRead) (defScope sRead) .none kVg3 dcg3 pmg3 ang3 cdg3 ctg3), slg3⟩) (cg3 : PySem.W.codeIn K cdg3 "read_part" = true) (kg3 : PySem.W.keepIn K (.ref fg3) = true)
    (aw : PySem.W.nsIn K mainGlobals "_law_drawn" = some (some (.ref fw))) (lw : K.lookup fw = some ⟨ocw, odw, .func (PySem.W.fnOf "_law_drawn" "_law_drawn" (defArgs sDrawn) (defBody sDrawn) (defScope sDrawn) .none kVw dcw pmw anw cdw ctw), slw⟩) (cw : PySem.W.codeIn K cdw "_law_drawn" = true) (kw : PySem.W.keepIn K (.ref fw) = true)
    (aq1 : PySem.W.nsIn K mainGlobals "_law_low" = some (some (.ref fq1))) (lq1 : K.lookup fq1 = some ⟨ocq1, odq1, .func (PySem.W.fnOf "_law_low" "_law_low" (defArgs sLow) (defBody sLow) (defScope sLow) .none kVq1 dcq1 pmq1 anq1 cdq1 ctq1), slq1⟩) (cq1 : PySem.W.codeIn K cdq1 "_law_low" = true) (kq1 : PySem.W.keepIn K (.ref fq1) = true)
    (aq2 : PySem.W.nsIn K mainGlobals "_law_is" = some (some (.ref fq2))) (lq2 : K.lookup fq2 = some ⟨ocq2, odq2, .func (PySem.W.fnOf "_law_is" "_law_is" (defArgs sLIs) (defBody sLIs) (defScope sLIs) .none kVq2 dcq2 pmq2 anq2 cdq2 ctq2), slq2⟩) (cq2 : PySem.W.codeIn K cdq2 "_law_is" = true) (kq2 : PySem.W.keepIn K (.ref fq2) = true)
    (aq3 : PySem.W.nsIn K mainGlobals "_law_fraction" = some (some (.ref fq3))) (lq3 : K.lookup fq3 = some ⟨ocq3, odq3, .func (PySem.W.fnOf "_law_fraction" "_law_fraction" (defArgs sFraction) (defBody sFraction) (defScope sFraction) .none kVq3 dcq3 pmq3 anq3 cdq3 ctq3), slq3⟩) (cq3 : PySem.W.codeIn K cdq3 "_law_fraction" = true) (kq3 : PySem.W.keepIn K (.ref fq3) = true)
    (aq4 : PySem.W.nsIn K mainGlobals "_law_text" = some (some (.ref fq4))) (lq4 : K.lookup fq4 = some ⟨ocq4, odq4, .func (PySem.W.fnOf "_law_text" "_law_text" (defArgs sLText) (defBody sLText) (defScope sLText) .none kVq4 dcq4 pmq4 anq4 cdq4 ctq4), slq4⟩) (cq4 : PySem.W.codeIn K cdq4 "_law_text" = true) (kq4 : PySem.W.keepIn K (.ref fq4) = true)
    (aq5 : PySem.W.nsIn K mainGlobals "_law_is_figures" = some (some (.ref fq5))) (lq5 : K.lookup fq5 = some ⟨ocq5, odq5, .func (PySem.W.fnOf "_law_is_figures" "_law_is_figures" (defArgs sLFig) (defBody sLFig) (defScope sLFig) .none kVq5 dcq5 pmq5 anq5 cdq5 ctq5), slq5⟩) (cq5 : PySem.W.codeIn K cdq5 "_law_is_figures" = true) (kq5 : PySem.W.keepIn K (.ref fq5) = true)
    (aq6 : PySem.W.nsIn K mainGlobals "_law_read" = some (some (.ref fq6))) (lq6 : K.lookup fq6 = some ⟨ocq6, odq6, .func (PySem.W.fnOf "_law_read" "_law_read" (defArgs sLRead) (defBody sLRead) (defScope sLRead) .none kVq6 dcq6 pmq6 anq6 cdq6 ctq6), slq6⟩) (cq6 : PySem.W.codeIn K cdq6 "_law_read" = true) (kq6 : PySem.W.keepIn K (.ref fq6) = true)
    (aq7 : PySem.W.nsIn K mainGlobals "_law_told" = some (some (.ref fq7))) (lq7 : K.lookup fq7 = some ⟨ocq7, odq7, .func (PySem.W.fnOf "_law_told" "_law_told" (defArgs sLTold) (defBody sLTold) (defScope sLTold) .none kVq7 dcq7 pmq7 anq7 cdq7 ctq7), slq7⟩) (cq7 : PySem.W.codeIn K cdq7 "_law_told" = true) (kq7 : PySem.W.keepIn K (.ref fq7) = true)
    (aq8 : PySem.W.nsIn K mainGlobals "_law_right" = some (some (.ref fq8))) (lq8 : K.lookup fq8 = some ⟨ocq8, odq8, .func (PySem.W.fnOf "_law_right" "_law_right" (defArgs sLRight) (defBody sLRight) (defScope sLRight) .none kVq8 dcq8 pmq8 anq8 cdq8 ctq8), slq8⟩) (cq8 : PySem.W.codeIn K cdq8 "_law_right" = true) (kq8 : PySem.W.keepIn K (.ref fq8) = true)
    (aq9 : PySem.W.nsIn K mainGlobals "_law_bent" = some (some (.ref fq9))) (lq9 : K.lookup fq9 = some ⟨ocq9, odq9, .func (PySem.W.fnOf "_law_bent" "_law_bent" (defArgs sBent) (defBody sBent) (defScope sBent) .none kVq9 dcq9 pmq9 anq9 cdq9 ctq9), slq9⟩) (cq9 : PySem.W.codeIn K cdq9 "_law_bent" = true) (kq9 : PySem.W.keepIn K (.ref fq9) = true)
    (aL : PySem.W.nsIn K mainGlobals "law" = some (some (.ref fL))) (lL : K.lookup fL = some ⟨ocL, odL, .func (PySem.W.fnOf "law" "law" (defArgs sLaw) (defBody sLaw) (defScope sLaw) .none kVL dcL pmL anL cdL ctL), slL⟩) (cL : PySem.W.codeIn K cdL "law" = true) (kL : PySem.W.keepIn K (.ref fL) = true)
    (z0 : PySem.W.nsIn K mainGlobals "len" = some none)
    (z1 : PySem.W.nsIn K mainGlobals "range" = some none)
    (z2 : PySem.W.nsIn K mainGlobals "abs" = some none)
    (z3 : PySem.W.nsIn K mainGlobals "isinstance" = some none)
    (z4 : PySem.W.nsIn K mainGlobals "int" = some none)
    (z5 : PySem.W.nsIn K mainGlobals "bool" = some none)
    (z6 : PySem.W.nsIn K mainGlobals "divmod" = some none)
    (z7 : PySem.W.nsIn K mainGlobals "str" = some none)
    (z8 : PySem.W.nsIn K mainGlobals "reversed" = some none)
    (z9 : PySem.W.nsIn K mainGlobals "repr" = some none)
    (z10 : PySem.W.nsIn K mainGlobals "ValueError" = some none)
    (gp0 : PySem.W.nsIn K mainGlobals "PIECE" = some (some (.int 10000000000000000000000000000000000000000000000000000000000000000 tp0)))
    (gp1 : PySem.W.nsIn K mainGlobals "PIECE_FIGURES" = some (some (.int 64 tp1)))
    (gC : PySem.W.nsIn K mainGlobals "Part" = some (some (.ref C)))
    (C_pg : PySem.W.plainGet K C Str.empty = true)
    (C_hd : PySem.W.hasDictIn K C = true)
    (C_po : PySem.W.plainOver K C = true)
    (C_sa : PySem.W.findIn K (.ref C) "__setattr__" = some (some (.builtin "object.__setattr__")))
    (C_mk : PySem.W.makesIn K C = true)
    (C_kc : PySem.W.keepIn K (.ref C) = true)
    (C_ha : PySem.W.findIn K (.ref C) "__class__" = some (some (.builtin "object.__class__")))
    (C_hm : PySem.W.mroIn K C (.type "object") = some true)
    (q_hn : PySem.W.specialIn K (.builtin "object.__class__") "__get__" = some (some (.builtin "getset_descriptor.__get__")))
    (q_htk : PySem.W.takesIn K (.builtin "object.__class__") = some true)
    (C_n_top : PySem.W.findIn K (.ref C) "top" = some none)
    (C_n_bottom : PySem.W.findIn K (.ref C) "bottom" = some none)
    (mms : PySem.W.findIn K (.ref C) "__str__" = some (some (.ref fms)))
    (nms : PySem.W.isFn K (.ref fms) = true)
    (lms : K.lookup fms = some ⟨ocms, odms, .func (PySem.W.fnOf "__str__" "Part.__str__" (defArgs sPStr) (defBody sPStr) (defScope sPStr) .none kVms dcms pmms anms cdms ctms), slms⟩)
    (cms : PySem.W.codeIn K cdms "Part.__str__" = true)
    (kms : PySem.W.keepIn K (.ref fms) = true)
    (fmC : PySem.W.findIn K (.ref C) "__format__" = some (some (.builtin "object.__format__")))
    (si : PySem.W.subIn K (.ref C) (.type "str") = some false)
    (g_HE : PySem.W.nsIn K mainGlobals "HopError" = some (some (.ref HE)))
    (g_NN : PySem.W.nsIn K mainGlobals "NoNumber" = some (some (.ref NN)))
    (g_BN : PySem.W.nsIn K mainGlobals "ByNought" = some (some (.ref BN)))
    (g_NP : PySem.W.nsIn K mainGlobals "NoPace" = some (some (.ref NP)))
    (g_NR : PySem.W.nsIn K mainGlobals "NoRow" = some (some (.ref NR)))
    (d_HE : PySem.W.hasDictIn K HE = true)
    (t_HE : PySem.W.typeIn K (.ref HE) = some (.type "type"))
    (d_NN : PySem.W.hasDictIn K NN = true)
    (t_NN : PySem.W.typeIn K (.ref NN) = some (.type "type"))
    (d_BN : PySem.W.hasDictIn K BN = true)
    (t_BN : PySem.W.typeIn K (.ref BN) = some (.type "type"))
    (d_NP : PySem.W.hasDictIn K NP = true)
    (t_NP : PySem.W.typeIn K (.ref NP) = some (.type "type"))
    (d_NR : PySem.W.hasDictIn K NR = true)
    (t_NR : PySem.W.typeIn K (.ref NR) = some (.type "type"))
    (b_BN : PySem.W.subIn K (.ref BN) (.type "BaseException") = some true)
    (b_HE : PySem.W.subIn K (.ref HE) (.type "BaseException") = some true)
    (b_NN : PySem.W.subIn K (.ref NN) (.type "BaseException") = some true)
    (x_NN : PySem.W.excIn K NN [.type "ValueError", .type "Exception", .type "BaseException", .type "object"] "ValueError.__new__" = true)
    (k_NN : PySem.W.keepIn K (.ref NN) = true)
    (ga_NN : PySem.W.findIn K (.ref NN) "__getattribute__" = some (some (.builtin "BaseException.__getattribute__")))
    (gt_NN : PySem.W.findIn K (.ref NN) "__getattr__" = some none)
    (cl_NN : PySem.W.findIn K (.ref NN) "__class__" = some (some (.builtin "object.__class__")))
    (mo_NN : PySem.W.mroIn K NN (.type "object") = some true)
    (sv : PySem.W.subIn K (.ref NN) (.type "ValueError") = some true)
    (ai : PySem.W.findIn K (.ref C) "__init__" = some (some (.ref fi)))
    (ni : PySem.W.isFn K (.ref fi) = true)
    (li : K.lookup fi = some ⟨oci, odi, .func (PySem.W.fnOf "__init__" "Part.__init__" (defArgs sInit) (defBody sInit) (defScope sInit) (.ref Ti) kVi dci pmi ani cdi cti), sli⟩)
    (ci : PySem.W.codeIn K cdi "Part.__init__" = true)
    (ki : PySem.W.keepIn K (.ref fi) = true)
    (di : K.lookup Ti = some ⟨cTi, oTi, .seq #[.int 1 tki0] nTi, sTi⟩)
    (s_NN_HE : PySem.W.subIn K (.ref NN) (.ref HE) = some true)
    (s_NN_BN : PySem.W.subIn K (.ref NN) (.ref BN) = some false)
    (s_NN_NP : PySem.W.subIn K (.ref NN) (.ref NP) = some false)
    (e_NN_NP : NN ≠ NP)
    (s_NN_NR : PySem.W.subIn K (.ref NN) (.ref NR) = some false)
    (e_NN_NR : NN ≠ NR)
    : ∃ fd : FuncData, (∀ (s : Shared) (v : Value), BindsTo s fd ⟨[v], []⟩ [("_law_script", v)]) ∧ ∀ base : Heap, K.In base → base.Ns mainGlobals mg → FnOk l.prog w K mg base CX0 12 fa fd ["_law_script"] (spLaw K) := by
  have e := hfa.symm.trans (PySem.W.mg_of X G aL)
  cases e
  have F1 := fun_mk (st := sIsWhole) l1 c1 k1
  have b1 := F1.binds (ps := ["thing"]) fun _ _ _ _ _ _ us hl => match us, hl with | [_], _ => rfl
  have N1 := Fn.mk (ps := ["thing"]) F1 b1 (PySem.W.mg_of X G a1)
  have F2 := fun_mk (st := sDivisor) l2 c2 k2
  have b2 := F2.binds (ps := ["one", "other"]) fun _ _ _ _ _ _ us hl => match us, hl with | [_, _], _ => rfl
  have N2 := Fn.mk (ps := ["one", "other"]) F2 b2 (PySem.W.mg_of X G a2)
  have Fu1 := fun_mk (st := sPower) lu1 cu1 ku1
  have bu1 := Fu1.binds (ps := ["number", "many"]) fun _ _ _ _ _ _ us hl => match us, hl with | [_, _], _ => rfl
  have Nu1 := Fn.mk (ps := ["number", "many"]) Fu1 bu1 (PySem.W.mg_of X G au1)
  have Ff := fun_mk (st := sFigures) lf cf kf
  have bf := Ff.binds (ps := ["number"]) fun _ _ _ _ _ _ us hl => match us, hl with | [_], _ => rfl
  have Nf := Fn.mk (ps := ["number"]) Ff bf (PySem.W.mg_of X G af)
  have Fg1 := fun_mk (st := sIsFig) lg1 cg1 kg1
  have bg1 := Fg1.binds (ps := ["text"]) fun _ _ _ _ _ _ us hl => match us, hl with | [_], _ => rfl
  have Ng1 := Fn.mk (ps := ["text"]) Fg1 bg1 (PySem.W.mg_of X G ag1)
  have Fg2 := fun_mk (st := sNumOf) lg2 cg2 kg2
  have bg2 := Fg2.binds (ps := ["figures"]) fun _ _ _ _ _ _ us hl => match us, hl with | [_], _ => rfl
  have Ng2 := Fn.mk (ps := ["figures"]) Fg2 bg2 (PySem.W.mg_of X G ag2)
  have Fg3 := fun_mk (st := sRead) lg3 cg3 kg3
  have bg3 := Fg3.binds (ps := ["text"]) fun _ _ _ _ _ _ us hl => match us, hl with | [_], _ => rfl
  have Ng3 := Fn.mk (ps := ["text"]) Fg3 bg3 (PySem.W.mg_of X G ag3)
  have Fw := fun_mk (st := sDrawn) lw cw kw
  have bw := Fw.binds (ps := ["_law_cell", "_law_sizes"]) fun _ _ _ _ _ _ us hl => match us, hl with | [_, _], _ => rfl
  have Nw := Fn.mk (ps := ["_law_cell", "_law_sizes"]) Fw bw (PySem.W.mg_of X G aw)
  have Fq1 := fun_mk (st := sLow) lq1 cq1 kq1
  have bq1 := Fq1.binds (ps := ["_law_top", "_law_bottom"]) fun _ _ _ _ _ _ us hl => match us, hl with | [_, _], _ => rfl
  have Nq1 := Fn.mk (ps := ["_law_top", "_law_bottom"]) Fq1 bq1 (PySem.W.mg_of X G aq1)
  have Fq2 := fun_mk (st := sLIs) lq2 cq2 kq2
  have bq2 := Fq2.binds (ps := ["_law_found", "_law_due"]) fun _ _ _ _ _ _ us hl => match us, hl with | [_, _], _ => rfl
  have Nq2 := Fn.mk (ps := ["_law_found", "_law_due"]) Fq2 bq2 (PySem.W.mg_of X G aq2)
  have Fq3 := fun_mk (st := sFraction) lq3 cq3 kq3
  have bq3 := Fq3.binds (ps := ["_law_draws"]) fun _ _ _ _ _ _ us hl => match us, hl with | [_], _ => rfl
  have Nq3 := Fn.mk (ps := ["_law_draws"]) Fq3 bq3 (PySem.W.mg_of X G aq3)
  have Fq4 := fun_mk (st := sLText) lq4 cq4 kq4
  have bq4 := Fq4.binds (ps := ["_law_one"]) fun _ _ _ _ _ _ us hl => match us, hl with | [_], _ => rfl
  have Nq4 := Fn.mk (ps := ["_law_one"]) Fq4 bq4 (PySem.W.mg_of X G aq4)
  have Fq5 := fun_mk (st := sLFig) lq5 cq5 kq5
  have bq5 := Fq5.binds (ps := ["_law_text_here"]) fun _ _ _ _ _ _ us hl => match us, hl with | [_], _ => rfl
  have Nq5 := Fn.mk (ps := ["_law_text_here"]) Fq5 bq5 (PySem.W.mg_of X G aq5)
  have Fq6 := fun_mk (st := sLRead) lq6 cq6 kq6
  have bq6 := Fq6.binds (ps := ["_law_text_here"]) fun _ _ _ _ _ _ us hl => match us, hl with | [_], _ => rfl
  have Nq6 := Fn.mk (ps := ["_law_text_here"]) Fq6 bq6 (PySem.W.mg_of X G aq6)
  have Fq7 := fun_mk (st := sLTold) lq7 cq7 kq7
  have bq7 := Fq7.binds (ps := ["_law_text_here"]) fun _ _ _ _ _ _ us hl => match us, hl with | [_], _ => rfl
  have Nq7 := Fn.mk (ps := ["_law_text_here"]) Fq7 bq7 (PySem.W.mg_of X G aq7)
  have Fq8 := fun_mk (st := sLRight) lq8 cq8 kq8
  have bq8 := Fq8.binds (ps := ["_law_text_here"]) fun _ _ _ _ _ _ us hl => match us, hl with | [_], _ => rfl
  have Nq8 := Fn.mk (ps := ["_law_text_here"]) Fq8 bq8 (PySem.W.mg_of X G aq8)
  have Fq9 := fun_mk (st := sBent) lq9 cq9 kq9
  have bq9 := Fq9.binds (ps := ["_law_draws", "_law_one"]) fun _ _ _ _ _ _ us hl => match us, hl with | [_, _], _ => rfl
  have Nq9 := Fn.mk (ps := ["_law_draws", "_law_one"]) Fq9 bq9 (PySem.W.mg_of X G aq9)
  have y0 := PySem.W.mg_none_of X G z0
  have y1 := PySem.W.mg_none_of X G z1
  have y2 := PySem.W.mg_none_of X G z2
  have y3 := PySem.W.mg_none_of X G z3
  have y4 := PySem.W.mg_none_of X G z4
  have y5 := PySem.W.mg_none_of X G z5
  have y6 := PySem.W.mg_none_of X G z6
  have y7 := PySem.W.mg_none_of X G z7
  have y8 := PySem.W.mg_none_of X G z8
  have y9 := PySem.W.mg_none_of X G z9
  have y10 := PySem.W.mg_none_of X G z10
  have wp0 := PySem.W.mg_of X G gp0
  have wp1 := PySem.W.mg_of X G gp1
  have CLC : Cls K C := ⟨C_pg, C_hd, C_po, C_sa⟩
  have ICC : C8.InsC K C := ⟨CLC, C_ha, q_hn, q_htk, C_hm, kit_me⟩
  have Fms := fun_mk (st := sPStr) lms cms kms
  have bms := Fms.binds (ps := ["self"]) fun _ _ _ _ _ _ us hl => match us, hl with | [_], _ => rfl
  have Fi : FunD K "__init__" "Part.__init__" (defArgs sInit) (defBody sInit) (defScope sInit) [.int 1] [] fi _ := ⟨⟨oci, odi, _, _, _, _, _, _, _, sli, rfl, li, ci, .inr ⟨by simp, Ti, _, [.int 1 tki0], nTi, rfl, di, rfl, .cons (⟨_, rfl⟩) .nil⟩, .inl rfl⟩, ki⟩
  obtain ⟨dsi3, rri3, bi3⟩ := Fi.binds1 (ps := ["self", "top", "bottom"]) 3 1 (by simp) rfl (fun T kV doc pm an cdv ct us its hl hi => match us, its, hl, hi with | [_, _, _], [_], _, _ => ⟨_, rfl, rfl⟩)
  obtain rfl : dsi3 = [] := by cases rri3; rfl
  obtain ⟨dsi2, rri2, bi2⟩ := Fi.binds1 (ps := ["self", "top", "bottom"]) 2 0 (by simp) rfl (fun T kV doc pm an cdv ct us its hl hi => match us, its, hl, hi with | [_, _], [_], _, _ => ⟨_, rfl, rfl⟩)
  obtain ⟨d1i, rfl, r1i⟩ : ∃ d1, dsi2 = [d1] ∧ RelV (.int 1) d1 := by
    cases rri2 with
    | cons r rr =>
      cases rr
      exact ⟨_, rfl, r⟩
  have TF : TxtF mg := ⟨⟨_, wp0⟩, ⟨_, wp1⟩, y6, y7, y8, y9⟩
  have TN : TxtN mg := ⟨⟨_, wp1⟩, y7⟩
  have MK : Mks K mg C fi f1 f2 _ _ _ d1i := ⟨⟨C_mk, ai, ni, C_kc⟩, Fi, bi3, bi2, r1i, N1, N2⟩
  have XN : Xc K NN bmV "ValueError.__new__" := ⟨x_NN, k_NN, b_NN, t_NN, ⟨ga_NN, gt_NN, b_NN, d_NN, cl_NN, q_hn, q_htk, mo_NN⟩⟩
  have RD : RdD K mg C fi f1 f2 _ _ _ d1i fms _ NN := ⟨MK, ⟨_, _, Nu1⟩, ⟨_, _, Nf⟩, ⟨_, _, Ng1⟩, ⟨_, _, Ng2⟩, ⟨fmC, C_hm, mms, nms⟩, Fms, bms, PySem.W.mg_of X G g_NN, XN⟩
  have ZE : Ev K mg HE NN BN NP NR := ⟨PySem.W.mg_of X G g_HE, PySem.W.mg_of X G g_NN, PySem.W.mg_of X G g_BN, PySem.W.mg_of X G g_NP, PySem.W.mg_of X G g_NR, y10, XN, exmAny2 (PySem.W.exm_ref b_HE d_HE t_HE s_NN_HE) (PySem.W.exm_ref b_BN d_BN t_BN s_NN_BN), (HopR.kitAny_cons (kit_own e_NN_NP d_NP t_NP s_NN_NP) (HopR.kitAny_cons (kit_own e_NN_NR d_NR t_NR s_NN_NR) HopR.kitAny_nil)), HopR.kit_blt (by decide +kernel) sv⟩
  have LW : LwD K mg C fi f1 f2 _ _ _ d1i fms _ HE NN BN NP NR := ⟨RD, ZE, ⟨_, _, Ng3⟩, ⟨_, _, Nq5⟩, ⟨_, _, Nq1⟩, ⟨_, _, Nq6⟩, ⟨_, _, Nq7⟩, ⟨_, _, Nq2⟩⟩
  have DF : Df K mg C fi f1 f2 _ _ _ d1i fms _ HE NN BN NP NR := ⟨LW, ⟨_, _, Nw⟩, ⟨_, _, Nq3⟩, ⟨_, _, Nq4⟩, ⟨_, _, Nq9⟩, ⟨_, _, Nq8⟩, HopR.kit_blt (by decide +kernel) si⟩
  have T : TxtP K mg C := ⟨y0, y1, y2, y3, y4, y5, ICC, C_n_top, C_n_bottom, PySem.W.mg_of X G gC⟩
  exact ⟨PySem.W.fnOf "law" "law" (defArgs sLaw) (defBody sLaw) (defScope sLaw) .none kVL dcL pmL anL cdL ctL, fun s v => .of_eq rfl, fun base _ _ => ok_law (fun_mk (st := sLaw) lL cL kL) DF T TF TN⟩
end Hop
open PySem PySem.W PyProof.Rows in
set_option maxRecDepth 100000 in
set_option maxHeartbeats 0 in
theorem PySem.Challenge.cw_hopline_k04_parts_read_holds : PySem.Challenge.rw_hopline_k04_parts_read.Holds := by
  w_on; o_law; k_head; (case hw => w_witness2)
  k_fill
  refine L2.walk_of (l := PySem.Challenge.rw_hopline_k04_parts_read) (n := 63) (k := 12) (x := "_law_script") (CX := fun _ => L2.CX0) (sp := fun w => Hop.spLaw _) rfl (by decide) rfl ⟨rfl, by decide, by decide⟩ (fun w h Y => PySem.W.kIn_of Y) ?F (fun _ _ a ns hl _ hS => ⟨a, ns, rfl, hS, hl, fun _ => rfl⟩) (fun _ _ _ _ _ h => h)
  case F =>
    intro w mg fa h KX G hmg
    refine' Hop.all_mk KX G hmg ?u_a1 ?u_l1 ?u_c1 ?u_k1 ?u_a2 ?u_l2 ?u_c2 ?u_k2 ?u_au1 ?u_lu1 ?u_cu1 ?u_ku1 ?u_af ?u_lf ?u_cf ?u_kf ?u_ag1 ?u_lg1 ?u_cg1 ?u_kg1 ?u_ag2 ?u_lg2 ?u_cg2 ?u_kg2 ?u_ag3 ?u_lg3 ?u_cg3 ?u_kg3 ?u_aw ?u_lw ?u_cw ?u_kw ?u_aq1 ?u_lq1 ?u_cq1 ?u_kq1 ?u_aq2 ?u_lq2 ?u_cq2 ?u_kq2 ?u_aq3 ?u_lq3 ?u_cq3 ?u_kq3 ?u_aq4 ?u_lq4 ?u_cq4 ?u_kq4 ?u_aq5 ?u_lq5 ?u_cq5 ?u_kq5 ?u_aq6 ?u_lq6 ?u_cq6 ?u_kq6 ?u_aq7 ?u_lq7 ?u_cq7 ?u_kq7 ?u_aq8 ?u_lq8 ?u_cq8 ?u_kq8 ?u_aq9 ?u_lq9 ?u_cq9 ?u_kq9 ?u_aL ?u_lL ?u_cL ?u_kL ?u_z0 ?u_z1 ?u_z2 ?u_z3 ?u_z4 ?u_z5 ?u_z6 ?u_z7 ?u_z8 ?u_z9 ?u_z10 ?u_gp0 ?u_gp1 ?u_gC ?u_C_pg ?u_C_hd ?u_C_po ?u_C_sa ?u_C_mk ?u_C_kc ?u_C_ha ?u_C_hm ?u_q_hn ?u_q_htk ?u_C_n_top ?u_C_n_bottom ?u_mms ?u_nms ?u_lms ?u_cms ?u_kms ?u_fmC ?u_si ?u_g_HE ?u_g_NN ?u_g_BN ?u_g_NP ?u_g_NR ?u_d_HE ?u_t_HE ?u_d_NN ?u_t_NN ?u_d_BN ?u_t_BN ?u_d_NP ?u_t_NP ?u_d_NR ?u_t_NR ?u_b_BN ?u_b_HE ?u_b_NN ?u_x_NN ?u_k_NN ?u_ga_NN ?u_gt_NN ?u_cl_NN ?u_mo_NN ?u_sv ?u_ai ?u_ni ?u_li ?u_ci ?u_ki ?u_di ?u_s_NN_HE ?u_s_NN_BN ?u_s_NN_NP ?u_e_NN_NP ?u_s_NN_NR ?u_e_NN_NR
    (case u_a1 => k_is)
    (case u_l1 => k_is)
    (case u_c1 => k_is)
    (case u_k1 => k_is)
    (case u_a2 => k_is)
    (case u_l2 => k_is)
    (case u_c2 => k_is)
    (case u_k2 => k_is)
    (case u_au1 => k_is)
    (case u_lu1 => k_is)
    (case u_cu1 => k_is)
    (case u_ku1 => k_is)
    (case u_af => k_is)
    (case u_lf => k_is)
    (case u_cf => k_is)
    (case u_kf => k_is)
    (case u_ag1 => k_is)
    (case u_lg1 => k_is)
    (case u_cg1 => k_is)
    (case u_kg1 => k_is)
    (case u_ag2 => k_is)
    (case u_lg2 => k_is)
    (case u_cg2 => k_is)
    (case u_kg2 => k_is)
    (case u_ag3 => k_is)
    (case u_lg3 => k_is)
    (case u_cg3 => k_is)
    (case u_kg3 => k_is)
    (case u_aw => k_is)
    (case u_lw => k_is)
    (case u_cw => k_is)
    (case u_kw => k_is)
    (case u_aq1 => k_is)
    (case u_lq1 => k_is)
    (case u_cq1 => k_is)
    (case u_kq1 => k_is)
    (case u_aq2 => k_is)
    (case u_lq2 => k_is)
    (case u_cq2 => k_is)
    (case u_kq2 => k_is)
    (case u_aq3 => k_is)
    (case u_lq3 => k_is)
    (case u_cq3 => k_is)
    (case u_kq3 => k_is)
    (case u_aq4 => k_is)
    (case u_lq4 => k_is)
    (case u_cq4 => k_is)
    (case u_kq4 => k_is)
    (case u_aq5 => k_is)
    (case u_lq5 => k_is)
    (case u_cq5 => k_is)
    (case u_kq5 => k_is)
    (case u_aq6 => k_is)
    (case u_lq6 => k_is)
    (case u_cq6 => k_is)
    (case u_kq6 => k_is)
    (case u_aq7 => k_is)
    (case u_lq7 => k_is)
    (case u_cq7 => k_is)
    (case u_kq7 => k_is)
    (case u_aq8 => k_is)
    (case u_lq8 => k_is)
    (case u_cq8 => k_is)
    (case u_kq8 => k_is)
    (case u_aq9 => k_is)
    (case u_lq9 => k_is)
    (case u_cq9 => k_is)
    (case u_kq9 => k_is)
    (case u_aL => k_is)
    (case u_lL => k_is)
    (case u_cL => k_is)
    (case u_kL => k_is)
    (case u_z0 => k_is)
    (case u_z1 => k_is)
    (case u_z2 => k_is)
    (case u_z3 => k_is)
    (case u_z4 => k_is)
    (case u_z5 => k_is)
    (case u_z6 => k_is)
    (case u_z7 => k_is)
    (case u_z8 => k_is)
    (case u_z9 => k_is)
    (case u_z10 => k_is)
    (case u_gp0 => k_is)
    (case u_gp1 => k_is)
    (case u_gC => k_is)
    (case u_C_pg => k_is)
    (case u_C_hd => k_is)
    (case u_C_po => k_is)
    (case u_C_sa => k_is)
    (case u_C_mk => k_is)
    (case u_C_kc => k_is)
    (case u_C_ha => k_is)
    (case u_C_hm => k_is)
    (case u_q_hn => k_is)
    (case u_q_htk => k_is)
    (case u_C_n_top => k_is)
    (case u_C_n_bottom => k_is)
    (case u_mms => k_is)
    (case u_nms => k_is)
    (case u_lms => k_is)
    (case u_cms => k_is)
    (case u_kms => k_is)
    (case u_fmC => k_is)
    (case u_si => k_is)
    (case u_g_HE => k_is)
    (case u_g_NN => k_is)
    (case u_g_BN => k_is)
    (case u_g_NP => k_is)
    (case u_g_NR => k_is)
    (case u_d_HE => k_is)
    (case u_t_HE => k_is)
    (case u_d_NN => k_is)
    (case u_t_NN => k_is)
    (case u_d_BN => k_is)
    (case u_t_BN => k_is)
    (case u_d_NP => k_is)
    (case u_t_NP => k_is)
    (case u_d_NR => k_is)
    (case u_t_NR => k_is)
    (case u_b_BN => k_is)
    (case u_b_HE => k_is)
    (case u_b_NN => k_is)
    (case u_x_NN => k_exc)
    (case u_k_NN => k_is)
    (case u_ga_NN => k_is)
    (case u_gt_NN => k_is)
    (case u_cl_NN => k_is)
    (case u_mo_NN => k_is)
    (case u_sv => k_is)
    (case u_ai => k_is)
    (case u_ni => k_is)
    (case u_li => k_is)
    (case u_ci => k_is)
    (case u_ki => k_is)
    (case u_di => k_is)
    (case u_s_NN_HE => k_is)
    (case u_s_NN_BN => k_is)
    (case u_s_NN_NP => k_is)
    (case u_e_NN_NP => decide)
    (case u_s_NN_NR => k_is)
    (case u_e_NN_NR => decide)
