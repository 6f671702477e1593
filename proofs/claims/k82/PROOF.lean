import PyProof.Rows.All
import Wide.All
import OpenK.AllK
import Wide.FinOn
import HandS.ForMost
import HandS.Wide
import HandS.Style
import HandS.RevTup
import HandS.Rev
import HandS.IsInst
import HandS.More
import HandS.Conv
import HandS.Defaults
import HandS.ForExc
import HandS.OwnEq
import HandS.Flow
import PyProof.ListStr
import HandS.Walk
import HandS.EndBits
import PyProof.ReprRoads
import PyProof.ReprLen
import HandS.Exc
import HandS.ExcIs
import HandS.TryOnly
import HandS.ExcOwn
import HandS.WordsExc
import HandS.ReplaceLit
import HandS.ReplaceDef
import HandS.ReplaceList
import PySem.Challenge.RW_hopline_k82_no_rings_no_lines
import PyProof.TupleOfStr
import HandS.Deep
import KE.GoesZip
import KE.GoesMore
import PyProof.Draws
import PyProof.WalksT
import HandS.Lambda
import HandS.Nested
import HandS.EndTab
import HandS.EndOwn

set_option Elab.async false
set_option linter.all false
set_option maxRecDepth 100000
namespace HopR
open PySem PySem.Spec PyProof.Rows L2
/-! rules of my own: texts -/
/-- the signs of a text, each a text -/
def sg (z : Str) : List Str := z.cps.toList.map fun c => ⟨#[c]⟩
theorem sg_len (z : Str) : (sg z).length = z.length := by
  unfold sg
  rw [List.length_map]
  rfl
theorem sg_get {z : Str} {i : Nat} {c : Nat} (h : z.cps[i]? = some c) : (sg z)[i]? = some ⟨#[c]⟩ := by
  unfold sg
  rw [List.getElem?_map, Array.getElem?_toList, h]
  rfl
theorem strsAre_of : ∀ (vs : List Value) (ys : List Str), vs.length = ys.length → (∀ (j : Nat) (v : Value), vs[j]? = some v → ∃ y t, ys[j]? = some y ∧ v = .str y t) → StrsAre vs ys
  | [], [], _, _ => .nil
  | v :: r, y :: q, hl, h => by
    obtain ⟨y', t, e1, e2⟩ := h 0 v rfl
    have e3 : y = y' := Option.some.inj e1
    subst e3 e2
    exact .cons y t (strsAre_of r q (by simpa using hl) fun j w hw => h (j + 1) w hw)
theorem signs_are {z : Str} {acc : Array Value} (h : ItemsOf (SignAt z) acc z.cps.size) : StrsAre acc.toList (sg z) := by
  refine strsAre_of _ _ (by rw [sg_len, Array.length_toList, h.1]; rfl) fun j v hv => ?_
  obtain ⟨c, u, hc, e⟩ := h.2 j v (by rw [← Array.getElem?_toList]; exact hv)
  exact ⟨⟨#[c]⟩, u, sg_get hc, e⟩
section
variable {X : Cx}
/-- sorted(text) -/
def rSortT : List V → Hp → VK → Prop := fun vs H Q => ∃ z : Str, vs = [.str z] ∧ z.length < 64 ∧ ∀ (ys : List Str) (p : Addr), ys.Perm (sg z) → sortedS ys = true → H p = none → Q (.ref p) (upd H p (.lst (ys.map V.str)))
theorem cr_sortT (hcm : X.calm = true) : CallR X (.builtin "sorted") rSortT := by
  intro pins s σ H xs us Q I r h
  obtain ⟨z, rfl, h64, q⟩ := h
  obtain ⟨u, rfl, t, rfl⟩ := vals1 r
  refine Calls.call_function_entry kind_sorted plain_sorted entry_sorted (args_sorted1 (.str z t)) ?_
  unfold Builtin.«sorted»
  refine wpAny_bind (m := checkCount "sorted" 1 1 [Value.str z t].length) (wpAny_pure ?_)
  have hz : z.cps.size < 64 := h64
  refine wpAny_bind (wpAny_collect_str (A := X.A.in1) (show X.A.in1.handled = none from I.ok.hd hcm) z t (fun s' acc hk hg hdr hos hit => ?_) (Nat.le_trans (Nat.le_of_lt hz) (by decide)))
  have hS := signs_are hit
  have es : s' = { s with heap := s'.heap, toks := s'.toks } := by
    cases s'
    cases s
    simp only at hg hdr hos
    subst hg hdr hos
    rfl
  have hal : acc.toList.length < 64 := by rw [Array.length_toList, hit.1]; exact hz
  refine wpAny_bind (wpAny_newList ?_ (Nat.le_trans (Nat.le_of_lt hal) (by decide)))
  have hoL : (s'.heap.push (seqObj "list" acc.toList.toArray 0)).get? s'.heap.objs.size = some (seqObj "list" acc.toList.toArray 0) := Heap.get?_push_size _ rfl
  refine wpAny_bind (wpAny_holding (wpAny_call_entry slot_list_sort ⟨_, hoL, rfl⟩ entry_list_sort (list_sort_treeK strKind_oneLt hoL hS.keysOf (fun v₁ v₂ rest e => keyKind_strs (by rw [← e]; exact hS)) hal fun st' hp hs => ⟨_, rfl, ?_⟩) (args_list_sort _)))
  obtain ⟨ys, g1, g2, g3⟩ := sorted_out_str hS hp hs
  obtain ⟨ep, he'⟩ := sortedHeap_at (vs := acc.toList) (out := (arrOf st').map (·.2)) hoL
  have I1 : Inv X pins σ H s' := by
    rw [es]
    exact I.kept hk
  have hlen : (ys.map V.str).length ≤ sizeLine := by
    rw [List.length_map, g2.length_eq, sg_len]
    exact Nat.le_trans (Nat.le_of_lt h64) (by decide)
  have hne : ∀ b o, s'.heap.get? b = some o → (sortedHeap (s'.heap.push (seqObj "list" acc.toList.toArray 0)) s'.heap.objs.size acc.toList ((arrOf st').map (·.2))).get? b = some o := fun b o e => by
    rw [sortedHeap_old (Nat.ne_of_lt (Heap.lt_size e)) (by rw [size_push']; exact Nat.lt_succ_of_lt (Heap.lt_size e))]
    exact Heap.get?_push_of_some _ e
  refine wpAny_pure ⟨_, rfl, .ref _, upd H s'.heap.objs.size (.lst (ys.map V.str)), I1.laid (t' := s'.toks) hne (Nat.le_refl _) ?_, rfl, q ys _ g2 g3 (I1.hok.fresh (Nat.le_refl _))⟩
  exact ⟨hlen, ((arrOf st').map (·.2)).toList, ep, vals_of_strs g1, by rw [Array.toArray_toList]; exact he'⟩
/-- list(text) -/
def rListT : List V → Hp → VK → Prop := fun vs H Q => ∃ z : Str, vs = [.str z] ∧ z.length ≤ sizeLine ∧ ∀ p : Addr, H p = none → Q (.ref p) (upd H p (.lst ((sg z).map V.str)))
theorem cr_listT (hcm : X.calm = true) : CallR X (.type "list") rListT := by
  intro pins s σ H xs us Q I r h
  obtain ⟨z, rfl, hz, q⟩ := h
  obtain ⟨u, rfl, t, rfl⟩ := vals1 r
  refine call_list_str (I.ok.hd hcm) z t (fun h' tk acc c' hk hS' hit => ?_) hz
  refine ⟨.ref _, upd H s.heap.objs.size (.lst ((sg z).map V.str)), I.laid hk (Nat.le_refl _) ?_, rfl, q _ (I.hok.fresh (Nat.le_refl _))⟩
  exact ⟨by rw [List.length_map, sg_len]; exact hz, acc.toList, c', vals_of_strs (signs_are hit), by rw [Array.toArray_toList]; exact hS'⟩
/-- text * n -/
def repS (z : Str) (n : Nat) : Str := ⟨((List.replicate n z.cps.toList).flatten).toArray⟩
theorem foldl_app : ∀ (n : Nat) (a b : Array Nat), ((List.replicate n a).foldl (· ++ ·) b).toList = b.toList ++ (List.replicate n a.toList).flatten
  | 0, a, b => by simp
  | n + 1, a, b => by
    rw [List.replicate_succ, List.foldl_cons, foldl_app n, List.replicate_succ, List.flatten_cons, Array.toList_append, List.append_assoc]
theorem repS_len (z : Str) (k : Nat) : (repS z k).length = z.length * k := by
  show ((List.replicate k z.cps.toList).flatten).toArray.size = z.cps.size * k
  rw [List.size_toArray, List.length_flatten, List.map_replicate, List.sum_replicate_nat, Array.length_toList, Nat.mul_comm]
def rRepS : R2 := fun x y H Q => ∃ (z : Str) (k : Nat), x = .str z ∧ y = .int (k : Int) ∧ z.length * k ≤ 1000000 ∧ k ≤ 1000000 ∧ Q (.str (repS z k)) H
theorem op_repS : OpR X (binaryOp .Mult) rRepS := by
  intro pins s σ H x y v u Q I rx ry h
  obtain ⟨z, k, rfl, rfl, hz, hk, q⟩ := h
  obtain ⟨t, rfl⟩ := rx
  obtain ⟨t', rfl⟩ := ry
  refine PySem.P.mul_str ?_ ?_ ?_ ?_
  · rw [decide_eq_false (by omega), decide_eq_false (by omega)]
    rfl
  · intro h1 _
    have h0 : (0 : Int) < (k : Int) := by omega
    have h2 : ((z.length * k : Nat) : Int) ≤ 2 ^ 63 - 1 := by omega
    rw [Int.natCast_mul] at h2
    have h3 := (Int.le_ediv_iff_mul_le h0).mpr h2
    omega
  · intro _ _
    unfold Builtin.Str.tooLong
    rw [Int.toNat_natCast, sizeLine_eq]
    exact decide_eq_false (by omega)
  · by_cases h1 : (k : Int) < 1
    · rw [if_pos h1]
      have e : repS z k = Str.empty := by
        have : k = 0 := by omega
        subst this
        rfl
      rw [e] at q
      exact ⟨by decide, .str _, H, I.tok _, ⟨_, rfl⟩, q⟩
    · rw [if_neg h1]
      by_cases h2 : ((k : Int) == 1 || z.length == 0) = true
      · rw [if_pos h2]
        have e : repS z k = z := by
          rw [Bool.or_eq_true] at h2
          rcases h2 with h2 | h2
          · have h3 : (k : Int) = 1 := by simpa using h2
            have h4 : k = 1 := by omega
            subst h4
            unfold repS
            simp
          · have h3 : z.length = 0 := by simpa using h2
            have h4 : z.cps = #[] := Array.eq_empty_of_size_eq_zero h3
            unfold repS
            cases z with | mk zc =>
            simp only at h4
            subst h4
            simp
        rw [e] at q
        exact ⟨.str z, H, I, ⟨t, rfl⟩, q⟩
      · rw [if_neg h2]
        have e : (⟨(List.replicate (k : Int).toNat z.cps).foldl (· ++ ·) #[]⟩ : Str) = repS z k := by
          unfold repS
          rw [Int.toNat_natCast, ← Array.toArray_toList (xs := (List.replicate k z.cps).foldl (· ++ ·) #[]), foldl_app]
          rfl
        rw [e]
        have hl : (repS z k).length ≤ sizeLine := by
          rw [repS_len, sizeLine_eq]
          omega
        exact ⟨hl, .str _, H, I.tok _, ⟨_, rfl⟩, q⟩
/-- text[::-1] -/
def revS (z : Str) : Str := ⟨z.cps.toList.reverse.toArray⟩
theorem revS_len (z : Str) : (revS z).length = z.length := by
  show z.cps.toList.reverse.toArray.size = z.cps.size
  rw [List.size_toArray, List.length_reverse, Array.length_toList]
theorem rev_pick (z : Str) : (⟨((PySem.Builtin.Str.strSliceIndices none none (-1) z.length).filterMap (z.cps[·]?)).toArray⟩ : Str) = revS z := by
  unfold revS
  have e : PySem.Builtin.Str.strSliceIndices none none (-1) z.length = (List.range z.length).reverse := by
    rw [← PySem.W.krv_range, ← PySem.W.krv_sliceRange]
    rfl
  have e2 := PySem.W.krv_all z.cps
  rw [e, List.filterMap_reverse]
  show (⟨((List.range z.cps.size).filterMap (z.cps[·]?)).reverse.toArray⟩ : Str) = _
  rw [e2]
def tRevS (te : TE) : TE := fun σ H Q => te σ H fun x H1 => ∃ z : Str, x = .str z ∧ z.length ≤ sizeLine ∧ Q (.str (revS z)) H1
theorem pe_revS {e : Expr} {te : TE} {k : Nat} {p1 p2 p3 pos : Pos} (he : PE X e te) : PE X (.Subscript e (.Slice none none (some (.UnaryOp .USub (.Constant (.int 1) k p1) p2)) p3) pos) (tRevS te) := by
  refine ⟨fun pins s σ H Q I h => Subscript_ (thn (he.run pins s σ H _ I h) fun v s1 ⟨x, H1, I1, r1, z, ex, hz, q⟩ => ?_)⟩
  subst ex
  obtain ⟨t, rfl⟩ := r1
  have hst : PO X (some (.UnaryOp .USub (.Constant (.int 1) k p1) p2)) (tPart (tUn (rU fun i => .int (-i)) (tC (.int 1)))) := po_some (pe_un un_neg pe_int)
  refine wpAny_Slice (thn (po_none.run pins s1 σ H1 (fun o K2 => o = none ∧ K2 = H1) I1 ⟨rfl, rfl⟩) fun vl s2 ⟨l, H2, I2, pl, el, e2⟩ => ?_)
  subst el e2
  refine thn (po_none.run pins s2 σ H2 (fun o K3 => o = none ∧ K3 = H2) I2 ⟨rfl, rfl⟩) fun vu s3 ⟨u, H3, I3, pu, eu, e3⟩ => ?_
  subst eu e3
  refine thn (hst.run pins s3 σ H3 (fun o K4 => o = some (-1) ∧ K4 = H3) I3 ⟨1, rfl, -1, rfl, rfl, rfl⟩) fun vs s4 ⟨o, H4, I4, ps, eo, e4⟩ => ?_
  subst eo e4
  obtain ⟨l, rfl, hl⟩ := IsPart.raw pl
  obtain ⟨u, rfl, hu⟩ := IsPart.raw pu
  obtain ⟨st, rfl, hst'⟩ := IsPart.raw ps
  have I5 : Inv X pins σ H4 { s4 with heap := s4.heap.push { cls := .type "slice", data := .fields #[partValue l, partValue u, partValue st] } } := I4.kept (t' := s4.toks) fun b ob qq => Heap.get?_push_of_some _ qq
  show wpAny (model X.prog X.w) X.A (subscriptTail e (.Slice none none (some (.UnaryOp .USub (.Constant (.int 1) k p1) p2)) p3) (.str z t) (.ref s4.heap.objs.size)) (EP X pins σ Q) X.xe { s4 with heap := s4.heap.push { cls := .type "slice", data := .fields #[partValue l, partValue u, partValue st] } }
  refine tail_any (ops := [.ref s4.heap.objs.size, .str z t]) (T := "str") (typeIs_str _ _ _) F.slot_str_getitem.lookup ?_ (by with_unfolding_all rfl)
  refine wpAny_getItem_str_slice (l := l) (u := u) (st := st) (Heap.IsSliceOf.new ..) (by rw [hst']; decide) ?_
  have em : sliceMade z t l u st = .str (revS z) := by
    unfold sliceMade slicePicked
    rw [hst', hl, hu]
    rw [if_neg (by simp)]
    rw [← rev_pick z]
    rfl
  rw [em]
  exact ⟨by rw [revS_len]; exact hz, .str _, H4, I5.tok _, ⟨_, rfl⟩, q⟩
end
end HopR

set_option Elab.async false
set_option linter.all false
set_option maxRecDepth 100000
namespace HopR
open PySem PySem.Spec PyProof.Rows L2
/-! rows as lists of truths -/
def cd (b : Bool) : Nat := if b then 111 else 46
def tx (bs : List Bool) : Str := ⟨(bs.map cd).toArray⟩
theorem cd_inj {a b : Bool} (h : cd a = cd b) : a = b := by
  cases a <;> cases b <;> first | rfl | (exact absurd h (by decide))
theorem map_cd_inj : ∀ {as bs : List Bool}, as.map cd = bs.map cd → as = bs
  | [], [], _ => rfl
  | [], _ :: _, h => by simp at h
  | _ :: _, [], h => by simp at h
  | a :: r, b :: q, h => by
    rw [List.map_cons, List.map_cons] at h
    injection h with h1 h2
    rw [cd_inj h1, map_cd_inj h2]
theorem tx_inj {as bs : List Bool} (h : tx as = tx bs) : as = bs := by
  unfold tx at h
  injection h with h
  exact map_cd_inj (by simpa using congrArg Array.toList h)
theorem tx_len (bs : List Bool) : (tx bs).length = bs.length := by
  show (bs.map cd).toArray.size = bs.length
  rw [List.size_toArray, List.length_map]
theorem tx_list (bs : List Bool) : (tx bs).cps.toList = bs.map cd := rfl
theorem tx_get {bs : List Bool} {i : Nat} {b : Bool} (h : bs[i]? = some b) : (tx bs).cps[i]? = some (cd b) := by
  show (bs.map cd).toArray[i]? = some (cd b)
  rw [List.getElem?_toArray, List.getElem?_map, h]
  rfl
theorem ext_str {a b : Str} (h : a.cps.toList = b.cps.toList) : a = b := by
  cases a with | mk x =>
  cases b with | mk y =>
  have e : x = y := Array.toList_inj.mp h
  rw [e]
theorem tx_app (as bs : List Bool) : tx as ++ tx bs = tx (as ++ bs) := by
  apply ext_str
  show ((as.map cd).toArray ++ (bs.map cd).toArray).toList = (as ++ bs).map cd
  rw [Array.toList_append, List.map_append]
theorem tx_rev (bs : List Bool) : revS (tx bs) = tx bs.reverse := by
  unfold revS tx
  simp
theorem tx_sg (bs : List Bool) : sg (tx bs) = bs.map fun b => tx [b] := by
  unfold sg
  rw [tx_list, List.map_map]
  rfl
theorem tx_o : ("o" : Str) = tx [true] := by decide +kernel
theorem tx_f : ("." : Str) = tx [false] := by decide +kernel
/-- a row walked sign by sign: a turn's sign is the text of that place's truth -/
theorem walk_tx {bs : List Bool} : Walk (Its (tx bs)) bs.length (fun _ => True) (fun i H v H' => H' = H ∧ ∃ b, bs[i]? = some b ∧ v = .str (tx [b])) := by
  have w := walk_str (z := tx bs)
  rw [show (tx bs).cps.size = bs.length from tx_len bs] at w
  refine w.mono (fun _ g => g) fun i H x H' hi _ y => ?_
  obtain ⟨e1, c, e2, e3⟩ := y
  have hb : bs[i]? = some bs[i] := List.getElem?_eq_getElem hi
  rw [tx_get hb] at e2
  cases e2
  exact ⟨e1, _, hb, e3⟩
def for_tx {bs : List Bool} {g : TG} {tb : TS} {D : Ends} {σ : L2.St} {H : Hp} (Pv : Nat → L2.St → Hp → Prop) (h0 : Pv 0 σ H)
    (hs : ∀ i b σ H, bs[i]? = some b → Pv i σ H → g (.str (tx [b])) σ H fun σ2 H2 => tb { D with nx := Pv (i + 1), ct := Pv (i + 1), bk := D.nx } σ2 H2) (hd : ∀ σ H, Pv bs.length σ H → D.nx σ H) :=
  for_it (walk_tx (bs := bs)) (g := g) (tb := tb) (D := D) (σ := σ) (H := H) Pv h0 (fun _ _ _ _ _ => trivial)
    (fun i x σ H H' _ p y => by
      obtain ⟨e1, b, hb, e2⟩ := y
      subst e1 e2
      exact hs i b σ _ hb p) hd
def lc_tx {bs : List Bool} {g : TG} {tt : TT} {te : TE} {vs : List Nat} {σ : L2.St} {H1 : Hp} {D : Addr} {Qd : Hp → Prop} (Pv : Nat → Hp → Prop) (h0 : Pv 0 (upd H1 D (.lst [])))
    (hs : ∀ i b H, bs[i]? = some b → Pv i H → g (.str (tx [b])) (wipe σ vs) H fun σ2 H2 => wipe σ2 vs = wipe σ vs ∧ tt σ2 H2 fun kept H3 =>
      if kept = true then (te σ2 H3 fun y H4 => ∃ acc, H4 D = some (.lst acc) ∧ acc.length < sizeLine ∧ Pv (i + 1) (upd H4 D (.lst (acc ++ [y])))) else Pv (i + 1) H3)
    (hd : ∀ H, Pv bs.length H → Qd H) :=
  lc_it (walk_tx (bs := bs)) (g := g) (tt := tt) (te := te) (vs := vs) (σ := σ) (H1 := H1) (D := D) (Qd := Qd) Pv h0 (fun _ _ _ _ => trivial)
    (fun i x H H' _ p y => by
      obtain ⟨e1, b, hb, e2⟩ := y
      subst e1 e2
      exact hs i b _ hb p) hd
end HopR

set_option Elab.async false
set_option linter.all false
set_option maxRecDepth 100000
namespace HopR
open PySem PySem.Spec PyProof.Rows L2 TL
theorem joinL_nil : ∀ ps : List (List Nat), joinL [] ps = ps.flatten
  | [] => rfl
  | [p] => by
    show p = p ++ []
    rw [List.append_nil]
  | p :: q :: r => by
    show p ++ ([] ++ joinL [] (q :: r)) = p ++ (q :: r).flatten
    rw [List.nil_append, joinL_nil (q :: r)]
theorem join0_list (ys : List Str) : (Txt.join "" ys).cps.toList = (ys.map fun y => y.cps.toList).flatten := by
  have e : Txt.join "" ys = Str.join "" ys := PySem.StrLaws.glued_eq_join "" ys
  rw [e]
  have h := tl_join "" ys
  have h2 : tl ("" : Str) = [] := by decide +kernel
  rw [h2, joinL_nil] at h
  exact h
theorem join_tx (bs : List Bool) : Txt.join "" (bs.map fun b => tx [b]) = tx bs := by
  apply ext_str
  rw [join0_list, List.map_map, tx_list]
  induction bs with
  | nil => rfl
  | cons b r ih =>
    rw [List.map_cons, List.flatten_cons, ih]
    rfl
theorem sum_ones : ∀ bs : List Bool, ((bs.map fun b => tx [b]).map (·.length)).sum = bs.length
  | [] => rfl
  | b :: r => by
    rw [List.map_cons, List.map_cons, List.sum_cons, sum_ones r, tx_len]
    show 1 + r.length = r.length + 1
    omega
theorem join_fits {bs : List Bool} (h : bs.length ≤ 1000) : ((bs.map fun b => tx [b]).map (·.length)).sum + (bs.map fun b => tx [b]).length * ("" : Str).length ≤ 16777216 := by
  have e : ("" : Str).length = 0 := by decide +kernel
  rw [sum_ones, e, Nat.mul_zero]
  omega
theorem cut_tx (bs : List Bool) (lo hi : Option Int) : cutS (tx bs) lo hi = tx ((bs.drop (HT.sIx bs.length 0 lo)).take (HT.sIx bs.length bs.length hi - HT.sIx bs.length 0 lo)) := by
  apply ext_str
  unfold cutS
  rw [tx_len, tx_list, tx_list, List.map_take, List.map_drop]
theorem cut_to (bs : List Bool) (k : Nat) : cutS (tx bs) none (some (k : Int)) = tx (bs.take k) := by
  rw [cut_tx, HT.sIx_none, HT.sIx_nat, List.drop_zero, Nat.sub_zero]
  by_cases h : k ≤ bs.length
  · rw [Nat.min_eq_left h]
  · rw [Nat.min_eq_right (by omega), List.take_length, List.take_of_length_le (by omega)]
theorem cut_from (bs : List Bool) (k : Nat) : cutS (tx bs) (some (k : Int)) none = tx (bs.drop k) := by
  rw [cut_tx, HT.sIx_none, HT.sIx_nat]
  by_cases h : k ≤ bs.length
  · rw [Nat.min_eq_left h, List.take_of_length_le (by rw [List.length_drop]; exact Nat.le_refl _)]
  · rw [Nat.min_eq_right (by omega), List.drop_length, List.drop_of_length_le (by omega), List.take_nil]
theorem cut_at (bs : List Bool) (k m : Nat) : cutS (tx bs) (some (k : Int)) (some ((k : Int) + (m : Int))) = tx ((bs.drop k).take m) := by
  have e : ((k : Int) + (m : Int)) = ((k + m : Nat) : Int) := by omega
  rw [e, cut_tx, HT.sIx_nat, HT.sIx_nat]
  by_cases h : k ≤ bs.length
  · rw [Nat.min_eq_left h]
    by_cases h2 : k + m ≤ bs.length
    · rw [Nat.min_eq_left h2, Nat.add_sub_cancel_left]
    · rw [Nat.min_eq_right (by omega), List.take_of_length_le (by rw [List.length_drop]; exact Nat.le_refl _), List.take_of_length_le (by rw [List.length_drop]; omega)]
  · rw [Nat.min_eq_right (by omega), Nat.min_eq_right (by omega), List.drop_length, List.drop_of_length_le (by omega), List.take_nil, List.take_nil]
theorem cut_mid (bs : List Bool) (h : 2 ≤ bs.length) : cutS (tx bs) (some 1) (some (-1)) = tx ((bs.drop 1).take (bs.length - 2)) := by
  rw [cut_tx]
  have e1 : HT.sIx bs.length 0 (some 1) = 1 := by
    rw [show (some (1 : Int)) = some ((1 : Nat) : Int) from rfl, HT.sIx_nat]
    omega
  have e2 : HT.sIx bs.length bs.length (some (-1)) = bs.length - 1 := by
    show (if (-1 : Int) < 0 then ((-1 : Int) + (bs.length : Int)).toNat else min (-1 : Int).toNat bs.length) = bs.length - 1
    rw [if_pos (by decide)]
    omega
  rw [e1, e2]
  congr 2
/-! ### rows: walls, changes, the mirror -/
def ends (bs : List Bool) : List Bool := true :: (bs ++ [false])
theorem ends_len (bs : List Bool) : (ends bs).length = bs.length + 2 := by
  unfold ends
  rw [List.length_cons, List.length_append]
  rfl
def opn (bs : List Bool) (k : Nat) : Bool := decide (((ends bs).drop k).take 2 = [true, false])
def walls (bs : List Bool) : List Nat := (List.range (bs.length + 1)).filter (opn bs)
def bhd (bs : List Bool) (k : Nat) : List Bool := (ends bs).take k ++ [false] ++ [true] ++ (ends bs).drop (k + 2)
def chg (bs : List Bool) (k : Nat) : List Bool := ((bhd bs k).drop 1).take ((bhd bs k).length - 2)
def mir (bs : List Bool) : List Bool := bs.reverse.map (!·)
def num (bs : List Bool) : Int := bs.foldl (fun n b => n * 2 + (if b then 1 else 0)) 0
theorem mem_walls {bs : List Bool} {k : Nat} : k ∈ walls bs ↔ k ≤ bs.length ∧ opn bs k = true := by
  unfold walls
  rw [List.mem_filter, List.mem_range, Nat.lt_succ_iff]
theorem mir_len (bs : List Bool) : (mir bs).length = bs.length := by
  unfold mir
  rw [List.length_map, List.length_reverse]
theorem walls_len (bs : List Bool) : (walls bs).length ≤ bs.length + 1 := by
  unfold walls
  exact Nat.le_trans (List.length_filter_le _ _) (by rw [List.length_range]; exact Nat.le_refl _)
theorem bhd_len {bs : List Bool} {k : Nat} (h : k ≤ bs.length) : (bhd bs k).length = bs.length + 2 := by
  unfold bhd
  rw [List.length_append, List.length_append, List.length_append, List.length_take, List.length_drop, ends_len]
  show min k (bs.length + 2) + 1 + 1 + (bs.length + 2 - (k + 2)) = bs.length + 2
  omega
theorem chg_len {bs : List Bool} {k : Nat} (h : k ≤ bs.length) : (chg bs k).length = bs.length := by
  unfold chg
  rw [List.length_take, List.length_drop, bhd_len h]
  omega
end HopR

set_option Elab.async false
set_option linter.all false
set_option maxRecDepth 100000
namespace HopR
open PySem PySem.Spec PyProof.Rows L2
/-! ### defs that are called where no repr is under way -/
/-- the promise sp of the def at f, kept wherever it is called while no repr is under way -/
structure FnOkG (P : Program) (w : World) (K : PySem.W.Frag) (mg : Str → Option Value) (base : Heap) (CX : CXT) (k : Nat) (f : Addr) (fd : FuncData) (ps : List Str) (sp : Sp) : Prop where
  arity : ∀ {vs H Q E}, sp vs H Q E → vs.length = ps.length
  calls : ∀ {A : Around} {outer : List Env} {s : Shared} {H : Hp} {args : Args} {us : List Value} {vs : List V} {Q : VK} {E : XK}, A.guards = some [] → Room k A → Env0 P w K mg base A outer s H →
    BindsTo s fd args (ps.zip us) → Vals vs us → sp vs H Q E → codeAny (model P w) A (.call (.ref f) args) (CR CX outer P w H s Q E) s
section
variable {P : Program} {w : World} {K : PySem.W.Frag} {mg : Str → Option Value} {base : Heap}
theorem FnOkG.of {CX : CXT} {k : Nat} {f : Addr} {fd : FuncData} {ps : List Str} {sp : Sp} (F : FnOk P w K mg base CX k f fd ps sp) : FnOkG P w K mg base CX k f fd ps sp where
  arity h := F.len _ _ _ _ h
  calls _ room e0 bind vals prom := F.run _ _ _ _ _ _ _ _ _ room e0 bind vals prom
/-- what the body's end says to the caller -/
theorem ends_say {CX : CXT} {N : List Str} {qual : Str} {scope : Scope} {f : Addr} {cdv : Value} {A : Around} {outer : List Env} {s : Shared} {H : Hp} {Q : VK} {E : XK} {fl : Flow} {s' : Shared}
    (h : SP (cxOf CX P w K mg base N qual scope f cdv A outer s H E) [] { nx := fun _ H' => Q .non H', rt := Q } fl s') :
    match fl with | .ret u => CE outer P w H s Q u s' | .next => CE outer P w H s Q Value.none s' | _ => False := by
  match fl, h with
  | .ret u, ⟨v, σ', H', J, rv, g⟩ => exact ⟨v, H', J.os, J.bare, J.base, J.hok, rv, g⟩
  | .next, ⟨σ', H', J, g⟩ => exact ⟨V.non, H', J.os, J.bare, J.base, J.hok, rfl, g⟩
  | .brk, ⟨_, _, _, g⟩ => exact g
  | .cont, ⟨_, _, _, g⟩ => exact g
theorem okG {x qual : Str} {st : Stmt} {f : Addr} {fd : FuncData} {N ps : List Str} {k : Nat} {sp : Sp} (F : Fun K x qual st f fd) (S : FnScope N ps (defScope st)) (len : ∀ vs H Q E, sp vs H Q E → vs.length = ps.length)
    (body : ∀ (cdv : Value) (A : Around) (outer : List Env) (s : Shared) (H : Hp) (vs : List V) (Q : VK) (E : XK), A.guards = some [] → Room k (A.deeper (envOfC qual (defScope st) s.heap.objs.size f cdv)) → sp vs H Q E →
      ∃ t, PSs (cxOf CX0 P w K mg base N qual (defScope st) f cdv A outer s H E).nox (defBody st) t ∧ t { nx := fun _ H' => Q .non H', rt := Q } (start N vs) H) : FnOkG P w K mg base CX0 (k + 1) f fd ps sp where
  arity h := len _ _ _ _ h
  calls {A outer s H args us vs Q E} free room e0 bind vals prom := by
    obtain ⟨_, _, _, _, _, _, cdv, _, _, rfl, lk, code⟩ := F.ex
    have old : ∀ b o, base.get? b = some o → s.heap.get? b = some o := fun b o e => (e0.bs b o e).1
    have here := e0.mod.kin.keeps old
    obtain ⟨t, pr, rd⟩ := body cdv A outer s H vs Q E free (room.deeper _) prom
    have kinds : ∀ y ∈ ps.zip us, (defScope st).names.lookup y.1 = some .local ∨ ((defScope st).names.lookup y.1 = some .cell ∧ ((cellsFrom (s.heap.objs.size + 1) (defScope st).names []).lookup y.1).isSome = true) := by
      intro y hy
      have hp : y.1 ∈ ps := by
        obtain ⟨y1, y2⟩ := y
        exact (List.of_mem_zip hy).1
      exact (S.par _ hp).imp id fun g => ⟨g, PySem.W.cellsFrom_some _ _ _ (.inl g)⟩
    refine codeAny_call_function room.depth (here _ _ lk) rfl S.co S.gen rfl (PySem.W.codeRec_of here code) (bind _ _ _ _ ?_)
    refine wpAny_newFunctionEnv_cells S.kind kinds fun _ e s1 x => ?_
    cases e
    refine ⟨(e0.mod.nolimit.keeps old).keeps x.toInCall.keep, codeAny_func ?_⟩
    have run := pr.nox.run [] s1 _ H _ (inv_start S room.hd e0 (len _ _ _ _ prom) vals x) rd
    refine wpAny_mono run (fun fl s' h => ?_) fun _ _ z => z
    have said := ends_say h
    cases fl with
    | ret _ => exact said
    | next => exact said
    | brk => exact said.elim
    | cont => exact said.elim
end
section
variable {X : Cx} {CX : CXT} {k : Nat} {f : Addr} {fd : FuncData} {ps : List Str} {sp : Sp} {ds : List Value} {dvs : List V} {E : XK}
theorem after_call {pins : List (Addr × Obj)} {σ : L2.St} {H : Hp} {s : Shared} {Q : VK} (hx : Passes CX X E) (I : Inv X pins σ H s) {r : Except Value Flow} {s' : Shared} (h : CR CX X.stack X.prog X.w H s Q E r s') :
    match r with | .ok (.ret u) => EP X pins σ Q u s' | .ok _ => False | .error e => X.xe e s' := by
  match r, h with
  | .error e, h => exact hx pins σ H s e s' I h
  | .ok (.ret u), h => exact I.after h
  | .ok .next, h => exact h
  | .ok .brk, h => exact h
  | .ok .cont, h => exact h
variable {x : Str} {p pos : Pos} {e : Expr} {es : List Expr} {t : TA}
/-- f(e, ..) at a place where no repr is under way -/
theorem pe_callG (F : FnOkG X.prog X.w X.K X.mg X.base CX k f fd ps sp) (hG : X.A.guards = some []) (hr : Room k X.A) (hg : Gl X x) (hm : X.mg x = some (.ref f)) (hk : PySem.W.keepIn X.K (.ref f) = true) (hb : Binds X.K fd ps ds) (hd : Vals dvs ds) (hx : Passes CX X E)
    (ha : PA X (e :: es) t) (hdb : (x == ("__debug__" : Str)) = false := by decide)
    (he : starEach (e :: es) X.env = (false, eval e X.env) :: starEach es X.env := by rfl) (hpl : (backTo pos (starEach es X.env)).any (·.1) = false := by rfl) :
    PE X (.Call (.Name x p) (e :: es) [] pos) (tCall sp dvs E t) := by
  constructor
  intro pins s σ H Q I h
  refine wpAny_Call_Name_kw (ld_glob I hg hm (PySem.W.callWith_K (h₀ := X.base) I.ok.mod.kin hk (thn (ha.run pos pins s σ H _ I h) ?_) he hpl) hdb)
  rintro us s1 ⟨vs, H1, I1, vals, prom⟩
  have all := vals.append hd
  have size : (us ++ ds).length = ps.length := all.length.symm.trans (F.arity prom)
  refine ⟨I1.kIn, wpAny_call (codeAny_mono (F.calls hG hr I1.env0 (hb s1 us I1.kIn size) all prom) fun r s' h => ?_)⟩
  have := after_call hx I1 h
  cases r with
  | error e => exact this
  | ok fl => cases fl <;> exact this
/-! ### repr of data -/
def rReprD (K : PySem.W.Frag) : List V → Hp → VK → Prop := fun vs H Q => ∃ (v : V) (d : PyData), vs = [v] ∧ Dp K H v d ∧ d.showable = true ∧ d.hasDict = false ∧ d.depth ≤ 64 ∧ d.shown.length ≤ sizeLine ∧ Q (.str d.shown) H
theorem cr_reprD (hG : X.A.guards = some []) (hu : X.A.units + 66 < cLine) : CallR X (.builtin "repr") (rReprD X.K) := by
  rintro pins s σ H _ us Q I r ⟨v, d, rfl, hd, hs, hn, hdep, hz, q⟩
  obtain ⟨u, rfl, rv⟩ := vals1 r
  obtain ⟨as, rd⟩ := Dp.reads I d v u hd rv
  cases hd with
  | non =>
    cases rv
    exact P.repr_of_none ⟨.str _, H, I.tok _, ⟨_, rfl⟩, q⟩
  | bl b =>
    cases rv
    exact P.repr_of_bool ⟨.str _, H, I.tok _, ⟨_, rfl⟩, q⟩
  | int i =>
    obtain ⟨t, rfl⟩ := rv
    have hb : i.natAbs.log2 < 1920 := of_decide_eq_true (by simpa only [PyData.showable] using hs)
    exact P.repr_of_int hb ⟨.str _, H, I.tok _, ⟨_, rfl⟩, by simpa only [PyData.shown] using q⟩
  | str x =>
    obtain ⟨t, rfl⟩ := rv
    exact P.repr_of_str ⟨.str _, H, I.tok _, ⟨_, rfl⟩, by simpa only [PyData.shown] using q⟩ (by simpa only [PyData.shown] using hz)
  | lst h1 h2 =>
    cases rv
    exact repr_of_reads' rd hs (fun e => absurd (hn.symm.trans e) (by decide)) hG (by omega) (fun _ _ e => e) (fun h' t tk hk => ⟨.str _, H, I.kept hk, ⟨_, rfl⟩, q⟩) hz
  | tup h1 h2 =>
    cases rv
    exact repr_of_reads' rd hs (fun e => absurd (hn.symm.trans e) (by decide)) hG (by omega) (fun _ _ e => e) (fun h' t tk hk => ⟨.str _, H, I.kept hk, ⟨_, rfl⟩, q⟩) hz
end
/-! ### the end -/
section
variable (K : PySem.W.Frag) (a : Addr) (vs : List Value) (ns : List Int)
/-- the script as the heap has it -/
abbrev scrO : Obj := { cls := .type "list", data := .seq vs.toArray }
/-- tracked is the script alone, locked, and not even that where the top wrote it -/
def scrH : Hp := fun b => if b = a ∧ K.lookup a = none then some (.frz (scrO vs) (.lst (ns.map V.int))) else none
theorem scrH_or (b : Addr) : scrH K a vs ns b = none ∨ (b = a ∧ K.lookup a = none ∧ scrH K a vs ns b = some (.frz (scrO vs) (.lst (ns.map V.int)))) := by
  unfold scrH
  by_cases h : b = a ∧ K.lookup a = none
  · exact .inr ⟨h.1, h.2, if_pos h⟩
  · exact .inl (if_neg h)
theorem scrH_only : Only (scrH K a vs ns) := fun b => (scrH_or K a vs ns b).imp id fun ⟨_, _, e⟩ => ⟨_, _, e⟩
end
section
variable {P : Program} {w : World} {K : PySem.W.Frag} {a : Addr} {vs : List Value} {ns : List Int} {h : Heap}
theorem scrH_sq (kin : K.In h) (at_ : h.get? a = some (scrO vs)) (hi : IntsAre vs ns) (few : ns.length ≤ sizeLine) : SqL K (scrH K a vs ns) a (ns.map V.int) := by
  cases hk : K.lookup a with
  | none => exact .inl (.inr ⟨scrO vs, if_pos ⟨rfl, hk⟩⟩)
  | some o =>
    obtain rfl : o = scrO vs := Option.some.inj ((kin a o hk).symm.trans at_)
    exact .inr ⟨_, vs.toArray, _, hk, rfl, rfl, rfl, by rw [List.size_toArray, hi.length]; exact few, by simpa using vals_ints hi⟩
theorem scrH_ok (at_ : h.get? a = some (scrO vs)) (hi : IntsAre vs ns) (few : ns.length ≤ sizeLine) : HOk P w (scrH K a vs ns) h := by
  intro b u e
  rcases scrH_or K a vs ns b with n | ⟨rfl, _, y⟩
  · exact absurd (n.symm.trans e) (by simp)
  · cases y.symm.trans e
    refine ⟨at_, ?_, vs, _, vals_ints hi, at_⟩
    rw [List.length_map]
    exact few
/-- what isn't the script, and what the top wrote, stands also where the tracked is hidden -/
theorem scrH_base (at_ : h.get? a = some (scrO vs)) {b : Addr} {o : Obj} (e : h.get? b = some o) (q : o ≠ scrO vs ∨ K.lookup b ≠ none) : (hidT h (scrH K a vs ns)).get? b = some o := by
  refine hidT_get e ((scrH_or K a vs ns b).resolve_right ?_)
  rintro ⟨rfl, n, _⟩
  exact q.elim (fun z => z (Option.some.inj (e.symm.trans at_))) fun z => z n
theorem scrH_ns (at_ : h.get? a = some (scrO vs)) {b : Addr} {m : Str → Option Value} : h.Ns b m → (hidT h (scrH K a vs ns)).Ns b m := by
  rintro ⟨o, es, ep, e, dd, r⟩
  refine ⟨o, es, ep, scrH_base at_ e (.inl ?_), dd, r⟩
  rintro rfl
  exact absurd dd (by simp)
end
/-- a law whose promise holds where no repr is under way: nothing is, where it is called -/
theorem walk_ofG {l : PySem.W.OpenLaw} {n k : Nat} {q : Program} {loose : List Str} {XP : (Str → Option Value) → Heap → Prop} {YP : World → Heap → Prop} {d : DefRec} {K : Params → PySem.W.Frag} {sp : World → Sp} {x : Str}
    (most : l.most = some n) (few : n ≤ sizeLine) (plain : d.params.defaults = []) (room : Room k callerA) (top : ∀ (w : World) (h : Heap), YP w h → (K w.params).In h)
    (F : ∀ (w : World) (mg : Str → Option Value) (fa : Addr) (h : Heap), (K w.params).In h → h.Ns mainGlobals mg → mg d.name = some (.ref fa) →
      ∃ fd : FuncData, (∀ (s : Shared) (u : Value), BindsTo s fd ⟨[u], []⟩ [(x, u)]) ∧ ∀ base : Heap, (K w.params).In base → base.Ns mainGlobals mg → FnOkG l.prog w (K w.params) mg base CX0 k fa fd [x] (sp w))
    (prom : ∀ (w : World) (H : Hp) (a : Addr) (ns : List Int), ns.length ≤ n → (∀ z ∈ ns, Builtin.Int.intBits z ≤ 1048576) → Only H → SqL (K w.params) H a (ns.map V.int) → sp w [.ref a] H (fun v _ => v = .bl true) fun _ _ _ => False) :
    PySem.W.WalkO q loose XP YP l.row.toRowW d [] (fun f vs => PySem.call f vs) := by
  apply Att.attach_callB most plain
  intro w s₀ s₁ mg mb fa o pm cd doc a vs ns G Y _ _ _ hmg at_ isI size bits gens
  have kin := top w _ Y
  obtain ⟨fd, bind, hF⟩ := F w mg fa _ kin G.T.g hmg
  have few' := Nat.le_trans size few
  have ok : HOk l.prog w (scrH (K w.params) a vs ns) s₁.heap := scrH_ok at_ isI few'
  have kin' : (K w.params).In (hidT s₁.heap (scrH (K w.params) a vs ns)) := fun b o e => scrH_base at_ (kin b o e) (.inr (by rw [e]; simp))
  have g' := scrH_ns (K := K w.params) (ns := ns) at_ G.T.g
  obtain ⟨mc, lim1, lim2⟩ := G.T.nolimit
  have e0 : Env0 l.prog w (K w.params) mg (hidT s₁.heap (scrH (K w.params) a vs ns)) callerA [] s₁ (scrH (K w.params) a vs ns) :=
    ⟨rfl, ⟨kin', g', ⟨mb, scrH_ns at_ G.T.b, G.T.builtins⟩, ⟨mc, scrH_ns at_ lim1, lim2⟩⟩, fun _ _ => of_hidT, Nat.le_of_eq (hidT_size _ _), trivial, (by intro _ z; cases z), ok, AllBare.of_eq gens⟩
  refine codeAny_mono ((hF _ kin' g').calls (us := [.ref a]) (vs := [.ref a]) rfl room e0 (bind s₁ (.ref a)) (.cons rfl .nil) (prom w _ a ns size bits (scrH_only (K w.params) a vs ns) (scrH_sq kin at_ isI few'))) fun r s' h => ?_
  match r, h with
  | .error e, h => exact h.elim
  | .ok .next, h => exact h.elim
  | .ok .brk, h => exact h.elim
  | .ok .cont, h => exact h.elim
  | .ok (.ret u), ⟨v, H', os, bare, un, ok', rel, is⟩ =>
    have is : v = .bl true := is
    subst is
    cases (show u = Value.bool true from rel)
    refine ⟨rfl, OldK.of_keep ?_, os, bare⟩
    intro b o e
    rcases scrH_or (K w.params) a vs ns b with z | ⟨rfl, _, z⟩
    · exact un.keep b o e z (fun m => nomatch m) (by simp)
    · cases at_.symm.trans e
      exact (ok' _ _ (un.frzs _ _ _ z)).1
end HopR

set_option Elab.async false
set_option linter.all false
set_option maxRecDepth 100000
namespace HopR
open PySem PySem.Spec PyProof.Rows L2
theorem hu66 {A : Around} {k : Nat} (hr : Room k A) : A.units + 66 < cLine := by
  have := hr.un
  omega
/-! ### f(k = v, ..), no value by its place -/
section
variable {X : Cx} {CX : CXT} {k : Nat} {f : Addr} {fd : FuncData} {ps ks : List Str} {sp : Sp} {E : XK} {x : Str} {p pos : Pos} {kws : List Keyword} {tk : TA}
def tCallKw (m : Nat) (sp : Sp) (gV : List V → List V) (E : XK) (tk : TA) : TE := fun σ H Q => tk σ H fun zs H2 => zs.length = m ∧ sp (gV zs) H2 Q E
theorem pe_callKw {g : List Value → List Value} {gV : List V → List V} (F : FnOk X.prog X.w X.K X.mg X.base CX k f fd ps sp) (hr : Room k X.A) (hg : Gl X x) (hm : X.mg x = some (.ref f)) (hk : PySem.W.keepIn X.K (.ref f) = true)
    (hb : ∀ (s : Shared) (ws : List Value), X.K.In s.heap → ws.length = ks.length → BindsTo s fd ⟨[], ks.zip ws⟩ (ps.zip (g ws))) (hrel : ∀ {zs : List V} {ws : List Value}, Vals zs ws → Vals (gV zs) (g ws)) (hx : Passes CX X E) (hkw : PK X kws tk)
    (hall : (backToKw pos (keywordEach kws X.env)).all (·.1.isSome) = true := by rfl) (hks : (backToKw pos (keywordEach kws X.env)).filterMap (·.1) = ks := by rfl) (hdb : (x == ("__debug__" : Str)) = false := by decide)
    (hpl : ((backTo pos (starEach [] X.env)).any (·.1) || (backToKw pos (keywordEach kws X.env)).any (·.1.isNone)) = false := by rfl) :
    PE X (.Call (.Name x p) [] kws pos) (tCallKw ks.length sp gV E tk) := by
  refine ⟨fun pins s σ H Q I h => wpAny_Call_Name_kw (ld_glob I hg hm ?_ hdb)⟩
  refine PySem.W.callWith_KW0 (h₀ := X.base) I.ok.mod.kin hk hall (thn (hkw.run pos pins s σ H _ I h) fun ws s2 ⟨zs, H2, I2, rz, l2, q2⟩ => ⟨I2.kIn, ?_⟩) hpl
  rw [hks]
  refine wpAny_call (codeAny_mono (F.run X.A X.stack s2 H2 ⟨[], ks.zip ws⟩ (g ws) (gV zs) Q E hr I2.env0 (hb s2 ws I2.kIn (rz.length.symm.trans l2)) (hrel rz) q2) fun r s' hq => ?_)
  match r, hq with
  | .error e, hq => exact hx pins σ H2 s2 e s' I2 hq
  | .ok (.ret u), hq => exact I2.after hq
  | .ok .next, hq => exact hq.elim
  | .ok .brk, hq => exact hq.elim
  | .ok .cont, hq => exact hq.elim
end
/-! ### lists of small numbers as data -/
def wv (k : Nat) : V := .int (k : Int)
def dw (k : Nat) : PyData := PyData.int (k : Int)
theorem dp_walls {K : PySem.W.Frag} {H : Hp} : ∀ ks : List Nat, DpAll K H (ks.map wv) (ks.map dw)
  | [] => .nil
  | k :: r => .cons (.int _) (dp_walls r)
theorem lay_dw : ∀ ks : List Nat, PyData.canLayAll0 (ks.map dw) = true
  | [] => rfl
  | k :: r => by
    rw [List.map_cons]
    simp only [PyData.canLayAll0, lay_dw r, Bool.and_true]
    rfl
theorem deep_dw : ∀ ks : List Nat, PyData.depthAll (ks.map dw) = 0
  | [] => rfl
  | k :: r => by
    rw [List.map_cons]
    simp only [PyData.depthAll, deep_dw r]
    rfl
theorem shaped_ints (ks : List Nat) : SeqAt.shaped (.list (ks.map dw)) = true := by
  unfold SeqAt.shaped
  rw [Bool.and_eq_true]
  refine ⟨?_, decide_eq_true ?_⟩
  · simp only [PyData.canLay0, lay_dw]
  · simp only [PyData.depth, deep_dw]
    decide
theorem show_dw : ∀ ks : List Nat, (∀ k ∈ ks, k ≤ 30) → PyData.showableAll (ks.map dw) = true
  | [], _ => rfl
  | k :: r, h => by
    have hk := h k (List.mem_cons_self ..)
    have e : PyData.showable (dw k) = true := by
      show decide ((k : Int).natAbs.log2 < 1920) = true
      refine decide_eq_true (Nat.lt_of_le_of_lt (Nat.log2_le_self _) ?_)
      show k < 1920
      omega
    rw [List.map_cons]
    simp only [PyData.showableAll, e, show_dw r fun q hq => h q (List.mem_cons_of_mem _ hq), Bool.and_true]
theorem nodict_dw : ∀ ks : List Nat, PyData.hasDictAll (ks.map dw) = false
  | [] => rfl
  | k :: r => by
    rw [List.map_cons]
    simp only [PyData.hasDictAll, nodict_dw r, Bool.or_false]
    rfl
theorem text30 : ∀ k < 31, (PyData.shown (dw k)).length ≤ 2 := by decide +kernel
theorem shown_len : ∀ ks : List Nat, (∀ k ∈ ks, k ≤ 30) → ((PyData.shownAll (ks.map dw)).map (·.length)).sum ≤ 2 * ks.length ∧ (PyData.shownAll (ks.map dw)).length = ks.length
  | [], _ => ⟨Nat.le_refl _, rfl⟩
  | k :: r, h => by
    obtain ⟨h1, h2⟩ := shown_len r fun q hq => h q (List.mem_cons_of_mem _ hq)
    have hk := text30 k (by have := h k (List.mem_cons_self ..); omega)
    rw [List.map_cons]
    simp only [PyData.shownAll, List.map_cons, List.sum_cons, List.length_cons]
    omega
theorem ints_show {ks : List Nat} (h : ∀ k ∈ ks, k ≤ 30) (hl : ks.length ≤ 1000) : (PyData.list (ks.map dw)).showable = true ∧ (PyData.list (ks.map dw)).hasDict = false ∧ (PyData.list (ks.map dw)).depth ≤ 64 ∧ (PyData.list (ks.map dw)).shown.length ≤ sizeLine := by
  obtain ⟨h1, h2⟩ := shown_len ks h
  refine ⟨?_, ?_, ?_, ?_⟩
  · simp only [PyData.showable, show_dw ks h]
  · simp only [PyData.hasDict, nodict_dw]
  · simp only [PyData.depth, deep_dw]
    decide
  · simp only [PyData.shown]
    have h3 := listText_len_le (PyData.shownAll (ks.map dw))
    rw [sizeLine_eq]
    omega
/-! ### the law's own words of walls and changes -/
theorem opn_eq {bs : List Bool} {k : Nat} (h : k ≤ bs.length) : opn bs k = ((decide (k = 0) || bs.getD (k - 1) false) && (decide (k = bs.length) || !bs.getD k true)) := by
  have hl := ends_len bs
  have e1 : (ends bs)[k]?.getD false = (decide (k = 0) || bs.getD (k - 1) false) := by
    unfold ends
    cases k with
    | zero => rfl
    | succ j =>
      rw [List.getElem?_cons_succ, List.getElem?_append_left (by omega), List.getD_eq_getElem?_getD]
      simp
  have e2 : (ends bs)[k + 1]?.getD true = (decide (k ≠ bs.length) && bs.getD k true) := by
    unfold ends
    rw [List.getElem?_cons_succ]
    by_cases hk : k = bs.length
    · subst hk
      rw [List.getElem?_append_right (Nat.le_refl _)]
      simp
    · rw [List.getElem?_append_left (by omega), List.getD_eq_getElem?_getD, decide_eq_true hk]
      rfl
  have e3 : opn bs k = (((ends bs)[k]?.getD false) && !((ends bs)[k + 1]?.getD true)) := by
    have g1 : (ends bs)[k]? = some (ends bs)[k] := List.getElem?_eq_getElem (by omega)
    have g2 : (ends bs)[k + 1]? = some (ends bs)[k + 1] := List.getElem?_eq_getElem (by omega)
    have g3 : ((ends bs).drop k).take 2 = [(ends bs)[k], (ends bs)[k + 1]] := by
      rw [List.drop_eq_getElem_cons (by omega), List.drop_eq_getElem_cons (by omega)]
      rfl
    unfold opn
    rw [g3, g1, g2]
    show decide ([(ends bs)[k], (ends bs)[k + 1]] = [true, false]) = ((ends bs)[k] && !(ends bs)[k + 1])
    cases (ends bs)[k] <;> cases (ends bs)[k + 1] <;> rfl
  rw [e3, e1, e2]
  by_cases hk : k = bs.length
  · simp [hk]
  · simp [hk]
def lbeh (bs : List Bool) (k : Nat) : List Bool := if k < bs.length then (if 0 < k then bs.set (k - 1) false else bs).set k true else (if 0 < k then bs.set (k - 1) false else bs)
theorem lbeh_len (bs : List Bool) (k : Nat) : (lbeh bs k).length = bs.length := by
  unfold lbeh
  split <;> split <;> simp
theorem chg_get {bs : List Bool} {k i : Nat} (h : k ≤ bs.length) (hi : i < bs.length) : (chg bs k)[i]? = some (if i + 1 = k then false else if i = k then true else bs[i]) := by
  have hl := ends_len bs
  have hb := bhd_len h
  have he : (ends bs)[i + 1]? = some bs[i] := by
    unfold ends
    rw [List.getElem?_cons_succ, List.getElem?_append_left hi, List.getElem?_eq_getElem hi]
  unfold chg
  rw [List.getElem?_take_of_lt (by rw [hb]; omega), List.getElem?_drop, Nat.add_comm 1 i]
  unfold bhd
  rw [List.append_assoc, List.append_assoc]
  by_cases h1 : i + 1 < k
  · rw [List.getElem?_append_left (by rw [List.length_take]; omega), List.getElem?_take_of_lt h1, he, if_neg (by omega), if_neg (by omega)]
  · rw [List.getElem?_append_right (by rw [List.length_take]; omega), List.length_take, Nat.min_eq_left (by omega)]
    by_cases h2 : i + 1 = k
    · rw [if_pos h2, h2, Nat.sub_self]
      rfl
    · rw [if_neg h2]
      by_cases h3 : i = k
      · rw [if_pos h3, show i + 1 - k = 1 by omega]
        rfl
      · rw [if_neg h3]
        obtain ⟨m, hm⟩ : ∃ m, i + 1 - k = m + 2 := ⟨i + 1 - k - 2, by omega⟩
        rw [hm]
        show ((ends bs).drop (k + 2))[m]? = some bs[i]
        rw [List.getElem?_drop, show k + 2 + m = i + 1 by omega, he]
theorem lbeh_eq {bs : List Bool} {k : Nat} (h : k ≤ bs.length) : lbeh bs k = chg bs k := by
  apply List.ext_getElem?
  intro i
  by_cases hi : i < bs.length
  · rw [chg_get h hi]
    unfold lbeh
    have g : bs[i]? = some bs[i] := List.getElem?_eq_getElem hi
    have inner : (if 0 < k then bs.set (k - 1) false else bs)[i]? = some (if i + 1 = k then false else bs[i]) := by
      by_cases hk : 0 < k
      · rw [if_pos hk, List.getElem?_set]
        by_cases e : k - 1 = i
        · rw [if_pos e, if_pos (by omega), if_pos (by omega)]
        · rw [if_neg e, if_neg (by omega), g]
      · rw [if_neg hk, if_neg (by omega), g]
    have il : (if 0 < k then bs.set (k - 1) false else bs).length = bs.length := by
      split <;> simp
    by_cases hk : k < bs.length
    · rw [if_pos hk, List.getElem?_set]
      by_cases e : k = i
      · rw [if_pos e, if_pos (by rw [il]; exact hk), if_neg (by omega), if_pos e.symm]
      · rw [if_neg e, inner]
        by_cases e2 : i + 1 = k
        · rw [if_pos e2, if_pos e2]
        · rw [if_neg e2, if_neg e2, if_neg (fun z => e z.symm)]
    · rw [if_neg hk, inner]
      by_cases e2 : i + 1 = k
      · rw [if_pos e2, if_pos e2]
      · rw [if_neg e2, if_neg e2, if_neg (by omega)]
  · rw [List.getElem?_eq_none (by rw [lbeh_len]; omega), List.getElem?_eq_none (by rw [chg_len h]; omega)]
end HopR

set_option Elab.async false
set_option linter.all false
set_option maxRecDepth 100000
namespace HopR
open PySem PySem.Spec PyProof.Rows L2
/-! ### an exception that is kept behind its suite -/
/-- the exception at a, of the class cls, its dict d, kept as a value -/
def ExH (cls : Value) (d : Option Addr) (a : Addr) : HO := .ext fun h => ∃ (oe : Obj) (vs : Array Value), h.get? a = some oe ∧ Zc cls d oe ∧ oe.data = .fields vs
theorem exH_ok {P : Program} {w : World} {H : Hp} {h : Heap} {a : Addr} {cls : Value} {d : Option Addr} {oe : Obj} {vs : Array Value} (e : h.get? a = some oe) (z : Zc cls d oe) (q : oe.data = .fields vs) : ObjOk P w H h a (ExH cls d a) :=
  ⟨⟨oe, vs, e, z, q⟩, ⟨oe, e⟩, fun _ _ ⟨o, v, q, r⟩ k => ⟨o, v, k o q, r⟩⟩
section
variable {X : Cx} {pins : List (Addr × Obj)} {σ σ0 : L2.St} {H H0 : Hp} {s sI : Shared} {a : Addr} {oe : Obj} {vs : Array Value} {o : HO}
/-- an object that came behind the entry is tracked from now on -/
theorem track (I : Inv X pins σ H s) (J : Inv X pins σ0 H0 sI) (hI : sI.heap.get? a = none) (hx : X.ex = []) (na : H a = none) (nL : a ≠ X.env.locals) (ha : s.heap.get? a = some oe) (hd : oe.data = .fields vs) (new : ObjOk X.prog X.w (upd H a o) s.heap a o) : Inv X pins σ (upd H a o) s := by
  have n0 : ∀ b u, X.s_0.heap.get? b = some u → b ≠ a := by
    intro b u e z
    subst z
    obtain ⟨u2, q⟩ := J.base.there b u e (by rw [hx]; exact fun z => nomatch z)
    rw [hI] at q
    cases q
  have nN : ∀ {b : Addr} {u : HO}, H b = some u → b ≠ a := fun e => ne_of_none e na
  have bs := I.base
  refine ⟨I.ok, I.os, I.bare, ⟨bs.keep, bs.slot, ?_, bs.there, ?_, ?_, ?_⟩, I.loc, I.cell, ?_, ?_, ?_, ?_, I.len⟩
  · intro b u e n q
    rw [upd_ne (n0 b u e)]
    exact bs.free b u e n q
  · intro b xs e
    have q := bs.tups b xs e
    rw [upd_ne (nN q)]
    exact q
  · intro b ob u e
    have q := bs.frzs b ob u e
    rw [upd_ne (nN q)]
    exact q
  · intro b ps e
    obtain ⟨m, q⟩ := bs.tbls b ps e
    exact ⟨m, by rw [upd_ne (nN q)]; exact q⟩
  · rw [upd_ne nL.symm]
    exact I.free
  · intro x c e
    have nc : c ≠ a := by
      intro z
      subst z
      obtain ⟨v, oc, e1, e2⟩ := I.cell x c e
      rw [ha] at e1
      cases e1
      rw [hd] at e2
      cases e2
    rw [upd_ne nc]
    exact I.freeC x c e
  · intro p hp
    have np : p.1 ≠ a := by
      intro z
      have q := (J.pin p hp).1
      rw [z, hI] at q
      cases q
    obtain ⟨e, n, r⟩ := I.pin p hp
    exact ⟨e, by rw [upd_ne np]; exact n, r⟩
  · intro b u e
    by_cases hb : b = a
    · subst hb
      rw [upd_same] at e
      cases e
      exact new
    · rw [upd_ne hb] at e
      refine (I.hok b u e).stay (fun c v _ q => q) (fun c q => ?_) (fun c xs q => ?_)
      · rw [upd_ne (nN q)]
        exact q
      · rw [upd_ne (nN q)]
        exact q
end
theorem fly_keeps {B h h' : Heap} {l : List Env} {a : Addr} {Z : Obj → Prop} (x : HandSPX.FlyingZ B l a Z h) (k : ∀ b o, h.get? b = some o → h'.get? b = some o) : HandSPX.FlyingZ B l a Z h' := by
  obtain ⟨x1, x2, x3, oe, vs, T, oT, ts, e1, e2, e3, e4, e5, e6, e7, e8, e9⟩ := x
  exact ⟨fun b o e => k b o (x1 b o e), x2, x3.of_keeps (fun b o e _ => ⟨o, k b o e, rfl⟩), oe, vs, T, oT, ts, k _ _ e1, e2, e3, e4, e5, e6, k _ _ e7, e8, e9⟩
/-- the clause's test takes the exceptions whose class has m -/
def Tests (X : Cx) (t : Expr) (m : Value → Prop) : Prop :=
  ∀ (a : Addr) (oe : Obj) (pn pins : List (Addr × Obj)) (σ : L2.St) (H : Hp) (s : Shared) (cls : Value) (Q : Value → Shared → Prop) (E : Value → Shared → Prop), Inv (X.suite a ((a, oe) :: pn)) pins σ H s → s.heap.get? a = some oe → oe.cls = cls → m cls →
    (∀ (c : Value) (h' : Heap), (∀ b o, s.heap.get? b = some o → h'.get? b = some o) → PySem.W.Looks (model X.prog X.w) h' (excMatches (.ref a) c) true → Q c { s with heap := h' }) → wpAny (model X.prog X.w) (X.A.mark (some (.ref a))) (eval t X.env) Q E s
theorem ld_nm {X : Cx} {x : Str} {c : Value} {pins : List (Addr × Obj)} {σ : L2.St} {H : Hp} {s : Shared} {Q : Value → Shared → Prop} {E : Value → Shared → Prop} {p : Pos} (I : Inv X pins σ H s) (hc : Names X x c) (q : Q c s) : wpAny (model X.prog X.w) X.A (eval (.Name x p) X.env) Q E s := by
  obtain ⟨g, nd, h | ⟨h1, h2, h3⟩⟩ := hc
  · exact ld_glob I g h q nd
  · exact ld_blt I g h1 h2 q h3 nd
theorem ty_looks {P : Program} {w : World} {h : Heap} {a : Addr} {oe : Obj} {cls : Value} (e : h.get? a = some oe) (c : oe.cls = cls) : PySem.W.Looks (model P w) h (typeOf (.ref a)) cls := by
  intro A Q E s k q
  exact wpAny_typeOf_ref (k _ _ e) (by rw [c]; exact q)
theorem tests_one {X : Cx} {x : Str} {c : Value} {p : Pos} (hc : Names X x c) : Tests X (.Name x p) fun cls => PySem.W.exmOne X.K cls c = some true := by
  intro a oe pn pins σ H s cls Q E I ha hcl hm k
  exact ld_nm (X := X.suite a ((a, oe) :: pn)) I hc (k c s.heap (fun _ _ z => z) (PySem.W.exm_one I.kIn (ty_looks ha hcl) hm))
theorem tests_two {X : Cx} {x1 x2 : Str} {c1 c2 : Value} {p1 p2 pos : Pos} {u} (h1 : Names X x1 c1) (h2 : Names X x2 c2) : Tests X (.Tuple [.Name x1 p1, .Name x2 p2] u pos) fun cls => PySem.W.exmAny X.K cls [c1, c2] = some true := by
  intro a oe pn pins σ H s cls Q E I ha hcl hm k
  refine wpAny_Tuple_spliced ?_
  refine Calls.spliced_cons (ld_nm (X := X.suite a ((a, oe) :: pn)) I h1 ?_)
  refine Calls.spliced_cons (ld_nm (X := X.suite a ((a, oe) :: pn)) I h2 (Calls.spliced_nil ⟨by show 2 ≤ sizeLine; decide, ?_⟩))
  have hk : ∀ b o, s.heap.get? b = some o → (s.heap.push { cls := .type "tuple", data := .seq [c1, c2].toArray }).get? b = some o := fun b o e => Heap.get?_push_of_some _ e
  refine k (.ref s.heap.objs.size) _ hk ?_
  exact PySem.W.exm_tup2 (fun b o e => hk b o (I.kIn b o e)) (ty_looks (hk _ _ ha) hcl) (Heap.get?_push_size _ rfl) hm
/-- what 'except .. as n: v = n' wishes of an exception of the body: it is taken, and kept in slot j; slot i, n's, is empty behind it -/
def wHeld (m : Value → Prop) (i j : Nat) (D : Ends) : WX := fun cls d σ H => m cls ∧ ∀ a, H a = none → D.nx (((σ.set i (some (.ref a))).set j (some (.ref a))).set i none) (upd H a (ExH cls d a))
section
variable {X : Cx} {n v : Str} {i j : Nat} {t : Expr} {m : Value → Prop} {body : List Stmt} {pos pos' p1 p2 p3 : Pos} {tb : WX → TS}
theorem ps_try_held (hs : X.stack = X.env :: X.outer) (hf : X.env.frame = some X.env.locals) (hN : X.N.Nodup) (hi : X.N[i]? = some n) (hj : X.N[j]? = some v) (hln : X.env.kindOf n = some .local) (hlv : X.env.kindOf v = some .local) (hx : X.ex = []) (ht : Tests X t m)
    (hb : ∀ (W : WX) (pn : List (Addr × Obj)) (xe : Value → Shared → Prop), Takes (X.tr pn xe) W → PassesOwn (model X.prog X.w) X.A X.env xe → PSs (X.tr pn xe) body (tb W))
    (hsu : ∀ (a : Addr) (oe : Obj) (pn : List (Addr × Obj)), PSs (X.suite a ((a, oe) :: pn)) [.Assign [.Name v p1] (.Name n p2) p3] (tAsg (tVar i) (gName j))) :
    PS X (.Try body [.ExceptHandler (some t) (some n) [.Assign [.Name v p1] (.Name n p2) p3] pos'] [] [] pos) (fun D σ H => tb (wHeld m i j D) D σ H) := by
  constructor
  intro pins s σ H D I h
  have ok := I.ok
  have frm : X.A.frames = some (X.env :: X.outer) := ok.frames.trans (congrArg some hs)
  have body_ := hb (wHeld m i j D) (X.pn ++ pins) (fun e s₁ => wpAny (model X.prog X.w) X.A (noteFrame e X.env) (fun _ s₂ => wpAny (model X.prog X.w) X.A (setFlight e none) (fun _ s₃ => wpAny (model X.prog X.w) X.A (handleBy e X.env [.ExceptHandler (some t) (some n) [.Assign [.Name v p1] (.Name n p2) p3] pos']) (SP X pins D) X.xe s₃) X.xe s₂) X.xe s₁) ?caught PassesOwn.looking
  · refine wpAny_Try_except (wpAny_mono (body_.run [] s σ H D (I.toTry _) h) ?_ fun _ _ z => z)
    intro f s1 hsp
    match f, hsp with
    | .next, ⟨σ', H', J', q⟩ => exact wpAny_execs_nil ⟨σ', H', J'.ofTry ok, q⟩
    | .brk, ⟨σ', H', J', q⟩ => exact ⟨σ', H', J'.ofTry ok, q⟩
    | .cont, ⟨σ', H', J', q⟩ => exact ⟨σ', H', J'.ofTry ok, q⟩
    | .ret u, ⟨v, σ', H', J', r, q⟩ => exact ⟨v, σ', H', J'.ofTry ok, r, q⟩
  case caught =>
    rintro u s' ⟨a, B, sI, pins', σ', H', cls, d, rfl, J', nb, up, sky, na, os, ag, hm, hk⟩
    have J : Inv X pins σ' H' sI := J'.ofTry ok
    have sk2 : Sky B (X.env :: X.outer) a (Zc cls d) X.env.locals s'.heap := hs ▸ sky
    show wpAny (model X.prog X.w) X.A (noteFrame (.ref a) X.env) _ _ _
    refine Sky.land Zc.steady frm hf sk2 fun h3 fl3 up3 => ?_
    have notF : ∀ {g : Heap}, HandSPX.FlyingZ B (X.env :: X.outer) a (Zc cls d) g → a ∉ frs (X.env :: X.outer) := by
      intro g fl hmem
      obtain ⟨o1, v1, e1, _, e3⟩ := fl.there
      obtain ⟨_, o2, e2, hn2⟩ := fl.2.2.1.mem hmem
      rw [e1] at e2
      cases e2
      exact hn2 _ e3
    have nfr := notF fl3
    have nL : a ≠ X.env.locals := by
      intro z
      exact nfr (List.mem_filterMap.mpr ⟨X.env, List.mem_cons_self, hf.trans (congrArg some z.symm)⟩)
    have nF : a ∉ X.fs := by
      intro z
      obtain ⟨e, he, q⟩ := List.mem_filterMap.mp z
      exact nfr (List.mem_filterMap.mpr ⟨e, List.mem_cons_of_mem _ he, q⟩)
    have nI : sI.heap.get? a = none := by
      cases e : sI.heap.get? a with
      | none => rfl
      | some o =>
        have q := nb a o e (by rw [hs]; exact nfr)
        rw [fl3.2.1] at q
        cases q
    obtain ⟨oe3, vs3, he3, hz3, hd3⟩ := fl3.there
    have J3 : Inv X pins σ' H' { s' with heap := h3 } := J.landed nb fl3.1 (up.trans up3) os ag
    refine wpAny_handleBy_cons (codeAny_handlers_test ?_) (fun q => nomatch q)
    refine ht a oe3 _ _ _ _ _ cls _ _ (J3.suite he3 hd3 na nL nF) he3 hz3.1 hm fun c h' kp lk => lk.here ?_
    refine codeAny_handlers_suite_as (HandSPX.lands_againZ (fly_keeps fl3 kp) fun h4 fl4 up4 => ?_)
    have upA : sI.heap.UpToSlots h4 := ((up.trans up3).trans (Heap.UpToSlots.of_keeps kp)).trans up4
    have J4 : Inv X pins σ' H' { s' with heap := h4 } := J.landed nb fl4.1 upA os ag
    obtain ⟨oe4, vs4, he4, hz4, hd4⟩ := fl4.there
    refine store_ok (X := X.suite a ((a, oe4) :: (X.pn ++ pins))) (v := .ref a) (J4.suite he4 hd4 na nL nF) hN hi (.inl hln) rfl (fun s5 S5 => ?_) (.inr hln)
    have hlen : i < σ'.length := by
      rw [J.len]
      exact (List.getElem?_eq_some_iff.mp hi).1
    refine wpAny_mono ((hsu a oe4 (X.pn ++ pins)).run [] s5 _ H' { nx := fun σ6 H6 => σ6 = (σ'.set i (some (.ref a))).set j (some (.ref a)) ∧ H6 = H', rt := fun _ _ => False } S5 ?_) (fun f s6 hsp => ?_) (fun _ _ z => False.elim z)
    · exact ⟨.ref a, by simp [hlen], rfl, rfl⟩
    match f, hsp with
    | .next, ⟨σ6, H6, S6, e6, e7⟩ =>
      subst e6 e7
      refine gone_ok (X := X.suite a ((a, oe4) :: (X.pn ++ pins))) S6 hN hi hln fun s7 S7 => ?_
      have ha7 := (S7.pin (a, oe4) (List.mem_append_left _ List.mem_cons_self)).1
      exact ⟨_, _, track (S7.unsuite ok) J nI hx na nL ha7 hd4 (exH_ok ha7 hz4 hd4), hk a na⟩
    | .brk, ⟨_, _, _, z⟩ => exact z.elim
    | .cont, ⟨_, _, _, z⟩ => exact z.elim
    | .ret u, ⟨_, _, _, _, _, z⟩ => exact z.elim
end
end HopR

set_option Elab.async false
set_option linter.all false
set_option maxRecDepth 100000
namespace HopR
open PySem PySem.Spec PyProof.Rows L2
/-! ### isinstance of a kept exception without a dict -/
section
variable {X : Cx}
theorem held_at {pins : List (Addr × Obj)} {σ : L2.St} {H : Hp} {s : Shared} {a D : Addr} (I : Inv X pins σ H s) (ha : H a = some (ExH (.ref D) none a)) : ∃ oe, PySem.W.InstAt s.heap a oe D none := by
  obtain ⟨⟨oe, vs, e, ⟨z1, z2⟩, q⟩, _, _⟩ := I.hok a _ ha
  obtain ⟨oc, od, oda, osl⟩ := oe
  dsimp only at z1 z2 q
  subst z1 z2 q
  exact ⟨_, e, rfl, rfl, trivial⟩
/-- isinstance(kept, c) -/
def rIsH (K : PySem.W.Frag) : List V → Hp → VK → Prop := fun xs H Q => ∃ (a D : Addr) (c : V) (cv : Value) (b : Bool), xs = [.ref a, c] ∧ H a = some (ExH (.ref D) none a) ∧ ExcC K D ∧ ClsV c cv ∧ PySem.W.kitOne K (.ref D) cv = some b ∧ Q (.bl b) H
theorem call_isH : CallR X (.builtin "isinstance") (rIsH X.K) := by
  rintro pins s σ H xs us Q I r ⟨a, D, c, cv, b, rfl, ha, C, kc, e, q⟩
  obtain ⟨u1, u2, rfl, r1, r2⟩ := vals2 r
  obtain rfl := kc.eq r2
  cases (show u1 = Value.ref a from r1)
  obtain ⟨oe, J⟩ := held_at I ha
  exact PySem.W.kia_one (PySem.W.handS_kitx_exc C.hg C.hk C.hs C.hd C.ha C.hn C.ht C.hm) I.kIn J e (fun z => nomatch z) fun tk => ⟨.bl b, H, I.tok tk, rfl, q⟩
/-- isinstance(kept, (c1, c2, ..)) -/
def rIsHT (K : PySem.W.Frag) : List V → Hp → VK → Prop := fun xs H Q => ∃ (a D tp : Addr) (cs : List V) (ws : List Value) (b : Bool), xs = [.ref a, .ref tp] ∧ H a = some (ExH (.ref D) none a) ∧ ExcC K D ∧ H tp = some (.tup cs) ∧ Paired ClsV cs ws ∧ PySem.W.kitAny K (.ref D) ws = some b ∧ Q (.bl b) H
theorem call_isHT : CallR X (.builtin "isinstance") (rIsHT X.K) := by
  rintro pins s σ H xs us Q I r ⟨a, D, tp, cs, ws, b, rfl, ha, C, ht, kc, e, q⟩
  obtain ⟨u1, u2, rfl, r1, r2⟩ := vals2 r
  cases (show u1 = Value.ref a from r1)
  cases (show u2 = Value.ref tp from r2)
  obtain ⟨oe, J⟩ := held_at I ha
  have hT : ObjOk X.prog X.w H s.heap tp (.tup cs) := I.hok tp _ ht
  obtain ⟨_, its, rv, ⟨oc, od, dt, osl⟩, g1, g2, n, g3⟩ := hT
  obtain rfl := ClsV.all kc rv
  simp only at g2 g3
  subst g2 g3
  exact PySem.W.kia_tup (PySem.W.handS_kitx_exc C.hg C.hk C.hs C.hd C.ha C.hn C.ht C.hm) I.kIn J g1 e (fun z => nomatch z) fun tk => ⟨.bl b, H, I.tok tk, rfl, q⟩
end
/-! ### things that are whole numbers or not -/
/-- x is of a built-in type that is no whole number's -/
def Odd (K : PySem.W.Frag) (H : Hp) (x : V) : Prop := ∃ t bI, TyX K H x t ∧ PySem.W.kitOne K t (.type "int") = some bI ∧ (bI = true → PySem.W.kitOne K t (.type "bool") = some true)
theorem odd_non {K : PySem.W.Frag} {H : Hp} : Odd K H .non := ⟨_, false, .base .non, kit_ty (by decide +kernel), fun z => nomatch z⟩
theorem odd_bl {K : PySem.W.Frag} {H : Hp} {b : Bool} : Odd K H (.bl b) := ⟨_, true, .base (.bl b), kit_ty (by decide +kernel), fun _ => kit_ty (by decide +kernel)⟩
theorem odd_str {K : PySem.W.Frag} {H : Hp} {z : Str} : Odd K H (.str z) := ⟨_, false, .base (.str z), kit_ty (by decide +kernel), fun z => nomatch z⟩
theorem odd_lst {K : PySem.W.Frag} {H : Hp} {a : Addr} {xs : List V} (e : H a = some (.lst xs)) : Odd K H (.ref a) := ⟨_, false, .base (.lst e), kit_ty (by decide +kernel), fun z => nomatch z⟩
theorem odd_tup {K : PySem.W.Frag} {H : Hp} {a : Addr} {xs : List V} (e : H a = some (.tup xs)) : Odd K H (.ref a) := ⟨_, false, .base (.tup e), kit_ty (by decide +kernel), fun z => nomatch z⟩
theorem odd_dK {K : PySem.W.Frag} {H : Hp} {a : Addr} {xs : List (Key × V)} (e : H a = some (.dK xs)) : Odd K H (.ref a) := ⟨_, false, .base (.dK e), kit_ty (by decide +kernel), fun z => nomatch z⟩
end HopR

set_option Elab.async false
set_option linter.all false
set_option maxRecDepth 100000
namespace HopR
open PySem L2
theorem same_upd {H : Hp} {p : Addr} {o : HO} (h : H p = none) : Same H (upd H p o) := fun b x e => by
  rw [upd_ne (ne_of_none e h)]
  exact e
theorem same_new {H H1 : Hp} {p : Addr} {o : HO} (h : H p = none) (s : Same H H1) : Same H (upd H1 p o) := fun b x e => by
  rw [upd_ne (ne_of_none e h)]
  exact s _ _ e
/-- a def of the text, its binding, where its name leads -/
structure Fn (K : PySem.W.Frag) (mg : Str → Option Value) (x : Str) (st : Stmt) (ps : List Str) (f : Addr) (fd : FuncData) : Prop where
  F : Fun K x x st f fd
  b : Binds K fd ps []
  g : mg x = some (.ref f)
end HopR

set_option Elab.async false
set_option linter.all false
set_option maxRecDepth 100000
namespace HopR
open PySem L2
/-! ### classes of refusals -/
theorem kit_own {K : PySem.W.Frag} {D C : Addr} {b : Bool} (ne : D ≠ C) (hd : PySem.W.hasDictIn K C = true) (ht : PySem.W.typeIn K (.ref C) = some (.type "type")) (h : PySem.W.subIn K (.ref D) (.ref C) = some b) : PySem.W.kitOne K (.ref D) (.ref C) = some b := by
  obtain ⟨cd, hc, _⟩ := PySem.W.any_some hd
  have e1 : ((Value.ref D == Value.ref C) = true) = False := by
    rw [eq_iff_iff]
    exact ⟨fun z => ne (Value.ref.inj (beq_iff_eq.mp z)), False.elim⟩
  have e2 : ((PySem.W.clsIn K C).isSome && PySem.W.typeIn K (.ref C) == some (.type "type")) = true := by rw [hc, ht] <;> rfl
  unfold PySem.W.kitOne
  rw [if_neg (by rw [e1]; exact id)]
  show (if ((PySem.W.clsIn K C).isSome && PySem.W.typeIn K (.ref C) == some (.type "type")) = true then PySem.W.subIn K (.ref D) (.ref C) else none) = some b
  rw [if_pos e2]
  exact h
theorem kit_me {K : PySem.W.Frag} {D : Addr} : PySem.W.kitOne K (.ref D) (.ref D) = some true := by
  unfold PySem.W.kitOne
  rw [if_pos (by simp)]
theorem kit_blt {K : PySem.W.Frag} {D : Addr} {T : String} {b : Bool} (m : PySem.W.kitMeta T = true) (h : PySem.W.subIn K (.ref D) (.type T) = some b) : PySem.W.kitOne K (.ref D) (.type T) = some b := by
  have e1 : ¬ ((Value.ref D == Value.type T) = true) := fun z => nomatch (beq_iff_eq.mp z)
  unfold PySem.W.kitOne
  rw [if_neg e1]
  show (if PySem.W.kitMeta T = true then PySem.W.subIn K (.ref D) (.type T) else none) = some b
  rw [if_pos m]
  exact h
theorem kitAny_cons {K : PySem.W.Frag} {t c : Value} {r : List Value} (h : PySem.W.kitOne K t c = some false) (q : PySem.W.kitAny K t r = some false) : PySem.W.kitAny K t (c :: r) = some false := by
  simp only [PySem.W.kitAny, h, q]
theorem kitAny_nil {K : PySem.W.Frag} {t : Value} : PySem.W.kitAny K t [] = some false := by simp only [PySem.W.kitAny]
theorem exmAny2 {K : PySem.W.Frag} {t c1 c2 : Value} {b1 b2 : Bool} (h1 : PySem.W.exmOne K t c1 = some b1) (h2 : PySem.W.exmOne K t c2 = some b2) : PySem.W.exmAny K t [c1, c2] = some (b1 || b2) := by
  simp only [PySem.W.exmAny, h1, h2, Bool.or_false]
/-- an own exception class, as its instances are made and asked -/
structure Xc (K : PySem.W.Frag) (D : Addr) (bm : List Value) (nw : String) : Prop where
  x : PySem.W.excIn K D bm nw = true
  k : PySem.W.keepIn K (.ref D) = true
  be : PySem.W.subIn K (.ref D) (.type "BaseException") = some true
  ty : PySem.W.typeIn K (.ref D) = some (.type "type")
  c : ExcC K D
abbrev bmV : List Value := [.type "ValueError", .type "Exception", .type "BaseException", .type "object"]
abbrev bmZ : List Value := [.type "ZeroDivisionError", .type "ArithmeticError", .type "Exception", .type "BaseException", .type "object"]
/-! ### things by their kind -/
theorem tyx_same {K : PySem.W.Frag} {H H' : Hp} {x : V} {t : Value} (s : Same H H') (ty : TyX K H x t) : TyX K H' x t := by
  cases ty with
  | base h =>
    cases h with
    | non => exact .base .non
    | bl x => exact .base (.bl x)
    | int i => exact .base (.int i)
    | str x => exact .base (.str x)
    | flt x => exact .base (.flt x)
    | lst e => exact .base (.lst (s _ _ e))
    | frz e => exact .base (.frz (s _ _ e))
    | tup e => exact .base (.tup (s _ _ e))
    | dK e => exact .base (.dK (s _ _ e))
    | dT e => exact .base (.dT (s _ _ e))
    | ins e a b c d f => exact .base (.ins (s _ _ e) a b c d f)
  | byt b => exact .byt b
  | set e => exact .set (s _ _ e)
  | kList e c => exact .kList e c
  | kTuple e c => exact .kTuple e c
  | kDict e c => exact .kDict e c
  | fTuple e => exact .fTuple (s _ _ e)
  | fDict e => exact .fDict (s _ _ e)
theorem odd_same {K : PySem.W.Frag} {H H' : Hp} {x : V} (s : Same H H') (h : Odd K H x) : Odd K H' x := by
  obtain ⟨t, b, ty, k⟩ := h
  exact ⟨t, b, tyx_same s ty, k⟩
/-- x is no text -/
def NoTxt (K : PySem.W.Frag) (H : Hp) (x : V) : Prop := ∃ t, TyX K H x t ∧ PySem.W.kitOne K t (.type "str") = some false
theorem notxt_non {K : PySem.W.Frag} {H : Hp} : NoTxt K H .non := ⟨_, .base .non, kit_ty (by decide +kernel)⟩
theorem notxt_bl {K : PySem.W.Frag} {H : Hp} {b : Bool} : NoTxt K H (.bl b) := ⟨_, .base (.bl b), kit_ty (by decide +kernel)⟩
theorem notxt_int {K : PySem.W.Frag} {H : Hp} {i : Int} : NoTxt K H (.int i) := ⟨_, .base (.int i), kit_ty (by decide +kernel)⟩
theorem notxt_lst {K : PySem.W.Frag} {H : Hp} {a : Addr} {xs : List V} (e : H a = some (.lst xs)) : NoTxt K H (.ref a) := ⟨_, .base (.lst e), kit_ty (by decide +kernel)⟩
theorem notxt_tup {K : PySem.W.Frag} {H : Hp} {a : Addr} {xs : List V} (e : H a = some (.tup xs)) : NoTxt K H (.ref a) := ⟨_, .base (.tup e), kit_ty (by decide +kernel)⟩
theorem notxt_dK {K : PySem.W.Frag} {H : Hp} {a : Addr} {xs : List (Key × V)} (e : H a = some (.dK xs)) : NoTxt K H (.ref a) := ⟨_, .base (.dK e), kit_ty (by decide +kernel)⟩
theorem notxt_same {K : PySem.W.Frag} {H H' : Hp} {x : V} (s : Same H H') (h : NoTxt K H x) : NoTxt K H' x := by
  obtain ⟨t, ty, k⟩ := h
  exact ⟨t, tyx_same s ty, k⟩
/-! ### signs in the written dict of both signs -/
/-- the sign is a bead or a free place -/
def okc (c : Nat) : Bool := decide (c = 111) || decide (c = 46)
theorem okc_cd (b : Bool) : okc (cd b) = true := by cases b <;> rfl
def keyText : Value → Option Str
  | .str s _ => some s
  | _ => none
theorem keyText_str {v : Value} {s : Str} (h : keyText v = some s) : ∃ t, v = .str s t := by
  cases v <;> simp [keyText] at h
  exact ⟨_, by rw [h]⟩
def keysAre (es : Array DictEntry) : Prop := es.toList.map (fun e => keyText e.key) = [some ("o" : Str), some ("." : Str)]
theorem sign_in {K : PySem.W.Frag} {d : Addr} {es : Array DictEntry} {n : Nat} (l : K.lookup d = some ⟨.type "dict", none, .dict es n, #[]⟩) (hk : keysAre es) (c : Nat) : ∃ r, PySem.W.nsIn K d ⟨#[c]⟩ = some r ∧ r.isSome = okc c := by
  unfold keysAre at hk
  obtain ⟨e1, e2, hes⟩ : ∃ e1 e2, es.toList = [e1, e2] := by
    have hl := congrArg List.length hk
    rw [List.length_map] at hl
    match h : es.toList, hl with
    | [e1, e2], _ => exact ⟨e1, e2, rfl⟩
  rw [hes] at hk
  obtain ⟨t1, k1⟩ := keyText_str (List.cons.inj hk).1
  obtain ⟨t2, k2⟩ := keyText_str (List.cons.inj (List.cons.inj hk).2).1
  have i1 : e1.key.isStr ⟨#[c]⟩ = decide (c = 111) := by
    rw [k1]
    by_cases h : c = 111
    · subst h
      show (("o" : Str) == ⟨#[111]⟩) = true
      decide +kernel
    · rw [decide_eq_false h]
      have : ¬ (("o" : Str) = ⟨#[c]⟩) := fun z => by
        have z2 := congrArg (fun q : Str => q.cps.toList) z
        have z3 : [111] = [c] := z2
        exact h (List.cons.inj z3).1.symm
      simp [Value.isStr, this]
  have i2 : e2.key.isStr ⟨#[c]⟩ = decide (c = 46) := by
    rw [k2]
    by_cases h : c = 46
    · subst h
      show (("." : Str) == ⟨#[46]⟩) = true
      decide +kernel
    · rw [decide_eq_false h]
      have : ¬ (("." : Str) = ⟨#[c]⟩) := fun z => by
        have z2 := congrArg (fun q : Str => q.cps.toList) z
        have z3 : [46] = [c] := z2
        exact h (List.cons.inj z3).1.symm
      simp [Value.isStr, this]
  have r1 : e1.refKey = false := by unfold DictEntry.refKey; rw [k1]
  have r2 : e2.refKey = false := by unfold DictEntry.refKey; rw [k2]
  unfold PySem.W.nsIn
  rw [l]
  simp only [hes, List.find?, i1, i2, List.any_cons, r1, r2, List.any_nil, Bool.or_false]
  unfold okc
  by_cases h1 : c = 111
  · simp [h1]
  · by_cases h2 : c = 46
    · simp [h2]
    · simp [h1, h2]
/-- x is no row: no text, or one that is too short, too long, or has another sign -/
def NotRow (K : PySem.W.Frag) (H : Hp) (x : V) : Prop := NoTxt K H x ∨ ∃ z : Str, x = .str z ∧ z.length ≤ 10000 ∧ (z.length = 0 ∨ 30 < z.length ∨ ∃ c ∈ z.cps.toList, okc c = false)
def NotWord (K : PySem.W.Frag) (H : Hp) (x : V) : Prop := NoTxt K H x ∨ ∃ z : Str, x = .str z ∧ z.length ≤ 10000 ∧ (30 < z.length ∨ ∃ c ∈ z.cps.toList, okc c = false)
theorem notrow_same {K : PySem.W.Frag} {H H' : Hp} {x : V} (s : Same H H') (h : NotRow K H x) : NotRow K H' x := h.imp (notxt_same s) id
theorem notword_same {K : PySem.W.Frag} {H H' : Hp} {x : V} (s : Same H H') (h : NotWord K H x) : NotWord K H' x := h.imp (notxt_same s) id
theorem notword_row {K : PySem.W.Frag} {H : Hp} {x : V} (h : NotWord K H x) : NotRow K H x := h.imp id fun ⟨z, e, l, q⟩ => ⟨z, e, l, .inr q⟩
end HopR

set_option Elab.async false
set_option linter.all false
set_option maxRecDepth 100000
namespace HopR
open PySem L2
/-! ### words: where they can be shortened, and to what -/
def shp (bs : List Bool) (i : Nat) : Bool := decide ((bs.drop i).take 2 = [true, false])
def plc (bs : List Bool) : List Nat := (List.range bs.length).filter (shp bs)
def shA (bs : List Bool) (k : Nat) : List Bool := bs.take (k + 1) ++ bs.drop (k + 2)
def shB (bs : List Bool) (k : Nat) : List Bool := bs.take k ++ bs.drop (k + 1)
theorem shp_split {bs : List Bool} {i : Nat} (h : shp bs i = true) : bs = bs.take i ++ true :: false :: bs.drop (i + 2) ∧ i + 2 ≤ bs.length := by
  have h := of_decide_eq_true h
  have e : bs.drop i = [true, false] ++ (bs.drop i).drop 2 := by
    conv => lhs; rw [← List.take_append_drop 2 (bs.drop i), h]
  rw [List.drop_drop] at e
  have hl := congrArg List.length e
  rw [List.length_drop, List.length_append, List.length_drop] at hl
  have hl2 : bs.length - i = 2 + (bs.length - (i + 2)) := hl
  refine ⟨?_, by omega⟩
  conv => lhs; rw [← List.take_append_drop i bs, e]
  rfl
theorem plc_shp {bs : List Bool} {k : Nat} (h : k ∈ plc bs) : shp bs k = true ∧ k < bs.length := ⟨(List.mem_filter.mp h).2, List.mem_range.mp (List.mem_filter.mp h).1⟩
theorem plc_few (bs : List Bool) : (plc bs).length ≤ bs.length := by
  refine Nat.le_trans (List.length_filter_le _ _) ?_
  rw [List.length_range]
  exact Nat.le_refl _
theorem shA_len {bs : List Bool} {k : Nat} (h : k + 2 ≤ bs.length) : (shA bs k).length + 1 = bs.length := by
  unfold shA
  rw [List.length_append, List.length_take, List.length_drop]
  omega
theorem shB_len {bs : List Bool} {k : Nat} (h : k + 2 ≤ bs.length) : (shB bs k).length + 1 = bs.length := by
  unfold shB
  rw [List.length_append, List.length_take, List.length_drop]
  omega
theorem shA_eq {bs : List Bool} {k : Nat} (h : k ∈ plc bs) : shA bs k = bs.take k ++ [true] ++ bs.drop (k + 2) := by
  obtain ⟨e, hl⟩ := shp_split (plc_shp h).1
  unfold shA
  have e2 : bs.take (k + 1) = bs.take k ++ [true] := by
    rw [List.take_add_one]
    congr 1
    rw [e, List.getElem?_append_right (by rw [List.length_take]; omega), List.length_take, show k - min k bs.length = 0 by omega]
    rfl
  rw [e2]
theorem shB_eq {bs : List Bool} {k : Nat} (h : k ∈ plc bs) : shB bs k = bs.take k ++ [false] ++ bs.drop (k + 2) := by
  obtain ⟨e, hl⟩ := shp_split (plc_shp h).1
  unfold shB
  rw [List.append_assoc]
  congr 1
  have e3 : bs.drop (k + 1) = false :: bs.drop (k + 2) := by
    have h1 : k + 1 < bs.length := by omega
    rw [List.drop_eq_getElem_cons h1]
    congr 1
    have h2 : bs[k + 1]? = some false := by
      rw [e, List.getElem?_append_right (by rw [List.length_take]; omega), List.length_take, show k + 1 - min k bs.length = 1 by omega]
      rfl
    rw [List.getElem?_eq_getElem h1] at h2
    exact Option.some.inj h2
  rw [e3]
  rfl
/-! ### words and other things -/
def isRowB (z : Str) : Bool := decide (1 ≤ z.length) && (decide (z.length ≤ 30) && z.cps.toList.all okc)
def isWordB (z : Str) : Bool := decide (z.length ≤ 30) && z.cps.toList.all okc
/-- whether x is a row -/
def RowB (K : PySem.W.Frag) (H : Hp) (x : V) (b : Bool) : Prop := (NoTxt K H x ∧ b = false) ∨ ∃ z : Str, x = .str z ∧ z.length ≤ 10000 ∧ b = isRowB z
/-- whether x is a word -/
def WordB (K : PySem.W.Frag) (H : Hp) (x : V) (b : Bool) : Prop := (NoTxt K H x ∧ b = false) ∨ ∃ z : Str, x = .str z ∧ z.length ≤ 10000 ∧ b = isWordB z
theorem wordB_same {K : PySem.W.Frag} {H H' : Hp} {x : V} {b : Bool} (s : Same H H') (h : WordB K H x b) : WordB K H' x b := h.imp (fun ⟨q, e⟩ => ⟨notxt_same s q, e⟩) id
theorem rowB_same {K : PySem.W.Frag} {H H' : Hp} {x : V} {b : Bool} (s : Same H H') (h : RowB K H x b) : RowB K H' x b := h.imp (fun ⟨q, e⟩ => ⟨notxt_same s q, e⟩) id
theorem okc_tx (bs : List Bool) : (tx bs).cps.toList.all okc = true := by
  rw [tx_list, List.all_map, List.all_eq_true]
  exact fun b _ => okc_cd b
theorem isWord_tx {bs : List Bool} (h : bs.length ≤ 30) : isWordB (tx bs) = true := by
  unfold isWordB
  rw [okc_tx, tx_len, decide_eq_true h]
  rfl
theorem isRow_tx {bs : List Bool} (h1 : 1 ≤ bs.length) (h : bs.length ≤ 30) : isRowB (tx bs) = true := by
  unfold isRowB
  rw [okc_tx, tx_len, decide_eq_true h, decide_eq_true h1]
  rfl
theorem len0 {z : Str} (h : z.length = 0) : z = "" := by
  apply ext_str
  have : z.cps = #[] := Array.eq_empty_of_size_eq_zero h
  rw [this]
  rfl
/-- as the program tells it: a row, or the text without signs -/
theorem isWord_or (z : Str) : isWordB z = (isRowB z || decide (z = "")) := by
  unfold isWordB isRowB
  by_cases h : z.length = 0
  · rw [len0 h]
    decide +kernel
  · have ne : ¬ z = "" := fun e => h (by rw [e]; decide +kernel)
    rw [decide_eq_false ne, decide_eq_true (show 1 ≤ z.length by omega)]
    simp
/-- a spot at which the word of bs can't be shortened -/
def BadSpot (K : PySem.W.Frag) (H : Hp) (y : V) (ks : List Nat) : Prop := Odd K H y ∨ ∃ i : Int, y = .int i ∧ ∀ k ∈ ks, i ≠ (k : Int)
theorem badspot_same {K : PySem.W.Frag} {H H' : Hp} {y : V} {ks : List Nat} (s : Same H H') (h : BadSpot K H y ks) : BadSpot K H' y ks := h.imp (odd_same s) id
theorem inV_in {ks : List Nat} {k : Nat} (h : k ∈ ks) : inV (wv k) (ks.map wv) = true := by
  unfold inV
  rw [List.any_eq_true]
  exact ⟨wv k, List.mem_map_of_mem h, by unfold wv eqV; simp⟩
theorem inV_no {ks : List Nat} {i : Int} (h : ∀ k ∈ ks, i ≠ (k : Int)) : inV (.int i) (ks.map wv) = false := by
  unfold inV
  rw [List.any_eq_false]
  intro x hx
  obtain ⟨k, hk, rfl⟩ := List.mem_map.mp hx
  unfold wv eqV
  simp
  have := h k hk
  omega
theorem flat_ks (ks : List Nat) : (ks.map wv).all flatV = true := by
  rw [List.all_eq_true]
  intro x hx
  obtain ⟨k, _, rfl⟩ := List.mem_map.mp hx
  rfl
theorem fit {m : Nat} (h : m ≤ 10000) : m ≤ sizeLine := Nat.le_trans h (by decide)
theorem fit' {m : Nat} (h : m ≤ 10000) : m < sizeLine := Nat.lt_of_le_of_lt h (by decide)
theorem tx_fit {bs : List Bool} (h : bs.length ≤ 10000) : (tx bs).length ≤ sizeLine := by
  rw [tx_len]
  exact fit h
theorem tx_nil : ("" : Str) = tx [] := by decide +kernel
theorem dec_str {a b : Str} {p : Prop} [Decidable p] (h : a = b ↔ p) : decide (V.str a = V.str b) = decide p := by
  by_cases q : p
  · rw [decide_eq_true q, decide_eq_true (by rw [h.mpr q])]
  · rw [decide_eq_false q, decide_eq_false fun z => q (h.mp (V.str.inj z))]
end HopR

set_option Elab.async false
set_option linter.all false
set_option maxRecDepth 100000
namespace HopR
open PySem L2
/-! ### the draws -/
def dval (left : Int) (k : Nat) (z : Int) : Int :=
  if (1000000000000000000 : Int) ≤ left then left % z
  else
    let small := left % 1000000000000000000
    let one := (small + 7 * (k : Int) + 1) * (48271 + 2 * (k : Int) * (k : Int)) % 2147483647
    let two := (small / 3 + 11 * (k : Int) + 5) * (39373 + 6 * (k : Int)) % 2147483629
    (one * two + one / 64) % z
def dleft (left : Int) (z : Int) : Int := if (1000000000000000000 : Int) ≤ left then left / z else left
def draws : Int → Nat → List Int → List Int
  | _, _, [] => []
  | left, k, z :: r => dval left k z :: draws (dleft left z) (k + 1) r
theorem draws_len : ∀ (zs : List Int) (c : Int) (k : Nat), (draws c k zs).length = zs.length
  | [], _, _ => rfl
  | z :: r, c, k => by
    show (draws (dleft c z) (k + 1) r).length + 1 = r.length + 1
    rw [draws_len r]
theorem dval_ok {c : Int} {k : Nat} {z : Int} (h : 0 < z) : 0 ≤ dval c k z ∧ dval c k z < z := by
  unfold dval
  split
  · exact ⟨Int.emod_nonneg _ (by omega), Int.emod_lt_of_pos _ h⟩
  · exact ⟨Int.emod_nonneg _ (by omega), Int.emod_lt_of_pos _ h⟩
theorem draws_ok : ∀ (zs : List Int) (c : Int) (k : Nat), (∀ z ∈ zs, 0 < z) → ∀ (i : Nat) (d z : Int), (draws c k zs)[i]? = some d → zs[i]? = some z → 0 ≤ d ∧ d < z
  | [], _, _, _, i, d, z, _, h => by simp at h
  | y :: r, c, k, hp, 0, d, z, h1, h2 => by
    have e1 : dval c k y = d := Option.some.inj h1
    have e2 : y = z := Option.some.inj h2
    subst e1 e2
    exact dval_ok (hp y (List.mem_cons_self ..))
  | y :: r, c, k, hp, i + 1, d, z, h1, h2 => draws_ok r _ _ (fun q hq => hp q (List.mem_cons_of_mem _ hq)) i d z h1 h2
/-- the size of a draw is one that is reckoned with -/
def SizeOk (z : Int) : Prop := 0 < z ∧ z < 18446744073709551616
def bits (cs : List Int) : List Bool := cs.map fun c => decide (c = 1)
theorem signs_rows : ∀ (ys : List Str), (∀ y ∈ ys, ∃ b, y = tx [b]) → ∃ bs : List Bool, ys = bs.map fun b => tx [b]
  | [], _ => ⟨[], rfl⟩
  | y :: r, h => by
    obtain ⟨b, e⟩ := h y (List.mem_cons_self ..)
    obtain ⟨bs, e2⟩ := signs_rows r fun z hz => h z (List.mem_cons_of_mem _ hz)
    exact ⟨b :: bs, by rw [e, e2]; rfl⟩
theorem dot_o (c : Int) (h0 : 0 ≤ c) (h2 : c < 2) : atI (".o" : Str).cps.toList c = some (cd (decide (c = 1))) := by
  have e : (".o" : Str).cps.toList = [46, 111] := by decide +kernel
  rw [e]
  rcases (show c = 0 ∨ c = 1 by omega) with rfl | rfl
  · decide
  · decide
/-- a row -/
def Row (bs : List Bool) : Prop := 1 ≤ bs.length ∧ bs.length ≤ 30
theorem row_size {bs : List Bool} (h : Row bs) : (tx bs).length ≤ sizeLine := tx_fit (Nat.le_trans h.2 (by decide))
theorem flat_rep {α : Type} (x : α) : ∀ m : Nat, (List.replicate m [x]).flatten = List.replicate m x
  | 0 => rfl
  | m + 1 => by
    rw [List.replicate_succ, List.flatten_cons, flat_rep x m]
    rfl
theorem rep_of (m : Nat) : repS "o." m = tx (List.replicate m [true, false]).flatten := by
  unfold repS tx
  have e : ("o." : Str).cps.toList = [true, false].map cd := by decide +kernel
  rw [e, List.map_flatten, List.map_replicate]
theorem rep_of_len (m : Nat) : (List.replicate m [true, false]).flatten.length = 2 * m := by
  rw [List.length_flatten, List.map_replicate, List.sum_replicate_nat]
  show m * 2 = 2 * m
  omega
def spDrawn (K : PySem.W.Frag) : Sp := fun vs H Q _ => ∃ (c : Int) (a : Addr) (zs : List Int), vs = [.int c, .ref a] ∧ SqL K H a (zs.map V.int) ∧ (∀ z ∈ zs, SizeOk z) ∧ zs.length ≤ 1000 ∧
  ∀ H' p, Same H H' → H p = none → H' p = some (.lst ((draws c 0 zs).map V.int)) → Q (.ref p) H'
def spCellH (K : PySem.W.Frag) : Sp := fun vs H Q _ => ∃ (a : Addr) (ns : List Int) (k : Nat), vs = [.ref a, .int (k : Int)] ∧ SqL K H a (ns.map V.int) ∧ ∀ c : Int, Q (.int c) H
def spLRow : Sp := fun vs H Q _ => ∃ (c : Int) (M : Nat), vs = [.int c, .int (M : Int)] ∧ 1 ≤ M ∧ M ≤ 30 ∧ ∀ H' bs, Same H H' → 1 ≤ bs.length → bs.length ≤ M → Q (.str (tx bs)) H'
end HopR

set_option Elab.async false
set_option linter.all false
set_option maxRecDepth 100000
namespace HopR
open PySem L2
/-- a list of draws by its places -/
theorem draws2 {c z0 z1 : Int} (h0 : 0 < z0) (h1 : 0 < z1) : ∃ d0 d1 : Int, draws c 0 [z0, z1] = [d0, d1] ∧ (0 ≤ d0 ∧ d0 < z0) ∧ (0 ≤ d1 ∧ d1 < z1) := by
  have hl := draws_len [z0, z1] c 0
  match hd : draws c 0 [z0, z1], hl with
  | [d0, d1], _ =>
    have hp : ∀ z ∈ [z0, z1], 0 < z := by
      intro z hz
      simp only [List.mem_cons, List.not_mem_nil, or_false] at hz
      rcases hz with rfl | rfl
      · exact h0
      · exact h1
    exact ⟨d0, d1, rfl, draws_ok _ c 0 hp 0 d0 z0 (by rw [hd]; rfl) rfl, draws_ok _ c 0 hp 1 d1 z1 (by rw [hd]; rfl) rfl⟩
end HopR

set_option Elab.async false
set_option linter.all false
set_option maxRecDepth 100000
namespace HopR
open PySem L2
/-! ### texts by their codes -/
def rt (cs : List Nat) : Str := ⟨cs.toArray⟩
def one (c : Nat) : Str := ⟨#[c]⟩
theorem rt_list (cs : List Nat) : (rt cs).cps.toList = cs := by simp [rt]
theorem rt_len (cs : List Nat) : (rt cs).length = cs.length := by
  show cs.toArray.size = cs.length
  simp
theorem rt_of (z : Str) : rt z.cps.toList = z := ext_str (rt_list _)
theorem rt_inj {a b : List Nat} (h : rt a = rt b) : a = b := by
  have := congrArg (fun q : Str => q.cps.toList) h
  simpa only [rt_list] using this
theorem rt_app (a b : List Nat) : rt a ++ rt b = rt (a ++ b) := by
  apply ext_str
  rw [rt_list]
  show ((rt a).cps ++ (rt b).cps).toList = a ++ b
  rw [Array.toList_append, rt_list, rt_list]
theorem rt_fit {cs : List Nat} (h : cs.length ≤ 10000) : (rt cs).length ≤ sizeLine := by
  rw [rt_len]
  exact fit h
theorem sg_rt (cs : List Nat) : sg (rt cs) = cs.map one := by
  unfold sg
  rw [rt_list]
  rfl
theorem join_rt (cs : List Nat) : Txt.join "" (cs.map one) = rt cs := by
  apply ext_str
  rw [join0_list, List.map_map, rt_list]
  induction cs with
  | nil => rfl
  | cons b r ih =>
    rw [List.map_cons, List.flatten_cons, ih]
    rfl
theorem ones_sum : ∀ cs : List Nat, ((cs.map one).map (·.length)).sum = cs.length
  | [] => rfl
  | c :: r => by
    rw [List.map_cons, List.map_cons, List.sum_cons, ones_sum r]
    show 1 + r.length = r.length + 1
    omega
theorem join_rt_fits {cs : List Nat} (h : cs.length ≤ 1000) : ((cs.map one).map (·.length)).sum + (cs.map one).length * ("" : Str).length ≤ 16777216 := by
  have e : ("" : Str).length = 0 := by decide +kernel
  rw [ones_sum, e, Nat.mul_zero]
  omega
theorem cut_rt (cs : List Nat) (lo hi : Option Int) : cutS (rt cs) lo hi = rt ((cs.drop (HT.sIx cs.length 0 lo)).take (HT.sIx cs.length cs.length hi - HT.sIx cs.length 0 lo)) := by
  apply ext_str
  unfold cutS
  rw [rt_len, rt_list, rt_list]
theorem cut_rt_to (cs : List Nat) (k : Nat) : cutS (rt cs) none (some (k : Int)) = rt (cs.take k) := by
  rw [cut_rt, HT.sIx_none, HT.sIx_nat, List.drop_zero, Nat.sub_zero]
  by_cases h : k ≤ cs.length
  · rw [Nat.min_eq_left h]
  · rw [Nat.min_eq_right (by omega), List.take_length, List.take_of_length_le (by omega)]
theorem cut_rt_from (cs : List Nat) (k : Nat) : cutS (rt cs) (some (k : Int)) none = rt (cs.drop k) := by
  rw [cut_rt, HT.sIx_none, HT.sIx_nat]
  by_cases h : k ≤ cs.length
  · rw [Nat.min_eq_left h, List.take_of_length_le (by rw [List.length_drop]; exact Nat.le_refl _)]
  · rw [Nat.min_eq_right (by omega), List.drop_length, List.drop_of_length_le (by omega), List.take_nil]
theorem one_inj {a b : Nat} (h : one a = one b) : a = b := by
  have := congrArg (fun q : Str => q.cps.toList) h
  exact (List.cons.inj this).1
theorem one_eq (a b : Nat) : (one a == one b) = decide (a = b) := by
  by_cases h : a = b
  · subst h
    simp
  · rw [decide_eq_false h]
    have : ¬ (one a = one b) := fun z => h (one_inj z)
    simp [this]
/-! ### signs in a written dict -/
theorem find_key (c : Nat) : ∀ (ts : List Nat) (L : List DictEntry), L.map (fun e => keyText e.key) = ts.map (fun q => some (one q)) → (L.find? (·.key.isStr (one c))).isSome = decide (c ∈ ts) ∧ L.any (·.refKey) = false
  | [], [], _ => ⟨by simp, rfl⟩
  | [], e :: r, h => by simp at h
  | q :: ts, [], h => by simp at h
  | q :: ts, e :: r, h => by
    rw [List.map_cons, List.map_cons] at h
    obtain ⟨h1, h2⟩ := List.cons.inj h
    obtain ⟨t, hk⟩ := keyText_str h1
    obtain ⟨i1, i2⟩ := find_key c ts r h2
    have e1 : e.key.isStr (one c) = decide (q = c) := by
      rw [hk]
      exact one_eq q c
    refine ⟨?_, ?_⟩
    · rw [List.find?_cons, e1]
      by_cases hq : q = c
      · rw [decide_eq_true hq]
        simp [hq]
      · rw [decide_eq_false hq]
        show (r.find? (·.key.isStr (one c))).isSome = _
        rw [i1]
        have : ¬ c = q := fun z => hq z.symm
        simp [this]
    · rw [List.any_cons, i2, Bool.or_false]
      unfold DictEntry.refKey
      rw [hk]
theorem key_in {K : PySem.W.Frag} {d : Addr} {es : Array DictEntry} {n : Nat} {ts : List Nat} (l : K.lookup d = some ⟨.type "dict", none, .dict es n, #[]⟩) (hk : es.toList.map (fun e => keyText e.key) = ts.map (fun q => some (one q))) (c : Nat) :
    ∃ r, PySem.W.nsIn K d (one c) = some r ∧ r.isSome = decide (c ∈ ts) := by
  obtain ⟨h1, h2⟩ := find_key c ts es.toList hk
  unfold PySem.W.nsIn
  rw [l]
  simp only
  cases hf : es.toList.find? (·.key.isStr (one c)) with
  | some e =>
    rw [hf] at h1
    exact ⟨_, rfl, h1⟩
  | none =>
    rw [hf] at h1
    simp only [h2]
    exact ⟨_, rfl, h1⟩
/-! ### rings -/
def okr (c : Nat) : Bool := decide (c ∈ [97, 98, 46])
def isRingB (z : Str) : Bool := decide (2 ≤ z.length) && (decide (z.length ≤ 12) && z.cps.toList.all okr)
/-- whether x is a ring -/
def RingB (K : PySem.W.Frag) (H : Hp) (x : V) (b : Bool) : Prop := (NoTxt K H x ∧ b = false) ∨ ∃ z : Str, x = .str z ∧ z.length ≤ 10000 ∧ b = isRingB z
theorem ringB_same {K : PySem.W.Frag} {H H' : Hp} {x : V} {b : Bool} (s : Same H H') (h : RingB K H x b) : RingB K H' x b := h.imp (fun ⟨q, e⟩ => ⟨notxt_same s q, e⟩) id
/-- a ring by its codes -/
structure Rg (cs : List Nat) : Prop where
  lo : 2 ≤ cs.length
  hi : cs.length ≤ 12
  ok : ∀ c ∈ cs, c ∈ [97, 98, 46]
theorem Rg.isB {cs : List Nat} (h : Rg cs) : isRingB (rt cs) = true := by
  unfold isRingB
  rw [rt_len, rt_list, decide_eq_true h.lo, decide_eq_true h.hi]
  show cs.all okr = true
  rw [List.all_eq_true]
  exact fun c hc => decide_eq_true (h.ok c hc)
/-- how far above the others a sign stands -/
def rk (c : Nat) : Nat := if c = 97 then 2 else if c = 98 then 1 else 0
def nxt (cs : List Nat) (i : Nat) : Nat := (i + 1) % cs.length
theorem nxt_lt {cs : List Nat} (h : Rg cs) (i : Nat) : nxt cs i < cs.length := Nat.mod_lt _ (Nat.lt_of_lt_of_le (by decide) h.lo)
/-- the signs at a place and at the next one exchanged -/
def swp (cs : List Nat) (i : Nat) : List Nat := (cs.set i (cs.getD (nxt cs i) 0)).set (nxt cs i) (cs.getD i 0)
theorem swp_len (cs : List Nat) (i : Nat) : (swp cs i).length = cs.length := by
  unfold swp
  rw [List.length_set, List.length_set]
def ups (cs : List Nat) (i : Nat) : Bool := decide (rk (cs.getD (nxt cs i) 0) < rk (cs.getD i 0))
def rchg (cs : List Nat) (m : Nat) : List Nat := (List.range m).filter (ups cs)
theorem rchg_succ (cs : List Nat) (i : Nat) : rchg cs (i + 1) = rchg cs i ++ (if ups cs i then [i] else []) := by
  unfold rchg
  rw [List.range_succ, List.filter_append]
  congr 1
  cases h : ups cs i with
  | true => simp [h]
  | false => simp [h]
theorem rchg_few (cs : List Nat) (m : Nat) : (rchg cs m).length ≤ m := by
  refine Nat.le_trans (List.length_filter_le _ _) ?_
  rw [List.length_range]
  exact Nat.le_refl _
/-- the data of the changes -/
def dchg (cs : List Nat) (ks : List Nat) : List PyData := ks.map fun (k : Nat) => PyData.tuple [.int (k : Int), .str (rt (swp cs k))]
/-- a list of tuples (place, ring) -/
def Tups (H : Hp) (cs : List Nat) : List Nat → List V → Prop
  | [], vs => vs = []
  | k :: r, vs => ∃ p vr, vs = .ref p :: vr ∧ H p = some (.tup [.int (k : Int), .str (rt (swp cs k))]) ∧ Tups H cs r vr
theorem tups_same {H H' : Hp} {cs : List Nat} (s : Same H H') : ∀ {ks : List Nat} {vs : List V}, Tups H cs ks vs → Tups H' cs ks vs
  | [], _, h => h
  | k :: r, _, ⟨p, vr, e, h1, h2⟩ => ⟨p, vr, e, s _ _ h1, tups_same s h2⟩
theorem tups_add {H : Hp} {cs : List Nat} {k : Nat} {p : Addr} (h1 : H p = some (.tup [.int (k : Int), .str (rt (swp cs k))])) : ∀ {ks : List Nat} {vs : List V}, Tups H cs ks vs → Tups H cs (ks ++ [k]) (vs ++ [.ref p])
  | [], _, h => by
    cases h
    exact ⟨p, [], rfl, h1, rfl⟩
  | q :: r, _, ⟨p', vr, e, h2, h3⟩ => ⟨p', vr ++ [.ref p], by rw [e]; rfl, h2, tups_add h1 h3⟩
theorem tups_upd {H : Hp} {cs : List Nat} {D : Addr} {xs : List V} {o : HO} (hD : H D = some (.lst xs)) : ∀ {ks : List Nat} {vs : List V}, Tups H cs ks vs → Tups (upd H D o) cs ks vs
  | [], _, h => h
  | k :: r, _, ⟨p, vr, e, h1, h2⟩ => ⟨p, vr, e, by
      rw [upd_ne (fun z => by rw [z, hD] at h1; cases h1)]
      exact h1, tups_upd hD h2⟩
theorem tups_len {H : Hp} {cs : List Nat} : ∀ {ks : List Nat} {vs : List V}, Tups H cs ks vs → vs.length = ks.length
  | [], _, h => by
    cases h
    rfl
  | k :: r, _, ⟨p, vr, e, _, h2⟩ => by
    rw [e, List.length_cons, List.length_cons, tups_len h2]
theorem tups_dp {K : PySem.W.Frag} {H : Hp} {cs : List Nat} : ∀ {ks : List Nat} {vs : List V}, Tups H cs ks vs → DpAll K H vs (dchg cs ks)
  | [], _, h => by
    cases h
    exact .nil
  | k :: r, _, ⟨p, vr, e, h1, h2⟩ => by
    rw [e]
    exact .cons (.tup (SqT.of h1) (.cons (.int _) (.cons (.str _) .nil))) (tups_dp h2)
theorem getD_small {cs : List Nat} (h : Rg cs) (i : Nat) : cs.getD i 0 < 1114112 := by
  rw [List.getD_eq_getElem?_getD]
  cases e : cs[i]? with
  | none => show 0 < 1114112; decide
  | some c =>
    have := h.ok c (List.mem_of_getElem? e)
    simp only [List.mem_cons, List.not_mem_nil, or_false] at this
    show c < 1114112
    omega
theorem strOk_swp {cs : List Nat} (h : Rg cs) (i : Nat) : PyData.strOk (rt (swp cs i)) = true := by
  unfold PyData.strOk
  rw [← Array.all_toList, rt_list, List.all_eq_true]
  intro c hc
  refine decide_eq_true ?_
  unfold swp at hc
  rcases List.mem_or_eq_of_mem_set hc with h1 | rfl
  · rcases List.mem_or_eq_of_mem_set h1 with h2 | rfl
    · have := h.ok c h2
      simp only [List.mem_cons, List.not_mem_nil, or_false] at this
      omega
    · exact getD_small h _
  · exact getD_small h _
theorem lay_dchg {cs : List Nat} (h : Rg cs) : ∀ ks : List Nat, PyData.canLayAll0 (dchg cs ks) = true
  | [] => rfl
  | k :: r => by
    show PyData.canLayAll0 (.tuple [.int (k : Int), .str (rt (swp cs k))] :: dchg cs r) = true
    simp only [PyData.canLayAll0, lay_dchg h r, Bool.and_true, PyData.canLay0, strOk_swp h]
theorem deep_dchg (cs : List Nat) : ∀ ks : List Nat, PyData.depthAll (dchg cs ks) ≤ 1
  | [] => by show 0 ≤ 1; decide
  | k :: r => by
    show PyData.depthAll (.tuple [.int (k : Int), .str (rt (swp cs k))] :: dchg cs r) ≤ 1
    have := deep_dchg cs r
    simp only [PyData.depthAll, PyData.depth]
    omega
theorem shaped_dchg {cs : List Nat} (h : Rg cs) (ks : List Nat) : SeqAt.shaped (.list (dchg cs ks)) = true := by
  unfold SeqAt.shaped
  rw [Bool.and_eq_true]
  refine ⟨?_, decide_eq_true ?_⟩
  · simp only [PyData.canLay0, lay_dchg h]
  · have := deep_dchg cs ks
    simp only [PyData.depth]
    omega
theorem eqv_dchg {cs : List Nat} (h : Rg cs) (ks : List Nat) : PyData.eqv (.list (dchg cs ks)) (.list (dchg cs ks)) = true := PySem.SeqAt.eqv_refl _ (by simp only [PyData.canLay0, lay_dchg h])
end HopR

set_option Elab.async false
set_option linter.all false
set_option maxRecDepth 100000
namespace Hop
open PySem L2 HopR
/-! ### the upper line's beads take the nearest free bead of the lower line to the left, round the ring -/
/-- the places from p on to the left, round -/
def lef (n p : Nat) : List Nat := (List.range n).map fun t => if t ≤ p then p - t else p + n - t
def isb (cs : List Nat) (i : Nat) : Bool := decide (cs.getD i 0 = 98)
def put (n : Nat) (cs : List Nat) (p : Nat) : List Nat := match (lef n p).filter (isb cs) with
  | [] => cs
  | x :: _ => cs.set x 97
theorem put_nil {n p : Nat} {cs : List Nat} (h : (lef n p).filter (isb cs) = []) : put n cs p = cs := by
  unfold put
  rw [h]
theorem put_cons {n p x : Nat} {cs r : List Nat} (h : (lef n p).filter (isb cs) = x :: r) : put n cs p = cs.set x 97 := by
  unfold put
  rw [h]
theorem lef_len (n p : Nat) : (lef n p).length = n := by simp [lef]
theorem lef_get {n p t : Nat} (h : t < (lef n p).length) : (lef n p)[t] = if t ≤ p then p - t else p + n - t := by simp [lef]
theorem lef_rot {n p q : Nat} (hq : q ≤ p) (hp : p < n) : lef n q = (lef n p).drop (p - q) ++ (lef n p).take (p - q) := by
  refine List.ext_getElem ?_ fun t h1 h2 => ?_
  · rw [List.length_append, List.length_drop, List.length_take, lef_len, lef_len]
    omega
  · rw [lef_len] at h1
    have hd : ((lef n p).drop (p - q)).length = n - (p - q) := by rw [List.length_drop, lef_len]
    by_cases h3 : t < n - (p - q)
    · rw [lef_get, List.getElem_append_left (by rw [hd]; exact h3), List.getElem_drop, lef_get]
      split <;> split <;> omega
    · rw [lef_get, List.getElem_append_right (by rw [hd]; omega), List.getElem_take, lef_get]
      rw [hd]
      split <;> split <;> omega
theorem lef_nodup {n p : Nat} (hp : p < n) : (lef n p).Nodup := by
  unfold lef
  refine List.pairwise_map.mpr (List.Pairwise.imp_of_mem (fun {a b} ha hb hne => ?_) List.nodup_range)
  have := List.mem_range.mp ha
  have := List.mem_range.mp hb
  intro h
  apply hne
  split at h <;> split at h <;> omega
theorem mem_lef {n p i : Nat} (hp : p < n) (hi : i < n) : i ∈ lef n p := by
  unfold lef
  refine List.mem_map.mpr ⟨if i ≤ p then p - i else p + n - i, List.mem_range.mpr ?_, ?_⟩
  · split <;> omega
  · split <;> split <;> omega
theorem lef_lt {n p i : Nat} (hp : p < n) (h : i ∈ lef n p) : i < n := by
  unfold lef at h
  obtain ⟨t, ht, rfl⟩ := List.mem_map.mp h
  have := List.mem_range.mp ht
  split <;> omega
theorem isb_lt {cs : List Nat} {i : Nat} (h : isb cs i = true) : i < cs.length := by
  unfold isb at h
  have h := of_decide_eq_true h
  rw [List.getD_eq_getElem?_getD] at h
  refine Nat.lt_of_not_le fun hl => ?_
  rw [List.getElem?_eq_none hl] at h
  exact absurd h (by decide)
theorem isb_set {cs : List Nat} {x i : Nat} : isb (cs.set x 97) i = (isb cs i && decide (i ≠ x)) := by
  unfold isb
  rw [List.getD_eq_getElem?_getD, List.getD_eq_getElem?_getD, List.getElem?_set]
  by_cases h : x = i
  · subst h
    by_cases hl : x < cs.length <;> simp [hl]
  · rw [if_neg h]
    have : i ≠ x := fun z => h z.symm
    simp [this]
theorem filter_set {cs L : List Nat} {x : Nat} : L.filter (isb (cs.set x 97)) = (L.filter (isb cs)).filter (fun i => decide (i ≠ x)) := by
  rw [List.filter_filter]
  congr 1
  funext i
  rw [isb_set, Bool.and_comm]
theorem put_comm1 {n p q : Nat} (cs : List Nat) (hq : q ≤ p) (hp : p < n) : put n (put n cs p) q = put n (put n cs q) p := by
  have er := lef_rot hq hp
  have ep : lef n p = (lef n p).take (p - q) ++ (lef n p).drop (p - q) := (List.take_append_drop _ _).symm
  have nd := lef_nodup hp
  generalize (lef n p).take (p - q) = U at er ep
  generalize (lef n p).drop (p - q) = Z at er ep
  have same : (lef n p).filter (isb cs) = (lef n q).filter (isb cs) → put n (put n cs p) q = put n (put n cs q) p := fun h => by
    cases hf : (lef n p).filter (isb cs) with
    | nil => rw [put_nil hf, put_nil (h ▸ hf), put_nil hf]
    | cons x r =>
      have hf2 : (lef n q).filter (isb cs) = x :: r := h ▸ hf
      rw [put_cons hf, put_cons hf2]
      have e1 : (lef n p).filter (isb (cs.set x 97)) = (lef n q).filter (isb (cs.set x 97)) := by rw [filter_set, filter_set, h]
      cases hg : (lef n p).filter (isb (cs.set x 97)) with
      | nil => rw [put_nil hg, put_nil (e1 ▸ hg)]
      | cons y r' => rw [put_cons hg, put_cons (e1 ▸ hg)]
  have fp : (lef n p).filter (isb cs) = U.filter (isb cs) ++ Z.filter (isb cs) := by rw [ep, List.filter_append]
  have fq : (lef n q).filter (isb cs) = Z.filter (isb cs) ++ U.filter (isb cs) := by rw [er, List.filter_append]
  cases hA : U.filter (isb cs) with
  | nil =>
    rw [hA] at fp fq
    rw [List.append_nil] at fq
    exact same (fp.trans fq.symm)
  | cons x A =>
    cases hB : Z.filter (isb cs) with
    | nil =>
      rw [hB] at fp fq
      rw [List.append_nil] at fp
      exact same (fp.trans fq.symm)
    | cons y B =>
      rw [hA, hB] at fp fq
      have ne : x ≠ y := fun z => by
        have h1 : ((lef n p).filter (isb cs)).Nodup := nd.filter _
        rw [fp, z] at h1
        have := (List.nodup_cons.mp h1).1
        exact this (List.mem_append_right _ (List.mem_cons_self ..))
      have f2 : (lef n q).filter (isb (cs.set x 97)) = y :: (B ++ x :: A).filter (fun i => decide (i ≠ x)) := by
        rw [filter_set, fq]
        show ((y :: (B ++ x :: A)).filter _) = _
        rw [List.filter_cons_of_pos (by simpa using ne.symm)]
      have f3 : (lef n p).filter (isb (cs.set y 97)) = x :: (A ++ y :: B).filter (fun i => decide (i ≠ y)) := by
        rw [filter_set, fp]
        show ((x :: (A ++ y :: B)).filter _) = _
        rw [List.filter_cons_of_pos (by simpa using ne)]
      rw [put_cons (r := A ++ y :: B) fp, put_cons (r := B ++ x :: A) fq, put_cons f2, put_cons f3, List.set_comm _ _ ne]
theorem put_comm {n p q : Nat} (cs : List Nat) (hp : p < n) (hq : q < n) : put n (put n cs p) q = put n (put n cs q) p := by
  rcases Nat.le_total q p with h | h
  · exact put_comm1 cs h hp
  · exact (put_comm1 cs h hq).symm
theorem puts_perm {n : Nat} {ps qs : List Nat} (h : ps.Perm qs) (lt : ∀ p ∈ ps, p < n) (cs : List Nat) : ps.foldl (put n) cs = qs.foldl (put n) cs :=
  h.foldl_eq' (fun x hx y hy z => put_comm z (lt x hx) (lt y hy)) cs
theorem put_len (n : Nat) (cs : List Nat) (p : Nat) : (put n cs p).length = cs.length := by
  unfold put
  split
  · rfl
  · rw [List.length_set]
theorem puts_len (n : Nat) : ∀ (ps cs : List Nat), (ps.foldl (put n) cs).length = cs.length
  | [], cs => rfl
  | p :: ps, cs => by rw [List.foldl_cons, puts_len n ps, put_len]
/-- a bead is left: one is found -/
theorem put_at {n p : Nat} {cs : List Nat} (hp : p < n) (hl : cs.length = n) (h : 0 < cs.count 98) : ∃ x r, (lef n p).filter (isb cs) = x :: r ∧ x < n ∧ cs[x]? = some 98 := by
  obtain ⟨i, hi, e⟩ := List.getElem_of_mem (List.count_pos_iff.mp h)
  have hb : isb cs i = true := by
    unfold isb
    rw [List.getD_eq_getElem?_getD, List.getElem?_eq_getElem hi, e]
    rfl
  have hm : i ∈ (lef n p).filter (isb cs) := List.mem_filter.mpr ⟨mem_lef hp (hl ▸ hi), hb⟩
  cases hf : (lef n p).filter (isb cs) with
  | nil =>
    rw [hf] at hm
    cases hm
  | cons x r =>
    have hx : x ∈ (lef n p).filter (isb cs) := by
      rw [hf]
      exact List.mem_cons_self ..
    obtain ⟨h1, h2⟩ := List.mem_filter.mp hx
    have h3 := isb_lt h2
    refine ⟨x, r, rfl, hl ▸ h3, ?_⟩
    unfold isb at h2
    have h2 := of_decide_eq_true h2
    rw [List.getD_eq_getElem?_getD, List.getElem?_eq_getElem h3] at h2
    rw [List.getElem?_eq_getElem h3, show cs[x] = 98 from h2]
end Hop

set_option Elab.async false
set_option linter.all false
set_option maxRecDepth 100000
namespace HopR
open PySem PySem.Spec PyProof.Rows L2
/-! ### tests and statements where a token is out -/
def PTT (X : Cx) (c : Expr) (t : TT) : Prop :=
  ∀ (pins : List (Addr × Obj)) (s : Shared) (σ : L2.St) (H : Hp) (Q : Bool → Hp → Prop), 1 ≤ s.toks → Inv X pins σ H s → t σ H Q → wpAny (model X.prog X.w) X.A (isTrue c X.env (eval c X.env)) (TP X pins σ Q) X.xe s
/-- an expression behind which a token is out -/
def PE1 (X : Cx) (e : Expr) (t : TE) : Prop :=
  ∀ (pins : List (Addr × Obj)) (s : Shared) (σ : L2.St) (H : Hp) (Q : VK), Inv X pins σ H s → t σ H Q → wpAny (model X.prog X.w) X.A (eval e X.env) (fun v s' => 1 ≤ s'.toks ∧ EP X pins σ Q v s') X.xe s
section
variable {X : Cx} {a b e : Expr} {ta tb te : TE} {tA tB' : TT} {rest : List Expr} {pos : Pos}
theorem PTT.of (h : PT X a tA) : PTT X a tA := fun pins s σ H Q _ I q => h.run pins s σ H Q I q
theorem ptt_cmp {op : CmpOp} {r : R2} (ho : OpR X (compareOp op) r) (ha : PET X a ta) (hb : PET X b tb) (hm : behindInMarks op b = false) : PTT X (.Compare a [op] [b] pos) (tTest (tOp r ta tb)) := by
  intro pins s σ H Q h0 I h
  refine wpAny_isTrue_Compare1 (wpAny_mono (PySem.wpAny_toks (ha pins s σ H _ h0 I h)) (fun v s1 q => ?_) fun _ _ z => z.2) hm
  obtain ⟨hk, x, H1, I1, r1, q1⟩ := q
  exact thn (hb pins s1 σ H1 _ (Nat.le_trans h0 hk) I1 q1) fun u s2 ⟨y, H2, I2, r2, q2⟩ => thn (ho pins s2 σ H2 x y v u _ I2 r1 r2 q2) fun c s3 ⟨z, H3, I3, r3, k, e, q3⟩ => by
    subst e
    cases r3
    exact wpAny_truthy_bool ⟨H3, I3, q3⟩
theorem ptt_or (ha : PTT X a tA) (hb : PW X (.BoolOp .Or (b :: rest) pos) tB') : PTT X (.BoolOp .Or (a :: b :: rest) pos) (tOr tA tB') := by
  intro pins s σ H Q h0 I h
  refine isTrue_or (thn (ha pins s σ H _ h0 I h) fun c s1 ⟨H1, I1, q1⟩ => ?_)
  cases c with
  | false => exact hb.run _ pins s1 σ H1 Q I1 q1
  | true => exact ⟨H1, I1, q1⟩
theorem pst_ifT {c : Expr} {a b : List Stmt} {tc : TT} {t u : TS} (hc : PTT X c tc) (ha : PSsT X a t) (hb : PSsT X b u) : PST X (.If c a b pos) (tIfS tc t u) := by
  intro pins s σ H D h0 I h
  refine wpAny_If (wpAny_mono (PySem.wpAny_toks (hc pins s σ H _ h0 I h)) (fun d s1 q => ?_) fun _ _ z => z.2)
  obtain ⟨hk, H1, I1, q1⟩ := q
  have h1 := Nat.le_trans h0 hk
  cases d with
  | false => exact hb pins s1 σ H1 D h1 I1 q1
  | true => exact ha pins s1 σ H1 D h1 I1 q1
theorem pst_set {i : Nat} {x : Str} {pos' : Pos} (hN : X.N.Nodup) (hi : X.N[i]? = some x) (hx : Loc X.env.scope x) (he : PET X e te) (hs : swapsWith e (some (.Name x pos')) pos.line X.env = pure false := by rfl) (hf : X.fn x = true ∨ X.env.scope.names.lookup x = some .local := by first | exact .inl rfl | exact .inr rfl | assumption) :
    PST X (.Assign [.Name x pos'] e pos) (tAsg te (gName i)) := by
  intro pins s σ H D h0 I h
  exact wpAny_Assign_Name (thn (he pins s σ H _ h0 I h) fun v s1 ⟨y, H1, I1, r1, q1⟩ => store_ok I1 hN hi hx r1 (fun s2 I2 => ⟨_, H1, I2, q1⟩) hf) hs
theorem pet_callTy {T : String} {r : List V → Hp → VK → Prop} {x : Str} {es : List Expr} {t : TA} {p : Pos} (hc : CallR X (.type T) r) (hg : Gl X x) (hm : X.mg x = none) (hv : bootBuiltins x = some (.type T)) (ha : PAT X (e :: es) t) (hn : x ≠ "__name__" := by decide) (hdb : (x == ("__debug__" : Str)) = false := by decide)
    (he : starEach (e :: es) X.env = (false, eval e X.env) :: starEach es X.env := by rfl) (hpl : (backTo pos (starEach es X.env)).any (·.1) = false := by rfl) : PET X (.Call (.Name x p) (e :: es) [] pos) (tCB r t) := by
  intro pins s σ H Q h0 I h
  refine wpAny_Call_Name_kw (ld_blt I hg hm hv (PyProof.Rows.callWith_type1 ?_ he hpl) hn hdb)
  exact thn (ha pos pins s σ H _ h0 I h) fun us s1 ⟨vs, H1, I1, r1, q1⟩ => hc pins s1 σ H1 vs us Q I1 r1 q1
theorem pe1_int {i : Int} {j : Nat} : PE1 X (.Constant (.int i) j pos) (tC (.int i)) := fun _ s _ H _ I h => wpAny_Constant_int ⟨by show 1 ≤ s.toks + 1; omega, .int i, H, I.tok _, ⟨_, rfl⟩, h⟩
theorem pe1_opr {op : Operator} {r : R2} (ho : OpR X (binaryOp op) r) (ha : PE X a ta) (hb : PE1 X b tb) : PE1 X (.BinOp a op b pos) (tOp r ta tb) := by
  intro pins s σ H Q I h
  refine wpAny_BinOp (thn (ha.run pins s σ H _ I h) fun v s1 ⟨x, H1, I1, r1, q1⟩ => thn (hb pins s1 σ H1 _ I1 q1) fun u s2 ⟨h2, y, H2, I2, r2, q2⟩ => ?_)
  exact wpAny_mono (PySem.wpAny_toks (ho pins s2 σ H2 x y v u Q I2 r1 r2 q2)) (fun _ _ z => ⟨Nat.le_trans h2 z.1, z.2⟩) fun _ _ z => z.2
theorem pe1_opl {op : Operator} {r : R2} (ho : OpR X (binaryOp op) r) (ha : PE1 X a ta) (hb : PE X b tb) : PE1 X (.BinOp a op b pos) (tOp r ta tb) := by
  intro pins s σ H Q I h
  refine wpAny_BinOp (thn (ha pins s σ H _ I h) fun v s1 ⟨h1, x, H1, I1, r1, q1⟩ => wpAny_mono (PySem.wpAny_toks (hb.run pins s1 σ H1 _ I1 q1)) (fun u s2 z => ?_) fun _ _ z => z.2)
  obtain ⟨h2, y, H2, I2, r2, q2⟩ := z
  exact wpAny_mono (PySem.wpAny_toks (ho pins s2 σ H2 x y v u Q I2 r1 r2 q2)) (fun _ _ z => ⟨Nat.le_trans (Nat.le_trans h1 h2) z.1, z.2⟩) fun _ _ z => z.2
/-- name = value, and behind it a token is out -/
theorem pss_setT {i : Nat} {x : Str} {pos' : Pos} {rest : List Stmt} {u : TS} (hN : X.N.Nodup) (hi : X.N[i]? = some x) (hx : Loc X.env.scope x) (he : PE1 X e te) (hr : PSsT X rest u) (hs : swapsWith e (some (.Name x pos')) pos.line X.env = pure false := by rfl) (hf : X.fn x = true ∨ X.env.scope.names.lookup x = some .local := by first | exact .inl rfl | exact .inr rfl | assumption) :
    PSs X (.Assign [.Name x pos'] e pos :: rest) (tSeq (tAsg te (gName i)) u) := by
  refine ⟨fun pins s σ H D I h => ?_⟩
  refine wpAny_execs_cons (wpAny_Assign_Name (thn (he pins s σ H _ I h) fun v s1 ⟨h1, y, H1, I1, r1, q1⟩ => ?_) hs)
  refine wpAny_mono (PySem.wpAny_toks (store_ok (Q := fun _ s2 => Inv X pins (σ.set i (some y)) H1 s2) I1 hN hi hx r1 (fun s2 I2 => I2) hf)) (fun _ s2 z => ?_) fun _ _ z => z.2
  exact hr pins s2 _ H1 D (Nat.le_trans h1 z.1) z.2 q1
end
end HopR

set_option Elab.async false
set_option linter.all false
set_option maxRecDepth 100000
namespace Hop
open PySem L2 HopR
theorem count_put {x c : Nat} {cs : List Nat} (hx : cs[x]? = some 98) : (cs.set x 97).count c = cs.count c - (if c = 98 then 1 else 0) + (if c = 97 then 1 else 0) := by
  obtain ⟨hl, e⟩ := List.getElem?_eq_some_iff.mp hx
  rw [List.count_set hl, e]
  simp only [beq_iff_eq]
  congr 1
  · congr 1
    by_cases h : c = 98 <;> simp [h, eq_comm]
  · by_cases h : c = 97 <;> simp [h, eq_comm]
/-- all beads of the upper line find one -/
theorem puts_count {n : Nat} : ∀ (ps cs : List Nat), cs.length = n → (∀ p ∈ ps, p < n) → ps.length ≤ cs.count 98 → (ps.foldl (put n) cs).count 98 = cs.count 98 - ps.length ∧ (ps.foldl (put n) cs).count 97 = cs.count 97 + ps.length
  | [], cs, _, _, _ => ⟨rfl, rfl⟩
  | p :: ps, cs, hl, lt, hc => by
    rw [List.length_cons] at hc
    obtain ⟨x, r, hf, hx, hcx⟩ := put_at (lt p (List.mem_cons_self ..)) hl (by omega)
    have e := put_cons hf
    have c8 : (put n cs p).count 98 = cs.count 98 - 1 := by rw [e, count_put hcx]; rfl
    have c7 : (put n cs p).count 97 = cs.count 97 + 1 := by rw [e, count_put hcx]; rfl
    obtain ⟨i1, i2⟩ := puts_count ps (put n cs p) (by rw [put_len]; exact hl) (fun q hq => lt q (List.mem_cons_of_mem _ hq)) (by omega)
    rw [List.foldl_cons, i1, i2, c8, c7, List.length_cons]
    omega
/-- whether a bead stands there -/
def lowc (c : Nat) : Nat := if c = 97 ∨ c = 98 then 111 else c
theorem put_low {n p : Nat} {cs : List Nat} : (put n cs p).map lowc = cs.map lowc := by
  cases hf : (lef n p).filter (isb cs) with
  | nil => rw [put_nil hf]
  | cons x r =>
    rw [put_cons hf]
    have hx : isb cs x = true := (List.mem_filter.mp (show x ∈ (lef n p).filter (isb cs) by rw [hf]; exact List.mem_cons_self ..)).2
    have hl := isb_lt hx
    unfold isb at hx
    have hx := of_decide_eq_true hx
    rw [List.getD_eq_getElem?_getD, List.getElem?_eq_getElem hl] at hx
    rw [List.map_set]
    refine List.ext_getElem? fun i => ?_
    rw [List.getElem?_set]
    split
    · rename_i h
      subst h
      rw [List.length_map, if_pos hl, List.getElem?_map, List.getElem?_eq_getElem hl]
      show some (lowc 97) = some (lowc cs[x])
      rw [show cs[x] = 98 from hx]
      rfl
    · rfl
theorem puts_low {n : Nat} : ∀ (ps cs : List Nat), (ps.foldl (put n) cs).map lowc = cs.map lowc
  | [], _ => rfl
  | p :: ps, cs => by rw [List.foldl_cons, puts_low ps, put_low]
theorem put_ok {n p : Nat} {cs : List Nat} (h : ∀ c ∈ cs, c ∈ [97, 98, 46]) : ∀ c ∈ put n cs p, c ∈ [97, 98, 46] := by
  cases hf : (lef n p).filter (isb cs) with
  | nil => rw [put_nil hf]; exact h
  | cons x r =>
    rw [put_cons hf]
    intro c hc
    rcases List.mem_or_eq_of_mem_set hc with hc | rfl
    · exact h c hc
    · exact List.mem_cons_self ..
theorem puts_ok {n : Nat} : ∀ (ps cs : List Nat), (∀ c ∈ cs, c ∈ [97, 98, 46]) → ∀ c ∈ ps.foldl (put n) cs, c ∈ [97, 98, 46]
  | [], _, h => h
  | p :: ps, cs, h => puts_ok ps _ (put_ok h)
/-! ### turned round -/
def rot {α : Type} (k : Nat) (xs : List α) : List α := xs.drop k ++ xs.take k
def sh (n k p : Nat) : Nat := if k ≤ p then p - k else p + n - k
theorem rot_len {α : Type} {k : Nat} {xs : List α} (h : k ≤ xs.length) : (rot k xs).length = xs.length := by
  unfold rot
  rw [List.length_append, List.length_drop, List.length_take]
  omega
theorem rot_get {α : Type} {n k i : Nat} {xs : List α} (hl : xs.length = n) (hk : k ≤ n) (hi : i < n) : (rot k xs)[sh n k i]? = xs[i]? := by
  unfold rot sh
  split
  · rw [List.getElem?_append_left (by rw [List.length_drop]; omega), List.getElem?_drop]
    congr 1
    omega
  · rw [List.getElem?_append_right (by rw [List.length_drop]; omega), List.length_drop, List.getElem?_take]
    rw [if_pos (by omega)]
    congr 1
    omega
theorem sh_lt {n k i : Nat} (hk : k ≤ n) (hi : i < n) : sh n k i < n := by
  unfold sh
  split <;> omega
theorem lef_sh {n k p : Nat} (hk : k ≤ n) (hp : p < n) : lef n (sh n k p) = (lef n p).map (sh n k) := by
  unfold lef
  rw [List.map_map]
  refine List.map_congr_left fun t ht => ?_
  have := List.mem_range.mp ht
  show (if t ≤ sh n k p then sh n k p - t else sh n k p + n - t) = sh n k (if t ≤ p then p - t else p + n - t)
  unfold sh
  repeat' split
  all_goals omega
theorem rot_set {n k x v : Nat} {cs : List Nat} (hl : cs.length = n) (hk : k ≤ n) (hx : x < n) : (rot k cs).set (sh n k x) v = rot k (cs.set x v) := by
  unfold rot sh
  rw [List.drop_set, List.take_set]
  split
  · rename_i h
    rw [List.set_append_left _ _ (by rw [List.length_drop]; omega), if_neg (by omega), List.set_eq_of_length_le (l := cs.take k) (by rw [List.length_take]; omega)]
  · rename_i h
    rw [List.set_append_right _ _ (by rw [List.length_drop]; omega), if_pos (by omega), List.length_drop]
    congr 2
    omega
theorem put_rot {n k p : Nat} {cs : List Nat} (hl : cs.length = n) (hk : k ≤ n) (hp : p < n) : put n (rot k cs) (sh n k p) = rot k (put n cs p) := by
  have e : (lef n (sh n k p)).filter (isb (rot k cs)) = ((lef n p).filter (isb cs)).map (sh n k) := by
    rw [lef_sh hk hp, List.filter_map]
    congr 1
    refine List.filter_congr fun i hi => ?_
    have := lef_lt hp hi
    show isb (rot k cs) (sh n k i) = isb cs i
    unfold isb
    rw [List.getD_eq_getElem?_getD, List.getD_eq_getElem?_getD, rot_get hl hk this]
  cases hf : (lef n p).filter (isb cs) with
  | nil =>
    rw [hf] at e
    rw [put_nil hf, put_nil e]
  | cons x r =>
    rw [hf] at e
    have hx := lef_lt hp (List.mem_filter.mp (show x ∈ (lef n p).filter (isb cs) by rw [hf]; exact List.mem_cons_self ..)).1
    rw [put_cons hf, put_cons e, rot_set hl hk hx]
theorem puts_rot {n k : Nat} (hk : k ≤ n) : ∀ (ps cs : List Nat), cs.length = n → (∀ p ∈ ps, p < n) → (ps.map (sh n k)).foldl (put n) (rot k cs) = rot k (ps.foldl (put n) cs)
  | [], _, _, _ => rfl
  | p :: ps, cs, hl, lt => by
    rw [List.map_cons, List.foldl_cons, List.foldl_cons, put_rot hl hk (lt p (List.mem_cons_self ..)), puts_rot hk ps _ (by rw [put_len]; exact hl) fun q hq => lt q (List.mem_cons_of_mem _ hq)]
/-! ### lines -/
def bds (hi : List Bool) : List Nat := (List.range hi.length).filter fun i => hi.getD i false
def lob (lo : List Bool) : List Nat := lo.map fun b => if b then 98 else 46
def rg (hi lo : List Bool) : List Nat := (bds hi).foldl (put hi.length) (lob lo)
theorem bds_lt {hi : List Bool} : ∀ p ∈ bds hi, p < hi.length := fun p hp => List.mem_range.mp (List.mem_filter.mp hp).1
theorem lob_rot (k : Nat) (lo : List Bool) : lob (rot k lo) = rot k (lob lo) := by
  unfold lob rot
  rw [List.map_append, List.map_drop, List.map_take]
theorem bds_rot {n k : Nat} {hi : List Bool} (hl : hi.length = n) (hk : k ≤ n) : (bds (rot k hi)).Perm ((bds hi).map (sh n k)) := by
  have r1 : List.range n = List.range (n - k) ++ (List.range k).map (fun i => (n - k) + i) := by
    conv => lhs; rw [show n = (n - k) + k by omega]
    exact List.range_add
  have r2 : List.range n = List.range k ++ (List.range (n - k)).map (fun i => k + i) := by
    conv => lhs; rw [show n = k + (n - k) by omega]
    exact List.range_add
  have e1 : bds (rot k hi) = ((List.range (n - k)).filter fun i => hi.getD (k + i) false) ++ ((List.range k).filter fun i => hi.getD i false).map (fun i => (n - k) + i) := by
    unfold bds
    rw [rot_len (by omega), hl, r1, List.filter_append, List.filter_map]
    congr 1
    · refine List.filter_congr fun i hi' => ?_
      have := List.mem_range.mp hi'
      rw [List.getD_eq_getElem?_getD, List.getD_eq_getElem?_getD]
      have := rot_get (k := k) (i := k + i) hl hk (by omega)
      rw [show sh n k (k + i) = i by unfold sh; rw [if_pos (by omega)]; omega] at this
      rw [this]
    · congr 1
      refine List.filter_congr fun i hi' => ?_
      have := List.mem_range.mp hi'
      show (rot k hi).getD (n - k + i) false = hi.getD i false
      rw [List.getD_eq_getElem?_getD, List.getD_eq_getElem?_getD]
      have := rot_get (k := k) (i := i) hl hk (by omega)
      rw [show sh n k i = n - k + i by unfold sh; rw [if_neg (by omega)]; omega] at this
      rw [this]
  have e2 : (bds hi).map (sh n k) = ((List.range k).filter fun i => hi.getD i false).map (fun i => (n - k) + i) ++ ((List.range (n - k)).filter fun i => hi.getD (k + i) false) := by
    unfold bds
    rw [hl, r2, List.filter_append, List.filter_map, List.map_append, List.map_map]
    congr 1
    · refine List.map_congr_left fun i hi' => ?_
      have := List.mem_range.mp (List.mem_filter.mp hi').1
      unfold sh
      rw [if_neg (by omega)]
      omega
    · refine Eq.trans (List.map_congr_left (g := id) fun i hi' => ?_) (List.map_id _)
      show sh n k (k + i) = i
      unfold sh
      rw [if_pos (by omega)]
      omega
  rw [e1, e2]
  exact List.perm_append_comm
theorem rg_rot {n k : Nat} {hi lo : List Bool} (h1 : hi.length = n) (h2 : lo.length = n) (hk : k ≤ n) : rg (rot k hi) (rot k lo) = rot k (rg hi lo) := by
  have hl : (lob lo).length = n := by unfold lob; rw [List.length_map, h2]
  unfold rg
  rw [rot_len (by omega), h1, lob_rot, ← puts_rot hk (bds hi) (lob lo) hl (fun p hp => h1 ▸ bds_lt p hp)]
  exact puts_perm (bds_rot h1 hk) (fun p hp => by have := bds_lt p hp; rw [rot_len (by omega), h1] at this; exact this) _
end Hop

set_option Elab.async false
set_option linter.all false
set_option maxRecDepth 100000
namespace Hop
open PySem L2 HopR
theorem repl_one (y z : Nat) : ∀ cs : List Nat, PySem.StrLaws.replL [y] [z] cs = cs.map fun c => if c = y then z else c
  | [] => PySem.StrLaws.replL_nil
  | c :: r => by
    by_cases h : c = y
    · subst h
      rw [PySem.StrLaws.replL_hit (by simp) rfl, List.map_cons, if_pos rfl]
      show [z] ++ PySem.StrLaws.replL [c] [z] r = _
      rw [repl_one]
      rfl
    · rw [PySem.StrLaws.replL_miss (y := [y]) (c := c) (r := r) (fun q => h (by simpa using q)), repl_one, List.map_cons, if_neg h]
theorem replace_rt (cs : List Nat) (y z : Nat) : PySem.Txt.replace (rt cs) (one y) (one z) = rt (cs.map fun c => if c = y then z else c) := by
  refine ext_str ?_
  rw [PySem.StrLaws.replace_list (by show 1 ≤ 1; decide), rt_list, rt_list]
  exact repl_one y z cs
theorem count_rt (cs : List Nat) (c : Nat) : PySem.Txt.count (rt cs) (one c) = ((cs.count c : Nat) : Int) := by
  have e : PySem.Txt.count (rt cs) ⟨#[c]⟩ = PyProof.Rows.cnt c (rt cs).cps.toList := PyProof.Rows.count_is (rt cs) c
  show PySem.Txt.count (rt cs) ⟨#[c]⟩ = _
  rw [e, rt_list]
  clear e
  induction cs with
  | nil => rfl
  | cons b r ih =>
    rw [PyProof.Rows.cnt_cons, ih]
    by_cases h : b = c
    · subst h
      rw [List.count_cons_self, if_pos rfl]
      omega
    · rw [List.count_cons_of_ne h, if_neg h]
      omega
theorem tx_rt (bs : List Bool) : tx bs = rt (bs.map cd) := ext_str (by rw [tx_list, rt_list])
theorem sgn_o : ("o" : Str) = one 111 := by decide +kernel
theorem sgn_f : ("." : Str) = one 46 := by decide +kernel
theorem sgn_a : ("a" : Str) = one 97 := by decide +kernel
theorem sgn_b : ("b" : Str) = one 98 := by decide +kernel
def nb (bs : List Bool) : Nat := bs.count true
theorem count_tx (bs : List Bool) : PySem.Txt.count (tx bs) "o" = ((nb bs : Nat) : Int) := by
  rw [tx_rt, sgn_o, count_rt]
  congr 1
  unfold nb
  induction bs with
  | nil => rfl
  | cons b r ih =>
    rw [List.map_cons]
    cases b with
    | true => rw [List.count_cons_self, ← ih]; exact List.count_cons_self
    | false =>
      have e1 : (cd false :: r.map cd).count 111 = (r.map cd).count 111 := List.count_cons_of_ne (by decide)
      have e2 : (false :: r).count true = r.count true := List.count_cons_of_ne (by decide)
      rw [e1, e2, ih]
theorem lob_tx (lo : List Bool) : PySem.Txt.replace (tx lo) "o" "b" = rt (lob lo) := by
  rw [tx_rt, sgn_o, sgn_b, replace_rt, List.map_map]
  congr 1
  exact List.map_congr_left fun b _ => by cases b <;> rfl
theorem loa_tx (lo : List Bool) : PySem.Txt.replace (tx lo) "o" "a" = rt (lo.map fun b => if b then 97 else 46) := by
  rw [tx_rt, sgn_o, sgn_a, replace_rt, List.map_map]
  congr 1
  exact List.map_congr_left fun b _ => by cases b <;> rfl
theorem lob_count (lo : List Bool) : (lob lo).count 98 = nb lo ∧ (lob lo).count 97 = 0 := by
  unfold lob nb
  induction lo with
  | nil => exact ⟨rfl, rfl⟩
  | cons b r ih =>
    rw [List.map_cons]
    cases b with
    | true => exact ⟨by show (98 :: _).count 98 = _; rw [List.count_cons_self, ih.1, List.count_cons_self], by show (98 :: _).count 97 = _; rw [List.count_cons_of_ne (by decide)]; exact ih.2⟩
    | false => exact ⟨by show (46 :: _).count 98 = _; rw [List.count_cons_of_ne (by decide), ih.1, List.count_cons_of_ne (by decide)], by show (46 :: _).count 97 = _; rw [List.count_cons_of_ne (by decide)]; exact ih.2⟩
theorem bds_len (hi : List Bool) : (bds hi).length = nb hi := by
  unfold bds nb
  rw [← List.countP_eq_length_filter]
  have h : hi = (List.range hi.length).map (fun i => hi.getD i false) := by
    refine List.ext_getElem (by simp) fun i h1 h2 => ?_
    simp [h1]
  conv => rhs; rw [h]
  rw [List.count_eq_countP, List.countP_map]
  refine List.countP_congr fun i _ => ?_
  simp
theorem lob_len (lo : List Bool) : (lob lo).length = lo.length := by unfold lob; rw [List.length_map]
theorem lob_ok (lo : List Bool) : ∀ c ∈ lob lo, c ∈ [97, 98, 46] := fun c hc => by
  unfold lob at hc
  obtain ⟨b, _, rfl⟩ := List.mem_map.mp hc
  cases b <;> decide
section
variable {hi lo : List Bool}
theorem rg_len : (rg hi lo).length = lo.length := by
  unfold rg
  rw [puts_len, lob_len]
theorem rg_ring (h2 : 2 ≤ lo.length) (h12 : lo.length ≤ 12) : Rg (rg hi lo) := ⟨by rw [rg_len]; exact h2, by rw [rg_len]; exact h12, puts_ok _ _ (lob_ok lo)⟩
theorem rg_low : (rg hi lo).map lowc = lo.map cd := by
  unfold rg
  rw [puts_low]
  unfold lob
  rw [List.map_map]
  exact List.map_congr_left fun b _ => by cases b <;> rfl
theorem rg_back : PySem.Txt.replace (PySem.Txt.replace (rt (rg hi lo)) "a" "o") "b" "o" = tx lo := by
  rw [sgn_a, sgn_b, sgn_o, replace_rt, replace_rt, tx_rt, ← rg_low (hi := hi), List.map_map]
  congr 1
  refine List.map_congr_left fun c _ => ?_
  show (if (if c = 97 then 111 else c) = 98 then 111 else if c = 97 then 111 else c) = lowc c
  unfold lowc
  repeat' split
  all_goals omega
theorem rg_count (hl : hi.length = lo.length) (hb : nb hi ≤ nb lo) : (rg hi lo).count 98 = nb lo - nb hi ∧ (rg hi lo).count 97 = nb hi := by
  obtain ⟨c8, c7⟩ := lob_count lo
  obtain ⟨h1, h2⟩ := puts_count (n := hi.length) (bds hi) (lob lo) (by rw [lob_len, hl]) bds_lt (by rw [bds_len, c8]; exact hb)
  unfold rg
  rw [h1, h2, c8, c7, bds_len]
  exact ⟨rfl, Nat.zero_add _⟩
theorem rg_self : rg lo lo = lo.map fun b => if b then 97 else 46 := by
  have hc := (rg_count (hi := lo) (lo := lo) rfl (Nat.le_refl _)).1
  rw [Nat.sub_self] at hc
  have hn : 98 ∉ rg lo lo := List.count_eq_zero.mp hc
  have hm := rg_low (hi := lo) (lo := lo)
  have ok : ∀ c ∈ rg lo lo, c ∈ [97, 98, 46] := puts_ok _ _ (lob_ok lo)
  refine List.ext_getElem (by rw [rg_len, List.length_map]) fun i h1 h2 => ?_
  rw [List.length_map] at h2
  have hg : lowc (rg lo lo)[i] = cd lo[i] := by
    have := congrArg (fun l => l[i]?) hm
    rw [List.getElem?_map, List.getElem?_map, List.getElem?_eq_getElem h1, List.getElem?_eq_getElem h2] at this
    exact Option.some.inj this
  have h3 : (rg lo lo)[i] ≠ 98 := fun z => hn (z ▸ List.getElem_mem h1)
  have h4 := ok _ (List.getElem_mem h1)
  rw [List.getElem_map]
  generalize (rg lo lo)[i] = c at *
  simp only [List.mem_cons, List.not_mem_nil, or_false] at h4
  rcases h4 with rfl | rfl | rfl
  · cases hb : lo[i] with
    | true => rfl
    | false => rw [hb] at hg; exact absurd hg (by decide)
  · exact absurd rfl h3
  · cases hb : lo[i] with
    | true => rw [hb] at hg; exact absurd hg (by decide)
    | false => rfl
end
end Hop

set_option Elab.async false
set_option linter.all false
set_option maxRecDepth 100000
namespace Hop
open PySem L2 HopR
/-! ### how many upper lines come to a ring: a scan from the right -/
/-- the ring so far and how many upper beads wait, from the right on -/
def sc : List Bool → List Bool → List Nat × Nat
  | u :: us, l :: ls =>
    let r := sc us ls
    let k := r.2 + u.toNat
    if l then (if k = 0 then (98 :: r.1, 0) else (97 :: r.1, k - 1)) else (46 :: r.1, k)
  | _, _ => ([], 0)
theorem sc_nil (us : List Bool) : sc us [] = ([], 0) := by cases us <;> rfl
theorem sc_cons (u l : Bool) (us ls : List Bool) : sc (u :: us) (l :: ls) = if l then (if (sc us ls).2 + u.toNat = 0 then (98 :: (sc us ls).1, 0) else (97 :: (sc us ls).1, (sc us ls).2 + u.toNat - 1)) else (46 :: (sc us ls).1, (sc us ls).2 + u.toNat) := rfl
/-- a line read from the right, its first k beads taken -/
def mkR : Nat → List Bool → List Nat
  | _, [] => []
  | k, false :: R => 46 :: mkR k R
  | 0, true :: R => 98 :: mkR 0 R
  | k + 1, true :: R => 97 :: mkR k R
theorem mkR_len : ∀ (R : List Bool) (k : Nat), (mkR k R).length = R.length
  | [], _ => rfl
  | false :: R, k => by
    show (mkR k R).length + 1 = R.length + 1
    rw [mkR_len R]
  | true :: R, 0 => by
    show (mkR 0 R).length + 1 = R.length + 1
    rw [mkR_len R]
  | true :: R, k + 1 => by
    show (mkR k R).length + 1 = R.length + 1
    rw [mkR_len R]
theorem mkR_0 : ∀ R : List Bool, mkR 0 R = lob R
  | [] => rfl
  | false :: R => by
    show 46 :: mkR 0 R = 46 :: lob R
    rw [mkR_0 R]
  | true :: R => by
    show 98 :: mkR 0 R = 98 :: lob R
    rw [mkR_0 R]
theorem nb_cons (b : Bool) (R : List Bool) : nb (b :: R) = nb R + b.toNat := by
  unfold nb
  cases b with
  | true => rw [List.count_cons_self]; rfl
  | false => rw [List.count_cons_of_ne (by decide)]; rfl
theorem nb_rev (R : List Bool) : nb R.reverse = nb R := by
  unfold nb
  rw [List.count_reverse]
/-- the next bead that is free -/
theorem mkR_next : ∀ (R : List Bool) (k : Nat), k < nb R → ∃ t : Nat, t < R.length ∧ (mkR k R)[t]? = some 98 ∧ (∀ j : Nat, j < t → (mkR k R)[j]? ≠ some 98) ∧ (mkR k R).set t 97 = mkR (k + 1) R
  | [], k, h => absurd h (Nat.not_lt_zero _)
  | false :: R, k, h => by
    rw [nb_cons] at h
    obtain ⟨t, h1, h2, h3, h4⟩ := mkR_next R k h
    refine ⟨t + 1, Nat.succ_lt_succ h1, h2, fun j hj => ?_, ?_⟩
    · cases j with
      | zero => exact fun z => absurd (Option.some.inj z) (by decide)
      | succ j => exact h3 j (by omega)
    · show 46 :: (mkR k R).set t 97 = 46 :: mkR (k + 1) R
      rw [h4]
  | true :: R, 0, h => ⟨0, Nat.succ_pos _, rfl, fun j hj => absurd hj (Nat.not_lt_zero _), rfl⟩
  | true :: R, k + 1, h => by
    rw [nb_cons] at h
    obtain ⟨t, h1, h2, h3, h4⟩ := mkR_next R k (by simp only [Bool.toNat_true] at h; omega)
    refine ⟨t + 1, Nat.succ_lt_succ h1, h2, fun j hj => ?_, ?_⟩
    · cases j with
      | zero => exact fun z => absurd (Option.some.inj z) (by decide)
      | succ j => exact h3 j (by omega)
    · show 97 :: (mkR k R).set t 97 = 97 :: mkR (k + 1) R
      rw [h4]
theorem head_of {f : Nat → Bool} : ∀ {L : List Nat} {x t : Nat}, L[t]? = some x → f x = true → (∀ j : Nat, j < t → ∀ y, L[j]? = some y → f y = false) → ∃ r, L.filter f = x :: r
  | [], x, t, h, _, _ => by simp at h
  | a :: L, x, 0, h, hx, _ => by
    obtain rfl : a = x := Option.some.inj h
    exact ⟨_, List.filter_cons_of_pos hx⟩
  | a :: L, x, t + 1, h, hx, hj => by
    have ha := hj 0 (Nat.succ_pos _) a rfl
    obtain ⟨r, e⟩ := head_of (L := L) (x := x) (t := t) h hx fun j hjt y hy => hj (j + 1) (by omega) y hy
    exact ⟨r, by rw [List.filter_cons_of_neg (by rw [ha]; decide)]; exact e⟩
/-- the bead at the right end of what is not yet scanned -/
theorem put_mk {n : Nat} {R : List Bool} {S : List Nat} {k p : Nat} (hp : R.length = p + 1) (hn : R.length + S.length = n) (hk : k < nb R) : put n ((mkR k R).reverse ++ S) p = (mkR (k + 1) R).reverse ++ S := by
  obtain ⟨t, h1, h2, h3, h4⟩ := mkR_next R k hk
  have hl : (mkR k R).length = p + 1 := by rw [mkR_len]; exact hp
  have ge : ∀ j : Nat, j ≤ p → ((mkR k R).reverse ++ S)[p - j]? = (mkR k R)[j]? := fun j hj => by
    rw [List.getElem?_append_left (by rw [List.length_reverse]; omega), List.getElem?_reverse (by omega)]
    congr 1
    omega
  have lg : ∀ j : Nat, j ≤ p → (lef n p)[j]? = some (p - j) := fun j hj => by
    rw [List.getElem?_eq_getElem (by rw [lef_len]; omega), lef_get, if_pos hj]
  have isv : ∀ j : Nat, j ≤ p → (isb ((mkR k R).reverse ++ S) (p - j) = true ↔ (mkR k R)[j]? = some 98) := fun j hj => by
    unfold isb
    rw [decide_eq_true_iff, List.getD_eq_getElem?_getD, ge j hj]
    cases h : (mkR k R)[j]? with
    | none =>
      have := List.getElem?_eq_none_iff.mp h
      omega
    | some v => simp
  obtain ⟨r, e⟩ := head_of (f := isb ((mkR k R).reverse ++ S)) (lg t (by omega)) ((isv t (by omega)).mpr h2) fun j hj y hy => by
    rw [lg j (by omega)] at hy
    obtain rfl := Option.some.inj hy
    cases hb : isb ((mkR k R).reverse ++ S) (p - j) with
    | false => rfl
    | true => exact absurd ((isv j (by omega)).mp hb) (h3 j hj)
  rw [put_cons e, List.set_append_left _ _ (by rw [List.length_reverse]; omega), ← h4]
  congr 1
  refine List.ext_getElem? fun i => ?_
  by_cases hi : i < p + 1
  · rw [List.getElem?_set, List.getElem?_reverse (by omega), List.getElem?_reverse (by rw [List.length_set]; omega), List.length_set, List.getElem?_set, List.length_reverse, hl]
    by_cases hx : p - t = i
    · rw [if_pos hx, if_pos (by omega), if_pos (by omega), if_pos (by omega)]
    · rw [if_neg hx, if_neg (by omega)]
  · rw [List.getElem?_eq_none (by rw [List.length_set, List.length_reverse]; omega), List.getElem?_eq_none (by rw [List.length_reverse, List.length_set]; omega)]
/-- the beads from place i on -/
def bfr (us : List Bool) (i : Nat) : List Nat := (List.range (us.length - i)).map fun j => i + j
def bdf (us : List Bool) (i : Nat) : List Nat := (bfr us i).filter fun j => us.getD j false
theorem bdf_step {us : List Bool} {i : Nat} (h : i < us.length) : bdf us i = (if us[i] then [i] else []) ++ bdf us (i + 1) := by
  have e : bfr us i = i :: bfr us (i + 1) := by
    unfold bfr
    rw [show us.length - i = (us.length - (i + 1)) + 1 by omega, List.range_succ_eq_map, List.map_cons, List.map_map]
    congr 1
    refine List.map_congr_left fun j _ => ?_
    show i + (j + 1) = i + 1 + j
    omega
  unfold bdf
  rw [e]
  have hg : us.getD i false = us[i] := by rw [List.getD_eq_getElem?_getD, List.getElem?_eq_getElem h]; rfl
  cases hb : us[i] with
  | true => rw [List.filter_cons_of_pos (by rw [hg, hb])]; rfl
  | false => rw [List.filter_cons_of_neg (by rw [hg, hb]; decide)]; rfl
theorem bdf_0 (us : List Bool) : bdf us 0 = bds us := by
  unfold bdf bfr bds
  congr 1
  rw [Nat.sub_zero]
  refine Eq.trans (List.map_congr_left (g := id) fun j _ => ?_) (List.map_id _)
  exact Nat.zero_add j
theorem bdf_lt {us : List Bool} {i : Nat} : ∀ p ∈ bdf us i, p < us.length := fun p hp => by
  obtain ⟨h1, _⟩ := List.mem_filter.mp hp
  obtain ⟨j, hj, rfl⟩ := List.mem_map.mp h1
  have := List.mem_range.mp hj
  omega
end Hop

set_option Elab.async false
set_option linter.all false
set_option maxRecDepth 100000
namespace Hop
open PySem L2 HopR
section
variable {us lo : List Bool}
theorem take_succ_rev {i : Nat} (h : i < lo.length) : (lo.take (i + 1)).reverse = lo[i] :: (lo.take i).reverse := by
  rw [List.take_add_one, List.getElem?_eq_getElem h]
  simp
theorem sc_drop {i : Nat} (h1 : i < us.length) (h2 : i < lo.length) : sc (us.drop i) (lo.drop i) = if lo[i] then (if (sc (us.drop (i + 1)) (lo.drop (i + 1))).2 + us[i].toNat = 0 then (98 :: (sc (us.drop (i + 1)) (lo.drop (i + 1))).1, 0) else (97 :: (sc (us.drop (i + 1)) (lo.drop (i + 1))).1, (sc (us.drop (i + 1)) (lo.drop (i + 1))).2 + us[i].toNat - 1)) else (46 :: (sc (us.drop (i + 1)) (lo.drop (i + 1))).1, (sc (us.drop (i + 1)) (lo.drop (i + 1))).2 + us[i].toNat) := by
  rw [List.drop_eq_getElem_cons h1, List.drop_eq_getElem_cons h2, sc_cons]
theorem sc_len : ∀ (us ls : List Bool), us.length = ls.length → (sc us ls).1.length = ls.length
  | [], [], _ => rfl
  | u :: us, l :: ls, h => by
    have ih := sc_len us ls (by simpa using h)
    rw [sc_cons]
    split
    · split
      · show (sc us ls).1.length + 1 = ls.length + 1
        rw [ih]
      · show (sc us ls).1.length + 1 = ls.length + 1
        rw [ih]
    · show (sc us ls).1.length + 1 = ls.length + 1
      rw [ih]
  | [], _ :: _, h => by simp at h
  | _ :: _, [], h => by simp at h
/-- the ring when the beads from place i on are put -/
theorem ring_at {n : Nat} (h1 : us.length = n) (h2 : lo.length = n) : ∀ (d i : Nat), i + d = n → (sc (us.drop i) (lo.drop i)).2 ≤ nb (lo.take i) →
    (bdf us i).foldl (put n) (lob lo) = (mkR (sc (us.drop i) (lo.drop i)).2 (lo.take i).reverse).reverse ++ (sc (us.drop i) (lo.drop i)).1
  | 0, i, hi, hk => by
    have e1 : bdf us i = [] := by
      unfold bdf bfr
      rw [show us.length - i = 0 by omega]
      rfl
    rw [e1, List.drop_of_length_le (by omega), List.drop_of_length_le (l := lo) (by omega), List.take_of_length_le (by omega), sc_nil, mkR_0]
    show lob lo = (lob lo.reverse).reverse ++ []
    unfold lob
    rw [List.append_nil, List.map_reverse, List.reverse_reverse]
  | d + 1, i, hi, hk => by
    have hiu : i < us.length := by omega
    have hil : i < lo.length := by omega
    have es := sc_drop hiu hil
    have er := take_succ_rev hil
    have hnb : nb (lo.take (i + 1)) = nb (lo.take i) + lo[i].toNat := by rw [← nb_rev, er, nb_cons, nb_rev]
    have hS : (sc (us.drop (i + 1)) (lo.drop (i + 1))).1.length = n - (i + 1) := by
      rw [sc_len _ _ (by rw [List.length_drop, List.length_drop, h1, h2]), List.length_drop, h2]
    have ih := ring_at h1 h2 d (i + 1) (by omega)
    generalize hk' : (sc (us.drop (i + 1)) (lo.drop (i + 1))).2 = k at es ih
    generalize (sc (us.drop (i + 1)) (lo.drop (i + 1))).1 = S at es ih hS
    have low : k + us[i].toNat ≤ nb (lo.take (i + 1)) := by
      rw [hnb]
      rw [es] at hk
      cases hl : lo[i] with
      | false =>
        rw [hl] at hk
        simpa using hk
      | true =>
        rw [hl] at hk
        by_cases h0 : k + us[i].toNat = 0
        · omega
        · rw [if_pos rfl, if_neg h0] at hk
          simp only [Bool.toNat_true]
          have : k + us[i].toNat - 1 ≤ nb (lo.take i) := hk
          omega
    have ih := ih (by omega)
    have hR : (lo.take (i + 1)).reverse.length = i + 1 := by
      rw [List.length_reverse, List.length_take]
      omega
    -- one more bead
    have step : (bdf us i).foldl (put n) (lob lo) = (mkR (k + us[i].toNat) (lo.take (i + 1)).reverse).reverse ++ S := by
      rw [bdf_step hiu]
      cases hu : us[i] with
      | false => exact ih
      | true =>
        rw [hu] at low
        show ([i] ++ bdf us (i + 1)).foldl (put n) (lob lo) = _
        rw [puts_perm (n := n) (List.perm_append_comm (l₁ := [i]) (l₂ := bdf us (i + 1))) (fun p hp => by
          rcases List.mem_append.mp hp with hp | hp
          · rw [List.mem_singleton.mp hp]; omega
          · exact h1 ▸ bdf_lt p hp), List.foldl_append, ih]
        exact put_mk hR (by rw [hR, hS]; omega) (by rw [nb_rev]; exact low)
    rw [step, er, es]
    cases hl : lo[i] with
    | false =>
      rw [if_neg (by decide)]
      show (46 :: mkR (k + us[i].toNat) (lo.take i).reverse).reverse ++ S = _ ++ 46 :: S
      rw [List.reverse_cons, List.append_assoc]
      rfl
    | true =>
      rw [if_pos rfl]
      by_cases h0 : k + us[i].toNat = 0
      · rw [if_pos h0, h0]
        show (98 :: mkR 0 (lo.take i).reverse).reverse ++ S = _ ++ 98 :: S
        rw [List.reverse_cons, List.append_assoc]
        rfl
      · rw [if_neg h0]
        obtain ⟨m, hm⟩ : ∃ m, k + us[i].toNat = m + 1 := ⟨k + us[i].toNat - 1, by omega⟩
        rw [hm]
        show (97 :: mkR m (lo.take i).reverse).reverse ++ S = (mkR (m + 1 - 1) (lo.take i).reverse).reverse ++ 97 :: S
        rw [List.reverse_cons, List.append_assoc]
        rfl
/-- nought is left: the scan tells the ring -/
theorem rg_scan (hl : us.length = lo.length) (h0 : (sc us lo).2 = 0) : rg us lo = (sc us lo).1 := by
  have h := ring_at (us := us) (lo := lo) (n := us.length) rfl hl.symm us.length 0 (Nat.zero_add _) (by rw [List.drop_zero, List.drop_zero, h0]; exact Nat.zero_le _)
  rw [List.drop_zero, List.drop_zero, bdf_0, List.take_zero] at h
  exact h
theorem mkR_all : ∀ (R : List Bool) (k : Nat), nb R ≤ k → 98 ∉ mkR k R
  | [], _, _ => by simp [mkR]
  | false :: R, k, h => by
    rw [nb_cons] at h
    intro z
    rcases List.mem_cons.mp (show 98 ∈ 46 :: mkR k R from z) with z | z
    · exact absurd z (by decide)
    · exact mkR_all R k h z
  | true :: R, 0, h => by
    rw [nb_cons] at h
    simp at h
  | true :: R, k + 1, h => by
    rw [nb_cons] at h
    intro z
    rcases List.mem_cons.mp (show 98 ∈ 97 :: mkR k R from z) with z | z
    · exact absurd z (by decide)
    · exact mkR_all R k (by simp only [Bool.toNat_true] at h; omega) z
/-- what is taken stays taken -/
theorem put_keep {n p i : Nat} {cs : List Nat} (h : cs[i]? ≠ some 98) : (put n cs p)[i]? ≠ some 98 := by
  cases hf : (lef n p).filter (isb cs) with
  | nil => rw [put_nil hf]; exact h
  | cons x r =>
    rw [put_cons hf, List.getElem?_set]
    split
    · split
      · exact fun z => absurd (Option.some.inj z) (by decide)
      · exact fun z => nomatch z
    · exact h
theorem puts_keep {n i : Nat} : ∀ (ps cs : List Nat), cs[i]? ≠ some 98 → (ps.foldl (put n) cs)[i]? ≠ some 98
  | [], _, h => h
  | p :: ps, cs, h => puts_keep ps _ (put_keep h)
/-- beads are left over: the first place is taken -/
theorem rg_over {n : Nat} (h1 : us.length = n) (h2 : lo.length = n) : ∀ (d i : Nat), i + d = n → nb (lo.take i) < (sc (us.drop i) (lo.drop i)).2 → ((bdf us i).foldl (put n) (lob lo))[0]? ≠ some 98
  | 0, i, hi, hk => by
    rw [List.drop_of_length_le (l := lo) (by omega), sc_nil] at hk
    exact absurd hk (Nat.not_lt_zero _)
  | d + 1, i, hi, hk => by
    have hiu : i < us.length := by omega
    have hil : i < lo.length := by omega
    have perm : (bdf us i).foldl (put n) (lob lo) = (if us[i] then [i] else []).foldl (put n) ((bdf us (i + 1)).foldl (put n) (lob lo)) := by
      rw [bdf_step hiu, ← List.foldl_append]
      exact puts_perm List.perm_append_comm (fun p hp => by
        rcases List.mem_append.mp hp with hp | hp
        · split at hp
          · rw [List.mem_singleton.mp hp]; omega
          · cases hp
        · exact h1 ▸ bdf_lt p hp) _
    rw [perm]
    refine puts_keep _ _ ?_
    by_cases hlow : nb (lo.take (i + 1)) < (sc (us.drop (i + 1)) (lo.drop (i + 1))).2
    · exact rg_over h1 h2 d (i + 1) (by omega) hlow
    · have es := sc_drop hiu hil
      have hnb : nb (lo.take (i + 1)) = nb (lo.take i) + lo[i].toNat := by rw [← nb_rev, take_succ_rev hil, nb_cons, nb_rev]
      have hr := ring_at h1 h2 d (i + 1) (by omega) (by omega)
      have hu1 : us[i].toNat ≤ 1 := Bool.toNat_le _
      have full : nb (lo.take (i + 1)) ≤ (sc (us.drop (i + 1)) (lo.drop (i + 1))).2 := by
        rw [es] at hk
        cases hl : lo[i] with
        | false =>
          rw [hl] at hk hnb
          have hk : nb (lo.take i) < (sc (us.drop (i + 1)) (lo.drop (i + 1))).2 + us[i].toNat := hk
          simp only [Bool.toNat_false] at hnb
          omega
        | true =>
          rw [hl] at hk hnb
          simp only [Bool.toNat_true] at hnb
          by_cases h0 : (sc (us.drop (i + 1)) (lo.drop (i + 1))).2 + us[i].toNat = 0
          · rw [if_pos rfl, if_pos h0] at hk
            exact absurd hk (Nat.not_lt_zero _)
          · rw [if_pos rfl, if_neg h0] at hk
            have hk : nb (lo.take i) < (sc (us.drop (i + 1)) (lo.drop (i + 1))).2 + us[i].toNat - 1 := hk
            omega
      rw [hr, List.getElem?_append_left (by rw [List.length_reverse, mkR_len, List.length_reverse, List.length_take]; omega)]
      exact fun z => mkR_all _ _ (by rw [nb_rev]; exact full) (List.mem_reverse.mp (List.mem_of_getElem? z))
/-- a ring whose first bead is free: the upper lines that come to it are those whose scan tells it -/
theorem scan_iff {cs : List Nat} (hl : us.length = lo.length) (h98 : cs[0]? = some 98) : rg us lo = cs ↔ sc us lo = (cs, 0) := by
  constructor
  · intro h
    by_cases h0 : (sc us lo).2 = 0
    · have := rg_scan hl h0
      rw [← h, this, ← h0]
    · have := rg_over (us := us) (lo := lo) (n := us.length) rfl hl.symm us.length 0 (Nat.zero_add _) (by rw [List.drop_zero, List.drop_zero, List.take_zero]; exact Nat.pos_of_ne_zero h0)
      rw [bdf_0] at this
      have hc : (rg us lo)[0]? = some 98 := by rw [h]; exact h98
      exact absurd hc this
  · intro h
    have h0 : (sc us lo).2 = 0 := by rw [h]
    rw [rg_scan hl h0, h]
end
end Hop

set_option Elab.async false
set_option linter.all false
set_option maxRecDepth 100000
namespace Hop
open PySem L2 HopR
/-! ### all upper lines -/
def allb : Nat → List (List Bool)
  | 0 => [[]]
  | n + 1 => (allb n).map (false :: ·) ++ (allb n).map (true :: ·)
theorem allb_len : ∀ (n : Nat), ∀ u ∈ allb n, u.length = n
  | 0, u, h => by
    rw [List.mem_singleton.mp h]
    rfl
  | n + 1, u, h => by
    rcases List.mem_append.mp h with h | h <;>
    · obtain ⟨v, hv, rfl⟩ := List.mem_map.mp h
      rw [List.length_cons, allb_len n v hv]
theorem allb_snoc : ∀ n : Nat, (allb (n + 1)).Perm ((allb n).map (· ++ [false]) ++ (allb n).map (· ++ [true]))
  | 0 => List.Perm.refl _
  | n + 1 => by
    have ih := allb_snoc n
    show ((allb (n + 1)).map (false :: ·) ++ (allb (n + 1)).map (true :: ·)).Perm _
    have h1 := (ih.map (false :: ·)).append (ih.map (true :: ·))
    refine h1.trans ?_
    show List.Perm _ (((allb n).map (false :: ·) ++ (allb n).map (true :: ·)).map (· ++ [false]) ++ ((allb n).map (false :: ·) ++ (allb n).map (true :: ·)).map (· ++ [true]))
    simp only [List.map_append, List.map_map]
    have e : ∀ (b c : Bool) (L : List (List Bool)), L.map ((b :: ·) ∘ (· ++ [c])) = L.map ((· ++ [c]) ∘ (b :: ·)) := fun b c L => List.map_congr_left fun x _ => rfl
    rw [e, e, e, e]
    generalize (allb n).map ((· ++ [false]) ∘ (false :: ·)) = A
    generalize (allb n).map ((· ++ [true]) ∘ (false :: ·)) = B
    generalize (allb n).map ((· ++ [false]) ∘ (true :: ·)) = C
    generalize (allb n).map ((· ++ [true]) ∘ (true :: ·)) = D
    rw [List.append_assoc, List.append_assoc]
    refine List.Perm.append_left A ?_
    rw [← List.append_assoc, ← List.append_assoc]
    exact List.Perm.append_right D List.perm_append_comm
/-- turned by one place -/
theorem allb_rot (n : Nat) : ((allb n).map (rot 1)).Perm (allb n) := by
  cases n with
  | zero => exact List.Perm.refl _
  | succ n =>
    have e : (allb (n + 1)).map (rot 1) = (allb n).map (· ++ [false]) ++ (allb n).map (· ++ [true]) := by
      show ((allb n).map (false :: ·) ++ (allb n).map (true :: ·)).map (rot 1) = _
      rw [List.map_append, List.map_map, List.map_map]
      rfl
    rw [e]
    exact (allb_snoc n).symm
/-- the places with a bead -/
def lows (cs : List Nat) : List Bool := cs.map fun c => decide (c ≠ 46)
theorem lows_len (cs : List Nat) : (lows cs).length = cs.length := by unfold lows; rw [List.length_map]
theorem lows_rot (k : Nat) (cs : List Nat) : lows (rot k cs) = rot k (lows cs) := by
  unfold lows rot
  rw [List.map_append, List.map_drop, List.map_take]
/-- how many upper lines with as many beads as the ring has a come to it -/
def due (cs : List Nat) : Nat := (allb cs.length).countP fun u => decide (nb u = cs.count 97) && decide (rg u (lows cs) = cs)
theorem rot_inj {α : Type} {k : Nat} {xs ys : List α} (hk : k ≤ xs.length) (hl : xs.length = ys.length) (h : rot k xs = rot k ys) : xs = ys := by
  unfold rot at h
  have h1 := List.append_inj h (by rw [List.length_drop, List.length_drop, hl])
  rw [← List.take_append_drop k xs, ← List.take_append_drop k ys, h1.1, h1.2]
theorem nb_rot' (bs : List Bool) (j : Nat) : nb (rot j bs) = nb bs := by
  unfold nb rot
  rw [List.count_append, Nat.add_comm, ← List.count_append, List.take_append_drop]
theorem count_rot (cs : List Nat) (j c : Nat) : (rot j cs).count c = cs.count c := by
  unfold rot
  rw [List.count_append, Nat.add_comm, ← List.count_append, List.take_append_drop]
theorem due_rot1 (cs : List Nat) (h : 1 ≤ cs.length) : due (rot 1 cs) = due cs := by
  unfold due
  rw [rot_len h, count_rot, ← (allb_rot cs.length).countP_eq, List.countP_map]
  refine List.countP_congr fun u hu => ?_
  have hul := allb_len _ u hu
  show (decide (nb (rot 1 u) = cs.count 97) && decide (rg (rot 1 u) (lows (rot 1 cs)) = rot 1 cs)) = true ↔ _
  rw [nb_rot', lows_rot, rg_rot hul (lows_len cs) h]
  have e : (rot 1 (rg u (lows cs)) = rot 1 cs) ↔ (rg u (lows cs) = cs) := ⟨fun z => rot_inj (by rw [rg_len, lows_len]; exact h) (by rw [rg_len, lows_len]) z, fun z => by rw [z]⟩
  simp only [e]
theorem rot_succ {α : Type} {k : Nat} {xs : List α} (h : k + 1 ≤ xs.length) : rot (k + 1) xs = rot 1 (rot k xs) := by
  have e1 : rot k xs = xs[k] :: (xs.drop (k + 1) ++ xs.take k) := by
    unfold rot
    rw [List.drop_eq_getElem_cons (i := k) (by omega)]
    rfl
  rw [e1]
  show xs.drop (k + 1) ++ xs.take (k + 1) = (xs.drop (k + 1) ++ xs.take k) ++ [xs[k]]
  rw [List.take_add_one, List.getElem?_eq_getElem (by omega), List.append_assoc]
  rfl
theorem due_rot {cs : List Nat} : ∀ (k : Nat), k ≤ cs.length → due (rot k cs) = due cs
  | 0, _ => by
    unfold rot
    rw [List.drop_zero, List.take_zero, List.append_nil]
  | k + 1, h => by rw [rot_succ h, due_rot1 _ (by rw [rot_len (by omega)]; omega), due_rot k (by omega)]
/-! ### the count, place by place -/
def wup (w : List Nat) : List Nat := (w ++ [0]).zipWith (· + ·) (0 :: w)
def past (w : List Nat) (c : Nat) : List Nat := if c = 98 then w.take 1 else if c = 97 then (wup w).drop 1 else wup w
def wt : List Nat → List Nat
  | [] => [1]
  | c :: cs => past (wt cs) c
theorem wup_get (w : List Nat) (k : Nat) : (wup w).getD k 0 = w.getD k 0 + (if k = 0 then 0 else w.getD (k - 1) 0) := by
  unfold wup
  rw [List.getD_eq_getElem?_getD, List.getElem?_zipWith]
  cases k with
  | zero =>
    cases w with
    | nil => rfl
    | cons a r => rfl
  | succ k =>
    rw [if_neg (Nat.succ_ne_zero k), List.getD_eq_getElem?_getD, List.getD_eq_getElem?_getD]
    rw [List.getElem?_cons_succ]
    show _ = w[k + 1]?.getD 0 + w[k]?.getD 0
    by_cases h : k < w.length
    · rw [List.getElem?_eq_getElem h]
      by_cases h2 : k + 1 < w.length
      · rw [List.getElem?_append_left h2, List.getElem?_eq_getElem h2]
        rfl
      · have : k + 1 = w.length := by omega
        rw [List.getElem?_append_right (by omega), List.getElem?_eq_none (l := w) (by omega), this, Nat.sub_self]
        rfl
    · rw [List.getElem?_eq_none (l := w) (i := k) (by omega), List.getElem?_eq_none (l := w) (i := k + 1) (by omega)]
      cases (w ++ [0])[k + 1]? <;> rfl
def cntS (cs : List Nat) (k : Nat) : Nat := (allb cs.length).countP fun u => decide (sc u (lows cs) = (cs, k))
theorem cntS_cons (c : Nat) (cs : List Nat) (k : Nat) : cntS (c :: cs) k = (allb cs.length).countP (fun u => decide (sc (false :: u) (lows (c :: cs)) = (c :: cs, k))) + (allb cs.length).countP (fun u => decide (sc (true :: u) (lows (c :: cs)) = (c :: cs, k))) := by
  unfold cntS
  show (((allb cs.length).map (false :: ·)) ++ ((allb cs.length).map (true :: ·))).countP _ = _
  rw [List.countP_append, List.countP_map, List.countP_map]
  rfl
theorem wt_get : ∀ (cs : List Nat), (∀ c ∈ cs, c ∈ [97, 98, 46]) → ∀ k, (wt cs).getD k 0 = cntS cs k
  | [], _, k => by
    cases k with
    | zero => rfl
    | succ k => rfl
  | c :: cs, hc, k => by
    have ih := wt_get cs fun x hx => hc x (List.mem_cons_of_mem _ hx)
    have h0 := hc c (List.mem_cons_self ..)
    rw [cntS_cons]
    simp only [List.mem_cons, List.not_mem_nil, or_false] at h0
    rcases h0 with rfl | rfl | rfl
    · -- a
      have e : (wt (97 :: cs)).getD k 0 = (wup (wt cs)).getD (k + 1) 0 := by
        show ((wup (wt cs)).drop 1).getD k 0 = _
        rw [List.getD_eq_getElem?_getD, List.getElem?_drop, List.getD_eq_getElem?_getD, Nat.add_comm]
      rw [e, wup_get, if_neg (Nat.succ_ne_zero k), ih, ih]
      congr 1
      · refine List.countP_congr fun u _ => ?_
        rw [decide_eq_true_iff, decide_eq_true_iff]
        show _ ↔ sc (false :: u) (true :: lows cs) = _
        rw [sc_cons, if_pos rfl]
        generalize sc u (lows cs) = S
        obtain ⟨r, q⟩ := S
        show _ ↔ (if q = 0 then (98 :: r, 0) else (97 :: r, q - 1)) = _
        split <;> simp <;> omega
      · refine List.countP_congr fun u _ => ?_
        rw [decide_eq_true_iff, decide_eq_true_iff]
        show _ ↔ sc (true :: u) (true :: lows cs) = _
        rw [sc_cons, if_pos rfl]
        generalize sc u (lows cs) = S
        obtain ⟨r, q⟩ := S
        show _ ↔ (if q + 1 = 0 then (98 :: r, 0) else (97 :: r, q + 1 - 1)) = _
        simp
    · -- b
      have z : (allb cs.length).countP (fun u => decide (sc (true :: u) (lows (98 :: cs)) = (98 :: cs, k))) = 0 := by
        refine List.countP_eq_zero.mpr fun u _ => ?_
        rw [decide_eq_true_iff]
        show ¬ sc (true :: u) (true :: lows cs) = _
        rw [sc_cons, if_pos rfl]
        generalize sc u (lows cs) = S
        obtain ⟨r, q⟩ := S
        show ¬ (if q + 1 = 0 then (98 :: r, 0) else (97 :: r, q + 1 - 1)) = _
        simp
      rw [z, Nat.add_zero]
      show ((wt cs).take 1).getD k 0 = _
      cases k with
      | zero =>
        have e : ((wt cs).take 1).getD 0 0 = (wt cs).getD 0 0 := by
          rw [List.getD_eq_getElem?_getD, List.getD_eq_getElem?_getD, List.getElem?_take]
          rfl
        rw [e, ih]
        refine List.countP_congr fun u _ => ?_
        rw [decide_eq_true_iff, decide_eq_true_iff]
        show _ ↔ sc (false :: u) (true :: lows cs) = _
        rw [sc_cons, if_pos rfl]
        generalize sc u (lows cs) = S
        obtain ⟨r, q⟩ := S
        show _ ↔ (if q = 0 then (98 :: r, 0) else (97 :: r, q - 1)) = _
        split <;> simp <;> omega
      | succ k =>
        have e : ((wt cs).take 1).getD (k + 1) 0 = 0 := by
          rw [List.getD_eq_getElem?_getD, List.getElem?_take, if_neg (by omega)]
          rfl
        rw [e]
        refine (List.countP_eq_zero.mpr fun u _ => ?_).symm
        rw [decide_eq_true_iff]
        show ¬ sc (false :: u) (true :: lows cs) = _
        rw [sc_cons, if_pos rfl]
        generalize sc u (lows cs) = S
        obtain ⟨r, q⟩ := S
        show ¬ (if q = 0 then (98 :: r, 0) else (97 :: r, q - 1)) = _
        split <;> simp
    · -- free
      show (wup (wt cs)).getD k 0 = _
      rw [wup_get, ih]
      congr 1
      · refine List.countP_congr fun u _ => ?_
        rw [decide_eq_true_iff, decide_eq_true_iff]
        show _ ↔ sc (false :: u) (false :: lows cs) = _
        rw [sc_cons]
        generalize sc u (lows cs) = S
        obtain ⟨r, q⟩ := S
        show _ ↔ (46 :: r, q) = _
        simp
      · cases k with
        | zero =>
          rw [if_pos rfl]
          refine (List.countP_eq_zero.mpr fun u _ => ?_).symm
          rw [decide_eq_true_iff]
          show ¬ sc (true :: u) (false :: lows cs) = _
          rw [sc_cons]
          generalize sc u (lows cs) = S
          obtain ⟨r, q⟩ := S
          show ¬ (46 :: r, q + 1) = _
          simp
        | succ k =>
          rw [if_neg (Nat.succ_ne_zero k), ih]
          refine List.countP_congr fun u _ => ?_
          rw [decide_eq_true_iff, decide_eq_true_iff]
          show _ ↔ sc (true :: u) (false :: lows cs) = _
          rw [sc_cons]
          generalize sc u (lows cs) = S
          obtain ⟨r, q⟩ := S
          show _ ↔ (46 :: r, q + 1) = _
          simp
theorem sc_nb : ∀ (us ls : List Bool), us.length = ls.length → nb us = (sc us ls).1.count 97 + (sc us ls).2
  | [], [], _ => rfl
  | u :: us, l :: ls, h => by
    have ih := sc_nb us ls (by simpa using h)
    rw [nb_cons, ih, sc_cons]
    split
    · split
      · rename_i h0
        show _ = (98 :: (sc us ls).1).count 97 + 0
        rw [List.count_cons_of_ne (by decide)]
        omega
      · rename_i h0
        show _ = (97 :: (sc us ls).1).count 97 + ((sc us ls).2 + u.toNat - 1)
        rw [List.count_cons_self]
        omega
    · show _ = (46 :: (sc us ls).1).count 97 + ((sc us ls).2 + u.toNat)
      rw [List.count_cons_of_ne (by decide)]
      omega
  | [], _ :: _, h => by simp at h
  | _ :: _, [], h => by simp at h
/-- a ring whose first bead is free -/
theorem due_b {cs : List Nat} (hc : ∀ c ∈ cs, c ∈ [97, 98, 46]) (h : cs[0]? = some 98) : due cs = (wt cs).getD 0 0 := by
  rw [wt_get cs hc]
  unfold due cntS
  refine List.countP_congr fun u hu => ?_
  have hul : u.length = (lows cs).length := by rw [allb_len _ u hu, lows_len]
  have e := scan_iff (us := u) (lo := lows cs) hul h
  rw [Bool.and_eq_true, decide_eq_true_iff, decide_eq_true_iff, decide_eq_true_iff, e]
  refine ⟨fun z => z.2, fun z => ⟨?_, z⟩⟩
  have := sc_nb u (lows cs) hul
  rw [z] at this
  exact this
theorem wt_pos : ∀ cs : List Nat, 1 ≤ (wt cs).getD 0 0
  | [] => Nat.le_refl _
  | c :: cs => by
    have ih := wt_pos cs
    show 1 ≤ (past (wt cs) c).getD 0 0
    unfold past
    split
    · rw [List.getD_eq_getElem?_getD, List.getElem?_take]
      rw [List.getD_eq_getElem?_getD] at ih
      exact ih
    · split
      · have e : ((wup (wt cs)).drop 1).getD 0 0 = (wup (wt cs)).getD 1 0 := by
          rw [List.getD_eq_getElem?_getD, List.getElem?_drop, List.getD_eq_getElem?_getD]
        rw [e, wup_get]
        exact Nat.le_trans ih (Nat.le_add_left _ _)
      · rw [wup_get]
        exact Nat.le_trans ih (Nat.le_add_right _ _)
end Hop

set_option Elab.async false
set_option linter.all false
set_option maxRecDepth 100000
namespace Hop
open PySem L2 HopR
/-! ### how many lines have m beads -/
def chs (n m : Nat) : Nat := (allb n).countP fun u => decide (nb u = m)
theorem chs_succ (n m : Nat) : chs (n + 1) (m + 1) = chs n (m + 1) + chs n m := by
  unfold chs
  show (((allb n).map (false :: ·)) ++ ((allb n).map (true :: ·))).countP _ = _
  rw [List.countP_append, List.countP_map, List.countP_map]
  have e1 : (allb n).countP ((fun u => decide (nb u = m + 1)) ∘ (false :: ·)) = (allb n).countP fun u => decide (nb u = m + 1) := List.countP_congr fun u _ => by
    show decide (nb (false :: u) = m + 1) = true ↔ _
    rw [nb_cons]
    simp
  have e2 : (allb n).countP ((fun u => decide (nb u = m + 1)) ∘ (true :: ·)) = (allb n).countP fun u => decide (nb u = m) := List.countP_congr fun u _ => by
    show decide (nb (true :: u) = m + 1) = true ↔ _
    rw [nb_cons]
    simp
  rw [e1, e2]
theorem chs_zero : ∀ n : Nat, chs n 0 = 1
  | 0 => rfl
  | n + 1 => by
    have ih := chs_zero n
    unfold chs at ih ⊢
    show (((allb n).map (false :: ·)) ++ ((allb n).map (true :: ·))).countP _ = _
    rw [List.countP_append, List.countP_map, List.countP_map]
    have e1 : (allb n).countP ((fun u => decide (nb u = 0)) ∘ (false :: ·)) = (allb n).countP fun u => decide (nb u = 0) := List.countP_congr fun u _ => by
      show decide (nb (false :: u) = 0) = true ↔ _
      rw [nb_cons]
      simp
    have e2 : (allb n).countP ((fun u => decide (nb u = 0)) ∘ (true :: ·)) = 0 := List.countP_eq_zero.mpr fun u _ => by
      show ¬ decide (nb (true :: u) = 0) = true
      rw [nb_cons]
      simp
    rw [e1, e2, ih]
theorem chs_none (m : Nat) : chs 0 (m + 1) = 0 := rfl
theorem chs_over : ∀ (n m : Nat), n < m → chs n m = 0
  | 0, 0, h => absurd h (Nat.lt_irrefl _)
  | 0, m + 1, _ => rfl
  | n + 1, 0, h => absurd h (Nat.not_lt_zero _)
  | n + 1, m + 1, h => by rw [chs_succ, chs_over n (m + 1) (by omega), chs_over n m (by omega)]
theorem chs_step : ∀ (n t : Nat), t ≤ n → (t + 1) * chs n (t + 1) = (n - t) * chs n t
  | 0, 0, _ => rfl
  | 0, t + 1, h => absurd h (Nat.not_succ_le_zero _)
  | n + 1, 0, _ => by
    by_cases h : n = 0
    · subst h
      rfl
    · have ih := chs_step n 0 (Nat.zero_le _)
      rw [chs_zero] at ih
      rw [chs_succ, chs_zero, chs_zero]
      omega
  | n + 1, t + 1, h => by
    have ih1 := chs_step n t (by omega)
    rw [chs_succ, chs_succ]
    by_cases h2 : t + 1 ≤ n
    · have ih2 := chs_step n (t + 1) h2
      have e : n + 1 - (t + 1) = n - t := by omega
      have e3 : n - t = (n - (t + 1)) + 1 := by omega
      rw [e]
      have x1 : (t + 1 + 1) * (chs n (t + 1 + 1) + chs n (t + 1)) = (t + 1 + 1) * chs n (t + 1 + 1) + (t + 1 + 1) * chs n (t + 1) := Nat.mul_add ..
      have x2 : (n - t) * (chs n (t + 1) + chs n t) = (n - t) * chs n (t + 1) + (n - t) * chs n t := Nat.mul_add ..
      have x3 : (t + 1 + 1) * chs n (t + 1) = (t + 1) * chs n (t + 1) + chs n (t + 1) := Nat.succ_mul ..
      have x4 : (n - t) * chs n (t + 1) = (n - (t + 1)) * chs n (t + 1) + chs n (t + 1) := by rw [e3]; exact Nat.succ_mul ..
      omega
    · have e : t = n := by omega
      subst e
      rw [chs_over t (t + 1) (by omega), chs_over t (t + 1 + 1) (by omega)]
      simp
theorem chs_pos : ∀ (n m : Nat), m ≤ n → 1 ≤ chs n m
  | n, 0, _ => by rw [chs_zero]; exact Nat.le_refl _
  | n + 1, m + 1, h => by
    rw [chs_succ]
    exact Nat.le_trans (chs_pos n m (by omega)) (Nat.le_add_left _ _)
theorem chs_le : ∀ (n m : Nat), chs n m ≤ 2 ^ n
  | 0, 0 => Nat.le_refl _
  | 0, m + 1 => Nat.zero_le _
  | n + 1, 0 => by
    rw [chs_zero]
    exact Nat.one_le_two_pow
  | n + 1, m + 1 => by
    rw [chs_succ, Nat.pow_succ]
    have := chs_le n m
    have := chs_le n (m + 1)
    omega
/-! ### a ring with no second kind -/
theorem rg_full {hi lo : List Bool} (hl : hi.length = lo.length) (hb : nb hi = nb lo) : rg hi lo = lo.map fun b => if b then 97 else 46 := by
  have hc := (rg_count hl (Nat.le_of_eq hb)).1
  rw [hb, Nat.sub_self] at hc
  have hn : 98 ∉ rg hi lo := List.count_eq_zero.mp hc
  have hm := rg_low (hi := hi) (lo := lo)
  have ok : ∀ c ∈ rg hi lo, c ∈ [97, 98, 46] := puts_ok _ _ (lob_ok lo)
  refine List.ext_getElem (by rw [rg_len, List.length_map]) fun i h1 h2 => ?_
  rw [List.length_map] at h2
  have hg : lowc (rg hi lo)[i] = cd lo[i] := by
    have := congrArg (fun l => l[i]?) hm
    rw [List.getElem?_map, List.getElem?_map, List.getElem?_eq_getElem h1, List.getElem?_eq_getElem h2] at this
    exact Option.some.inj this
  have h3 : (rg hi lo)[i] ≠ 98 := fun z => hn (z ▸ List.getElem_mem h1)
  have h4 := ok _ (List.getElem_mem h1)
  rw [List.getElem_map]
  generalize (rg hi lo)[i] = c at *
  simp only [List.mem_cons, List.not_mem_nil, or_false] at h4
  rcases h4 with rfl | rfl | rfl
  · cases hb : lo[i] with
    | true => rfl
    | false => rw [hb] at hg; exact absurd hg (by decide)
  · exact absurd rfl h3
  · cases hb : lo[i] with
    | true => rw [hb] at hg; exact absurd hg (by decide)
    | false => rfl
theorem lows_nb : ∀ (cs : List Nat), (∀ c ∈ cs, c ∈ [97, 98, 46]) → nb (lows cs) = cs.count 97 + cs.count 98
  | [], _ => rfl
  | c :: cs, h => by
    have ih := lows_nb cs fun x hx => h x (List.mem_cons_of_mem _ hx)
    have h0 := h c (List.mem_cons_self ..)
    show nb (decide (c ≠ 46) :: lows cs) = _
    rw [nb_cons, ih]
    simp only [List.mem_cons, List.not_mem_nil, or_false] at h0
    rcases h0 with rfl | rfl | rfl
    · rw [List.count_cons_self, List.count_cons_of_ne (by decide)]
      show _ + 1 = _
      omega
    · rw [List.count_cons_self, List.count_cons_of_ne (by decide)]
      show _ + 1 = _
      omega
    · rw [List.count_cons_of_ne (by decide), List.count_cons_of_ne (by decide)]
      rfl
theorem due_nob {cs : List Nat} (hc : ∀ c ∈ cs, c ∈ [97, 98, 46]) (h : 98 ∉ cs) : due cs = chs cs.length (cs.count 97) := by
  have h8 : cs.count 98 = 0 := List.count_eq_zero.mpr h
  have hn := lows_nb cs hc
  rw [h8, Nat.add_zero] at hn
  have hcs : (lows cs).map (fun b => if b then 97 else 46) = cs := by
    unfold lows
    rw [List.map_map]
    refine Eq.trans (List.map_congr_left (g := id) fun c hc' => ?_) (List.map_id _)
    have h0 := hc c hc'
    simp only [List.mem_cons, List.not_mem_nil, or_false] at h0
    rcases h0 with rfl | rfl | rfl
    · rfl
    · exact absurd hc' h
    · rfl
  unfold due chs
  refine List.countP_congr fun u hu => ?_
  rw [Bool.and_eq_true, decide_eq_true_iff, decide_eq_true_iff]
  refine ⟨fun z => z.1, fun z => ⟨z, ?_⟩⟩
  rw [rg_full (by rw [allb_len _ u hu, lows_len]) (by rw [z, hn]), hcs]
/-- what the program reckons -/
def um (cs : List Nat) : Nat := if 98 ∈ cs then (wt (rot (cs.idxOf 98) cs)).getD 0 0 else chs cs.length (cs.count 97)
theorem um_due {cs : List Nat} (hc : ∀ c ∈ cs, c ∈ [97, 98, 46]) : um cs = due cs := by
  unfold um
  split
  · rename_i h
    have hi : cs.idxOf 98 < cs.length := List.idxOf_lt_length_iff.mpr h
    have hr : ∀ c ∈ rot (cs.idxOf 98) cs, c ∈ [97, 98, 46] := fun c hc' => by
      unfold rot at hc'
      rcases List.mem_append.mp hc' with z | z
      · exact hc c (List.mem_of_mem_drop z)
      · exact hc c (List.mem_of_mem_take z)
    have h0 : (rot (cs.idxOf 98) cs)[0]? = some 98 := by
      unfold rot
      rw [List.getElem?_append_left (by rw [List.length_drop]; omega), List.getElem?_drop, Nat.add_zero, List.getElem?_eq_getElem hi, List.getElem_idxOf hi]
    rw [← due_b hr h0, due_rot _ (Nat.le_of_lt hi)]
  · rename_i h
    exact (due_nob hc h).symm
theorem um_pos {cs : List Nat} : 1 ≤ um cs := by
  unfold um
  split
  · exact wt_pos _
  · exact chs_pos _ _ List.count_le_length
theorem um_rot {cs : List Nat} (hc : ∀ c ∈ cs, c ∈ [97, 98, 46]) {k : Nat} (hk : k ≤ cs.length) : um (rot k cs) = um cs := by
  have hr : ∀ c ∈ rot k cs, c ∈ [97, 98, 46] := fun c hc' => by
    unfold rot at hc'
    rcases List.mem_append.mp hc' with z | z
    · exact hc c (List.mem_of_mem_drop z)
    · exact hc c (List.mem_of_mem_take z)
  rw [um_due hr, um_due hc, due_rot k hk]
/-! ### the law's own lines -/
def allr : Nat → List (List Bool)
  | 0 => [[]]
  | n + 1 => (allr n).map (· ++ [false]) ++ (allr n).map (· ++ [true])
theorem allr_perm : ∀ n : Nat, (allr n).Perm (allb n)
  | 0 => List.Perm.refl _
  | n + 1 => by
    have ih := allr_perm n
    exact ((ih.map (· ++ [false])).append (ih.map (· ++ [true]))).trans (allb_snoc n).symm
/-- the rows of i places that may come to m beads at n places -/
def may (n m i : Nat) (u : List Bool) : Bool := decide (m + i ≤ nb u + n) && decide (nb u ≤ m)
def upp (n m i : Nat) : List (List Bool) := (allr i).filter (may n m i)
theorem nb_snoc (u : List Bool) (b : Bool) : nb (u ++ [b]) = nb u + b.toNat := by
  unfold nb
  rw [List.count_append]
  cases b <;> rfl
theorem upp_succ (n m i : Nat) : upp n m (i + 1) = ((upp n m i).map (· ++ [false]) ++ (upp n m i).map (· ++ [true])).filter (may n m (i + 1)) := by
  have e : ∀ b : Bool, ((allr i).map (· ++ [b])).filter (may n m (i + 1)) = ((upp n m i).map (· ++ [b])).filter (may n m (i + 1)) := fun b => by
    unfold upp
    rw [List.filter_map, List.filter_map, List.filter_filter]
    congr 1
    refine List.filter_congr fun u _ => ?_
    show may n m (i + 1) (u ++ [b]) = (may n m (i + 1) (u ++ [b]) && may n m i u)
    cases h : may n m (i + 1) (u ++ [b]) with
    | false => rfl
    | true =>
      unfold may at h ⊢
      rw [nb_snoc, Bool.and_eq_true, decide_eq_true_iff, decide_eq_true_iff] at h
      have hb : b.toNat ≤ 1 := Bool.toNat_le _
      rw [decide_eq_true (by omega), decide_eq_true (by omega)]
      rfl
  show ((allr i).map (· ++ [false]) ++ (allr i).map (· ++ [true])).filter _ = _
  rw [List.filter_append, List.filter_append, e, e]
theorem upp_all (n m : Nat) : upp n m n = (allr n).filter fun u => decide (nb u = m) := by
  unfold upp
  refine List.filter_congr fun u _ => ?_
  unfold may
  by_cases h : nb u = m
  · rw [decide_eq_true (by omega), decide_eq_true (by omega), decide_eq_true h]
    rfl
  · rw [decide_eq_false h]
    by_cases h2 : nb u ≤ m
    · rw [decide_eq_false (by omega)]
      rfl
    · rw [decide_eq_false h2, Bool.and_false]
theorem upp_len (n m : Nat) : (upp n m n).length = chs n m := by
  rw [upp_all, ← List.countP_eq_length_filter, (allr_perm n).countP_eq]
  rfl
theorem upp_due (cs : List Nat) : (upp cs.length (cs.count 97) cs.length).countP (fun u => decide (rg u (lows cs) = cs)) = due cs := by
  rw [upp_all, List.countP_filter, (allr_perm cs.length).countP_eq]
  unfold due
  refine List.countP_congr fun u _ => ?_
  rw [Bool.and_comm]
theorem upp_mem {n m : Nat} {u : List Bool} (h : u ∈ upp n m n) : u.length = n ∧ nb u = m := by
  rw [upp_all] at h
  obtain ⟨h1, h2⟩ := List.mem_filter.mp h
  exact ⟨allb_len n u ((allr_perm n).mem_iff.mp h1), of_decide_eq_true h2⟩
theorem upp_few (n m i : Nat) : (upp n m i).length ≤ 2 ^ i := by
  refine Nat.le_trans (List.length_filter_le _ _) ?_
  have : (allr i).length = 2 ^ i := by
    induction i with
    | zero => rfl
    | succ i ih =>
      show ((allr i).map _ ++ (allr i).map _).length = _
      rw [List.length_append, List.length_map, List.length_map, ih, Nat.pow_succ]
      omega
  omega
end Hop

set_option Elab.async false
set_option linter.all false
set_option maxRecDepth 100000
namespace Hop
open PySem L2 HopR
/-! ### as much comes to a ring as goes: three rules of the count, and a sum that closes round the ring -/
abbrev Sg (cs : List Nat) : Prop := ∀ c ∈ cs, c ∈ [97, 98, 46]
theorem Sg.tl {c : Nat} {cs : List Nat} (h : Sg (c :: cs)) : Sg cs := fun x hx => h x (List.mem_cons_of_mem _ hx)
theorem Sg.l {a b : List Nat} (h : Sg (a ++ b)) : Sg a := fun x hx => h x (List.mem_append_left _ hx)
theorem Sg.r {a b : List Nat} (h : Sg (a ++ b)) : Sg b := fun x hx => h x (List.mem_append_right _ hx)
theorem three {c : Nat} (h : c ∈ [97, 98, 46]) : c = 97 ∨ c = 98 ∨ c = 46 := by simpa using h
def fw (cs : List Nat) (k : Nat) : Nat := (wt cs).getD k 0
theorem fw_nil (k : Nat) : fw [] k = if k = 0 then 1 else 0 := by
  cases k <;> rfl
theorem fw_e (cs : List Nat) (k : Nat) : fw (46 :: cs) k = fw cs k + (if k = 0 then 0 else fw cs (k - 1)) := wup_get (wt cs) k
theorem fw_d (cs : List Nat) (k : Nat) : fw (97 :: cs) k = fw cs (k + 1) + fw cs k := by
  show ((wup (wt cs)).drop 1).getD k 0 = _
  rw [List.getD_eq_getElem?_getD, List.getElem?_drop, ← List.getD_eq_getElem?_getD, Nat.add_comm 1 k, wup_get, if_neg (Nat.succ_ne_zero k)]
  rfl
theorem fw_a (cs : List Nat) (k : Nat) : fw (98 :: cs) k = if k = 0 then fw cs 0 else 0 := by
  show ((wt cs).take 1).getD k 0 = _
  rw [List.getD_eq_getElem?_getD, List.getElem?_take]
  cases k with
  | zero =>
    rw [if_pos (by decide), if_pos rfl]
    unfold fw
    rw [List.getD_eq_getElem?_getD]
  | succ k =>
    rw [if_neg (by omega), if_neg (Nat.succ_ne_zero k)]
    rfl
theorem fw_de (cs : List Nat) (k : Nat) : fw (97 :: 46 :: cs) k = fw (97 :: cs) k + fw (46 :: cs) k := by
  rw [fw_d, fw_e, fw_d, fw_e, if_neg (Nat.succ_ne_zero k), Nat.add_sub_cancel]
theorem fw_add {x y z : List Nat} (h : ∀ k, fw x k = fw y k + fw z k) : ∀ (u : List Nat), Sg u → ∀ k, fw (u ++ x) k = fw (u ++ y) k + fw (u ++ z) k
  | [], _, k => h k
  | c :: u, hu, k => by
    have ih := fw_add h u hu.tl
    rw [List.cons_append, List.cons_append, List.cons_append]
    rcases three (hu c List.mem_cons_self) with rfl | rfl | rfl
    · rw [fw_d, fw_d, fw_d, ih, ih]
      omega
    · rw [fw_a, fw_a, fw_a, ih]
      split <;> omega
    · rw [fw_e, fw_e, fw_e, ih, ih]
      split <;> omega
theorem fw_eq {x y : List Nat} (h : ∀ k, fw x k = fw y k) : ∀ (u : List Nat), Sg u → ∀ k, fw (u ++ x) k = fw (u ++ y) k
  | [], _, k => h k
  | c :: u, hu, k => by
    have ih := fw_eq h u hu.tl
    rw [List.cons_append, List.cons_append]
    rcases three (hu c List.mem_cons_self) with rfl | rfl | rfl
    · rw [fw_d, fw_d, ih, ih]
    · rw [fw_a, fw_a, ih]
    · rw [fw_e, fw_e, ih, ih]
theorem um_b (r : List Nat) : um (98 :: r) = fw r 0 := by
  unfold um
  rw [if_pos List.mem_cons_self]
  have e : (98 :: r).idxOf 98 = 0 := by simp
  rw [e]
  have e2 : rot 0 (98 :: r) = 98 :: r := by
    unfold rot
    rw [List.drop_zero, List.take_zero, List.append_nil]
  rw [e2]
  have := fw_a r 0
  rw [if_pos rfl] at this
  exact this
theorem um_mid {p s : List Nat} (hc : Sg (p ++ 98 :: s)) : um (p ++ 98 :: s) = fw (s ++ p) 0 := by
  rw [← um_rot hc (k := p.length) (by rw [List.length_append]; omega)]
  have e : rot p.length (p ++ 98 :: s) = 98 :: (s ++ p) := by
    unfold rot
    rw [List.drop_left, List.take_left]
    rfl
  rw [e, um_b]
theorem um_de {rest : List Nat} (hc : Sg rest) (hb : 98 ∈ rest) : um (97 :: 46 :: rest) = um (97 :: rest) + um (46 :: rest) := by
  obtain ⟨p, s, rfl⟩ := List.append_of_mem hb
  have hp : Sg p := hc.l
  have hs : Sg s := (hc.r).tl
  have h2 : Sg (98 :: s) := hc.r
  have g : ∀ l : List Nat, Sg l → Sg ((l ++ p) ++ 98 :: s) := fun l hl x hx => by
    rcases List.mem_append.mp hx with z | z
    · rcases List.mem_append.mp z with z | z
      · exact hl x z
      · exact hp x z
    · exact h2 x z
  have e1 := um_mid (p := 97 :: 46 :: p) (s := s) (g [97, 46] (by decide))
  have e2 := um_mid (p := 97 :: p) (s := s) (g [97] (by decide))
  have e3 := um_mid (p := 46 :: p) (s := s) (g [46] (by decide))
  rw [show 97 :: 46 :: (p ++ 98 :: s) = (97 :: 46 :: p) ++ 98 :: s from rfl, show 97 :: (p ++ 98 :: s) = (97 :: p) ++ 98 :: s from rfl, show 46 :: (p ++ 98 :: s) = (46 :: p) ++ 98 :: s from rfl, e1, e2, e3]
  exact fw_add (fw_de p) s hs 0
theorem um_da {rest : List Nat} (hc : Sg rest) : um (97 :: 98 :: rest) = um (98 :: rest) := by
  have e1 := um_mid (p := [97]) (s := rest) (fun x hx => by
    rcases List.mem_append.mp hx with z | z
    · rw [List.mem_singleton.mp z]
      decide
    · rcases List.mem_cons.mp z with rfl | z
      · decide
      · exact hc x z)
  rw [show 97 :: 98 :: rest = [97] ++ 98 :: rest from rfl, e1, um_b]
  have h : ∀ k, fw [97] k = fw [] k := fun k => by
    rw [fw_d, fw_nil, fw_nil, if_neg (Nat.succ_ne_zero k), Nat.zero_add]
  have := fw_eq h rest hc 0
  rw [List.append_nil] at this
  exact this
theorem um_ae (rest : List Nat) : um (98 :: 46 :: rest) = um (98 :: rest) := by
  rw [um_b, um_b, fw_e, if_pos rfl, Nat.add_zero]
def hat (c : Nat) : Int := if c = 97 then -1 else if c = 46 then 1 else 0
theorem pair_ok {x y : Nat} {rest : List Nat} (hc : Sg (x :: y :: rest)) (hb : 98 ∈ x :: y :: rest) :
    ((if rk x < rk y then um (y :: x :: rest) else 0 : Nat) : Int) - ((if rk y < rk x then um (x :: y :: rest) else 0 : Nat) : Int) = hat x * (um (y :: rest) : Int) - hat y * (um (x :: rest) : Int) := by
  have hr : Sg rest := hc.tl.tl
  have hb' : x ≠ 98 → y ≠ 98 → 98 ∈ rest := fun h1 h2 => by
    rcases List.mem_cons.mp hb with z | z
    · exact absurd z.symm h1
    · rcases List.mem_cons.mp z with z | z
      · exact absurd z.symm h2
      · exact z
  rcases three (hc x List.mem_cons_self) with rfl | rfl | rfl <;> rcases three (hc y (List.mem_cons_of_mem _ List.mem_cons_self)) with rfl | rfl | rfl
  · rw [if_neg (by decide)]
    omega
  · rw [if_neg (by decide), if_pos (by decide), um_da hr, show hat 97 = -1 from rfl, show hat 98 = 0 from rfl]
    omega
  · rw [if_neg (by decide), if_pos (by decide), um_de hr (hb' (by decide) (by decide)), show hat 97 = -1 from rfl, show hat 46 = 1 from rfl]
    omega
  · rw [if_pos (by decide), if_neg (by decide), um_da hr, show hat 97 = -1 from rfl, show hat 98 = 0 from rfl]
    omega
  · rw [if_neg (by decide)]
    omega
  · rw [if_neg (by decide), if_pos (by decide), um_ae, show hat 98 = 0 from rfl, show hat 46 = 1 from rfl]
    omega
  · rw [if_pos (by decide), if_neg (by decide), um_de hr (hb' (by decide) (by decide)), show hat 97 = -1 from rfl, show hat 46 = 1 from rfl]
    omega
  · rw [if_pos (by decide), if_neg (by decide), um_ae, show hat 98 = 0 from rfl, show hat 46 = 1 from rfl]
    omega
  · rw [if_neg (by decide)]
    omega
/-! ### a place of the ring, seen from there -/
theorem rot_two {cs : List Nat} {i : Nat} (hl : 2 ≤ cs.length) (hi : i < cs.length) : ∃ rest, rot i cs = cs.getD i 0 :: cs.getD (nxt cs i) 0 :: rest ∧ rot i (swp cs i) = cs.getD (nxt cs i) 0 :: cs.getD i 0 :: rest ∧ rot (nxt cs i) cs = cs.getD (nxt cs i) 0 :: (rest ++ [cs.getD i 0]) := by
  have hn : nxt cs i < cs.length := Nat.mod_lt _ (by omega)
  have hcase : (i + 1 < cs.length ∧ nxt cs i = i + 1) ∨ (i + 1 = cs.length ∧ nxt cs i = 0) := by
    unfold nxt
    by_cases h : i + 1 < cs.length
    · exact .inl ⟨h, Nat.mod_eq_of_lt h⟩
    · have : i + 1 = cs.length := by omega
      exact .inr ⟨this, by rw [this, Nat.mod_self]⟩
  have s0 : sh cs.length i i = 0 := by
    unfold sh
    rw [if_pos (Nat.le_refl _), Nat.sub_self]
  have s1 : sh cs.length i (nxt cs i) = 1 := by
    unfold sh
    rcases hcase with ⟨h, e⟩ | ⟨h, e⟩ <;> rw [e]
    · rw [if_pos (by omega)]
      omega
    · rw [if_neg (by omega)]
      omega
  have g0 := rot_get (k := i) rfl (Nat.le_of_lt hi) hi
  have g1 := rot_get (k := i) rfl (Nat.le_of_lt hi) hn
  rw [s0, List.getElem?_eq_getElem hi] at g0
  rw [s1, List.getElem?_eq_getElem hn] at g1
  have ex : cs.getD i 0 = cs[i] := by rw [List.getD_eq_getElem?_getD, List.getElem?_eq_getElem hi]; rfl
  have ey : cs.getD (nxt cs i) 0 = cs[nxt cs i] := by rw [List.getD_eq_getElem?_getD, List.getElem?_eq_getElem hn]; rfl
  rw [← ex] at g0
  rw [← ey] at g1
  have hlen : (rot i cs).length = cs.length := rot_len (Nat.le_of_lt hi)
  obtain ⟨rest, er⟩ : ∃ rest, rot i cs = cs.getD i 0 :: cs.getD (nxt cs i) 0 :: rest := by
    match e : rot i cs, (show 2 ≤ (rot i cs).length by omega) with
    | a :: b :: r, _ =>
      rw [e] at g0 g1
      have h1 : a = cs.getD i 0 := Option.some.inj g0
      have h2 : b = cs.getD (nxt cs i) 0 := Option.some.inj g1
      exact ⟨r, by rw [h1, h2]⟩
  refine ⟨rest, er, ?_, ?_⟩
  · have t1 := rot_set (k := i) (x := i) (v := cs.getD (nxt cs i) 0) (cs := cs) rfl (Nat.le_of_lt hi) hi
    have t2 := rot_set (n := cs.length) (k := i) (x := nxt cs i) (v := cs.getD i 0) (cs := cs.set i (cs.getD (nxt cs i) 0)) (by rw [List.length_set]) (Nat.le_of_lt hi) hn
    rw [s0, er] at t1
    rw [s1, ← t1] at t2
    unfold swp
    rw [← t2]
    rfl
  · have e1 : rot (nxt cs i) cs = rot 1 (rot i cs) := by
      rcases hcase with ⟨h, e⟩ | ⟨h, e⟩ <;> rw [e]
      · exact rot_succ (Nat.le_of_lt h)
      · rw [← rot_succ (Nat.le_of_eq h), h]
        unfold rot
        rw [List.drop_zero, List.take_zero, List.append_nil, List.drop_length, List.take_length, List.nil_append]
    rw [e1, er]
    rfl
theorem mem_rot {cs : List Nat} {i x : Nat} : x ∈ rot i cs ↔ x ∈ cs := by
  unfold rot
  rw [List.mem_append]
  constructor
  · rintro (h | h)
    · exact List.mem_of_mem_drop h
    · exact List.mem_of_mem_take h
  · intro h
    rw [← List.take_append_drop i cs] at h
    exact (List.mem_append.mp h).symm
theorem mem_swp {cs : List Nat} {i x : Nat} (hl : 2 ≤ cs.length) (hi : i < cs.length) : x ∈ swp cs i ↔ x ∈ cs := by
  obtain ⟨rest, e1, e2, _⟩ := rot_two hl hi
  rw [← mem_rot (i := i) (cs := swp cs i), ← mem_rot (i := i) (cs := cs), e1, e2]
  simp only [List.mem_cons]
  constructor
  · rintro (h | h | h)
    · exact .inr (.inl h)
    · exact .inl h
    · exact .inr (.inr h)
  · rintro (h | h | h)
    · exact .inr (.inl h)
    · exact .inl h
    · exact .inr (.inr h)
theorem rg_swp {cs : List Nat} (h : Rg cs) {i : Nat} (hi : i < cs.length) : Rg (swp cs i) := ⟨by rw [swp_len]; exact h.lo, by rw [swp_len]; exact h.hi, fun c hc => h.ok c ((mem_swp h.lo hi).mp hc)⟩
/-- the sign stands below the next one -/
def dn (cs : List Nat) (i : Nat) : Bool := decide (rk (cs.getD i 0) < rk (cs.getD (nxt cs i) 0))
theorem nxt_swp (cs : List Nat) (i j : Nat) : nxt (swp cs i) j = nxt cs j := by
  unfold nxt
  rw [swp_len]
theorem swp_signs {cs : List Nat} {i : Nat} (hl : 2 ≤ cs.length) (hi : i < cs.length) : (swp cs i).getD i 0 = cs.getD (nxt cs i) 0 ∧ (swp cs i).getD (nxt cs i) 0 = cs.getD i 0 ∧ swp (swp cs i) i = cs := by
  obtain ⟨rest, e1, e2, _⟩ := rot_two hl hi
  obtain ⟨rest', f1, f2, _⟩ := rot_two (cs := swp cs i) (i := i) (by rw [swp_len]; exact hl) (by rw [swp_len]; exact hi)
  rw [nxt_swp] at f1 f2
  rw [e2] at f1
  have h1 := (List.cons.inj f1).1
  have h2 := (List.cons.inj (List.cons.inj f1).2).1
  have h3 := (List.cons.inj (List.cons.inj f1).2).2
  refine ⟨h1.symm, h2.symm, ?_⟩
  refine rot_inj (k := i) (by rw [swp_len, swp_len]; exact Nat.le_of_lt hi) (by rw [swp_len, swp_len]) ?_
  rw [f2, e1, ← h1, ← h2, ← h3]
theorem ups_swp {cs : List Nat} {i : Nat} (hl : 2 ≤ cs.length) (hi : i < cs.length) : ups (swp cs i) i = dn cs i := by
  obtain ⟨h1, h2, _⟩ := swp_signs hl hi
  unfold ups dn
  rw [nxt_swp, h1, h2]
theorem place_b {cs : List Nat} (hR : Rg cs) (hb : 98 ∈ cs) {i : Nat} (hi : i < cs.length) :
    ((if dn cs i = true then um (swp cs i) else 0 : Nat) : Int) - ((if ups cs i = true then um cs else 0 : Nat) : Int) = hat (cs.getD i 0) * (um (rot i cs).tail : Int) - hat (cs.getD (nxt cs i) 0) * (um (rot (nxt cs i) cs).tail : Int) := by
  obtain ⟨rest, e1, e2, e3⟩ := rot_two hR.lo hi
  have hk : i ≤ cs.length := Nat.le_of_lt hi
  have hc : Sg (rot i cs) := fun x hx => hR.ok x (mem_rot.mp hx)
  have u1 : um cs = um (rot i cs) := (um_rot hR.ok hk).symm
  have u2 : um (swp cs i) = um (rot i (swp cs i)) := (um_rot (rg_swp hR hi).ok (by rw [swp_len]; exact hk)).symm
  rw [e1] at hc u1
  rw [e2] at u2
  have hb2 : 98 ∈ rot i cs := mem_rot.mpr hb
  rw [e1] at hb2
  have key := pair_ok hc hb2
  have hx2 : Sg (cs.getD i 0 :: rest) := fun c h => by
    rcases List.mem_cons.mp h with rfl | h
    · exact hc _ List.mem_cons_self
    · exact hc _ (List.mem_cons_of_mem _ (List.mem_cons_of_mem _ h))
  have u3 : um (rest ++ [cs.getD i 0]) = um (cs.getD i 0 :: rest) := um_rot (k := 1) hx2 (by rw [List.length_cons]; omega)
  rw [u2, u1, e1, e3, List.tail_cons, List.tail_cons, u3]
  unfold dn ups
  simp only [decide_eq_true_eq]
  exact key
def ha (c : Nat) : Int := if c = 97 then 1 else 0
theorem place_n {cs : List Nat} (hR : Rg cs) (hb : 98 ∉ cs) {i : Nat} (hi : i < cs.length) :
    ((if dn cs i = true then um (swp cs i) else 0 : Nat) : Int) - ((if ups cs i = true then um cs else 0 : Nat) : Int) = -(ha (cs.getD i 0) * (um cs : Int)) - -(ha (cs.getD (nxt cs i) 0) * (um cs : Int)) := by
  obtain ⟨rest, e1, e2, e3⟩ := rot_two hR.lo hi
  have hk : i ≤ cs.length := Nat.le_of_lt hi
  have hc : Sg (rot i cs) := fun x hx => hR.ok x (mem_rot.mp hx)
  have hn : 98 ∉ rot i cs := fun z => hb (mem_rot.mp z)
  have u1 : um cs = um (rot i cs) := (um_rot hR.ok hk).symm
  have u2 : um (swp cs i) = um (rot i (swp cs i)) := (um_rot (rg_swp hR hi).ok (by rw [swp_len]; exact hk)).symm
  rw [e1] at hc u1 hn
  rw [e2] at u2
  have u3 : um (swp cs i) = um cs := by
    have hn2 : 98 ∉ cs.getD (nxt cs i) 0 :: cs.getD i 0 :: rest := fun z => hn (by
      simp only [List.mem_cons] at z ⊢
      rcases z with z | z | z
      · exact .inr (.inl z)
      · exact .inl z
      · exact .inr (.inr z))
    rw [u2, u1]
    unfold um
    rw [if_neg hn2, if_neg hn]
    congr 1
    exact (List.Perm.swap (cs.getD i 0) (cs.getD (nxt cs i) 0) rest).count_eq 97
  have hx : cs.getD i 0 = 97 ∨ cs.getD i 0 = 46 := by
    rcases three (hc _ List.mem_cons_self) with h | h | h
    · exact .inl h
    · exact absurd (h ▸ List.mem_cons_self : 98 ∈ cs.getD i 0 :: cs.getD (nxt cs i) 0 :: rest) hn
    · exact .inr h
  have hy : cs.getD (nxt cs i) 0 = 97 ∨ cs.getD (nxt cs i) 0 = 46 := by
    rcases three (hc _ (List.mem_cons_of_mem _ List.mem_cons_self)) with h | h | h
    · exact .inl h
    · exact absurd (List.mem_cons_of_mem _ (h ▸ List.mem_cons_self) : 98 ∈ cs.getD i 0 :: cs.getD (nxt cs i) 0 :: rest) hn
    · exact .inr h
  rw [u3]
  unfold dn ups
  simp only [decide_eq_true_eq]
  rcases hx with hx | hx <;> rcases hy with hy | hy <;> rw [hx, hy]
  · rw [if_neg (by decide)]
    omega
  · rw [if_neg (by decide), if_pos (by decide), show ha 97 = 1 from rfl, show ha 46 = 0 from rfl]
    omega
  · rw [if_pos (by decide), if_neg (by decide), show ha 97 = 1 from rfl, show ha 46 = 0 from rfl]
    omega
  · rw [if_neg (by decide)]
    omega
/-- what comes, by the places -/
def cms (cs : List Nat) (m : Nat) : List Nat := (List.range m).filter (dn cs)
theorem cms_succ (cs : List Nat) (i : Nat) : cms cs (i + 1) = cms cs i ++ (if dn cs i then [i] else []) := by
  unfold cms
  rw [List.range_succ, List.filter_append]
  congr 1
  cases h : dn cs i with
  | true => simp [h]
  | false => simp [h]
theorem closes {cs : List Nat} (hl : 2 ≤ cs.length) {R : Nat → Int} (h : ∀ i, i < cs.length → ((if dn cs i = true then um (swp cs i) else 0 : Nat) : Int) - ((if ups cs i = true then um cs else 0 : Nat) : Int) = R i - R (nxt cs i)) :
    ∀ m, m ≤ cs.length → (((cms cs m).map fun i => um (swp cs i)).sum : Int) - ((um cs * (rchg cs m).length : Nat) : Int) = R 0 - R (m % cs.length)
  | 0, _ => by
    rw [Nat.zero_mod]
    show (0 : Int) - ((um cs * 0 : Nat) : Int) = _
    rw [Nat.mul_zero]
    omega
  | m + 1, hm => by
    have ih := closes hl h m (by omega)
    have st := h m (by omega)
    rw [Nat.mod_eq_of_lt (by omega : m < cs.length)] at ih
    rw [cms_succ, rchg_succ, List.map_append, List.sum_append, List.length_append, Nat.mul_add]
    show _ = R 0 - R (nxt cs m)
    cases h1 : dn cs m <;> cases h2 : ups cs m <;> rw [h1, h2] at st <;> simp only [Bool.false_eq_true, if_false, if_true, List.map_cons, List.map_nil, List.sum_cons, List.sum_nil, List.length_cons, List.length_nil, Nat.mul_zero, Nat.mul_one, Nat.add_zero, Nat.zero_add] at st ⊢ <;> omega
theorem balance {cs : List Nat} (hR : Rg cs) : ((cms cs cs.length).map fun i => um (swp cs i)).sum = um cs * (rchg cs cs.length).length := by
  have key : (((cms cs cs.length).map fun i => um (swp cs i)).sum : Int) - ((um cs * (rchg cs cs.length).length : Nat) : Int) = 0 := by
    by_cases hb : 98 ∈ cs
    · have := closes hR.lo (R := fun i => hat (cs.getD i 0) * (um (rot i cs).tail : Int)) (fun i hi => place_b hR hb hi) cs.length (Nat.le_refl _)
      rw [this, Nat.mod_self]
      omega
    · have := closes hR.lo (R := fun i => -(ha (cs.getD i 0) * (um cs : Int))) (fun i hi => place_n hR hb hi) cs.length (Nat.le_refl _)
      rw [this, Nat.mod_self]
      omega
  omega
end Hop

set_option Elab.async false
set_option linter.all false
set_option maxRecDepth 100000
namespace Hop
open PySem L2 HopR
def top (i : Nat) : Stmt := PySem.Challenge.pw_hopline_k82_no_rings_no_lines.main.body.getD i (.Pass ⟨0, 0, 0, 0⟩)
abbrev sIsRing : Stmt := top 34
abbrev sNeedRing : Stmt := top 35
abbrev sBehind : Stmt := top 36
abbrev sRise : Stmt := top 37
abbrev sExch : Stmt := top 38
abbrev sChanges : Stmt := top 39
abbrev sDrawn : Stmt := top 55
abbrev sLRing : Stmt := top 57
abbrev sChoices : Stmt := top 26
abbrev sWup : Stmt := top 27
abbrev sPast : Stmt := top 28
abbrev sUppers : Stmt := top 29
abbrev sComes : Stmt := top 40
abbrev sGoes : Stmt := top 41
abbrev sWeight : Stmt := top 52
abbrev sIsRow : Stmt := top 47
abbrev sLines : Stmt := top 49
abbrev sFirst : Stmt := top 50
abbrev sRingOf : Stmt := top 51
abbrev sLLines : Stmt := top 56
abbrev sDoors : Stmt := top 58
abbrev sClass : Stmt := top 59
abbrev sChance : Stmt := top 42
abbrev sCellAt : Stmt := top 54
abbrev sLaw : Stmt := top 60
/-! ### what stands at the top -/
structure Txt (K : PySem.W.Frag) (w : World) (mg : Str → Option Value) (d : Addr) (es : Array DictEntry) (n : Nat) : Prop where
  len : mg "len" = none
  range : mg "range" = none
  all : mg "all" = none
  isi : mg "isinstance" = none
  str : mg "str" = none
  bool : mg "bool" = none
  list : mg "list" = none
  zip : mg "zip" = none
  reversed : mg "reversed" = none
  sum : mg "sum" = none
  int : mg "int" = none
  first : ∃ t, mg "FIRST" = some (.str "a" t)
  second : ∃ t, mg "SECOND" = some (.str "b" t)
  least : ∃ t, mg "LEAST_IN_RING" = some (.int 2 t)
  most : ∃ t, mg "MOST_IN_RING" = some (.int 12 t)
  os : mg "RANK" = some (.ref d)
  D : KDict K w d es n
  keys : es.toList.map (fun e => keyText e.key) = [97, 98, 46].map (fun q => some (one q))
  va : ∃ t, PySem.W.nsIn K d "a" = some (some (.int 2 t))
  vb : ∃ t, PySem.W.nsIn K d "b" = some (some (.int 1 t))
  vf : ∃ t, PySem.W.nsIn K d "." = some (some (.int 0 t))
/-- a text in a written dict -/
def rInKd (K : PySem.W.Frag) (d : Addr) : R2 := fun x y H Q => ∃ (z : Str) (r : Option Value), x = .str z ∧ y = .ref d ∧ PySem.W.nsIn K d z = some r ∧ Q (.bl r.isSome) H
theorem op_inKd {X : Cx} {d : Addr} {es : Array DictEntry} {n : Nat} (D : KDict X.K X.w d es n) : OpR X (compareOp .In) (rInKd X.K d) := op_in_kd D
section
variable {P : Program} {w : World} {K : PySem.W.Frag} {mg : Str → Option Value} {base : Heap} {d : Addr} {es : Array DictEntry} {n : Nat}
theorem rank_at (T : Txt K w mg d es n) {c : Nat} (h : c ∈ [97, 98, 46]) : ∃ t, PySem.W.nsIn K d (one c) = some (some (.int (rk c : Int) t)) := by
  simp only [List.mem_cons, List.not_mem_nil, or_false] at h
  rcases h with rfl | rfl | rfl
  · obtain ⟨t, e⟩ := T.va
    rw [show ("a" : Str) = one 97 by decide +kernel] at e
    exact ⟨t, e⟩
  · obtain ⟨t, e⟩ := T.vb
    rw [show ("b" : Str) = one 98 by decide +kernel] at e
    exact ⟨t, e⟩
  · obtain ⟨t, e⟩ := T.vf
    rw [show ("." : Str) = one 46 by decide +kernel] at e
    exact ⟨t, e⟩
theorem at_rt {cs : List Nat} {i : Nat} (h : i < cs.length) : atI (rt cs).cps.toList (i : Int) = some (cs.getD i 0) := atI_nat (by rw [rt_list, List.getElem?_eq_getElem h, List.getD_eq_getElem?_getD, List.getElem?_eq_getElem h]; rfl)
theorem rg_at {cs : List Nat} (h : Rg cs) {i : Nat} (hi : i < cs.length) : cs.getD i 0 ∈ [97, 98, 46] := by
  rw [List.getD_eq_getElem?_getD, List.getElem?_eq_getElem hi]
  exact h.ok _ (List.getElem_mem hi)
/-! ### is_ring -/
def spIsRing (K : PySem.W.Frag) : Sp := fun vs H Q _ => ∃ x b, vs = [x] ∧ RingB K H x b ∧ ∀ H', Same H H' → Q (.bl b) H'
theorem scIsRing : FnScope ["thing", "sign"] ["thing"] (defScope sIsRing) := ⟨rfl, rfl, rfl, by decide +kernel, rfl, by decide +kernel, by decide +kernel⟩
theorem ok_isring {f : Addr} {fd : FuncData} {k : Nat} (F : Fun K "is_ring" "is_ring" sIsRing f fd) (T : Txt K w mg d es n) : FnOk P w K mg base CX0 (k + 1) f fd ["thing"] (spIsRing K) := by
  refine F.ok scIsRing (fun vs H Q E h => ?_) (fun cdv A outer s H vs Q E hr h => ?_)
  · obtain ⟨x, b, rfl, _⟩ := h
    rfl
  · obtain ⟨x, b, rfl, hb, q⟩ := h
    have nd := scIsRing.nd
    obtain ⟨tm, gm⟩ := T.most
    obtain ⟨tl, gl⟩ := T.least
    refine ⟨_, pss_cons (ps_if (PW.pt (pw_or (pt_not (pt_val (pe_callB call_isi (by rfl) T.isi (by decide +kernel) (pa_cons (pv 0) (pa_cons (pe_bltn (v := .ty "str") (by rfl) T.str (by decide +kernel) rfl) pa_nil)))))
          (pw_or (pt_cmpR op_lt (pe_callB call_len_str (by rfl) T.len PySem.boot_len (pa_cons (pv 0) pa_nil)) (pe_glob (v := .int 2) (by rfl) gl ⟨_, rfl⟩) (nomark _))
          (pw_or1 (pt_cmpR op_gt (pe_callB call_len_str (by rfl) T.len PySem.boot_len (pa_cons (pv 0) pa_nil)) (pe_glob (v := .int 12) (by rfl) gm ⟨_, rfl⟩) (nomark _))))))
        (pss_one (ps_ret pe_bl)) pss_nil)
      (pss_one (ps_ret (pe_callB (cr_all rfl) (by rfl) T.all (by decide +kernel) (pa_cons
        (pe_lc (own := [("sign", 1)]) (g := gName 1) (tt := tYes) (te := tOp (rInKd K d) (tVar 1) (tC (.ref d))) rfl nd (pi_str (pv 0)) (blkOk_by (own := [("sign", 1)]) (N := ["thing", "sign"]) (sc := defScope sIsRing) (by decide +kernel))
          (fun _ _ _ _ _ => pg_name (i := 1) nd rfl (Or.inl rfl)) (fun _ _ _ _ _ => pts_nil)
          (fun _ _ _ _ _ => pe_cmpR (op_inKd T.D) (pv 1) (pe_glob (v := .ref d) (by rfl) T.os rfl) (by rfl)))
        pa_nil)))), ?_⟩
    rcases hb with ⟨⟨t, ty, kt⟩, rfl⟩ | ⟨z, rfl, hz, rfl⟩
    · exact ⟨x, rfl, x, .ty "str", t, .type "str", false, rfl, .ty _, ty, kt, false, rfl, q H (Same.refl _)⟩
    · refine ⟨.str z, rfl, .str z, .ty "str", .type "str", .type "str", true, rfl, .ty _, .base (.str _), kit_ty (by decide +kernel), true, rfl, iteF ?_⟩
      refine ⟨.str z, rfl, z, rfl, fit hz, _, _, rfl, rfl, _, rfl, ?_⟩
      by_cases h1 : z.length < 2
      · rw [decide_eq_true (show (z.length : Int) < 2 by omega)]
        have e : isRingB z = false := by
          unfold isRingB
          rw [decide_eq_false (by omega)]
          rfl
        rw [e] at q
        exact q H (Same.refl _)
      rw [decide_eq_false (show ¬ (z.length : Int) < 2 by omega)]
      refine iteF ⟨.str z, rfl, z, rfl, fit hz, _, _, rfl, rfl, _, rfl, ?_⟩
      by_cases h2 : 12 < z.length
      · rw [decide_eq_true (show (z.length : Int) > 12 by omega)]
        have e : isRingB z = false := by
          unfold isRingB
          rw [decide_eq_false (show ¬ z.length ≤ 12 by omega)]
          simp
        rw [e] at q
        exact q H (Same.refl _)
      rw [decide_eq_false (show ¬ (z.length : Int) > 12 by omega)]
      refine iteF ⟨.str z, rfl, z, rfl, fun D hD => ?_⟩
      refine lc_it walk_str (fun i H3 => Same H H3 ∧ H3 D = some (.lst (((z.cps.toList.take i).map okr).map V.bl))) ⟨same_upd hD, upd_same⟩ (fun _ _ _ _ => trivial) ?_ ?_
      · rintro i x H3 H' hi ⟨sm, eD⟩ ⟨rfl, c, hc, rfl⟩
        obtain ⟨r, e1, e2⟩ := key_in T.D.at_ T.keys c
        refine ⟨rfl, .str ⟨#[c]⟩, rfl, ⟨#[c]⟩, r, rfl, rfl, e1, _, eD, ?_, same_new hD sm, ?_⟩
        · rw [List.length_map, List.length_map]
          refine fit' (Nat.le_trans (List.length_take_le _ _) ?_)
          have : i < z.length := hi
          omega
        · rw [upd_same, e2, List.take_add_one, Array.getElem?_toList, hc, List.map_append, List.map_append]
          rfl
      · rintro H3 ⟨sm, eD⟩
        refine ⟨D, (z.cps.toList.map okr), rfl, SqL.of ?_, ?_⟩
        · rw [eD, List.take_of_length_le (by rw [Array.length_toList]; exact Nat.le_refl _)]
        · have e : (z.cps.toList.map okr).all id = isRingB z := by
            unfold isRingB
            rw [decide_eq_true (show 2 ≤ z.length by omega), decide_eq_true (show z.length ≤ 12 by omega), List.all_map]
            rfl
          rw [e]
          exact q H3 sm
/-! ### need_ring -/
def spNeed : Sp := fun vs H Q _ => ∃ cs, vs = [.str (rt cs)] ∧ Rg cs ∧ ∀ H', Same H H' → Q .non H'
theorem scNeed : FnScope ["thing"] ["thing"] (defScope sNeedRing) := ⟨rfl, rfl, rfl, by decide +kernel, rfl, by decide +kernel, by decide +kernel⟩
theorem ok_need {f f1 : Addr} {fd fd1 : FuncData} {k : Nat} (F : Fun K "need_ring" "need_ring" sNeedRing f fd) (N1 : Fn K mg "is_ring" sIsRing ["thing"] f1 fd1) (T : Txt K w mg d es n) : FnOk P w K mg base CX0 (k + 2) f fd ["thing"] spNeed := by
  have G1 : FnOk P w K mg base CX0 (k + 1) f1 fd1 ["thing"] (spIsRing K) := ok_isring N1.F T
  refine F.ok scNeed (fun vs H Q E h => ?_) (fun cdv A outer s H vs Q E hr h => ?_)
  · obtain ⟨cs, rfl, _⟩ := h
    rfl
  · obtain ⟨cs, rfl, hR, q⟩ := h
    refine ⟨_, pss_one (ps_if (pt_not (pt_val (pe_call G1 hr (by rfl) N1.g N1.F.kp N1.b .nil pass0 (pa_cons (pv 0) pa_nil)))) (pss_one ps_never) pss_nil), ?_⟩
    refine ⟨.str (rt cs), rfl, .str (rt cs), true, rfl, .inr ⟨rt cs, rfl, ?_, hR.isB.symm⟩, fun H1 s1 => ⟨true, rfl, iteF (q H1 s1)⟩⟩
    rw [rt_len]
    have := hR.hi
    omega
/-! ### place_behind -/
def spBehind : Sp := fun vs H Q _ => ∃ cs, ∃ i : Nat, vs = [.str (rt cs), .int (i : Int)] ∧ Rg cs ∧ Q (.int (nxt cs i : Int)) H
theorem scBehind : FnScope ["ring", "place"] ["ring", "place"] (defScope sBehind) := ⟨rfl, rfl, rfl, by decide +kernel, rfl, by decide +kernel, by decide +kernel⟩
theorem rgFits {cs : List Nat} (h : Rg cs) : (rt cs).length ≤ sizeLine := rt_fit (Nat.le_trans h.hi (by decide))
theorem rgPos {cs : List Nat} (h : Rg cs) : (0 : Int) < ((rt cs).length : Int) := by
  rw [rt_len]
  have := h.lo
  omega
theorem nxt_int (cs : List Nat) (i : Nat) : ((i : Int) + 1) % ((rt cs).length : Int) = (nxt cs i : Int) := by
  rw [rt_len]
  unfold nxt
  rw [Int.natCast_emod]
  rfl
theorem ok_behind {f : Addr} {fd : FuncData} {k : Nat} (F : Fun K "place_behind" "place_behind" sBehind f fd) (T : Txt K w mg d es n) : FnOk P w K mg base CX0 (k + 1) f fd ["ring", "place"] spBehind := by
  refine F.ok scBehind (fun vs H Q E h => ?_) (fun cdv A outer s H vs Q E hr h => ?_)
  · obtain ⟨cs, i, rfl, _⟩ := h
    rfl
  · obtain ⟨cs, i, rfl, hR, q⟩ := h
    refine ⟨_, pss_one (ps_ret (pe_op op_mod (pe_op op_add (pv 1) pe_int) (pe_callB call_len_str (by rfl) T.len PySem.boot_len (pa_cons (pv 0) pa_nil)))), ?_⟩
    refine ⟨.int (i : Int), rfl, _, _, rfl, rfl, .str (rt cs), rfl, rt cs, rfl, (rgFits hR), _, _, rfl, rfl, rgPos hR, ?_⟩
    show Q (.int (((i : Int) + 1) % ((rt cs).length : Int))) H
    rw [nxt_int]
    exact q
/-! ### rise_at -/
def spRise : Sp := fun vs H Q _ => ∃ cs, ∃ i : Nat, vs = [.str (rt cs), .int (i : Int)] ∧ Rg cs ∧ i < cs.length ∧ Q (.int ((rk (cs.getD i 0) : Int) - (rk (cs.getD (nxt cs i) 0) : Int))) H
theorem scRise : FnScope ["ring", "place"] ["ring", "place"] (defScope sRise) := ⟨rfl, rfl, rfl, by decide +kernel, rfl, by decide +kernel, by decide +kernel⟩
theorem ok_rise {f f1 : Addr} {fd fd1 : FuncData} {k : Nat} (F : Fun K "rise_at" "rise_at" sRise f fd) (N1 : Fn K mg "place_behind" sBehind ["ring", "place"] f1 fd1) (T : Txt K w mg d es n) : FnOk P w K mg base CX0 (k + 2) f fd ["ring", "place"] spRise := by
  have G1 : FnOk P w K mg base CX0 (k + 1) f1 fd1 ["ring", "place"] spBehind := ok_behind N1.F T
  refine F.ok scRise (fun vs H Q E h => ?_) (fun cdv A outer s H vs Q E hr h => ?_)
  · obtain ⟨cs, i, rfl, _⟩ := h
    rfl
  · obtain ⟨cs, i, rfl, hR, hi, q⟩ := h
    refine ⟨_, pss_one (ps_ret (pe_op op_sub (pe_ix ix_kdict (pe_glob (v := .ref d) (by rfl) T.os rfl) (pe_ix ix_str (pv 0) (pv 1) (fun _ _ => rfl)) (fun _ _ => rfl))
      (pe_ix ix_kdict (pe_glob (v := .ref d) (by rfl) T.os rfl) (pe_ix ix_str (pv 0) (pe_call G1 hr (by rfl) N1.g N1.F.kp N1.b .nil pass0 (pa_cons (pv 0) (pa_cons (pv 1) pa_nil))) (fun _ _ => rfl)) (fun _ _ => rfl)))), ?_⟩
    have hj := nxt_lt hR i
    obtain ⟨t1, e1⟩ := rank_at T (rg_at hR hi)
    obtain ⟨t2, e2⟩ := rank_at T (rg_at hR hj)
    refine ⟨.str (rt cs), rfl, .int (i : Int), rfl, rt cs, _, cs.getD i 0, rfl, rfl, (rgFits hR), at_rt hi, d, one (cs.getD i 0), .int (rk (cs.getD i 0) : Int), rfl, rfl, ⟨es, n, _, T.D.at_, T.D.lit, e1, ⟨t1, rfl⟩⟩, ?_⟩
    refine ⟨.str (rt cs), rfl, .str (rt cs), rfl, .int (i : Int), rfl, cs, i, rfl, hR, rt cs, _, cs.getD (nxt cs i) 0, rfl, rfl, (rgFits hR), at_rt hj, d, one (cs.getD (nxt cs i) 0), .int (rk (cs.getD (nxt cs i) 0) : Int), rfl, rfl, ⟨es, n, _, T.D.at_, T.D.lit, e2, ⟨t2, rfl⟩⟩, ?_⟩
    exact ⟨_, _, rfl, rfl, q⟩
/-! ### exchanged_at -/
def vl (cs : List Nat) : List V := (cs.map one).map V.str
theorem vl_len (cs : List Nat) : (vl cs).length = cs.length := by
  unfold vl
  rw [List.length_map, List.length_map]
theorem vl_set (cs : List Nat) (k c : Nat) : (vl cs).set k (.str (one c)) = vl (cs.set k c) := by
  unfold vl
  rw [List.map_set, List.map_set]
theorem vl_at {cs : List Nat} {i : Nat} (h : i < cs.length) : atI (vl cs) (i : Int) = some (.str (one (cs.getD i 0))) := atI_nat (by
  unfold vl
  rw [List.getElem?_map, List.getElem?_map, List.getD_eq_getElem?_getD, List.getElem?_eq_getElem h]
  rfl)
theorem ixN_low {n j : Nat} (hj : j < n) : ixN n (j : Int) = some j := by
  unfold ixN
  rw [if_pos (by omega), if_pos (by omega)]
  simp
theorem ixN_vl {cs : List Nat} {j : Nat} (hj : j < cs.length) : ixN (vl cs).length (j : Int) = some j := by
  rw [vl_len]
  exact ixN_low hj
def spExch : Sp := fun vs H Q _ => ∃ cs, ∃ i : Nat, vs = [.str (rt cs), .int (i : Int)] ∧ Rg cs ∧ i < cs.length ∧ ∀ H', Same H H' → Q (.str (rt (swp cs i))) H'
theorem scExch : FnScope ["ring", "place", "signs", "other"] ["ring", "place"] (defScope sExch) := ⟨rfl, rfl, rfl, by decide +kernel, rfl, by decide +kernel, by decide +kernel⟩
theorem ok_exch {f f1 : Addr} {fd fd1 : FuncData} {k : Nat} (F : Fun K "exchanged_at" "exchanged_at" sExch f fd) (N1 : Fn K mg "place_behind" sBehind ["ring", "place"] f1 fd1) (T : Txt K w mg d es n) : FnOk P w K mg base CX0 (k + 2) f fd ["ring", "place"] spExch := by
  have G1 : FnOk P w K mg base CX0 (k + 1) f1 fd1 ["ring", "place"] spBehind := ok_behind N1.F T
  refine F.ok scExch (fun vs H Q E h => ?_) (fun cdv A outer s H vs Q E hr h => ?_)
  · obtain ⟨cs, i, rfl, _⟩ := h
    rfl
  · obtain ⟨cs, i, rfl, hR, hi, q⟩ := h
    have nd := scExch.nd
    refine ⟨_, pss_cons (ps_set (i := 2) nd rfl (.inl rfl) (pe_callTy (cr_listT rfl) (by rfl) T.list (by decide +kernel) (pa_cons (pv 0) pa_nil)))
      (pss_cons (ps_set (i := 3) nd rfl (.inl rfl) (pe_call G1 hr (by rfl) N1.g N1.F.kp N1.b .nil pass0 (pa_cons (pv 0) (pa_cons (pv 1) pa_nil))))
      (pss_cons (ps_asg (pe_tup (pa_cons (pe_ix ix_list (pv 2) (pv 3) (fun _ _ => rfl)) (pa_cons (pe_ix ix_list (pv 2) (pv 1) (fun _ _ => rfl)) pa_nil))) (pg_tup rfl (pgs_cons (pg_sub (pv 2) (pv 1) set_list) (pgs_cons (pg_sub (pv 2) (pv 3) set_list) pgs_nil))))
      (pss_one (ps_ret (pe_join pe_str (pv 2)))))), ?_⟩
    have hj := nxt_lt hR i
    refine ⟨.str (rt cs), rfl, rt cs, rfl, (rgFits hR), fun o no => ?_⟩
    have e0 : (sg (rt cs)).map V.str = vl cs := by
      rw [sg_rt]
      rfl
    rw [e0]
    refine ⟨.str (rt cs), rfl, .int (i : Int), rfl, cs, i, rfl, hR, ?_⟩
    refine ⟨.ref o, rfl, .int (nxt cs i : Int), rfl, o, _, _, _, rfl, rfl, SqL.of upd_same, vl_at hj, .ref o, rfl, .int (i : Int), rfl, o, _, _, _, rfl, rfl, SqL.of upd_same, vl_at hi, (by show 2 ≤ sizeLine; decide), fun p np => ?_⟩
    have npo : o ≠ p := fun e => by
      rw [← e, upd_same] at np
      cases np
    have np0 : H p = none := (same_upd no).free np
    refine ⟨p, _, rfl, SqT.of upd_same, rfl, _, _, rfl, ?_⟩
    refine ⟨.ref o, rfl, .int (i : Int), rfl, o, _, _, i, rfl, rfl, (by rw [upd_ne npo, upd_same]), ixN_vl hi, ?_⟩
    rw [vl_set]
    refine ⟨_, _, rfl, .ref o, rfl, .int (nxt cs i : Int), rfl, o, _, _, nxt cs i, rfl, rfl, upd_same, ixN_vl (by rw [List.length_set]; exact hj), ?_⟩
    rw [vl_set]
    refine ⟨rfl, ⟨_, rfl⟩, .ref o, rfl, "", o, (swp cs i).map one, rfl, rfl, .inl (SqL.of upd_same), join_rt_fits (by rw [swp_len]; have := hR.hi; omega), ?_⟩
    rw [join_rt]
    exact q _ (same_new no (same_new no (same_new np0 (same_upd no))))
/-! ### ring_changes -/
def spChanges : Sp := fun vs H Q _ => ∃ cs, vs = [.str (rt cs)] ∧ Rg cs ∧ ∀ H' p ws, Same H H' → H p = none → H' p = some (.lst ws) → Tups H' cs (rchg cs cs.length) ws → Q (.ref p) H'
theorem scChanges : FnScope ["ring", "place"] ["ring"] (defScope sChanges) := ⟨rfl, rfl, rfl, by decide +kernel, rfl, by decide +kernel, by decide +kernel⟩
theorem ups_int (cs : List Nat) (i : Nat) : decide ((rk (cs.getD i 0) : Int) - (rk (cs.getD (nxt cs i) 0) : Int) > 0) = ups cs i := by
  unfold ups
  by_cases h : rk (cs.getD (nxt cs i) 0) < rk (cs.getD i 0)
  · rw [decide_eq_true h, decide_eq_true (by omega)]
  · rw [decide_eq_false h, decide_eq_false (by omega)]
theorem ok_changes {f f1 f2 f3 f4 f5 : Addr} {fd fd1 fd2 fd3 fd4 fd5 : FuncData} {k : Nat} (F : Fun K "ring_changes" "ring_changes" sChanges f fd) (N1 : Fn K mg "is_ring" sIsRing ["thing"] f1 fd1) (N2 : Fn K mg "need_ring" sNeedRing ["thing"] f2 fd2)
    (N3 : Fn K mg "place_behind" sBehind ["ring", "place"] f3 fd3) (N4 : Fn K mg "rise_at" sRise ["ring", "place"] f4 fd4) (N5 : Fn K mg "exchanged_at" sExch ["ring", "place"] f5 fd5) (T : Txt K w mg d es n) : FnOk P w K mg base CX0 (k + 3) f fd ["ring"] spChanges := by
  have G2 : FnOk P w K mg base CX0 (k + 2) f2 fd2 ["thing"] spNeed := ok_need N2.F N1 T
  have G4 : FnOk P w K mg base CX0 (k + 2) f4 fd4 ["ring", "place"] spRise := ok_rise N4.F N3 T
  have G5 : FnOk P w K mg base CX0 (k + 2) f5 fd5 ["ring", "place"] spExch := ok_exch N5.F N3 T
  refine F.ok scChanges (fun vs H Q E h => ?_) (fun cdv A outer s H vs Q E hr h => ?_)
  · obtain ⟨cs, rfl, _⟩ := h
    rfl
  · obtain ⟨cs, rfl, hR, q⟩ := h
    have nd := scChanges.nd
    refine ⟨_, pss_cons (ps_expr (pe_call G2 hr (by rfl) N2.g N2.F.kp N2.b .nil pass0 (pa_cons (pv 0) pa_nil)))
      (pss_one (ps_ret (pe_lc (own := [("place", 1)]) (g := gName 1) rfl nd (pi_range1 (by rfl) T.range (pa_cons (pe_callB call_len_str (by rfl) T.len PySem.boot_len (pa_cons (pv 0) pa_nil)) pa_nil))
        (blkOk_by (own := [("place", 1)]) (N := ["ring", "place"]) (sc := defScope sChanges) (by decide +kernel))
        (fun _ _ _ _ _ => pg_name (i := 1) nd rfl (Or.inl rfl))
        (fun _ _ _ _ _ => pts_one (pt_cmpR op_gt (pe_call G4 hr (by rfl) N4.g N4.F.kp N4.b .nil pass0 (pa_cons (pv 0) (pa_cons (pv 1) pa_nil))) pe_int (nomark _)))
        (fun _ _ _ _ _ => pe_tup (pa_cons (pv 1) (pa_cons (pe_call G5 hr (by rfl) N5.g N5.F.kp N5.b .nil pass0 (pa_cons (pv 0) (pa_cons (pv 1) pa_nil))) pa_nil)))))), ?_⟩
    refine ⟨.str (rt cs), rfl, cs, rfl, hR, fun H1 s1 => ?_⟩
    refine ⟨.str (rt cs), rfl, rt cs, rfl, (rgFits hR), _, rfl, ?_, ?_, fun D hD => ?_⟩
    · omega
    · rw [rt_len]; have := hR.hi; omega
    · have en : ((rt cs).length : Int).toNat = cs.length := by
        rw [rt_len]
        omega
      rw [en]
      have hD0 := s1.free hD
      refine lc_range (lo := 0) (n := cs.length) (fun i H3 => ∃ ws, Same H H3 ∧ H3 D = some (.lst ws) ∧ Tups H3 cs (rchg cs i) ws) ⟨[], same_new hD0 s1, upd_same, rfl⟩ ?_ ?_
      · rintro i H3 hi ⟨ws, sm, eD, tp⟩
        rw [Int.zero_add]
        refine ⟨rfl, .str (rt cs), rfl, .int (i : Int), rfl, cs, i, rfl, hR, hi, _, _, rfl, rfl, _, rfl, ?_⟩
        rw [ups_int]
        refine ite2 (fun e => ?_) (fun e => ?_)
        · refine ⟨.int (i : Int), rfl, .str (rt cs), rfl, .int (i : Int), rfl, cs, i, rfl, hR, hi, fun H4 s4 => ⟨(by show 2 ≤ sizeLine; decide), fun p np => ?_⟩⟩
          have eD4 := s4 _ _ eD
          have nDp : D ≠ p := fun z => by
            rw [← z, eD4] at np
            cases np
          have np0 : H p = none := (sm.trans s4).free np
          refine ⟨ws, (by rw [upd_ne nDp]; exact eD4), ?_, ws ++ [.ref p], same_new hD0 (same_new np0 (sm.trans s4)), upd_same, ?_⟩
          · rw [tups_len tp]
            have := rchg_few cs i
            have := hR.hi
            exact fit' (by omega)
          · rw [rchg_succ, if_pos e]
            refine tups_upd (by rw [upd_ne nDp]; exact eD4) (tups_add upd_same (tups_same (s4.trans (same_upd np)) tp))
        · refine ⟨ws, sm, eD, ?_⟩
          rw [rchg_succ, if_neg e, List.append_nil]
          exact tp
      · rintro H3 ⟨ws, sm, eD, tp⟩
        exact q H3 D ws sm hD0 eD tp
end
end Hop

set_option Elab.async false
set_option linter.all false
set_option maxRecDepth 100000
set_option maxHeartbeats 1000000
namespace HopR
open PySem PySem.Spec PyProof.Rows L2
/-! ### reversed(text) -/
theorem text_norev : typeLookup (.type "str") "__reversed__" = pure none := by rw [typeLookup_type, builtinLookup_eq_fast]; kernel_rfl
theorem text_get : typeLookup (.type "str") "__getitem__" = pure (some (.builtin "str.__getitem__")) := by rw [typeLookup_type, builtinLookup_eq_fast]; kernel_rfl
/-- goes through the text x backwards; the next place is i -/
def RevAt (h : Heap) (a : Addr) (x : Str) (t : Tok) (i : Int) : Prop := ∃ o, h.get? a = some o ∧ o.cls = .type "reversed" ∧ o.data = .fields #[.str x t, rawInt i]
section
variable {prog : Program} {w : World} {A : Around} {E : Value → Shared → Prop} {s : Shared} {x : Str} {t : Tok}
theorem RevAt.kind {a : Addr} {i : Int} (r : RevAt s.heap a x t i) : s.TypeIs (.ref a) "reversed" := r.elim fun o h => ⟨o, h.1, h.2.1⟩
theorem rev_made {Q : Value → Shared → Prop} (few : ¬ (x.length : Int) ≥ 2 ^ 63)
    (q : Q (.ref s.heap.objs.size) { s with heap := s.heap.push { cls := .type "reversed", data := .fields #[.str x t, rawInt ((x.length : Int) - 1)] }, toks := s.toks + 1 + 1 }) : wpAny (model prog w) A (call (.type "reversed") [.str x t]) Q E s := by
  have ty := typeIs_str s x t
  refine callType_codes (Q₁ := fun obj s' => s'.TypeIs obj "reversed" ∧ Q obj s') RT.called_rt (F.typeCall_reversed_1 _) F.entry_object_init (codeAny_of_tree ?_) fun obj s' h =>
    ⟨h.1, F.args_object_init_2 obj _, object_init_meets RT.called_rt.init.lookup RT.called_rt.made (by decide) prog w A.in1 _ s' ⟨h.1, rfl, h.2⟩⟩
  show wpAny _ A.in1.in1 (do checkBuiltinCall "reversed.__new__" ⟨[.type "reversed", .str x t], []⟩; again (.builtin "reversed.__new__" ⟨[.type "reversed", .str x t], []⟩)) _ _ s
  refine wpAny_bind (wpAny_of_eq (F.newCall_reversed_1 _) (wpAny_pure ⟨plainId_quiet F.plain_reversed_new _, codeAny_builtin F.entry_reversed_new ?_⟩))
  rw [Around.under_plainId F.plain_reversed_new _]
  unfold Builtin.«reversed.__new__»
  refine wpAny_bind (wpAny_of_eq (newClass_reversed _) (wpAny_bind (wpAny_of_eq (a := ()) rfl (wpAny_bind (wpAny_of_eq (a := ()) rfl ?_)))))
  refine wpAny_bind (wpAny_specialOf ty text_norev ?_)
  refine wpAny_bind ?_
  wp_delta
  refine wpAny_bind (wpAny_isInstance (T := "str") (U := "dict") (b := false) ty PySem.F.sub_str_dict ?_)
  rw [if_neg Bool.false_ne_true]
  refine wpAny_bind (wpAny_specialOf ty text_get ?_)
  refine wpAny_pure ?_
  rw [if_neg (by decide)]
  refine wpAny_bind (len_str few (wpAny_bind (wpAny_of_eq (a := some ((x.length : Nat) : Int)) rfl (wpAny_bind ?_))))
  show wpAny _ _ (newObj (.type "reversed") (.fields #[.str x t, rawInt ((x.length : Int) - 1)])) _ _ _
  exact wpAny_newObj_type (wpAny_pure ⟨⟨_, Heap.get?_push_size _ rfl, rfl⟩, q⟩)
/-- one sign more -/
theorem rev_item {a : Addr} {i c : Nat} {Q : Option Value → Shared → Prop} (r : RevAt s.heap a x t (i : Int)) (hc : x.cps[i]? = some c) (few : x.length ≤ sizeLine)
    (q : ∀ h' k u, RevAt h' a x t ((i : Int) - 1) → Heap.SameBut a s.heap h' → Q (some (.str ⟨#[c]⟩ u)) { s with heap := h', toks := k }) : wpAny (model prog w) A (pyNext (.ref a)) Q E s := by
  obtain ⟨o, ho, cls, dat⟩ := id r
  have lt : i < x.length := (Array.getElem?_eq_some_iff.mp hc).1
  rw [sizeLine_eq] at few
  have spot : (seqIndex? (i : Int) x.length).bind (x.cps[·]?) = some c := by
    rw [seqIndex_of (by omega) (by omega)]
    exact hc
  unfold pyNext
  refine wpAny_bind (wpAny_attempt (wpAny_callSpecial?_slot (name := Str.ofString "__next__") r.kind RT.slot_rt_next (wpAny_call_entry RT.slot_rt_next r.kind RT.entry_rt_next ?_ (RT.args_rt_next _))))
  unfold Builtin.«reversed.__next__»
  refine wpAny_bind (wpAny_of_eq (a := (Value.ref a, [])) rfl (wpAny_bind (wpAny_field ho dat (x := .str x t) rfl (wpAny_bind (wpAny_field ho dat (x := rawInt (i : Int)) rfl ?_)))))
  show wpAny _ _ (if (i : Int) < 0 then _ else _) _ _ s
  rw [if_neg (by omega)]
  refine wpAny_bind (wpAny_specialOf (typeIs_str s x t) text_get ?_)
  rw [if_neg (by decide)]
  refine wpAny_bind (wpAny_mkInt (wpAny_bind (wpAny_attempt (PyProof.Rows.getItem_str (s := { s with toks := s.toks + 1 }) (by
    rw [decide_eq_false (by omega), decide_eq_false (by omega)]
    rfl) spot ?_))))
  refine wpAny_bind (wpAny_field (s := { s with toks := s.toks + 1 + 1 }) ho dat (x := rawInt (i : Int)) rfl ?_)
  refine wpAny_bind (wpAny_setField (s := { s with toks := s.toks + 1 + 1 }) ho dat (by simp) ?_)
  have out : RevAt (s.heap.update a (Obj.mapFields (·.setIfInBounds 1 (rawInt ((i : Int) - 1))))) a x t ((i : Int) - 1) :=
    ⟨_, Heap.get?_update_self _ ho (Obj.isFreed_of_fields (Obj.data_mapFields dat _)), (Obj.cls_mapFields ..).trans cls, by rw [Obj.data_mapFields dat]; simp⟩
  exact wpAny_pure ⟨_, rfl, wpAny_pure (q _ _ _ out (Heap.SameBut.update ..))⟩
theorem stop_raised {α : Type} {Q : α → Shared → Prop} (calm : A.handled = none) (q : ∀ h' e, (∀ b o, s.heap.get? b = some o → h'.get? b = some o) → (∃ o, h'.get? e = some o ∧ o.cls = .type "StopIteration") → E (.ref e) { s with heap := h' }) :
    wpAny (model prog w) A (Builtin.SmallTypes.stopIteration : Sem α) Q E s := by
  unfold Builtin.SmallTypes.stopIteration
  simp only [newExc, newTuple, raiseNew]
  refine wpAny_bind (wpAny_bind (wpAny_newObj_type (wpAny_bind (m := firstArgMember _ _) (wpAny_of_eq (a := Value.none) rfl (wpAny_newObj_type ?_ (by size_fits)))) (by size_fits)))
  refine wpAny_bind (wpAny_handled ?_)
  rw [calm]
  exact wpAny_bind (wpAny_pure (wpAny_throw (q _ _ (fun b o e => Heap.get?_push_of_some _ (Heap.get?_push_of_some _ e)) ⟨_, Heap.get?_push_size _ rfl, rfl⟩)))
/-- no sign is left -/
theorem rev_end {a : Addr} {Q : Option Value → Shared → Prop} (calm : A.handled = none) (r : RevAt s.heap a x t (-1)) (q : ∀ h', Heap.ExtBut a s.heap h' → Q none { s with heap := h' }) : wpAny (model prog w) A (pyNext (.ref a)) Q E s := by
  obtain ⟨o, ho, cls, dat⟩ := id r
  unfold pyNext
  refine wpAny_bind (wpAny_attempt (wpAny_callSpecial?_slot (name := Str.ofString "__next__") r.kind RT.slot_rt_next (wpAny_call_entry RT.slot_rt_next r.kind RT.entry_rt_next ?_ (RT.args_rt_next _))))
  unfold Builtin.«reversed.__next__»
  refine wpAny_bind (wpAny_of_eq (a := (Value.ref a, [])) rfl (wpAny_bind (wpAny_field ho dat (x := .str x t) rfl (wpAny_bind (wpAny_field ho dat (x := rawInt (-1)) rfl ?_)))))
  show wpAny _ _ (if (-1 : Int) < 0 then _ else _) _ _ s
  rw [if_pos (by decide)]
  refine wpAny_bind (wpAny_rule (wpAny_bind ?_))
  wp_delta
  have ho2 := Heap.get?_update_self (Obj.mapFields (·.setIfInBounds 1 (rawInt (-1)))) ho (Obj.isFreed_of_fields (Obj.data_mapFields dat _))
  refine wpAny_bind (wpAny_setField ho dat (by simp) (wpAny_setField (s := { s with heap := s.heap.update a (Obj.mapFields (·.setIfInBounds 1 (rawInt (-1)))) }) ho2 (Obj.data_mapFields dat _) (by simp) ?_))
  have calm1 : A.in1.handled = none := calm
  refine wpAny_bind (stop_raised calm1 fun h' e old ⟨oe, he, ce⟩ => ?_)
  refine wpAny_bind (wpAny_isInstance (T := "StopIteration") (b := true) ⟨oe, he, ce⟩ isSubtype_stop (wpAny_pure (q _ fun b ob nb g => old b ob ?_)))
  exact (Heap.get?_update_other _ _ (Ne.symm nb)).trans ((Heap.get?_update_other _ _ (Ne.symm nb)).trans g)
end
end HopR

set_option Elab.async false
set_option linter.all false
set_option maxRecDepth 100000
namespace HopR
open PySem PySem.Spec PyProof.Rows L2
/-- the signs of a text from its end on -/
def ItRevS (x : Str) : It := ⟨fun i _ => i < x.cps.size, fun i H v H' => H' = H ∧ ∃ c, x.cps[x.cps.size - 1 - i]? = some c ∧ v = .str ⟨#[c]⟩, fun i _ => x.cps.size ≤ i⟩
theorem turn_revS {P : Program} {w : World} {K : PySem.W.Frag} {tg : Expr} (it : Addr) (x : Str) (t : Tok) (few : x.length ≤ sizeLine) : Turn P w K tg (ItRevS x) [it] it (fun i h => i ≤ x.cps.size ∧ RevAt h it x t ((x.cps.size : Int) - 1 - (i : Nat))) where
  mem := List.mem_singleton.mpr rfl
  obj i h st b hb := by
    obtain rfl := List.mem_singleton.mp hb
    obtain ⟨_, o, g, _, d⟩ := st
    exact ⟨o, g, fun v z => by rw [d] at z; cases z⟩
  keep i h h' st k := let ⟨o, g, r⟩ := st.2; ⟨st.1, o, k it (List.mem_singleton.mpr rfl) o g, r⟩
  item := by
    intro X hP hw hK calm i pins s σ H E I free st go
    subst hP hw hK
    obtain ⟨f0, f1, _, f3, f4, f5⟩ := free it (List.mem_singleton.mpr rfl)
    have go : i < x.cps.size := go
    obtain ⟨_, r⟩ := st
    rw [show (x.cps.size : Int) - 1 - (i : Nat) = ((x.cps.size - 1 - i : Nat) : Int) by omega] at r
    have hc : x.cps[x.cps.size - 1 - i]? = some (x.cps[x.cps.size - 1 - i]'(by omega)) := Array.getElem?_eq_getElem _
    refine rev_item r hc few fun h' k u r' sb => ⟨_, rfl, ?_⟩
    have J : Inv X pins σ H { s with heap := h', toks := k } := I.turned (t' := k) (fun b o nb g => (sb.2 b nb).trans g) f0 f1 f3 f4 f5
    obtain ⟨o, g, c, d⟩ := id r'
    refine go_of (s := { s with heap := h', toks := k }) g c d (by decide) ⟨.str ⟨#[_]⟩, H, J, ⟨u, rfl⟩, ⟨rfl, _, hc, rfl⟩, ⟨go, ?_⟩, fun b hb => (free b hb).1⟩
    rw [show (x.cps.size : Int) - 1 - ((i + 1 : Nat) : Int) = ((x.cps.size - 1 - i : Nat) : Int) - 1 by omega]
    exact r'
  done := by
    intro X hP hw hK calm i pins s σ H E I free st stop
    subst hP hw hK
    obtain ⟨f0, f1, _, f3, f4, f5⟩ := free it (List.mem_singleton.mpr rfl)
    have stop : x.cps.size ≤ i := stop
    obtain ⟨le, r⟩ := st
    rw [show (x.cps.size : Int) - 1 - (i : Nat) = -1 by omega] at r
    exact rev_end (I.ok.hd calm) r fun h' eb => ⟨rfl, I.turned (t' := s.toks) (fun b o nb g => eb b o nb g) f0 f1 f3 f4 f5⟩
  self A i s Q E st q := by
    refine wpAny_pyIter_slot st.2.kind RT.slot_rt_iter (wpAny_call_entry RT.slot_rt_iter st.2.kind RT.entry_rt_iter ?_ (RT.args_rt_iter _))
    show wpAny _ _ (ret (.ref it)) _ _ s
    exact wpAny_pure ⟨_, rfl, "reversed", _, st.2.kind, RT.slot_rt_next.lookup, q⟩
theorem walk_revS {x : Str} : Walk (ItRevS x) x.cps.size (fun _ => True) (fun i H v H' => H' = H ∧ ∃ c, x.cps[x.cps.size - 1 - i]? = some c ∧ v = .str ⟨#[c]⟩) :=
  ⟨fun _ _ lt _ => lt, fun _ _ => Nat.le_refl _, fun _ _ _ _ _ _ y => y⟩
def iRevS (te : TE) : TI := fun σ H R => te σ H fun v H1 => ∃ x : Str, v = .str x ∧ x.length ≤ sizeLine ∧ R (ItRevS x) H1
theorem pi_revS {X : Cx} {tg e : Expr} {te : TE} {p pos : Pos} (hg : Gl X "reversed") (hm : X.mg "reversed" = none) (he : PE X e te) (hs : starEach [e] X.env = (false, eval e X.env) :: starEach [] X.env := by rfl) : PI X tg (.Call (.Name "reversed" p) [e] [] pos) (iRevS te) := by
  constructor
  intro pins s σ H R I h
  refine Call_ (ld_blt I hg hm PyProof.Rows.boot_reversed (callWith_type1 (args_cons (thn (he.run pins s σ H _ I h) ?_) hs) hs rfl))
  rintro v s1 ⟨_, H1, J, rel, x, rfl, few, q⟩
  obtain ⟨t, rfl⟩ := rel
  refine args_nil (rev_made (by have := few; rw [sizeLine_eq] at this; omega) ?_)
  have gone : RevAt (s1.heap.push { cls := .type "reversed", data := .fields #[.str x t, rawInt ((x.length : Int) - 1)] }) s1.heap.objs.size x t ((x.cps.size : Int) - 1 - ((0 : Nat) : Int)) := ⟨_, Heap.get?_push_size _ rfl, rfl, by
    show Data.fields #[.str x t, rawInt ((x.length : Int) - 1)] = _
    rw [show (x.cps.size : Int) - 1 - ((0 : Nat) : Int) = (x.length : Int) - 1 by show (x.cps.size : Int) - 1 - ((0 : Nat) : Int) = (x.cps.size : Int) - 1; omega]⟩
  have J2 : Inv X pins σ H1 { s1 with heap := s1.heap.push { cls := .type "reversed", data := .fields #[.str x t, rawInt ((x.length : Int) - 1)] }, toks := s1.toks + 1 + 1 } := J.kept fun b o g => Heap.get?_push_of_some _ g
  refine (turn_revS (P := X.prog) (w := X.w) (K := X.K) (tg := tg) s1.heap.objs.size x t few).self X.A 0 _ _ _ ⟨Nat.zero_le _, gone⟩ ?_
  exact ⟨_, _, _, ItRevS x, H1, rfl, J2, turn_revS _ x t few, ⟨Nat.zero_le _, gone⟩, fun b hb => by
    obtain rfl := List.mem_singleton.mp hb
    exact J.fpOk (Nat.le_refl _) (J.hok.fresh (Nat.le_refl _)), q⟩
end HopR

set_option Elab.async false
set_option linter.all false
set_option maxRecDepth 100000
namespace HopR
open PySem PySem.Spec PyProof.Rows L2
theorem noxT {X : Cx} {st : List Stmt} {t : TS} (h : PSsT X.nox st t) : PSsT X st t := fun pins s σ H D h0 I hw =>
  wpAny_mono (h pins s σ H D h0 (I.wish _) hw) (fun _ _ q => SP.unwish q) fun _ _ z => z.elim
/-- a def whose body begins where a token is out -/
theorem okT {P : Program} {w : World} {K : PySem.W.Frag} {mg : Str → Option Value} {base : Heap} {x qual : Str} {st : Stmt} {f : Addr} {fd : FuncData} {N ps : List Str} {k : Nat} {sp : Sp} (F : Fun K x qual st f fd) (S : FnScope N ps (defScope st)) (hnc : ∀ y ∈ (defScope st).names, y.2 ≠ .cell) (hps : 1 ≤ ps.length) (len : ∀ vs H Q E, sp vs H Q E → vs.length = ps.length)
    (body : ∀ (cdv : Value) (A : Around) (outer : List Env) (s : Shared) (H : Hp) (vs : List V) (Q : VK) (E : XK), Room k (A.deeper (envOfC qual (defScope st) s.heap.objs.size f cdv)) → sp vs H Q E →
      ∃ t, PSsT (cxOf CX0 P w K mg base N qual (defScope st) f cdv A outer s H E).nox (defBody st) t ∧ t { nx := fun _ H' => Q .non H', rt := Q } (start N vs) H) : FnOk P w K mg base CX0 (k + 1) f fd ps sp := by
  obtain ⟨_, _, _, _, _, _, cdv, _, _, rfl, lk, code⟩ := F.ex
  refine fn_ofT lk code S hnc hps len fun A outer s H vs Q E room h => ?_
  obtain ⟨t, b, q⟩ := body cdv A outer s H vs Q E room h
  exact ⟨t, noxT b, q⟩
end HopR

set_option Elab.async false
set_option linter.all false
set_option maxRecDepth 100000
namespace HopR
open PySem PySem.Spec PyProof.Rows L2
section
variable {X : Cx}
/-- tuple(text) -/
def rTupT : List V → Hp → VK → Prop := fun vs H Q => ∃ z : Str, vs = [.str z] ∧ z.length ≤ sizeLine ∧ ∀ p : Addr, H p = none → Q (.ref p) (upd H p (.tup ((sg z).map V.str)))
theorem cr_tupT (hcm : X.calm = true) : CallR X (.type "tuple") rTupT := by
  rintro pins s σ H _ us Q I r ⟨z, rfl, hz, q⟩
  obtain ⟨_, rfl, t, rfl⟩ := vals1 r
  refine call_tuple_str (I.ok.hd hcm) z t (fun h' tk acc old items => ?_) hz
  have after : Inv X pins σ H { s with heap := h', toks := tk } := I.kept old
  refine ⟨.ref h'.objs.size, _, after.laid (t' := tk) (fun b o e => Heap.get?_push_of_some _ e) (Nat.le_refl _) ?_, rfl, q _ (after.hok.fresh (Nat.le_refl _))⟩
  refine ⟨by rw [List.length_map, sg_len]; exact hz, acc.toList, vals_of_strs (signs_are items), ?_⟩
  rw [Array.toArray_toList]
  exact IsTup.new _ _
end
/-! ### lists of whole numbers as data -/
def dis (zs : List Int) : List PyData := zs.map PyData.int
theorem dp_ints {K : PySem.W.Frag} {H : Hp} : ∀ zs : List Int, DpAll K H (zs.map V.int) (dis zs)
  | [] => .nil
  | z :: r => .cons (.int z) (dp_ints r)
theorem lay_ints : ∀ zs : List Int, PyData.canLayAll0 (dis zs) = true
  | [] => rfl
  | z :: r => by
    show PyData.canLayAll0 (.int z :: dis r) = true
    simp only [PyData.canLayAll0, lay_ints r, Bool.and_true]
    rfl
theorem deep_ints : ∀ zs : List Int, PyData.depthAll (dis zs) = 0
  | [] => rfl
  | z :: r => by
    show PyData.depthAll (.int z :: dis r) = 0
    simp only [PyData.depthAll, deep_ints r]
    rfl
theorem shaped_zs (zs : List Int) : SeqAt.shaped (.list (dis zs)) = true := by
  unfold SeqAt.shaped
  rw [Bool.and_eq_true]
  refine ⟨?_, decide_eq_true ?_⟩
  · simp only [PyData.canLay0, lay_ints]
  · simp only [PyData.depth, deep_ints]
    decide
theorem cut_ints (ns : List Int) (hi : Int) (hl : ns.length ≤ 63) : ∃ zs : List Int, cutV (ns.map V.int) none (some hi) = zs.map V.int ∧ zs.length ≤ 63 := by
  unfold cutV
  refine ⟨(ns.drop (HT.sIx (ns.map V.int).length 0 none)).take (HT.sIx (ns.map V.int).length (ns.map V.int).length (some hi) - HT.sIx (ns.map V.int).length 0 none), by rw [List.map_take, List.map_drop], ?_⟩
  rw [List.length_take, List.length_drop]
  omega
end HopR

set_option Elab.async false
set_option linter.all false
set_option maxRecDepth 100000
namespace Hop
open PySem L2 HopR
section
variable {P : Program} {w : World} {K : PySem.W.Frag} {mg : Str → Option Value} {base : Heap} {d : Addr} {es : Array DictEntry} {n : Nat}
/-! ### the draws -/
theorem scDrawn : FnScope ["_law_cell", "_law_sizes", "_law_found", "_law_left", "_law_k", "_law_small", "_law_one", "_law_two"] ["_law_cell", "_law_sizes"] (defScope sDrawn) := ⟨rfl, rfl, rfl, by decide +kernel, rfl, by decide +kernel, by decide +kernel⟩
theorem ok_drawn {f : Addr} {fd : FuncData} {k : Nat} (F : Fun K "_law_drawn" "_law_drawn" sDrawn f fd) (mL : mg "len" = none) (mR : mg "range" = none) : FnOk P w K mg base CX0 (k + 1) f fd ["_law_cell", "_law_sizes"] (spDrawn K) := by
  refine F.ok scDrawn (fun vs H Q E h => ?_) (fun cdv A outer s H vs Q E hr h => ?_)
  · obtain ⟨c, a, zs, rfl, _⟩ := h
    rfl
  · obtain ⟨c, a, zs, rfl, hS, hz, hlen, q⟩ := h
    have nd := scDrawn.nd
    refine ⟨_, pss_cons (ps_set (i := 2) nd rfl (.inl rfl) (pe_lst pa_nil))
      (pss_cons (ps_set (i := 3) nd rfl (.inl rfl) (pv 0))
      (pss_cons (ps_for PassesOwn.never rfl (pi_range1 (by rfl) mR (pa_cons (pe_callB call_len_seq (by rfl) mL PySem.boot_len (pa_cons (pv 1) pa_nil)) pa_nil)) (pg_name (i := 4) nd rfl (.inl rfl))
        (pss_one (ps_if (pt_cmpR op_ge (pv 3) (pe_op op_pow pe_int pe_int) (nomark _))
          (pss_cons (ps_expr (pe_bm PySem.F.plainAttrs_list PySem.F.slot_list_append PySem.F.type_list_append mt_append (pv 2) (pa_cons (pe_op op_mod (pv 3) (pe_ix ix_list (pv 1) (pv 4) (fun _ _ => rfl))) pa_nil)))
            (pss_one (ps_set (i := 3) nd rfl (.inl rfl) (pe_op op_fdivW (pv 3) (pe_ix ix_list (pv 1) (pv 4) (fun _ _ => rfl))))))
          (pss_cons (ps_set (i := 5) nd rfl (.inl rfl) (pe_op op_mod (pv 3) (pe_op op_pow pe_int pe_int)))
          (pss_cons (ps_set (i := 6) nd rfl (.inl rfl) (pe_op op_mod (pe_op op_mul (pe_op op_add (pe_op op_add (pv 5) (pe_op op_mul pe_int (pv 4))) pe_int) (pe_op op_add pe_int (pe_op op_mul (pe_op op_mul pe_int (pv 4)) (pv 4)))) pe_int))
          (pss_cons (ps_set (i := 7) nd rfl (.inl rfl) (pe_op op_mod (pe_op op_mul (pe_op op_add (pe_op op_add (pe_op op_fdiv (pv 5) pe_int) (pe_op op_mul pe_int (pv 4))) pe_int) (pe_op op_add pe_int (pe_op op_mul pe_int (pv 4)))) pe_int))
          (pss_one (ps_expr (pe_bm PySem.F.plainAttrs_list PySem.F.slot_list_append PySem.F.type_list_append mt_append (pv 2) (pa_cons (pe_op op_mod (pe_op op_add (pe_op op_mul (pv 6) (pv 7)) (pe_op op_fdiv (pv 6) pe_int)) (pe_ix ix_list (pv 1) (pv 4) (fun _ _ => rfl))) pa_nil))))))))))
      (pss_one (ps_ret (pv 2))))), ?_⟩
    -- found = []; left = cell
    refine ⟨Nat.zero_le _, fun o no => ?_⟩
    have s1 : Same H (upd H o (.lst [])) := same_upd no
    refine ⟨.int c, rfl, .ref a, rfl, a, zs.map V.int, rfl, .inl (s1.seq hS), ((zs.map V.int).length : Int), rfl, by omega, (by rw [List.length_map]; omega), ?_⟩
    refine for_range (lo := 0) (n := zs.length) (fun i σ H3 => ∃ (l : Int) (y4 y5 y6 y7 : Option V) (ds : List Int), σ = [some (.int c), some (.ref a), some (.ref o), some (.int l), y4, y5, y6, y7] ∧
        Same H H3 ∧ H3 o = some (.lst (ds.map V.int)) ∧ ds.length = i ∧ ds ++ draws l i (zs.drop i) = draws c 0 zs)
      ⟨c, none, none, none, none, [], rfl, s1, upd_same, rfl, by simp⟩ ?_ ?_ |> (fun h => by rw [List.length_map]; exact h)
    · rintro i σ H3 hi ⟨l, y4, y5, y6, y7, ds, rfl, sm, eo, el, ed⟩
      have hA : SqL K H3 a (zs.map V.int) := sm.seq hS
      have hz1 := hz zs[i] (List.getElem_mem hi)
      have gz : zs[i]? = some zs[i] := List.getElem?_eq_getElem hi
      have g : atI (zs.map V.int) (i : Int) = some (.int zs[i]) := atI_nat (by rw [List.getElem?_map, gz]; rfl)
      have hd : zs.drop i = zs[i] :: zs.drop (i + 1) := List.drop_eq_getElem_cons hi
      rw [hd] at ed
      have ed' : (ds ++ [dval l i zs[i]]) ++ draws (dleft l zs[i]) (i + 1) (zs.drop (i + 1)) = draws c 0 zs := by
        rw [List.append_assoc]
        exact ed
      have small : (ds.map V.int).length < sizeLine := by
        rw [List.length_map]
        exact small1000 (by omega)
      rw [Int.zero_add]
      refine ⟨.int l, rfl, 10, 18, rfl, rfl, ⟨by decide, by decide, by decide⟩, l, 10 ^ 18, rfl, rfl, _, rfl, ite2 (fun e => ?_) (fun e => ?_)⟩
      · have e : (1000000000000000000 : Int) ≤ l := of_decide_eq_true e
        refine ⟨.ref o, rfl, .inl ⟨rfl, _, SqL.of eo⟩, .int l, rfl, .ref a, rfl, .int (i : Int), rfl, a, _, _, _, rfl, rfl, hA, g, l, zs[i], rfl, rfl, hz1.1, o, _, _, rfl, rfl, eo, small, ?_⟩
        have e1 : dval l i zs[i] = l % zs[i] := by
          unfold dval
          rw [if_pos e]
        have e2 : dleft l zs[i] = l / zs[i] := by
          unfold dleft
          rw [if_pos e]
        have sm2 : Same H (upd H3 o (.lst (ds.map V.int ++ [.int (l % zs[i])]))) := same_new no sm
        refine ⟨.int l, rfl, .ref a, rfl, .int (i : Int), rfl, a, _, _, _, rfl, rfl, sm2.seq hS, g, l, zs[i], rfl, rfl, wide_div hz1.1 (b := 64) (by have := hz1.2; have := hz1.1; omega) (by decide) (by decide), ?_⟩
        refine ⟨_, _, _, _, _, ds ++ [dval l i zs[i]], rfl, sm2, ?_, ?_, ?_⟩
        · rw [upd_same, e1, List.map_append]
          rfl
        · rw [List.length_append, el]
          rfl
        · rw [← e2]
          exact ed'
      · have e : ¬ (1000000000000000000 : Int) ≤ l := fun z => e (decide_eq_true z)
        have e2 : dleft l zs[i] = l := by
          unfold dleft
          rw [if_neg e]
        have hi1000 : (i : Int) < 1000 := by omega
        have s0 : 0 ≤ l % 1000000000000000000 := Int.emod_nonneg _ (by decide)
        have s9 : l % 1000000000000000000 < 1000000000000000000 := Int.emod_lt_of_pos _ (by decide)
        refine ⟨.int l, rfl, 10, 18, rfl, rfl, ⟨by decide, by decide, by decide⟩, l, 10 ^ 18, rfl, rfl, (show (0 : Int) < 10 ^ 18 by decide), ?_⟩
        refine ⟨_, rfl, .int (i : Int), rfl, 7, i, rfl, rfl, .inl ⟨by decide, by decide⟩, _, _, rfl, rfl, _, _, rfl, rfl, .int (i : Int), rfl, 2, i, rfl, rfl, .inl ⟨by decide, by decide⟩, .int (i : Int), rfl, _, _, rfl, rfl, .inl ⟨by omega, by omega⟩, _, _, rfl, rfl, _, _, rfl, rfl,
          .inl ⟨by show -(2 ^ 64) < l % 1000000000000000000 + 7 * (i : Int) + 1; omega, by show l % 1000000000000000000 + 7 * (i : Int) + 1 < 2 ^ 64; omega⟩, _, _, rfl, rfl, (show (0 : Int) < 2147483647 by decide), ?_⟩
        refine ⟨_, rfl, _, _, rfl, rfl, ⟨by decide, by decide⟩, .int (i : Int), rfl, 11, i, rfl, rfl, .inl ⟨by decide, by decide⟩, _, _, rfl, rfl, _, _, rfl, rfl, .int (i : Int), rfl, 6, i, rfl, rfl, .inl ⟨by decide, by decide⟩, _, _, rfl, rfl, _, _, rfl, rfl,
          .inl ⟨by show -(2 ^ 64) < l % 1000000000000000000 / 3 + 11 * (i : Int) + 5; omega, by show l % 1000000000000000000 / 3 + 11 * (i : Int) + 5 < 2 ^ 64; omega⟩, _, _, rfl, rfl, (show (0 : Int) < 2147483629 by decide), ?_⟩
        have o0 := Int.emod_nonneg ((l % 1000000000000000000 + 7 * (i : Int) + 1) * (48271 + 2 * (i : Int) * (i : Int))) (show (2147483647 : Int) ≠ 0 by decide)
        have o9 := Int.emod_lt_of_pos ((l % 1000000000000000000 + 7 * (i : Int) + 1) * (48271 + 2 * (i : Int) * (i : Int))) (show (0 : Int) < 2147483647 by decide)
        refine ⟨.ref o, rfl, .inl ⟨rfl, _, SqL.of eo⟩, _, rfl, _, rfl, _, _, rfl, rfl, .inl ⟨Int.lt_of_lt_of_le (by decide) o0, Int.lt_trans o9 (by decide)⟩, _, rfl, _, _, rfl, rfl, ⟨by decide, by decide⟩, _, _, rfl, rfl, .ref a, rfl, .int (i : Int), rfl, a, _, _, _, rfl, rfl, hA, g, _, zs[i], rfl, rfl, hz1.1, o, _, _, rfl, rfl, eo, small, ?_⟩
        have e1 : dval l i zs[i] = ((l % 1000000000000000000 + 7 * (i : Int) + 1) * (48271 + 2 * (i : Int) * (i : Int)) % 2147483647 * ((l % 1000000000000000000 / 3 + 11 * (i : Int) + 5) * (39373 + 6 * (i : Int)) % 2147483629) + (l % 1000000000000000000 + 7 * (i : Int) + 1) * (48271 + 2 * (i : Int) * (i : Int)) % 2147483647 / 64) % zs[i] := by
          unfold dval
          rw [if_neg e]
        refine ⟨_, _, _, _, _, ds ++ [dval l i zs[i]], rfl, same_new no sm, ?_, ?_, ?_⟩
        · rw [upd_same, e1, List.map_append]
          rfl
        · rw [List.length_append, el]
          rfl
        · rw [e2] at ed'
          exact ed'
    · rintro σ H3 ⟨l, y4, y5, y6, y7, ds, rfl, sm, eo, el, ed⟩
      rw [List.drop_length] at ed
      have ed : ds = draws c 0 zs := by
        rw [← ed]
        show ds = ds ++ []
        rw [List.append_nil]
      subst ed
      exact ⟨.ref o, rfl, q H3 o sm no eo⟩

/-! ### _law_ring -/
def spLRing : Sp := fun vs H Q _ => ∃ c M : Int, vs = [.int c, .int M] ∧ (M = 8 ∨ M = 12) ∧ ∀ H' cs, Same H H' → Rg cs → Q (.str (rt cs)) H'
theorem scLRing : FnScope ["_law_cell", "_law_most", "_law_draws", "_law_menu", "_law_draw"] ["_law_cell", "_law_most"] (defScope sLRing) := ⟨rfl, rfl, rfl, by decide +kernel, rfl, by decide +kernel, by decide +kernel⟩
theorem sizes14 : ∀ z ∈ ([11, 4] ++ List.replicate 12 3 : List Int), SizeOk z := by
  intro z hz
  rcases List.mem_append.mp hz with h | h
  · rcases List.mem_cons.mp h with rfl | h
    · exact ⟨by decide, by decide⟩
    · obtain rfl := List.mem_singleton.mp h
      exact ⟨by decide, by decide⟩
  · rw [(List.mem_replicate.mp h).2]
    exact ⟨by decide, by decide⟩
theorem sizes10 : ∀ z ∈ ([7, 4] ++ List.replicate 8 3 : List Int), SizeOk z := by
  intro z hz
  rcases List.mem_append.mp hz with h | h
  · rcases List.mem_cons.mp h with rfl | h
    · exact ⟨by decide, by decide⟩
    · obtain rfl := List.mem_singleton.mp h
      exact ⟨by decide, by decide⟩
  · rw [(List.mem_replicate.mp h).2]
    exact ⟨by decide, by decide⟩
def menu : Nat → List Nat
  | 0 => [97, 98, 46]
  | 1 => [97, 98, 46]
  | 2 => [97, 46, 46]
  | _ => [98, 97, 97]
theorem menu_len (m : Nat) : (menu m).length = 3 := by
  unfold menu
  split <;> rfl
theorem menu_ok (m : Nat) : ∀ c ∈ menu m, c ∈ [97, 98, 46] := by
  unfold menu
  split <;> decide
theorem ok_lring {f f1 : Addr} {fd fd1 : FuncData} {k : Nat} (F : Fun K "_law_ring" "_law_ring" sLRing f fd) (N1 : Fn K mg "_law_drawn" sDrawn ["_law_cell", "_law_sizes"] f1 fd1) (T : Txt K w mg d es n) : FnOk P w K mg base CX0 (k + 2) f fd ["_law_cell", "_law_most"] spLRing := by
  have G1 : FnOk P w K mg base CX0 (k + 1) f1 fd1 ["_law_cell", "_law_sizes"] (spDrawn K) := ok_drawn N1.F T.len T.range
  refine F.ok scLRing (fun vs H Q E h => ?_) (fun cdv A outer s H vs Q E hr h => ?_)
  · obtain ⟨c, M, rfl, _⟩ := h
    rfl
  · obtain ⟨c, M, rfl, hM, q⟩ := h
    have nd := scLRing.nd
    refine ⟨_, pss_cons (ps_set (i := 2) nd rfl (.inl rfl) (pe_call G1 hr (by rfl) N1.g N1.F.kp N1.b .nil pass0 (pa_cons (pv 0) (pa_cons (pe_op op_cat (pe_lst (pa_cons (pe_op op_sub (pv 1) pe_int) (pa_cons pe_int pa_nil))) (pe_op op_rep (pe_lst (pa_cons pe_int pa_nil)) (pv 1))) pa_nil))))
      (pss_cons (ps_set (i := 3) nd rfl (.inr rfl) (pe_ix ix_list (pe_lst (pa_cons (pe_lst (pa_cons pe_str (pa_cons pe_str (pa_cons pe_str pa_nil)))) (pa_cons (pe_lst (pa_cons pe_str (pa_cons pe_str (pa_cons pe_str pa_nil)))) (pa_cons (pe_lst (pa_cons pe_str (pa_cons pe_str (pa_cons pe_str pa_nil))))
          (pa_cons (pe_lst (pa_cons pe_str (pa_cons pe_str (pa_cons pe_str pa_nil)))) pa_nil))))) (pe_ix ix_list (pv 2) pe_int (fun _ _ => rfl)) (fun _ _ => rfl)))
      (pss_one (ps_ret (pe_join pe_str (pe_lc (own := [("_law_draw", 4)]) (g := gName 4) (tt := tYes) rfl nd (pi_list (pe_slice sl_list (pv 2) (po_some pe_int) (po_some (pe_op op_add pe_int (pe_ix ix_list (pv 2) pe_int (fun _ _ => rfl))))))
        (blkOk_by (own := [("_law_draw", 4)]) (N := ["_law_cell", "_law_most", "_law_draws", "_law_menu", "_law_draw"]) (sc := defScope sLRing) (by decide +kernel))
        (fun _ _ _ _ _ => pg_name (i := 4) nd rfl (Or.inl rfl)) (fun _ _ _ _ _ => pts_nil) (fun _ _ _ _ _ => pe_ix (show IxR _ (rIxL K) from ix_list) (pv 3) (pv 4) (fun _ _ => rfl))))))), ?_⟩
    rcases hM with rfl | rfl
    · refine ⟨.int c, rfl, .int 8, rfl, _, _, rfl, rfl, (by show 2 ≤ sizeLine; decide), fun l1 n1 => ⟨(by show 1 ≤ sizeLine; decide), fun l2 n2 => ?_⟩⟩
      refine ⟨.int 8, rfl, l2, 8, [.int 3], rfl, rfl, upd_same, by decide, by decide, (by show 1 * 8 ≤ sizeLine; decide), fun l3 n3 => ?_⟩
      have m2 := (same_upd n1).free n2
      have nl12 : l1 ≠ l2 := fun e => by
        rw [← e, upd_same] at n2
        cases n2
      have s2 := same_new (o := .lst [.int 3]) m2 (same_upd (o := .lst [.int (8 - 1), .int 4]) n1)
      have m3 := s2.free n3
      have nl13 : l1 ≠ l3 := fun e => by
        rw [← e, upd_ne nl12, upd_same] at n3
        cases n3
      refine ⟨l1, l3, [.int (8 - 1), .int 4], _, rfl, rfl, ?_, upd_same, (by show 2 + 8 ≤ sizeLine; decide), fun l4 n4 => ?_⟩
      · rw [upd_ne nl13, upd_ne nl12, upd_same]
      have s3 := same_new (o := .lst (List.replicate (8 : Int).toNat [V.int 3]).flatten) m3 s2
      have m4 := s3.free n4
      refine ⟨c, l4, [7, 4] ++ List.replicate 8 3, rfl, SqL.of upd_same, sizes10, by decide, fun H1 p s4 np ep => ?_⟩
      have sH1 : Same H H1 := (same_new m4 s3).trans s4
      generalize hds : draws c 0 ([7, 4] ++ List.replicate 8 3) = ds at ep
      have hlen : ds.length = 10 := by
        rw [← hds, draws_len]
        rfl
      have hok : ∀ (i : Nat) (x z : Int), ds[i]? = some x → ([7, 4] ++ List.replicate 8 3 : List Int)[i]? = some z → 0 ≤ x ∧ x < z := by
        rw [← hds]
        exact draws_ok _ c 0 (fun z hz => (sizes10 z hz).1)
      obtain ⟨d0, e0⟩ : ∃ x, ds[0]? = some x := ⟨ds[0], List.getElem?_eq_getElem (by omega)⟩
      obtain ⟨d1, e1⟩ : ∃ x, ds[1]? = some x := ⟨ds[1], List.getElem?_eq_getElem (by omega)⟩
      have b0 := hok 0 d0 7 e0 rfl
      have b1 := hok 1 d1 4 e1 rfl
      obtain ⟨m, rfl⟩ : ∃ m : Nat, d0 = (m : Int) := ⟨d0.toNat, by omega⟩
      have hcs : ∀ x ∈ (ds.drop 2).take (m + 2), 0 ≤ x ∧ x < 3 := fun x hx => by
        obtain ⟨j, hj⟩ := List.getElem?_of_mem (List.mem_of_mem_take hx)
        rw [List.getElem?_drop] at hj
        have hj2 : 2 + j < ds.length := (List.getElem?_eq_some_iff.mp hj).1
        refine hok (2 + j) x 3 hj ?_
        rw [List.getElem?_append_right (by show 2 ≤ 2 + j; omega), List.getElem?_replicate]
        show (if 2 + j - 2 < 8 then some (3 : Int) else none) = some 3
        rw [if_pos (by omega)]
      have hcl : ((ds.drop 2).take (m + 2)).length = m + 2 := by
        rw [List.length_take, List.length_drop, hlen]
        omega
      generalize hcd : (ds.drop 2).take (m + 2) = xs at hcs hcl
      have ecut : cutV (ds.map V.int) (some 2) (some (4 + (m : Int))) = xs.map V.int := by
        unfold cutV
        rw [show (some (2 : Int)) = some ((2 : Nat) : Int) from rfl, show (4 + (m : Int)) = ((4 + m : Nat) : Int) by omega, HT.sIx_nat, HT.sIx_nat, List.length_map, hlen, ← hcd, List.map_take, List.map_drop]
        have i1 : min 2 10 = 2 := by omega
        have i2 : min (4 + m) 10 - 2 = m + 2 := by omega
        rw [i1, i2]
      have g1 : atI (ds.map V.int) 1 = some (.int d1) := atI_nat (j := 1) (by rw [List.getElem?_map, e1]; rfl)
      have g0 : atI (ds.map V.int) 0 = some (.int (m : Int)) := atI_nat (j := 0) (by rw [List.getElem?_map, e0]; rfl)
      -- the menus
      refine ⟨(by show 3 ≤ sizeLine; decide), fun p1 np1 => ⟨(by show 3 ≤ sizeLine; decide), fun p2 np2 => ⟨(by show 3 ≤ sizeLine; decide), fun p3 np3 => ⟨(by show 3 ≤ sizeLine; decide), fun p4 np4 => ⟨(by show 4 ≤ sizeLine; decide), fun p5 np5 => ?_⟩⟩⟩⟩⟩
      have u1 := same_upd (o := .lst [.str "a", .str "b", .str "."]) np1
      have w1 : upd H1 p1 (.lst [.str "a", .str "b", .str "."]) p1 = some (.lst [.str "a", .str "b", .str "."]) := upd_same
      generalize upd H1 p1 (.lst [.str "a", .str "b", .str "."]) = J1 at *
      have u2 := same_upd (o := .lst [.str "a", .str "b", .str "."]) np2
      have w2 : upd J1 p2 (.lst [.str "a", .str "b", .str "."]) p2 = some (.lst [.str "a", .str "b", .str "."]) := upd_same
      generalize upd J1 p2 (.lst [.str "a", .str "b", .str "."]) = J2 at *
      have u3 := same_upd (o := .lst [.str "a", .str ".", .str "."]) np3
      have w3 : upd J2 p3 (.lst [.str "a", .str ".", .str "."]) p3 = some (.lst [.str "a", .str ".", .str "."]) := upd_same
      generalize upd J2 p3 (.lst [.str "a", .str ".", .str "."]) = J3 at *
      have u4 := same_upd (o := .lst [.str "b", .str "a", .str "a"]) np4
      have w4 : upd J3 p4 (.lst [.str "b", .str "a", .str "a"]) p4 = some (.lst [.str "b", .str "a", .str "a"]) := upd_same
      generalize upd J3 p4 (.lst [.str "b", .str "a", .str "a"]) = J4 at *
      have u5 := same_upd (o := .lst [.ref p1, .ref p2, .ref p3, .ref p4]) np5
      have w5 : upd J4 p5 (.lst [.ref p1, .ref p2, .ref p3, .ref p4]) p5 = some (.lst [.ref p1, .ref p2, .ref p3, .ref p4]) := upd_same
      generalize upd J4 p5 (.lst [.ref p1, .ref p2, .ref p3, .ref p4]) = J5 at *
      have sJ : Same H1 J5 := (((u1.trans u2).trans u3).trans u4).trans u5
      have ep5 := sJ _ _ ep
      have v1 := (((u2.trans u3).trans u4).trans u5) _ _ w1
      have v2 := ((u3.trans u4).trans u5) _ _ w2
      have v3 := (u4.trans u5) _ _ w3
      have v4 := u5 _ _ w4
      have ta : ("a" : Str) = one 97 := by decide +kernel
      have tb : ("b" : Str) = one 98 := by decide +kernel
      have tf : ("." : Str) = one 46 := by decide +kernel
      rw [ta, tb, tf] at v1 v2
      rw [ta, tf] at v3
      rw [ta, tb] at v4
      obtain ⟨pm, hpm, em⟩ : ∃ pm, atI [V.ref p1, .ref p2, .ref p3, .ref p4] d1 = some (.ref pm) ∧ J5 pm = some (.lst (vl (menu d1.toNat))) := by
        rcases (show d1 = 0 ∨ d1 = 1 ∨ d1 = 2 ∨ d1 = 3 by omega) with rfl | rfl | rfl | rfl
        · exact ⟨p1, rfl, v1⟩
        · exact ⟨p2, rfl, v2⟩
        · exact ⟨p3, rfl, v3⟩
        · exact ⟨p4, rfl, v4⟩
      refine ⟨.ref p, rfl, p, _, _, _, rfl, rfl, SqL.of ep5, g1, p5, _, _, .ref pm, rfl, rfl, SqL.of w5, hpm, ?_⟩
      refine ⟨⟨_, rfl⟩, ?_⟩
      refine ⟨.ref p, rfl, 2, rfl, .ref p, rfl, p, _, _, _, rfl, rfl, SqL.of ep5, g0, _, _, rfl, rfl, _, rfl, p, _, rfl, SqL.of ep5, fun l5 n5 => ?_⟩
      rw [ecut]
      have s5 := same_upd (o := .lst (xs.map V.int)) n5
      have e5 : upd J5 l5 (.lst (xs.map V.int)) l5 = some (.lst (xs.map V.int)) := upd_same
      generalize upd J5 l5 (.lst (xs.map V.int)) = J6 at *
      have em6 := s5 _ _ em
      have sH6 : Same H J6 := (sH1.trans sJ).trans s5
      refine ⟨l5, rfl, ⟨_, SqL.of e5⟩, fun D hD => ?_⟩
      have hD0 := sH6.free hD
      refine lc_list (K := K) (a := l5) (xs := xs.map V.int) (fun i H3 => ∃ cs : List Nat, Same J6 H3 ∧ Same H H3 ∧ H3 D = some (.lst (vl cs)) ∧ cs.length = i ∧ ∀ c ∈ cs, c ∈ [97, 98, 46]) ⟨[], same_upd hD, same_new hD0 sH6, upd_same, rfl, by simp⟩ (fun i H3 _ ⟨_, h, _⟩ => SqL.of (h _ _ e5)) ?_ ?_
      · rintro i x H3 hx ⟨cs, sm6, sm, eD, hl, hc⟩
        rw [List.getElem?_map] at hx
        obtain ⟨u, hu, rfl⟩ := Option.map_eq_some_iff.mp hx
        have hb := hcs u (List.mem_of_getElem? hu)
        have hi : i < xs.length := (List.getElem?_eq_some_iff.mp hu).1
        obtain ⟨j, rfl⟩ : ∃ j : Nat, u = (j : Int) := ⟨u.toNat, by omega⟩
        have hj : j < (menu d1.toNat).length := by
          rw [menu_len]
          omega
        refine ⟨rfl, .ref pm, rfl, .int (j : Int), rfl, pm, _, _, _, rfl, rfl, SqL.of (sm6 _ _ em6), vl_at hj, _, eD, ?_, cs ++ [(menu d1.toNat).getD j 0], ?_, same_new hD0 sm, ?_, ?_, ?_⟩
        · rw [vl_len]
          exact fit' (by omega)
        · intro b o e
          rw [upd_ne (ne_of_none e hD)]
          exact sm6 _ _ e
        · rw [upd_same]
          unfold vl
          rw [List.map_append, List.map_append]
          rfl
        · rw [List.length_append, hl]
          rfl
        · intro c hc'
          rcases List.mem_append.mp hc' with h | h
          · exact hc c h
          · rw [List.mem_singleton.mp h, List.getD_eq_getElem?_getD, List.getElem?_eq_getElem hj]
            exact menu_ok _ _ (List.getElem_mem hj)
      · rintro H3 ⟨cs, sm6, sm, eD, hl, hc⟩
        rw [List.length_map] at hl
        refine ⟨"", D, cs.map one, rfl, rfl, .inl (SqL.of eD), join_rt_fits (by omega), ?_⟩
        rw [join_rt]
        exact q H3 cs sm ⟨by omega, by omega, hc⟩
    · refine ⟨.int c, rfl, .int 12, rfl, _, _, rfl, rfl, (by show 2 ≤ sizeLine; decide), fun l1 n1 => ⟨(by show 1 ≤ sizeLine; decide), fun l2 n2 => ?_⟩⟩
      refine ⟨.int 12, rfl, l2, 12, [.int 3], rfl, rfl, upd_same, by decide, by decide, (by show 1 * 12 ≤ sizeLine; decide), fun l3 n3 => ?_⟩
      have m2 := (same_upd n1).free n2
      have nl12 : l1 ≠ l2 := fun e => by
        rw [← e, upd_same] at n2
        cases n2
      have s2 := same_new (o := .lst [.int 3]) m2 (same_upd (o := .lst [.int (12 - 1), .int 4]) n1)
      have m3 := s2.free n3
      have nl13 : l1 ≠ l3 := fun e => by
        rw [← e, upd_ne nl12, upd_same] at n3
        cases n3
      refine ⟨l1, l3, [.int (12 - 1), .int 4], _, rfl, rfl, ?_, upd_same, (by show 2 + 12 ≤ sizeLine; decide), fun l4 n4 => ?_⟩
      · rw [upd_ne nl13, upd_ne nl12, upd_same]
      have s3 := same_new (o := .lst (List.replicate (12 : Int).toNat [V.int 3]).flatten) m3 s2
      have m4 := s3.free n4
      refine ⟨c, l4, [11, 4] ++ List.replicate 12 3, rfl, SqL.of upd_same, sizes14, by decide, fun H1 p s4 np ep => ?_⟩
      have sH1 : Same H H1 := (same_new m4 s3).trans s4
      generalize hds : draws c 0 ([11, 4] ++ List.replicate 12 3) = ds at ep
      have hlen : ds.length = 14 := by
        rw [← hds, draws_len]
        rfl
      have hok : ∀ (i : Nat) (x z : Int), ds[i]? = some x → ([11, 4] ++ List.replicate 12 3 : List Int)[i]? = some z → 0 ≤ x ∧ x < z := by
        rw [← hds]
        exact draws_ok _ c 0 (fun z hz => (sizes14 z hz).1)
      obtain ⟨d0, e0⟩ : ∃ x, ds[0]? = some x := ⟨ds[0], List.getElem?_eq_getElem (by omega)⟩
      obtain ⟨d1, e1⟩ : ∃ x, ds[1]? = some x := ⟨ds[1], List.getElem?_eq_getElem (by omega)⟩
      have b0 := hok 0 d0 11 e0 rfl
      have b1 := hok 1 d1 4 e1 rfl
      obtain ⟨m, rfl⟩ : ∃ m : Nat, d0 = (m : Int) := ⟨d0.toNat, by omega⟩
      have hcs : ∀ x ∈ (ds.drop 2).take (m + 2), 0 ≤ x ∧ x < 3 := fun x hx => by
        obtain ⟨j, hj⟩ := List.getElem?_of_mem (List.mem_of_mem_take hx)
        rw [List.getElem?_drop] at hj
        have hj2 : 2 + j < ds.length := (List.getElem?_eq_some_iff.mp hj).1
        refine hok (2 + j) x 3 hj ?_
        rw [List.getElem?_append_right (by show 2 ≤ 2 + j; omega), List.getElem?_replicate]
        show (if 2 + j - 2 < 12 then some (3 : Int) else none) = some 3
        rw [if_pos (by omega)]
      have hcl : ((ds.drop 2).take (m + 2)).length = m + 2 := by
        rw [List.length_take, List.length_drop, hlen]
        omega
      generalize hcd : (ds.drop 2).take (m + 2) = xs at hcs hcl
      have ecut : cutV (ds.map V.int) (some 2) (some (4 + (m : Int))) = xs.map V.int := by
        unfold cutV
        rw [show (some (2 : Int)) = some ((2 : Nat) : Int) from rfl, show (4 + (m : Int)) = ((4 + m : Nat) : Int) by omega, HT.sIx_nat, HT.sIx_nat, List.length_map, hlen, ← hcd, List.map_take, List.map_drop]
        have i1 : min 2 14 = 2 := by omega
        have i2 : min (4 + m) 14 - 2 = m + 2 := by omega
        rw [i1, i2]
      have g1 : atI (ds.map V.int) 1 = some (.int d1) := atI_nat (j := 1) (by rw [List.getElem?_map, e1]; rfl)
      have g0 : atI (ds.map V.int) 0 = some (.int (m : Int)) := atI_nat (j := 0) (by rw [List.getElem?_map, e0]; rfl)
      -- the menus
      refine ⟨(by show 3 ≤ sizeLine; decide), fun p1 np1 => ⟨(by show 3 ≤ sizeLine; decide), fun p2 np2 => ⟨(by show 3 ≤ sizeLine; decide), fun p3 np3 => ⟨(by show 3 ≤ sizeLine; decide), fun p4 np4 => ⟨(by show 4 ≤ sizeLine; decide), fun p5 np5 => ?_⟩⟩⟩⟩⟩
      have u1 := same_upd (o := .lst [.str "a", .str "b", .str "."]) np1
      have w1 : upd H1 p1 (.lst [.str "a", .str "b", .str "."]) p1 = some (.lst [.str "a", .str "b", .str "."]) := upd_same
      generalize upd H1 p1 (.lst [.str "a", .str "b", .str "."]) = J1 at *
      have u2 := same_upd (o := .lst [.str "a", .str "b", .str "."]) np2
      have w2 : upd J1 p2 (.lst [.str "a", .str "b", .str "."]) p2 = some (.lst [.str "a", .str "b", .str "."]) := upd_same
      generalize upd J1 p2 (.lst [.str "a", .str "b", .str "."]) = J2 at *
      have u3 := same_upd (o := .lst [.str "a", .str ".", .str "."]) np3
      have w3 : upd J2 p3 (.lst [.str "a", .str ".", .str "."]) p3 = some (.lst [.str "a", .str ".", .str "."]) := upd_same
      generalize upd J2 p3 (.lst [.str "a", .str ".", .str "."]) = J3 at *
      have u4 := same_upd (o := .lst [.str "b", .str "a", .str "a"]) np4
      have w4 : upd J3 p4 (.lst [.str "b", .str "a", .str "a"]) p4 = some (.lst [.str "b", .str "a", .str "a"]) := upd_same
      generalize upd J3 p4 (.lst [.str "b", .str "a", .str "a"]) = J4 at *
      have u5 := same_upd (o := .lst [.ref p1, .ref p2, .ref p3, .ref p4]) np5
      have w5 : upd J4 p5 (.lst [.ref p1, .ref p2, .ref p3, .ref p4]) p5 = some (.lst [.ref p1, .ref p2, .ref p3, .ref p4]) := upd_same
      generalize upd J4 p5 (.lst [.ref p1, .ref p2, .ref p3, .ref p4]) = J5 at *
      have sJ : Same H1 J5 := (((u1.trans u2).trans u3).trans u4).trans u5
      have ep5 := sJ _ _ ep
      have v1 := (((u2.trans u3).trans u4).trans u5) _ _ w1
      have v2 := ((u3.trans u4).trans u5) _ _ w2
      have v3 := (u4.trans u5) _ _ w3
      have v4 := u5 _ _ w4
      have ta : ("a" : Str) = one 97 := by decide +kernel
      have tb : ("b" : Str) = one 98 := by decide +kernel
      have tf : ("." : Str) = one 46 := by decide +kernel
      rw [ta, tb, tf] at v1 v2
      rw [ta, tf] at v3
      rw [ta, tb] at v4
      obtain ⟨pm, hpm, em⟩ : ∃ pm, atI [V.ref p1, .ref p2, .ref p3, .ref p4] d1 = some (.ref pm) ∧ J5 pm = some (.lst (vl (menu d1.toNat))) := by
        rcases (show d1 = 0 ∨ d1 = 1 ∨ d1 = 2 ∨ d1 = 3 by omega) with rfl | rfl | rfl | rfl
        · exact ⟨p1, rfl, v1⟩
        · exact ⟨p2, rfl, v2⟩
        · exact ⟨p3, rfl, v3⟩
        · exact ⟨p4, rfl, v4⟩
      refine ⟨.ref p, rfl, p, _, _, _, rfl, rfl, SqL.of ep5, g1, p5, _, _, .ref pm, rfl, rfl, SqL.of w5, hpm, ?_⟩
      refine ⟨⟨_, rfl⟩, ?_⟩
      refine ⟨.ref p, rfl, 2, rfl, .ref p, rfl, p, _, _, _, rfl, rfl, SqL.of ep5, g0, _, _, rfl, rfl, _, rfl, p, _, rfl, SqL.of ep5, fun l5 n5 => ?_⟩
      rw [ecut]
      have s5 := same_upd (o := .lst (xs.map V.int)) n5
      have e5 : upd J5 l5 (.lst (xs.map V.int)) l5 = some (.lst (xs.map V.int)) := upd_same
      generalize upd J5 l5 (.lst (xs.map V.int)) = J6 at *
      have em6 := s5 _ _ em
      have sH6 : Same H J6 := (sH1.trans sJ).trans s5
      refine ⟨l5, rfl, ⟨_, SqL.of e5⟩, fun D hD => ?_⟩
      have hD0 := sH6.free hD
      refine lc_list (K := K) (a := l5) (xs := xs.map V.int) (fun i H3 => ∃ cs : List Nat, Same J6 H3 ∧ Same H H3 ∧ H3 D = some (.lst (vl cs)) ∧ cs.length = i ∧ ∀ c ∈ cs, c ∈ [97, 98, 46]) ⟨[], same_upd hD, same_new hD0 sH6, upd_same, rfl, by simp⟩ (fun i H3 _ ⟨_, h, _⟩ => SqL.of (h _ _ e5)) ?_ ?_
      · rintro i x H3 hx ⟨cs, sm6, sm, eD, hl, hc⟩
        rw [List.getElem?_map] at hx
        obtain ⟨u, hu, rfl⟩ := Option.map_eq_some_iff.mp hx
        have hb := hcs u (List.mem_of_getElem? hu)
        have hi : i < xs.length := (List.getElem?_eq_some_iff.mp hu).1
        obtain ⟨j, rfl⟩ : ∃ j : Nat, u = (j : Int) := ⟨u.toNat, by omega⟩
        have hj : j < (menu d1.toNat).length := by
          rw [menu_len]
          omega
        refine ⟨rfl, .ref pm, rfl, .int (j : Int), rfl, pm, _, _, _, rfl, rfl, SqL.of (sm6 _ _ em6), vl_at hj, _, eD, ?_, cs ++ [(menu d1.toNat).getD j 0], ?_, same_new hD0 sm, ?_, ?_, ?_⟩
        · rw [vl_len]
          exact fit' (by omega)
        · intro b o e
          rw [upd_ne (ne_of_none e hD)]
          exact sm6 _ _ e
        · rw [upd_same]
          unfold vl
          rw [List.map_append, List.map_append]
          rfl
        · rw [List.length_append, hl]
          rfl
        · intro c hc'
          rcases List.mem_append.mp hc' with h | h
          · exact hc c h
          · rw [List.mem_singleton.mp h, List.getD_eq_getElem?_getD, List.getElem?_eq_getElem hj]
            exact menu_ok _ _ (List.getElem_mem hj)
      · rintro H3 ⟨cs, sm6, sm, eD, hl, hc⟩
        rw [List.length_map] at hl
        refine ⟨"", D, cs.map one, rfl, rfl, .inl (SqL.of eD), join_rt_fits (by omega), ?_⟩
        rw [join_rt]
        exact q H3 cs sm ⟨by omega, by omega, hc⟩
end
end Hop

set_option Elab.async false
set_option linter.all false
set_option maxRecDepth 100000
namespace Hop
open PySem L2 HopR
section
variable {P : Program} {w : World} {K : PySem.W.Frag} {mg : Str → Option Value} {base : Heap} {d : Addr} {es : Array DictEntry} {n : Nat}
/-! ### choices, _law_choose -/
theorem ch_int {m t : Nat} (h : t ≤ m) : (((chs m t : Nat) : Int) * ((m : Int) - (t : Int))) / ((t : Int) + 1) = ((chs m (t + 1) : Nat) : Int) := by
  have e := chs_step m t h
  have e2 : ((chs m t : Nat) : Int) * ((m : Int) - (t : Int)) = ((chs m (t + 1) : Nat) : Int) * ((t : Int) + 1) := by
    rw [show (m : Int) - (t : Int) = ((m - t : Nat) : Int) by omega, show (t : Int) + 1 = ((t + 1 : Nat) : Int) by omega, ← Int.natCast_mul, ← Int.natCast_mul, Nat.mul_comm (chs m t), ← e, Nat.mul_comm]
  rw [e2, Int.mul_ediv_cancel _ (by omega)]
def spChoices : Sp := fun vs H Q _ => ∃ m t : Nat, vs = [.int (m : Int), .int (t : Int)] ∧ t ≤ m ∧ m ≤ 12 ∧ Q (.int ((chs m t : Nat) : Int)) H
theorem chs_small {m t : Nat} (h : m ≤ 12) : chs m t ≤ 4096 := Nat.le_trans (chs_le m t) (Nat.pow_le_pow_right (by decide) h)
theorem scChoices : FnScope ["many", "some", "result", "turn"] ["many", "some"] (defScope sChoices) := ⟨rfl, rfl, rfl, by decide +kernel, rfl, by decide +kernel, by decide +kernel⟩
theorem ok_choices {f : Addr} {fd : FuncData} {k : Nat} (F : Fun K "choices" "choices" sChoices f fd) (T : Txt K w mg d es n) : FnOk P w K mg base CX0 (k + 1) f fd ["many", "some"] spChoices := by
  refine F.ok scChoices (fun vs H Q E h => ?_) (fun cdv A outer s H vs Q E hr h => ?_)
  · obtain ⟨m, t, rfl, _⟩ := h
    rfl
  · obtain ⟨m, t, rfl, ht, hm, q⟩ := h
    have nd := scChoices.nd
    refine ⟨_, pss_cons (ps_set (i := 2) nd rfl (.inl rfl) pe_int)
      (pss_cons (ps_for PassesOwn.never rfl (pi_range1 (by rfl) T.range (pa_cons (pv 1) pa_nil)) (pg_name (i := 3) nd rfl (.inl rfl)) (pss_one (ps_set (i := 2) nd rfl (.inl rfl) (pe_op op_fdiv (pe_op op_mul (pv 2) (pe_op op_sub (pv 0) (pv 3))) (pe_op op_add (pv 3) pe_int)))))
      (pss_one (ps_ret (pv 2)))), ?_⟩
    refine ⟨.int _, rfl, _, rfl, by omega, by omega, ?_⟩
    rw [Int.toNat_natCast]
    refine for_range (lo := 0) (n := t) (fun i σ H1 => ∃ y3, σ = [some (.int (m : Int)), some (.int (t : Int)), some (.int ((chs m i : Nat) : Int)), y3] ∧ H1 = H) ⟨_, by rw [chs_zero]; rfl, rfl⟩ ?_ ?_
    · rintro i σ H1 hi ⟨y3, rfl, rfl⟩
      rw [Int.zero_add]
      have hs := chs_small (t := i) hm
      refine ⟨.int _, rfl, .int _, rfl, .int _, rfl, _, _, rfl, rfl, _, _, rfl, rfl, .inl ⟨by omega, by omega⟩, .int _, rfl, _, _, rfl, rfl, _, _, rfl, rfl, ⟨by omega, by omega⟩, some (.int (i : Int)), ?_, rfl⟩
      rw [← ch_int (show i ≤ m by omega)]
      rfl
    · rintro σ H1 ⟨y3, rfl, rfl⟩
      exact ⟨_, rfl, q⟩
/-! ### with_upper, past -/
theorem wup_len (v : List Nat) : (wup v).length = v.length + 1 := by
  unfold wup
  rw [List.length_zipWith, List.length_append, List.length_cons]
  show min (v.length + 1) (v.length + 1) = v.length + 1
  omega
def spWup : Sp := fun vs H Q _ => ∃ (a : Addr) (v : List Nat), vs = [.ref a] ∧ H a = some (.lst (v.map wv)) ∧ v.length ≤ 100 ∧ ∀ H' p, Same H H' → H p = none → H' p = some (.lst ((wup v).map wv)) → Q (.ref p) H'
abbrev nWup : List Str := ["waiting", "one", "other"]
theorem scWup : FnScope nWup ["waiting"] (defScope sWup) := ⟨rfl, rfl, rfl, by decide +kernel, rfl, by decide +kernel, by decide +kernel⟩
theorem ok_wup {f : Addr} {fd : FuncData} {k : Nat} (F : Fun K "with_upper" "with_upper" sWup f fd) (T : Txt K w mg d es n) : FnOk P w K mg base CX0 (k + 1) f fd ["waiting"] spWup := by
  refine F.ok scWup (fun vs H Q E h => ?_) (fun cdv A outer s H vs Q E hr h => ?_)
  · obtain ⟨a, v, rfl, _⟩ := h
    rfl
  · obtain ⟨a, v, rfl, ea, hl, q⟩ := h
    have nd := scWup.nd
    refine ⟨_, pss_one (ps_ret (pe_lc (own := [("one", 1), ("other", 2)]) (g := gTup K 2 (gCons (gName 1) (gCons (gName 2) gNil))) (tt := tYes) rfl nd (pi_zip (by rfl) T.zip (pa_cons (pe_op op_cat (pv 0) (pe_lst (pa_cons pe_int pa_nil))) (pa_cons (pe_op op_cat (pe_lst (pa_cons pe_int pa_nil)) (pv 0)) pa_nil)))
      (blkOk_by (own := [("one", 1), ("other", 2)]) (N := nWup) (sc := defScope sWup) (by decide +kernel))
      (fun _ _ _ _ _ => pg_tup (by rfl) (pgs_cons (pg_name (i := 1) nd rfl (.inl rfl)) (pgs_cons (pg_name (i := 2) nd rfl (.inl rfl)) pgs_nil))) (fun _ _ _ _ _ => pts_nil) (fun _ _ _ _ _ => pe_op op_add (pv 1) (pv 2)))), ?_⟩
    refine ⟨.ref a, rfl, (by show 1 ≤ sizeLine; decide), fun l1 n1 => ?_⟩
    have t1 := same_upd (o := .lst [.int 0]) n1
    have e1 : upd H l1 (.lst [.int 0]) l1 = some (.lst [.int 0]) := upd_same
    generalize upd H l1 (.lst [.int 0]) = H1 at t1 e1
    refine ⟨a, l1, v.map wv, [.int 0], rfl, rfl, t1 _ _ ea, e1, by rw [List.length_map]; exact fit (by show v.length + 1 ≤ _; omega), fun l2 n2 => ?_⟩
    have c2 : v.map wv ++ [V.int 0] = (v ++ [0]).map wv := by rw [List.map_append]; rfl
    rw [c2]
    have t2 := same_upd (o := .lst ((v ++ [0]).map wv)) n2
    have e2 : upd H1 l2 (.lst ((v ++ [0]).map wv)) l2 = some (.lst ((v ++ [0]).map wv)) := upd_same
    generalize upd H1 l2 (.lst ((v ++ [0]).map wv)) = H2 at t2 e2
    refine ⟨(by show 1 ≤ sizeLine; decide), fun l3 n3 => ?_⟩
    have t3 := same_upd (o := .lst [.int 0]) n3
    have e3 : upd H2 l3 (.lst [.int 0]) l3 = some (.lst [.int 0]) := upd_same
    generalize upd H2 l3 (.lst [.int 0]) = H3 at t3 e3
    refine ⟨.ref a, rfl, l3, a, [.int 0], v.map wv, rfl, rfl, e3, t3 _ _ (t2 _ _ (t1 _ _ ea)), by rw [List.length_map]; exact fit (by show 1 + v.length ≤ _; omega), fun l4 n4 => ?_⟩
    have c4 : [V.int 0] ++ v.map wv = (0 :: v).map wv := rfl
    rw [c4]
    have t4 := same_upd (o := .lst ((0 :: v).map wv)) n4
    have e4 : upd H3 l4 (.lst ((0 :: v).map wv)) l4 = some (.lst ((0 :: v).map wv)) := upd_same
    generalize upd H3 l4 (.lst ((0 :: v).map wv)) = H4 at t4 e4
    have e24 := t4 _ _ (t3 _ _ e2)
    have s04 : Same H H4 := (t1.trans t2).trans (t3.trans t4)
    refine ⟨l2, l4, _, _, rfl, SqL.of e24, SqL.of e4, fun D hD => ?_⟩
    refine lc_it (walk_zip (K := K) (a := l2) (b := l4) (xs := (v ++ [0]).map wv) (ys := (0 :: v).map wv) (n := v.length + 1) (by rw [List.length_map, List.length_map, List.length_append]; show v.length + 1 = min (v.length + 1) (v.length + 1); omega))
      (fun i H5 => Same H4 H5 ∧ H5 D = some (.lst (((wup v).take i).map wv))) ⟨same_upd hD, upd_same⟩ (fun i H5 _ h => ⟨SqL.of (h.1 _ _ e24), SqL.of (h.1 _ _ e4)⟩) ?_ ?_
    · rintro i x H5 H6 hi ⟨sm, eD⟩ ⟨t, x1, x2, rfl, nt, rfl, hx1, hx2⟩
      have hx1 : ((v ++ [0]).map wv)[i]? = some x1 := hx1
      have hx2 : ((0 :: v).map wv)[i]? = some x2 := hx2
      rw [List.getElem?_map] at hx1 hx2
      obtain ⟨k1, hk1, rfl⟩ := Option.map_eq_some_iff.mp hx1
      obtain ⟨k2, hk2, rfl⟩ := Option.map_eq_some_iff.mp hx2
      have hw : (wup v)[i]? = some (k1 + k2) := by
        unfold wup
        rw [List.getElem?_zipWith, hk1, hk2]
      have nDt : D ≠ t := ne_of_none eD nt
      refine ⟨t, _, rfl, SqT.of upd_same, rfl, _, _, rfl, _, _, rfl, rfl, rfl, .int (k1 : Int), rfl, .int (k2 : Int), rfl, _, _, rfl, rfl, _, (by rw [upd_ne nDt]; exact eD), ?_, ?_, ?_⟩
      · rw [List.length_map]
        exact fit' (Nat.le_trans (List.length_take_le _ _) (by omega))
      · exact same_new hD (same_new (sm.free nt) sm)
      · rw [upd_same, List.take_add_one, hw, List.map_append]
        show _ = some (HO.lst (_ ++ [wv (k1 + k2)]))
        unfold wv
        rw [Int.natCast_add]
    · rintro H5 ⟨sm, eD⟩
      rw [List.take_of_length_le (by rw [wup_len]; exact Nat.le_refl _)] at eD
      exact q H5 D (s04.trans sm) (s04.free hD) eD
end
end Hop

set_option Elab.async false
set_option linter.all false
set_option maxRecDepth 100000
namespace Hop
open PySem L2 HopR
theorem is_b (c : Nat) : decide (V.str (one c) = V.str "b") = decide (c = 98) := by
  rw [sgn_b]
  by_cases h : c = 98
  · rw [h, decide_eq_true rfl, decide_eq_true rfl]
  · rw [decide_eq_false h, decide_eq_false fun q => h (one_inj (V.str.inj q))]
theorem is_a (c : Nat) : decide (V.str (one c) = V.str "a") = decide (c = 97) := by
  rw [sgn_a]
  by_cases h : c = 97
  · rw [h, decide_eq_true rfl, decide_eq_true rfl]
  · rw [decide_eq_false h, decide_eq_false fun q => h (one_inj (V.str.inj q))]
theorem past_len (v : List Nat) (c : Nat) : (past v c).length ≤ v.length + 1 := by
  unfold past
  split
  · rw [List.length_take]; omega
  · split
    · rw [List.length_drop, wup_len]; omega
    · rw [wup_len]; exact Nat.le_refl _
theorem wt_len : ∀ cs : List Nat, (wt cs).length ≤ cs.length + 1
  | [] => Nat.le_refl _
  | c :: cs => by
    have h1 := past_len (wt cs) c
    have h2 := wt_len cs
    show (past (wt cs) c).length ≤ cs.length + 1 + 1
    omega
theorem cut_to1 (v : List Nat) : cutV (v.map wv) none (some 1) = (v.take 1).map wv := by
  unfold cutV
  rw [show (some (1 : Int)) = some ((1 : Nat) : Int) from rfl, HT.sIx_nat, List.length_map, List.map_take]
  show ((v.map wv).drop 0).take (min 1 v.length - 0) = _
  rw [List.drop_zero, Nat.sub_zero]
  rcases v with _ | ⟨a, r⟩
  · rfl
  · rw [show min 1 (a :: r).length = 1 by show min 1 (r.length + 1) = 1; omega]
theorem cut_from1 (v : List Nat) : cutV (v.map wv) (some 1) none = (v.drop 1).map wv := by
  unfold cutV
  rw [show (some (1 : Int)) = some ((1 : Nat) : Int) from rfl, HT.sIx_nat, List.length_map, List.map_drop]
  show ((v.map wv).drop (min 1 v.length)).take (v.length - min 1 v.length) = _
  rcases v with _ | ⟨a, r⟩
  · rfl
  · rw [show min 1 (a :: r).length = 1 by show min 1 (r.length + 1) = 1; omega, List.take_of_length_le (by rw [List.length_drop, List.length_map]; exact Nat.le_refl _)]
section
variable {P : Program} {w : World} {K : PySem.W.Frag} {mg : Str → Option Value} {base : Heap} {d : Addr} {es : Array DictEntry} {n : Nat}
/-! ### past -/
def spPast : Sp := fun vs H Q _ => ∃ (a : Addr) (v : List Nat) (c : Nat), vs = [.ref a, .str (one c)] ∧ H a = some (.lst (v.map wv)) ∧ v.length ≤ 99 ∧ ∀ H' p, Same H H' → H p = none → H' p = some (.lst ((past v c).map wv)) → Q (.ref p) H'
theorem scPast : FnScope ["waiting", "sign", "beads"] ["waiting", "sign"] (defScope sPast) := ⟨rfl, rfl, rfl, by decide +kernel, rfl, by decide +kernel, by decide +kernel⟩
theorem ok_past {f f1 : Addr} {fd fd1 : FuncData} {k : Nat} (F : Fun K "past" "past" sPast f fd) (N1 : Fn K mg "with_upper" sWup ["waiting"] f1 fd1) (T : Txt K w mg d es n) : FnOk P w K mg base CX0 (k + 2) f fd ["waiting", "sign"] spPast := by
  have G1 : FnOk P w K mg base CX0 (k + 1) f1 fd1 ["waiting"] spWup := ok_wup N1.F T
  refine F.ok scPast (fun vs H Q E h => ?_) (fun cdv A outer s H vs Q E hr h => ?_)
  · obtain ⟨a, v, c, rfl, _⟩ := h
    rfl
  · obtain ⟨a, v, c, rfl, ea, hl, q⟩ := h
    have nd := scPast.nd
    obtain ⟨ta, ga⟩ := T.first
    obtain ⟨ts, gs⟩ := T.second
    refine ⟨_, pss_cons (ps_if (pt_cmpR op_eq (pv 1) (pe_glob (v := .str "b") (by rfl) gs ⟨_, rfl⟩) (nomark _)) (pss_one (ps_ret (pe_slice sl_list (pv 0) po_none (po_some pe_int)))) pss_nil)
      (pss_cons (ps_set (i := 2) nd rfl (.inl rfl) (pe_call G1 hr (by rfl) N1.g N1.F.kp N1.b .nil pass0 (pa_cons (pv 0) pa_nil)))
      (pss_one (ps_ret (pe_ifExp (pt_cmpR op_eq (pv 1) (pe_glob (v := .str "a") (by rfl) ga ⟨_, rfl⟩) (nomark _)) (pe_slice sl_list (pv 2) (po_some pe_int) po_none) (pv 2))))), ?_⟩
    refine ⟨.str (one c), rfl, rfl, _, rfl, ?_⟩
    rw [is_b]
    unfold past at q
    by_cases hb : c = 98
    · rw [decide_eq_true hb]
      simp only [if_pos hb] at q
      refine iteT ⟨.ref a, rfl, 1, rfl, a, _, rfl, SqL.of ea, fun p np => ?_⟩
      rw [cut_to1]
      exact q _ p (same_upd np) np upd_same
    · rw [decide_eq_false hb]
      simp only [if_neg hb] at q
      refine iteF ⟨.ref a, rfl, a, v, rfl, ea, by omega, fun H1 p1 s1 n1 e1 => ?_⟩
      refine ⟨.str (one c), rfl, rfl, _, rfl, ?_⟩
      rw [is_a]
      by_cases ha : c = 97
      · rw [decide_eq_true ha]
        simp only [if_pos ha] at q
        refine iteT ⟨.ref p1, rfl, 1, rfl, p1, _, rfl, SqL.of e1, fun p np => ?_⟩
        rw [cut_from1]
        exact q _ p (same_new (s1.free np) s1) (s1.free np) upd_same
      · rw [decide_eq_false ha]
        simp only [if_neg ha] at q
        exact iteF ⟨.ref p1, rfl, q H1 p1 s1 n1 e1⟩
/-! ### uppers_many -/
theorem idx_at {cs : List Nat} {c : Nat} (h : c ∈ cs) : ∃ rest, PySem.Builtin.Str.occurrences (rt cs) (one c) 0 (rt cs).length 1 = cs.idxOf c :: rest := by
  have hm : c ∈ (rt cs).cps.toList := by rw [rt_list]; exact h
  rcases PySem.StrLaws.occ_head (rt cs) (one c) 1 (Nat.le_refl 1) with ⟨_, hn⟩ | ⟨i, r, h0, hi, hn⟩
  · obtain ⟨j, hj⟩ := List.getElem?_of_mem hm
    exact absurd ((PySem.StrLaws.subAt_one (rt cs) c j).mpr hj) (hn j)
  · refine ⟨r, ?_⟩
    rw [h0]
    congr 1
    have h1 := (PySem.StrLaws.subAt_one (rt cs) c i).mp hi
    rw [rt_list] at h1
    have hlt : cs.idxOf c < cs.length := List.idxOf_lt_length_iff.mpr h
    have h2 : cs[cs.idxOf c]? = some c := by rw [List.getElem?_eq_getElem hlt, List.getElem_idxOf hlt]
    have h3 : ∀ j, j < i → cs[j]? ≠ some c := fun j hj z => hn j hj ((PySem.StrLaws.subAt_one (rt cs) c j).mpr (by rw [rt_list]; exact z))
    rcases Nat.lt_trichotomy i (cs.idxOf c) with hlt' | he | hgt
    · have := List.not_of_lt_findIdx (p := (· == c)) (xs := cs) (i := i) hlt'
      obtain ⟨hil, e⟩ := List.getElem?_eq_some_iff.mp h1
      rw [e] at this
      simp at this
    · exact he
    · exact absurd h2 (h3 _ hgt)
def spUpp : Sp := fun vs H Q _ => ∃ cs, vs = [.str (rt cs)] ∧ Rg cs ∧ ∀ H', Same H H' → Q (.int ((um cs : Nat) : Int)) H'
theorem scUpp : FnScope ["ring", "start", "waiting", "sign"] ["ring"] (defScope sUppers) := ⟨rfl, rfl, rfl, by decide +kernel, rfl, by decide +kernel, by decide +kernel⟩
theorem ok_uppers {f f1 f2 f3 : Addr} {fd fd1 fd2 fd3 : FuncData} {k : Nat} (F : Fun K "uppers_many" "uppers_many" sUppers f fd) (N1 : Fn K mg "with_upper" sWup ["waiting"] f1 fd1) (N2 : Fn K mg "past" sPast ["waiting", "sign"] f2 fd2) (N3 : Fn K mg "choices" sChoices ["many", "some"] f3 fd3) (T : Txt K w mg d es n) :
    FnOk P w K mg base CX0 (k + 3) f fd ["ring"] spUpp := by
  have G2 : FnOk P w K mg base CX0 (k + 2) f2 fd2 ["waiting", "sign"] spPast := ok_past N2.F N1 T
  have G3 : FnOk P w K mg base CX0 (k + 2) f3 fd3 ["many", "some"] spChoices := ok_choices N3.F T
  refine F.ok scUpp (fun vs H Q E h => ?_) (fun cdv A outer s H vs Q E hr h => ?_)
  · obtain ⟨cs, rfl, _⟩ := h
    rfl
  · obtain ⟨cs, rfl, hR, q⟩ := h
    have nd := scUpp.nd
    obtain ⟨ta, ga⟩ := T.first
    obtain ⟨ts, gs⟩ := T.second
    refine ⟨_, pss_cons (ps_if (pt_cmpR op_notIn_str (pe_glob (v := .str "b") (by rfl) gs ⟨_, rfl⟩) (pv 0) (by rfl)) (pss_one (ps_ret (pe_call G3 hr (by rfl) N3.g N3.F.kp N3.b .nil pass0 (pa_cons (pe_callB call_len_str (by rfl) T.len PySem.boot_len (pa_cons (pv 0) pa_nil)) (pa_cons (pe_bm PySem.F.plainAttrs_str PySem.F.slot_str_count PySem.F.type_str_count mt_count (pv 0) (pa_cons (pe_glob (v := .str "a") (by rfl) ga ⟨_, rfl⟩) pa_nil)) pa_nil))))) pss_nil)
      (pss_cons (ps_set (i := 1) nd rfl (.inl rfl) (pe_bm PySem.F.plainAttrs_str PySem.F.slot_str_index PySem.F.type_str_index mt_sindex (pv 0) (pa_cons (pe_glob (v := .str "b") (by rfl) gs ⟨_, rfl⟩) pa_nil)))
      (pss_cons (ps_set (i := 2) nd rfl (.inl rfl) (pe_lst (pa_cons pe_int pa_nil)))
      (pss_cons (ps_for PassesOwn.never rfl (pi_revS (by rfl) T.reversed (pe_op op_add_str (pe_slice sl_str (pv 0) (po_some (pv 1)) po_none) (pe_slice sl_str (pv 0) po_none (po_some (pv 1))))) (pg_name (i := 3) nd rfl (.inl rfl)) (pss_one (ps_set (i := 2) nd rfl (.inl rfl) (pe_call G2 hr (by rfl) N2.g N2.F.kp N2.b .nil pass0 (pa_cons (pv 2) (pa_cons (pv 3) pa_nil))))))
      (pss_one (ps_ret (pe_ix ix_list (pv 2) pe_int (fun _ _ => rfl))))))), ?_⟩
    have hlo := hR.lo
    have hhi := hR.hi
    have wr : (rt cs).length ≤ sizeLine := rt_fit (by omega)
    have hin : (!(PySem.Builtin.Str.occurrences (rt cs) (one 98) 0 (rt cs).length 1).isEmpty) = decide (98 ∈ cs) := by
      have := PySem.StrLaws.found_one (rt cs) 98
      rw [rt_list] at this
      exact this
    refine ⟨.str (rt cs), rfl, "b", rt cs, rfl, rfl, _, rfl, ?_⟩
    rw [sgn_b, hin]
    unfold um at q
    by_cases hb : 98 ∈ cs
    · rw [decide_eq_true hb]
      simp only [if_pos hb] at q
      obtain ⟨rest, hocc⟩ := idx_at hb
      have hil : cs.idxOf 98 < cs.length := List.idxOf_lt_length_iff.mpr hb
      generalize cs.idxOf 98 = j at q hocc hil
      refine iteF ⟨.str (rt cs), rfl, rfl, rt cs, one 98, j, rest, rfl, rfl, hocc, (by show 1 ≤ sizeLine; decide), fun o no => ?_⟩
      have t1 := same_upd (o := .lst [.int 1]) no
      have e1 : upd H o (.lst [.int 1]) o = some (.lst (([1] : List Nat).map wv)) := upd_same
      generalize upd H o (.lst [.int 1]) = H1 at t1 e1
      refine ⟨.str (rt cs), rfl, .int (j : Int), rfl, _, rfl, rt cs, rfl, wr, ?_⟩
      rw [cut_rt_from]
      refine ⟨.str (rt cs), rfl, .int (j : Int), rfl, _, rfl, rt cs, rfl, wr, ?_⟩
      rw [cut_rt_to]
      refine ⟨_, _, rfl, rfl, ?_, ?_⟩
      · rw [rt_len, rt_len, List.length_drop, List.length_take]
        exact fit (by omega)
      rw [show rt (cs.drop j) ++ rt (cs.take j) = rt (rot j cs) from rt_app _ _]
      have hrl : (rot j cs).length = cs.length := rot_len (Nat.le_of_lt hil)
      generalize rot j cs = ds at q hrl
      have dl : (rt ds).cps.size = ds.length := rt_len ds
      refine ⟨rt ds, rfl, rt_fit (by omega), ?_⟩
      refine for_it walk_revS (fun i σ H2 => ∃ (y3 : Option V) (p : Addr), σ = [some (.str (rt cs)), some (.int (j : Int)), some (.ref p), y3] ∧ Same H H2 ∧ H2 p = some (.lst ((wt (ds.drop (ds.length - i))).map wv))) ⟨_, o, rfl, t1, by rw [Nat.sub_zero, List.drop_length]; exact e1⟩ (fun _ _ _ _ _ => trivial) ?_ ?_
      · rintro i x σ H2 H3 hi ⟨y3, p, rfl, s2, e2⟩ ⟨rfl, c, hc, rfl⟩
        rw [dl] at hi
        rw [← Array.getElem?_toList, rt_list, dl] at hc
        obtain ⟨hcl, ec⟩ := List.getElem?_eq_some_iff.mp hc
        have ed : ds.drop (ds.length - (i + 1)) = c :: ds.drop (ds.length - i) := by
          rw [show ds.length - (i + 1) = ds.length - 1 - i by omega, List.drop_eq_getElem_cons hcl, ec, show ds.length - 1 - i + 1 = ds.length - i by omega]
        have hwl : (wt (ds.drop (ds.length - i))).length ≤ 99 := by
          have := wt_len (ds.drop (ds.length - i))
          rw [List.length_drop] at this
          omega
        refine ⟨.ref p, rfl, .str (one c), rfl, p, _, c, rfl, e2, hwl, fun H4 p4 s4 n4 e4 => ⟨_, p4, rfl, s2.trans s4, ?_⟩⟩
        rw [ed]
        exact e4
      · rintro σ H2 ⟨y3, p, rfl, s2, e2⟩
        rw [dl, Nat.sub_self, List.drop_zero] at e2
        have h1 := wt_pos ds
        have g0 : ((wt ds).map wv)[0]? = some (wv ((wt ds).getD 0 0)) := by
          rw [List.getElem?_map, List.getD_eq_getElem?_getD]
          rw [List.getD_eq_getElem?_getD] at h1
          cases h : (wt ds)[0]? with
          | none => rw [h] at h1; exact absurd h1 (by decide)
          | some x => rfl
        exact ⟨.ref p, rfl, p, _, 0, _, rfl, rfl, SqL.of e2, atI_nat (j := 0) g0, q H2 s2⟩
    · rw [decide_eq_false hb]
      simp only [if_neg hb] at q
      refine iteT ⟨.str (rt cs), rfl, rt cs, rfl, wr, .str (rt cs), rfl, rfl, rt cs, "a", rfl, rfl, ?_⟩
      rw [sgn_a, count_rt, rt_len]
      exact ⟨cs.length, cs.count 97, rfl, List.count_le_length, hhi, q H (Same.refl _)⟩
/-! ### need_ring -/
def spNeedR : Sp := fun vs H Q _ => ∃ cs, vs = [.str (rt cs)] ∧ Rg cs ∧ ∀ H', Same H H' → Q .non H'
theorem scNeedR : FnScope ["thing"] ["thing"] (defScope sNeedRing) := ⟨rfl, rfl, rfl, by decide +kernel, rfl, by decide +kernel, by decide +kernel⟩
theorem ok_needring {f f1 : Addr} {fd fd1 : FuncData} {k : Nat} (F : Fun K "need_ring" "need_ring" sNeedRing f fd) (N1 : Fn K mg "is_ring" sIsRing ["thing"] f1 fd1) (T : Txt K w mg d es n) : FnOk P w K mg base CX0 (k + 2) f fd ["thing"] spNeedR := by
  have G1 : FnOk P w K mg base CX0 (k + 1) f1 fd1 ["thing"] (spIsRing K) := ok_isring N1.F T
  refine F.ok scNeedR (fun vs H Q E h => ?_) (fun cdv A outer s H vs Q E hr h => ?_)
  · obtain ⟨cs, rfl, _⟩ := h
    rfl
  · obtain ⟨cs, rfl, hR, q⟩ := h
    refine ⟨_, pss_one (ps_if (pt_not (pt_val (pe_call G1 hr (by rfl) N1.g N1.F.kp N1.b .nil pass0 (pa_cons (pv 0) pa_nil)))) (pss_one ps_never) pss_nil), ?_⟩
    refine ⟨.str (rt cs), rfl, .str (rt cs), true, rfl, .inr ⟨rt cs, rfl, ?_, hR.isB.symm⟩, fun H1 s1 => ⟨true, rfl, iteF (q H1 s1)⟩⟩
    rw [rt_len]
    have := hR.hi
    omega
/-! ### ring_weight -/
theorem scWeight : FnScope ["ring"] ["ring"] (defScope sWeight) := ⟨rfl, rfl, rfl, by decide +kernel, rfl, by decide +kernel, by decide +kernel⟩
theorem ok_weight {f f0 f1 f2 f3 f4 f5 : Addr} {fd fd0 fd1 fd2 fd3 fd4 fd5 : FuncData} {k : Nat} (F : Fun K "ring_weight" "ring_weight" sWeight f fd) (N0 : Fn K mg "is_ring" sIsRing ["thing"] f0 fd0) (N5 : Fn K mg "need_ring" sNeedRing ["thing"] f5 fd5) (N1 : Fn K mg "with_upper" sWup ["waiting"] f1 fd1) (N2 : Fn K mg "past" sPast ["waiting", "sign"] f2 fd2) (N3 : Fn K mg "choices" sChoices ["many", "some"] f3 fd3)
    (N4 : Fn K mg "uppers_many" sUppers ["ring"] f4 fd4) (T : Txt K w mg d es n) : FnOk P w K mg base CX0 (k + 4) f fd ["ring"] spUpp := by
  have G5 : FnOk P w K mg base CX0 (k + 3) f5 fd5 ["thing"] spNeedR := ok_needring N5.F N0 T
  have G4 : FnOk P w K mg base CX0 (k + 3) f4 fd4 ["ring"] spUpp := ok_uppers N4.F N1 N2 N3 T
  refine F.ok scWeight (fun vs H Q E h => ?_) (fun cdv A outer s H vs Q E hr h => ?_)
  · obtain ⟨cs, rfl, _⟩ := h
    rfl
  · obtain ⟨cs, rfl, hR, q⟩ := h
    refine ⟨_, pss_cons (ps_expr (pe_call G5 hr (by rfl) N5.g N5.F.kp N5.b .nil pass0 (pa_cons (pv 0) pa_nil))) (pss_one (ps_ret (pe_call G4 hr (by rfl) N4.g N4.F.kp N4.b .nil pass0 (pa_cons (pv 0) pa_nil)))), ?_⟩
    exact ⟨.str (rt cs), rfl, cs, rfl, hR, fun H1 s1 => ⟨.str (rt cs), rfl, cs, rfl, hR, fun H2 s2 => q H2 (s1.trans s2)⟩⟩
end
end Hop

set_option Elab.async false
set_option linter.all false
set_option maxRecDepth 100000
namespace HopR
open PySem PySem.Spec PyProof.Rows L2
/-! ### walks that hand out new tuples -/
/-- n turns; at each a new tuple of items that Y tells -/
def ItTup (n : Nat) (Y : Nat → List V → Prop) : It :=
  ⟨fun i _ => i < n, fun i H v H' => ∃ T xs, v = .ref T ∧ H T = none ∧ H' = upd H T (.tup xs) ∧ Y i xs, fun i _ => n ≤ i⟩
theorem turn_tup {P : Program} {w : World} {K : PySem.W.Frag} {elts : List Expr} {kk : Nat} {tpos : Pos} {it : Addr} {fp wr : List Addr} {n : Nat} {Pt : Nat → Array Value → Prop} {St : Nat → Heap → Prop} {Mid : Nat → Addr → Heap → Prop} {Y : Nat → List V → Prop}
    (mem : it ∈ fp) (obj : ∀ i h, St i h → ∀ b ∈ fp, ∃ o, h.get? b = some o ∧ ∀ v, o.data ≠ .cell v) (W : ∀ A : Around, A.handled = none → WalksT P w A it fp wr n Pt St Mid)
    (tells : ∀ i vals, Pt i vals → ∃ xs, xs.length ≤ sizeLine ∧ Vals xs vals.toList ∧ Y i xs) (self : ∀ (A : Around) (i : Nat) (s : Shared) (Q : Value → Shared → Prop) (E : Value → Shared → Prop), St i s.heap → Q (.ref it) s → wpAny (model P w) A (pyIter (.ref it)) Q E s)
    (W0 : WalksT P w callerA it fp wr n Pt St Mid) :
    Turn P w K (.Tuple elts kk tpos) (ItTup n Y) fp it (fun i h => i ≤ n ∧ St i h) where
  mem := mem
  obj i h st := obj i h st.2
  keep i h h' st k := ⟨st.1, W0.frame i h h' st.2 k⟩
  item := by
    intro X hP hw hK calm i pins s σ H E I free st go
    subst hP hw hK
    have V := W X.A (I.ok.hd calm)
    refine V.item i s _ E go st.2 fun T vals h1 tk told new tup mid old => ⟨.ref T, rfl, ?_⟩
    refine V.go elts kk tpos i T _ _ E mid fun h2 st2 old2 => ?_
    obtain ⟨xs, few, are, y⟩ := tells i vals told
    have out := V.apart i T h1 mid
    obtain ⟨o, ho, hr⟩ := tup
    have tup2 : h2.IsTuple T vals := ⟨o, old2 T o out ho, hr⟩
    have ok : ObjOk X.prog X.w (upd H T (.tup xs)) h2 T (.tup xs) := ⟨few, vals.toList, are, by rw [Array.toArray_toList]; exact tup2⟩
    have J : Inv X pins σ (upd H T (.tup xs)) { s with heap := h2, toks := tk } := I.turnedNew (ch := fp) (fun b ob nb q => old2 b ob (fun z => nb (V.sub b z)) (old b ob (fun z => nb (V.sub b z)) q)) free new ok
    refine ⟨.ref T, _, J, rfl, ⟨T, xs, rfl, I.hok.fresh new, rfl, y⟩, ⟨go, st2⟩, fun b hb => ?_⟩
    obtain ⟨ob, q, _⟩ := obj i s.heap st.2 b hb
    rw [upd_ne (Nat.ne_of_lt (Nat.lt_of_lt_of_le (Heap.lt_size q) new))]
    exact (free b hb).1
  done := by
    intro X hP hw hK calm i pins s σ H E I free st stop
    subst hP hw hK
    have V := W X.A (I.ok.hd calm)
    obtain rfl : i = n := Nat.le_antisymm st.1 stop
    exact V.done s _ E st.2 fun h1 tk old => ⟨rfl, I.turnedL (ch := fp) (fun b o nb q => old b o (fun z => nb (V.sub b z)) q) free⟩
  self A i s Q E st q := self A i s Q E st.2 q
/-- a loop over such a walk -/
theorem walk_tup {n : Nat} {Y : Nat → List V → Prop} : Walk (ItTup n Y) n (fun _ => True) (fun i H v H' => ∃ T xs, v = .ref T ∧ H T = none ∧ H' = upd H T (.tup xs) ∧ Y i xs) :=
  ⟨fun _ _ lt _ => lt, fun _ _ => Nat.le_refl _, fun _ _ _ _ _ _ y => y⟩
/-! ### zip(text, text) -/
theorem draws_txt {prog : Program} {w : World} {A : Around} (hh : A.handled = none) (it : Addr) (x : Str) (t : Tok) :
    Draws prog w A it [it] x.cps.size (fun i v => ∃ c u, x.cps[i]? = some c ∧ v = .str ⟨#[c]⟩ u) (fun i h => h.IsStrIter it (strIterType x) x t i) := by
  unfold strIterType
  split
  · exact .strAscii hh it x t
  · exact .strWide hh it x t
/-- the signs of both texts, place by place -/
def ZipY (x y : Str) (i : Nat) (vs : List V) : Prop := ∃ c e, x.cps[i]? = some c ∧ y.cps[i]? = some e ∧ vs = [.str ⟨#[c]⟩, .str ⟨#[e]⟩]
def iZipS (ta : TA) : TI := fun σ H R => ta σ H fun vs H1 => ∃ x y : Str, vs = [.str x, .str y] ∧ R (ItTup (min x.cps.size y.cps.size) (ZipY x y)) H1
theorem pi_zipS {X : Cx} {e e2 : Expr} {ta : TA} {p pos tpos : Pos} {elts : List Expr} {kk : Nat} (hg : Gl X "zip") (hm : X.mg "zip" = none) (ha : PA X [e, e2] ta)
    (hs : starEach [e, e2] X.env = (false, eval e X.env) :: starEach [e2] X.env := by rfl) (hpl : (backTo pos (starEach [e2] X.env)).any (·.1) = false := by rfl) :
    PI X (.Tuple elts kk tpos) (.Call (.Name "zip" p) [e, e2] [] pos) (iZipS ta) := by
  constructor
  intro pins s σ H R I h
  refine Call_ (ld_blt I hg hm boot_zip (callWith_type1 (thn (ha.run pos pins s σ H _ I h) ?_) hs hpl))
  rintro us s1 ⟨_, H1, J, rel, x, y, rfl, q⟩
  obtain ⟨_, _, rfl, ⟨t, rfl⟩, u, rfl⟩ := vals2 rel
  refine zip_begins2 (begins_text x t) (begins_text y u) trivial trivial fun h' isz pin pout at1 at2 _ old => wpAny_pyIter_zip isz ?_
  have sep : ZipSep2 (s1.heap.objs.size + 4) (s1.heap.objs.size + 2) (s1.heap.objs.size + 3) s1.heap.objs.size (s1.heap.objs.size + 1) [s1.heap.objs.size] [s1.heap.objs.size + 1] := by
    constructor <;> simp
  have W : ∀ A : Around, A.handled = none → WalksT X.prog X.w A (s1.heap.objs.size + 4) _ _ _ _ _ _ := fun A hh => WalksT.zipD2 sep (draws_txt (A := A.in1) hh s1.heap.objs.size x t) (draws_txt (A := A.in1) hh (s1.heap.objs.size + 1) y u)
  refine ⟨s1.heap.objs.size + 4, _, _, _, H1, rfl, J.kept (t' := s1.toks) old, turn_tup (Y := ZipY x y) (by simp) ?_ W ?_ ?_ (W callerA rfl), ⟨Nat.zero_le _, isz, pin, ⟨_, _, pout⟩, ⟨_, at1, rfl, rfl⟩, ⟨_, at2, rfl, rfl⟩⟩, ?_, q⟩
  · rintro i h ⟨hz, h1, ⟨_, _, h2⟩, ⟨o1, g1, _, d1⟩, ⟨o2, g2, _, d2⟩⟩ b hb
    have hb : b = s1.heap.objs.size + 4 ∨ b = s1.heap.objs.size + 2 ∨ b = s1.heap.objs.size + 3 ∨ b = s1.heap.objs.size ∨ b = s1.heap.objs.size + 1 := by simpa using hb
    rcases hb with rfl | rfl | rfl | rfl | rfl
    · exact ⟨_, hz, fun v q => nomatch q⟩
    · exact ⟨_, h1, fun v q => nomatch q⟩
    · exact ⟨_, h2, fun v q => nomatch q⟩
    · exact ⟨o1, g1, fun v q => by rw [d1] at q; cases q⟩
    · exact ⟨o2, g2, fun v q => by rw [d2] at q; cases q⟩
  · rintro i vals ⟨_, _, ⟨c, t1, hc, rfl⟩, ⟨e, t2, he, rfl⟩, rfl⟩
    exact ⟨[.str ⟨#[c]⟩, .str ⟨#[e]⟩], by show 2 ≤ sizeLine; decide, .cons ⟨t1, rfl⟩ (.cons ⟨t2, rfl⟩ .nil), c, e, hc, he, rfl⟩
  · exact fun A i s Q E st q => wpAny_pyIter_zip st.1 q
  · intro b hb
    have hb : b = s1.heap.objs.size + 4 ∨ b = s1.heap.objs.size + 2 ∨ b = s1.heap.objs.size + 3 ∨ b = s1.heap.objs.size ∨ b = s1.heap.objs.size + 1 := by simpa using hb
    have le : s1.heap.objs.size ≤ b := by
      rcases hb with rfl | rfl | rfl | rfl | rfl
      · exact Nat.le_add_right _ _
      · exact Nat.le_add_right _ _
      · exact Nat.le_add_right _ _
      · exact Nat.le_refl _
      · exact Nat.le_add_right _ _
    exact J.fpOk le (J.hok.fresh le)
end HopR

set_option Elab.async false
set_option linter.all false
set_option maxRecDepth 100000
namespace HopR
open PySem PySem.Spec PyProof.Rows L2
/-! ### enumerate(text) -/
def EnumY (x : Str) (i : Nat) (vs : List V) : Prop := ∃ c, x.cps[i]? = some c ∧ vs = [.int (i : Int), .str ⟨#[c]⟩]
def iEnumS (ta : TA) : TI := fun σ H R => ta σ H fun vs H1 => ∃ x : Str, vs = [.str x] ∧ R (ItTup x.cps.size (EnumY x)) H1
theorem pi_enumS {X : Cx} {e : Expr} {ta : TA} {p pos tpos : Pos} {elts : List Expr} {kk : Nat} (hg : Gl X "enumerate") (hm : X.mg "enumerate" = none) (ha : PA X [e] ta) (hs : starEach [e] X.env = [(false, eval e X.env)] := by rfl) :
    PI X (.Tuple elts kk tpos) (.Call (.Name "enumerate" p) [e] [] pos) (iEnumS ta) := by
  constructor
  intro pins s σ H R I h
  refine Call_ (ld_blt I hg hm boot_enumerate (callWith_type1 (thn (ha.run pos pins s σ H _ I h) ?_) hs rfl))
  rintro us s1 ⟨_, H1, J, rel, x, rfl, q⟩
  obtain ⟨_, rfl, t, rfl⟩ := vals1 rel
  refine call_enumerate_str fun h' ise isi sz old => wpAny_pyIter_enum ise ?_
  have W : ∀ A : Around, A.handled = none → WalksT X.prog X.w A (s1.heap.objs.size + 1) _ _ _ _ _ _ := fun A hh => WalksT.enumerateD (draws_txt (A := A.in1) hh s1.heap.objs.size x t) (s1.heap.objs.size + 1) (Nat.succ_ne_self _) (by simp) (by simp)
  refine ⟨s1.heap.objs.size + 1, _, _, _, H1, rfl, J.kept (t' := s1.toks) old, turn_tup (Y := EnumY x) (by simp) ?_ W ?_ ?_ (W callerA rfl), ⟨Nat.zero_le _, ⟨_, ise⟩, isi⟩, ?_, q⟩
  · rintro i h ⟨⟨_, he⟩, o1, g1, _, d1⟩ b hb
    have hb : b = s1.heap.objs.size + 1 ∨ b = s1.heap.objs.size := by simpa using hb
    rcases hb with rfl | rfl
    · exact ⟨_, he, fun v q => nomatch q⟩
    · exact ⟨o1, g1, fun v q => by rw [d1] at q; cases q⟩
  · rintro i vals ⟨u, _, ⟨c, t1, hc, rfl⟩, rfl⟩
    exact ⟨[.int (i : Int), .str ⟨#[c]⟩], by show 2 ≤ sizeLine; decide, .cons ⟨u, rfl⟩ (.cons ⟨t1, rfl⟩ .nil), c, hc, rfl⟩
  · rintro A i s Q E ⟨⟨_, he⟩, _⟩ q
    exact wpAny_pyIter_enum he q
  · intro b hb
    have hb : b = s1.heap.objs.size + 1 ∨ b = s1.heap.objs.size := by simpa using hb
    have le : s1.heap.objs.size ≤ b := by
      rcases hb with rfl | rfl
      · exact Nat.le_add_right _ _
      · exact Nat.le_refl _
    exact J.fpOk le (J.hok.fresh le)
end HopR

set_option Elab.async false
set_option linter.all false
set_option maxRecDepth 100000
namespace Hop
open PySem L2 HopR
theorem lef_int {m p t : Nat} (hp : p < m) (ht : t < m) : ((p : Int) - (t : Int)) % (m : Int) = (((if t ≤ p then p - t else p + m - t) : Nat) : Int) := by
  split
  · rw [Int.emod_eq_of_lt (by omega) (by omega)]
    omega
  · have e : ((p : Int) - (t : Int)) % (m : Int) = ((p : Int) - (t : Int) + (m : Int)) % (m : Int) := by rw [Int.add_emod_right]
    rw [e, Int.emod_eq_of_lt (by omega) (by omega)]
    omega
theorem isb_one (cs : List Nat) (i : Nat) : decide (V.str (one (cs.getD i 0)) = V.str "b") = isb cs i := by
  unfold isb
  rw [sgn_b]
  by_cases h : cs.getD i 0 = 98
  · rw [decide_eq_true h, decide_eq_true (by rw [h])]
  · rw [decide_eq_false h, decide_eq_false fun q => h (one_inj (V.str.inj q))]
/-! ### what stands at the top -/
structure Tx7 (K : PySem.W.Frag) (w : World) (mg : Str → Option Value) (d : Addr) (es : Array DictEntry) (n : Nat) (d' : Addr) (es' : Array DictEntry) (n' : Nat) : Prop where
  len : mg "len" = none
  range : mg "range" = none
  all : mg "all" = none
  isi : mg "isinstance" = none
  str : mg "str" = none
  list : mg "list" = none
  enum : mg "enumerate" = none
  zip : mg "zip" = none
  first : ∃ t, mg "FIRST" = some (.str "a" t)
  second : ∃ t, mg "SECOND" = some (.str "b" t)
  none : ∃ t, mg "NONE" = some (.str "." t)
  bead : ∃ t, mg "BEAD" = some (.str "o" t)
  leastR : ∃ t, mg "LEAST_IN_RING" = some (.int 2 t)
  mostR : ∃ t, mg "MOST_IN_RING" = some (.int 12 t)
  most : ∃ t, mg "MOST_PLACES" = some (.int 30 t)
  rank : mg "RANK" = some (.ref d)
  oth : mg "OTHER_SIGN" = some (.ref d')
  D : KDict K w d es n
  keys : es.toList.map (fun e => keyText e.key) = [97, 98, 46].map (fun q => some (one q))
  D' : KDict K w d' es' n'
  keys' : keysAre es'
section
variable {P : Program} {w : World} {K : PySem.W.Frag} {mg : Str → Option Value} {base : Heap} {d : Addr} {es : Array DictEntry} {n : Nat} {d' : Addr} {es' : Array DictEntry} {n' : Nat}
/-! ### is_ring -/
/-! ### is_row -/
def spIsRow (K : PySem.W.Frag) : Sp := fun vs H Q _ => ∃ x b, vs = [x] ∧ RowB K H x b ∧ ∀ H', Same H H' → Q (.bl b) H'
theorem scIsRow : FnScope ["thing", "sign"] ["thing"] (defScope sIsRow) := ⟨rfl, rfl, rfl, by decide +kernel, rfl, by decide +kernel, by decide +kernel⟩
theorem ok_isrow {f : Addr} {fd : FuncData} {k : Nat} (F : Fun K "is_row" "is_row" sIsRow f fd) (T : Tx7 K w mg d es n d' es' n') : FnOk P w K mg base CX0 (k + 1) f fd ["thing"] (spIsRow K) := by
  refine F.ok scIsRow (fun vs H Q E h => ?_) (fun cdv A outer s H vs Q E hr h => ?_)
  · obtain ⟨x, b, rfl, _⟩ := h
    rfl
  · obtain ⟨x, b, rfl, hb, q⟩ := h
    have nd := scIsRow.nd
    obtain ⟨tm, gm⟩ := T.most
    refine ⟨_, pss_cons (ps_if (PW.pt (pw_or (pt_not (pt_val (pe_callB call_isi (by rfl) T.isi (by decide +kernel) (pa_cons (pv 0) (pa_cons (pe_bltn (v := .ty "str") (by rfl) T.str (by decide +kernel) rfl) pa_nil)))))
          (pw_or (pt_cmpR op_lt (pe_callB call_len_str (by rfl) T.len PySem.boot_len (pa_cons (pv 0) pa_nil)) pe_int (nomark _))
          (pw_or1 (pt_cmpR op_gt (pe_callB call_len_str (by rfl) T.len PySem.boot_len (pa_cons (pv 0) pa_nil)) (pe_glob (v := .int 30) (by rfl) gm ⟨_, rfl⟩) (nomark _))))))
        (pss_one (ps_ret pe_bl)) pss_nil)
      (pss_one (ps_ret (pe_callB (cr_all rfl) (by rfl) T.all (by decide +kernel) (pa_cons
        (pe_lc (own := [("sign", 1)]) (g := gName 1) (tt := tYes) (te := tOp (rInKd K d') (tVar 1) (tC (.ref d'))) rfl nd (pi_str (pv 0)) (blkOk_by (own := [("sign", 1)]) (N := ["thing", "sign"]) (sc := defScope sIsRow) (by decide +kernel))
          (fun _ _ _ _ _ => pg_name (i := 1) nd rfl (Or.inl rfl)) (fun _ _ _ _ _ => pts_nil)
          (fun _ _ _ _ _ => pe_cmpR (op_inKd T.D') (pv 1) (pe_glob (v := .ref d') (by rfl) T.oth rfl) (by rfl)))
        pa_nil)))), ?_⟩
    rcases hb with ⟨⟨t, ty, kt⟩, rfl⟩ | ⟨z, rfl, hz, rfl⟩
    · exact ⟨x, rfl, x, .ty "str", t, .type "str", false, rfl, .ty _, ty, kt, false, rfl, q H (Same.refl _)⟩
    · refine ⟨.str z, rfl, .str z, .ty "str", .type "str", .type "str", true, rfl, .ty _, .base (.str _), kit_ty (by decide +kernel), true, rfl, iteF ?_⟩
      refine ⟨.str z, rfl, z, rfl, fit hz, _, _, rfl, rfl, _, rfl, ?_⟩
      by_cases h1 : z.length < 1
      · rw [decide_eq_true (show (z.length : Int) < 1 by omega)]
        have e : isRowB z = false := by
          unfold isRowB
          rw [decide_eq_false (by omega)]
          rfl
        rw [e] at q
        exact q H (Same.refl _)
      rw [decide_eq_false (show ¬ (z.length : Int) < 1 by omega)]
      refine iteF ⟨.str z, rfl, z, rfl, fit hz, _, _, rfl, rfl, _, rfl, ?_⟩
      by_cases h2 : 30 < z.length
      · rw [decide_eq_true (show (z.length : Int) > 30 by omega)]
        have e : isRowB z = false := by
          unfold isRowB
          rw [decide_eq_false (show ¬ z.length ≤ 30 by omega)]
          simp
        rw [e] at q
        exact q H (Same.refl _)
      rw [decide_eq_false (show ¬ (z.length : Int) > 30 by omega)]
      refine iteF ⟨.str z, rfl, z, rfl, fun D hD => ?_⟩
      refine lc_it walk_str (fun i H3 => Same H H3 ∧ H3 D = some (.lst (((z.cps.toList.take i).map okc).map V.bl))) ⟨same_upd hD, upd_same⟩ (fun _ _ _ _ => trivial) ?_ ?_
      · rintro i x H3 H' hi ⟨sm, eD⟩ ⟨rfl, c, hc, rfl⟩
        obtain ⟨r, e1, e2⟩ := sign_in T.D'.at_ T.keys' c
        refine ⟨rfl, .str ⟨#[c]⟩, rfl, ⟨#[c]⟩, r, rfl, rfl, e1, _, eD, ?_, same_new hD sm, ?_⟩
        · rw [List.length_map, List.length_map]
          refine fit' (Nat.le_trans (List.length_take_le _ _) ?_)
          have : i < z.length := hi
          omega
        · rw [upd_same, e2, List.take_add_one, Array.getElem?_toList, hc, List.map_append, List.map_append]
          rfl
      · rintro H3 ⟨sm, eD⟩
        refine ⟨D, (z.cps.toList.map okc), rfl, SqL.of ?_, ?_⟩
        · rw [eD, List.take_of_length_le (by rw [Array.length_toList]; exact Nat.le_refl _)]
        · have e : (z.cps.toList.map okc).all id = isRowB z := by
            unfold isRowB
            rw [decide_eq_true (show 1 ≤ z.length by omega), decide_eq_true (show z.length ≤ 30 by omega), List.all_map]
            rfl
          rw [e]
          exact q H3 sm
/-! ### are_lines -/
structure Ln (hi lo : List Bool) : Prop where
  len : hi.length = lo.length
  lo2 : 2 ≤ lo.length
  hi12 : lo.length ≤ 12
  few : nb hi ≤ nb lo
theorem Ln.row {hi lo : List Bool} (h : Ln hi lo) : Row hi ∧ Row lo := by
  have h1 := h.len
  have h2 := h.lo2
  have h3 := h.hi12
  exact ⟨⟨by omega, by omega⟩, ⟨by omega, by omega⟩⟩
theorem tx_few {bs : List Bool} (h : Row bs) : (tx bs).length ≤ 10000 ∧ (tx bs).length ≤ sizeLine := by
  have := h.2
  rw [tx_len]
  exact ⟨by omega, fit (by omega)⟩
def spLines : Sp := fun vs H Q _ => ∃ hi lo, vs = [.str (tx hi), .str (tx lo)] ∧ Ln hi lo ∧ ∀ H', Same H H' → Q (.bl true) H'
theorem scLines : FnScope ["upper", "lower"] ["upper", "lower"] (defScope sLines) := ⟨rfl, rfl, rfl, by decide +kernel, rfl, by decide +kernel, by decide +kernel⟩
theorem ok_lines {f f1 : Addr} {fd fd1 : FuncData} {k : Nat} (F : Fun K "are_lines" "are_lines" sLines f fd) (N1 : Fn K mg "is_row" sIsRow ["thing"] f1 fd1) (T : Tx7 K w mg d es n d' es' n') : FnOk P w K mg base CX0 (k + 2) f fd ["upper", "lower"] spLines := by
  have G1 : FnOk P w K mg base CX0 (k + 1) f1 fd1 ["thing"] (spIsRow K) := ok_isrow N1.F T
  refine F.ok scLines (fun vs H Q E h => ?_) (fun cdv A outer s H vs Q E hr h => ?_)
  · obtain ⟨hi, lo, rfl, _⟩ := h
    rfl
  · obtain ⟨hi, lo, rfl, hL, q⟩ := h
    obtain ⟨tb, gb⟩ := T.bead
    obtain ⟨tl, gl⟩ := T.leastR
    obtain ⟨tm, gm⟩ := T.mostR
    refine ⟨_, pss_cons (ps_if (PW.pt (pw_or (pt_not (pt_val (pe_call G1 hr (by rfl) N1.g N1.F.kp N1.b .nil pass0 (pa_cons (pv 0) pa_nil)))) (pw_or (pt_not (pt_val (pe_call G1 hr (by rfl) N1.g N1.F.kp N1.b .nil pass0 (pa_cons (pv 1) pa_nil))))
        (pw_or1 (pt_cmpR op_ne (pe_callB call_len_str (by rfl) T.len PySem.boot_len (pa_cons (pv 0) pa_nil)) (pe_callB call_len_str (by rfl) T.len PySem.boot_len (pa_cons (pv 1) pa_nil)) (nomark _)))))) (pss_one (ps_ret pe_bl)) pss_nil)
      (pss_one (ps_ret (pe_and (pe_chain op_le op_le (pe_glob (v := .int 2) (by rfl) gl ⟨_, rfl⟩) (pe_callB call_len_str (by rfl) T.len PySem.boot_len (pa_cons (pv 0) pa_nil)) (pe_glob (v := .int 12) (by rfl) gm ⟨_, rfl⟩))
        (pe_one (pe_cmpR op_le (pe_bm PySem.F.plainAttrs_str PySem.F.slot_str_count PySem.F.type_str_count mt_count (pv 0) (pa_cons (pe_glob (v := .str "o") (by rfl) gb ⟨_, rfl⟩) pa_nil)) (pe_bm PySem.F.plainAttrs_str PySem.F.slot_str_count PySem.F.type_str_count mt_count (pv 1) (pa_cons (pe_glob (v := .str "o") (by rfl) gb ⟨_, rfl⟩) pa_nil)) (nomark _)))))), ?_⟩
    obtain ⟨r1, r2⟩ := hL.row
    obtain ⟨z1, y1⟩ := tx_few r1
    obtain ⟨z2, y2⟩ := tx_few r2
    have h1 := hL.len
    have h2 := hL.lo2
    have h3 := hL.hi12
    have h4 := hL.few
    refine ⟨.str (tx hi), rfl, .str (tx hi), true, rfl, .inr ⟨tx hi, rfl, z1, (isRow_tx r1.1 r1.2).symm⟩, fun H1 s1 => ⟨true, rfl, iteF ?_⟩⟩
    refine ⟨.str (tx lo), rfl, .str (tx lo), true, rfl, .inr ⟨tx lo, rfl, z2, (isRow_tx r2.1 r2.2).symm⟩, fun H2 s2 => ⟨true, rfl, iteF ?_⟩⟩
    refine ⟨.str (tx hi), rfl, tx hi, rfl, y1, .str (tx lo), rfl, tx lo, rfl, y2, rfl, _, rfl, ?_⟩
    rw [tx_len, tx_len, h1, decide_eq_true rfl]
    refine iteF ⟨.str (tx hi), rfl, tx hi, rfl, y1, _, _, rfl, rfl, _, rfl, ?_⟩
    rw [tx_len, h1, decide_eq_true (show (2 : Int) ≤ (lo.length : Int) by omega)]
    refine iteT ⟨_, _, rfl, rfl, _, rfl, ?_⟩
    rw [decide_eq_true (show (lo.length : Int) ≤ 12 by omega)]
    refine iteT ⟨.str (tx hi), rfl, rfl, tx hi, "o", rfl, rfl, .str (tx lo), rfl, rfl, tx lo, "o", rfl, rfl, _, _, rfl, rfl, ?_⟩
    rw [count_tx, count_tx]
    show Q (.bl (decide (((nb hi : Nat) : Int) ≤ ((nb lo : Nat) : Int)))) H2
    rw [decide_eq_true (show ((nb hi : Nat) : Int) ≤ ((nb lo : Nat) : Int) by omega)]
    exact q H2 (s1.trans s2)
def spFirst : Sp := fun vs H Q _ => ∃ (a : Addr) (cs : List Nat) (p x : Nat) (r : List Nat), vs = [.ref a, .int (p : Int)] ∧ H a = some (.lst (vl cs)) ∧ cs.length ≤ 100 ∧ p < cs.length ∧ (lef cs.length p).filter (isb cs) = x :: r ∧ ∀ H', Same H H' → Q (.int (x : Int)) H'
abbrev nFirst : List Str := ["signs", "place", "many", "round_to_the_left", "steps", "waiting", "at"]
theorem scFirst : FnScope nFirst ["signs", "place"] (defScope sFirst) := ⟨rfl, rfl, rfl, by decide +kernel, rfl, by decide +kernel, by decide +kernel⟩
theorem ok_first {f : Addr} {fd : FuncData} {k : Nat} (F : Fun K "first_to_the_left" "first_to_the_left" sFirst f fd) (T : Tx7 K w mg d es n d' es' n') : FnOk P w K mg base CX0 (k + 1) f fd ["signs", "place"] spFirst := by
  refine F.ok scFirst (fun vs H Q E h => ?_) (fun cdv A outer s H vs Q E hr h => ?_)
  · obtain ⟨a, cs, p, x, r, rfl, _⟩ := h
    rfl
  · obtain ⟨a, cs, p, x, r, rfl, ea, hl, hp, hf, q⟩ := h
    have nd := scFirst.nd
    obtain ⟨tb, gb⟩ := T.second
    refine ⟨_, pss_cons (ps_set (i := 2) nd rfl (.inr rfl) (pe_callB call_len_seq (by rfl) T.len PySem.boot_len (pa_cons (pv 0) pa_nil)))
      (pss_cons (ps_setLc (i := 3) (own := [("steps", 4)]) (g := gName 4) (tt := tYes) (by rfl) nd rfl rfl (sw_true rfl rfl rfl (by decide +kernel)) (pi_range1 (by rfl) T.range (pa_cons (pv 2) pa_nil)) (blkOk_by (own := [("steps", 4)]) (N := nFirst) (sc := defScope sFirst) (by decide +kernel))
          (fun _ _ _ _ _ => pg_name (i := 4) nd rfl (Or.inl rfl)) (fun _ _ _ _ _ => pts_nil) (fun _ _ _ _ _ => pe_op op_mod (pe_op op_sub (pv 1) (pv 4)) (pv 2)))
      (pss_cons (ps_setLc (i := 5) (own := [("at", 6)]) (g := gName 6) (by rfl) nd rfl rfl (sw_true rfl rfl rfl (by decide +kernel)) (pi_list (pv 3)) (blkOk_by (own := [("at", 6)]) (N := nFirst) (sc := defScope sFirst) (by decide +kernel))
          (fun _ _ _ _ _ => pg_name (i := 6) nd rfl (Or.inl rfl)) (fun _ _ _ _ _ => pts_one (pt_cmpR op_eq (pe_ix (show IxR _ (rIxL K) from ix_list) (pv 0) (pv 6) (fun _ _ => rfl)) (pe_glob (v := .str "b") (by rfl) gb ⟨_, rfl⟩) (nomark _))) (fun _ _ _ _ _ => pv 6))
      (pss_one (ps_ret (pe_ix ix_list (pv 5) pe_int (fun _ _ => rfl)))))), ?_⟩
    refine ⟨.ref a, rfl, a, _, rfl, .inl (SqL.of ea), ?_⟩
    rw [vl_len]
    have m0 : (0 : Int) < (cs.length : Int) := by omega
    refine ⟨.int _, rfl, _, rfl, ?_, ?_, fun D hD => ?_⟩
    · omega
    · omega
    rw [Int.toNat_natCast]
    refine lc_range (lo := 0) (n := cs.length) (fun i H1 => Same H H1 ∧ H1 D = some (.lst (((lef cs.length p).take i).map wv))) ⟨same_upd hD, upd_same⟩ ?_ ?_
    · rintro i H1 hi ⟨sm, eD⟩
      rw [Int.zero_add]
      refine ⟨rfl, .int (p : Int), rfl, .int (i : Int), rfl, _, _, rfl, rfl, .int (cs.length : Int), rfl, _, _, rfl, rfl, m0, _, eD, ?_, same_new hD sm, ?_⟩
      · rw [List.length_map]
        exact fit' (Nat.le_trans (List.length_take_le _ _) (by omega))
      · have hg : (lef cs.length p)[i]? = some (if i ≤ p then p - i else p + cs.length - i) := by
          rw [List.getElem?_eq_getElem (by rw [lef_len]; exact hi), lef_get]
        rw [upd_same, List.take_add_one, hg, List.map_append]
        show some (HO.lst (_ ++ [V.int (((p : Int) - (i : Int)) % (cs.length : Int))])) = _
        rw [lef_int hp hi]
        rfl
    rintro H1 ⟨sm, eD⟩
    rw [List.take_of_length_le (by rw [lef_len]; exact Nat.le_refl _)] at eD
    refine ⟨.ref D, rfl, D, rfl, ⟨_, SqL.of eD⟩, fun B hB => ?_⟩
    have hB0 := sm.free hB
    refine lc_list (K := K) (a := D) (xs := (lef cs.length p).map wv) (fun j H2 => Same H1 H2 ∧ H2 B = some (.lst ((((lef cs.length p).take j).filter (isb cs)).map wv))) ⟨same_upd hB, upd_same⟩ (fun j H2 _ h => SqL.of (h.1 _ _ eD)) ?_ ?_
    · rintro j x' H2 hx ⟨s2, eB⟩
      rw [List.getElem?_map] at hx
      obtain ⟨c, hc, rfl⟩ := Option.map_eq_some_iff.mp hx
      have hcl : c < cs.length := lef_lt hp (List.mem_of_getElem? hc)
      have eF : ((lef cs.length p).take (j + 1)).filter (isb cs) = ((lef cs.length p).take j).filter (isb cs) ++ (if isb cs c then [c] else []) := by
        rw [List.take_add_one, hc, List.filter_append]
        congr 1
        cases h : isb cs c with
        | true => simp [h]
        | false => simp [h]
      refine ⟨rfl, .ref a, rfl, .int (c : Int), rfl, a, _, _, _, rfl, rfl, SqL.of (s2 _ _ (sm _ _ ea)), vl_at hcl, rfl, _, rfl, ?_⟩
      rw [isb_one]
      rw [eF]
      cases h : isb cs c with
      | true =>
        refine iteT ⟨.int (c : Int), rfl, _, eB, ?_, same_new hB s2, ?_⟩
        · rw [List.length_map]
          refine fit' (Nat.le_trans (List.length_filter_le _ _) (Nat.le_trans (List.length_take_le _ _) ?_))
          have := (List.getElem?_eq_some_iff.mp hc).1
          rw [lef_len] at this
          omega
        · rw [upd_same, List.map_append]
          rfl
      | false =>
        refine iteF ⟨s2, ?_⟩
        rw [eB]
        simp
    rintro H2 ⟨s2, eB⟩
    rw [List.length_map, List.take_length, hf] at eB
    exact ⟨.ref B, rfl, B, _, 0, .int (x : Int), rfl, rfl, SqL.of eB, atI_nat (j := 0) rfl, q H2 (sm.trans s2)⟩
/-! ### ring_of -/
def bdi (hi : List Bool) (i : Nat) : List Nat := (List.range i).filter fun j => hi.getD j false
theorem bdi_succ (hi : List Bool) (i : Nat) : bdi hi (i + 1) = bdi hi i ++ (if hi.getD i false then [i] else []) := by
  unfold bdi
  rw [List.range_succ, List.filter_append]
  congr 1
  cases h : hi.getD i false with
  | true => simp only [List.filter_cons, h, List.filter_nil, if_true]
  | false => simp only [List.filter_cons, h, List.filter_nil]
theorem bdi_le {hi : List Bool} {i j : Nat} (h : i ≤ j) : (bdi hi i).length ≤ (bdi hi j).length := by
  induction h with
  | refl => exact Nat.le_refl _
  | step _ ih =>
    rw [bdi_succ, List.length_append]
    omega
theorem bdi_lt {hi : List Bool} {i : Nat} (h : i ≤ hi.length) : ∀ p ∈ bdi hi i, p < hi.length := fun p hp => Nat.lt_of_lt_of_le (List.mem_range.mp (List.mem_filter.mp hp).1) h
def spRingOf : Sp := fun vs H Q _ => ∃ hi lo, vs = [.str (tx hi), .str (tx lo)] ∧ Ln hi lo ∧ ∀ H', Same H H' → Q (.str (rt (rg hi lo))) H'
abbrev nRing : List Str := ["upper", "lower", "signs", "sign", "place"]
theorem scRingOf : FnScope nRing ["upper", "lower"] (defScope sRingOf) := ⟨rfl, rfl, rfl, by decide +kernel, rfl, by decide +kernel, by decide +kernel⟩
theorem is_o (b : Bool) : decide (V.str ⟨#[cd b]⟩ = V.str "o") = b := by
  cases b with
  | true => exact decide_eq_true (by rw [sgn_o]; rfl)
  | false => exact decide_eq_false fun q => absurd (one_inj (a := 46) (b := 111) (by rw [← sgn_o]; exact V.str.inj q)) (by decide)
theorem ok_ringof {f f1 f2 f3 : Addr} {fd fd1 fd2 fd3 : FuncData} {k : Nat} (F : Fun K "ring_of" "ring_of" sRingOf f fd) (N1 : Fn K mg "is_row" sIsRow ["thing"] f1 fd1) (N2 : Fn K mg "are_lines" sLines ["upper", "lower"] f2 fd2) (N3 : Fn K mg "first_to_the_left" sFirst ["signs", "place"] f3 fd3) (T : Tx7 K w mg d es n d' es' n') :
    FnOk P w K mg base CX0 (k + 3) f fd ["upper", "lower"] spRingOf := by
  have G2 : FnOk P w K mg base CX0 (k + 2) f2 fd2 ["upper", "lower"] spLines := ok_lines N2.F N1 T
  have G3 : FnOk P w K mg base CX0 (k + 2) f3 fd3 ["signs", "place"] spFirst := ok_first N3.F T
  refine F.ok scRingOf (fun vs H Q E h => ?_) (fun cdv A outer s H vs Q E hr h => ?_)
  · obtain ⟨hi, lo, rfl, _⟩ := h
    rfl
  · obtain ⟨hi, lo, rfl, hL, q⟩ := h
    have nd := scRingOf.nd
    obtain ⟨tb, gb⟩ := T.bead
    obtain ⟨ta, ga⟩ := T.first
    obtain ⟨ts, gs⟩ := T.second
    obtain ⟨tn, gn⟩ := T.none
    refine ⟨_, pss_cons (ps_if (pt_not (pt_val (pe_call G2 hr (by rfl) N2.g N2.F.kp N2.b .nil pass0 (pa_cons (pv 0) (pa_cons (pv 1) pa_nil))))) (pss_one ps_never) pss_nil)
      (pss_cons (ps_setLc (i := 2) (own := [("sign", 3)]) (g := gName 3) (tt := tYes) (by rfl) nd rfl rfl (sw_true rfl rfl rfl (by decide +kernel)) (pi_str (pv 1)) (blkOk_by (own := [("sign", 3)]) (N := nRing) (sc := defScope sRingOf) (by decide +kernel))
          (fun _ _ _ _ _ => pg_name (i := 3) nd rfl (Or.inl rfl)) (fun _ _ _ _ _ => pts_nil) (fun _ _ _ _ _ => pe_ifExp (pt_cmpR op_eq (pv 3) (pe_glob (v := .str "o") (by rfl) gb ⟨_, rfl⟩) (nomark _)) (pe_glob (v := .str "b") (by rfl) gs ⟨_, rfl⟩) (pe_glob (v := .str ".") (by rfl) gn ⟨_, rfl⟩)))
      (pss_cons (ps_for PassesOwn.never rfl (pi_enumS (by rfl) T.enum (pa_cons (pv 0) pa_nil)) (pg_tup (by rfl) (pgs_cons (pg_name (i := 4) nd rfl (.inl rfl)) (pgs_cons (pg_name (i := 3) nd rfl (.inl rfl)) pgs_nil)))
          (pss_one (ps_if (pt_cmpR op_eq (pv 3) (pe_glob (v := .str "o") (by rfl) gb ⟨_, rfl⟩) (nomark _))
            (pss_one (ps_asg (pe_glob (v := .str "a") (by rfl) ga ⟨_, rfl⟩) (pg_sub (pv 2) (pe_call G3 hr (by rfl) N3.g N3.F.kp N3.b .nil pass0 (pa_cons (pv 2) (pa_cons (pv 4) pa_nil))) set_list))) pss_nil)))
      (pss_one (ps_ret (pe_join pe_str (pv 2)))))), ?_⟩
    have hlen := hL.len
    have h12 := hL.hi12
    refine ⟨.str (tx hi), rfl, .str (tx lo), rfl, hi, lo, rfl, hL, fun H1 s1 => ⟨true, rfl, iteF ?_⟩⟩
    refine ⟨.str (tx lo), rfl, tx lo, rfl, fun D hD => ?_⟩
    have hD0 := s1.free hD
    refine lc_it walk_str (fun i H3 => Same H1 H3 ∧ H3 D = some (.lst (vl (lob (lo.take i))))) ⟨same_upd hD, upd_same⟩ (fun _ _ _ _ => trivial) ?_ ?_
    · rintro i x H3 H' hi' ⟨sm, eD⟩ ⟨rfl, c, hc, rfl⟩
      have hil : i < lo.length := by
        have : i < (tx lo).length := hi'
        rw [tx_len] at this
        exact this
      have c1 : c = cd lo[i] := by
        rw [← Array.getElem?_toList, tx_list, List.getElem?_map, List.getElem?_eq_getElem hil] at hc
        exact (Option.some.inj hc).symm
      subst c1
      have ev : vl (lob (lo.take (i + 1))) = vl (lob (lo.take i)) ++ [.str (if lo[i] then "b" else ".")] := by
        unfold vl lob
        rw [List.take_add_one, List.getElem?_eq_getElem hil, List.map_append, List.map_append, List.map_append]
        congr 1
        cases lo[i] with
        | true => show [V.str (one 98)] = [V.str "b"]; rw [sgn_b]
        | false => show [V.str (one 46)] = [V.str "."]; rw [sgn_f]
      have hlt : (vl (lob (lo.take i))).length < sizeLine := by
        rw [vl_len, lob_len]
        exact fit' (Nat.le_trans (List.length_take_le _ _) (by omega))
      refine ⟨rfl, .str ⟨#[cd lo[i]]⟩, rfl, rfl, _, rfl, ?_⟩
      rw [is_o, ev]
      cases hb : lo[i] with
      | true => exact iteT ⟨_, eD, hlt, same_new hD sm, by rw [upd_same]; rfl⟩
      | false => exact iteF ⟨_, eD, hlt, same_new hD sm, by rw [upd_same]; rfl⟩
    rintro H3 ⟨sm, eD⟩
    have eD : H3 D = some (.lst (vl (lob lo))) := by
      rw [eD, List.take_of_length_le]
      have : (tx lo).length = lo.length := tx_len lo
      show lo.length ≤ (tx lo).length
      omega
    have s3 : Same H H3 := s1.trans sm
    refine ⟨.str (tx hi), rfl, tx hi, rfl, ?_⟩
    refine for_it HopR.walk_tup (fun i σ H4 => ∃ (y3 y4 : Option V), σ = [some (.str (tx hi)), some (.str (tx lo)), some (.ref D), y3, y4] ∧ Same H H4 ∧ H4 D = some (.lst (vl ((bdi hi i).foldl (put hi.length) (lob lo))))) ⟨_, _, rfl, s3, eD⟩ (fun _ _ _ _ _ => trivial) ?_ ?_
    · rintro i x σ H4 H5 hi' ⟨y3, y4, rfl, s4, e4⟩ ⟨t, xs, rfl, nt, rfl, c, hc, rfl⟩
      have hil : i < hi.length := by
        have : i < (tx hi).length := hi'
        rw [tx_len] at this
        exact this
      have c1 : c = cd hi[i] := by
        rw [← Array.getElem?_toList, tx_list, List.getElem?_map, List.getElem?_eq_getElem hil] at hc
        exact (Option.some.inj hc).symm
      subst c1
      have hg : hi.getD i false = hi[i] := by rw [List.getD_eq_getElem?_getD, List.getElem?_eq_getElem hil]; rfl
      refine ⟨t, _, rfl, SqT.of upd_same, rfl, _, _, rfl, _, _, rfl, rfl, ?_⟩
      refine ⟨.str ⟨#[cd hi[i]]⟩, rfl, rfl, _, rfl, ?_⟩
      have s5 : Same H (upd H4 t (.tup [.int (i : Int), .str ⟨#[cd hi[i]]⟩])) := same_new (s4.free nt) s4
      have e5 : upd H4 t (.tup [.int (i : Int), .str ⟨#[cd hi[i]]⟩]) D = some (.lst (vl ((bdi hi i).foldl (put hi.length) (lob lo)))) := by
        rw [upd_ne (ne_of_none e4 nt)]
        exact e4
      generalize upd H4 t (.tup [.int (i : Int), .str ⟨#[cd hi[i]]⟩]) = H6 at s5 e5
      rw [is_o]
      have eS := bdi_succ hi i
      rw [hg] at eS
      cases hb : hi[i] with
      | false =>
        rw [hb] at eS
        exact iteF ⟨_, _, rfl, s5, by rw [eS, if_neg (by decide), List.append_nil]; exact e5⟩
      | true =>
        rw [hb, if_pos rfl] at eS
        have hcl : ((bdi hi i).foldl (put hi.length) (lob lo)).length = hi.length := by rw [puts_len, lob_len, hlen]
        have few : (bdi hi i).length < nb lo := by
          have h1 := bdi_le (hi := hi) (show i + 1 ≤ hi.length from hil)
          rw [eS, List.length_append] at h1
          have h2 : (bdi hi hi.length).length = nb hi := bds_len hi
          have h3 := hL.few
          have h4 : ([i] : List Nat).length = 1 := rfl
          omega
        have hc8 : 0 < ((bdi hi i).foldl (put hi.length) (lob lo)).count 98 := by
          rw [(puts_count (bdi hi i) (lob lo) (by rw [lob_len, hlen]) (bdi_lt (Nat.le_of_lt hil)) (by rw [(lob_count lo).1]; omega)).1, (lob_count lo).1]
          omega
        obtain ⟨x, r, hf, hx, _⟩ := put_at hil hcl hc8
        have ef : (bdi hi (i + 1)).foldl (put hi.length) (lob lo) = ((bdi hi i).foldl (put hi.length) (lob lo)).set x 97 := by
          rw [eS, List.foldl_append, List.foldl_cons, List.foldl_nil, put_cons hf]
        refine iteT ⟨.ref D, rfl, .ref D, rfl, .int (i : Int), rfl, D, _, i, x, r, rfl, e5, by omega, by omega, by rw [hcl]; exact hf, fun H7 s7 => ?_⟩
        refine ⟨D, _, _, x, rfl, rfl, s7 _ _ e5, ixN_vl (by omega), ?_⟩
        refine ⟨_, _, rfl, same_new hD0 (s5.trans s7), ?_⟩
        rw [upd_same, ef, sgn_a, vl_set]
    · rintro σ H4 ⟨y3, y4, rfl, s4, e4⟩
      have e4 : H4 D = some (.lst (vl (rg hi lo))) := by
        rw [e4]
        show some (HO.lst (vl ((bdi hi (tx hi).length).foldl (put hi.length) (lob lo)))) = _
        rw [tx_len]
        rfl
      refine ⟨⟨_, rfl⟩, .ref D, rfl, "", D, (rg hi lo).map one, rfl, rfl, .inl (SqL.of e4), join_rt_fits (by rw [rg_len]; omega), ?_⟩
      rw [join_rt]
      exact q _ s4
/-! ### _law_lines -/
def tl (bs : List Bool) : List V := (bs.map fun b => tx [b]).map V.str
theorem tl_len (bs : List Bool) : (tl bs).length = bs.length := by
  unfold tl
  rw [List.length_map, List.length_map]
abbrev zs25 : List Int := [11] ++ List.replicate 24 2
theorem sizes25 : ∀ z ∈ zs25, SizeOk z := fun z hz => by
  rcases List.mem_append.mp hz with h | h
  · obtain rfl := List.mem_singleton.mp h
    exact ⟨by decide, by decide⟩
  · rw [(List.mem_replicate.mp h).2]
    exact ⟨by decide, by decide⟩
def spLLines : Sp := fun vs H Q _ => ∃ c : Int, vs = [.int c] ∧ ∀ H' hi lo p, Same H H' → Ln hi lo → H p = none → H' p = some (.tup [.str (tx hi), .str (tx lo)]) → Q (.ref p) H'
abbrev nLL : List Str := ["_law_cell", "_law_draws", "_law_many", "_law_upper", "_law_draw", "_law_lower"]
theorem scLLines : FnScope nLL ["_law_cell"] (defScope sLLines) := ⟨rfl, rfl, rfl, by decide +kernel, rfl, by decide +kernel, by decide +kernel⟩
theorem cut25 {ds : List Int} {a m : Nat} (hl : ds.length = 25) (h : a + m ≤ 25) : cutV (ds.map V.int) (some (a : Int)) (some (((a + m : Nat)) : Int)) = ((ds.drop a).take m).map V.int := by
  unfold cutV
  rw [HT.sIx_nat, HT.sIx_nat, List.length_map, hl, List.map_take, List.map_drop]
  have i1 : min a 25 = a := by omega
  have i2 : min (a + m) 25 - a = m := by omega
  rw [i1, i2]
theorem low25 {ds : List Int} {a m : Nat} (hl : ds.length = 25) (ha : 1 ≤ a) (hok : ∀ (i : Nat) (x z : Int), ds[i]? = some x → zs25[i]? = some z → 0 ≤ x ∧ x < z) : ∀ x ∈ (ds.drop a).take m, 0 ≤ x ∧ x < 2 := fun x hx => by
  obtain ⟨j, hj⟩ := List.getElem?_of_mem (List.mem_of_mem_take hx)
  rw [List.getElem?_drop] at hj
  have hj2 : a + j < ds.length := (List.getElem?_eq_some_iff.mp hj).1
  refine hok (a + j) x 2 hj ?_
  rw [List.getElem?_append_right (by show 1 ≤ a + j; omega), List.getElem?_replicate]
  show (if a + j - 1 < 24 then some (2 : Int) else none) = some 2
  rw [if_pos (by omega)]
theorem ok_llines {f f1 : Addr} {fd fd1 : FuncData} {k : Nat} (F : Fun K "_law_lines" "_law_lines" sLLines f fd) (N1 : Fn K mg "_law_drawn" sDrawn ["_law_cell", "_law_sizes"] f1 fd1) (T : Tx7 K w mg d es n d' es' n') : FnOk P w K mg base CX0 (k + 2) f fd ["_law_cell"] spLLines := by
  have G1 : FnOk P w K mg base CX0 (k + 1) f1 fd1 ["_law_cell", "_law_sizes"] (spDrawn K) := ok_drawn N1.F T.len T.range
  refine F.ok scLLines (fun vs H Q E h => ?_) (fun cdv A outer s H vs Q E hr h => ?_)
  · obtain ⟨c, rfl, _⟩ := h
    rfl
  · obtain ⟨c, rfl, q⟩ := h
    have nd := scLLines.nd
    refine ⟨_, pss_cons (ps_set (i := 1) nd rfl (.inl rfl) (pe_call G1 hr (by rfl) N1.g N1.F.kp N1.b .nil pass0 (pa_cons (pv 0) (pa_cons (pe_op op_cat (pe_lst (pa_cons pe_int pa_nil)) (pe_op op_rep (pe_lst (pa_cons pe_int pa_nil)) pe_int)) pa_nil))))
      (pss_cons (ps_set (i := 2) nd rfl (.inl rfl) (pe_op op_add pe_int (pe_ix ix_list (pv 1) pe_int (fun _ _ => rfl))))
      (pss_cons (ps_set (i := 3) nd rfl (.inl rfl) (pe_join pe_str (pe_lc (own := [("_law_draw", 4)]) (g := gName 4) (tt := tYes) rfl nd (pi_list (pe_slice sl_list (pv 1) (po_some pe_int) (po_some (pe_op op_add pe_int (pv 2))))) (blkOk_by (own := [("_law_draw", 4)]) (N := nLL) (sc := defScope sLLines) (by decide +kernel))
          (fun _ _ _ _ _ => pg_name (i := 4) nd rfl (Or.inl rfl)) (fun _ _ _ _ _ => pts_nil) (fun _ _ _ _ _ => pe_ix ix_str pe_str (pv 4) (fun _ _ => rfl)))))
      (pss_cons (ps_set (i := 5) nd rfl (.inl rfl) (pe_join pe_str (pe_lc (own := [("_law_draw", 4)]) (g := gName 4) (tt := tYes) rfl nd (pi_list (pe_slice sl_list (pv 1) (po_some pe_int) (po_some (pe_op op_add pe_int (pv 2))))) (blkOk_by (own := [("_law_draw", 4)]) (N := nLL) (sc := defScope sLLines) (by decide +kernel))
          (fun _ _ _ _ _ => pg_name (i := 4) nd rfl (Or.inl rfl)) (fun _ _ _ _ _ => pts_nil) (fun _ _ _ _ _ => pe_ix ix_str pe_str (pv 4) (fun _ _ => rfl)))))
      (pss_cons (ps_if (pt_cmpR op_gt (pe_bm PySem.F.plainAttrs_str PySem.F.slot_str_count PySem.F.type_str_count mt_count (pv 3) (pa_cons pe_str pa_nil)) (pe_bm PySem.F.plainAttrs_str PySem.F.slot_str_count PySem.F.type_str_count mt_count (pv 5) (pa_cons pe_str pa_nil)) (nomark _)) (pss_one (ps_ret (pe_tup (pa_cons (pv 5) (pa_cons (pv 3) pa_nil))))) pss_nil)
      (pss_one (ps_ret (pe_tup (pa_cons (pv 3) (pa_cons (pv 5) pa_nil))))))))), ?_⟩
    refine ⟨.int c, rfl, (by show 1 ≤ sizeLine; decide), fun l1 n1 => ⟨(by show 1 ≤ sizeLine; decide), fun l2 n2 => ?_⟩⟩
    have t1 := same_upd (o := .lst [.int 11]) n1
    have e1 : upd H l1 (.lst [.int 11]) l1 = some (.lst [.int 11]) := upd_same
    generalize upd H l1 (.lst [.int 11]) = H1 at t1 e1 n2
    have t2 := same_upd (o := .lst [.int 2]) n2
    have e2 : upd H1 l2 (.lst [.int 2]) l2 = some (.lst [.int 2]) := upd_same
    generalize upd H1 l2 (.lst [.int 2]) = H2 at t2 e2
    refine ⟨l2, 24, [.int 2], rfl, rfl, e2, by decide, by decide, (by show 1 * 24 ≤ sizeLine; decide), fun l3 n3 => ?_⟩
    have t3 := same_upd (o := .lst (List.replicate (24 : Int).toNat [V.int 2]).flatten) n3
    have e3 : upd H2 l3 (.lst (List.replicate (24 : Int).toNat [V.int 2]).flatten) l3 = some (.lst (List.replicate (24 : Int).toNat [V.int 2]).flatten) := upd_same
    generalize upd H2 l3 (.lst (List.replicate (24 : Int).toNat [V.int 2]).flatten) = H3 at t3 e3
    refine ⟨l1, l3, [.int 11], _, rfl, rfl, t3 _ _ (t2 _ _ e1), e3, (by show 1 + 24 ≤ sizeLine; decide), fun l4 n4 => ?_⟩
    refine ⟨c, l4, zs25, rfl, SqL.of upd_same, sizes25, by decide, fun H4 pd s4 nd4 e4 => ?_⟩
    have sH4 : Same H H4 := ((t1.trans t2).trans (t3.trans (same_upd n4))).trans s4
    generalize hds : draws c 0 zs25 = ds at e4
    have hl : ds.length = 25 := by
      rw [← hds, draws_len]
      rfl
    have hok : ∀ (i : Nat) (x z : Int), ds[i]? = some x → zs25[i]? = some z → 0 ≤ x ∧ x < z := by
      rw [← hds]
      exact draws_ok _ c 0 (fun z hz => (sizes25 z hz).1)
    obtain ⟨d0, e0⟩ : ∃ x, ds[0]? = some x := ⟨ds[0], List.getElem?_eq_getElem (by omega)⟩
    have b0 := hok 0 d0 11 e0 rfl
    obtain ⟨m, rfl⟩ : ∃ m : Nat, d0 = (m : Int) := ⟨d0.toNat, by omega⟩
    have g0 : atI (ds.map V.int) 0 = some (.int (m : Int)) := atI_nat (j := 0) (by rw [List.getElem?_map, e0]; rfl)
    refine ⟨.ref pd, rfl, pd, _, 0, _, rfl, rfl, SqL.of e4, g0, _, _, rfl, rfl, ?_⟩
    have c1 : cutV (ds.map V.int) (some 1) (some (1 + (2 + (m : Int)))) = ((ds.drop 1).take (2 + m)).map V.int := by
      have := cut25 (a := 1) (m := 2 + m) hl (by omega)
      rw [← this]
      congr 2
    have c2 : cutV (ds.map V.int) (some 13) (some (13 + (2 + (m : Int)))) = ((ds.drop 13).take (2 + m)).map V.int := by
      have := cut25 (a := 13) (m := 2 + m) hl (by omega)
      rw [← this]
      congr 2
    have x1 := low25 (a := 1) (m := 2 + m) hl (by decide) hok
    have x2 := low25 (a := 13) (m := 2 + m) hl (by decide) hok
    have y1 : ((ds.drop 1).take (2 + m)).length = 2 + m := by
      rw [List.length_take, List.length_drop]
      omega
    have y2 : ((ds.drop 13).take (2 + m)).length = 2 + m := by
      rw [List.length_take, List.length_drop]
      omega
    generalize (ds.drop 1).take (2 + m) = xs at c1 x1 y1
    generalize (ds.drop 13).take (2 + m) = ys at c2 x2 y2
    -- the one
    refine ⟨⟨_, rfl⟩, .ref pd, rfl, 1, rfl, .int (2 + (m : Int)), rfl, _, _, rfl, rfl, _, rfl, pd, _, rfl, SqL.of e4, fun l5 n5 => ?_⟩
    rw [c1]
    have t5 := same_upd (o := .lst (xs.map V.int)) n5
    have e5 : upd H4 l5 (.lst (xs.map V.int)) l5 = some (.lst (xs.map V.int)) := upd_same
    generalize upd H4 l5 (.lst (xs.map V.int)) = H5 at t5 e5
    refine ⟨l5, rfl, ⟨_, SqL.of e5⟩, fun D hD => ?_⟩
    refine lc_list (K := K) (a := l5) (xs := xs.map V.int) (fun i J => ∃ bs : List Bool, Same H5 J ∧ J D = some (.lst (tl bs)) ∧ bs.length = i) ⟨[], same_upd hD, upd_same, rfl⟩ (fun i J _ ⟨_, h, _⟩ => SqL.of (h _ _ e5)) ?_ ?_
    · rintro i x J hx ⟨bs, sm, eD, hlb⟩
      rw [List.getElem?_map] at hx
      obtain ⟨u, hu, rfl⟩ := Option.map_eq_some_iff.mp hx
      have hb := x1 u (List.mem_of_getElem? hu)
      have hi : i < xs.length := (List.getElem?_eq_some_iff.mp hu).1
      refine ⟨rfl, .int u, rfl, ".o", u, _, rfl, rfl, (by decide), dot_o u hb.1 hb.2, _, eD, ?_, bs ++ [decide (u = 1)], same_new hD sm, ?_, ?_⟩
      · rw [tl_len]
        exact fit' (by omega)
      · rw [upd_same]
        unfold tl
        rw [List.map_append, List.map_append]
        rfl
      · rw [List.length_append, hlb]
        rfl
    rintro J1 ⟨hi, sm1, eD1, hl1⟩
    rw [List.length_map, y1] at hl1
    refine ⟨"", D, (hi.map fun b => tx [b]), rfl, rfl, .inl (SqL.of eD1), join_fits (by omega), ?_⟩
    rw [join_tx]
    have e4' := sm1 _ _ (t5 _ _ e4)
    -- the other
    refine ⟨⟨_, rfl⟩, .ref pd, rfl, 13, rfl, .int (2 + (m : Int)), rfl, _, _, rfl, rfl, _, rfl, pd, _, rfl, SqL.of e4', fun l6 n6 => ?_⟩
    rw [c2]
    have t6 := same_upd (o := .lst (ys.map V.int)) n6
    have e6 : upd J1 l6 (.lst (ys.map V.int)) l6 = some (.lst (ys.map V.int)) := upd_same
    generalize upd J1 l6 (.lst (ys.map V.int)) = H6 at t6 e6
    refine ⟨l6, rfl, ⟨_, SqL.of e6⟩, fun D2 hD2 => ?_⟩
    refine lc_list (K := K) (a := l6) (xs := ys.map V.int) (fun i J => ∃ bs : List Bool, Same H6 J ∧ J D2 = some (.lst (tl bs)) ∧ bs.length = i) ⟨[], same_upd hD2, upd_same, rfl⟩ (fun i J _ ⟨_, h, _⟩ => SqL.of (h _ _ e6)) ?_ ?_
    · rintro i x J hx ⟨bs, sm, eD, hlb⟩
      rw [List.getElem?_map] at hx
      obtain ⟨u, hu, rfl⟩ := Option.map_eq_some_iff.mp hx
      have hb := x2 u (List.mem_of_getElem? hu)
      have hi : i < ys.length := (List.getElem?_eq_some_iff.mp hu).1
      refine ⟨rfl, .int u, rfl, ".o", u, _, rfl, rfl, (by decide), dot_o u hb.1 hb.2, _, eD, ?_, bs ++ [decide (u = 1)], same_new hD2 sm, ?_, ?_⟩
      · rw [tl_len]
        exact fit' (by omega)
      · rw [upd_same]
        unfold tl
        rw [List.map_append, List.map_append]
        rfl
      · rw [List.length_append, hlb]
        rfl
    rintro J2 ⟨lo, sm2, eD2, hl2⟩
    rw [List.length_map, y2] at hl2
    refine ⟨"", D2, (lo.map fun b => tx [b]), rfl, rfl, .inl (SqL.of eD2), join_fits (by omega), ?_⟩
    rw [join_tx]
    have sA : Same H J2 := (sH4.trans (t5.trans sm1)).trans (t6.trans sm2)
    refine ⟨.str (tx hi), rfl, rfl, tx hi, "o", rfl, rfl, .str (tx lo), rfl, rfl, tx lo, "o", rfl, rfl, _, _, rfl, rfl, _, rfl, ?_⟩
    rw [count_tx, count_tx]
    by_cases hgt : nb lo < nb hi
    · rw [decide_eq_true (show ((nb hi : Nat) : Int) > ((nb lo : Nat) : Int) by omega)]
      exact iteT ⟨.str (tx lo), rfl, .str (tx hi), rfl, (by show 2 ≤ sizeLine; decide), fun p np => q _ lo hi p (same_new (sA.free np) sA) ⟨by omega, by omega, by omega, by omega⟩ (sA.free np) upd_same⟩
    · rw [decide_eq_false (show ¬ ((nb hi : Nat) : Int) > ((nb lo : Nat) : Int) by omega)]
      exact iteF ⟨.str (tx hi), rfl, .str (tx lo), rfl, (by show 2 ≤ sizeLine; decide), fun p np => q _ hi lo p (same_new (sA.free np) sA) ⟨by omega, by omega, by omega, by omega⟩ (sA.free np) upd_same⟩
end
end Hop

set_option Elab.async false
set_option linter.all false
set_option maxRecDepth 100000
namespace HopR
open PySem PySem.Spec PyProof.Rows L2
section
variable {X : Cx}
/-! ### xs[lo:hi:st] -/
def sliceIx (n : Nat) (lo hi : Option Int) (st : Int) : List Nat := sliceRange (sliceBounds lo hi (some st) n).1 (sliceBounds lo hi (some st) n).2.1 (sliceBounds lo hi (some st) n).2.2
def pick {α : Type} (xs : List α) (ix : List Nat) : List α := ix.filterMap (xs[·]?)
theorem vals_pick {xs : List V} {its : List Value} (r : Vals xs its) : ∀ ix : List Nat, Vals (pick xs ix) (pick its ix)
  | [] => .nil
  | i :: q => by
    unfold pick
    rw [List.filterMap_cons, List.filterMap_cons]
    cases e : xs[i]? with
    | none =>
      rw [Vals.none_of r e]
      exact vals_pick r q
    | some x =>
      obtain ⟨u, e2, ru⟩ := Vals.get r e
      rw [e2]
      exact .cons ru (vals_pick r q)
def tSl3 (K : PySem.W.Frag) (te : TE) (tl th ts : TO) : TE := fun σ H Q => te σ H fun x H1 => tl σ H1 fun lo H2 => th σ H2 fun hi H3 => ts σ H3 fun st H4 => ∃ a xs c, x = .ref a ∧ st = some c ∧ c ≠ 0 ∧ SqL K H4 a xs ∧ (pick xs (sliceIx xs.length lo hi c)).length ≤ sizeLine ∧
  ∀ p, H4 p = none → Q (.ref p) (upd H4 p (.lst (pick xs (sliceIx xs.length lo hi c))))
theorem pe_slice3 {e : Expr} {te : TE} {lo hi : Option Expr} {se : Expr} {tl th ts : TO} {p3 pos : Pos} (he : PE X e te) (hl : PO X lo tl) (hu : PO X hi th) (hs : PO X (some se) ts) : PE X (.Subscript e (.Slice lo hi (some se) p3) pos) (tSl3 X.K te tl th ts) := by
  refine ⟨fun pins s σ H Q I h => Subscript_ (thn (he.run pins s σ H _ I h) fun v s1 ⟨x, H1, I1, r1, q1⟩ => ?_)⟩
  refine wpAny_Slice (thn (hl.run pins s1 σ H1 _ I1 q1) fun vl s2 ⟨l, H2, I2, pl, q2⟩ => thn (hu.run pins s2 σ H2 _ I2 q2) fun vu s3 ⟨u, H3, I3, pu, q3⟩ => thn (hs.run pins s3 σ H3 _ I3 q3) fun vs s4 ⟨st, H4, I4, ps, a, xs, c, ex, es, hc, hx, hz, q⟩ => ?_)
  subst ex
  subst es
  cases r1
  have I5 : Inv X pins σ H4 { s4 with heap := s4.heap.push { cls := .type "slice", data := .fields #[vl, vu, vs] } } := I4.kept (t' := s4.toks) fun b ob qq => Heap.get?_push_of_some _ qq
  obtain ⟨its, r, ht, hz2⟩ := I5.list hx
  have hlen := r.length
  show wpAny (model X.prog X.w) X.A (subscriptTail e (.Slice lo hi (some se) p3) (.ref a) (.ref s4.heap.objs.size)) (EP X pins σ Q) X.xe { s4 with heap := s4.heap.push { cls := .type "slice", data := .fields #[vl, vu, vs] } }
  refine tail_any (ops := [.ref a, .ref s4.heap.objs.size]) ht.isList.typeIs (PySem.slot_list_getitem.lookup) ?_ (by with_unfolding_all rfl)
  refine wpAny_getItem_list_slice ht.isList (Heap.IsSliceOf.new _ vl vu vs) pl pu ps (fun z => hc (Option.some.inj z)) ?_ (by rw [List.size_toArray]; omega)
  have e1 : slicePick its.toArray l u (some c) = (pick its (sliceIx xs.length l u c)).toArray := by
    unfold slicePick pick sliceIx
    rw [List.size_toArray, ← hlen]
    simp only [List.getElem?_toArray]
  rw [e1]
  refine ⟨.ref _, _, I5.laid (t' := s4.toks) (o := .lst (pick xs (sliceIx xs.length l u c))) (fun b ob qq => Heap.get?_push_of_some _ qq) (Nat.le_refl _) ?_, rfl, q _ (I5.hok.fresh (Nat.le_refl _))⟩
  exact ⟨hz, _, 0, vals_pick r _, Heap.get?_push_size _ rfl⟩
/-! ### xs.count(y), flat items -/
def rCntV (K : PySem.W.Frag) : V → List V → Hp → VK → Prop := fun x xs H Q => ∃ (p : Addr) (ys : List V) (y : V), x = .ref p ∧ xs = [y] ∧ SqL K H p ys ∧ flatV y = true ∧ ys.all flatV = true ∧ Q (.int ((ys.countP fun z => eqV z y : Nat) : Int)) H
theorem countU {y : V} : ∀ {ys : List V} {its : List Value}, Vals ys its → ys.all flatV = true → its.countP (eqU y) = ys.countP fun z => eqV z y
  | _, _, .nil, _ => rfl
  | _, _, .cons (a := z) r t, f => by
    rw [List.all_cons, Bool.and_eq_true] at f
    rw [List.countP_cons, List.countP_cons, countU t f.2, eqU_of r f.1]
theorem mt_countV : MtR X "list.count" (rCntV X.K) := by
  intro pins s σ H x xs v us Q I rx rxs h
  obtain ⟨p, ys, y, rfl, rfl, hs, fy, fys, q⟩ := h
  cases rx
  obtain ⟨uy, rfl, ry⟩ := rxs.one
  obtain ⟨its, rv, ⟨⟨cls, dd, data, sl⟩, n, ho, hc, hdn, hd⟩, hlen⟩ := I.list hs
  simp only at hc hd
  subst hc hd
  refine call_meets PySem.F.slot_list_count ⟨_, ho, rfl⟩ PySem.F.entry_list_count (PySem.F.args_list_count_2 _ _)
    (SeqAt.list_countAt p its.toArray n dd sl uy (eqU y)) ⟨ho, fun u' hu' => mem_eqAt ry fy rv fys u' (by simpa using hu'), ?_⟩
  refine ⟨.int ((ys.countP fun z => eqV z y : Nat) : Int), H, I.tok _, ⟨s.toks, ?_⟩, q⟩
  show Value.int ((its.toArray.toList.countP (eqU y) : Nat) : Int) s.toks = _
  rw [List.toList_toArray, countU rv fys]
end
/-! ### every second one -/
def ev {α : Type} : List α → List α
  | [] => []
  | [x] => [x]
  | x :: _ :: r => x :: ev r
theorem pick_ev {α : Type} : ∀ (xs : List α) (m : Nat), m = (xs.length + 1) / 2 → pick xs ((List.range m).map fun k => 2 * k) = ev xs
  | [], m, e => by
    have : m = 0 := by simpa using e
    subst this
    rfl
  | [x], m, e => by
    have : m = 1 := by simpa using e
    subst this
    rfl
  | x :: y :: r, m, e => by
    obtain ⟨m', rfl⟩ : ∃ m', m = m' + 1 := ⟨(r.length + 1) / 2, by rw [e, List.length_cons, List.length_cons]; omega⟩
    have e' : m' = (r.length + 1) / 2 := by
      rw [List.length_cons, List.length_cons] at e
      omega
    rw [List.range_succ_eq_map, List.map_cons, List.map_map]
    unfold pick
    rw [List.filterMap_cons]
    show x :: _ = x :: ev r
    rw [← pick_ev r m' e']
    unfold pick
    rw [List.filterMap_map, List.filterMap_map]
    congr 1
theorem ix_ev (n : Nat) : sliceIx n none none 2 = (List.range ((n + 1) / 2)).map fun k => 2 * k := by
  unfold sliceIx sliceBounds sliceRange
  simp only [Option.getD_some, show ((2 : Int) > 0) = True from by simp, if_true]
  by_cases h : (0 : Int) < n
  · rw [if_pos h]
    have e : (((n : Int) - 0 + 2 - 1) / 2).toNat = (n + 1) / 2 := by omega
    rw [e]
    apply List.map_congr_left
    intro k _
    omega
  · rw [if_neg h]
    have : n = 0 := by omega
    subst this
    rfl
theorem ix_od (n : Nat) (h : 1 ≤ n) : sliceIx n (some 1) none 2 = (List.range (n / 2)).map fun k => 1 + 2 * k := by
  unfold sliceIx sliceBounds sliceRange
  simp only [Option.getD_some, show ((2 : Int) > 0) = True from by simp, if_true, show ¬ ((1 : Int) < 0) from by decide, if_false]
  have e0 : max (0 : Int) (min 1 (n : Int)) = 1 := by omega
  rw [e0]
  by_cases h : (1 : Int) < n
  · rw [if_pos h]
    have e : (((n : Int) - 1 + 2 - 1) / 2).toNat = n / 2 := by omega
    rw [e]
    apply List.map_congr_left
    intro k _
    omega
  · rw [if_neg h]
    have : n = 1 := by omega
    subst this
    rfl
theorem pick_od {α : Type} (x : α) (r : List α) : pick (x :: r) ((List.range ((x :: r).length / 2)).map fun k => 1 + 2 * k) = ev r := by
  rw [← pick_ev r ((r.length + 1) / 2) rfl]
  unfold pick
  rw [List.filterMap_map, List.filterMap_map, List.length_cons]
  congr 1
  funext k
  show (x :: r)[1 + 2 * k]? = r[2 * k]?
  rw [Nat.add_comm]
  rfl
end HopR

set_option Elab.async false
set_option linter.all false
set_option maxRecDepth 100000
namespace HopR
open PySem PySem.Spec PyProof.Rows L2 LamX
/-! ### what a try takes it may be asked of slots of the def's own number alone -/
theorem takes_len {X : Cx} {W : WX} (tk : Takes X W) : Takes X (fun cls d σ H => σ.length = X.N.length → W cls d σ H) := by
  rintro u s' ⟨a, B, sI, pins, σ, H, cls, d, e, I, nb, up, sky, na, os, ag, w⟩
  exact tk u s' ⟨a, B, sI, pins, σ, H, cls, d, e, I, nb, up, sky, na, os, ag, w I.len⟩
theorem list4 {α : Type _} {l : List α} (h : l.length = 4) : ∃ a b c d, l = [a, b, c, d] := by
  match l, h with
  | [a, b, c, d], _ => exact ⟨a, b, c, d, rfl⟩
/-! ### the eleven refusals, and what an exception of one of them answers -/
structure Kinds (K : PySem.W.Frag) (mg : Str → Option Value) (HE c0 c1 c2 c3 c4 c5 c6 c7 c8 c9 c10 : Addr) : Prop where
  ve : mg "ValueError" = none
  gH : mg "HopError" = some (.ref HE)
  g0 : mg "NoNumber" = some (.ref c0)
  g1 : mg "NoRow" = some (.ref c1)
  g2 : mg "NoPace" = some (.ref c2)
  g3 : mg "NoStep" = some (.ref c3)
  g4 : mg "NoWord" = some (.ref c4)
  g5 : mg "NoPlace" = some (.ref c5)
  g6 : mg "NoHeap" = some (.ref c6)
  g7 : mg "TooMany" = some (.ref c7)
  g8 : mg "NoWay" = some (.ref c8)
  g9 : mg "NoLines" = some (.ref c9)
  g10 : mg "NoRing" = some (.ref c10)
structure Raised (K : PySem.W.Frag) (D HE c0 c1 c2 c3 c4 c5 c6 c7 c8 c9 c10 : Addr) (m : Nat) : Prop where
  lt : m < 11
  ex : PySem.W.exmOne K (.ref D) (.ref HE) = some true
  C : ExcC K D
  kH : PySem.W.kitOne K (.ref D) (.ref HE) = some true
  kV : PySem.W.kitOne K (.ref D) (.type "ValueError") = some true
  k0 : PySem.W.kitOne K (.ref D) (.ref c0) = some (decide (0 = m))
  k1 : PySem.W.kitOne K (.ref D) (.ref c1) = some (decide (1 = m))
  k2 : PySem.W.kitOne K (.ref D) (.ref c2) = some (decide (2 = m))
  k3 : PySem.W.kitOne K (.ref D) (.ref c3) = some (decide (3 = m))
  k4 : PySem.W.kitOne K (.ref D) (.ref c4) = some (decide (4 = m))
  k5 : PySem.W.kitOne K (.ref D) (.ref c5) = some (decide (5 = m))
  k6 : PySem.W.kitOne K (.ref D) (.ref c6) = some (decide (6 = m))
  k7 : PySem.W.kitOne K (.ref D) (.ref c7) = some (decide (7 = m))
  k8 : PySem.W.kitOne K (.ref D) (.ref c8) = some (decide (8 = m))
  k9 : PySem.W.kitOne K (.ref D) (.ref c9) = some (decide (9 = m))
  k10 : PySem.W.kitOne K (.ref D) (.ref c10) = some (decide (10 = m))
def flags (m : Nat) : List V := [.bl (decide (0 = m)), .bl (decide (1 = m)), .bl (decide (2 = m)), .bl (decide (3 = m)), .bl (decide (4 = m)), .bl (decide (5 = m)), .bl (decide (6 = m)), .bl (decide (7 = m)), .bl (decide (8 = m)), .bl (decide (9 = m)), .bl (decide (10 = m))]
theorem flags_flat (m : Nat) : (flags m).all flatV = true := rfl
theorem flags_one : ∀ m < 11, ((flags m).countP fun z => eqV z (.bl true)) = 1 := by decide +kernel
theorem flags_at : ∀ m < 11, ∃ z, (flags m)[m]? = some z ∧ eqV z (.bl true) = true ∧ ∀ k < m, ∀ z', (flags m)[k]? = some z' → eqV z' (.bl true) = false := by
  intro m hm
  rcases (show m = 0 ∨ m = 1 ∨ m = 2 ∨ m = 3 ∨ m = 4 ∨ m = 5 ∨ m = 6 ∨ m = 7 ∨ m = 8 ∨ m = 9 ∨ m = 10 by omega) with rfl | rfl | rfl | rfl | rfl | rfl | rfl | rfl | rfl | rfl | rfl <;>
    refine ⟨_, rfl, rfl, fun k hk z' hz => ?_⟩ <;> revert z' <;> revert k <;> decide +kernel
/-- the lambda raises an exception of the class D; its number is told behind it -/
def TCls (D : Addr) (m : Nat) : (XK → Hp → VK → Prop) → Hp → VK → Prop := fun tl H Q => ∀ R : VK, tl (fun cls d H' => cls = .ref D ∧ d = none ∧ ∀ H'', Same H' H'' → Q (.int (m : Int)) H'') H R
end HopR

set_option Elab.async false
set_option linter.all false
set_option maxRecDepth 100000
namespace HopR
open PySem PySem.Spec PyProof.Rows L2 LamX
/-! ### where all but tables of code objects stays -/
theorem ext_of {H H' : Hp} (s : Same H H') : ExtN H H' := ExtN.of s
theorem ext_lst {H H' : Hp} {p : Addr} {xs : List V} (s : ExtN H H') (e : H p = some (.lst xs)) : H' p = some (.lst xs) := s _ _ e fun _ z => nomatch z
theorem tyx_ext {K : PySem.W.Frag} {H H' : Hp} {x : V} {t : Value} (s : ExtN H H') (ty : TyX K H x t) : TyX K H' x t := by
  cases ty with
  | base h =>
    cases h with
    | non => exact .base .non
    | bl x => exact .base (.bl x)
    | int i => exact .base (.int i)
    | str x => exact .base (.str x)
    | flt x => exact .base (.flt x)
    | lst e => exact .base (.lst (s _ _ e fun _ z => nomatch z))
    | frz e => exact .base (.frz (s _ _ e fun _ z => nomatch z))
    | tup e => exact .base (.tup (s _ _ e fun _ z => nomatch z))
    | dK e => exact .base (.dK (s _ _ e fun _ z => nomatch z))
    | dT e => exact .base (.dT (s _ _ e fun _ z => nomatch z))
    | ins e a b c d f => exact .base (.ins (s _ _ e fun _ z => nomatch z) a b c d f)
  | byt b => exact .byt b
  | set e => exact .set (s _ _ e fun _ z => nomatch z)
  | kList e c => exact .kList e c
  | kTuple e c => exact .kTuple e c
  | kDict e c => exact .kDict e c
  | fTuple e => exact .fTuple (s _ _ e fun _ z => nomatch z)
  | fDict e => exact .fDict (s _ _ e fun _ z => nomatch z)
theorem odd_ext {K : PySem.W.Frag} {H H' : Hp} {x : V} (s : ExtN H H') (h : Odd K H x) : Odd K H' x := by
  obtain ⟨t, b, ty, k⟩ := h
  exact ⟨t, b, tyx_ext s ty, k⟩
theorem notxt_ext {K : PySem.W.Frag} {H H' : Hp} {x : V} (s : ExtN H H') (h : NoTxt K H x) : NoTxt K H' x := by
  obtain ⟨t, ty, k⟩ := h
  exact ⟨t, tyx_ext s ty, k⟩
theorem tabs_one {H : Hp} {P : Addr} {q : Str} (h : H P = some (.tbl #[])) : Tabs [(P, q)] H := fun p hp => by
  rw [List.mem_singleton.mp hp]
  exact TabS.nil h
end HopR

set_option Elab.async false
set_option linter.all false
set_option maxRecDepth 100000
namespace HopR
open PySem PySem.Spec PyProof.Rows L2 LamX NdefX
/-! ### what never changes -/
abbrev fz (ob : Obj) : HO := .frz ob (.own 0)
section
variable {P : Program} {w : World} {H H' : Hp} {h h' B : Heap} {cl : List (Str × Addr)} {fs : List Addr}
theorem fz_get {a : Addr} {ob : Obj} (hok : HOk P w H h) (e : H a = some (fz ob)) : h.get? a = some ob := (hok a _ e).1
/-- b is a cell of cl -/
def InC (cl : List (Str × Addr)) (b : Addr) : Prop := ∃ y, cl.lookup y = some b
open Classical in
/-- the cells are not tracked -/
noncomputable def off (cl : List (Str × Addr)) (H : Hp) : Hp := fun b => if InC cl b then none else H b
open Classical in
/-- the cells are tracked as in H, all else as in H' -/
noncomputable def bck (cl : List (Str × Addr)) (H H' : Hp) : Hp := fun b => if InC cl b then H b else H' b
theorem off_in {b : Addr} (h : InC cl b) : off cl H b = none := by
  unfold off
  rw [if_pos h]
theorem off_out {b : Addr} (h : ¬ InC cl b) : off cl H b = H b := by
  unfold off
  rw [if_neg h]
theorem bck_in {b : Addr} (h : InC cl b) : bck cl H H' b = H b := by
  unfold bck
  rw [if_pos h]
theorem bck_out {b : Addr} (h : ¬ InC cl b) : bck cl H H' b = H' b := by
  unfold bck
  rw [if_neg h]
theorem off_none {b : Addr} (n : H b = none) : off cl H b = none := by
  by_cases h : InC cl b
  · exact off_in h
  · rw [off_out h]
    exact n
/-- the cells stand frozen -/
def FrzC (cl : List (Str × Addr)) (H : Hp) : Prop := ∀ y c, cl.lookup y = some c → ∃ ob v, H c = some (fz ob) ∧ ob.data = .cell v
theorem FrzC.no (C : FrzC cl H) {b : Addr} {o : HO} (e : H b = some o) (n : ∀ ob, o ≠ fz ob) : ¬ InC cl b := fun ⟨y, hy⟩ => by
  obtain ⟨ob, _, h, _⟩ := C y b hy
  exact n ob (Option.some.inj (e.symm.trans h))
theorem FrzC.ext (C : FrzC cl H) (e : ExtN H H') : FrzC cl H' := fun y c h => by
  obtain ⟨ob, v, h1, h2⟩ := C y c h
  exact ⟨ob, v, e _ _ h1 (fun _ z => nomatch z), h2⟩
theorem env_off {K : PySem.W.Frag} {mg : Str → Option Value} {base : Heap} {A : Around} {outer : List Env} {s : Shared} (C : FrzC cl H) (e0 : Env0 P w K mg base A outer s H) : Env0 P w K mg base A outer s (off cl H) := by
  refine ⟨e0.frames, e0.mod, fun b o h => ⟨(e0.bs b o h).1, off_none (e0.bs b o h).2⟩, e0.bsz, e0.funs, fun b hb => off_none (e0.frf b hb), fun b o h => ?_, e0.bare⟩
  by_cases hb : InC cl b
  · rw [off_in hb] at h
    cases h
  · rw [off_out hb] at h
    refine (e0.hok b o h).stay (fun _ _ _ q => q) (fun c q => ?_) fun c xs q => ?_
    · rw [off_out (C.no q fun _ z => nomatch z)]
      exact q
    · rw [off_out (C.no q fun _ z => nomatch z)]
      exact q
/-- what the ground says where the cells were kept, so says the ground with them -/
theorem hok_back (C : FrzC cl H) (hc : ∀ y c ob v, cl.lookup y = some c → H c = some (fz ob) → ob.data = .cell v → B.get? c = some ob ∧ H' c = none) (hok' : HOk P w H' B) : HOk P w (bck cl H H') B := fun b o e => by
  have keep : ∀ c u, H' c = some u → bck cl H H' c = some u := fun c u q => by
    refine (bck_out fun ⟨y, hy⟩ => ?_).trans q
    obtain ⟨ob, v, h1, h2⟩ := C y c hy
    rw [(hc y c ob v hy h1 h2).2] at q
    cases q
  by_cases hb : InC cl b
  · obtain ⟨y, hy⟩ := hb
    obtain ⟨ob, v, h1, h2⟩ := C y b hy
    rw [bck_in ⟨y, hy⟩, h1] at e
    cases e
    have g := (hc y b ob v hy h1 h2).1
    exact ⟨g, ob, g⟩
  · rw [bck_out hb] at e
    exact (hok' b o e).stay (fun _ _ _ q => q) (fun c q => keep c _ q) fun c xs q => keep c _ q
theorem un_back (C : FrzC cl H) (nf : ∀ b ∈ fs, H b = none) (hok : HOk P w H h) (hok' : HOk P w H' h') (u : Un fs [] (off cl H) H' h h') : Un fs [] H (bck cl H H') h h' ∧ HOk P w (bck cl H H') h' := by
  have nx : ∀ b : Addr, b ∉ ([] : List Addr) := fun b z => nomatch z
  have hc : ∀ y c ob v, cl.lookup y = some c → H c = some (fz ob) → ob.data = .cell v → h'.get? c = some ob ∧ H' c = none := fun y c ob v hy h1 _ =>
    have g := fz_get hok h1
    have n : off cl H c = none := off_in ⟨y, hy⟩
    ⟨u.keep c ob g n (fun z => by rw [nf c z] at h1; cases h1) (nx c), u.free c ob g n (nx c)⟩
  refine ⟨⟨fun b o e n hb hx => u.keep b o e (off_none n) hb hx, fun b o e n hb hx => u.slot b o e (off_none n) hb hx, fun b o e n hx => ?_, u.there, fun b xs e => ?_, fun b o v e => ?_, fun b ps e => ?_⟩, hok_back C hc hok'⟩
  · by_cases hb : InC cl b
    · rw [bck_in hb]
      exact n
    · rw [bck_out hb]
      exact u.free b o e (off_none n) hx
  · have hb := C.no e fun _ z => nomatch z
    rw [bck_out hb]
    exact u.tups b xs ((off_out hb).trans e)
  · by_cases hb : InC cl b
    · rw [bck_in hb]
      exact e
    · rw [bck_out hb]
      exact u.frzs b o v ((off_out hb).trans e)
  · have hb := C.no e fun _ z => nomatch z
    rw [bck_out hb]
    exact u.tbls b ps ((off_out hb).trans e)
theorem ub_back (C : FrzC cl H) (nf : ∀ b ∈ fs, H b = none) (hok : HOk P w H h) (hok' : HOk P w H' B) (u : UB fs (off cl H) H' h B h') : UB fs H (bck cl H H') h B h' ∧ HOk P w (bck cl H H') B ∧ ∀ b, InC cl b → ∃ ob, B.get? b = some ob := by
  have hc : ∀ y c ob v, cl.lookup y = some c → H c = some (fz ob) → ob.data = .cell v → B.get? c = some ob ∧ H' c = none := fun y c ob v hy h1 _ =>
    have g := fz_get hok h1
    have n : off cl H c = none := off_in ⟨y, hy⟩
    ⟨u.keep c ob g n (fun z => by rw [nf c z] at h1; cases h1), u.free c ob g n⟩
  refine ⟨⟨fun b o e n hb => u.keep b o e (off_none n) hb, u.slot, fun b o e n => ?_, u.there, fun b xs e => ?_, fun b o v e => ?_, fun b ps e => ?_⟩, hok_back C hc hok', fun b ⟨y, hy⟩ => ?_⟩
  · by_cases hb : InC cl b
    · rw [bck_in hb]
      exact n
    · rw [bck_out hb]
      exact u.free b o e (off_none n)
  · have hb := C.no e fun _ z => nomatch z
    rw [bck_out hb]
    exact u.tups b xs ((off_out hb).trans e)
  · by_cases hb : InC cl b
    · rw [bck_in hb]
      exact e
    · rw [bck_out hb]
      exact u.frzs b o v ((off_out hb).trans e)
  · have hb := C.no e fun _ z => nomatch z
    rw [bck_out hb]
    exact u.tbls b ps ((off_out hb).trans e)
  · obtain ⟨ob, v, h1, h2⟩ := C y b hy
    exact ⟨ob, (hc y b ob v hy h1 h2).1⟩
theorem cr_back {K : PySem.W.Frag} {mg : Str → Option Value} {base : Heap} {A : Around} {outer : List Env} {s s' : Shared} {Q : VK} {E : XK} {r : Result} (C : FrzC cl H) (e0 : Env0 P w K mg base A outer s H)
    (c : CR (L2.CX P w) outer P w (off cl H) s (fun v H' => Q v (bck cl H H')) (fun cls d H' => E cls d (bck cl H H')) r s') : CR (L2.CX P w) outer P w H s Q E r s' := by
  match r, c with
  | .error e, c =>
    obtain ⟨a, B, H1, cls, d, rfl, fl, hok, ub, na, os, ag, hE⟩ := c
    obtain ⟨u2, k2, hB⟩ := ub_back C e0.frf e0.hok hok ub
    refine ⟨a, B, _, cls, d, rfl, fl, k2, u2, ?_, os, ag, hE⟩
    refine (bck_out fun z => ?_).trans na
    obtain ⟨ob, e⟩ := hB a z
    rw [fl.2.1] at e
    cases e
  | .ok (.ret v), c =>
    obtain ⟨x, H1, os, ag, un, hok, rv, q⟩ := c
    obtain ⟨u2, k2⟩ := un_back C e0.frf e0.hok hok un
    exact ⟨x, _, os, ag, u2, k2, rv, q⟩
  | .ok .next, c => exact c.elim
  | .ok .brk, c => exact c.elim
  | .ok .cont, c => exact c.elim
theorem same_back (C : FrzC cl H) (s : Same (off cl H) H') : Same H (bck cl H H') := fun b o e => by
  by_cases hb : InC cl b
  · rw [bck_in hb]
    exact e
  · rw [bck_out hb]
    exact s b o ((off_out hb).trans e)
end
/-! ### a lambda without parameters runs -/
section
variable {P : Program} {w : World} {K : PySem.W.Frag} {mg : Str → Option Value} {base : Heap} {k : Nat} {f c' : Addr} {q : Str} {params : Arguments} {body : Expr} {scope : Scope} {cl : List (Str × Addr)} {fr : List Str}
abbrev lamF (q : Str) (params : Arguments) (scope : Scope) (cl : List (Str × Addr)) (c' : Addr) : NF := ⟨"<lambda>", q, params, [], scope, cl, c'⟩
abbrev lamO (q : Str) (params : Arguments) (body : Expr) (scope : Scope) (cl : List (Str × Addr)) (pm : Value) (c' : Addr) (ctv : Value) : Obj := PySem.W.kla_obj "<lambda>" q params body scope cl pm c' ctv
theorem lam_run {t : TE} {A : Around} {outer : List Env} {s : Shared} {H : Hp} {Q : VK} {E : XK} {pm ctv : Value} {ws : List (Option V)} (S : NScope fr [] fr scope) (hbind : bindArgs (PySem.W.kla_fn "<lambda>" q params body scope cl pm (.ref c') ctv) ⟨[], []⟩ = pure [])
    (hbody : Room k (A.deeper (envF (lamF q params scope cl c') f s.heap.objs.size)) → PE (ncx (L2.CX P w) P w K mg base fr (lamF q params scope cl c') f A outer s H E) body t)
    (hr : Room (k + 1) A) (e0 : Env0 P w K mg base A outer s H) (hf : s.heap.get? f = some (lamO q params body scope cl pm c' ctv)) (hc : s.heap.CodeRec (.ref c') q) (C : CellsAt cl fr ws s.heap H) (h : t (startF fr [] ws) H Q) :
    codeAny (model P w) A (.call (.ref f) ⟨[], []⟩) (CR (L2.CX P w) outer P w H s Q E) s := by
  have lim : s.heap.NoLimit := e0.mod.nolimit.keeps fun b o e => (e0.bs b o e).1
  refine PySem.W.kla_callFunE hr.depth hf rfl S.co S.gen rfl hc ?_
  rw [hbind]
  refine wpAny_pure (wpAny_newFunctionEnv S.nocell (fun y hy => absurd hy (by simp)) (fun h₁ hns hsb => ⟨lim.fresh _ hsb, ?_⟩) S.kind)
  have old : ∀ b o, s.heap.get? b = some o → h₁.get? b = some o := fun b o e => hsb.extBut b o (Nat.ne_of_lt (Heap.lt_size e)) (Heap.get?_push_of_some _ e)
  have start := inv_startN (CX := L2.CX P w) (f := f) (E := E) (tk := s.toks + ([] : List (Str × Value)).length) (F := lamF q params scope cl c') S hr.hd e0 (vs := []) (us := []) rfl .nil C hns old
  refine PySem.W.kla_codeExpr (wpAny_mono ((hbody (hr.deeper _)).run [] _ _ H Q start h) (fun v s' z => ?_) fun _ _ z => z)
  obtain ⟨x, H', J, rv, z⟩ := z
  exact ⟨x, H', J.os, J.bare, J.base, J.hok, rv, z⟩
/-! ### a lambda that is kept: all that it leans on stands frozen -/
structure Kept (H : Hp) (f c' : Addr) (q : Str) (params : Arguments) (body : Expr) (scope : Scope) (cl : List (Str × Addr)) (fr : List Str) (ws : List V) : Prop where
  fn : ∃ pm ctv, H f = some (fz (lamO q params body scope cl pm c' ctv))
  co : H c' = some (CodeO c' q)
  inj : ∀ x y c, cl.lookup x = some c → cl.lookup y = some c → x = y
  cells : FrzC cl H
  has : ∀ (i : Nat) (y : Str), fr[i]? = some y → ∃ c ob u v, cl.lookup y = some c ∧ H c = some (fz ob) ∧ ob.data = .cell (some u) ∧ ws[i]? = some v ∧ L2.RelV v u
  len : ws.length = fr.length
theorem Kept.ext {H H' : Hp} {ws : List V} (h : Kept H f c' q params body scope cl fr ws) (e : ExtN H H') : Kept H' f c' q params body scope cl fr ws := by
  obtain ⟨pm, ctv, hf⟩ := h.fn
  refine ⟨⟨pm, ctv, e _ _ hf fun _ z => nomatch z⟩, e _ _ h.co codeO_ne, h.inj, h.cells.ext e, fun i y hy => ?_, h.len⟩
  obtain ⟨c, ob, u, v, h1, h2, h3⟩ := h.has i y hy
  exact ⟨c, ob, u, v, h1, e _ _ h2 (fun _ z => nomatch z), h3⟩
/-- f raises, called without anything, an exception of the class D -/
structure Door (P : Program) (w : World) (K : PySem.W.Frag) (mg : Str → Option Value) (base : Heap) (k : Nat) (D : Addr) (H : Hp) (f : Addr) : Prop where
  fn : ∃ od fd sl, H f = some (fz ⟨.type "function", od, .func fd, sl⟩)
  co : ∃ c' q, H c' = some (CodeO c' q)
  run : ∀ (A : Around) (outer : List Env) (s : Shared) (H2 : Hp) (E : XK), Room k A → Env0 P w K mg base A outer s H2 → ExtN H H2 → (∀ H', Same H2 H' → E (.ref D) none H') → codeAny (model P w) A (.call (.ref f) ⟨[], []⟩) (CR (L2.CX P w) outer P w H2 s (fun _ _ => False) E) s
theorem Door.ext {D : Addr} {H H' : Hp} (d : Door P w K mg base k D H f) (e : ExtN H H') : Door P w K mg base k D H' f := by
  obtain ⟨od, fd, sl, h1⟩ := d.fn
  obtain ⟨c', q, h2⟩ := d.co
  exact ⟨⟨od, fd, sl, e _ _ h1 fun _ z => nomatch z⟩, ⟨c', q, e _ _ h2 codeO_ne⟩, fun A outer s H2 E hr e0 e2 => d.run A outer s H2 E hr e0 (e.trans e2)⟩
/-- all is kept but tables and what stands frozen -/
def Thru (H H' : Hp) : Prop := ∀ b o, H b = some o → (∀ ps, o ≠ .tbl ps) → (∀ ob, o ≠ fz ob) → H' b = some o
theorem door_of {D : Addr} {H : Hp} {ws : List V} {t : XK → TE} (h : Kept H f c' q params body scope cl fr ws) (S : NScope fr [] fr scope)
    (hbind : ∀ pm ctv, bindArgs (PySem.W.kla_fn "<lambda>" q params body scope cl pm (.ref c') ctv) ⟨[], []⟩ = pure [])
    (hbody : ∀ (A : Around) (outer : List Env) (s : Shared) (H : Hp) (E : XK), Room k (A.deeper (envF (lamF q params scope cl c') f s.heap.objs.size)) → PE (ncx (L2.CX P w) P w K mg base fr (lamF q params scope cl c') f A outer s H E) body (t E))
    (hsay : ∀ (H2 : Hp) (E : XK), Thru H H2 → (∀ H', Same H2 H' → E (.ref D) none H') → t E (startF fr [] (ws.map some)) H2 (fun _ _ => False)) :
    Door P w K mg base (k + 1) D H f := by
  obtain ⟨pm, ctv, hf⟩ := h.fn
  refine ⟨⟨_, _, _, hf⟩, ⟨c', q, h.co⟩, fun A outer s H2 E hr e0 e2 hE => ?_⟩
  have h2 := h.ext e2
  have hf2 := e2 _ _ hf fun _ z => nomatch z
  refine codeAny_mono (lam_run (t := t (fun cls d H' => E cls d (bck cl H2 H'))) (E := fun cls d H' => E cls d (bck cl H2 H')) (Q := fun _ _ => False) (ws := ws.map some) S (hbind pm ctv) (fun hr' => hbody A outer s (off cl H2) _ hr') hr (env_off h2.cells e0) (fz_get e0.hok hf2) (codeO_at e0.hok h2.co) ⟨?_, fun y c hy => ⟨off_in ⟨y, hy⟩, ?_⟩, h2.inj, fun i y hy => ?_⟩ ?_) fun r s' z => cr_back h2.cells e0 z
  · rw [List.length_map]
    exact h2.len
  · obtain ⟨ob, v, h1, h3⟩ := h2.cells y c hy
    exact ⟨v, ob, fz_get e0.hok h1, h3⟩
  · obtain ⟨c, ob, u, v, g1, g2, g3, g4, g5⟩ := h2.has i y hy
    refine ⟨c, g1, fun v' hv' => ⟨u, ?_, ob, fz_get e0.hok g2, g3⟩⟩
    rw [List.getElem?_map, g4] at hv'
    cases hv'
    exact g5
  · refine hsay _ _ (fun b o e n1 n2 => ?_) fun H' s' => hE _ (same_back h2.cells s')
    have e' := e2 b o e n1
    rw [off_out (h2.cells.no e' n2)]
    exact e'
end
/-! ### the lambda is made -/
section
variable {X : Cx} {pins : List (Addr × Obj)} {σ : L2.St} {H : Hp} {s : Shared}
theorem lam_new {T : List (Addr × Str)} {c P : Addr} {params : Arguments} {body : Expr} {scope : Scope} {pos : Pos} {E : Value → Shared → Prop} {Q : Value → Shared → Prop} (I : Inv X pins σ H s) (TB : TabB X.base X.mg c P) (hcode : X.env.code = .ref c)
    (hm : (P, X.env.qual ++ "<lambda>") ∈ T) (hu : ∀ p ∈ T, p.1 = P → p.2 = X.env.qual ++ "<lambda>") (hT : Tabs T H) (hdef : defaultsOf params X.env = ([], [])) (hfree : ∀ y ∈ scope.names, y.2 = .free → ∃ c, X.env.cells.lookup y.1 = some c)
    (say : ∀ (f c' : Addr) (pm ctv : Value) (H1 : Hp) (s' : Shared), Inv X pins σ H1 s' → ExtN H H1 → Tabs T H1 → H f = none → H1 f = some (fz (lamO (X.env.qual ++ "<lambda>") params body scope (cloFrom X.env.cells scope.names []) pm c' ctv)) → H1 c' = some (CodeO c' (X.env.qual ++ "<lambda>")) → Q (.ref f) s') :
    wpAny (model X.prog X.w) X.A (eval (.Lambda params body scope pos) X.env) Q E s := by
  obtain ⟨ps, hP, ht, ha⟩ := hT _ hm
  have atP : s.heap.get? P = some { cls := .none, data := .fields ps } := I.hok P _ hP
  -- the function's object is laid in a heap that has the code object
  have lay : ∀ {H1 : Hp} {h' : Heap} {tk : Tok} {c' : Addr} {pm ctv : Value}, Inv X pins σ H1 { s with heap := h', toks := tk } → ExtN H H1 → Tabs T H1 → s.heap.objs.size ≤ h'.objs.size → H1 c' = some (CodeO c' (X.env.qual ++ "<lambda>")) →
      Q (.ref h'.objs.size) { s with heap := h'.push (lamO (X.env.qual ++ "<lambda>") params body scope (cloFrom X.env.cells scope.names []) pm c' ctv), toks := tk } := fun {H1 h' tk c' pm ctv} I1 eN T1 hsz hco => by
    have g : (h'.push (lamO (X.env.qual ++ "<lambda>") params body scope (cloFrom X.env.cells scope.names []) pm c' ctv)).get? h'.objs.size = some (lamO (X.env.qual ++ "<lambda>") params body scope (cloFrom X.env.cells scope.names []) pm c' ctv) := Heap.get?_push_size _ rfl
    have nF : H1 h'.objs.size = none := I1.hok.fresh (Nat.le_refl _)
    have up : ∀ b o, H1 b = some o → upd H1 h'.objs.size (fz (lamO (X.env.qual ++ "<lambda>") params body scope (cloFrom X.env.cells scope.names []) pm c' ctv)) b = some o := fun b o e => (upd_ne (ne_of_none e nF)).trans e
    exact say h'.objs.size c' pm ctv _ _ (I1.laid (o := fz (lamO (X.env.qual ++ "<lambda>") params body scope (cloFrom X.env.cells scope.names []) pm c' ctv)) (t' := tk) (fun b u e => Heap.get?_push_of_some _ e) (Nat.le_refl _) ⟨g, _, g⟩) (eN.trans (ExtN.of up)) (T1.ext up) (I.hok.fresh hsz) upd_same (up _ _ hco)
  refine PySem.W.kla_eval hdef ?_
  cases hc : codeAmong pos ps.toList with
  | some cv =>
    obtain ⟨c', rfl, hco⟩ := ha pos cv hc
    exact PySem.W.kla_makeFunctionHit (mg := X.mg) (c := c) (P := P) (ps := ps) (closure_ok hfree) I.ok.glob (I.mod.glob.keeps I.bk) hcode (TB.code.keeps I.bk) atP ht hc (TB.bm.keeps I.bk) fun ctv h' tk hx hsz => lay (I.kept hx) (ExtN.refl H) hT hsz hco
  | none =>
    refine PySem.W.kla_makeFunction (mg := X.mg) (c := c) (P := P) (ps := ps) (closure_ok hfree) I.ok.glob (I.mod.glob.keeps I.bk) hcode (TB.code.keeps I.bk) atP ht hc TB.gP (TB.bm.keeps I.bk) fun c' ctv h' tk hx hge hlt hrec htb => ?_
    obtain ⟨_, oc, vs, t, ec, g1, g2, g3⟩ := hrec
    cases ec
    have nC : H c' = none := I.hok.fresh hge
    have stay : ∀ b o, H b = some o → (∀ ps, o ≠ .tbl ps) → upd (upd H P (.tbl (ps ++ #[rawInt pos.line, rawInt pos.col, .ref c']))) c' (CodeO c' (X.env.qual ++ "<lambda>")) b = some o := fun b o e n => by
      rw [upd_ne (ne_of_none e nC), upd_ne fun z => by rw [z, hP] at e; exact n ps (Option.some.inj e).symm]
      exact e
    have el : (ps ++ #[rawInt pos.line, rawInt pos.col, .ref c']).toList = ps.toList ++ [rawInt pos.line, rawInt pos.col, .ref c'] := by simp
    refine lay (inv_table I hP hx htb hge ⟨oc, vs, t, g1, g2, g3⟩) stay (fun p hp => ?_) (Nat.le_trans hge (Nat.le_of_lt hlt)) upd_same
    by_cases hb : p.1 = P
    · rw [hu p hp hb, hb]
      refine ⟨_, (upd_ne (ne_of_none hP nC)).trans upd_same, el ▸ PySem.TriplesOk_snoc _ _ _ _ ht, fun p' cv h' => ?_⟩
      rcases among_app _ ht (el ▸ h') with z | z
      · obtain ⟨c0, e1, e2⟩ := ha p' cv z
        exact ⟨c0, e1, stay _ _ e2 codeO_ne⟩
      · exact ⟨c', z, upd_same⟩
    · obtain ⟨qs, a1, a2, a3⟩ := hT p hp
      refine ⟨qs, (upd_ne (ne_of_none a1 nC)).trans ((upd_ne hb).trans a1), a2, fun p' cv h' => ?_⟩
      obtain ⟨c0, e1, e2⟩ := a3 p' cv h'
      exact ⟨c0, e1, stay _ _ e2 codeO_ne⟩
def tLamF (T : List (Addr × Str)) (q : Str) (params : Arguments) (body : Expr) (scope : Scope) (cl : List (Str × Addr)) : TE := fun _ H Q => Tabs T H ∧ ∀ (f c' : Addr) (pm ctv : Value) (H1 : Hp), ExtN H H1 → Tabs T H1 → H f = none → H1 f = some (fz (lamO q params body scope cl pm c' ctv)) → H1 c' = some (CodeO c' q) → Q (.ref f) H1
theorem pe_lamF {T : List (Addr × Str)} {c P : Addr} {params : Arguments} {body : Expr} {scope : Scope} {pos : Pos} (TB : TabB X.base X.mg c P) (hcode : X.env.code = .ref c)
    (hm : (P, X.env.qual ++ "<lambda>") ∈ T) (hu : ∀ p ∈ T, p.1 = P → p.2 = X.env.qual ++ "<lambda>") (hdef : defaultsOf params X.env = ([], [])) (L : LamS X.env.scope scope) :
    PE X (.Lambda params body scope pos) (tLamF T (X.env.qual ++ "<lambda>") params body scope (cloFrom X.env.cells scope.names [])) :=
  ⟨fun _ _ _ H _ I ⟨hT, h⟩ => lam_new I TB hcode hm hu hT hdef (L.has I.ok) fun f c' pm ctv H1 _ I1 e1 t1 h0 h1 h2 => ⟨.ref f, H1, I1, rfl, h f c' pm ctv H1 e1 t1 h0 h1 h2⟩⟩
/-! ### x(), x a kept lambda that raises -/
theorem pe_door {i k : Nat} {a : Str} {D : Addr} {E : XK} {p1 p2 : Pos} (hr : Room k X.A) (hx : Passes (L2.CX X.prog X.w) X E) (hN : X.N[i]? = some a) (hv : Vis X.env.scope a) (hd : (a == ("__debug__" : Str)) = false := by decide) (hcd : (a == ("__classdict__" : Str)) = false := by decide) :
    PE X (.Call (.Name a p1) [] [] p2) (fun σ H _ => ∃ f, σ[i]? = some (some (.ref f)) ∧ Door X.prog X.w X.K X.mg X.base k D H f ∧ ∀ H', Same H H' → E (.ref D) none H') := by
  refine ⟨fun pins s σ H Q I h => ?_⟩
  obtain ⟨f, hs, d, hE⟩ := h
  refine wpAny_Call_Name_kw (thn ((pe_var (pos := p1) hN hv hd hcd).run pins s σ H (fun v H1 => v = .ref f ∧ H1 = H) I ⟨.ref f, hs, rfl, rfl⟩) fun u s1 z => ?_)
  obtain ⟨_, _, I1, r1, rfl, rfl⟩ := z
  cases (show u = Value.ref f from r1)
  obtain ⟨od, fd, sl, hf⟩ := d.fn
  refine PySem.W.callWith_F0 ⟨_, od, fd, sl, fz_get I1.hok hf⟩ (wpAny_call (codeAny_mono (d.run X.A X.stack s1 _ E hr I1.env0 (ExtN.refl _) hE) fun r s' z => ?_))
  match r, z with
  | .error e, z => exact hx pins σ _ s1 e s' I1 z
  | .ok (.ret v), z => exact (z.choose_spec.choose_spec.2.2.2.2.2).elim
  | .ok .next, z => exact z.elim
  | .ok .brk, z => exact z.elim
  | .ok .cont, z => exact z.elim
end
/-! ### a def that ends with a return, told with its slots -/
structure PSR (X : Cx) (st : List Stmt) (t : (V → L2.St → Hp → Prop) → L2.St → Hp → Prop) : Prop where
  run : ∀ (s : Shared) (σ : L2.St) (H : Hp) (R : V → L2.St → Hp → Prop), Inv X [] σ H s → t R σ H → wpAny (model X.prog X.w) X.A (execs st X.env) (fun fl s' => ∃ u v σ' H', fl = .ret u ∧ Inv X [] σ' H' s' ∧ L2.RelV v u ∧ R v σ' H') X.xe s
theorem psr_ret {X : Cx} {e : Expr} {te : TE} {pos : Pos} (h : PE X e te) : PSR X [.Return (some e) pos] (fun R σ H => te σ H (fun v H' => R v σ H')) :=
  ⟨fun s σ H _ I q => wpAny_execs_cons (wpAny_Return_some (thn (h.run [] s σ H _ I q) fun u _ ⟨v, H', J, rv, z⟩ => ⟨u, v, σ, H', rfl, J, rv, z⟩))⟩
theorem psr_cons {X : Cx} {st : Stmt} {rest : List Stmt} {t : TS} {u : (V → L2.St → Hp → Prop) → L2.St → Hp → Prop} (h1 : PS X st t) (h2 : PSR X rest u) : PSR X (st :: rest) (fun R σ H => t { nx := u R, rt := fun _ _ => False } σ H) := by
  refine ⟨fun s σ H R I q => wpAny_execs_cons (thn (h1.run [] s σ H _ I q) fun fl s1 z => ?_)⟩
  match fl, z with
  | .next, ⟨σ', H', I', z⟩ => exact h2.run s1 σ' H' R I' z
  | .ret _, ⟨_, _, _, _, _, z⟩ => exact z.elim
  | .brk, ⟨_, _, _, z⟩ => exact z.elim
  | .cont, ⟨_, _, _, z⟩ => exact z.elim
/-- H' is H with the frame's cells frozen, each with what the slots say -/
structure Froze (cells : List (Str × Addr)) (N : List Str) (sc : Scope) (σ : L2.St) (H H' : Hp) : Prop where
  out : ∀ b, ¬ InC cells b → H' b = H b
  no : ∀ b, InC cells b → H b = none
  inj : ∀ x y c, cells.lookup x = some c → cells.lookup y = some c → x = y
  at_ : ∀ y c, cells.lookup y = some c → ∃ ob u, H' c = some (fz ob) ∧ ob.data = .cell u ∧ ∀ (i : Nat) (v : V), N[i]? = some y → σ[i]? = some (some v) → sc.names.lookup y = some .cell → ∃ u', u = some u' ∧ L2.RelV v u'
theorem Froze.same {cells : List (Str × Addr)} {N : List Str} {sc : Scope} {σ : L2.St} {H H' : Hp} (z : Froze cells N sc σ H H') : Same H H' := fun b o e => by
  rw [z.out b fun h => by rw [z.no b h] at e; cases e]
  exact e
theorem fn_ofC {CX : CXT} {P : Program} {w : World} {K : PySem.W.Frag} {mg : Str → Option Value} {base : Heap} {k : Nat} {f : Addr} {name qual : Str} {params : Arguments} {body : List Stmt} {scope : Scope} {dV kV doc pm cdv ct oc : Value} {an od : Option Addr}
    {osl : Array (Option Value)} {N ps : List Str} {sp : Sp} (lk : K.lookup f = some ⟨oc, od, .func (PySem.W.fnOf name qual params body scope dV kV doc pm an cdv ct), osl⟩) (hcd : PySem.W.codeIn K cdv qual = true) (S : FnScope N ps scope)
    (len : ∀ vs H Q E, sp vs H Q E → vs.length = ps.length)
    (hbody : ∀ (A : Around) (outer : List Env) (s : Shared) (H : Hp) (vs : List V) (Q : VK) (E : XK), Room k (A.deeper (envOfC qual scope s.heap.objs.size f cdv)) → sp vs H Q E →
      ∃ t, PSR (cxOf CX P w K mg base N qual scope f cdv A outer s H E) body t ∧ t (fun v σ' H' => ∀ H2, Froze (cellsFrom (s.heap.objs.size + 1) scope.names []) N scope σ' H' H2 → Q v H2) (start N vs) H) :
    FnOk P w K mg base CX (k + 1) f (PySem.W.fnOf name qual params body scope dV kV doc pm an cdv ct) ps sp := by
  refine ⟨len, fun A outer s H args us vs Q E hr e0 bind rv prom => ?_⟩
  have here := e0.mod.kin.keeps fun b o e => (e0.bs b o e).1
  have kinds : ∀ y ∈ ps.zip us, scope.names.lookup y.1 = some .local ∨ (scope.names.lookup y.1 = some .cell ∧ ((cellsFrom (s.heap.objs.size + 1) scope.names []).lookup y.1).isSome = true) := fun (y1, y2) hy =>
    (S.par y1 (List.of_mem_zip hy).1).imp id fun g => ⟨g, PySem.W.cellsFrom_some _ _ _ (.inl g)⟩
  obtain ⟨t, pr, rd⟩ := hbody A outer s H vs Q E (hr.deeper _) prom
  refine codeAny_call_function hr.depth (here _ _ lk) rfl S.co S.gen rfl (PySem.W.codeRec_of here hcd) (bind _ _ _ _ (wpAny_newFunctionEnv_cells S.kind kinds fun _ e s1 x => ?_))
  cases e
  refine ⟨(e0.mod.nolimit.keeps fun b o e => (e0.bs b o e).1).keeps x.toInCall.keep, codeAny_func (wpAny_mono (pr.run s1 _ H _ (inv_start S hr.hd e0 (len _ _ _ _ prom) rv x) rd) (fun fl s' z => ?_) fun _ _ z => z)⟩
  obtain ⟨u, v, σ', H', rfl, J, rv', z⟩ := z
  have ce : ∀ y c, (cellsFrom (s.heap.objs.size + 1) scope.names []).lookup y = some c → ∃ ob u, s'.heap.get? c = some ob ∧ ob.data = .cell u ∧ H' c = none ∧ s.heap.objs.size ≤ c := fun y c hy => by
    obtain ⟨u, ob, h1, h2⟩ := J.cell y c hy
    exact ⟨ob, u, h1, h2, J.freeC y c hy, J.ok.cab y c rfl hy⟩
  -- the cells, frozen
  classical
  let H2 : Hp := fun b => if InC (cellsFrom (s.heap.objs.size + 1) scope.names []) b then (s'.heap.get? b).map fz else H' b
  have h2in : ∀ b, InC (cellsFrom (s.heap.objs.size + 1) scope.names []) b → H2 b = (s'.heap.get? b).map fz := fun b h => if_pos h
  have h2out : ∀ b, ¬ InC (cellsFrom (s.heap.objs.size + 1) scope.names []) b → H2 b = H' b := fun b h => if_neg h
  have keep : ∀ b o, H' b = some o → H2 b = some o := fun b o e => (h2out b fun ⟨y, hy⟩ => by
    obtain ⟨_, _, _, _, n, _⟩ := ce y b hy
    rw [n] at e
    cases e).trans e
  have old : ∀ b o, s.heap.get? b = some o → ¬ InC (cellsFrom (s.heap.objs.size + 1) scope.names []) b := fun b o e ⟨y, hy⟩ => by
    obtain ⟨_, _, _, _, _, hc⟩ := ce y b hy
    exact absurd (Nat.lt_of_lt_of_le (Heap.lt_size e) hc) (Nat.lt_irrefl _)
  have un : Un (frs outer) [] H H' s.heap s'.heap := J.base
  refine ⟨v, H2, J.os, J.bare, ⟨un.keep, un.slot, fun b o e n hx => (h2out b (old b o e)).trans (un.free b o e n hx), un.there, fun b xs e => keep _ _ (un.tups b xs e), fun b o y e => keep _ _ (un.frzs b o y e), fun b qs e => ?_⟩, fun b o e => ?_, rv', z H2 ⟨h2out, fun b ⟨y, hy⟩ => J.freeC y b hy, J.ok.inj, fun y c hy => ?_⟩⟩
  · obtain ⟨more, e'⟩ := un.tbls b qs e
    exact ⟨more, keep _ _ e'⟩
  · by_cases hb : InC (cellsFrom (s.heap.objs.size + 1) scope.names []) b
    · obtain ⟨y, hy⟩ := hb
      obtain ⟨ob, _, h1, _⟩ := ce y b hy
      rw [h2in b ⟨y, hy⟩, h1] at e
      cases e
      exact ⟨h1, ob, h1⟩
    · rw [h2out b hb] at e
      exact (J.hok b o e).stay (fun _ _ _ q => q) (fun c q => keep _ _ q) fun c xs q => keep _ _ q
  · obtain ⟨ob, u', h1, h2, _, _⟩ := ce y c hy
    refine ⟨ob, u', by rw [h2in c ⟨y, hy⟩, h1]; rfl, h2, fun i x hi hx hk => ?_⟩
    obtain ⟨m, _, hl⟩ := J.loc
    obtain ⟨u2, r2, l⟩ := hl i y x hi hx (.inr (.inl hk))
    rcases l with ⟨k, _⟩ | ⟨_, c2, e2, ob2, g1, g2⟩
    · have k : scope.names.lookup y = some .local := k
      rw [hk] at k
      cases k
    · have e2 : (cellsFrom (s.heap.objs.size + 1) scope.names []).lookup y = some c2 := e2
      rw [hy] at e2
      cases e2
      rw [h1] at g1
      cases g1
      rw [h2] at g2
      cases g2
      exact ⟨u2, rfl, r2⟩
/-- a lambda of a def that has come to its end is kept -/
theorem kept_of {cells : List (Str × Addr)} {N : List Str} {sc scope : Scope} {σ : L2.St} {H H' : Hp} {f c' : Addr} {q : Str} {params : Arguments} {body : Expr} {fr : List Str} {js : List Nat} {ws : List V} {pm ctv : Value} (z : Froze cells N sc σ H H')
    (hf : H f = some (fz (lamO q params body scope (cloFrom cells scope.names []) pm c' ctv))) (hc : H c' = some (CodeO c' q)) (hfree : ∀ y ∈ scope.names, y.2 = .free → ∃ c, cells.lookup y.1 = some c) (hfr : ∀ y ∈ fr, (y, NameKind.free) ∈ scope.names) (hk : ∀ y ∈ fr, sc.names.lookup y = some .cell)
    (hj : js.map (fun j => N[j]?) = fr.map some) (hw : js.map (fun j => σ[j]?) = ws.map (fun v => some (some v))) : Kept H' f c' q params body scope (cloFrom cells scope.names []) fr ws := by
  have sm := z.same
  have hl : js.length = fr.length := by
    have := congrArg List.length hj
    rwa [List.length_map, List.length_map] at this
  have hl2 : js.length = ws.length := by
    have := congrArg List.length hw
    rwa [List.length_map, List.length_map] at this
  refine ⟨⟨pm, ctv, sm _ _ hf⟩, sm _ _ hc, fun x y c e1 e2 => z.inj x y c (clo_cm hfree e1) (clo_cm hfree e2), fun y c e => ?_, fun i y hy => ?_, hl2.symm.trans hl⟩
  · obtain ⟨ob, u, h1, h2, _⟩ := z.at_ y c (clo_cm hfree e)
    exact ⟨ob, u, h1, h2⟩
  · have hm := List.mem_of_getElem? hy
    obtain ⟨c, e⟩ := hfree (y, .free) (hfr y hm) rfl
    obtain ⟨ob, u, h1, h2, h3⟩ := z.at_ y c e
    have hi : i < js.length := by
      rw [hl]
      exact (List.getElem?_eq_some_iff.mp hy).1
    have e1 := congrArg (fun l => l[i]?) hj
    have e2 := congrArg (fun l => l[i]?) hw
    simp only [List.getElem?_map, hy, List.getElem?_eq_getElem hi, List.getElem?_eq_getElem (hl2 ▸ hi), Option.map_some, Option.some.injEq] at e1 e2
    obtain ⟨u', rfl, r⟩ := h3 _ _ e1 e2 (hk y hm)
    exact ⟨c, ob, u', _, clo_has hfree (hfr y hm) e, h1, h2, List.getElem?_eq_getElem (hl2 ▸ hi), r⟩
end HopR

set_option Elab.async false
set_option linter.all false
set_option maxRecDepth 100000
namespace HopR
open PySem PySem.Spec PyProof.Rows L2
/-! ### C(e, ..) in a try, where __init__ may raise -/
def tMakeS (C : Addr) (sp : Sp) (E : L2.St → XK) (t : TA) : TE := fun σ H Q => t σ H fun vs H1 => ∀ x dx, H1 x = none → H1 dx = none → dx ≠ x → sp (.ref x :: vs) (upd (upd H1 dx (.own x)) x (.ins C dx [])) (fun v H2 => v = .non ∧ Q (.ref x) H2) (E σ)
section
variable {X : Cx} {CX : CXT} {k : Nat} {f C : Addr} {fd : FuncData} {ps : List Str} {sp : Sp} {E : L2.St → XK} {x : Str} {p pos : Pos} {e : Expr} {es : List Expr} {t : TA}
theorem pe_makeS (M : Mk X.K C f) (F : FnOk X.prog X.w X.K X.mg X.base CX k f fd ps sp) (hr : Room (k + 1) X.A) (hg : Gl X x) (hm : X.mg x = some (.ref C)) (hb : Binds X.K fd ps []) (hx : ∀ σ, PassesAt CX X σ (E σ))
    (ha : PA X (e :: es) t) (hdb : (x == ("__debug__" : Str)) = false := by decide) (he : starEach (e :: es) X.env = (false, eval e X.env) :: starEach es X.env := by rfl) (hpl : (backTo pos (starEach es X.env)).any (·.1) = false := by rfl) :
    PE X (.Call (.Name x p) (e :: es) [] pos) (tMakeS C sp E t) := by
  constructor
  intro pins s0 σ H0 Q I0 h0
  refine wpAny_Call_Name_kw (ld_glob I0 hg hm ?_ hdb)
  refine PySem.W.callWith_K (h₀ := X.base) I0.ok.mod.kin M.kp ?_ he hpl
  refine thn (ha.run pos pins s0 σ H0 _ I0 h0) ?_
  rintro us s ⟨vs, H, I, r, h⟩
  refine ⟨I.kIn, ?_⟩
  have hq := h (s.heap.objs.size + 1) s.heap.objs.size (I.hok.fresh (Nat.le_succ _)) (I.hok.fresh (Nat.le_refl _)) (Nat.ne_of_lt (Nat.lt_succ_self _))
  have J := Inv.made (C := C) I
  have r2 : Vals (V.ref (s.heap.objs.size + 1) :: vs) (Value.ref (s.heap.objs.size + 1) :: us) := .cons rfl r
  have hl : (Value.ref (s.heap.objs.size + 1) :: us).length = ps.length := r2.length.symm.trans (F.len _ _ _ _ hq)
  have hbi := hb _ (Value.ref (s.heap.objs.size + 1) :: us) J.kIn (by rw [List.append_nil]; exact hl)
  rw [List.append_nil] at hbi
  have run := F.run _ X.stack _ _ ⟨Value.ref (s.heap.objs.size + 1) :: us, []⟩ _ _ _ (E σ) (hr.make C us []) (J.env0.make C us []) hbi r2 hq
  refine wpAny_call (make_map (f := f) I.kIn M.makes M.init (beq_iff_eq.mp M.fn) (codeAny_mono run ?_))
  intro r s' hq'
  match r, hq' with
  | .error e, hq' => exact hx σ pins _ _ e s' J hq'
  | .ok (.ret u), hq' =>
    obtain ⟨v, H', I3, rv, ev, q3⟩ := J.after hq'
    subst ev
    exact ⟨rv, V.ref (s.heap.objs.size + 1), H', I3, rfl, q3⟩
  | .ok .next, hq' => exact hq'.elim
  | .ok .brk, hq' => exact hq'.elim
  | .ok .cont, hq' => exact hq'.elim
end
end HopR

set_option Elab.async false
set_option linter.all false
set_option maxRecDepth 100000
namespace Hop
open PySem PySem.Spec PyProof.Rows L2 HopR LamX
abbrev nCl : List Str := ["_law_call", "_law_error", "e", "_law_found"]
theorem scClass : FnScope nCl ["_law_call"] (defScope sClass) := ⟨rfl, rfl, rfl, by decide +kernel, rfl, by decide +kernel, by decide +kernel⟩
section
variable {X : Cx} {HE c0 c1 c2 c3 c4 c5 c6 c7 c8 c9 c10 D : Addr} {m : Nat}
/-! ### _law_class_of -/
set_option maxHeartbeats 4000000 in
theorem class_gives {g : Addr} {cdg : Value} {q : Str} (Z : Kinds X.K X.mg HE c0 c1 c2 c3 c4 c5 c6 c7 c8 c9 c10) (R : Raised X.K D HE c0 c1 c2 c3 c4 c5 c6 c7 c8 c9 c10 m) (isi : X.mg "isinstance" = none) :
    GivesTo X nCl "_law_class_of" (defScope sClass) g cdg (defBody sClass) "_law_call" q (TCls D m) := by
  intro f c' s H Q tl act hc h
  have nd := scClass.nd
  refine ⟨_, pss_cons (ps_set (X := (cxOf C8.CX0 X.prog X.w X.K X.mg X.base nCl "_law_class_of" (defScope sClass) g cdg X.A X.stack s H C8.E0).nox) (i := 1) nd rfl (.inl rfl) pe_non)
    (pss_cons (ps_try_held (i := 2) (j := 1) (tb := fun W D σ H => ∃ Ech : XK, (∀ cls d σ' H', Ech cls d H' → σ'.length = 4 → W cls d σ' H') ∧ σ[0]? = some (some (.ref f)) ∧ H c' = some (CodeO c' q) ∧ tl Ech H (fun _ H' => D.nx σ H')) rfl rfl nd rfl rfl rfl rfl rfl (tests_one ⟨by rfl, by decide, .inl Z.gH⟩)
        (fun W pn xe tk _ => ?_) (fun a oe pn => pss_one (ps_set (i := 1) nd rfl (.inl rfl) (pv 2))))
    (pss_cons (ps_if (pt_cmpR op_isN (pv 1) pe_non (nomark _)) (pss_one (ps_ret pe_str)) pss_nil)
    (pss_cons (ps_set (i := 3) nd rfl (.inl rfl) (pe_lst (pa_cons (pe_callB call_isH (by rfl) isi (by decide +kernel) (pa_cons (pv 1) (pa_cons (pe_glob (v := .ref c0) (by rfl) Z.g0 rfl) pa_nil)))
      (pa_cons (pe_callB call_isH (by rfl) isi (by decide +kernel) (pa_cons (pv 1) (pa_cons (pe_glob (v := .ref c1) (by rfl) Z.g1 rfl) pa_nil)))
      (pa_cons (pe_callB call_isH (by rfl) isi (by decide +kernel) (pa_cons (pv 1) (pa_cons (pe_glob (v := .ref c2) (by rfl) Z.g2 rfl) pa_nil))) pa_nil)))))
    (pss_cons (ps_set (i := 3) nd rfl (.inl rfl) (pe_op op_cat (pv 3) (pe_lst (pa_cons (pe_callB call_isH (by rfl) isi (by decide +kernel) (pa_cons (pv 1) (pa_cons (pe_glob (v := .ref c3) (by rfl) Z.g3 rfl) pa_nil)))
      (pa_cons (pe_callB call_isH (by rfl) isi (by decide +kernel) (pa_cons (pv 1) (pa_cons (pe_glob (v := .ref c4) (by rfl) Z.g4 rfl) pa_nil)))
      (pa_cons (pe_callB call_isH (by rfl) isi (by decide +kernel) (pa_cons (pv 1) (pa_cons (pe_glob (v := .ref c5) (by rfl) Z.g5 rfl) pa_nil))) pa_nil))))))
    (pss_cons (ps_set (i := 3) nd rfl (.inl rfl) (pe_op op_cat (pv 3) (pe_lst (pa_cons (pe_callB call_isH (by rfl) isi (by decide +kernel) (pa_cons (pv 1) (pa_cons (pe_glob (v := .ref c6) (by rfl) Z.g6 rfl) pa_nil)))
      (pa_cons (pe_callB call_isH (by rfl) isi (by decide +kernel) (pa_cons (pv 1) (pa_cons (pe_glob (v := .ref c7) (by rfl) Z.g7 rfl) pa_nil)))
      (pa_cons (pe_callB call_isH (by rfl) isi (by decide +kernel) (pa_cons (pv 1) (pa_cons (pe_glob (v := .ref c8) (by rfl) Z.g8 rfl) pa_nil))) pa_nil))))))
    (pss_cons (ps_set (i := 3) nd rfl (.inl rfl) (pe_op op_cat (pv 3) (pe_lst (pa_cons (pe_callB call_isH (by rfl) isi (by decide +kernel) (pa_cons (pv 1) (pa_cons (pe_glob (v := .ref c9) (by rfl) Z.g9 rfl) pa_nil)))
      (pa_cons (pe_callB call_isH (by rfl) isi (by decide +kernel) (pa_cons (pv 1) (pa_cons (pe_glob (v := .ref c10) (by rfl) Z.g10 rfl) pa_nil))) pa_nil)))))
    (pss_cons (ps_if (PW.pt (pw_or (pt_cmpR op_ne (pe_bm PySem.F.plainAttrs_list PySem.F.slot_list_count PySem.F.type_list_count mt_countV (pv 3) (pa_cons pe_bl pa_nil)) pe_int (nomark _))
      (pw_or (pt_not (pt_val (pe_callB call_isH (by rfl) isi (by decide +kernel) (pa_cons (pv 1) (pa_cons (pe_glob (v := .ref HE) (by rfl) Z.gH rfl) pa_nil)))))
      (pw_or1 (pt_not (pt_val (pe_callB call_isH (by rfl) isi (by decide +kernel) (pa_cons (pv 1) (pa_cons (pe_bltn (v := .ty "ValueError") (by rfl) Z.ve (by decide +kernel) rfl) pa_nil))))))))) (pss_one (ps_ret pe_str)) pss_nil)
    (pss_one (ps_ret (pe_bm PySem.F.plainAttrs_list PySem.F.slot_list_index PySem.F.type_list_index mt_index (pv 3) (pa_cons pe_bl pa_nil))))))))))), ?_⟩
  · refine ⟨fun pins s' σ H' D I h' => ?_⟩
    obtain ⟨Ech, hW, h1, h2, h3⟩ := h'
    exact (pss_one (ps_expr (act _ pn xe Ech _ _ (takes_len tk) hW))).run pins s' σ H' D I ⟨h1, h2, h3⟩
  · refine ⟨fun cls d H' => cls = .ref D ∧ d = none ∧ ∀ H'', Same H' H'' → Q (.int (m : Int)) H'', ?_, rfl, hc, ?_⟩
    · rintro cls d σ' H' ⟨rfl, rfl, hq⟩ hl
      obtain ⟨a0, a1, a2, a3, rfl⟩ := list4 hl
      refine ⟨R.ex, fun a na => ?_⟩
      have s1 : Same H' (upd H' a (ExH (.ref D) none a)) := same_upd na
      have ha : upd H' a (ExH (.ref D) none a) a = some (ExH (.ref D) none a) := upd_same
      generalize upd H' a (ExH (.ref D) none a) = H1 at s1 ha
      refine ⟨.ref a, rfl, rfl, _, rfl, ?_⟩
      rw [decide_eq_false (fun z => nomatch z)]
      refine iteF ⟨.ref a, rfl, a, D, .ref c0, .ref c0, _, rfl, ha, R.C, .own _, R.k0, .ref a, rfl, a, D, .ref c1, .ref c1, _, rfl, ha, R.C, .own _, R.k1, .ref a, rfl, a, D, .ref c2, .ref c2, _, rfl, ha, R.C, .own _, R.k2, (by show 3 ≤ sizeLine; decide), fun l1 n1 => ?_⟩
      have s2 := s1.trans (same_upd (o := .lst [.bl (decide (0 = m)), .bl (decide (1 = m)), .bl (decide (2 = m))]) n1)
      have ha2 := same_upd (o := .lst [.bl (decide (0 = m)), .bl (decide (1 = m)), .bl (decide (2 = m))]) n1 _ _ ha
      have e2 : upd H1 l1 (.lst [.bl (decide (0 = m)), .bl (decide (1 = m)), .bl (decide (2 = m))]) l1 = some (.lst [.bl (decide (0 = m)), .bl (decide (1 = m)), .bl (decide (2 = m))]) := upd_same
      generalize upd H1 l1 (.lst [.bl (decide (0 = m)), .bl (decide (1 = m)), .bl (decide (2 = m))]) = H2 at s2 ha2 e2
      refine ⟨.ref l1, rfl, .ref a, rfl, a, D, .ref c3, .ref c3, _, rfl, ha2, R.C, .own _, R.k3, .ref a, rfl, a, D, .ref c4, .ref c4, _, rfl, ha2, R.C, .own _, R.k4, .ref a, rfl, a, D, .ref c5, .ref c5, _, rfl, ha2, R.C, .own _, R.k5, (by show 3 ≤ sizeLine; decide), fun l2 n2 => ?_⟩
      refine ⟨l1, l2, _, _, rfl, rfl, same_upd n2 _ _ e2, upd_same, (by show 3 + 3 ≤ sizeLine; decide), fun l3 n3 => ?_⟩
      have s3 := s2.trans ((same_upd (o := .lst [.bl (decide (3 = m)), .bl (decide (4 = m)), .bl (decide (5 = m))]) n2).trans (same_upd (o := .lst ([.bl (decide (0 = m)), .bl (decide (1 = m)), .bl (decide (2 = m))] ++ [.bl (decide (3 = m)), .bl (decide (4 = m)), .bl (decide (5 = m))])) n3))
      have ha3 := same_upd (o := .lst ([.bl (decide (0 = m)), .bl (decide (1 = m)), .bl (decide (2 = m))] ++ [.bl (decide (3 = m)), .bl (decide (4 = m)), .bl (decide (5 = m))])) n3 _ _ (same_upd (o := .lst [.bl (decide (3 = m)), .bl (decide (4 = m)), .bl (decide (5 = m))]) n2 _ _ ha2)
      have e3 : upd (upd H2 l2 (.lst [.bl (decide (3 = m)), .bl (decide (4 = m)), .bl (decide (5 = m))])) l3 (.lst ([.bl (decide (0 = m)), .bl (decide (1 = m)), .bl (decide (2 = m))] ++ [.bl (decide (3 = m)), .bl (decide (4 = m)), .bl (decide (5 = m))])) l3 = some (.lst ([.bl (decide (0 = m)), .bl (decide (1 = m)), .bl (decide (2 = m))] ++ [.bl (decide (3 = m)), .bl (decide (4 = m)), .bl (decide (5 = m))])) := upd_same
      generalize upd (upd H2 l2 (.lst [.bl (decide (3 = m)), .bl (decide (4 = m)), .bl (decide (5 = m))])) l3 (.lst ([.bl (decide (0 = m)), .bl (decide (1 = m)), .bl (decide (2 = m))] ++ [.bl (decide (3 = m)), .bl (decide (4 = m)), .bl (decide (5 = m))])) = H3 at s3 ha3 e3
      refine ⟨.ref l3, rfl, .ref a, rfl, a, D, .ref c6, .ref c6, _, rfl, ha3, R.C, .own _, R.k6, .ref a, rfl, a, D, .ref c7, .ref c7, _, rfl, ha3, R.C, .own _, R.k7, .ref a, rfl, a, D, .ref c8, .ref c8, _, rfl, ha3, R.C, .own _, R.k8, (by show 3 ≤ sizeLine; decide), fun l4 n4 => ?_⟩
      refine ⟨l3, l4, _, _, rfl, rfl, same_upd n4 _ _ e3, upd_same, (by show 6 + 3 ≤ sizeLine; decide), fun l5 n5 => ?_⟩
      generalize hx5 : ([.bl (decide (0 = m)), .bl (decide (1 = m)), .bl (decide (2 = m))] ++ [.bl (decide (3 = m)), .bl (decide (4 = m)), .bl (decide (5 = m))] ++ [.bl (decide (6 = m)), .bl (decide (7 = m)), .bl (decide (8 = m))] : List V) = x5
      have s4 := s3.trans ((same_upd (o := .lst [.bl (decide (6 = m)), .bl (decide (7 = m)), .bl (decide (8 = m))]) n4).trans (same_upd (o := .lst x5) n5))
      have ha4 := same_upd (o := .lst x5) n5 _ _ (same_upd (o := .lst [.bl (decide (6 = m)), .bl (decide (7 = m)), .bl (decide (8 = m))]) n4 _ _ ha3)
      have e4 : upd (upd H3 l4 (.lst [.bl (decide (6 = m)), .bl (decide (7 = m)), .bl (decide (8 = m))])) l5 (.lst x5) l5 = some (.lst x5) := upd_same
      generalize upd (upd H3 l4 (.lst [.bl (decide (6 = m)), .bl (decide (7 = m)), .bl (decide (8 = m))])) l5 (.lst x5) = H4 at s4 ha4 e4
      refine ⟨.ref l5, rfl, .ref a, rfl, a, D, .ref c9, .ref c9, _, rfl, ha4, R.C, .own _, R.k9, .ref a, rfl, a, D, .ref c10, .ref c10, _, rfl, ha4, R.C, .own _, R.k10, (by show 2 ≤ sizeLine; decide), fun l6 n6 => ?_⟩
      refine ⟨l5, l6, _, _, rfl, rfl, same_upd n6 _ _ e4, upd_same, (by rw [← hx5]; show 9 + 2 ≤ sizeLine; decide), fun l7 n7 => ?_⟩
      have ex6 : x5 ++ [.bl (decide (9 = m)), .bl (decide (10 = m))] = flags m := by rw [← hx5]; rfl
      rw [ex6]
      have s5 := s4.trans ((same_upd (o := .lst [.bl (decide (9 = m)), .bl (decide (10 = m))]) n6).trans (same_upd (o := .lst (flags m)) n7))
      have ha5 := same_upd (o := .lst (flags m)) n7 _ _ (same_upd (o := .lst [.bl (decide (9 = m)), .bl (decide (10 = m))]) n6 _ _ ha4)
      have e5 : upd (upd H4 l6 (.lst [.bl (decide (9 = m)), .bl (decide (10 = m))])) l7 (.lst (flags m)) l7 = some (.lst (flags m)) := upd_same
      generalize upd (upd H4 l6 (.lst [.bl (decide (9 = m)), .bl (decide (10 = m))])) l7 (.lst (flags m)) = H5 at s5 ha5 e5
      refine ⟨.ref l7, rfl, .inl ⟨rfl, _, SqL.of e5⟩, l7, _, _, rfl, rfl, SqL.of e5, rfl, flags_flat m, rfl, _, rfl, ?_⟩
      rw [flags_one m R.lt, decide_eq_true (show V.int ((1 : Nat) : Int) = V.int 1 from rfl)]
      refine iteF ⟨.ref a, rfl, a, D, .ref HE, .ref HE, true, rfl, ha5, R.C, .own _, R.kH, true, rfl, iteF ?_⟩
      refine ⟨.ref a, rfl, a, D, .ty "ValueError", .type "ValueError", true, rfl, ha5, R.C, .ty _, R.kV, true, rfl, iteF ?_⟩
      obtain ⟨z, hz1, hz2, hz3⟩ := flags_at m R.lt
      exact ⟨.ref l7, rfl, .inl ⟨rfl, _, SqL.of e5⟩, l7, _, _, m, z, rfl, rfl, SqL.of e5, rfl, flags_flat m, hz1, hz2, fun k z' hk h => hz3 k hk z' h, hq H5 s5⟩
    · exact h _
end
/-! ### things -/
/-- what is no text, told by what it is -/
inductive NoT (H : Hp) : V → Prop where
  | non : NoT H .non
  | int (i : Int) : NoT H (.int i)
  | bl (b : Bool) : NoT H (.bl b)
  | lst {a : Addr} {xs : List V} (e : H a = some (.lst xs)) : NoT H (.ref a)
  | tup {a : Addr} {xs : List V} (e : H a = some (.tup xs)) : NoT H (.ref a)
  | dK {a : Addr} {kvs : List (Key × V)} (e : H a = some (.dK kvs)) : NoT H (.ref a)
theorem NoT.thru {H H' : Hp} {x : V} (s : Thru H H') (h : NoT H x) : NoT H' x := by
  cases h with
  | non => exact .non
  | int i => exact .int i
  | bl b => exact .bl b
  | lst e => exact .lst (s _ _ e (fun _ z => nomatch z) fun _ z => nomatch z)
  | tup e => exact .tup (s _ _ e (fun _ z => nomatch z) fun _ z => nomatch z)
  | dK e => exact .dK (s _ _ e (fun _ z => nomatch z) fun _ z => nomatch z)
theorem thru_ext {H H' : Hp} (e : ExtN H H') : Thru H H' := fun b o h n _ => e b o h n
theorem NoT.no {K : PySem.W.Frag} {H : Hp} {x : V} (h : NoT H x) : NoTxt K H x := by
  cases h with
  | non => exact notxt_non
  | int i => exact notxt_int
  | bl b => exact notxt_bl
  | lst e => exact notxt_lst e
  | tup e => exact notxt_tup e
  | dK e => exact notxt_dK e
def NoRg (H : Hp) (x : V) : Prop := NoT H x ∨ ∃ z : Str, x = .str z ∧ z.length ≤ 10000 ∧ isRingB z = false
theorem NoRg.thru {H H' : Hp} {x : V} (s : Thru H H') (h : NoRg H x) : NoRg H' x := h.imp (NoT.thru s) id
theorem NoRg.no {K : PySem.W.Frag} {H : Hp} {x : V} (h : NoRg H x) : RingB K H x false := h.elim (fun h => .inl ⟨h.no, rfl⟩) fun ⟨z, e, l, b⟩ => .inr ⟨z, e, l, b.symm⟩
def NoRw (H : Hp) (x : V) : Prop := NoT H x ∨ ∃ z : Str, x = .str z ∧ z.length ≤ 10000 ∧ isRowB z = false
theorem NoRw.thru {H H' : Hp} {x : V} (s : Thru H H') (h : NoRw H x) : NoRw H' x := h.imp (NoT.thru s) id
theorem NoRw.no {K : PySem.W.Frag} {H : Hp} {x : V} (h : NoRw H x) : RowB K H x false := h.elim (fun h => .inl ⟨h.no, rfl⟩) fun ⟨z, e, l, b⟩ => .inr ⟨z, e, l, b.symm⟩
def NoLn (H : Hp) (x y : V) : Prop := NoRw H x ∨ ∃ us, x = .str (tx us) ∧ Row us ∧ (NoRw H y ∨ ∃ ls, y = .str (tx ls) ∧ Row ls ∧ ¬ Ln us ls)
theorem NoLn.thru {H H' : Hp} {x y : V} (s : Thru H H') (h : NoLn H x y) : NoLn H' x y := h.imp (NoRw.thru s) fun ⟨us, e, r, h⟩ => ⟨us, e, r, h.imp (NoRw.thru s) id⟩
theorem thru_same {H H' : Hp} (s : Same H H') : Thru H H' := fun b o e _ _ => s b o e
section
variable {P : Program} {w : World} {K : PySem.W.Frag} {mg : Str → Option Value} {base : Heap} {d : Addr} {es : Array DictEntry} {n : Nat} {d' : Addr} {es' : Array DictEntry} {n' : Nat} {NG NI : Addr}
structure Er (K : PySem.W.Frag) (mg : Str → Option Value) (NG NI : Addr) : Prop where
  gG : mg "NoRing" = some (.ref NG)
  gI : mg "NoLines" = some (.ref NI)
  G : Xc K NG bmV "ValueError.__new__"
  I : Xc K NI bmV "ValueError.__new__"
/-! ### no ring -/
def spNoRing (NG : Addr) : Sp := fun vs H _ E => ∃ x, vs = [x] ∧ NoRg H x ∧ ∀ H', Same H H' → E (.ref NG) none H'
theorem ok_noneed {f f1 : Addr} {fd fd1 : FuncData} {k : Nat} (F : Fun K "need_ring" "need_ring" sNeedRing f fd) (N1 : Fn K mg "is_ring" sIsRing ["thing"] f1 fd1) (T : Txt K w mg d es n) (Z : Er K mg NG NI) : FnOk P w K mg base (L2.CX P w) (k + 2) f fd ["thing"] (spNoRing NG) := by
  have G1 : FnOk P w K mg base CX0 (k + 1) f1 fd1 ["thing"] (spIsRing K) := ok_isring N1.F T
  refine F.okX scNeed (fun vs H Q E h => ?_) (fun cdv A outer s H vs Q E hr h => ?_)
  · obtain ⟨x, rfl, _⟩ := h
    rfl
  · obtain ⟨x, rfl, hx, q⟩ := h
    refine ⟨_, pss_one (ps_if (pt_not (pt_val (pe_call G1 hr (by rfl) N1.g N1.F.kp N1.b .nil pass0 (pa_cons (pv 0) pa_nil))))
      (pss_one (ps_raise rfl (takes_of rfl rfl rfl rfl) (pmk_own PySem.F.excBase_ValueError Z.G.x Z.gG Z.G.k (raises_own Z.G.be Z.G.ty) rfl))) pss_nil), ?_⟩
    exact ⟨x, rfl, x, false, rfl, hx.no, fun H1 s1 => ⟨false, rfl, q H1 s1⟩⟩
theorem ok_nochanges {f f1 f2 : Addr} {fd fd1 fd2 : FuncData} {k : Nat} (F : Fun K "ring_changes" "ring_changes" sChanges f fd) (N1 : Fn K mg "is_ring" sIsRing ["thing"] f1 fd1) (N2 : Fn K mg "need_ring" sNeedRing ["thing"] f2 fd2) (T : Txt K w mg d es n) (Z : Er K mg NG NI) : FnOk P w K mg base (L2.CX P w) (k + 3) f fd ["ring"] (spNoRing NG) := by
  have G2 : FnOk P w K mg base (L2.CX P w) (k + 2) f2 fd2 ["thing"] (spNoRing NG) := ok_noneed N2.F N1 T Z
  refine F.okX scChanges (fun vs H Q E h => ?_) (fun cdv A outer s H vs Q E hr h => ?_)
  · obtain ⟨x, rfl, _⟩ := h
    rfl
  · obtain ⟨x, rfl, hx, q⟩ := h
    refine ⟨_, pss_cons (ps_expr (pe_call G2 hr (by rfl) N2.g N2.F.kp N2.b .nil (passes_call (E := E) (takes_of rfl rfl rfl rfl) (fun _ _ _ _ h => h)) (pa_cons (pv 0) pa_nil))) (pss_one ps_never), ?_⟩
    exact ⟨x, rfl, x, rfl, hx, q⟩
theorem ok_noweight {f f1 f2 : Addr} {fd fd1 fd2 : FuncData} {k : Nat} (F : Fun K "ring_weight" "ring_weight" sWeight f fd) (N1 : Fn K mg "is_ring" sIsRing ["thing"] f1 fd1) (N2 : Fn K mg "need_ring" sNeedRing ["thing"] f2 fd2) (T : Txt K w mg d es n) (Z : Er K mg NG NI) : FnOk P w K mg base (L2.CX P w) (k + 3) f fd ["ring"] (spNoRing NG) := by
  have G2 : FnOk P w K mg base (L2.CX P w) (k + 2) f2 fd2 ["thing"] (spNoRing NG) := ok_noneed N2.F N1 T Z
  refine F.okX scWeight (fun vs H Q E h => ?_) (fun cdv A outer s H vs Q E hr h => ?_)
  · obtain ⟨x, rfl, _⟩ := h
    rfl
  · obtain ⟨x, rfl, hx, q⟩ := h
    refine ⟨_, pss_cons (ps_expr (pe_call G2 hr (by rfl) N2.g N2.F.kp N2.b .nil (passes_call (E := E) (takes_of rfl rfl rfl rfl) (fun _ _ _ _ h => h)) (pa_cons (pv 0) pa_nil))) (pss_one ps_never), ?_⟩
    exact ⟨x, rfl, x, rfl, hx, q⟩
theorem scComes : FnScope ["ring", "place"] ["ring"] (defScope sComes) := ⟨rfl, rfl, rfl, by decide +kernel, rfl, by decide +kernel, by decide +kernel⟩
theorem ok_nocomes {f f1 f2 : Addr} {fd fd1 fd2 : FuncData} {k : Nat} (F : Fun K "ring_comes" "ring_comes" sComes f fd) (N1 : Fn K mg "is_ring" sIsRing ["thing"] f1 fd1) (N2 : Fn K mg "need_ring" sNeedRing ["thing"] f2 fd2) (T : Txt K w mg d es n) (Z : Er K mg NG NI) : FnOk P w K mg base (L2.CX P w) (k + 3) f fd ["ring"] (spNoRing NG) := by
  have G2 : FnOk P w K mg base (L2.CX P w) (k + 2) f2 fd2 ["thing"] (spNoRing NG) := ok_noneed N2.F N1 T Z
  refine F.okX scComes (fun vs H Q E h => ?_) (fun cdv A outer s H vs Q E hr h => ?_)
  · obtain ⟨x, rfl, _⟩ := h
    rfl
  · obtain ⟨x, rfl, hx, q⟩ := h
    refine ⟨_, pss_cons (ps_expr (pe_call G2 hr (by rfl) N2.g N2.F.kp N2.b .nil (passes_call (E := E) (takes_of rfl rfl rfl rfl) (fun _ _ _ _ h => h)) (pa_cons (pv 0) pa_nil))) (pss_one ps_never), ?_⟩
    exact ⟨x, rfl, x, rfl, hx, q⟩
theorem scGoes : FnScope ["ring", "changes"] ["ring"] (defScope sGoes) := ⟨rfl, rfl, rfl, by decide +kernel, rfl, by decide +kernel, by decide +kernel⟩
theorem ok_nogoes {f f1 f2 f3 : Addr} {fd fd1 fd2 fd3 : FuncData} {k : Nat} (F : Fun K "ring_goes" "ring_goes" sGoes f fd) (N1 : Fn K mg "is_ring" sIsRing ["thing"] f1 fd1) (N2 : Fn K mg "need_ring" sNeedRing ["thing"] f2 fd2) (N3 : Fn K mg "ring_changes" sChanges ["ring"] f3 fd3) (T : Txt K w mg d es n) (Z : Er K mg NG NI) : FnOk P w K mg base (L2.CX P w) (k + 4) f fd ["ring"] (spNoRing NG) := by
  have G3 : FnOk P w K mg base (L2.CX P w) (k + 3) f3 fd3 ["ring"] (spNoRing NG) := ok_nochanges N3.F N1 N2 T Z
  refine F.okX scGoes (fun vs H Q E h => ?_) (fun cdv A outer s H vs Q E hr h => ?_)
  · obtain ⟨x, rfl, _⟩ := h
    rfl
  · obtain ⟨x, rfl, hx, q⟩ := h
    have nd := scGoes.nd
    refine ⟨_, pss_cons (ps_set (i := 1) nd rfl (.inl rfl) (pe_call G3 hr (by rfl) N3.g N3.F.kp N3.b .nil (passes_call (E := E) (takes_of rfl rfl rfl rfl) (fun _ _ _ _ h => h)) (pa_cons (pv 0) pa_nil))) (pss_one ps_never), ?_⟩
    exact ⟨x, rfl, x, rfl, hx, q⟩
theorem scChance : FnScope ["ring", "firsts", "beads"] ["ring"] (defScope sChance) := ⟨rfl, rfl, rfl, by decide +kernel, rfl, by decide +kernel, by decide +kernel⟩
theorem ok_nochance {f f1 f2 : Addr} {fd fd1 fd2 : FuncData} {k : Nat} (F : Fun K "ring_chance" "ring_chance" sChance f fd) (N1 : Fn K mg "is_ring" sIsRing ["thing"] f1 fd1) (N2 : Fn K mg "need_ring" sNeedRing ["thing"] f2 fd2) (T : Txt K w mg d es n) (Z : Er K mg NG NI) : FnOk P w K mg base (L2.CX P w) (k + 3) f fd ["ring"] (spNoRing NG) := by
  have G2 : FnOk P w K mg base (L2.CX P w) (k + 2) f2 fd2 ["thing"] (spNoRing NG) := ok_noneed N2.F N1 T Z
  refine F.okX scChance (fun vs H Q E h => ?_) (fun cdv A outer s H vs Q E hr h => ?_)
  · obtain ⟨x, rfl, _⟩ := h
    rfl
  · obtain ⟨x, rfl, hx, q⟩ := h
    refine ⟨_, pss_cons (ps_expr (pe_call G2 hr (by rfl) N2.g N2.F.kp N2.b .nil (passes_call (E := E) (takes_of rfl rfl rfl rfl) (fun _ _ _ _ h => h)) (pa_cons (pv 0) pa_nil))) (pss_cons ps_never (pss_cons ps_never (pss_one ps_never))), ?_⟩
    exact ⟨x, rfl, x, rfl, hx, q⟩
/-! ### no lines -/
def spNoLines : Sp := fun vs H Q _ => ∃ x y, vs = [x, y] ∧ NoLn H x y ∧ ∀ H', Same H H' → Q (.bl false) H'
theorem ok_nolines {f f1 : Addr} {fd fd1 : FuncData} {k : Nat} (F : Fun K "are_lines" "are_lines" sLines f fd) (N1 : Fn K mg "is_row" sIsRow ["thing"] f1 fd1) (T : Tx7 K w mg d es n d' es' n') : FnOk P w K mg base CX0 (k + 2) f fd ["upper", "lower"] spNoLines := by
  have G1 : FnOk P w K mg base CX0 (k + 1) f1 fd1 ["thing"] (spIsRow K) := ok_isrow N1.F T
  refine F.ok scLines (fun vs H Q E h => ?_) (fun cdv A outer s H vs Q E hr h => ?_)
  · obtain ⟨x, y, rfl, _⟩ := h
    rfl
  · obtain ⟨x, y, rfl, hL, q⟩ := h
    obtain ⟨tb, gb⟩ := T.bead
    obtain ⟨tl, gl⟩ := T.leastR
    obtain ⟨tm, gm⟩ := T.mostR
    refine ⟨_, pss_cons (ps_if (PW.pt (pw_or (pt_not (pt_val (pe_call G1 hr (by rfl) N1.g N1.F.kp N1.b .nil pass0 (pa_cons (pv 0) pa_nil)))) (pw_or (pt_not (pt_val (pe_call G1 hr (by rfl) N1.g N1.F.kp N1.b .nil pass0 (pa_cons (pv 1) pa_nil))))
        (pw_or1 (pt_cmpR op_ne (pe_callB call_len_str (by rfl) T.len PySem.boot_len (pa_cons (pv 0) pa_nil)) (pe_callB call_len_str (by rfl) T.len PySem.boot_len (pa_cons (pv 1) pa_nil)) (nomark _)))))) (pss_one (ps_ret pe_bl)) pss_nil)
      (pss_one (ps_ret (pe_and (pe_chain op_le op_le (pe_glob (v := .int 2) (by rfl) gl ⟨_, rfl⟩) (pe_callB call_len_str (by rfl) T.len PySem.boot_len (pa_cons (pv 0) pa_nil)) (pe_glob (v := .int 12) (by rfl) gm ⟨_, rfl⟩))
        (pe_one (pe_cmpR op_le (pe_bm PySem.F.plainAttrs_str PySem.F.slot_str_count PySem.F.type_str_count mt_count (pv 0) (pa_cons (pe_glob (v := .str "o") (by rfl) gb ⟨_, rfl⟩) pa_nil)) (pe_bm PySem.F.plainAttrs_str PySem.F.slot_str_count PySem.F.type_str_count mt_count (pv 1) (pa_cons (pe_glob (v := .str "o") (by rfl) gb ⟨_, rfl⟩) pa_nil)) (nomark _)))))), ?_⟩
    rcases hL with hx | ⟨hi, rfl, r1, hL⟩
    · exact ⟨x, rfl, x, false, rfl, hx.no, fun H1 s1 => ⟨false, rfl, iteT (q H1 s1)⟩⟩
    obtain ⟨z1, y1⟩ := tx_few r1
    refine ⟨.str (tx hi), rfl, .str (tx hi), true, rfl, .inr ⟨tx hi, rfl, z1, (isRow_tx r1.1 r1.2).symm⟩, fun H1 s1 => ⟨true, rfl, iteF ?_⟩⟩
    rcases hL with hy | ⟨lo, rfl, r2, hL⟩
    · exact ⟨y, rfl, y, false, rfl, (hy.thru (thru_same s1)).no, fun H2 s2 => ⟨false, rfl, iteT (q H2 (s1.trans s2))⟩⟩
    obtain ⟨z2, y2⟩ := tx_few r2
    refine ⟨.str (tx lo), rfl, .str (tx lo), true, rfl, .inr ⟨tx lo, rfl, z2, (isRow_tx r2.1 r2.2).symm⟩, fun H2 s2 => ⟨true, rfl, iteF ?_⟩⟩
    have fin := q H2 (s1.trans s2)
    refine ⟨.str (tx hi), rfl, tx hi, rfl, y1, .str (tx lo), rfl, tx lo, rfl, y2, rfl, _, rfl, ?_⟩
    rw [tx_len, tx_len]
    refine ite2 (fun _ => fin) (fun e => ?_)
    have h1 : hi.length = lo.length := Classical.byContradiction fun z => e (by
      rw [decide_eq_false fun q => z (by have := V.int.inj q; omega)]
      rfl)
    refine ⟨.str (tx hi), rfl, tx hi, rfl, y1, _, _, rfl, rfl, _, rfl, ?_⟩
    rw [tx_len]
    refine ite2 (fun e2 => ?_) (fun _ => ?_)
    · refine ⟨_, _, rfl, rfl, _, rfl, ite2 (fun e3 => ?_) (fun _ => ?_)⟩
      · refine ⟨.str (tx hi), rfl, rfl, tx hi, "o", rfl, rfl, .str (tx lo), rfl, rfl, tx lo, "o", rfl, rfl, _, _, rfl, rfl, ?_⟩
        rw [count_tx, count_tx]
        show Q (.bl (decide (((nb hi : Nat) : Int) ≤ ((nb lo : Nat) : Int)))) H2
        rw [decide_eq_false fun z => hL ⟨h1, by have := of_decide_eq_true e2; omega, by have := of_decide_eq_true e3; omega, by omega⟩]
        exact fin
      · first | exact fin | exact ⟨_, rfl, iteF fin⟩
    · first | exact fin | exact ⟨_, rfl, iteF fin⟩
def spNoRingOf (NI : Addr) : Sp := fun vs H _ E => ∃ x y, vs = [x, y] ∧ NoLn H x y ∧ ∀ H', Same H H' → E (.ref NI) none H'
theorem ok_noringof {f f1 f2 : Addr} {fd fd1 fd2 : FuncData} {k : Nat} (F : Fun K "ring_of" "ring_of" sRingOf f fd) (N1 : Fn K mg "is_row" sIsRow ["thing"] f1 fd1) (N2 : Fn K mg "are_lines" sLines ["upper", "lower"] f2 fd2) (T : Tx7 K w mg d es n d' es' n') (Z : Er K mg NG NI) :
    FnOk P w K mg base (L2.CX P w) (k + 3) f fd ["upper", "lower"] (spNoRingOf NI) := by
  have G2 : FnOk P w K mg base CX0 (k + 2) f2 fd2 ["upper", "lower"] spNoLines := ok_nolines N2.F N1 T
  refine F.okX scRingOf (fun vs H Q E h => ?_) (fun cdv A outer s H vs Q E hr h => ?_)
  · obtain ⟨x, y, rfl, _⟩ := h
    rfl
  · obtain ⟨x, y, rfl, hL, q⟩ := h
    refine ⟨_, pss_cons (ps_if (pt_not (pt_val (pe_call G2 hr (by rfl) N2.g N2.F.kp N2.b .nil pass0 (pa_cons (pv 0) (pa_cons (pv 1) pa_nil)))))
        (pss_one (ps_raise rfl (takes_of rfl rfl rfl rfl) (pmk_own PySem.F.excBase_ValueError Z.I.x Z.gI Z.I.k (raises_own Z.I.be Z.I.ty) rfl))) pss_nil)
      (pss_cons ps_never (pss_cons ps_never (pss_one ps_never))), ?_⟩
    exact ⟨x, rfl, y, rfl, x, y, rfl, hL, fun H1 s1 => ⟨false, rfl, q H1 s1⟩⟩
/-! ### _law_class_of of a door -/
def spClass (P : Program) (w : World) (K : PySem.W.Frag) (mg : Str → Option Value) (base : Heap) (k : Nat) (D : Addr) (m : Nat) : Sp := fun vs H Q _ => ∃ f, vs = [.ref f] ∧ Door P w K mg base k D H f ∧ ∀ H', Same H H' → Q (.int (m : Int)) H'
theorem ok_class {f : Addr} {fd : FuncData} {k m : Nat} {HE c0 c1 c2 c3 c4 c5 c6 c7 c8 c9 c10 D : Addr} (F : Fun K "_law_class_of" "_law_class_of" sClass f fd) (Y : HopR.Kinds K mg HE c0 c1 c2 c3 c4 c5 c6 c7 c8 c9 c10) (R : Raised K D HE c0 c1 c2 c3 c4 c5 c6 c7 c8 c9 c10 m) (isi : mg "isinstance" = none) :
    FnOk P w K mg base CX0 (k + 1) f fd ["_law_call"] (spClass P w K mg base k D m) := by
  refine F.ok scClass (fun vs H Q E h => ?_) (fun cdv A outer s H vs Q E hr h => ?_)
  · obtain ⟨x, rfl, _⟩ := h
    rfl
  · obtain ⟨x, rfl, dr, q⟩ := h
    obtain ⟨c', qn, hc⟩ := dr.co
    have X0 : ∃ X : Cx, X.prog = P ∧ X.w = w ∧ X.K = K ∧ X.mg = mg ∧ X.base = base ∧ X.A = A ∧ X.stack = outer := ⟨{ cxOf CX0 P w K mg base [] "" (defScope sClass) f cdv A outer s H E with A := A, stack := outer }, rfl, rfl, rfl, rfl, rfl, rfl, rfl⟩
    obtain ⟨X, rfl, rfl, rfl, rfl, rfl, rfl, rfl⟩ := X0
    obtain ⟨t, pr, rd⟩ := class_gives (X := X) (m := m) (D := D) (g := f) (cdg := cdv) (q := qn) Y R isi x c' s H Q (fun E' HZ _ => Door X.prog X.w X.K X.mg X.base k D HZ x ∧ ∀ H', Same HZ H' → E' (.ref D) none H')
      (fun W pn xe E' p1 p2 tk hW => ⟨fun pins s' σ H' Q' I z => (pe_door (i := 0) hr (passes_call tk hW) rfl (.inl rfl)).run pins s' σ H' Q' I ⟨x, z.1, z.2.2.1, z.2.2.2⟩⟩) hc (fun _ => ⟨dr, fun H' s' => ⟨rfl, rfl, fun H'' s'' => q H'' (s'.trans s'')⟩⟩)
    exact ⟨t, pr, rd⟩
end
end Hop

set_option Elab.async false
set_option linter.all false
set_option maxRecDepth 100000
namespace Hop
open PySem PySem.Spec PyProof.Rows L2 HopR LamX NdefX
theorem ext_new {H H' : Hp} {l : Addr} {o : HO} (n : H l = none) (e : ExtN H H') : ExtN H (upd H' l o) := fun b u h z => by
  rw [upd_ne (ne_of_none h n)]
  exact e b u h z
theorem fz_upd {H : Hp} {l f : Addr} {ob : Obj} {o : HO} {xs : List V} (hl : H l = some (.lst xs)) (hf : H f = some (fz ob)) : upd H l o f = some (fz ob) := by
  rw [upd_ne (ne_of hf hl fun z => nomatch z)]
  exact hf
theorem code_upd {H : Hp} {l c : Addr} {q : Str} {o : HO} {xs : List V} (hl : H l = some (.lst xs)) (hc : H c = some (CodeO c q)) : upd H l o c = some (CodeO c q) := by
  rw [upd_ne (ne_of hc hl fun z => by unfold CodeO at z; cases z)]
  exact hc
theorem tabs_upd {T : List (Addr × Str)} {H : Hp} {l : Addr} {o : HO} {xs : List V} (hl : H l = some (.lst xs)) (h : Tabs T H) : Tabs T (upd H l o) := fun p hp => by
  obtain ⟨ps, h1, h2, h3⟩ := h p hp
  refine ⟨ps, by rw [upd_ne (ne_of h1 hl fun z => nomatch z)]; exact h1, h2, fun pos cv hc => ?_⟩
  obtain ⟨c, e1, e2⟩ := h3 pos cv hc
  exact ⟨c, e1, code_upd hl e2⟩
section
variable {P : Program} {w : World} {K : PySem.W.Frag} {mg : Str → Option Value} {base : Heap} {d : Addr} {es : Array DictEntry} {n : Nat} {NG NI : Addr}
abbrev qLam : Str := ("law" : Str) ++ ".<locals>." ++ "<lambda>"
abbrev qDoor : Str := ("_law_ring_doors" : Str) ++ ".<locals>." ++ "<lambda>"
/-! ### _law_ring_doors -/
structure DrDefs (K : PySem.W.Frag) (mg : Str → Option Value) (f1 f2 : Addr) (g1 g2 : FuncData) : Prop where
  N1 : Fn K mg "is_ring" sIsRing ["thing"] f1 g1
  N2 : Fn K mg "need_ring" sNeedRing ["thing"] f2 g2
  changes : ∃ r s, Fn K mg "ring_changes" sChanges ["ring"] r s
  weight : ∃ r s, Fn K mg "ring_weight" sWeight ["ring"] r s
  comes : ∃ r s, Fn K mg "ring_comes" sComes ["ring"] r s
  goes : ∃ r s, Fn K mg "ring_goes" sGoes ["ring"] r s
  chance : ∃ r s, Fn K mg "ring_chance" sChance ["ring"] r s
def spDoors (P : Program) (w : World) (K : PySem.W.Frag) (mg : Str → Option Value) (base : Heap) (k : Nat) (NG : Addr) (T : List (Addr × Str)) : Sp := fun vs H Q _ => ∃ x, vs = [x] ∧ NoRg H x ∧ Tabs T H ∧
  ∀ H' p (fs : List Addr), ExtN H H' → Tabs T H' → H p = none → H' p = some (.lst (fs.map V.ref)) → fs.length ≤ 5 → (∀ f ∈ fs, Door P w K mg base k NG H' f) → Q (.ref p) H'
theorem scDoors : FnScope ["_law_thing", "_law_doors"] ["_law_thing"] (defScope sDoors) := ⟨rfl, rfl, rfl, by decide +kernel, rfl, by decide +kernel, by decide +kernel⟩
variable {fD cD tb tD : Addr} {ocD kVD dcD pmD ctD : Value} {odD anD : Option Addr} {slD : Array (Option Value)} {f1 f2 : Addr} {g1 g2 : FuncData}
set_option maxHeartbeats 4000000 in
theorem ok_doors {k : Nat} (lk : K.lookup fD = some ⟨ocD, odD, .func (PySem.W.fnOf "_law_ring_doors" "_law_ring_doors" (defArgs sDoors) (defBody sDoors) (defScope sDoors) .none kVD dcD pmD anD (.ref cD) ctD), slD⟩) (cd : PySem.W.codeIn K (.ref cD) "_law_ring_doors" = true)
    (N : DrDefs K mg f1 f2 g1 g2) (T : Txt K w mg d es n) (Z : Er K mg NG NI) (TB : TabB base mg cD tD) (ne : tb ≠ tD) :
    FnOk P w K mg base CX0 (k + 1) fD (PySem.W.fnOf "_law_ring_doors" "_law_ring_doors" (defArgs sDoors) (defBody sDoors) (defScope sDoors) .none kVD dcD pmD anD (.ref cD) ctD) ["_law_thing"] (spDoors P w K mg base 6 NG [(tb, qLam), (tD, qDoor)]) := by
  obtain ⟨r0, s0, R0⟩ := N.changes
  obtain ⟨r1, s1, R1⟩ := N.weight
  obtain ⟨r2, s2, R2⟩ := N.comes
  obtain ⟨r3, s3, R3⟩ := N.goes
  obtain ⟨r4, s4, R4⟩ := N.chance
  have G0 : FnOk P w K mg base (L2.CX P w) 5 r0 s0 ["ring"] (spNoRing NG) := ok_nochanges R0.F N.N1 N.N2 T Z
  have G1 : FnOk P w K mg base (L2.CX P w) 5 r1 s1 ["ring"] (spNoRing NG) := ok_noweight R1.F N.N1 N.N2 T Z
  have G2 : FnOk P w K mg base (L2.CX P w) 5 r2 s2 ["ring"] (spNoRing NG) := ok_nocomes R2.F N.N1 N.N2 T Z
  have G3 : FnOk P w K mg base (L2.CX P w) 5 r3 s3 ["ring"] (spNoRing NG) := ok_nogoes R3.F N.N1 N.N2 R0 T Z
  have G4 : FnOk P w K mg base (L2.CX P w) 5 r4 s4 ["ring"] (spNoRing NG) := ok_nochance R4.F N.N1 N.N2 T Z
  refine fn_ofC lk cd scDoors (fun vs H Q E h => ?_) (fun A outer s H vs Q E hr h => ?_)
  · obtain ⟨x, rfl, _⟩ := h
    rfl
  · obtain ⟨x, rfl, hx, hT, q⟩ := h
    have nd := scDoors.nd
    have hu : ∀ p ∈ [(tb, qLam), (tD, qDoor)], p.1 = tD → p.2 = qDoor := fun p hp e => by
      rcases List.mem_cons.mp hp with rfl | hp
      · exact absurd e ne
      · rw [List.mem_singleton.mp hp]
    refine ⟨_, psr_cons (ps_set (i := 1) nd rfl (.inl rfl) (pe_lst pa_nil))
      (psr_cons (ps_expr (pe_bm PySem.F.plainAttrs_list PySem.F.slot_list_append PySem.F.type_list_append mt_append (pv 1) (pa_cons (pe_lamF (T := [(tb, qLam), (tD, qDoor)]) TB rfl (List.mem_cons_of_mem _ (List.mem_cons_self ..)) hu rfl (lamS_by (sc := defScope sDoors) (by decide +kernel))) pa_nil)))
      (psr_cons (ps_expr (pe_bm PySem.F.plainAttrs_list PySem.F.slot_list_append PySem.F.type_list_append mt_append (pv 1) (pa_cons (pe_lamF (T := [(tb, qLam), (tD, qDoor)]) TB rfl (List.mem_cons_of_mem _ (List.mem_cons_self ..)) hu rfl (lamS_by (sc := defScope sDoors) (by decide +kernel))) pa_nil)))
      (psr_cons (ps_expr (pe_bm PySem.F.plainAttrs_list PySem.F.slot_list_append PySem.F.type_list_append mt_append (pv 1) (pa_cons (pe_lamF (T := [(tb, qLam), (tD, qDoor)]) TB rfl (List.mem_cons_of_mem _ (List.mem_cons_self ..)) hu rfl (lamS_by (sc := defScope sDoors) (by decide +kernel))) pa_nil)))
      (psr_cons (ps_expr (pe_bm PySem.F.plainAttrs_list PySem.F.slot_list_append PySem.F.type_list_append mt_append (pv 1) (pa_cons (pe_lamF (T := [(tb, qLam), (tD, qDoor)]) TB rfl (List.mem_cons_of_mem _ (List.mem_cons_self ..)) hu rfl (lamS_by (sc := defScope sDoors) (by decide +kernel))) pa_nil)))
      (psr_cons (ps_expr (pe_bm PySem.F.plainAttrs_list PySem.F.slot_list_append PySem.F.type_list_append mt_append (pv 1) (pa_cons (pe_lamF (T := [(tb, qLam), (tD, qDoor)]) TB rfl (List.mem_cons_of_mem _ (List.mem_cons_self ..)) hu rfl (lamS_by (sc := defScope sDoors) (by decide +kernel))) pa_nil)))
      (psr_ret (pv 1))))))), ?_⟩
    refine ⟨Nat.zero_le _, fun l nl => ?_⟩
    have e0 : ExtN H (upd H l (.lst [])) := ExtN.of (same_upd nl)
    have t0 : Tabs [(tb, qLam), (tD, qDoor)] (upd H l (.lst [])) := hT.ext (same_upd nl)
    have l0 : upd H l (.lst []) l = some (.lst (([] : List Addr).map V.ref)) := upd_same
    generalize upd H l (.lst []) = H0 at e0 t0 l0
    refine ⟨.ref l, rfl, .inl ⟨rfl, _, SqL.of l0⟩, t0, fun f1 c1 pm1 ct1 J1 x1 u1 n1 hf1 hc1 => ?_⟩
    have m1 := x1 _ _ l0 fun _ z => nomatch z
    refine ⟨l, _, _, rfl, rfl, m1, (by show 0 < sizeLine; decide), ?_⟩
    rw [show (([] : List Addr).map V.ref ++ [V.ref f1]) = ([f1] : List Addr).map V.ref from rfl]
    have e1 : ExtN H (upd J1 l (.lst (([f1] : List Addr).map V.ref))) := ext_new nl (e0.trans x1)
    have t1 : Tabs [(tb, qLam), (tD, qDoor)] (upd J1 l (.lst (([f1] : List Addr).map V.ref))) := tabs_upd m1 u1
    have l1 : upd J1 l (.lst (([f1] : List Addr).map V.ref)) l = some (.lst (([f1] : List Addr).map V.ref)) := upd_same
    have a1 := fz_upd (o := .lst (([f1] : List Addr).map V.ref)) m1 hf1
    have b1 := code_upd (o := .lst (([f1] : List Addr).map V.ref)) m1 hc1
    generalize hH1 : upd J1 l (.lst (([f1] : List Addr).map V.ref)) = H1 at e1 t1 l1 a1 b1
    change _ at hH1
    clear e0 t0 l0 m1 x1 u1 n1 hf1 hc1
    refine ⟨.ref l, rfl, .inl ⟨rfl, _, SqL.of l1⟩, t1, fun f2 c2 pm2 ct2 J2 x2 u2 n2 hf2 hc2 => ?_⟩
    have m2 := x2 _ _ l1 fun _ z => nomatch z
    refine ⟨l, _, _, rfl, rfl, m2, (by show 1 < sizeLine; decide), ?_⟩
    rw [show (([f1] : List Addr).map V.ref ++ [V.ref f2]) = ([f1, f2] : List Addr).map V.ref from rfl]
    have e2 : ExtN H (upd J2 l (.lst (([f1, f2] : List Addr).map V.ref))) := ext_new nl (e1.trans x2)
    have t2 : Tabs [(tb, qLam), (tD, qDoor)] (upd J2 l (.lst (([f1, f2] : List Addr).map V.ref))) := tabs_upd m2 u2
    have l2 : upd J2 l (.lst (([f1, f2] : List Addr).map V.ref)) l = some (.lst (([f1, f2] : List Addr).map V.ref)) := upd_same
    have a2 := fz_upd (o := .lst (([f1, f2] : List Addr).map V.ref)) m2 hf2
    have b2 := code_upd (o := .lst (([f1, f2] : List Addr).map V.ref)) m2 hc2
    have a1 := fz_upd (o := .lst (([f1, f2] : List Addr).map V.ref)) m2 (x2 _ _ a1 fun _ z => nomatch z)
    have b1 := code_upd (o := .lst (([f1, f2] : List Addr).map V.ref)) m2 (x2 _ _ b1 codeO_ne)
    generalize hH2 : upd J2 l (.lst (([f1, f2] : List Addr).map V.ref)) = H2 at e2 t2 l2 a1 b1 a2 b2
    change _ at hH2
    clear e1 t1 l1 m2 x2 u2 n2 hf2 hc2
    refine ⟨.ref l, rfl, .inl ⟨rfl, _, SqL.of l2⟩, t2, fun f3 c3 pm3 ct3 J3 x3 u3 n3 hf3 hc3 => ?_⟩
    have m3 := x3 _ _ l2 fun _ z => nomatch z
    refine ⟨l, _, _, rfl, rfl, m3, (by show 2 < sizeLine; decide), ?_⟩
    rw [show (([f1, f2] : List Addr).map V.ref ++ [V.ref f3]) = ([f1, f2, f3] : List Addr).map V.ref from rfl]
    have e3 : ExtN H (upd J3 l (.lst (([f1, f2, f3] : List Addr).map V.ref))) := ext_new nl (e2.trans x3)
    have t3 : Tabs [(tb, qLam), (tD, qDoor)] (upd J3 l (.lst (([f1, f2, f3] : List Addr).map V.ref))) := tabs_upd m3 u3
    have l3 : upd J3 l (.lst (([f1, f2, f3] : List Addr).map V.ref)) l = some (.lst (([f1, f2, f3] : List Addr).map V.ref)) := upd_same
    have a3 := fz_upd (o := .lst (([f1, f2, f3] : List Addr).map V.ref)) m3 hf3
    have b3 := code_upd (o := .lst (([f1, f2, f3] : List Addr).map V.ref)) m3 hc3
    have a1 := fz_upd (o := .lst (([f1, f2, f3] : List Addr).map V.ref)) m3 (x3 _ _ a1 fun _ z => nomatch z)
    have b1 := code_upd (o := .lst (([f1, f2, f3] : List Addr).map V.ref)) m3 (x3 _ _ b1 codeO_ne)
    have a2 := fz_upd (o := .lst (([f1, f2, f3] : List Addr).map V.ref)) m3 (x3 _ _ a2 fun _ z => nomatch z)
    have b2 := code_upd (o := .lst (([f1, f2, f3] : List Addr).map V.ref)) m3 (x3 _ _ b2 codeO_ne)
    generalize hH3 : upd J3 l (.lst (([f1, f2, f3] : List Addr).map V.ref)) = H3 at e3 t3 l3 a1 b1 a2 b2 a3 b3
    change _ at hH3
    clear e2 t2 l2 m3 x3 u3 n3 hf3 hc3
    refine ⟨.ref l, rfl, .inl ⟨rfl, _, SqL.of l3⟩, t3, fun f4 c4 pm4 ct4 J4 x4 u4 n4 hf4 hc4 => ?_⟩
    have m4 := x4 _ _ l3 fun _ z => nomatch z
    refine ⟨l, _, _, rfl, rfl, m4, (by show 3 < sizeLine; decide), ?_⟩
    rw [show (([f1, f2, f3] : List Addr).map V.ref ++ [V.ref f4]) = ([f1, f2, f3, f4] : List Addr).map V.ref from rfl]
    have e4 : ExtN H (upd J4 l (.lst (([f1, f2, f3, f4] : List Addr).map V.ref))) := ext_new nl (e3.trans x4)
    have t4 : Tabs [(tb, qLam), (tD, qDoor)] (upd J4 l (.lst (([f1, f2, f3, f4] : List Addr).map V.ref))) := tabs_upd m4 u4
    have l4 : upd J4 l (.lst (([f1, f2, f3, f4] : List Addr).map V.ref)) l = some (.lst (([f1, f2, f3, f4] : List Addr).map V.ref)) := upd_same
    have a4 := fz_upd (o := .lst (([f1, f2, f3, f4] : List Addr).map V.ref)) m4 hf4
    have b4 := code_upd (o := .lst (([f1, f2, f3, f4] : List Addr).map V.ref)) m4 hc4
    have a1 := fz_upd (o := .lst (([f1, f2, f3, f4] : List Addr).map V.ref)) m4 (x4 _ _ a1 fun _ z => nomatch z)
    have b1 := code_upd (o := .lst (([f1, f2, f3, f4] : List Addr).map V.ref)) m4 (x4 _ _ b1 codeO_ne)
    have a2 := fz_upd (o := .lst (([f1, f2, f3, f4] : List Addr).map V.ref)) m4 (x4 _ _ a2 fun _ z => nomatch z)
    have b2 := code_upd (o := .lst (([f1, f2, f3, f4] : List Addr).map V.ref)) m4 (x4 _ _ b2 codeO_ne)
    have a3 := fz_upd (o := .lst (([f1, f2, f3, f4] : List Addr).map V.ref)) m4 (x4 _ _ a3 fun _ z => nomatch z)
    have b3 := code_upd (o := .lst (([f1, f2, f3, f4] : List Addr).map V.ref)) m4 (x4 _ _ b3 codeO_ne)
    generalize hH4 : upd J4 l (.lst (([f1, f2, f3, f4] : List Addr).map V.ref)) = H4 at e4 t4 l4 a1 b1 a2 b2 a3 b3 a4 b4
    change _ at hH4
    clear e3 t3 l3 m4 x4 u4 n4 hf4 hc4
    refine ⟨.ref l, rfl, .inl ⟨rfl, _, SqL.of l4⟩, t4, fun f5 c5 pm5 ct5 J5 x5 u5 n5 hf5 hc5 => ?_⟩
    have m5 := x5 _ _ l4 fun _ z => nomatch z
    refine ⟨l, _, _, rfl, rfl, m5, (by show 4 < sizeLine; decide), ?_⟩
    rw [show (([f1, f2, f3, f4] : List Addr).map V.ref ++ [V.ref f5]) = ([f1, f2, f3, f4, f5] : List Addr).map V.ref from rfl]
    have e5 : ExtN H (upd J5 l (.lst (([f1, f2, f3, f4, f5] : List Addr).map V.ref))) := ext_new nl (e4.trans x5)
    have t5 : Tabs [(tb, qLam), (tD, qDoor)] (upd J5 l (.lst (([f1, f2, f3, f4, f5] : List Addr).map V.ref))) := tabs_upd m5 u5
    have l5 : upd J5 l (.lst (([f1, f2, f3, f4, f5] : List Addr).map V.ref)) l = some (.lst (([f1, f2, f3, f4, f5] : List Addr).map V.ref)) := upd_same
    have a5 := fz_upd (o := .lst (([f1, f2, f3, f4, f5] : List Addr).map V.ref)) m5 hf5
    have b5 := code_upd (o := .lst (([f1, f2, f3, f4, f5] : List Addr).map V.ref)) m5 hc5
    have a1 := fz_upd (o := .lst (([f1, f2, f3, f4, f5] : List Addr).map V.ref)) m5 (x5 _ _ a1 fun _ z => nomatch z)
    have b1 := code_upd (o := .lst (([f1, f2, f3, f4, f5] : List Addr).map V.ref)) m5 (x5 _ _ b1 codeO_ne)
    have a2 := fz_upd (o := .lst (([f1, f2, f3, f4, f5] : List Addr).map V.ref)) m5 (x5 _ _ a2 fun _ z => nomatch z)
    have b2 := code_upd (o := .lst (([f1, f2, f3, f4, f5] : List Addr).map V.ref)) m5 (x5 _ _ b2 codeO_ne)
    have a3 := fz_upd (o := .lst (([f1, f2, f3, f4, f5] : List Addr).map V.ref)) m5 (x5 _ _ a3 fun _ z => nomatch z)
    have b3 := code_upd (o := .lst (([f1, f2, f3, f4, f5] : List Addr).map V.ref)) m5 (x5 _ _ b3 codeO_ne)
    have a4 := fz_upd (o := .lst (([f1, f2, f3, f4, f5] : List Addr).map V.ref)) m5 (x5 _ _ a4 fun _ z => nomatch z)
    have b4 := code_upd (o := .lst (([f1, f2, f3, f4, f5] : List Addr).map V.ref)) m5 (x5 _ _ b4 codeO_ne)
    generalize hH5 : upd J5 l (.lst (([f1, f2, f3, f4, f5] : List Addr).map V.ref)) = H5 at e5 t5 l5 a1 b1 a2 b2 a3 b3 a4 b4 a5 b5
    change _ at hH5
    clear e4 t4 l4 m5 x5 u5 n5 hf5 hc5
    refine ⟨.ref l, rfl, fun H6 z => ?_⟩
    have zs := z.same
    have free : ∀ y, (defScope sDoors).names.lookup y = some .cell → ∃ c, (cellsFrom (s.heap.objs.size + 1) (defScope sDoors).names []).lookup y = some c := fun y h => cell_has h
    have hx6 : NoRg H6 x := hx.thru (thru_ext (e5.trans (ExtN.of zs)))
    have D1 : Door P w K mg base 6 NG H6 f1 := by
      refine door_of (fr := ["_law_thing"]) (ws := [x]) (t := fun E => tCall (spNoRing NG) [] E (tCons (tVar 0) tNil)) (kept_of (js := [0]) z a1 b1 (fun y hy e => free _ (by revert y; decide +kernel)) (by decide +kernel) (by decide +kernel) rfl rfl) (nscope_by (by decide +kernel)) (fun _ _ => rfl) (fun A outer s H E hr2 => ?_) (fun H2 E th hE => ⟨x, rfl, x, rfl, hx6.thru th, hE⟩)
      exact pe_call (E := E) G0 hr2 (by rfl) R0.g R0.F.kp R0.b .nil (passes_call (E := E) (takes_of rfl rfl rfl rfl) (fun _ _ _ _ h => h)) (pa_cons (pv 0) pa_nil)
    have D2 : Door P w K mg base 6 NG H6 f2 := by
      refine door_of (fr := ["_law_thing"]) (ws := [x]) (t := fun E => tCall (spNoRing NG) [] E (tCons (tVar 0) tNil)) (kept_of (js := [0]) z a2 b2 (fun y hy e => free _ (by revert y; decide +kernel)) (by decide +kernel) (by decide +kernel) rfl rfl) (nscope_by (by decide +kernel)) (fun _ _ => rfl) (fun A outer s H E hr2 => ?_) (fun H2 E th hE => ⟨x, rfl, x, rfl, hx6.thru th, hE⟩)
      exact pe_call (E := E) G1 hr2 (by rfl) R1.g R1.F.kp R1.b .nil (passes_call (E := E) (takes_of rfl rfl rfl rfl) (fun _ _ _ _ h => h)) (pa_cons (pv 0) pa_nil)
    have D3 : Door P w K mg base 6 NG H6 f3 := by
      refine door_of (fr := ["_law_thing"]) (ws := [x]) (t := fun E => tCall (spNoRing NG) [] E (tCons (tVar 0) tNil)) (kept_of (js := [0]) z a3 b3 (fun y hy e => free _ (by revert y; decide +kernel)) (by decide +kernel) (by decide +kernel) rfl rfl) (nscope_by (by decide +kernel)) (fun _ _ => rfl) (fun A outer s H E hr2 => ?_) (fun H2 E th hE => ⟨x, rfl, x, rfl, hx6.thru th, hE⟩)
      exact pe_call (E := E) G2 hr2 (by rfl) R2.g R2.F.kp R2.b .nil (passes_call (E := E) (takes_of rfl rfl rfl rfl) (fun _ _ _ _ h => h)) (pa_cons (pv 0) pa_nil)
    have D4 : Door P w K mg base 6 NG H6 f4 := by
      refine door_of (fr := ["_law_thing"]) (ws := [x]) (t := fun E => tCall (spNoRing NG) [] E (tCons (tVar 0) tNil)) (kept_of (js := [0]) z a4 b4 (fun y hy e => free _ (by revert y; decide +kernel)) (by decide +kernel) (by decide +kernel) rfl rfl) (nscope_by (by decide +kernel)) (fun _ _ => rfl) (fun A outer s H E hr2 => ?_) (fun H2 E th hE => ⟨x, rfl, x, rfl, hx6.thru th, hE⟩)
      exact pe_call (E := E) G3 hr2 (by rfl) R3.g R3.F.kp R3.b .nil (passes_call (E := E) (takes_of rfl rfl rfl rfl) (fun _ _ _ _ h => h)) (pa_cons (pv 0) pa_nil)
    have D5 : Door P w K mg base 6 NG H6 f5 := by
      refine door_of (fr := ["_law_thing"]) (ws := [x]) (t := fun E => tCall (spNoRing NG) [] E (tCons (tVar 0) tNil)) (kept_of (js := [0]) z a5 b5 (fun y hy e => free _ (by revert y; decide +kernel)) (by decide +kernel) (by decide +kernel) rfl rfl) (nscope_by (by decide +kernel)) (fun _ _ => rfl) (fun A outer s H E hr2 => ?_) (fun H2 E th hE => ⟨x, rfl, x, rfl, hx6.thru th, hE⟩)
      exact pe_call (E := E) G4 hr2 (by rfl) R4.g R4.F.kp R4.b .nil (passes_call (E := E) (takes_of rfl rfl rfl rfl) (fun _ _ _ _ h => h)) (pa_cons (pv 0) pa_nil)
    refine q H6 l [f1, f2, f3, f4, f5] (e5.trans (ExtN.of zs)) (t5.ext zs) nl (zs _ _ l5) (Nat.le_refl 5) (fun f hf => ?_)
    simp only [List.mem_cons, List.not_mem_nil, or_false] at hf
    rcases hf with rfl | rfl | rfl | rfl | rfl <;> assumption
end
end Hop

set_option Elab.async false
set_option linter.all false
set_option maxRecDepth 100000
namespace Hop
open PySem PySem.Spec PyProof.Rows L2 HopR LamX
def BadT (H : Hp) (v : V) : Prop := ∃ t x y, v = .ref t ∧ H t = some (.tup [x, y]) ∧ NoLn H x y
theorem BadT.same {H H' : Hp} {v : V} (b : BadT H v) (s : Same H H') : BadT H' v := by
  obtain ⟨t, x, y, e, h1, h2⟩ := b
  exact ⟨t, x, y, e, s _ _ h1, h2.thru (thru_same s)⟩
theorem BadT.ext {H H' : Hp} {v : V} (b : BadT H v) (s : ExtN H H') : BadT H' v := by
  obtain ⟨t, x, y, e, h1, h2⟩ := b
  exact ⟨t, x, y, e, s _ _ h1 (fun _ z => nomatch z), h2.thru (thru_ext s)⟩
theorem tups_ext {H H' : Hp} {cs : List Nat} (s : ExtN H H') : ∀ {ks : List Nat} {vs : List V}, Tups H cs ks vs → Tups H' cs ks vs
  | [], _, h => h
  | _ :: _, _, ⟨p, vr, e, h1, h2⟩ => ⟨p, vr, e, s _ _ h1 (fun _ z => nomatch z), tups_ext s h2⟩
theorem strOk_rt {cs : List Nat} (h : Rg cs) : PyData.strOk (rt cs) = true := by
  unfold PyData.strOk
  rw [← Array.all_toList, rt_list, List.all_eq_true]
  intro c hc
  have := h.ok c hc
  simp only [List.mem_cons, List.not_mem_nil, or_false] at this
  rcases this with rfl | rfl | rfl <;> decide
/-- what the law keeps of the good ones -/
def dB (z : Str) (u : Int) (cs ks : List Nat) : PyData := .list [.str z, .int u, .list (dchg cs ks)]
theorem lay_dB {gs cs : List Nat} {u : Int} (hg : Rg gs) (h : Rg cs) (ks : List Nat) : PyData.canLay0 (dB (rt gs) u cs ks) = true := by
  unfold dB
  simp only [PyData.canLay0, PyData.canLayAll0, lay_dchg h, strOk_rt hg, Bool.and_true]
theorem shaped_dB {gs cs : List Nat} {u : Int} (hg : Rg gs) (h : Rg cs) (ks : List Nat) : SeqAt.shaped (dB (rt gs) u cs ks) = true := by
  unfold SeqAt.shaped
  rw [Bool.and_eq_true]
  refine ⟨lay_dB hg h ks, decide_eq_true ?_⟩
  have := deep_dchg cs ks
  unfold dB
  simp only [PyData.depth, PyData.depthAll]
  omega
def BfAt (H : Hp) (p : Addr) (z : Str) (u : Int) (cs ks : List Nat) : Prop := ∃ pw ws, H p = some (.lst [.str z, .int u, .ref pw]) ∧ H pw = some (.lst ws) ∧ Tups H cs ks ws
theorem BfAt.same {H H' : Hp} {p : Addr} {z : Str} {u : Int} {cs ks : List Nat} (b : BfAt H p z u cs ks) (s : Same H H') : BfAt H' p z u cs ks := let ⟨pw, ws, h1, h2, h3⟩ := b; ⟨pw, ws, s _ _ h1, s _ _ h2, tups_same s h3⟩
theorem BfAt.ext {H H' : Hp} {p : Addr} {z : Str} {u : Int} {cs ks : List Nat} (b : BfAt H p z u cs ks) (s : ExtN H H') : BfAt H' p z u cs ks := let ⟨pw, ws, h1, h2, h3⟩ := b; ⟨pw, ws, s _ _ h1 (fun _ z => nomatch z), s _ _ h2 (fun _ z => nomatch z), tups_ext s h3⟩
theorem BfAt.dp {K : PySem.W.Frag} {H : Hp} {p : Addr} {z : Str} {u : Int} {cs ks : List Nat} (b : BfAt H p z u cs ks) : Dp K H (.ref p) (dB z u cs ks) := let ⟨_, _, h1, h2, h3⟩ := b; .lst (SqL.of h1) (.cons (.str _) (.cons (.int _) (.cons (.lst (SqL.of h2) (tups_dp h3)) .nil)))
theorem row_more {us : List Bool} (h : us.length ≤ 29) (b : Bool) : Row (us ++ [b]) := ⟨by rw [List.length_append]; show 1 ≤ us.length + 1; omega, by rw [List.length_append]; show us.length + 1 ≤ 30; omega⟩
theorem noln_len {H : Hp} {us ls : List Bool} (r1 : Row us) (r2 : Row ls) (h : ¬ Ln us ls) : NoLn H (.str (tx us)) (.str (tx ls)) := .inr ⟨us, rfl, r1, .inr ⟨ls, rfl, r2, h⟩⟩
theorem not_row (z : Str) (l : z.length ≤ 10000) (b : isRowB z = false) {H : Hp} : NoRw H (.str z) := .inr ⟨z, rfl, l, b⟩
theorem flat_rep1 {α : Type} (x : α) : ∀ m : Nat, (List.replicate m [x]).flatten = List.replicate m x
  | 0 => rfl
  | m + 1 => by rw [List.replicate_succ, List.flatten_cons, flat_rep1 x m, List.replicate_succ]; rfl
theorem rep_tx (b : Bool) (m : Nat) : repS (tx [b]) m = tx (List.replicate m b) := by
  unfold repS
  rw [tx_list, show List.map cd [b] = [cd b] from rfl, flat_rep1]
  unfold tx
  rw [List.map_replicate]
section
variable {P : Program} {w : World} {K : PySem.W.Frag} {mg : Str → Option Value} {base : Heap} {d : Addr} {es : Array DictEntry} {n : Nat} {d' : Addr} {es' : Array DictEntry} {n' : Nat}
/-! ### _law_cell_at -/
theorem scCell : FnScope ["_law_script", "_law_k"] ["_law_script", "_law_k"] (defScope sCellAt) := ⟨rfl, rfl, rfl, by decide +kernel, rfl, by decide +kernel, by decide +kernel⟩
theorem ok_cell {f : Addr} {fd : FuncData} {k : Nat} (F : Fun K "_law_cell_at" "_law_cell_at" sCellAt f fd) (mL : mg "len" = none) : FnOk P w K mg base CX0 (k + 1) f fd ["_law_script", "_law_k"] (spCellH K) := by
  refine F.ok scCell (fun vs H Q E h => ?_) (fun cdv A outer s H vs Q E hr h => ?_)
  · obtain ⟨a, ns, k, rfl, _⟩ := h
    rfl
  · obtain ⟨a, ns, k, rfl, hS, q⟩ := h
    refine ⟨_, pss_cons (ps_if (pt_cmpR op_lt (pv 1) (pe_callB call_len_seq (by rfl) mL PySem.boot_len (pa_cons (pv 0) pa_nil)) (nomark _)) (pss_one (ps_ret (pe_ix ix_list (pv 0) (pv 1) (fun _ _ => rfl)))) pss_nil) (pss_one (ps_ret pe_int)), ?_⟩
    refine ⟨_, rfl, .ref a, rfl, a, _, rfl, .inl hS, _, _, rfl, rfl, _, rfl, ite2 (fun e => ?_) (fun e => ?_)⟩
    · have e : (k : Int) < ((ns.map V.int).length : Int) := of_decide_eq_true e
      rw [List.length_map] at e
      have hk : k < ns.length := by omega
      exact ⟨.ref a, rfl, .int (k : Int), rfl, a, _, _, .int ns[k], rfl, rfl, hS, atI_nat (by rw [List.getElem?_map, List.getElem?_eq_getElem hk]; rfl), q _⟩
    · exact q 0

structure Df (K : PySem.W.Frag) (mg : Str → Option Value) (f1 f2 : Addr) (g1 g2 : FuncData) : Prop where
  D : DrDefs K mg f1 f2 g1 g2
  tup0 : mg "tuple" = none
  ce : ∃ r s, Fn K mg "_law_cell_at" sCellAt ["_law_script", "_law_k"] r s
  dr : ∃ r s, Fn K mg "_law_drawn" sDrawn ["_law_cell", "_law_sizes"] r s
  li : ∃ r s, Fn K mg "_law_lines" sLLines ["_law_cell"] r s
  lr : ∃ r s, Fn K mg "_law_ring" sLRing ["_law_cell", "_law_most"] r s
  ir : ∃ r s, Fn K mg "is_row" sIsRow ["thing"] r s
  al : ∃ r s, Fn K mg "are_lines" sLines ["upper", "lower"] r s
  fi : ∃ r s, Fn K mg "first_to_the_left" sFirst ["signs", "place"] r s
  ro : ∃ r s, Fn K mg "ring_of" sRingOf ["upper", "lower"] r s
  wu : ∃ r s, Fn K mg "with_upper" sWup ["waiting"] r s
  pa : ∃ r s, Fn K mg "past" sPast ["waiting", "sign"] r s
  co : ∃ r s, Fn K mg "choices" sChoices ["many", "some"] r s
  up : ∃ r s, Fn K mg "uppers_many" sUppers ["ring"] r s
  be : ∃ r s, Fn K mg "place_behind" sBehind ["ring", "place"] r s
  ri : ∃ r s, Fn K mg "rise_at" sRise ["ring", "place"] r s
  ex : ∃ r s, Fn K mg "exchanged_at" sExch ["ring", "place"] r s
/-- the def that calls what it got -/
structure Taker (K : PySem.W.Frag) (mg : Str → Option Value) (fc : Addr) (oc : Value) (od : Option Addr) (kV dc pm : Value) (an : Option Addr) (cdv ct : Value) (sl : Array (Option Value)) : Prop where
  g : mg "_law_class_of" = some (.ref fc)
  kp : PySem.W.keepIn K (.ref fc) = true
  lk : K.lookup fc = some ⟨oc, od, .func (PySem.W.fnOf "_law_class_of" "_law_class_of" (defArgs sClass) (defBody sClass) (defScope sClass) .none kV dc pm an cdv ct), sl⟩
  cd : PySem.W.codeIn K cdv "_law_class_of" = true
  b : Binds K (PySem.W.fnOf "_law_class_of" "_law_class_of" (defArgs sClass) (defBody sClass) (defScope sClass) .none kV dc pm an cdv ct) ["_law_call"] []
  F : Fun K "_law_class_of" "_law_class_of" sClass fc (PySem.W.fnOf "_law_class_of" "_law_class_of" (defArgs sClass) (defBody sClass) (defScope sClass) .none kV dc pm an cdv ct)
abbrev nLaw : List Str := ["_law_script", "_law_cell", "_law_upper", "_law_lower", "_law_ring_here", "_law_before", "_law_some", "_law_thing", "_law_door", "_law_pairs", "_law_one", "_law_other"]
theorem scLaw : FnScope nLaw ["_law_script"] (defScope sLaw) := ⟨rfl, rfl, rfl, by decide +kernel, rfl, by decide +kernel, by decide +kernel⟩
def spLaw (K : PySem.W.Frag) (T : List (Addr × Str)) : Sp := fun vs H Q _ => ∃ (a : Addr) (ns : List Int), vs = [.ref a] ∧ SqL K H a (ns.map V.int) ∧ ns.length ≤ 63 ∧ Tabs T H ∧ ∀ H', Q (.bl true) H'
variable {fD cD cL tb tD : Addr} {ocD kVD dcD pmD ctD : Value} {odD anD : Option Addr} {slD : Array (Option Value)} {f1 f2 : Addr} {g1 g2 : FuncData}
variable {fL fc : Addr} {oc kV dc pm cdv ct : Value} {od an : Option Addr} {sl : Array (Option Value)} {ocL kVL dcL pmL ctL : Value} {odL anL : Option Addr} {slL : Array (Option Value)} {HE c0 c1 c2 c3 c4 c5 c6 c7 c8 NI NG : Addr}
set_option maxHeartbeats 16000000 in
theorem ok_law (lkL : K.lookup fL = some ⟨ocL, odL, .func (PySem.W.fnOf "law" "law" (defArgs sLaw) (defBody sLaw) (defScope sLaw) .none kVL dcL pmL anL (.ref cL) ctL), slL⟩) (cdL : PySem.W.codeIn K (.ref cL) "law" = true)
    (lkD : K.lookup fD = some ⟨ocD, odD, .func (PySem.W.fnOf "_law_ring_doors" "_law_ring_doors" (defArgs sDoors) (defBody sDoors) (defScope sDoors) .none kVD dcD pmD anD (.ref cD) ctD), slD⟩) (cdD : PySem.W.codeIn K (.ref cD) "_law_ring_doors" = true)
    (gD : mg "_law_ring_doors" = some (.ref fD)) (kD : PySem.W.keepIn K (.ref fD) = true) (bD : Binds K (PySem.W.fnOf "_law_ring_doors" "_law_ring_doors" (defArgs sDoors) (defBody sDoors) (defScope sDoors) .none kVD dcD pmD anD (.ref cD) ctD) ["_law_thing"] [])
    (N : Df K mg f1 f2 g1 g2) (U : Taker K mg fc oc od kV dc pm an cdv ct sl) (T : Txt K w mg d es n) (T7 : Tx7 K w mg d es n d' es' n') (Z : Er K mg NG NI) (Y : HopR.Kinds K mg HE c0 c1 c2 c3 c4 c5 c6 c7 c8 NI NG)
    (RI : Raised K NI HE c0 c1 c2 c3 c4 c5 c6 c7 c8 NI NG 9) (RG : Raised K NG HE c0 c1 c2 c3 c4 c5 c6 c7 c8 NI NG 10) (TB : TabB base mg cL tb) (TD : TabB base mg cD tD) (ne : tb ≠ tD) :
    FnOk P w K mg base CX0 8 fL (PySem.W.fnOf "law" "law" (defArgs sLaw) (defBody sLaw) (defScope sLaw) .none kVL dcL pmL anL (.ref cL) ctL) ["_law_script"] (spLaw K [(tb, qLam), (tD, qDoor)]) := by
  have tup0 := N.tup0
  obtain ⟨q1, p1, Rce⟩ := N.ce
  obtain ⟨q2, p2, Rdr⟩ := N.dr
  obtain ⟨q3, p3, Rli⟩ := N.li
  obtain ⟨q4, p4, Rlr⟩ := N.lr
  obtain ⟨q5, p5, Rir⟩ := N.ir
  obtain ⟨q6, p6, Ral⟩ := N.al
  obtain ⟨q7, p7, Rfi⟩ := N.fi
  obtain ⟨q8, p8, Rro⟩ := N.ro
  obtain ⟨q9, p9, Rwu⟩ := N.wu
  obtain ⟨qa, pa, Rpa⟩ := N.pa
  obtain ⟨qb, pb, Rco⟩ := N.co
  obtain ⟨qc, pc, Rup⟩ := N.up
  obtain ⟨qd, pd, Rbe⟩ := N.be
  obtain ⟨qe, pe, Rri⟩ := N.ri
  obtain ⟨qf, pf, Rex⟩ := N.ex
  obtain ⟨qg, pg, Rch⟩ := N.D.changes
  obtain ⟨qh, ph, Rwe⟩ := N.D.weight
  have Gce : FnOk P w K mg base CX0 7 q1 p1 ["_law_script", "_law_k"] (spCellH K) := ok_cell Rce.F T.len
  have Gli : FnOk P w K mg base CX0 7 q3 p3 ["_law_cell"] spLLines := ok_llines Rli.F Rdr T7
  have Glr : FnOk P w K mg base CX0 7 q4 p4 ["_law_cell", "_law_most"] spLRing := ok_lring Rlr.F Rdr T
  have Gro : FnOk P w K mg base CX0 7 q8 p8 ["upper", "lower"] spRingOf := ok_ringof Rro.F Rir Ral Rfi T7
  have Gnr : FnOk P w K mg base (L2.CX P w) 5 q8 p8 ["upper", "lower"] (spNoRingOf NI) := ok_noringof Rro.F Rir Ral T7 Z
  have Gwe : FnOk P w K mg base CX0 7 qh ph ["ring"] spUpp := ok_weight Rwe.F N.D.N1 N.D.N2 Rwu Rpa Rco Rup T
  have Gch : FnOk P w K mg base CX0 7 qg pg ["ring"] spChanges := ok_changes Rch.F N.D.N1 N.D.N2 Rbe Rri Rex T
  have Gdo : FnOk P w K mg base CX0 7 fD _ ["_law_thing"] (spDoors P w K mg base 6 NG [(tb, qLam), (tD, qDoor)]) := ok_doors lkD cdD N.D T Z TD ne
  have Gcl : FnOk P w K mg base CX0 7 fc _ ["_law_call"] (spClass P w K mg base 6 NG 10) := ok_class U.F Y RG T.isi
  have hu : ∀ p ∈ [(tb, qLam), (tD, qDoor)], p.1 = tb → p.2 = qLam := fun p hp e => by
    rcases List.mem_cons.mp hp with rfl | hp
    · rfl
    · rw [List.mem_singleton.mp hp] at e
      exact absurd e.symm ne
  refine fn_of lkL cdL scLaw (fun vs H Q E h => ?_) (fun A outer s H vs Q E hr h => ?_)
  · obtain ⟨a, ns, rfl, _⟩ := h
    rfl
  · obtain ⟨a, ns, rfl, hS, hlen, hTab, qq⟩ := h
    have nd := scLaw.nd
    have hu' := hu66 hr
    have hu64 : (A.deeper (PyProof.Rows.envOfC "law" (defScope sLaw) s.heap.objs.size fL (.ref cL))).units + 64 < cLine := by omega
    -- the lines, and the end
    obtain ⟨tL, pL, hL⟩ : ∃ tL, PSs (cxOf CX0 P w K mg base nLaw "law" (defScope sLaw) fL (.ref cL) A outer s H E).nox ((defBody sLaw).drop 6) tL ∧
        ∀ (H1 : Hp) (c : Int) (hi lo : List Bool) (cs : List Nat) (pb : Addr) (y6 y7 y8 : Option V), Ln hi lo → Rg cs → Tabs [(tb, qLam), (tD, qDoor)] H1 → BfAt H1 pb (rt (rg hi lo)) ((um cs : Nat) : Int) cs (rchg cs cs.length) →
          tL { nx := fun _ H' => Q .non H', rt := Q } [some (.ref a), some (.int c), some (.str (tx hi)), some (.str (tx lo)), some (.str (rt cs)), some (.ref pb), y6, y7, y8, none, none, none] H1 := by
      refine ⟨_, pss_cons (ps_set (i := 9) nd rfl (.inl rfl) (pe_lst (pa_cons (pe_tup (pa_cons (pv 2) (pa_cons (pe_op op_add_str (pv 3) pe_str) pa_nil))) (pa_cons (pe_tup (pa_cons (pe_op op_add_str (pv 2) pe_str) (pa_cons (pv 3) pa_nil))) (pa_cons (pe_tup (pa_cons pe_str (pa_cons pe_str pa_nil))) (pa_cons (pe_tup (pa_cons pe_str (pa_cons pe_str pa_nil))) (pa_cons (pe_tup (pa_cons (pe_op op_repS pe_str pe_int) (pa_cons (pe_op op_repS pe_str pe_int) pa_nil))) pa_nil)))))))
        (pss_cons (ps_set (i := 9) nd rfl (.inl rfl) (pe_op op_cat (pv 9) (pe_lst (pa_cons (pe_tup (pa_cons pe_str (pa_cons pe_str pa_nil))) (pa_cons (pe_tup (pa_cons (pe_op op_repS pe_str (pe_callB call_len_str (by rfl) T.len PySem.boot_len (pa_cons (pv 3) pa_nil))) (pa_cons (pe_op op_add_str pe_str (pe_slice sl_str (pv 3) (po_some pe_int) po_none)) pa_nil))) (pa_cons (pe_tup (pa_cons pe_non (pa_cons (pv 3) pa_nil))) (pa_cons (pe_tup (pa_cons (pv 2) (pa_cons pe_non pa_nil))) (pa_cons (pe_tup (pa_cons (pv 3) (pa_cons pe_int pa_nil))) pa_nil))))))))
        (pss_cons (ps_set (i := 9) nd rfl (.inl rfl) (pe_op op_cat (pv 9) (pe_lst (pa_cons (pe_tup (pa_cons (pe_callTy (cr_listT rfl) (by rfl) T.list (by decide +kernel) (pa_cons (pv 2) pa_nil)) (pa_cons (pv 3) pa_nil))) (pa_cons (pe_tup (pa_cons (pv 2) (pa_cons (pe_callTy (cr_tupT rfl) (by rfl) tup0 (by decide +kernel) (pa_cons (pv 3) pa_nil)) pa_nil))) (pa_cons (pe_tup (pa_cons pe_str (pa_cons pe_str pa_nil))) (pa_cons (pe_tup (pa_cons pe_str (pa_cons pe_str pa_nil))) (pa_cons (pe_tup (pa_cons pe_str (pa_cons pe_str pa_nil))) (pa_cons (pe_tup (pa_cons pe_bl (pa_cons pe_bl pa_nil))) pa_nil)))))))))
        (pss_cons (ps_for PassesOwn.never rfl (pi_list (pv 9)) (pg_tup (by rfl) (pgs_cons (pg_name (i := 10) nd rfl (.inr rfl)) (pgs_cons (pg_name (i := 11) nd rfl (.inr rfl)) pgs_nil)))
          (pss_one (ps_if (pt_cmpR op_ne (pe_lamcall (k := 5) (T := [(tb, qLam), (tD, qDoor)]) (by rfl) U.g U.kp U.lk U.cd U.b scClass rfl (.inl rfl) (class_gives Y RI T.isi) TB rfl (List.mem_cons_self ..) hu hr (lamS_by (sc := defScope sLaw) (by decide +kernel)) rfl (fun _ _ _ _ _ => rfl)
              (fun A outer s H E f c' hr2 => pe_call (E := E) Gnr hr2 (by rfl) Rro.g Rro.F.kp Rro.b .nil (passes_call (E := E) (takes_of rfl rfl rfl rfl) (fun _ _ _ _ h => h)) (pa_cons (pv 10) (pa_cons (pv 11) pa_nil)))) pe_int (nomark _)) (pss_one (ps_ret pe_bl)) pss_nil)))
        (pss_one (ps_ret (pe_cmpR (op_eqD hu64) (pe_lst (pa_cons (pe_call Gro hr (by rfl) Rro.g Rro.F.kp Rro.b .nil pass0 (pa_cons (pv 2) (pa_cons (pv 3) pa_nil))) (pa_cons (pe_call Gwe hr (by rfl) Rwe.g Rwe.F.kp Rwe.b .nil pass0 (pa_cons (pv 4) pa_nil)) (pa_cons (pe_call Gch hr (by rfl) Rch.g Rch.F.kp Rch.b .nil pass0 (pa_cons (pv 4) pa_nil)) pa_nil)))) (pv 5) (nomark _))))))), fun H1 c hi lo cs pb y6 y7 y8 hLn hR hT1 bf => ?_⟩
      obtain ⟨r1, r2⟩ := hLn.row
      obtain ⟨z1, y1⟩ := tx_few r1
      obtain ⟨z2, y2⟩ := tx_few r2
      have h1 := hLn.len
      have h2 := hLn.lo2
      have h3 := hLn.hi12
      have f1 : (tx lo).length + (".": Str).length ≤ sizeLine := by rw [tx_len, show (".": Str).length = 1 by decide +kernel]; exact fit (by omega)
      have f2 : (tx hi).length + (".": Str).length ≤ sizeLine := by rw [tx_len, show (".": Str).length = 1 by decide +kernel]; exact fit (by omega)
      have f3 : ("o" : Str).length * (tx lo).length ≤ 1000000 := by rw [tx_len, show ("o": Str).length = 1 by decide +kernel]; omega
      have f4 : (tx lo).length ≤ 1000000 := by rw [tx_len]; omega
      have ec : cutS (tx lo) (some 1) none = tx (lo.drop 1) := cut_from lo 1
      have f5 : (".": Str).length + (cutS (tx lo) (some 1) none).length ≤ sizeLine := by rw [ec, tx_len, List.length_drop, show (".": Str).length = 1 by decide +kernel]; exact fit (by omega)
      have ldot : tx lo ++ "." = tx (lo ++ [false]) := by rw [tx_f, tx_app]
      have hdot : tx hi ++ "." = tx (hi ++ [false]) := by rw [tx_f, tx_app]
      have b1 : ∀ {H : Hp}, NoLn H (.str (tx hi)) (.str (tx lo ++ ".")) := fun {H} => by
        rw [ldot]
        exact noln_len r1 (row_more (by omega) _) fun z => by have := z.len; rw [List.length_append] at this; have e : [false].length = 1 := rfl; omega
      have b2 : ∀ {H : Hp}, NoLn H (.str (tx hi ++ ".")) (.str (tx lo)) := fun {H} => by
        rw [hdot]
        exact noln_len (row_more (by omega) _) r2 fun z => by have := z.len; rw [List.length_append] at this; have e : [false].length = 1 := rfl; omega
      have b3 : ∀ {H : Hp}, NoLn H (.str "o") (.str "o") := fun {H} => by
        rw [tx_o]
        exact noln_len ⟨by decide, by decide⟩ ⟨by decide, by decide⟩ fun z => absurd z.lo2 (by decide)
      have b4 : ∀ {H : Hp}, NoLn H (.str ".") (.str "o") := fun {H} => by
        rw [tx_o, tx_f]
        exact noln_len ⟨by decide, by decide⟩ ⟨by decide, by decide⟩ fun z => absurd z.lo2 (by decide)
      have b5 : ∀ {H : Hp}, NoLn H (.str (repS "." 13)) (.str (repS "o" 13)) := fun {H} => by
        rw [tx_o, tx_f, rep_tx, rep_tx]
        exact noln_len ⟨by decide, by decide⟩ ⟨by decide, by decide⟩ fun z => absurd z.hi12 (by decide)
      have b6 : ∀ {H : Hp}, NoLn H (.str "oo") (.str ".o") := fun {H} => by
        rw [show ("oo" : Str) = tx [true, true] by decide +kernel, show (".o" : Str) = tx [false, true] by decide +kernel]
        exact noln_len ⟨by decide, by decide⟩ ⟨by decide, by decide⟩ fun z => absurd z.few (by decide)
      have b7 : ∀ {H : Hp}, NoLn H (.str (repS "o" (tx lo).length)) (.str ("." ++ cutS (tx lo) (some 1) none)) := fun {H} => by
        rw [ec, tx_o, tx_f, rep_tx, tx_app, tx_len]
        refine noln_len ⟨by rw [List.length_replicate]; omega, by rw [List.length_replicate]; omega⟩ ⟨by rw [List.length_append]; show 1 ≤ 1 + _; omega, by rw [List.length_append, List.length_drop]; show 1 + _ ≤ 30; omega⟩ fun z => ?_
        have q1 := z.few
        have q2 : nb (List.replicate lo.length true) = lo.length := List.count_replicate_self
        have q3 : nb ([false] ++ lo.drop 1) ≤ lo.length - 1 := by
          show ([false] ++ lo.drop 1).count true ≤ _
          rw [List.count_append]
          have := List.count_le_length (a := true) (l := lo.drop 1)
          rw [List.length_drop] at this
          show 0 + _ ≤ _
          omega
        omega
      have b8 : ∀ {H : Hp}, NoLn H .non (.str (tx lo)) := .inl (.inl .non)
      have b9 : ∀ {H : Hp}, NoLn H (.str (tx hi)) .non := .inr ⟨hi, rfl, r1, .inl (.inl .non)⟩
      have b10 : ∀ {H : Hp}, NoLn H (.str (tx lo)) (.int 7) := .inr ⟨lo, rfl, r2, .inl (.inl (.int 7))⟩
      have b11 : ∀ {H : Hp}, NoLn H (.str "ab") (.str "oo") := .inl (not_row _ (by decide +kernel) (by decide +kernel))
      have b12 : ∀ {H : Hp}, NoLn H (.str "oo") (.str "ab") := fun {H} => by
        rw [show ("oo" : Str) = tx [true, true] by decide +kernel]
        exact .inr ⟨_, rfl, ⟨by decide, by decide⟩, .inl (not_row _ (by decide +kernel) (by decide +kernel))⟩
      have b13 : ∀ {H : Hp}, NoLn H (.str "") (.str "") := .inl (not_row _ (by decide +kernel) (by decide +kernel))
      have b14 : ∀ {H : Hp}, NoLn H (.bl true) (.bl false) := .inl (.inl (.bl true))
      refine ⟨.str (tx hi), rfl, .str (tx lo), rfl, tx lo, ".", rfl, rfl, f1, (by show 2 ≤ sizeLine; decide), fun tp0 np0 => ?_⟩
      have sp0 := same_upd (o := .tup [.str (tx hi), .str (tx lo ++ ".")]) np0
      have ep0 : BadT (upd H1 tp0 (.tup [.str (tx hi), .str (tx lo ++ ".")])) (.ref tp0) := ⟨_, _, _, rfl, upd_same, NoLn.thru (thru_same sp0) b1⟩
      generalize upd H1 tp0 (.tup [.str (tx hi), .str (tx lo ++ ".")]) = Hp0 at sp0 ep0
      refine ⟨.str (tx hi), rfl, tx hi, ".", rfl, rfl, f2, .str (tx lo), rfl, (by show 2 ≤ sizeLine; decide), fun tp1 np1 => ?_⟩
      have sp1 := same_upd (o := .tup [.str (tx hi ++ "."), .str (tx lo)]) np1
      have ep1 : BadT (upd Hp0 tp1 (.tup [.str (tx hi ++ "."), .str (tx lo)])) (.ref tp1) := ⟨_, _, _, rfl, upd_same, NoLn.thru (thru_same sp1) b2⟩
      generalize upd Hp0 tp1 (.tup [.str (tx hi ++ "."), .str (tx lo)]) = Hp1 at sp1 ep1
      have ep0 := ep0.same sp1
      refine ⟨(by show 2 ≤ sizeLine; decide), fun tp2 np2 => ?_⟩
      have sp2 := same_upd (o := .tup [.str "o", .str "o"]) np2
      have ep2 : BadT (upd Hp1 tp2 (.tup [.str "o", .str "o"])) (.ref tp2) := ⟨_, _, _, rfl, upd_same, NoLn.thru (thru_same sp2) b3⟩
      generalize upd Hp1 tp2 (.tup [.str "o", .str "o"]) = Hp2 at sp2 ep2
      have ep0 := ep0.same sp2
      have ep1 := ep1.same sp2
      refine ⟨(by show 2 ≤ sizeLine; decide), fun tp3 np3 => ?_⟩
      have sp3 := same_upd (o := .tup [.str ".", .str "o"]) np3
      have ep3 : BadT (upd Hp2 tp3 (.tup [.str ".", .str "o"])) (.ref tp3) := ⟨_, _, _, rfl, upd_same, NoLn.thru (thru_same sp3) b4⟩
      generalize upd Hp2 tp3 (.tup [.str ".", .str "o"]) = Hp3 at sp3 ep3
      have ep0 := ep0.same sp3
      have ep1 := ep1.same sp3
      have ep2 := ep2.same sp3
      refine ⟨".", 13, rfl, rfl, by decide, by decide, "o", 13, rfl, rfl, by decide, by decide, (by show 2 ≤ sizeLine; decide), fun tp4 np4 => ?_⟩
      have sp4 := same_upd (o := .tup [.str (repS "." 13), .str (repS "o" 13)]) np4
      have ep4 : BadT (upd Hp3 tp4 (.tup [.str (repS "." 13), .str (repS "o" 13)])) (.ref tp4) := ⟨_, _, _, rfl, upd_same, NoLn.thru (thru_same sp4) b5⟩
      generalize upd Hp3 tp4 (.tup [.str (repS "." 13), .str (repS "o" 13)]) = Hp4 at sp4 ep4
      have ep0 := ep0.same sp4
      have ep1 := ep1.same sp4
      have ep2 := ep2.same sp4
      have ep3 := ep3.same sp4
      refine ⟨(by show 5 ≤ sizeLine; decide), fun lp nlp => ?_⟩
      have slp := same_upd (o := .lst [.ref tp0, .ref tp1, .ref tp2, .ref tp3, .ref tp4]) nlp
      have elp : upd Hp4 lp (.lst [.ref tp0, .ref tp1, .ref tp2, .ref tp3, .ref tp4]) lp = some (.lst [.ref tp0, .ref tp1, .ref tp2, .ref tp3, .ref tp4]) := upd_same
      generalize upd Hp4 lp (.lst [.ref tp0, .ref tp1, .ref tp2, .ref tp3, .ref tp4]) = Hlp at slp elp
      have zp : Same H1 Hlp := sp0.trans (sp1.trans (sp2.trans (sp3.trans (sp4.trans (slp)))))
      have allp : ∀ v ∈ ([.ref tp0, .ref tp1, .ref tp2, .ref tp3, .ref tp4] : List V), BadT Hlp v := fun v hv => by
        simp only [List.mem_cons, List.not_mem_nil, or_false] at hv
        rcases hv with rfl | rfl | rfl | rfl | rfl
        · exact ep0.same slp
        · exact ep1.same slp
        · exact ep2.same slp
        · exact ep3.same slp
        · exact ep4.same slp
      have lenp : ([.ref tp0, .ref tp1, .ref tp2, .ref tp3, .ref tp4] : List V).length = 5 := rfl
      generalize ([.ref tp0, .ref tp1, .ref tp2, .ref tp3, .ref tp4] : List V) = Lp at elp allp lenp
      refine ⟨.ref lp, rfl, ?_⟩
      refine ⟨(by show 2 ≤ sizeLine; decide), fun tq0 nq0 => ?_⟩
      have sq0 := same_upd (o := .tup [.str "oo", .str ".o"]) nq0
      have eq0 : BadT (upd Hlp tq0 (.tup [.str "oo", .str ".o"])) (.ref tq0) := ⟨_, _, _, rfl, upd_same, NoLn.thru (thru_same sq0) b6⟩
      generalize upd Hlp tq0 (.tup [.str "oo", .str ".o"]) = Hq0 at sq0 eq0
      refine ⟨.str (tx lo), rfl, tx lo, rfl, y2, "o", (tx lo).length, rfl, rfl, f3, f4, .str (tx lo), rfl, 1, rfl, tx lo, rfl, y2, ".", _, rfl, rfl, f5, (by show 2 ≤ sizeLine; decide), fun tq1 nq1 => ?_⟩
      have sq1 := same_upd (o := .tup [.str (repS "o" (tx lo).length), .str ("." ++ cutS (tx lo) (some 1) none)]) nq1
      have eq1 : BadT (upd Hq0 tq1 (.tup [.str (repS "o" (tx lo).length), .str ("." ++ cutS (tx lo) (some 1) none)])) (.ref tq1) := ⟨_, _, _, rfl, upd_same, NoLn.thru (thru_same sq1) b7⟩
      generalize upd Hq0 tq1 (.tup [.str (repS "o" (tx lo).length), .str ("." ++ cutS (tx lo) (some 1) none)]) = Hq1 at sq1 eq1
      have eq0 := eq0.same sq1
      refine ⟨.str (tx lo), rfl, (by show 2 ≤ sizeLine; decide), fun tq2 nq2 => ?_⟩
      have sq2 := same_upd (o := .tup [.non, .str (tx lo)]) nq2
      have eq2 : BadT (upd Hq1 tq2 (.tup [.non, .str (tx lo)])) (.ref tq2) := ⟨_, _, _, rfl, upd_same, NoLn.thru (thru_same sq2) b8⟩
      generalize upd Hq1 tq2 (.tup [.non, .str (tx lo)]) = Hq2 at sq2 eq2
      have eq0 := eq0.same sq2
      have eq1 := eq1.same sq2
      refine ⟨.str (tx hi), rfl, (by show 2 ≤ sizeLine; decide), fun tq3 nq3 => ?_⟩
      have sq3 := same_upd (o := .tup [.str (tx hi), .non]) nq3
      have eq3 : BadT (upd Hq2 tq3 (.tup [.str (tx hi), .non])) (.ref tq3) := ⟨_, _, _, rfl, upd_same, NoLn.thru (thru_same sq3) b9⟩
      generalize upd Hq2 tq3 (.tup [.str (tx hi), .non]) = Hq3 at sq3 eq3
      have eq0 := eq0.same sq3
      have eq1 := eq1.same sq3
      have eq2 := eq2.same sq3
      refine ⟨.str (tx lo), rfl, (by show 2 ≤ sizeLine; decide), fun tq4 nq4 => ?_⟩
      have sq4 := same_upd (o := .tup [.str (tx lo), .int 7]) nq4
      have eq4 : BadT (upd Hq3 tq4 (.tup [.str (tx lo), .int 7])) (.ref tq4) := ⟨_, _, _, rfl, upd_same, NoLn.thru (thru_same sq4) b10⟩
      generalize upd Hq3 tq4 (.tup [.str (tx lo), .int 7]) = Hq4 at sq4 eq4
      have eq0 := eq0.same sq4
      have eq1 := eq1.same sq4
      have eq2 := eq2.same sq4
      have eq3 := eq3.same sq4
      refine ⟨(by show 5 ≤ sizeLine; decide), fun lq nlq => ?_⟩
      have slq := same_upd (o := .lst [.ref tq0, .ref tq1, .ref tq2, .ref tq3, .ref tq4]) nlq
      have elq : upd Hq4 lq (.lst [.ref tq0, .ref tq1, .ref tq2, .ref tq3, .ref tq4]) lq = some (.lst [.ref tq0, .ref tq1, .ref tq2, .ref tq3, .ref tq4]) := upd_same
      generalize upd Hq4 lq (.lst [.ref tq0, .ref tq1, .ref tq2, .ref tq3, .ref tq4]) = Hlq at slq elq
      have zq : Same Hlp Hlq := sq0.trans (sq1.trans (sq2.trans (sq3.trans (sq4.trans (slq)))))
      have allq : ∀ v ∈ ([.ref tq0, .ref tq1, .ref tq2, .ref tq3, .ref tq4] : List V), BadT Hlq v := fun v hv => by
        simp only [List.mem_cons, List.not_mem_nil, or_false] at hv
        rcases hv with rfl | rfl | rfl | rfl | rfl
        · exact eq0.same slq
        · exact eq1.same slq
        · exact eq2.same slq
        · exact eq3.same slq
        · exact eq4.same slq
      have lenq : ([.ref tq0, .ref tq1, .ref tq2, .ref tq3, .ref tq4] : List V).length = 5 := rfl
      generalize ([.ref tq0, .ref tq1, .ref tq2, .ref tq3, .ref tq4] : List V) = Lq at elq allq lenq
      have fpq : Lp.length + Lq.length ≤ sizeLine := by rw [lenp, lenq]; show 10 ≤ sizeLine; decide
      refine ⟨lp, lq, Lp, Lq, rfl, rfl, zq _ _ elp, elq, fpq, fun lc1 nlc1 => ?_⟩
      have sc1 := same_upd (o := .lst (Lp ++ Lq)) nlc1
      have ec1 : upd Hlq lc1 (.lst (Lp ++ Lq)) lc1 = some (.lst (Lp ++ Lq)) := upd_same
      generalize upd Hlq lc1 (.lst (Lp ++ Lq)) = Hc1 at sc1 ec1
      have allc1 : ∀ v ∈ Lp ++ Lq, BadT Hc1 v := fun v hv => (List.mem_append.mp hv).elim (fun h => ((allp v h).same zq).same sc1) fun h => (allq v h).same sc1
      refine ⟨.ref lc1, rfl, ?_⟩
      refine ⟨.str (tx hi), rfl, tx hi, rfl, y1, fun oL nL => ?_⟩
      have sL := same_upd (o := .lst ((sg (tx hi)).map V.str)) nL
      have eL : upd Hc1 oL (.lst ((sg (tx hi)).map V.str)) oL = some (.lst ((sg (tx hi)).map V.str)) := upd_same
      generalize upd Hc1 oL (.lst ((sg (tx hi)).map V.str)) = HLr at sL eL
      refine ⟨.str (tx lo), rfl, (by show 2 ≤ sizeLine; decide), fun tr0 nr0 => ?_⟩
      have sr0 := same_upd (o := .tup [.ref oL, .str (tx lo)]) nr0
      have er0 : BadT (upd HLr tr0 (.tup [.ref oL, .str (tx lo)])) (.ref tr0) := ⟨_, _, _, rfl, upd_same, NoLn.thru (thru_same sr0) (.inl (.inl (.lst eL)))⟩
      generalize upd HLr tr0 (.tup [.ref oL, .str (tx lo)]) = Hr0 at sr0 er0
      have sr0 := sL.trans sr0
      refine ⟨.str (tx hi), rfl, .str (tx lo), rfl, tx lo, rfl, y2, fun oT nT => ?_⟩
      have sT := same_upd (o := .tup ((sg (tx lo)).map V.str)) nT
      have eT : upd Hr0 oT (.tup ((sg (tx lo)).map V.str)) oT = some (.tup ((sg (tx lo)).map V.str)) := upd_same
      generalize upd Hr0 oT (.tup ((sg (tx lo)).map V.str)) = HTr at sT eT
      refine ⟨(by show 2 ≤ sizeLine; decide), fun tr1 nr1 => ?_⟩
      have sr1 := same_upd (o := .tup [.str (tx hi), .ref oT]) nr1
      have er1 : BadT (upd HTr tr1 (.tup [.str (tx hi), .ref oT])) (.ref tr1) := ⟨_, _, _, rfl, upd_same, NoLn.thru (thru_same sr1) (.inr ⟨hi, rfl, r1, .inl (.inl (.tup eT))⟩)⟩
      generalize upd HTr tr1 (.tup [.str (tx hi), .ref oT]) = Hr1 at sr1 er1
      have er0 := er0.same (sT.trans sr1)
      have sr1 := sT.trans sr1
      refine ⟨(by show 2 ≤ sizeLine; decide), fun tr2 nr2 => ?_⟩
      have sr2 := same_upd (o := .tup [.str "ab", .str "oo"]) nr2
      have er2 : BadT (upd Hr1 tr2 (.tup [.str "ab", .str "oo"])) (.ref tr2) := ⟨_, _, _, rfl, upd_same, NoLn.thru (thru_same sr2) b11⟩
      generalize upd Hr1 tr2 (.tup [.str "ab", .str "oo"]) = Hr2 at sr2 er2
      have er0 := er0.same sr2
      have er1 := er1.same sr2
      refine ⟨(by show 2 ≤ sizeLine; decide), fun tr3 nr3 => ?_⟩
      have sr3 := same_upd (o := .tup [.str "oo", .str "ab"]) nr3
      have er3 : BadT (upd Hr2 tr3 (.tup [.str "oo", .str "ab"])) (.ref tr3) := ⟨_, _, _, rfl, upd_same, NoLn.thru (thru_same sr3) b12⟩
      generalize upd Hr2 tr3 (.tup [.str "oo", .str "ab"]) = Hr3 at sr3 er3
      have er0 := er0.same sr3
      have er1 := er1.same sr3
      have er2 := er2.same sr3
      refine ⟨(by show 2 ≤ sizeLine; decide), fun tr4 nr4 => ?_⟩
      have sr4 := same_upd (o := .tup [.str "", .str ""]) nr4
      have er4 : BadT (upd Hr3 tr4 (.tup [.str "", .str ""])) (.ref tr4) := ⟨_, _, _, rfl, upd_same, NoLn.thru (thru_same sr4) b13⟩
      generalize upd Hr3 tr4 (.tup [.str "", .str ""]) = Hr4 at sr4 er4
      have er0 := er0.same sr4
      have er1 := er1.same sr4
      have er2 := er2.same sr4
      have er3 := er3.same sr4
      refine ⟨(by show 2 ≤ sizeLine; decide), fun tr5 nr5 => ?_⟩
      have sr5 := same_upd (o := .tup [.bl true, .bl false]) nr5
      have er5 : BadT (upd Hr4 tr5 (.tup [.bl true, .bl false])) (.ref tr5) := ⟨_, _, _, rfl, upd_same, NoLn.thru (thru_same sr5) b14⟩
      generalize upd Hr4 tr5 (.tup [.bl true, .bl false]) = Hr5 at sr5 er5
      have er0 := er0.same sr5
      have er1 := er1.same sr5
      have er2 := er2.same sr5
      have er3 := er3.same sr5
      have er4 := er4.same sr5
      refine ⟨(by show 6 ≤ sizeLine; decide), fun lr nlr => ?_⟩
      have slr := same_upd (o := .lst [.ref tr0, .ref tr1, .ref tr2, .ref tr3, .ref tr4, .ref tr5]) nlr
      have elr : upd Hr5 lr (.lst [.ref tr0, .ref tr1, .ref tr2, .ref tr3, .ref tr4, .ref tr5]) lr = some (.lst [.ref tr0, .ref tr1, .ref tr2, .ref tr3, .ref tr4, .ref tr5]) := upd_same
      generalize upd Hr5 lr (.lst [.ref tr0, .ref tr1, .ref tr2, .ref tr3, .ref tr4, .ref tr5]) = Hlr at slr elr
      have zr : Same Hc1 Hlr := sr0.trans (sr1.trans (sr2.trans (sr3.trans (sr4.trans (sr5.trans (slr))))))
      have allr : ∀ v ∈ ([.ref tr0, .ref tr1, .ref tr2, .ref tr3, .ref tr4, .ref tr5] : List V), BadT Hlr v := fun v hv => by
        simp only [List.mem_cons, List.not_mem_nil, or_false] at hv
        rcases hv with rfl | rfl | rfl | rfl | rfl | rfl
        · exact er0.same slr
        · exact er1.same slr
        · exact er2.same slr
        · exact er3.same slr
        · exact er4.same slr
        · exact er5.same slr
      have lenr : ([.ref tr0, .ref tr1, .ref tr2, .ref tr3, .ref tr4, .ref tr5] : List V).length = 6 := rfl
      generalize ([.ref tr0, .ref tr1, .ref tr2, .ref tr3, .ref tr4, .ref tr5] : List V) = Lr at elr allr lenr
      have fpqr : (Lp ++ Lq).length + Lr.length ≤ sizeLine := by rw [List.length_append, lenp, lenq, lenr]; show 16 ≤ sizeLine; decide
      refine ⟨lc1, lr, Lp ++ Lq, Lr, rfl, rfl, zr _ _ ec1, elr, fpqr, fun lc2 nlc2 => ?_⟩
      have sc2 := same_upd (o := .lst (Lp ++ Lq ++ Lr)) nlc2
      have ec2 : upd Hlr lc2 (.lst (Lp ++ Lq ++ Lr)) lc2 = some (.lst (Lp ++ Lq ++ Lr)) := upd_same
      generalize upd Hlr lc2 (.lst (Lp ++ Lq ++ Lr)) = H2 at sc2 ec2
      have allc2 : ∀ v ∈ Lp ++ Lq ++ Lr, BadT H2 v := fun v hv => (List.mem_append.mp hv).elim (fun h => ((allc1 v h).same zr).same sc2) fun h => (allr v h).same sc2
      generalize Lp ++ Lq ++ Lr = LL at ec2 allc2
      have s12 : Same H1 H2 := zp.trans (zq.trans (sc1.trans (zr.trans sc2)))
      have bf2 := bf.same s12
      have hT2 := hT1.ext s12
      refine ⟨.ref lc2, rfl, lc2, rfl, ⟨_, SqL.of ec2⟩, ?_⟩
      refine for_list (K := K) (a := lc2) (xs := LL) (fun i σ H3 => ∃ y10 y11, σ = [some (.ref a), some (.int c), some (.str (tx hi)), some (.str (tx lo)), some (.str (rt cs)), some (.ref pb), y6, y7, y8, some (.ref lc2), y10, y11] ∧ ExtN H2 H3 ∧ Tabs [(tb, qLam), (tD, qDoor)] H3) ⟨_, _, rfl, ExtN.refl _, hT2⟩ (fun i σ H3 _ ⟨_, _, _, e3, _⟩ => SqL.of (ext_lst e3 ec2)) ?_ ?_
      · rintro i v σ H3 hv ⟨y10, y11, rfl, e3, t3⟩
        obtain ⟨t, x, y, rfl, et, hx⟩ := (allc2 v (List.mem_of_getElem? hv)).ext e3
        refine ⟨t, _, rfl, SqT.of et, rfl, _, _, rfl, _, _, rfl, rfl, ?_⟩
        refine ⟨t3, fun H4 e4 t4 RR => ⟨x, rfl, y, rfl, x, y, rfl, hx.thru (thru_ext e4), fun H5 s5 => ⟨rfl, rfl, fun H6 s6 => ⟨rfl, _, rfl, iteF ?_⟩⟩⟩⟩
        have s56 := s5.trans s6
        exact ⟨_, _, rfl, (e3.trans e4).trans (ext_of s56), t4.ext s56⟩
      · rintro σ H3 ⟨y10, y11, rfl, e3, t3⟩
        have bf3 := bf2.ext e3
        refine ⟨.str (tx hi), rfl, .str (tx lo), rfl, hi, lo, rfl, hLn, fun H4 s4 => ⟨.str (rt cs), rfl, cs, rfl, hR, fun H5 s5 => ⟨.str (rt cs), rfl, cs, rfl, hR, fun H6 pw ws s6 n6 e6 u6 => ⟨(by show 3 ≤ sizeLine; decide), fun pn nn => ?_⟩⟩⟩⟩
        have s7 := same_upd (o := .lst [.str (rt (rg hi lo)), .int ((um cs : Nat) : Int), .ref pw]) nn
        have bf7 := bf3.same ((s4.trans (s5.trans s6)).trans s7)
        have bn : BfAt (upd H6 pn (.lst [.str (rt (rg hi lo)), .int ((um cs : Nat) : Int), .ref pw])) pn (rt (rg hi lo)) ((um cs : Nat) : Int) cs (rchg cs cs.length) := ⟨pw, ws, upd_same, s7 _ _ e6, tups_same s7 u6⟩
        have rgR : Rg (rg hi lo) := rg_ring h2 h3
        refine ⟨.ref pb, rfl, _, _, bn.dp, bf7.dp, shaped_dB rgR hR _, shaped_dB rgR hR _, ?_⟩
        rw [PySem.SeqAt.eqv_refl _ (lay_dB rgR hR _)]
        exact qq _
    refine ⟨_, PSs.nox (pss_cons (ps_set (i := 1) nd rfl (.inl rfl) (pe_call Gce hr (by rfl) Rce.g Rce.F.kp Rce.b .nil pass0 (pa_cons (pv 0) (pa_cons pe_int pa_nil))))
      (pss_cons (ps_asg (pe_call Gli hr (by rfl) Rli.g Rli.F.kp Rli.b .nil pass0 (pa_cons (pe_op op_fdivW (pv 1) pe_int) pa_nil)) (pg_tup (by rfl) (pgs_cons (pg_name (i := 2) nd rfl (.inl rfl)) (pgs_cons (pg_name (i := 3) nd rfl (.inl rfl)) pgs_nil))))
      (pss_cons (ps_set (i := 4) nd rfl (.inl rfl) (pe_call Glr hr (by rfl) Rlr.g Rlr.F.kp Rlr.b .nil pass0 (pa_cons (pv 1) (pa_cons pe_int pa_nil))))
      (pss_cons (ps_set (i := 5) nd rfl (.inl rfl) (pe_lst (pa_cons (pe_call Gro hr (by rfl) Rro.g Rro.F.kp Rro.b .nil pass0 (pa_cons (pv 2) (pa_cons (pv 3) pa_nil))) (pa_cons (pe_call Gwe hr (by rfl) Rwe.g Rwe.F.kp Rwe.b .nil pass0 (pa_cons (pv 4) pa_nil)) (pa_cons (pe_call Gch hr (by rfl) Rch.g Rch.F.kp Rch.b .nil pass0 (pa_cons (pv 4) pa_nil)) pa_nil)))))
      (pss_cons (ps_set (i := 6) nd rfl (.inl rfl) (pe_lst (pa_cons pe_non (pa_cons pe_int (pa_cons pe_bl (pa_cons (pe_callTy (cr_listT rfl) (by rfl) T.list (by decide +kernel) (pa_cons (pv 4) pa_nil)) (pa_cons (pe_callTy (cr_tupT rfl) (by rfl) tup0 (by decide +kernel) (pa_cons (pv 4) pa_nil)) (pa_cons pe_dnewK (pa_cons pe_str (pa_cons pe_str (pa_cons pe_str (pa_cons pe_str (pa_cons (pe_op op_repS pe_str pe_int) (pa_cons pe_str (pa_cons pe_str (pa_cons pe_str (pa_cons pe_str (pa_cons pe_str pa_nil))))))))))))))))))
      (pss_cons (ps_for PassesOwn.never rfl (pi_list (pe_op op_cat (pv 6) (pe_lst (pa_cons (pe_op op_add_str (pv 4) pe_str) (pa_cons (pe_op op_repS (pv 4) pe_int) pa_nil))))) (pg_name (i := 7) nd rfl (.inl rfl))
        (pss_one (ps_for PassesOwn.never rfl (pi_list (pe_call Gdo hr (by rfl) gD kD bD .nil pass0 (pa_cons (pv 7) pa_nil))) (pg_name (i := 8) nd rfl (.inl rfl))
          (pss_one (ps_if (pt_cmpR op_ne (pe_call Gcl hr (by rfl) U.g U.kp U.b .nil pass0 (pa_cons (pv 8) pa_nil)) pe_int (nomark _)) (pss_one (ps_ret pe_bl)) pss_nil)))))
      pL)))))), ?_⟩
    refine ⟨.ref a, rfl, a, ns, 0, rfl, hS, fun c => ?_⟩
    refine ⟨.int c, rfl, c, 3, rfl, rfl, ⟨by decide, by decide⟩, c / 3, rfl, fun H1 hi lo pt s1 hLn n1 e1 => ⟨pt, _, rfl, SqT.of e1, rfl, _, _, rfl, _, _, rfl, rfl, ?_⟩⟩
    refine ⟨.int c, rfl, c, 12, rfl, .inr rfl, fun H2 cs s2 hR => ?_⟩
    refine ⟨.str (tx hi), rfl, .str (tx lo), rfl, hi, lo, rfl, hLn, fun H4 s4 => ⟨.str (rt cs), rfl, cs, rfl, hR, fun H5 s5 => ⟨.str (rt cs), rfl, cs, rfl, hR, fun H6 pw ws s6 n6 e6 u6 => ⟨(by show 3 ≤ sizeLine; decide), fun pb nb0 => ?_⟩⟩⟩⟩
    have s7 := same_upd (o := .lst [.str (rt (rg hi lo)), .int ((um cs : Nat) : Int), .ref pw]) nb0
    have bf : BfAt (upd H6 pb (.lst [.str (rt (rg hi lo)), .int ((um cs : Nat) : Int), .ref pw])) pb (rt (rg hi lo)) ((um cs : Nat) : Int) cs (rchg cs cs.length) := ⟨pw, ws, upd_same, s7 _ _ e6, tups_same s7 u6⟩
    have hT7 := hTab.ext ((s1.trans s2).trans ((s4.trans (s5.trans s6)).trans s7))
    generalize upd H6 pb (.lst [.str (rt (rg hi lo)), .int ((um cs : Nat) : Int), .ref pw]) = H7 at bf hT7
    clear s7 e6 u6 n6 s6 s5 s4 nb0
    have hcl := hR.hi
    have hcl2 := hR.lo
    have yr : (rt cs).length ≤ sizeLine := by rw [rt_len]; exact fit (by omega)
    refine ⟨.str (rt cs), rfl, rt cs, rfl, yr, fun oL nL => ⟨.str (rt cs), rfl, rt cs, rfl, yr, fun oT nT => fun oD nD => ⟨"a", 13, rfl, rfl, by decide, by decide, (by show 16 ≤ sizeLine; decide), fun ps nps => ?_⟩⟩⟩
    have sL := same_upd (o := .lst ((sg (rt cs)).map V.str)) nL
    have eL : upd H7 oL (.lst ((sg (rt cs)).map V.str)) oL = some (.lst ((sg (rt cs)).map V.str)) := upd_same
    generalize upd H7 oL (.lst ((sg (rt cs)).map V.str)) = HA at sL eL nT nD nps
    have sT := same_upd (o := .tup ((sg (rt cs)).map V.str)) nT
    have eT : upd HA oT (.tup ((sg (rt cs)).map V.str)) oT = some (.tup ((sg (rt cs)).map V.str)) := upd_same
    generalize upd HA oT (.tup ((sg (rt cs)).map V.str)) = HB at sT eT nD nps
    have sD := same_upd (o := .dK []) nD
    have eD : upd HB oD (.dK []) oD = some (.dK []) := upd_same
    generalize upd HB oD (.dK []) = HC at sD eD nps
    generalize hol : [V.non, .int 0, .bl true, .ref oL, .ref oT, .ref oD, .str "", .str "a", .str "b", .str ".", .str (repS "a" 13), .str "ac", .str "A.", .str "o.", .str "a b", .str "ab\n"] = ol at nps
    have sP := same_upd (o := .lst ol) nps
    have eP : upd HC ps (.lst ol) ps = some (.lst ol) := upd_same
    generalize upd HC ps (.lst ol) = HD at sP eP
    have lit : ∀ (z : Str), z.length ≤ 10000 → isRingB z = false → NoRg HD (.str z) := fun z l b => .inr ⟨z, rfl, l, b⟩
    have all : ∀ v ∈ ol, NoRg HD v := fun v hv => by
      rw [← hol] at hv
      simp only [List.mem_cons, List.not_mem_nil, or_false] at hv
      rcases hv with rfl | rfl | rfl | rfl | rfl | rfl | rfl | rfl | rfl | rfl | rfl | rfl | rfl | rfl | rfl | rfl
      · exact .inl .non
      · exact .inl (.int 0)
      · exact .inl (.bl true)
      · exact .inl (.lst (sP _ _ (sD _ _ (sT _ _ eL))))
      · exact .inl (.tup (sP _ _ (sD _ _ eT)))
      · exact .inl (.dK (sP _ _ eD))
      all_goals exact lit _ (by decide +kernel) (by decide +kernel)
    have ll : ol.length = 16 := by rw [← hol]; rfl
    have s7D : Same H7 HD := ((sL.trans sT).trans sD).trans sP
    refine ⟨.ref ps, rfl, .str (rt cs), rfl, rt cs, "c", rfl, rfl, (by rw [rt_len, show ("c" : Str).length = 1 by decide +kernel]; exact fit (by omega)), .str (rt cs), rfl, rt cs, 7, rfl, rfl, (by rw [rt_len]; omega), by decide, (by show 2 ≤ sizeLine; decide), fun pe nE => ?_⟩
    have sE := same_upd (o := .lst [.str (rt cs ++ "c"), .str (repS (rt cs) 7)]) nE
    have eE : upd HD pe (.lst [.str (rt cs ++ "c"), .str (repS (rt cs) 7)]) pe = some (.lst [.str (rt cs ++ "c"), .str (repS (rt cs) 7)]) := upd_same
    generalize upd HD pe (.lst [.str (rt cs ++ "c"), .str (repS (rt cs) 7)]) = HE1 at sE eE
    refine ⟨ps, pe, _, _, rfl, rfl, sE _ _ eP, eE, (by rw [ll]; show 16 + 2 ≤ sizeLine; decide), fun pl nl => ?_⟩
    have all2 : ∀ v ∈ ol ++ [V.str (rt cs ++ "c"), .str (repS (rt cs) 7)], NoRg HE1 v := fun v hv => by
      rcases List.mem_append.mp hv with h | h
      · exact (all v h).thru (thru_same sE)
      · simp only [List.mem_cons, List.not_mem_nil, or_false] at h
        rcases h with rfl | rfl
        · refine .inr ⟨_, rfl, ?_, ?_⟩
          · rw [strLen_append, rt_len, show ("c" : Str).length = 1 by decide +kernel]
            omega
          · unfold isRingB
            have e : (rt cs ++ ("c" : Str)).cps.toList = (rt cs).cps.toList ++ [99] := by
              rw [show ("c" : Str) = ⟨#[99]⟩ by decide +kernel]
              exact Array.toList_append
            rw [e, List.all_append, show [99].all okr = false by decide]
            simp
        · have hl := repS_len (rt cs) 7
          rw [rt_len] at hl
          refine .inr ⟨_, rfl, by rw [hl]; omega, ?_⟩
          unfold isRingB
          rw [decide_eq_false (show ¬ (repS (rt cs) 7).length ≤ 12 by rw [hl]; omega)]
          simp
    generalize ol ++ [V.str (rt cs ++ "c"), .str (repS (rt cs) 7)] = LL at nl all2
    have sF := same_upd (o := .lst LL) nl
    have eF : upd HE1 pl (.lst LL) pl = some (.lst LL) := upd_same
    generalize upd HE1 pl (.lst LL) = HF at sF eF
    have s7F := s7D.trans (sE.trans sF)
    have bfF := bf.same s7F
    have hTF := hT7.ext s7F
    refine ⟨pl, rfl, ⟨_, SqL.of eF⟩, ?_⟩
    refine for_list (K := K) (a := pl) (xs := LL) (fun i σ H8 => ∃ y7 y8, σ = [some (.ref a), some (.int c), some (.str (tx hi)), some (.str (tx lo)), some (.str (rt cs)), some (.ref pb), some (.ref ps), y7, y8, none, none, none] ∧ ExtN HF H8 ∧ Tabs [(tb, qLam), (tD, qDoor)] H8) ⟨_, _, rfl, ExtN.refl _, hTF⟩ (fun i σ H8 _ ⟨_, _, _, e8, _⟩ => SqL.of (ext_lst e8 eF)) ?_ ?_
    · rintro i x σ H8 hv ⟨y7, y8, rfl, e8, t8⟩
      have hx : NoRg H8 x := ((all2 x (List.mem_of_getElem? hv)).thru (thru_same sF)).thru (thru_ext e8)
      refine ⟨x, rfl, x, rfl, hx, t8, fun H9 pd fs e9 t9 n9 ed hfl hdo => ⟨pd, rfl, ⟨_, SqL.of ed⟩, ?_⟩⟩
      refine for_list (K := K) (a := pd) (xs := fs.map V.ref) (fun j σ H10 => ∃ y8, σ = [some (.ref a), some (.int c), some (.str (tx hi)), some (.str (tx lo)), some (.str (rt cs)), some (.ref pb), some (.ref ps), some x, y8, none, none, none] ∧ Same H9 H10) ⟨_, rfl, Same.refl _⟩ (fun j σ H10 _ ⟨_, _, sm⟩ => SqL.of (sm _ _ ed)) ?_ ?_
      · rintro j v σ H10 hv2 ⟨y8, rfl, sm⟩
        rw [List.getElem?_map] at hv2
        obtain ⟨f, hf, rfl⟩ := Option.map_eq_some_iff.mp hv2
        refine ⟨.ref f, rfl, f, rfl, (hdo f (List.mem_of_getElem? hf)).ext (ext_of sm), fun H11 s11 => ⟨rfl, _, rfl, iteF ?_⟩⟩
        exact ⟨_, rfl, sm.trans s11⟩
      · rintro σ H10 ⟨y8, rfl, sm⟩
        exact ⟨_, _, rfl, (e8.trans e9).trans (ext_of sm), t9.ext sm⟩
    · rintro σ H8 ⟨y7, y8, rfl, e8, t8⟩
      exact hL H8 c hi lo cs pb _ _ _ hLn hR t8 (bfF.ext e8)
end
end Hop

set_option Elab.async false
set_option linter.all false
set_option maxRecDepth 100000
namespace HopR
open PySem PySem.Spec PyProof.Rows L2 LamX
/-! ### the end of a law some of whose defs make lambdas: their tables are empty where it begins -/
theorem walk_ofOwns {l : PySem.W.OpenLaw} {n k : Nat} {q : Program} {loose : List Str} {XP : (Str → Option Value) → Heap → Prop} {YP : World → Heap → Prop} {d : DefRec} {K : Params → PySem.W.Frag} {CX : World → CXT} {x : Str} {names : List Str}
    (most : l.most = some n) (few : n ≤ sizeLine) (plain : d.params.defaults = []) (room : Room k callerA) (recs : names.all (fun y => (recsOf q).any fun e => e.name == y) = true) (top : ∀ (w : World) (h : Heap), YP w h → (K w.params).In h)
    (F : ∀ (w : World) (mg : Str → Option Value) (fa : Addr) (h : Heap), YP w h → (K w.params).In h → h.Ns mainGlobals mg → mg d.name = some (.ref fa) → (∀ y ∈ names, ∀ f, mg y = some (.ref f) → OwnTab (K w.params) f h) → LawAtS l w (K w.params) (CX w) k n x mg fa h)
    (calm : ∀ (w : World) (H : Hp) (s : Shared) (e : Value) (s' : Shared), CX w [] H s (fun _ _ _ => False) e s' → False) :
    PySem.W.WalkO q loose XP YP l.row.toRowW d [] (fun f vs => PySem.call f vs) := by
  apply Att.attach_callB most plain
  intro w s₀ s₁ mg mb fa o pm cd doc a vs ns G Y _ _ _ hmg at_ isI size bits gens
  have kin := top w _ Y
  have tabs : ∀ y ∈ names, ∀ f, mg y = some (.ref f) → OwnTab (K w.params) f s₁.heap := fun y hy f hf c P o1 fd1 e dd vs1 sl k1 k2 k3 k4 k5 => by
    obtain ⟨r, hr, hn⟩ := List.any_eq_true.mp (List.all_eq_true.mp recs y hy)
    obtain ⟨a', o', fd', c', P', g1, g2, g3, g4, _, ⟨oc, vc, g5, _, g6, g7⟩, g8⟩ := G.T.tab r hr
    rw [beq_iff_eq.mp hn, hf] at g1
    cases g1
    cases (kin _ _ k1).symm.trans g2
    cases k2.symm.trans g3
    cases k3.symm.trans g4
    cases (kin _ _ k4).symm.trans g5
    cases g6
    cases k5.symm.trans g7
    exact g8
  obtain ⟨fd, cs, sp, hT, nT, C, hb, hsp, hF⟩ := F w mg fa _ Y kin G.T.g hmg tabs
  exact law_callTs kin G.T.g G.T.b G.T.builtins G.T.nolimit gens hT nT C G.T.bmain at_ isI (Nat.le_trans size few) room hF hb (fun H hH hS => hsp H a ns size bits hH hS) fun H e s' => calm w H s₁ e s'
end HopR

set_option Elab.async false
set_option linter.all false
set_option maxRecDepth 100000
set_option maxHeartbeats 2000000
namespace Hop
open PySem L2 HopR
/-! ### what the top has written -/
theorem all_mk {l : PySem.W.OpenLaw} {w : World} {K : PySem.W.Frag} {h : Heap} {mg : Str → Option Value} {fa : Addr} (X : K.In h) (G : h.Ns mainGlobals mg) (hfa : mg "law" = some (.ref fa)) (owns : ∀ y ∈ (["law", "_law_ring_doors"] : List Str), ∀ f, mg y = some (.ref f) → LamX.OwnTab K f h)
    {f1 : Addr} {od1 an1 : Option Addr} {sl1 : Array (Option Value)} {oc1 kV1 dc1 pm1 cd1 ct1 : Value}
    {f2 : Addr} {od2 an2 : Option Addr} {sl2 : Array (Option Value)} {oc2 kV2 dc2 pm2 cd2 ct2 : Value}
    {f3 : Addr} {od3 an3 : Option Addr} {sl3 : Array (Option Value)} {oc3 kV3 dc3 pm3 cd3 ct3 : Value}
    {f4 : Addr} {od4 an4 : Option Addr} {sl4 : Array (Option Value)} {oc4 kV4 dc4 pm4 cd4 ct4 : Value}
    {f5 : Addr} {od5 an5 : Option Addr} {sl5 : Array (Option Value)} {oc5 kV5 dc5 pm5 cd5 ct5 : Value}
    {fc1 : Addr} {odc1 anc1 : Option Addr} {slc1 : Array (Option Value)} {occ1 kVc1 dcc1 pmc1 cdc1 ctc1 : Value}
    {fc2 : Addr} {odc2 anc2 : Option Addr} {slc2 : Array (Option Value)} {occ2 kVc2 dcc2 pmc2 cdc2 ctc2 : Value}
    {fc3 : Addr} {odc3 anc3 : Option Addr} {slc3 : Array (Option Value)} {occ3 kVc3 dcc3 pmc3 cdc3 ctc3 : Value}
    {fc4 : Addr} {odc4 anc4 : Option Addr} {slc4 : Array (Option Value)} {occ4 kVc4 dcc4 pmc4 cdc4 ctc4 : Value}
    {fc5 : Addr} {odc5 anc5 : Option Addr} {slc5 : Array (Option Value)} {occ5 kVc5 dcc5 pmc5 cdc5 ctc5 : Value}
    {fu1 : Addr} {odu1 anu1 : Option Addr} {slu1 : Array (Option Value)} {ocu1 kVu1 dcu1 pmu1 cdu1 ctu1 : Value}
    {fu2 : Addr} {odu2 anu2 : Option Addr} {slu2 : Array (Option Value)} {ocu2 kVu2 dcu2 pmu2 cdu2 ctu2 : Value}
    {fu3 : Addr} {odu3 anu3 : Option Addr} {slu3 : Array (Option Value)} {ocu3 kVu3 dcu3 pmu3 cdu3 ctu3 : Value}
    {fu4 : Addr} {odu4 anu4 : Option Addr} {slu4 : Array (Option Value)} {ocu4 kVu4 dcu4 pmu4 cdu4 ctu4 : Value}
    {fR1 : Addr} {odR1 anR1 : Option Addr} {slR1 : Array (Option Value)} {ocR1 kVR1 dcR1 pmR1 cdR1 ctR1 : Value}
    {fR2 : Addr} {odR2 anR2 : Option Addr} {slR2 : Array (Option Value)} {ocR2 kVR2 dcR2 pmR2 cdR2 ctR2 : Value}
    {fR3 : Addr} {odR3 anR3 : Option Addr} {slR3 : Array (Option Value)} {ocR3 kVR3 dcR3 pmR3 cdR3 ctR3 : Value}
    {fR4 : Addr} {odR4 anR4 : Option Addr} {slR4 : Array (Option Value)} {ocR4 kVR4 dcR4 pmR4 cdR4 ctR4 : Value}
    {fe1 : Addr} {ode1 ane1 : Option Addr} {sle1 : Array (Option Value)} {oce1 kVe1 dce1 pme1 cde1 cte1 : Value}
    {fw : Addr} {odw anw : Option Addr} {slw : Array (Option Value)} {ocw kVw dcw pmw cdw ctw : Value}
    {fl1 : Addr} {odl1 anl1 : Option Addr} {sll1 : Array (Option Value)} {ocl1 kVl1 dcl1 pml1 cdl1 ctl1 : Value}
    {fl2 : Addr} {odl2 anl2 : Option Addr} {sll2 : Array (Option Value)} {ocl2 kVl2 dcl2 pml2 cdl2 ctl2 : Value}
    {fD : Addr} {odD anD : Option Addr} {slD : Array (Option Value)} {ocD kVD dcD pmD cdD ctD : Value}
    {fk1 : Addr} {odk1 ank1 : Option Addr} {slk1 : Array (Option Value)} {ock1 kVk1 dck1 pmk1 cdk1 ctk1 : Value}
    {fL : Addr} {odL anL : Option Addr} {slL : Array (Option Value)} {ocL kVL dcL pmL cdL ctL : Value}
    {tfi : Tok}
    {tse : Tok}
    {tno : Tok}
    {tbe : Tok}
    {tri : Tok}
    {trm : Tok}
    {tmp : Tok}
    {d d7 : Addr} {es es7 : Array DictEntry} {n n7 : Nat} {tva tvb tvf : Tok}
    {HE NN NR NP NS NW NC NH NT NY NI NG : Addr}
    {cc tb : Addr} {ddc : Option Addr} {vsc : Array Value} {slc : Array (Option Value)} {fic : Str} {tfc tgc ttc : Tok} {flc txc : Int} {inc : Bool}
    {ccD tbD : Addr} {ddcD : Option Addr} {vscD : Array Value} {slcD : Array (Option Value)} {ficD : Str} {tfcD tgcD ttcD : Tok} {flcD txcD : Int} {incD : Bool}
    (a1 : PySem.W.nsIn K mainGlobals "is_ring" = some (some (.ref f1))) (l1 : K.lookup f1 = some ⟨oc1, od1, .func (PySem.W.fnOf "is_ring" "is_ring" (defArgs sIsRing) (defBody sIsRing) (defScope sIsRing) .none kV1 dc1 pm1 an1 cd1 ct1), sl1⟩) (c1 : PySem.W.codeIn K cd1 "is_ring" = true) (k1 : PySem.W.keepIn K (.ref f1) = true)
    (a2 : PySem.W.nsIn K mainGlobals "need_ring" = some (some (.ref f2))) (l2 : K.lookup f2 = some ⟨oc2, od2, .func (PySem.W.fnOf "need_ring" "need_ring" (defArgs sNeedRing) (defBody sNeedRing) (defScope sNeedRing) .none kV2 dc2 pm2 an2 cd2 ct2), sl2⟩) (c2 : PySem.W.codeIn K cd2 "need_ring" = true) (k2 : PySem.W.keepIn K (.ref f2) = true)
    (a3 : PySem.W.nsIn K mainGlobals "place_behind" = some (some (.ref f3))) (l3 : K.lookup f3 = some ⟨oc3, od3, .func (PySem.W.fnOf "place_behind" "place_behind" (defArgs sBehind) (defBody sBehind) (defScope sBehind) .none kV3 dc3 pm3 an3 cd3 ct3), sl3⟩) (c3 : PySem.W.codeIn K cd3 "place_behind" = true) (k3 : PySem.W.keepIn K (.ref f3) = true)
    (a4 : PySem.W.nsIn K mainGlobals "rise_at" = some (some (.ref f4))) (l4 : K.lookup f4 = some ⟨oc4, od4, .func (PySem.W.fnOf "rise_at" "rise_at" (defArgs sRise) (defBody sRise) (defScope sRise) .none kV4 dc4 pm4 an4 cd4 ct4), sl4⟩) (c4 : PySem.W.codeIn K cd4 "rise_at" = true) (k4 : PySem.W.keepIn K (.ref f4) = true)
    (a5 : PySem.W.nsIn K mainGlobals "exchanged_at" = some (some (.ref f5))) (l5 : K.lookup f5 = some ⟨oc5, od5, .func (PySem.W.fnOf "exchanged_at" "exchanged_at" (defArgs sExch) (defBody sExch) (defScope sExch) .none kV5 dc5 pm5 an5 cd5 ct5), sl5⟩) (c5 : PySem.W.codeIn K cd5 "exchanged_at" = true) (k5 : PySem.W.keepIn K (.ref f5) = true)
    (ac1 : PySem.W.nsIn K mainGlobals "ring_changes" = some (some (.ref fc1))) (lc1 : K.lookup fc1 = some ⟨occ1, odc1, .func (PySem.W.fnOf "ring_changes" "ring_changes" (defArgs sChanges) (defBody sChanges) (defScope sChanges) .none kVc1 dcc1 pmc1 anc1 cdc1 ctc1), slc1⟩) (cc1 : PySem.W.codeIn K cdc1 "ring_changes" = true) (kc1 : PySem.W.keepIn K (.ref fc1) = true)
    (ac2 : PySem.W.nsIn K mainGlobals "ring_weight" = some (some (.ref fc2))) (lc2 : K.lookup fc2 = some ⟨occ2, odc2, .func (PySem.W.fnOf "ring_weight" "ring_weight" (defArgs sWeight) (defBody sWeight) (defScope sWeight) .none kVc2 dcc2 pmc2 anc2 cdc2 ctc2), slc2⟩) (cc2 : PySem.W.codeIn K cdc2 "ring_weight" = true) (kc2 : PySem.W.keepIn K (.ref fc2) = true)
    (ac3 : PySem.W.nsIn K mainGlobals "ring_comes" = some (some (.ref fc3))) (lc3 : K.lookup fc3 = some ⟨occ3, odc3, .func (PySem.W.fnOf "ring_comes" "ring_comes" (defArgs sComes) (defBody sComes) (defScope sComes) .none kVc3 dcc3 pmc3 anc3 cdc3 ctc3), slc3⟩) (cc3 : PySem.W.codeIn K cdc3 "ring_comes" = true) (kc3 : PySem.W.keepIn K (.ref fc3) = true)
    (ac4 : PySem.W.nsIn K mainGlobals "ring_goes" = some (some (.ref fc4))) (lc4 : K.lookup fc4 = some ⟨occ4, odc4, .func (PySem.W.fnOf "ring_goes" "ring_goes" (defArgs sGoes) (defBody sGoes) (defScope sGoes) .none kVc4 dcc4 pmc4 anc4 cdc4 ctc4), slc4⟩) (cc4 : PySem.W.codeIn K cdc4 "ring_goes" = true) (kc4 : PySem.W.keepIn K (.ref fc4) = true)
    (ac5 : PySem.W.nsIn K mainGlobals "ring_chance" = some (some (.ref fc5))) (lc5 : K.lookup fc5 = some ⟨occ5, odc5, .func (PySem.W.fnOf "ring_chance" "ring_chance" (defArgs sChance) (defBody sChance) (defScope sChance) .none kVc5 dcc5 pmc5 anc5 cdc5 ctc5), slc5⟩) (cc5 : PySem.W.codeIn K cdc5 "ring_chance" = true) (kc5 : PySem.W.keepIn K (.ref fc5) = true)
    (au1 : PySem.W.nsIn K mainGlobals "choices" = some (some (.ref fu1))) (lu1 : K.lookup fu1 = some ⟨ocu1, odu1, .func (PySem.W.fnOf "choices" "choices" (defArgs sChoices) (defBody sChoices) (defScope sChoices) .none kVu1 dcu1 pmu1 anu1 cdu1 ctu1), slu1⟩) (cu1 : PySem.W.codeIn K cdu1 "choices" = true) (ku1 : PySem.W.keepIn K (.ref fu1) = true)
    (au2 : PySem.W.nsIn K mainGlobals "with_upper" = some (some (.ref fu2))) (lu2 : K.lookup fu2 = some ⟨ocu2, odu2, .func (PySem.W.fnOf "with_upper" "with_upper" (defArgs sWup) (defBody sWup) (defScope sWup) .none kVu2 dcu2 pmu2 anu2 cdu2 ctu2), slu2⟩) (cu2 : PySem.W.codeIn K cdu2 "with_upper" = true) (ku2 : PySem.W.keepIn K (.ref fu2) = true)
    (au3 : PySem.W.nsIn K mainGlobals "past" = some (some (.ref fu3))) (lu3 : K.lookup fu3 = some ⟨ocu3, odu3, .func (PySem.W.fnOf "past" "past" (defArgs sPast) (defBody sPast) (defScope sPast) .none kVu3 dcu3 pmu3 anu3 cdu3 ctu3), slu3⟩) (cu3 : PySem.W.codeIn K cdu3 "past" = true) (ku3 : PySem.W.keepIn K (.ref fu3) = true)
    (au4 : PySem.W.nsIn K mainGlobals "uppers_many" = some (some (.ref fu4))) (lu4 : K.lookup fu4 = some ⟨ocu4, odu4, .func (PySem.W.fnOf "uppers_many" "uppers_many" (defArgs sUppers) (defBody sUppers) (defScope sUppers) .none kVu4 dcu4 pmu4 anu4 cdu4 ctu4), slu4⟩) (cu4 : PySem.W.codeIn K cdu4 "uppers_many" = true) (ku4 : PySem.W.keepIn K (.ref fu4) = true)
    (aR1 : PySem.W.nsIn K mainGlobals "is_row" = some (some (.ref fR1))) (lR1 : K.lookup fR1 = some ⟨ocR1, odR1, .func (PySem.W.fnOf "is_row" "is_row" (defArgs sIsRow) (defBody sIsRow) (defScope sIsRow) .none kVR1 dcR1 pmR1 anR1 cdR1 ctR1), slR1⟩) (cR1 : PySem.W.codeIn K cdR1 "is_row" = true) (kR1 : PySem.W.keepIn K (.ref fR1) = true)
    (aR2 : PySem.W.nsIn K mainGlobals "are_lines" = some (some (.ref fR2))) (lR2 : K.lookup fR2 = some ⟨ocR2, odR2, .func (PySem.W.fnOf "are_lines" "are_lines" (defArgs sLines) (defBody sLines) (defScope sLines) .none kVR2 dcR2 pmR2 anR2 cdR2 ctR2), slR2⟩) (cR2 : PySem.W.codeIn K cdR2 "are_lines" = true) (kR2 : PySem.W.keepIn K (.ref fR2) = true)
    (aR3 : PySem.W.nsIn K mainGlobals "first_to_the_left" = some (some (.ref fR3))) (lR3 : K.lookup fR3 = some ⟨ocR3, odR3, .func (PySem.W.fnOf "first_to_the_left" "first_to_the_left" (defArgs sFirst) (defBody sFirst) (defScope sFirst) .none kVR3 dcR3 pmR3 anR3 cdR3 ctR3), slR3⟩) (cR3 : PySem.W.codeIn K cdR3 "first_to_the_left" = true) (kR3 : PySem.W.keepIn K (.ref fR3) = true)
    (aR4 : PySem.W.nsIn K mainGlobals "ring_of" = some (some (.ref fR4))) (lR4 : K.lookup fR4 = some ⟨ocR4, odR4, .func (PySem.W.fnOf "ring_of" "ring_of" (defArgs sRingOf) (defBody sRingOf) (defScope sRingOf) .none kVR4 dcR4 pmR4 anR4 cdR4 ctR4), slR4⟩) (cR4 : PySem.W.codeIn K cdR4 "ring_of" = true) (kR4 : PySem.W.keepIn K (.ref fR4) = true)
    (ae1 : PySem.W.nsIn K mainGlobals "_law_cell_at" = some (some (.ref fe1))) (le1 : K.lookup fe1 = some ⟨oce1, ode1, .func (PySem.W.fnOf "_law_cell_at" "_law_cell_at" (defArgs sCellAt) (defBody sCellAt) (defScope sCellAt) .none kVe1 dce1 pme1 ane1 cde1 cte1), sle1⟩) (ce1 : PySem.W.codeIn K cde1 "_law_cell_at" = true) (ke1 : PySem.W.keepIn K (.ref fe1) = true)
    (aw : PySem.W.nsIn K mainGlobals "_law_drawn" = some (some (.ref fw))) (lw : K.lookup fw = some ⟨ocw, odw, .func (PySem.W.fnOf "_law_drawn" "_law_drawn" (defArgs sDrawn) (defBody sDrawn) (defScope sDrawn) .none kVw dcw pmw anw cdw ctw), slw⟩) (cw : PySem.W.codeIn K cdw "_law_drawn" = true) (kw : PySem.W.keepIn K (.ref fw) = true)
    (al1 : PySem.W.nsIn K mainGlobals "_law_lines" = some (some (.ref fl1))) (ll1 : K.lookup fl1 = some ⟨ocl1, odl1, .func (PySem.W.fnOf "_law_lines" "_law_lines" (defArgs sLLines) (defBody sLLines) (defScope sLLines) .none kVl1 dcl1 pml1 anl1 cdl1 ctl1), sll1⟩) (cl1 : PySem.W.codeIn K cdl1 "_law_lines" = true) (kl1 : PySem.W.keepIn K (.ref fl1) = true)
    (al2 : PySem.W.nsIn K mainGlobals "_law_ring" = some (some (.ref fl2))) (ll2 : K.lookup fl2 = some ⟨ocl2, odl2, .func (PySem.W.fnOf "_law_ring" "_law_ring" (defArgs sLRing) (defBody sLRing) (defScope sLRing) .none kVl2 dcl2 pml2 anl2 cdl2 ctl2), sll2⟩) (cl2 : PySem.W.codeIn K cdl2 "_law_ring" = true) (kl2 : PySem.W.keepIn K (.ref fl2) = true)
    (aD : PySem.W.nsIn K mainGlobals "_law_ring_doors" = some (some (.ref fD))) (lD : K.lookup fD = some ⟨ocD, odD, .func (PySem.W.fnOf "_law_ring_doors" "_law_ring_doors" (defArgs sDoors) (defBody sDoors) (defScope sDoors) .none kVD dcD pmD anD cdD ctD), slD⟩) (cD : PySem.W.codeIn K cdD "_law_ring_doors" = true) (kD : PySem.W.keepIn K (.ref fD) = true)
    (ak1 : PySem.W.nsIn K mainGlobals "_law_class_of" = some (some (.ref fk1))) (lk1 : K.lookup fk1 = some ⟨ock1, odk1, .func (PySem.W.fnOf "_law_class_of" "_law_class_of" (defArgs sClass) (defBody sClass) (defScope sClass) .none kVk1 dck1 pmk1 ank1 cdk1 ctk1), slk1⟩) (ck1 : PySem.W.codeIn K cdk1 "_law_class_of" = true) (kk1 : PySem.W.keepIn K (.ref fk1) = true)
    (aL : PySem.W.nsIn K mainGlobals "law" = some (some (.ref fL))) (lL : K.lookup fL = some ⟨ocL, odL, .func (PySem.W.fnOf "law" "law" (defArgs sLaw) (defBody sLaw) (defScope sLaw) .none kVL dcL pmL anL cdL ctL), slL⟩) (cL : PySem.W.codeIn K cdL "law" = true) (kL : PySem.W.keepIn K (.ref fL) = true)
    (z0 : PySem.W.nsIn K mainGlobals "len" = some none)
    (z1 : PySem.W.nsIn K mainGlobals "range" = some none)
    (z2 : PySem.W.nsIn K mainGlobals "all" = some none)
    (z3 : PySem.W.nsIn K mainGlobals "isinstance" = some none)
    (z4 : PySem.W.nsIn K mainGlobals "str" = some none)
    (z5 : PySem.W.nsIn K mainGlobals "bool" = some none)
    (z6 : PySem.W.nsIn K mainGlobals "list" = some none)
    (z7 : PySem.W.nsIn K mainGlobals "zip" = some none)
    (z8 : PySem.W.nsIn K mainGlobals "reversed" = some none)
    (z9 : PySem.W.nsIn K mainGlobals "sum" = some none)
    (z10 : PySem.W.nsIn K mainGlobals "int" = some none)
    (z11 : PySem.W.nsIn K mainGlobals "enumerate" = some none)
    (z12 : PySem.W.nsIn K mainGlobals "tuple" = some none)
    (z13 : PySem.W.nsIn K mainGlobals "ValueError" = some none)
    (gfi : PySem.W.nsIn K mainGlobals "FIRST" = some (some (.str "a" tfi)))
    (gse : PySem.W.nsIn K mainGlobals "SECOND" = some (some (.str "b" tse)))
    (gno : PySem.W.nsIn K mainGlobals "NONE" = some (some (.str "." tno)))
    (gbe : PySem.W.nsIn K mainGlobals "BEAD" = some (some (.str "o" tbe)))
    (gri : PySem.W.nsIn K mainGlobals "LEAST_IN_RING" = some (some (.int 2 tri)))
    (grm : PySem.W.nsIn K mainGlobals "MOST_IN_RING" = some (some (.int 12 trm)))
    (gmp : PySem.W.nsIn K mainGlobals "MOST_PLACES" = some (some (.int 30 tmp)))
    (gd : PySem.W.nsIn K mainGlobals "RANK" = some (some (.ref d)))
    (ld : K.lookup d = some ⟨.type "dict", none, .dict es n, #[]⟩)
    (kd : PySem.W.KeysLit w.params es.toList)
    (sd : (d == sysModules) = false)
    (ke : es.toList.map (fun e => keyText e.key) = [some ("a" : Str), some ("b" : Str), some ("." : Str)])
    (va : PySem.W.nsIn K d "a" = some (some (.int 2 tva)))
    (vb : PySem.W.nsIn K d "b" = some (some (.int 1 tvb)))
    (vf : PySem.W.nsIn K d "." = some (some (.int 0 tvf)))
    (gd7 : PySem.W.nsIn K mainGlobals "OTHER_SIGN" = some (some (.ref d7)))
    (ld7 : K.lookup d7 = some ⟨.type "dict", none, .dict es7 n7, #[]⟩)
    (kd7 : PySem.W.KeysLit w.params es7.toList)
    (sd7 : (d7 == sysModules) = false)
    (ke7 : keysAre es7)
    (g_HE : PySem.W.nsIn K mainGlobals "HopError" = some (some (.ref HE)))
    (g_NN : PySem.W.nsIn K mainGlobals "NoNumber" = some (some (.ref NN)))
    (g_NR : PySem.W.nsIn K mainGlobals "NoRow" = some (some (.ref NR)))
    (g_NP : PySem.W.nsIn K mainGlobals "NoPace" = some (some (.ref NP)))
    (g_NS : PySem.W.nsIn K mainGlobals "NoStep" = some (some (.ref NS)))
    (g_NW : PySem.W.nsIn K mainGlobals "NoWord" = some (some (.ref NW)))
    (g_NC : PySem.W.nsIn K mainGlobals "NoPlace" = some (some (.ref NC)))
    (g_NH : PySem.W.nsIn K mainGlobals "NoHeap" = some (some (.ref NH)))
    (g_NT : PySem.W.nsIn K mainGlobals "TooMany" = some (some (.ref NT)))
    (g_NY : PySem.W.nsIn K mainGlobals "NoWay" = some (some (.ref NY)))
    (g_NI : PySem.W.nsIn K mainGlobals "NoLines" = some (some (.ref NI)))
    (g_NG : PySem.W.nsIn K mainGlobals "NoRing" = some (some (.ref NG)))
    (d_HE : PySem.W.hasDictIn K HE = true)
    (t_HE : PySem.W.typeIn K (.ref HE) = some (.type "type"))
    (d_NN : PySem.W.hasDictIn K NN = true)
    (t_NN : PySem.W.typeIn K (.ref NN) = some (.type "type"))
    (d_NR : PySem.W.hasDictIn K NR = true)
    (t_NR : PySem.W.typeIn K (.ref NR) = some (.type "type"))
    (d_NP : PySem.W.hasDictIn K NP = true)
    (t_NP : PySem.W.typeIn K (.ref NP) = some (.type "type"))
    (d_NS : PySem.W.hasDictIn K NS = true)
    (t_NS : PySem.W.typeIn K (.ref NS) = some (.type "type"))
    (d_NW : PySem.W.hasDictIn K NW = true)
    (t_NW : PySem.W.typeIn K (.ref NW) = some (.type "type"))
    (d_NC : PySem.W.hasDictIn K NC = true)
    (t_NC : PySem.W.typeIn K (.ref NC) = some (.type "type"))
    (d_NH : PySem.W.hasDictIn K NH = true)
    (t_NH : PySem.W.typeIn K (.ref NH) = some (.type "type"))
    (d_NT : PySem.W.hasDictIn K NT = true)
    (t_NT : PySem.W.typeIn K (.ref NT) = some (.type "type"))
    (d_NY : PySem.W.hasDictIn K NY = true)
    (t_NY : PySem.W.typeIn K (.ref NY) = some (.type "type"))
    (d_NI : PySem.W.hasDictIn K NI = true)
    (t_NI : PySem.W.typeIn K (.ref NI) = some (.type "type"))
    (d_NG : PySem.W.hasDictIn K NG = true)
    (t_NG : PySem.W.typeIn K (.ref NG) = some (.type "type"))
    (b_HE : PySem.W.subIn K (.ref HE) (.type "BaseException") = some true)
    (b_NG : PySem.W.subIn K (.ref NG) (.type "BaseException") = some true)
    (b_NI : PySem.W.subIn K (.ref NI) (.type "BaseException") = some true)
    (q_hn : PySem.W.specialIn K (.builtin "object.__class__") "__get__" = some (some (.builtin "getset_descriptor.__get__")))
    (q_htk : PySem.W.takesIn K (.builtin "object.__class__") = some true)
    (x_NG : PySem.W.excIn K NG [.type "ValueError", .type "Exception", .type "BaseException", .type "object"] "ValueError.__new__" = true)
    (k_NG : PySem.W.keepIn K (.ref NG) = true)
    (ga_NG : PySem.W.findIn K (.ref NG) "__getattribute__" = some (some (.builtin "BaseException.__getattribute__")))
    (gt_NG : PySem.W.findIn K (.ref NG) "__getattr__" = some none)
    (cl_NG : PySem.W.findIn K (.ref NG) "__class__" = some (some (.builtin "object.__class__")))
    (mo_NG : PySem.W.mroIn K NG (.type "object") = some true)
    (x_NI : PySem.W.excIn K NI [.type "ValueError", .type "Exception", .type "BaseException", .type "object"] "ValueError.__new__" = true)
    (k_NI : PySem.W.keepIn K (.ref NI) = true)
    (ga_NI : PySem.W.findIn K (.ref NI) "__getattribute__" = some (some (.builtin "BaseException.__getattribute__")))
    (gt_NI : PySem.W.findIn K (.ref NI) "__getattr__" = some none)
    (cl_NI : PySem.W.findIn K (.ref NI) "__class__" = some (some (.builtin "object.__class__")))
    (mo_NI : PySem.W.mroIn K NI (.type "object") = some true)
    (v_NI : PySem.W.subIn K (.ref NI) (.type "ValueError") = some true)
    (s_NI_NN : PySem.W.subIn K (.ref NI) (.ref NN) = some false)
    (e_NI_NN : NI ≠ NN)
    (s_NI_NR : PySem.W.subIn K (.ref NI) (.ref NR) = some false)
    (e_NI_NR : NI ≠ NR)
    (s_NI_NP : PySem.W.subIn K (.ref NI) (.ref NP) = some false)
    (e_NI_NP : NI ≠ NP)
    (s_NI_NS : PySem.W.subIn K (.ref NI) (.ref NS) = some false)
    (e_NI_NS : NI ≠ NS)
    (s_NI_NW : PySem.W.subIn K (.ref NI) (.ref NW) = some false)
    (e_NI_NW : NI ≠ NW)
    (s_NI_NC : PySem.W.subIn K (.ref NI) (.ref NC) = some false)
    (e_NI_NC : NI ≠ NC)
    (s_NI_NH : PySem.W.subIn K (.ref NI) (.ref NH) = some false)
    (e_NI_NH : NI ≠ NH)
    (s_NI_NT : PySem.W.subIn K (.ref NI) (.ref NT) = some false)
    (e_NI_NT : NI ≠ NT)
    (s_NI_NY : PySem.W.subIn K (.ref NI) (.ref NY) = some false)
    (e_NI_NY : NI ≠ NY)
    (s_NI_NG : PySem.W.subIn K (.ref NI) (.ref NG) = some false)
    (e_NI_NG : NI ≠ NG)
    (s_NI_HE : PySem.W.subIn K (.ref NI) (.ref HE) = some true)
    (e_NI_HE : NI ≠ HE)
    (v_NG : PySem.W.subIn K (.ref NG) (.type "ValueError") = some true)
    (s_NG_NN : PySem.W.subIn K (.ref NG) (.ref NN) = some false)
    (e_NG_NN : NG ≠ NN)
    (s_NG_NR : PySem.W.subIn K (.ref NG) (.ref NR) = some false)
    (e_NG_NR : NG ≠ NR)
    (s_NG_NP : PySem.W.subIn K (.ref NG) (.ref NP) = some false)
    (e_NG_NP : NG ≠ NP)
    (s_NG_NS : PySem.W.subIn K (.ref NG) (.ref NS) = some false)
    (e_NG_NS : NG ≠ NS)
    (s_NG_NW : PySem.W.subIn K (.ref NG) (.ref NW) = some false)
    (e_NG_NW : NG ≠ NW)
    (s_NG_NC : PySem.W.subIn K (.ref NG) (.ref NC) = some false)
    (e_NG_NC : NG ≠ NC)
    (s_NG_NH : PySem.W.subIn K (.ref NG) (.ref NH) = some false)
    (e_NG_NH : NG ≠ NH)
    (s_NG_NT : PySem.W.subIn K (.ref NG) (.ref NT) = some false)
    (e_NG_NT : NG ≠ NT)
    (s_NG_NY : PySem.W.subIn K (.ref NG) (.ref NY) = some false)
    (e_NG_NY : NG ≠ NY)
    (s_NG_NI : PySem.W.subIn K (.ref NG) (.ref NI) = some false)
    (e_NG_NI : NG ≠ NI)
    (s_NG_HE : PySem.W.subIn K (.ref NG) (.ref HE) = some true)
    (e_NG_HE : NG ≠ HE)
    (hcc : cdL = .ref cc)
    (lcc : K.lookup cc = some ⟨.type "code", ddc, .fields vsc, slc⟩)
    (v11 : vsc[11]? = some (.ref tb))
    (v11d : vsc.getD 11 .none = .ref tb)
    (v18 : vsc.getD 18 .none = .str fic tfc)
    (v7 : vsc.getD 7 .none = .int flc tgc)
    (v9 : vsc.getD 9 .none = .bool inc)
    (v10 : vsc.getD 10 .none = .int txc ttc)
    (nct : cc ≠ tb)
    (ntb : K.lookup tb = none)
    (hccD : cdD = .ref ccD)
    (lccD : K.lookup ccD = some ⟨.type "code", ddcD, .fields vscD, slcD⟩)
    (v11D : vscD[11]? = some (.ref tbD))
    (v11dD : vscD.getD 11 .none = .ref tbD)
    (v18D : vscD.getD 18 .none = .str ficD tfcD)
    (v7D : vscD.getD 7 .none = .int flcD tgcD)
    (v9D : vscD.getD 9 .none = .bool incD)
    (v10D : vscD.getD 10 .none = .int txcD ttcD)
    (nctD : ccD ≠ tbD)
    (ntbD : K.lookup tbD = none)
    (ntt_D : tb ≠ tbD)
    : LamX.LawAtS l w K CX0 8 63 "_law_script" mg fa h := by
  have e := hfa.symm.trans (PySem.W.mg_of X G aL)
  cases e
  subst hcc
  subst hccD
  have F1 := fun_mk (st := sIsRing) l1 c1 k1
  have b1 := F1.binds (ps := ["thing"]) fun _ _ _ _ _ _ us hl => match us, hl with | [_], _ => rfl
  have N1 := Fn.mk (ps := ["thing"]) F1 b1 (PySem.W.mg_of X G a1)
  have F2 := fun_mk (st := sNeedRing) l2 c2 k2
  have b2 := F2.binds (ps := ["thing"]) fun _ _ _ _ _ _ us hl => match us, hl with | [_], _ => rfl
  have N2 := Fn.mk (ps := ["thing"]) F2 b2 (PySem.W.mg_of X G a2)
  have F3 := fun_mk (st := sBehind) l3 c3 k3
  have b3 := F3.binds (ps := ["ring", "place"]) fun _ _ _ _ _ _ us hl => match us, hl with | [_, _], _ => rfl
  have N3 := Fn.mk (ps := ["ring", "place"]) F3 b3 (PySem.W.mg_of X G a3)
  have F4 := fun_mk (st := sRise) l4 c4 k4
  have b4 := F4.binds (ps := ["ring", "place"]) fun _ _ _ _ _ _ us hl => match us, hl with | [_, _], _ => rfl
  have N4 := Fn.mk (ps := ["ring", "place"]) F4 b4 (PySem.W.mg_of X G a4)
  have F5 := fun_mk (st := sExch) l5 c5 k5
  have b5 := F5.binds (ps := ["ring", "place"]) fun _ _ _ _ _ _ us hl => match us, hl with | [_, _], _ => rfl
  have N5 := Fn.mk (ps := ["ring", "place"]) F5 b5 (PySem.W.mg_of X G a5)
  have Fc1 := fun_mk (st := sChanges) lc1 cc1 kc1
  have bc1 := Fc1.binds (ps := ["ring"]) fun _ _ _ _ _ _ us hl => match us, hl with | [_], _ => rfl
  have Nc1 := Fn.mk (ps := ["ring"]) Fc1 bc1 (PySem.W.mg_of X G ac1)
  have Fc2 := fun_mk (st := sWeight) lc2 cc2 kc2
  have bc2 := Fc2.binds (ps := ["ring"]) fun _ _ _ _ _ _ us hl => match us, hl with | [_], _ => rfl
  have Nc2 := Fn.mk (ps := ["ring"]) Fc2 bc2 (PySem.W.mg_of X G ac2)
  have Fc3 := fun_mk (st := sComes) lc3 cc3 kc3
  have bc3 := Fc3.binds (ps := ["ring"]) fun _ _ _ _ _ _ us hl => match us, hl with | [_], _ => rfl
  have Nc3 := Fn.mk (ps := ["ring"]) Fc3 bc3 (PySem.W.mg_of X G ac3)
  have Fc4 := fun_mk (st := sGoes) lc4 cc4 kc4
  have bc4 := Fc4.binds (ps := ["ring"]) fun _ _ _ _ _ _ us hl => match us, hl with | [_], _ => rfl
  have Nc4 := Fn.mk (ps := ["ring"]) Fc4 bc4 (PySem.W.mg_of X G ac4)
  have Fc5 := fun_mk (st := sChance) lc5 cc5 kc5
  have bc5 := Fc5.binds (ps := ["ring"]) fun _ _ _ _ _ _ us hl => match us, hl with | [_], _ => rfl
  have Nc5 := Fn.mk (ps := ["ring"]) Fc5 bc5 (PySem.W.mg_of X G ac5)
  have Fu1 := fun_mk (st := sChoices) lu1 cu1 ku1
  have bu1 := Fu1.binds (ps := ["many", "some"]) fun _ _ _ _ _ _ us hl => match us, hl with | [_, _], _ => rfl
  have Nu1 := Fn.mk (ps := ["many", "some"]) Fu1 bu1 (PySem.W.mg_of X G au1)
  have Fu2 := fun_mk (st := sWup) lu2 cu2 ku2
  have bu2 := Fu2.binds (ps := ["waiting"]) fun _ _ _ _ _ _ us hl => match us, hl with | [_], _ => rfl
  have Nu2 := Fn.mk (ps := ["waiting"]) Fu2 bu2 (PySem.W.mg_of X G au2)
  have Fu3 := fun_mk (st := sPast) lu3 cu3 ku3
  have bu3 := Fu3.binds (ps := ["waiting", "sign"]) fun _ _ _ _ _ _ us hl => match us, hl with | [_, _], _ => rfl
  have Nu3 := Fn.mk (ps := ["waiting", "sign"]) Fu3 bu3 (PySem.W.mg_of X G au3)
  have Fu4 := fun_mk (st := sUppers) lu4 cu4 ku4
  have bu4 := Fu4.binds (ps := ["ring"]) fun _ _ _ _ _ _ us hl => match us, hl with | [_], _ => rfl
  have Nu4 := Fn.mk (ps := ["ring"]) Fu4 bu4 (PySem.W.mg_of X G au4)
  have FR1 := fun_mk (st := sIsRow) lR1 cR1 kR1
  have bR1 := FR1.binds (ps := ["thing"]) fun _ _ _ _ _ _ us hl => match us, hl with | [_], _ => rfl
  have NR1 := Fn.mk (ps := ["thing"]) FR1 bR1 (PySem.W.mg_of X G aR1)
  have FR2 := fun_mk (st := sLines) lR2 cR2 kR2
  have bR2 := FR2.binds (ps := ["upper", "lower"]) fun _ _ _ _ _ _ us hl => match us, hl with | [_, _], _ => rfl
  have NR2 := Fn.mk (ps := ["upper", "lower"]) FR2 bR2 (PySem.W.mg_of X G aR2)
  have FR3 := fun_mk (st := sFirst) lR3 cR3 kR3
  have bR3 := FR3.binds (ps := ["signs", "place"]) fun _ _ _ _ _ _ us hl => match us, hl with | [_, _], _ => rfl
  have NR3 := Fn.mk (ps := ["signs", "place"]) FR3 bR3 (PySem.W.mg_of X G aR3)
  have FR4 := fun_mk (st := sRingOf) lR4 cR4 kR4
  have bR4 := FR4.binds (ps := ["upper", "lower"]) fun _ _ _ _ _ _ us hl => match us, hl with | [_, _], _ => rfl
  have NR4 := Fn.mk (ps := ["upper", "lower"]) FR4 bR4 (PySem.W.mg_of X G aR4)
  have Fe1 := fun_mk (st := sCellAt) le1 ce1 ke1
  have be1 := Fe1.binds (ps := ["_law_script", "_law_k"]) fun _ _ _ _ _ _ us hl => match us, hl with | [_, _], _ => rfl
  have Ne1 := Fn.mk (ps := ["_law_script", "_law_k"]) Fe1 be1 (PySem.W.mg_of X G ae1)
  have Fw := fun_mk (st := sDrawn) lw cw kw
  have bw := Fw.binds (ps := ["_law_cell", "_law_sizes"]) fun _ _ _ _ _ _ us hl => match us, hl with | [_, _], _ => rfl
  have Nw := Fn.mk (ps := ["_law_cell", "_law_sizes"]) Fw bw (PySem.W.mg_of X G aw)
  have Fl1 := fun_mk (st := sLLines) ll1 cl1 kl1
  have bl1 := Fl1.binds (ps := ["_law_cell"]) fun _ _ _ _ _ _ us hl => match us, hl with | [_], _ => rfl
  have Nl1 := Fn.mk (ps := ["_law_cell"]) Fl1 bl1 (PySem.W.mg_of X G al1)
  have Fl2 := fun_mk (st := sLRing) ll2 cl2 kl2
  have bl2 := Fl2.binds (ps := ["_law_cell", "_law_most"]) fun _ _ _ _ _ _ us hl => match us, hl with | [_, _], _ => rfl
  have Nl2 := Fn.mk (ps := ["_law_cell", "_law_most"]) Fl2 bl2 (PySem.W.mg_of X G al2)
  have FD := fun_mk (st := sDoors) lD cD kD
  have bD := FD.binds (ps := ["_law_thing"]) fun _ _ _ _ _ _ us hl => match us, hl with | [_], _ => rfl
  have ND := Fn.mk (ps := ["_law_thing"]) FD bD (PySem.W.mg_of X G aD)
  have Fk1 := fun_mk (st := sClass) lk1 ck1 kk1
  have bk1 := Fk1.binds (ps := ["_law_call"]) fun _ _ _ _ _ _ us hl => match us, hl with | [_], _ => rfl
  have Nk1 := Fn.mk (ps := ["_law_call"]) Fk1 bk1 (PySem.W.mg_of X G ak1)
  have y0 := PySem.W.mg_none_of X G z0
  have y1 := PySem.W.mg_none_of X G z1
  have y2 := PySem.W.mg_none_of X G z2
  have y3 := PySem.W.mg_none_of X G z3
  have y4 := PySem.W.mg_none_of X G z4
  have y5 := PySem.W.mg_none_of X G z5
  have y6 := PySem.W.mg_none_of X G z6
  have y7 := PySem.W.mg_none_of X G z7
  have y8 := PySem.W.mg_none_of X G z8
  have y9 := PySem.W.mg_none_of X G z9
  have y10 := PySem.W.mg_none_of X G z10
  have y11 := PySem.W.mg_none_of X G z11
  have y12 := PySem.W.mg_none_of X G z12
  have y13 := PySem.W.mg_none_of X G z13
  have wfi := PySem.W.mg_of X G gfi
  have wse := PySem.W.mg_of X G gse
  have wno := PySem.W.mg_of X G gno
  have wbe := PySem.W.mg_of X G gbe
  have wri := PySem.W.mg_of X G gri
  have wrm := PySem.W.mg_of X G grm
  have wmp := PySem.W.mg_of X G gmp
  have T : Txt K w mg d es n := ⟨y0, y1, y2, y3, y4, y5, y6, y7, y8, y9, y10, ⟨_, wfi⟩, ⟨_, wse⟩, ⟨_, wri⟩, ⟨_, wrm⟩, PySem.W.mg_of X G gd, ⟨ld, kd, sd⟩, (by rw [ke, show ("a" : Str) = one 97 by decide +kernel, show ("b" : Str) = one 98 by decide +kernel, show ("." : Str) = one 46 by decide +kernel]; rfl), ⟨_, va⟩, ⟨_, vb⟩, ⟨_, vf⟩⟩
  have T7 : Tx7 K w mg d es n d7 es7 n7 := ⟨y0, y1, y2, y3, y4, y6, y11, y7, ⟨_, wfi⟩, ⟨_, wse⟩, ⟨_, wno⟩, ⟨_, wbe⟩, ⟨_, wri⟩, ⟨_, wrm⟩, ⟨_, wmp⟩, PySem.W.mg_of X G gd, PySem.W.mg_of X G gd7, ⟨ld, kd, sd⟩, (by rw [ke, show ("a" : Str) = one 97 by decide +kernel, show ("b" : Str) = one 98 by decide +kernel, show ("." : Str) = one 46 by decide +kernel]; rfl), ⟨ld7, kd7, sd7⟩, ke7⟩
  have Z : Er K mg NG NI := ⟨PySem.W.mg_of X G g_NG, PySem.W.mg_of X G g_NI, ⟨x_NG, k_NG, b_NG, t_NG, ⟨ga_NG, gt_NG, b_NG, d_NG, cl_NG, q_hn, q_htk, mo_NG⟩⟩, ⟨x_NI, k_NI, b_NI, t_NI, ⟨ga_NI, gt_NI, b_NI, d_NI, cl_NI, q_hn, q_htk, mo_NI⟩⟩⟩
  have Y : HopR.Kinds K mg HE NN NR NP NS NW NC NH NT NY NI NG := ⟨y13, PySem.W.mg_of X G g_HE, PySem.W.mg_of X G g_NN, PySem.W.mg_of X G g_NR, PySem.W.mg_of X G g_NP, PySem.W.mg_of X G g_NS, PySem.W.mg_of X G g_NW, PySem.W.mg_of X G g_NC, PySem.W.mg_of X G g_NH, PySem.W.mg_of X G g_NT, PySem.W.mg_of X G g_NY, PySem.W.mg_of X G g_NI, PySem.W.mg_of X G g_NG⟩
  have RI : Raised K NI HE NN NR NP NS NW NC NH NT NY NI NG 9 := ⟨by decide, (PySem.W.exm_ref b_HE d_HE t_HE s_NI_HE), ⟨ga_NI, gt_NI, b_NI, d_NI, cl_NI, q_hn, q_htk, mo_NI⟩, (kit_own e_NI_HE d_HE t_HE s_NI_HE), HopR.kit_blt (by decide +kernel) v_NI, (kit_own e_NI_NN d_NN t_NN s_NI_NN), (kit_own e_NI_NR d_NR t_NR s_NI_NR), (kit_own e_NI_NP d_NP t_NP s_NI_NP), (kit_own e_NI_NS d_NS t_NS s_NI_NS), (kit_own e_NI_NW d_NW t_NW s_NI_NW), (kit_own e_NI_NC d_NC t_NC s_NI_NC), (kit_own e_NI_NH d_NH t_NH s_NI_NH), (kit_own e_NI_NT d_NT t_NT s_NI_NT), (kit_own e_NI_NY d_NY t_NY s_NI_NY), kit_me, (kit_own e_NI_NG d_NG t_NG s_NI_NG)⟩
  have RG : Raised K NG HE NN NR NP NS NW NC NH NT NY NI NG 10 := ⟨by decide, (PySem.W.exm_ref b_HE d_HE t_HE s_NG_HE), ⟨ga_NG, gt_NG, b_NG, d_NG, cl_NG, q_hn, q_htk, mo_NG⟩, (kit_own e_NG_HE d_HE t_HE s_NG_HE), HopR.kit_blt (by decide +kernel) v_NG, (kit_own e_NG_NN d_NN t_NN s_NG_NN), (kit_own e_NG_NR d_NR t_NR s_NG_NR), (kit_own e_NG_NP d_NP t_NP s_NG_NP), (kit_own e_NG_NS d_NS t_NS s_NG_NS), (kit_own e_NG_NW d_NW t_NW s_NG_NW), (kit_own e_NG_NC d_NC t_NC s_NG_NC), (kit_own e_NG_NH d_NH t_NH s_NG_NH), (kit_own e_NG_NT d_NT t_NT s_NG_NT), (kit_own e_NG_NY d_NY t_NY s_NG_NY), (kit_own e_NG_NI d_NI t_NI s_NG_NI), kit_me⟩
  have DD : DrDefs K mg f1 f2 _ _ := ⟨N1, N2, ⟨_, _, Nc1⟩, ⟨_, _, Nc2⟩, ⟨_, _, Nc3⟩, ⟨_, _, Nc4⟩, ⟨_, _, Nc5⟩⟩
  have DF : Df K mg f1 f2 _ _ := ⟨DD, y12, ⟨_, _, Ne1⟩, ⟨_, _, Nw⟩, ⟨_, _, Nl1⟩, ⟨_, _, Nl2⟩, ⟨_, _, NR1⟩, ⟨_, _, NR2⟩, ⟨_, _, NR3⟩, ⟨_, _, NR4⟩, ⟨_, _, Nu2⟩, ⟨_, _, Nu3⟩, ⟨_, _, Nu1⟩, ⟨_, _, Nu4⟩, ⟨_, _, N3⟩, ⟨_, _, N4⟩, ⟨_, _, N5⟩⟩
  refine ⟨PySem.W.fnOf "law" "law" (defArgs sLaw) (defBody sLaw) (defScope sLaw) .none kVL dcL pmL anL (.ref cc) ctL, [(cc, tb), (ccD, tbD)], spLaw K [(tb, qLam), (tbD, qDoor)], fun p hp => ?_, fun p hp => ?_, fun p hp => ?_, fun s v => .of_eq rfl, fun H a ns hl _ ht hS => ⟨a, ns, rfl, hS, hl, fun p hp => ?_, fun _ => rfl⟩, fun base _ _ ht => ?_⟩
  · simp only [List.mem_cons, List.not_mem_nil, or_false] at hp
    rcases hp with rfl | rfl
    · exact owns _ (by simp) _ (PySem.W.mg_of X G aL) cc tb _ _ _ _ _ _ lL rfl rfl lcc v11
    · exact owns _ (by simp) _ (PySem.W.mg_of X G aD) ccD tbD _ _ _ _ _ _ lD rfl rfl lccD v11D
  · simp only [List.mem_cons, List.not_mem_nil, or_false] at hp
    rcases hp with rfl | rfl
    · exact ntb
    · exact ntbD
  · simp only [List.mem_cons, List.not_mem_nil, or_false] at hp
    rcases hp with rfl | rfl
    · exact ⟨_, _, _, _, _, _, _, _, _, X _ _ lcc, rfl, rfl, v11, v11d, v18, v7, v9, v10, nct⟩
    · exact ⟨_, _, _, _, _, _, _, _, _, X _ _ lccD, rfl, rfl, v11D, v11dD, v18D, v7D, v9D, v10D, nctD⟩
  · simp only [List.mem_cons, List.not_mem_nil, or_false] at hp
    rcases hp with rfl | rfl
    · exact LamX.TabS.nil (ht (cc, tb) (by simp))
    · exact LamX.TabS.nil (ht (ccD, tbD) (by simp))
  · have TB : LamX.TabB base mg cc tb := ht (cc, tb) (by simp)
    have TBD : LamX.TabB base mg ccD tbD := ht (ccD, tbD) (by simp)
    exact ok_law lL cL lD cD (PySem.W.mg_of X G aD) kD bD DF ⟨PySem.W.mg_of X G ak1, kk1, lk1, ck1, bk1, Fk1⟩ T T7 Z Y RI RG TB TBD ntt_D
end Hop
open PySem PySem.W PyProof.Rows in
set_option maxRecDepth 100000 in
set_option maxHeartbeats 0 in
theorem PySem.Challenge.cw_hopline_k82_no_rings_no_lines_holds : PySem.Challenge.rw_hopline_k82_no_rings_no_lines.Holds := by
  w_on; o_law; k_head; (case hw => w_witness2)
  k_fill
  refine HopR.walk_ofOwns (l := PySem.Challenge.rw_hopline_k82_no_rings_no_lines) (n := 63) (k := 8) (x := "_law_script") (CX := fun _ => L2.CX0) (names := ["law", "_law_ring_doors"]) rfl (by decide) rfl ⟨rfl, by decide, by decide⟩ (by first | rfl | decide +kernel) (fun w h Y => PySem.W.km_in_of Y) ?F (fun _ _ _ _ _ h => h)
  case F =>
    intro w mg fa h Y KX G hmg own
    refine' Hop.all_mk KX G hmg own ?u_a1 ?u_l1 ?u_c1 ?u_k1 ?u_a2 ?u_l2 ?u_c2 ?u_k2 ?u_a3 ?u_l3 ?u_c3 ?u_k3 ?u_a4 ?u_l4 ?u_c4 ?u_k4 ?u_a5 ?u_l5 ?u_c5 ?u_k5 ?u_ac1 ?u_lc1 ?u_cc1 ?u_kc1 ?u_ac2 ?u_lc2 ?u_cc2 ?u_kc2 ?u_ac3 ?u_lc3 ?u_cc3 ?u_kc3 ?u_ac4 ?u_lc4 ?u_cc4 ?u_kc4 ?u_ac5 ?u_lc5 ?u_cc5 ?u_kc5 ?u_au1 ?u_lu1 ?u_cu1 ?u_ku1 ?u_au2 ?u_lu2 ?u_cu2 ?u_ku2 ?u_au3 ?u_lu3 ?u_cu3 ?u_ku3 ?u_au4 ?u_lu4 ?u_cu4 ?u_ku4 ?u_aR1 ?u_lR1 ?u_cR1 ?u_kR1 ?u_aR2 ?u_lR2 ?u_cR2 ?u_kR2 ?u_aR3 ?u_lR3 ?u_cR3 ?u_kR3 ?u_aR4 ?u_lR4 ?u_cR4 ?u_kR4 ?u_ae1 ?u_le1 ?u_ce1 ?u_ke1 ?u_aw ?u_lw ?u_cw ?u_kw ?u_al1 ?u_ll1 ?u_cl1 ?u_kl1 ?u_al2 ?u_ll2 ?u_cl2 ?u_kl2 ?u_aD ?u_lD ?u_cD ?u_kD ?u_ak1 ?u_lk1 ?u_ck1 ?u_kk1 ?u_aL ?u_lL ?u_cL ?u_kL ?u_z0 ?u_z1 ?u_z2 ?u_z3 ?u_z4 ?u_z5 ?u_z6 ?u_z7 ?u_z8 ?u_z9 ?u_z10 ?u_z11 ?u_z12 ?u_z13 ?u_gfi ?u_gse ?u_gno ?u_gbe ?u_gri ?u_grm ?u_gmp ?u_gd ?u_ld ?u_kd ?u_sd ?u_ke ?u_va ?u_vb ?u_vf ?u_gd7 ?u_ld7 ?u_kd7 ?u_sd7 ?u_ke7 ?u_g_HE ?u_g_NN ?u_g_NR ?u_g_NP ?u_g_NS ?u_g_NW ?u_g_NC ?u_g_NH ?u_g_NT ?u_g_NY ?u_g_NI ?u_g_NG ?u_d_HE ?u_t_HE ?u_d_NN ?u_t_NN ?u_d_NR ?u_t_NR ?u_d_NP ?u_t_NP ?u_d_NS ?u_t_NS ?u_d_NW ?u_t_NW ?u_d_NC ?u_t_NC ?u_d_NH ?u_t_NH ?u_d_NT ?u_t_NT ?u_d_NY ?u_t_NY ?u_d_NI ?u_t_NI ?u_d_NG ?u_t_NG ?u_b_HE ?u_b_NG ?u_b_NI ?u_q_hn ?u_q_htk ?u_x_NG ?u_k_NG ?u_ga_NG ?u_gt_NG ?u_cl_NG ?u_mo_NG ?u_x_NI ?u_k_NI ?u_ga_NI ?u_gt_NI ?u_cl_NI ?u_mo_NI ?u_v_NI ?u_s_NI_NN ?u_e_NI_NN ?u_s_NI_NR ?u_e_NI_NR ?u_s_NI_NP ?u_e_NI_NP ?u_s_NI_NS ?u_e_NI_NS ?u_s_NI_NW ?u_e_NI_NW ?u_s_NI_NC ?u_e_NI_NC ?u_s_NI_NH ?u_e_NI_NH ?u_s_NI_NT ?u_e_NI_NT ?u_s_NI_NY ?u_e_NI_NY ?u_s_NI_NG ?u_e_NI_NG ?u_s_NI_HE ?u_e_NI_HE ?u_v_NG ?u_s_NG_NN ?u_e_NG_NN ?u_s_NG_NR ?u_e_NG_NR ?u_s_NG_NP ?u_e_NG_NP ?u_s_NG_NS ?u_e_NG_NS ?u_s_NG_NW ?u_e_NG_NW ?u_s_NG_NC ?u_e_NG_NC ?u_s_NG_NH ?u_e_NG_NH ?u_s_NG_NT ?u_e_NG_NT ?u_s_NG_NY ?u_e_NG_NY ?u_s_NG_NI ?u_e_NG_NI ?u_s_NG_HE ?u_e_NG_HE ?u_hcc ?u_lcc ?u_v11 ?u_v11d ?u_v18 ?u_v7 ?u_v9 ?u_v10 ?u_nct ?u_ntb ?u_hccD ?u_lccD ?u_v11D ?u_v11dD ?u_v18D ?u_v7D ?u_v9D ?u_v10D ?u_nctD ?u_ntbD ?u_ntt_D
    (case u_a1 => k_is)
    (case u_l1 => k_is)
    (case u_c1 => k_is)
    (case u_k1 => k_is)
    (case u_a2 => k_is)
    (case u_l2 => k_is)
    (case u_c2 => k_is)
    (case u_k2 => k_is)
    (case u_a3 => k_is)
    (case u_l3 => k_is)
    (case u_c3 => k_is)
    (case u_k3 => k_is)
    (case u_a4 => k_is)
    (case u_l4 => k_is)
    (case u_c4 => k_is)
    (case u_k4 => k_is)
    (case u_a5 => k_is)
    (case u_l5 => k_is)
    (case u_c5 => k_is)
    (case u_k5 => k_is)
    (case u_ac1 => k_is)
    (case u_lc1 => k_is)
    (case u_cc1 => k_is)
    (case u_kc1 => k_is)
    (case u_ac2 => k_is)
    (case u_lc2 => k_is)
    (case u_cc2 => k_is)
    (case u_kc2 => k_is)
    (case u_ac3 => k_is)
    (case u_lc3 => k_is)
    (case u_cc3 => k_is)
    (case u_kc3 => k_is)
    (case u_ac4 => k_is)
    (case u_lc4 => k_is)
    (case u_cc4 => k_is)
    (case u_kc4 => k_is)
    (case u_ac5 => k_is)
    (case u_lc5 => k_is)
    (case u_cc5 => k_is)
    (case u_kc5 => k_is)
    (case u_au1 => k_is)
    (case u_lu1 => k_is)
    (case u_cu1 => k_is)
    (case u_ku1 => k_is)
    (case u_au2 => k_is)
    (case u_lu2 => k_is)
    (case u_cu2 => k_is)
    (case u_ku2 => k_is)
    (case u_au3 => k_is)
    (case u_lu3 => k_is)
    (case u_cu3 => k_is)
    (case u_ku3 => k_is)
    (case u_au4 => k_is)
    (case u_lu4 => k_is)
    (case u_cu4 => k_is)
    (case u_ku4 => k_is)
    (case u_aR1 => k_is)
    (case u_lR1 => k_is)
    (case u_cR1 => k_is)
    (case u_kR1 => k_is)
    (case u_aR2 => k_is)
    (case u_lR2 => k_is)
    (case u_cR2 => k_is)
    (case u_kR2 => k_is)
    (case u_aR3 => k_is)
    (case u_lR3 => k_is)
    (case u_cR3 => k_is)
    (case u_kR3 => k_is)
    (case u_aR4 => k_is)
    (case u_lR4 => k_is)
    (case u_cR4 => k_is)
    (case u_kR4 => k_is)
    (case u_ae1 => k_is)
    (case u_le1 => k_is)
    (case u_ce1 => k_is)
    (case u_ke1 => k_is)
    (case u_aw => k_is)
    (case u_lw => k_is)
    (case u_cw => k_is)
    (case u_kw => k_is)
    (case u_al1 => k_is)
    (case u_ll1 => k_is)
    (case u_cl1 => k_is)
    (case u_kl1 => k_is)
    (case u_al2 => k_is)
    (case u_ll2 => k_is)
    (case u_cl2 => k_is)
    (case u_kl2 => k_is)
    (case u_aD => k_is)
    (case u_lD => k_is)
    (case u_cD => k_is)
    (case u_kD => k_is)
    (case u_ak1 => k_is)
    (case u_lk1 => k_is)
    (case u_ck1 => k_is)
    (case u_kk1 => k_is)
    (case u_aL => k_is)
    (case u_lL => k_is)
    (case u_cL => k_is)
    (case u_kL => k_is)
    (case u_z0 => k_is)
    (case u_z1 => k_is)
    (case u_z2 => k_is)
    (case u_z3 => k_is)
    (case u_z4 => k_is)
    (case u_z5 => k_is)
    (case u_z6 => k_is)
    (case u_z7 => k_is)
    (case u_z8 => k_is)
    (case u_z9 => k_is)
    (case u_z10 => k_is)
    (case u_z11 => k_is)
    (case u_z12 => k_is)
    (case u_z13 => k_is)
    (case u_gfi => k_is)
    (case u_gse => k_is)
    (case u_gno => k_is)
    (case u_gbe => k_is)
    (case u_gri => k_is)
    (case u_grm => k_is)
    (case u_gmp => k_is)
    (case u_gd => k_is)
    (case u_ld => k_is)
    (case u_kd => k_keys)
    (case u_sd => decide)
    (case u_ke => rfl)
    (case u_va => k_is)
    (case u_vb => k_is)
    (case u_vf => k_is)
    (case u_gd7 => k_is)
    (case u_ld7 => k_is)
    (case u_kd7 => k_keys)
    (case u_sd7 => decide)
    (case u_ke7 => rfl)
    (case u_g_HE => k_is)
    (case u_g_NN => k_is)
    (case u_g_NR => k_is)
    (case u_g_NP => k_is)
    (case u_g_NS => k_is)
    (case u_g_NW => k_is)
    (case u_g_NC => k_is)
    (case u_g_NH => k_is)
    (case u_g_NT => k_is)
    (case u_g_NY => k_is)
    (case u_g_NI => k_is)
    (case u_g_NG => k_is)
    (case u_d_HE => k_is)
    (case u_t_HE => k_is)
    (case u_d_NN => k_is)
    (case u_t_NN => k_is)
    (case u_d_NR => k_is)
    (case u_t_NR => k_is)
    (case u_d_NP => k_is)
    (case u_t_NP => k_is)
    (case u_d_NS => k_is)
    (case u_t_NS => k_is)
    (case u_d_NW => k_is)
    (case u_t_NW => k_is)
    (case u_d_NC => k_is)
    (case u_t_NC => k_is)
    (case u_d_NH => k_is)
    (case u_t_NH => k_is)
    (case u_d_NT => k_is)
    (case u_t_NT => k_is)
    (case u_d_NY => k_is)
    (case u_t_NY => k_is)
    (case u_d_NI => k_is)
    (case u_t_NI => k_is)
    (case u_d_NG => k_is)
    (case u_t_NG => k_is)
    (case u_b_HE => k_is)
    (case u_b_NG => k_is)
    (case u_b_NI => k_is)
    (case u_q_hn => k_is)
    (case u_q_htk => k_is)
    (case u_x_NG => k_exc)
    (case u_k_NG => k_is)
    (case u_ga_NG => k_is)
    (case u_gt_NG => k_is)
    (case u_cl_NG => k_is)
    (case u_mo_NG => k_is)
    (case u_x_NI => k_exc)
    (case u_k_NI => k_is)
    (case u_ga_NI => k_is)
    (case u_gt_NI => k_is)
    (case u_cl_NI => k_is)
    (case u_mo_NI => k_is)
    (case u_v_NI => k_is)
    (case u_s_NI_NN => k_is)
    (case u_e_NI_NN => decide)
    (case u_s_NI_NR => k_is)
    (case u_e_NI_NR => decide)
    (case u_s_NI_NP => k_is)
    (case u_e_NI_NP => decide)
    (case u_s_NI_NS => k_is)
    (case u_e_NI_NS => decide)
    (case u_s_NI_NW => k_is)
    (case u_e_NI_NW => decide)
    (case u_s_NI_NC => k_is)
    (case u_e_NI_NC => decide)
    (case u_s_NI_NH => k_is)
    (case u_e_NI_NH => decide)
    (case u_s_NI_NT => k_is)
    (case u_e_NI_NT => decide)
    (case u_s_NI_NY => k_is)
    (case u_e_NI_NY => decide)
    (case u_s_NI_NG => k_is)
    (case u_e_NI_NG => decide)
    (case u_s_NI_HE => k_is)
    (case u_e_NI_HE => decide)
    (case u_v_NG => k_is)
    (case u_s_NG_NN => k_is)
    (case u_e_NG_NN => decide)
    (case u_s_NG_NR => k_is)
    (case u_e_NG_NR => decide)
    (case u_s_NG_NP => k_is)
    (case u_e_NG_NP => decide)
    (case u_s_NG_NS => k_is)
    (case u_e_NG_NS => decide)
    (case u_s_NG_NW => k_is)
    (case u_e_NG_NW => decide)
    (case u_s_NG_NC => k_is)
    (case u_e_NG_NC => decide)
    (case u_s_NG_NH => k_is)
    (case u_e_NG_NH => decide)
    (case u_s_NG_NT => k_is)
    (case u_e_NG_NT => decide)
    (case u_s_NG_NY => k_is)
    (case u_e_NG_NY => decide)
    (case u_s_NG_NI => k_is)
    (case u_e_NG_NI => decide)
    (case u_s_NG_HE => k_is)
    (case u_e_NG_HE => decide)
    (case u_hcc => rfl)
    (case u_lcc => k_is)
    (case u_v11 => rfl)
    (case u_v11d => rfl)
    (case u_v18 => rfl)
    (case u_v7 => rfl)
    (case u_v9 => rfl)
    (case u_v10 => rfl)
    (case u_nct => decide)
    (case u_ntb => first | k_is | kernel_rfl | decide +kernel | rfl)
    (case u_hccD => rfl)
    (case u_lccD => k_is)
    (case u_v11D => rfl)
    (case u_v11dD => rfl)
    (case u_v18D => rfl)
    (case u_v7D => rfl)
    (case u_v9D => rfl)
    (case u_v10D => rfl)
    (case u_nctD => decide)
    (case u_ntbD => first | k_is | kernel_rfl | decide +kernel | rfl)
    (case u_ntt_D => decide)
