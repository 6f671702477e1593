import PyProof.Rows.All
import Wide.All
import OpenK.AllK
import Wide.FinOn
import HandS.ForMost
import HandS.Wide
import HandS.Style
import HandS.RevTup
import HandS.Rev
import HandS.IsInst
import HandS.More
import HandS.Conv
import HandS.Defaults
import HandS.ForExc
import HandS.OwnEq
import HandS.Flow
import PyProof.ListStr
import HandS.Walk
import HandS.EndBits
import PyProof.ReprRoads
import PyProof.ReprLen
import HandS.Exc
import HandS.ExcIs
import HandS.TryOnly
import HandS.ExcOwn
import HandS.WordsExc
import HandS.FStr
import PyProof.FString3
import HandS.MakeKw
import HandS.SetFor
import HandS.SetKeys
import KE.KExcLine
import KE.KCallOwn
import PyProof.ReprReads
import PyProof.ReprNest
import PyProof.InstNe
import HandS.SortKw
import KE.KExcInit
import HandS.ExcInit
import HandS.ExcField
import KE.KExcIs
import HandS.MapJoin
import HandS.WideBits
import HandS.StrMore
import PyProof.FitsStr
import HandS.Codes
import KE.GoesZip
import KE.GoesMore
import PyProof.Draws
import PyProof.WalksT
import HandS.ReplaceLit
import HandS.ReplaceDef
import HandS.ReplaceList
import PyProof.TupleOfStr
import HandS.SortInts
import PyProof.NeKinds
import HandS.WordsDict
import HandS.Dict
import HandS.SortOrd
import PyProof.Rows.StrFirst
import HandS.DictComp
import PyProof.StrLawsFrom
import HandS.SortRule
import KE.KSortTupAny
import HandS.DictTup
import PyProof.StrLawsFirst
import PySem.Challenge.RW_hopline_k14_changes_by_paces
import KE.GoesRaise

set_option Elab.async false
set_option linter.all false
set_option maxRecDepth 100000
namespace HopR
open PySem PySem.Spec PyProof.Rows L2
/-! rules of my own: texts -/
/-- the signs of a text, each a text -/
def sg (z : Str) : List Str := z.cps.toList.map fun c => ⟨#[c]⟩
theorem sg_len (z : Str) : (sg z).length = z.length := by
  unfold sg
  rw [List.length_map]
  rfl
theorem sg_get {z : Str} {i : Nat} {c : Nat} (h : z.cps[i]? = some c) : (sg z)[i]? = some ⟨#[c]⟩ := by
  unfold sg
  rw [List.getElem?_map, Array.getElem?_toList, h]
  rfl
theorem strsAre_of : ∀ (vs : List Value) (ys : List Str), vs.length = ys.length → (∀ (j : Nat) (v : Value), vs[j]? = some v → ∃ y t, ys[j]? = some y ∧ v = .str y t) → StrsAre vs ys
  | [], [], _, _ => .nil
  | v :: r, y :: q, hl, h => by
    obtain ⟨y', t, e1, e2⟩ := h 0 v rfl
    have e3 : y = y' := Option.some.inj e1
    subst e3 e2
    exact .cons y t (strsAre_of r q (by simpa using hl) fun j w hw => h (j + 1) w hw)
theorem signs_are {z : Str} {acc : Array Value} (h : ItemsOf (SignAt z) acc z.cps.size) : StrsAre acc.toList (sg z) := by
  refine strsAre_of _ _ (by rw [sg_len, Array.length_toList, h.1]; rfl) fun j v hv => ?_
  obtain ⟨c, u, hc, e⟩ := h.2 j v (by rw [← Array.getElem?_toList]; exact hv)
  exact ⟨⟨#[c]⟩, u, sg_get hc, e⟩
section
variable {X : Cx}
/-- sorted(text) -/
def rSortT : List V → Hp → VK → Prop := fun vs H Q => ∃ z : Str, vs = [.str z] ∧ z.length < 64 ∧ ∀ (ys : List Str) (p : Addr), ys.Perm (sg z) → sortedS ys = true → H p = none → Q (.ref p) (upd H p (.lst (ys.map V.str)))
theorem cr_sortT (hcm : X.calm = true) : CallR X (.builtin "sorted") rSortT := by
  intro pins s σ H xs us Q I r h
  obtain ⟨z, rfl, h64, q⟩ := h
  obtain ⟨u, rfl, t, rfl⟩ := vals1 r
  refine Calls.call_function_entry kind_sorted plain_sorted entry_sorted (args_sorted1 (.str z t)) ?_
  unfold Builtin.«sorted»
  refine wpAny_bind (m := checkCount "sorted" 1 1 [Value.str z t].length) (wpAny_pure ?_)
  have hz : z.cps.size < 64 := h64
  refine wpAny_bind (wpAny_collect_str (A := X.A.in1) (show X.A.in1.handled = none from I.ok.hd hcm) z t (fun s' acc hk hg hdr hos hit => ?_) (Nat.le_trans (Nat.le_of_lt hz) (by decide)))
  have hS := signs_are hit
  have es : s' = { s with heap := s'.heap, toks := s'.toks } := by
    cases s'
    cases s
    simp only at hg hdr hos
    subst hg hdr hos
    rfl
  have hal : acc.toList.length < 64 := by rw [Array.length_toList, hit.1]; exact hz
  refine wpAny_bind (wpAny_newList ?_ (Nat.le_trans (Nat.le_of_lt hal) (by decide)))
  have hoL : (s'.heap.push (seqObj "list" acc.toList.toArray 0)).get? s'.heap.objs.size = some (seqObj "list" acc.toList.toArray 0) := Heap.get?_push_size _ rfl
  refine wpAny_bind (wpAny_holding (wpAny_call_entry slot_list_sort ⟨_, hoL, rfl⟩ entry_list_sort (list_sort_treeK strKind_oneLt hoL hS.keysOf (fun v₁ v₂ rest e => keyKind_strs (by rw [← e]; exact hS)) hal fun st' hp hs => ⟨_, rfl, ?_⟩) (args_list_sort _)))
  obtain ⟨ys, g1, g2, g3⟩ := sorted_out_str hS hp hs
  obtain ⟨ep, he'⟩ := sortedHeap_at (vs := acc.toList) (out := (arrOf st').map (·.2)) hoL
  have I1 : Inv X pins σ H s' := by
    rw [es]
    exact I.kept hk
  have hlen : (ys.map V.str).length ≤ sizeLine := by
    rw [List.length_map, g2.length_eq, sg_len]
    exact Nat.le_trans (Nat.le_of_lt h64) (by decide)
  have hne : ∀ b o, s'.heap.get? b = some o → (sortedHeap (s'.heap.push (seqObj "list" acc.toList.toArray 0)) s'.heap.objs.size acc.toList ((arrOf st').map (·.2))).get? b = some o := fun b o e => by
    rw [sortedHeap_old (Nat.ne_of_lt (Heap.lt_size e)) (by rw [size_push']; exact Nat.lt_succ_of_lt (Heap.lt_size e))]
    exact Heap.get?_push_of_some _ e
  refine wpAny_pure ⟨_, rfl, .ref _, upd H s'.heap.objs.size (.lst (ys.map V.str)), I1.laid (t' := s'.toks) hne (Nat.le_refl _) ?_, rfl, q ys _ g2 g3 (I1.hok.fresh (Nat.le_refl _))⟩
  exact ⟨hlen, ((arrOf st').map (·.2)).toList, ep, vals_of_strs g1, by rw [Array.toArray_toList]; exact he'⟩
/-- list(text) -/
def rListT : List V → Hp → VK → Prop := fun vs H Q => ∃ z : Str, vs = [.str z] ∧ z.length ≤ sizeLine ∧ ∀ p : Addr, H p = none → Q (.ref p) (upd H p (.lst ((sg z).map V.str)))
theorem cr_listT (hcm : X.calm = true) : CallR X (.type "list") rListT := by
  intro pins s σ H xs us Q I r h
  obtain ⟨z, rfl, hz, q⟩ := h
  obtain ⟨u, rfl, t, rfl⟩ := vals1 r
  refine call_list_str (I.ok.hd hcm) z t (fun h' tk acc c' hk hS' hit => ?_) hz
  refine ⟨.ref _, upd H s.heap.objs.size (.lst ((sg z).map V.str)), I.laid hk (Nat.le_refl _) ?_, rfl, q _ (I.hok.fresh (Nat.le_refl _))⟩
  exact ⟨by rw [List.length_map, sg_len]; exact hz, acc.toList, c', vals_of_strs (signs_are hit), by rw [Array.toArray_toList]; exact hS'⟩
/-- text * n -/
def repS (z : Str) (n : Nat) : Str := ⟨((List.replicate n z.cps.toList).flatten).toArray⟩
theorem foldl_app : ∀ (n : Nat) (a b : Array Nat), ((List.replicate n a).foldl (· ++ ·) b).toList = b.toList ++ (List.replicate n a.toList).flatten
  | 0, a, b => by simp
  | n + 1, a, b => by
    rw [List.replicate_succ, List.foldl_cons, foldl_app n, List.replicate_succ, List.flatten_cons, Array.toList_append, List.append_assoc]
theorem repS_len (z : Str) (k : Nat) : (repS z k).length = z.length * k := by
  show ((List.replicate k z.cps.toList).flatten).toArray.size = z.cps.size * k
  rw [List.size_toArray, List.length_flatten, List.map_replicate, List.sum_replicate_nat, Array.length_toList, Nat.mul_comm]
def rRepS : R2 := fun x y H Q => ∃ (z : Str) (k : Nat), x = .str z ∧ y = .int (k : Int) ∧ z.length * k ≤ 1000000 ∧ k ≤ 1000000 ∧ Q (.str (repS z k)) H
theorem op_repS : OpR X (binaryOp .Mult) rRepS := by
  intro pins s σ H x y v u Q I rx ry h
  obtain ⟨z, k, rfl, rfl, hz, hk, q⟩ := h
  obtain ⟨t, rfl⟩ := rx
  obtain ⟨t', rfl⟩ := ry
  refine PySem.P.mul_str ?_ ?_ ?_ ?_
  · rw [decide_eq_false (by omega), decide_eq_false (by omega)]
    rfl
  · intro h1 _
    have h0 : (0 : Int) < (k : Int) := by omega
    have h2 : ((z.length * k : Nat) : Int) ≤ 2 ^ 63 - 1 := by omega
    rw [Int.natCast_mul] at h2
    have h3 := (Int.le_ediv_iff_mul_le h0).mpr h2
    omega
  · intro _ _
    unfold Builtin.Str.tooLong
    rw [Int.toNat_natCast, sizeLine_eq]
    exact decide_eq_false (by omega)
  · by_cases h1 : (k : Int) < 1
    · rw [if_pos h1]
      have e : repS z k = Str.empty := by
        have : k = 0 := by omega
        subst this
        rfl
      rw [e] at q
      exact ⟨by decide, .str _, H, I.tok _, ⟨_, rfl⟩, q⟩
    · rw [if_neg h1]
      by_cases h2 : ((k : Int) == 1 || z.length == 0) = true
      · rw [if_pos h2]
        have e : repS z k = z := by
          rw [Bool.or_eq_true] at h2
          rcases h2 with h2 | h2
          · have h3 : (k : Int) = 1 := by simpa using h2
            have h4 : k = 1 := by omega
            subst h4
            unfold repS
            simp
          · have h3 : z.length = 0 := by simpa using h2
            have h4 : z.cps = #[] := Array.eq_empty_of_size_eq_zero h3
            unfold repS
            cases z with | mk zc =>
            simp only at h4
            subst h4
            simp
        rw [e] at q
        exact ⟨.str z, H, I, ⟨t, rfl⟩, q⟩
      · rw [if_neg h2]
        have e : (⟨(List.replicate (k : Int).toNat z.cps).foldl (· ++ ·) #[]⟩ : Str) = repS z k := by
          unfold repS
          rw [Int.toNat_natCast, ← Array.toArray_toList (xs := (List.replicate k z.cps).foldl (· ++ ·) #[]), foldl_app]
          rfl
        rw [e]
        have hl : (repS z k).length ≤ sizeLine := by
          rw [repS_len, sizeLine_eq]
          omega
        exact ⟨hl, .str _, H, I.tok _, ⟨_, rfl⟩, q⟩
/-- text[::-1] -/
def revS (z : Str) : Str := ⟨z.cps.toList.reverse.toArray⟩
theorem revS_len (z : Str) : (revS z).length = z.length := by
  show z.cps.toList.reverse.toArray.size = z.cps.size
  rw [List.size_toArray, List.length_reverse, Array.length_toList]
theorem rev_pick (z : Str) : (⟨((PySem.Builtin.Str.strSliceIndices none none (-1) z.length).filterMap (z.cps[·]?)).toArray⟩ : Str) = revS z := by
  unfold revS
  have e : PySem.Builtin.Str.strSliceIndices none none (-1) z.length = (List.range z.length).reverse := by
    rw [← PySem.W.krv_range, ← PySem.W.krv_sliceRange]
    rfl
  have e2 := PySem.W.krv_all z.cps
  rw [e, List.filterMap_reverse]
  show (⟨((List.range z.cps.size).filterMap (z.cps[·]?)).reverse.toArray⟩ : Str) = _
  rw [e2]
def tRevS (te : TE) : TE := fun σ H Q => te σ H fun x H1 => ∃ z : Str, x = .str z ∧ z.length ≤ sizeLine ∧ Q (.str (revS z)) H1
theorem pe_revS {e : Expr} {te : TE} {k : Nat} {p1 p2 p3 pos : Pos} (he : PE X e te) : PE X (.Subscript e (.Slice none none (some (.UnaryOp .USub (.Constant (.int 1) k p1) p2)) p3) pos) (tRevS te) := by
  refine ⟨fun pins s σ H Q I h => Subscript_ (thn (he.run pins s σ H _ I h) fun v s1 ⟨x, H1, I1, r1, z, ex, hz, q⟩ => ?_)⟩
  subst ex
  obtain ⟨t, rfl⟩ := r1
  have hst : PO X (some (.UnaryOp .USub (.Constant (.int 1) k p1) p2)) (tPart (tUn (rU fun i => .int (-i)) (tC (.int 1)))) := po_some (pe_un un_neg pe_int)
  refine wpAny_Slice (thn (po_none.run pins s1 σ H1 (fun o K2 => o = none ∧ K2 = H1) I1 ⟨rfl, rfl⟩) fun vl s2 ⟨l, H2, I2, pl, el, e2⟩ => ?_)
  subst el e2
  refine thn (po_none.run pins s2 σ H2 (fun o K3 => o = none ∧ K3 = H2) I2 ⟨rfl, rfl⟩) fun vu s3 ⟨u, H3, I3, pu, eu, e3⟩ => ?_
  subst eu e3
  refine thn (hst.run pins s3 σ H3 (fun o K4 => o = some (-1) ∧ K4 = H3) I3 ⟨1, rfl, -1, rfl, rfl, rfl⟩) fun vs s4 ⟨o, H4, I4, ps, eo, e4⟩ => ?_
  subst eo e4
  obtain ⟨l, rfl, hl⟩ := IsPart.raw pl
  obtain ⟨u, rfl, hu⟩ := IsPart.raw pu
  obtain ⟨st, rfl, hst'⟩ := IsPart.raw ps
  have I5 : Inv X pins σ H4 { s4 with heap := s4.heap.push { cls := .type "slice", data := .fields #[partValue l, partValue u, partValue st] } } := I4.kept (t' := s4.toks) fun b ob qq => Heap.get?_push_of_some _ qq
  show wpAny (model X.prog X.w) X.A (subscriptTail e (.Slice none none (some (.UnaryOp .USub (.Constant (.int 1) k p1) p2)) p3) (.str z t) (.ref s4.heap.objs.size)) (EP X pins σ Q) X.xe { s4 with heap := s4.heap.push { cls := .type "slice", data := .fields #[partValue l, partValue u, partValue st] } }
  refine tail_any (ops := [.ref s4.heap.objs.size, .str z t]) (T := "str") (typeIs_str _ _ _) F.slot_str_getitem.lookup ?_ (by with_unfolding_all rfl)
  refine wpAny_getItem_str_slice (l := l) (u := u) (st := st) (Heap.IsSliceOf.new ..) (by rw [hst']; decide) ?_
  have em : sliceMade z t l u st = .str (revS z) := by
    unfold sliceMade slicePicked
    rw [hst', hl, hu]
    rw [if_neg (by simp)]
    rw [← rev_pick z]
    rfl
  rw [em]
  exact ⟨by rw [revS_len]; exact hz, .str _, H4, I5.tok _, ⟨_, rfl⟩, q⟩
end
end HopR

set_option Elab.async false
set_option linter.all false
set_option maxRecDepth 100000
namespace HopR
open PySem PySem.Spec PyProof.Rows L2
/-! rows as lists of truths -/
def cd (b : Bool) : Nat := if b then 111 else 46
def tx (bs : List Bool) : Str := ⟨(bs.map cd).toArray⟩
theorem cd_inj {a b : Bool} (h : cd a = cd b) : a = b := by
  cases a <;> cases b <;> first | rfl | (exact absurd h (by decide))
theorem map_cd_inj : ∀ {as bs : List Bool}, as.map cd = bs.map cd → as = bs
  | [], [], _ => rfl
  | [], _ :: _, h => by simp at h
  | _ :: _, [], h => by simp at h
  | a :: r, b :: q, h => by
    rw [List.map_cons, List.map_cons] at h
    injection h with h1 h2
    rw [cd_inj h1, map_cd_inj h2]
theorem tx_inj {as bs : List Bool} (h : tx as = tx bs) : as = bs := by
  unfold tx at h
  injection h with h
  exact map_cd_inj (by simpa using congrArg Array.toList h)
theorem tx_len (bs : List Bool) : (tx bs).length = bs.length := by
  show (bs.map cd).toArray.size = bs.length
  rw [List.size_toArray, List.length_map]
theorem tx_list (bs : List Bool) : (tx bs).cps.toList = bs.map cd := rfl
theorem tx_get {bs : List Bool} {i : Nat} {b : Bool} (h : bs[i]? = some b) : (tx bs).cps[i]? = some (cd b) := by
  show (bs.map cd).toArray[i]? = some (cd b)
  rw [List.getElem?_toArray, List.getElem?_map, h]
  rfl
theorem ext_str {a b : Str} (h : a.cps.toList = b.cps.toList) : a = b := by
  cases a with | mk x =>
  cases b with | mk y =>
  have e : x = y := Array.toList_inj.mp h
  rw [e]
theorem tx_app (as bs : List Bool) : tx as ++ tx bs = tx (as ++ bs) := by
  apply ext_str
  show ((as.map cd).toArray ++ (bs.map cd).toArray).toList = (as ++ bs).map cd
  rw [Array.toList_append, List.map_append]
theorem tx_rev (bs : List Bool) : revS (tx bs) = tx bs.reverse := by
  unfold revS tx
  simp
theorem tx_sg (bs : List Bool) : sg (tx bs) = bs.map fun b => tx [b] := by
  unfold sg
  rw [tx_list, List.map_map]
  rfl
theorem tx_o : ("o" : Str) = tx [true] := by decide +kernel
theorem tx_f : ("." : Str) = tx [false] := by decide +kernel
/-- a row walked sign by sign: a turn's sign is the text of that place's truth -/
theorem walk_tx {bs : List Bool} : Walk (Its (tx bs)) bs.length (fun _ => True) (fun i H v H' => H' = H ∧ ∃ b, bs[i]? = some b ∧ v = .str (tx [b])) := by
  have w := walk_str (z := tx bs)
  rw [show (tx bs).cps.size = bs.length from tx_len bs] at w
  refine w.mono (fun _ g => g) fun i H x H' hi _ y => ?_
  obtain ⟨e1, c, e2, e3⟩ := y
  have hb : bs[i]? = some bs[i] := List.getElem?_eq_getElem hi
  rw [tx_get hb] at e2
  cases e2
  exact ⟨e1, _, hb, e3⟩
def for_tx {bs : List Bool} {g : TG} {tb : TS} {D : Ends} {σ : L2.St} {H : Hp} (Pv : Nat → L2.St → Hp → Prop) (h0 : Pv 0 σ H)
    (hs : ∀ i b σ H, bs[i]? = some b → Pv i σ H → g (.str (tx [b])) σ H fun σ2 H2 => tb { D with nx := Pv (i + 1), ct := Pv (i + 1), bk := D.nx } σ2 H2) (hd : ∀ σ H, Pv bs.length σ H → D.nx σ H) :=
  for_it (walk_tx (bs := bs)) (g := g) (tb := tb) (D := D) (σ := σ) (H := H) Pv h0 (fun _ _ _ _ _ => trivial)
    (fun i x σ H H' _ p y => by
      obtain ⟨e1, b, hb, e2⟩ := y
      subst e1 e2
      exact hs i b σ _ hb p) hd
def lc_tx {bs : List Bool} {g : TG} {tt : TT} {te : TE} {vs : List Nat} {σ : L2.St} {H1 : Hp} {D : Addr} {Qd : Hp → Prop} (Pv : Nat → Hp → Prop) (h0 : Pv 0 (upd H1 D (.lst [])))
    (hs : ∀ i b H, bs[i]? = some b → Pv i H → g (.str (tx [b])) (wipe σ vs) H fun σ2 H2 => wipe σ2 vs = wipe σ vs ∧ tt σ2 H2 fun kept H3 =>
      if kept = true then (te σ2 H3 fun y H4 => ∃ acc, H4 D = some (.lst acc) ∧ acc.length < sizeLine ∧ Pv (i + 1) (upd H4 D (.lst (acc ++ [y])))) else Pv (i + 1) H3)
    (hd : ∀ H, Pv bs.length H → Qd H) :=
  lc_it (walk_tx (bs := bs)) (g := g) (tt := tt) (te := te) (vs := vs) (σ := σ) (H1 := H1) (D := D) (Qd := Qd) Pv h0 (fun _ _ _ _ => trivial)
    (fun i x H H' _ p y => by
      obtain ⟨e1, b, hb, e2⟩ := y
      subst e1 e2
      exact hs i b _ hb p) hd
end HopR

set_option Elab.async false
set_option linter.all false
set_option maxRecDepth 100000
namespace HopR
open PySem PySem.Spec PyProof.Rows L2 TL
theorem joinL_nil : ∀ ps : List (List Nat), joinL [] ps = ps.flatten
  | [] => rfl
  | [p] => by
    show p = p ++ []
    rw [List.append_nil]
  | p :: q :: r => by
    show p ++ ([] ++ joinL [] (q :: r)) = p ++ (q :: r).flatten
    rw [List.nil_append, joinL_nil (q :: r)]
theorem join0_list (ys : List Str) : (Txt.join "" ys).cps.toList = (ys.map fun y => y.cps.toList).flatten := by
  have e : Txt.join "" ys = Str.join "" ys := PySem.StrLaws.glued_eq_join "" ys
  rw [e]
  have h := tl_join "" ys
  have h2 : tl ("" : Str) = [] := by decide +kernel
  rw [h2, joinL_nil] at h
  exact h
theorem join_tx (bs : List Bool) : Txt.join "" (bs.map fun b => tx [b]) = tx bs := by
  apply ext_str
  rw [join0_list, List.map_map, tx_list]
  induction bs with
  | nil => rfl
  | cons b r ih =>
    rw [List.map_cons, List.flatten_cons, ih]
    rfl
theorem sum_ones : ∀ bs : List Bool, ((bs.map fun b => tx [b]).map (·.length)).sum = bs.length
  | [] => rfl
  | b :: r => by
    rw [List.map_cons, List.map_cons, List.sum_cons, sum_ones r, tx_len]
    show 1 + r.length = r.length + 1
    omega
theorem join_fits {bs : List Bool} (h : bs.length ≤ 1000) : ((bs.map fun b => tx [b]).map (·.length)).sum + (bs.map fun b => tx [b]).length * ("" : Str).length ≤ 16777216 := by
  have e : ("" : Str).length = 0 := by decide +kernel
  rw [sum_ones, e, Nat.mul_zero]
  omega
theorem cut_tx (bs : List Bool) (lo hi : Option Int) : cutS (tx bs) lo hi = tx ((bs.drop (HT.sIx bs.length 0 lo)).take (HT.sIx bs.length bs.length hi - HT.sIx bs.length 0 lo)) := by
  apply ext_str
  unfold cutS
  rw [tx_len, tx_list, tx_list, List.map_take, List.map_drop]
theorem cut_to (bs : List Bool) (k : Nat) : cutS (tx bs) none (some (k : Int)) = tx (bs.take k) := by
  rw [cut_tx, HT.sIx_none, HT.sIx_nat, List.drop_zero, Nat.sub_zero]
  by_cases h : k ≤ bs.length
  · rw [Nat.min_eq_left h]
  · rw [Nat.min_eq_right (by omega), List.take_length, List.take_of_length_le (by omega)]
theorem cut_from (bs : List Bool) (k : Nat) : cutS (tx bs) (some (k : Int)) none = tx (bs.drop k) := by
  rw [cut_tx, HT.sIx_none, HT.sIx_nat]
  by_cases h : k ≤ bs.length
  · rw [Nat.min_eq_left h, List.take_of_length_le (by rw [List.length_drop]; exact Nat.le_refl _)]
  · rw [Nat.min_eq_right (by omega), List.drop_length, List.drop_of_length_le (by omega), List.take_nil]
theorem cut_at (bs : List Bool) (k m : Nat) : cutS (tx bs) (some (k : Int)) (some ((k : Int) + (m : Int))) = tx ((bs.drop k).take m) := by
  have e : ((k : Int) + (m : Int)) = ((k + m : Nat) : Int) := by omega
  rw [e, cut_tx, HT.sIx_nat, HT.sIx_nat]
  by_cases h : k ≤ bs.length
  · rw [Nat.min_eq_left h]
    by_cases h2 : k + m ≤ bs.length
    · rw [Nat.min_eq_left h2, Nat.add_sub_cancel_left]
    · rw [Nat.min_eq_right (by omega), List.take_of_length_le (by rw [List.length_drop]; exact Nat.le_refl _), List.take_of_length_le (by rw [List.length_drop]; omega)]
  · rw [Nat.min_eq_right (by omega), Nat.min_eq_right (by omega), List.drop_length, List.drop_of_length_le (by omega), List.take_nil, List.take_nil]
theorem cut_mid (bs : List Bool) (h : 2 ≤ bs.length) : cutS (tx bs) (some 1) (some (-1)) = tx ((bs.drop 1).take (bs.length - 2)) := by
  rw [cut_tx]
  have e1 : HT.sIx bs.length 0 (some 1) = 1 := by
    rw [show (some (1 : Int)) = some ((1 : Nat) : Int) from rfl, HT.sIx_nat]
    omega
  have e2 : HT.sIx bs.length bs.length (some (-1)) = bs.length - 1 := by
    show (if (-1 : Int) < 0 then ((-1 : Int) + (bs.length : Int)).toNat else min (-1 : Int).toNat bs.length) = bs.length - 1
    rw [if_pos (by decide)]
    omega
  rw [e1, e2]
  congr 2
/-! ### rows: walls, changes, the mirror -/
def ends (bs : List Bool) : List Bool := true :: (bs ++ [false])
theorem ends_len (bs : List Bool) : (ends bs).length = bs.length + 2 := by
  unfold ends
  rw [List.length_cons, List.length_append]
  rfl
def opn (bs : List Bool) (k : Nat) : Bool := decide (((ends bs).drop k).take 2 = [true, false])
def walls (bs : List Bool) : List Nat := (List.range (bs.length + 1)).filter (opn bs)
def bhd (bs : List Bool) (k : Nat) : List Bool := (ends bs).take k ++ [false] ++ [true] ++ (ends bs).drop (k + 2)
def chg (bs : List Bool) (k : Nat) : List Bool := ((bhd bs k).drop 1).take ((bhd bs k).length - 2)
def mir (bs : List Bool) : List Bool := bs.reverse.map (!·)
def num (bs : List Bool) : Int := bs.foldl (fun n b => n * 2 + (if b then 1 else 0)) 0
theorem mem_walls {bs : List Bool} {k : Nat} : k ∈ walls bs ↔ k ≤ bs.length ∧ opn bs k = true := by
  unfold walls
  rw [List.mem_filter, List.mem_range, Nat.lt_succ_iff]
theorem mir_len (bs : List Bool) : (mir bs).length = bs.length := by
  unfold mir
  rw [List.length_map, List.length_reverse]
theorem walls_len (bs : List Bool) : (walls bs).length ≤ bs.length + 1 := by
  unfold walls
  exact Nat.le_trans (List.length_filter_le _ _) (by rw [List.length_range]; exact Nat.le_refl _)
theorem bhd_len {bs : List Bool} {k : Nat} (h : k ≤ bs.length) : (bhd bs k).length = bs.length + 2 := by
  unfold bhd
  rw [List.length_append, List.length_append, List.length_append, List.length_take, List.length_drop, ends_len]
  show min k (bs.length + 2) + 1 + 1 + (bs.length + 2 - (k + 2)) = bs.length + 2
  omega
theorem chg_len {bs : List Bool} {k : Nat} (h : k ≤ bs.length) : (chg bs k).length = bs.length := by
  unfold chg
  rw [List.length_take, List.length_drop, bhd_len h]
  omega
end HopR

set_option Elab.async false
set_option linter.all false
set_option maxRecDepth 100000
namespace HopR
open PySem PySem.Spec PyProof.Rows L2
/-! ### defs that are called where no repr is under way -/
/-- the promise sp of the def at f, kept wherever it is called while no repr is under way -/
structure FnOkG (P : Program) (w : World) (K : PySem.W.Frag) (mg : Str → Option Value) (base : Heap) (CX : CXT) (k : Nat) (f : Addr) (fd : FuncData) (ps : List Str) (sp : Sp) : Prop where
  arity : ∀ {vs H Q E}, sp vs H Q E → vs.length = ps.length
  calls : ∀ {A : Around} {outer : List Env} {s : Shared} {H : Hp} {args : Args} {us : List Value} {vs : List V} {Q : VK} {E : XK}, A.guards = some [] → Room k A → Env0 P w K mg base A outer s H →
    BindsTo s fd args (ps.zip us) → Vals vs us → sp vs H Q E → codeAny (model P w) A (.call (.ref f) args) (CR CX outer P w H s Q E) s
section
variable {P : Program} {w : World} {K : PySem.W.Frag} {mg : Str → Option Value} {base : Heap}
theorem FnOkG.of {CX : CXT} {k : Nat} {f : Addr} {fd : FuncData} {ps : List Str} {sp : Sp} (F : FnOk P w K mg base CX k f fd ps sp) : FnOkG P w K mg base CX k f fd ps sp where
  arity h := F.len _ _ _ _ h
  calls _ room e0 bind vals prom := F.run _ _ _ _ _ _ _ _ _ room e0 bind vals prom
/-- what the body's end says to the caller -/
theorem ends_say {CX : CXT} {N : List Str} {qual : Str} {scope : Scope} {f : Addr} {cdv : Value} {A : Around} {outer : List Env} {s : Shared} {H : Hp} {Q : VK} {E : XK} {fl : Flow} {s' : Shared}
    (h : SP (cxOf CX P w K mg base N qual scope f cdv A outer s H E) [] { nx := fun _ H' => Q .non H', rt := Q } fl s') :
    match fl with | .ret u => CE outer P w H s Q u s' | .next => CE outer P w H s Q Value.none s' | _ => False := by
  match fl, h with
  | .ret u, ⟨v, σ', H', J, rv, g⟩ => exact ⟨v, H', J.os, J.bare, J.base, J.hok, rv, g⟩
  | .next, ⟨σ', H', J, g⟩ => exact ⟨V.non, H', J.os, J.bare, J.base, J.hok, rfl, g⟩
  | .brk, ⟨_, _, _, g⟩ => exact g
  | .cont, ⟨_, _, _, g⟩ => exact g
theorem okG {x qual : Str} {st : Stmt} {f : Addr} {fd : FuncData} {N ps : List Str} {k : Nat} {sp : Sp} (F : Fun K x qual st f fd) (S : FnScope N ps (defScope st)) (len : ∀ vs H Q E, sp vs H Q E → vs.length = ps.length)
    (body : ∀ (cdv : Value) (A : Around) (outer : List Env) (s : Shared) (H : Hp) (vs : List V) (Q : VK) (E : XK), A.guards = some [] → Room k (A.deeper (envOfC qual (defScope st) s.heap.objs.size f cdv)) → sp vs H Q E →
      ∃ t, PSs (cxOf CX0 P w K mg base N qual (defScope st) f cdv A outer s H E).nox (defBody st) t ∧ t { nx := fun _ H' => Q .non H', rt := Q } (start N vs) H) : FnOkG P w K mg base CX0 (k + 1) f fd ps sp where
  arity h := len _ _ _ _ h
  calls {A outer s H args us vs Q E} free room e0 bind vals prom := by
    obtain ⟨_, _, _, _, _, _, cdv, _, _, rfl, lk, code⟩ := F.ex
    have old : ∀ b o, base.get? b = some o → s.heap.get? b = some o := fun b o e => (e0.bs b o e).1
    have here := e0.mod.kin.keeps old
    obtain ⟨t, pr, rd⟩ := body cdv A outer s H vs Q E free (room.deeper _) prom
    have kinds : ∀ y ∈ ps.zip us, (defScope st).names.lookup y.1 = some .local ∨ ((defScope st).names.lookup y.1 = some .cell ∧ ((cellsFrom (s.heap.objs.size + 1) (defScope st).names []).lookup y.1).isSome = true) := by
      intro y hy
      have hp : y.1 ∈ ps := by
        obtain ⟨y1, y2⟩ := y
        exact (List.of_mem_zip hy).1
      exact (S.par _ hp).imp id fun g => ⟨g, PySem.W.cellsFrom_some _ _ _ (.inl g)⟩
    refine codeAny_call_function room.depth (here _ _ lk) rfl S.co S.gen rfl (PySem.W.codeRec_of here code) (bind _ _ _ _ ?_)
    refine wpAny_newFunctionEnv_cells S.kind kinds fun _ e s1 x => ?_
    cases e
    refine ⟨(e0.mod.nolimit.keeps old).keeps x.toInCall.keep, codeAny_func ?_⟩
    have run := pr.nox.run [] s1 _ H _ (inv_start S room.hd e0 (len _ _ _ _ prom) vals x) rd
    refine wpAny_mono run (fun fl s' h => ?_) fun _ _ z => z
    have said := ends_say h
    cases fl with
    | ret _ => exact said
    | next => exact said
    | brk => exact said.elim
    | cont => exact said.elim
end
section
variable {X : Cx} {CX : CXT} {k : Nat} {f : Addr} {fd : FuncData} {ps : List Str} {sp : Sp} {ds : List Value} {dvs : List V} {E : XK}
theorem after_call {pins : List (Addr × Obj)} {σ : L2.St} {H : Hp} {s : Shared} {Q : VK} (hx : Passes CX X E) (I : Inv X pins σ H s) {r : Except Value Flow} {s' : Shared} (h : CR CX X.stack X.prog X.w H s Q E r s') :
    match r with | .ok (.ret u) => EP X pins σ Q u s' | .ok _ => False | .error e => X.xe e s' := by
  match r, h with
  | .error e, h => exact hx pins σ H s e s' I h
  | .ok (.ret u), h => exact I.after h
  | .ok .next, h => exact h
  | .ok .brk, h => exact h
  | .ok .cont, h => exact h
variable {x : Str} {p pos : Pos} {e : Expr} {es : List Expr} {t : TA}
/-- f(e, ..) at a place where no repr is under way -/
theorem pe_callG (F : FnOkG X.prog X.w X.K X.mg X.base CX k f fd ps sp) (hG : X.A.guards = some []) (hr : Room k X.A) (hg : Gl X x) (hm : X.mg x = some (.ref f)) (hk : PySem.W.keepIn X.K (.ref f) = true) (hb : Binds X.K fd ps ds) (hd : Vals dvs ds) (hx : Passes CX X E)
    (ha : PA X (e :: es) t) (hdb : (x == ("__debug__" : Str)) = false := by decide)
    (he : starEach (e :: es) X.env = (false, eval e X.env) :: starEach es X.env := by rfl) (hpl : (backTo pos (starEach es X.env)).any (·.1) = false := by rfl) :
    PE X (.Call (.Name x p) (e :: es) [] pos) (tCall sp dvs E t) := by
  constructor
  intro pins s σ H Q I h
  refine wpAny_Call_Name_kw (ld_glob I hg hm (PySem.W.callWith_K (h₀ := X.base) I.ok.mod.kin hk (thn (ha.run pos pins s σ H _ I h) ?_) he hpl) hdb)
  rintro us s1 ⟨vs, H1, I1, vals, prom⟩
  have all := vals.append hd
  have size : (us ++ ds).length = ps.length := all.length.symm.trans (F.arity prom)
  refine ⟨I1.kIn, wpAny_call (codeAny_mono (F.calls hG hr I1.env0 (hb s1 us I1.kIn size) all prom) fun r s' h => ?_)⟩
  have := after_call hx I1 h
  cases r with
  | error e => exact this
  | ok fl => cases fl <;> exact this
/-! ### repr of data -/
def rReprD (K : PySem.W.Frag) : List V → Hp → VK → Prop := fun vs H Q => ∃ (v : V) (d : PyData), vs = [v] ∧ Dp K H v d ∧ d.showable = true ∧ d.hasDict = false ∧ d.depth ≤ 64 ∧ d.shown.length ≤ sizeLine ∧ Q (.str d.shown) H
theorem cr_reprD (hG : X.A.guards = some []) (hu : X.A.units + 66 < cLine) : CallR X (.builtin "repr") (rReprD X.K) := by
  rintro pins s σ H _ us Q I r ⟨v, d, rfl, hd, hs, hn, hdep, hz, q⟩
  obtain ⟨u, rfl, rv⟩ := vals1 r
  obtain ⟨as, rd⟩ := Dp.reads I d v u hd rv
  cases hd with
  | non =>
    cases rv
    exact P.repr_of_none ⟨.str _, H, I.tok _, ⟨_, rfl⟩, q⟩
  | bl b =>
    cases rv
    exact P.repr_of_bool ⟨.str _, H, I.tok _, ⟨_, rfl⟩, q⟩
  | int i =>
    obtain ⟨t, rfl⟩ := rv
    have hb : i.natAbs.log2 < 1920 := of_decide_eq_true (by simpa only [PyData.showable] using hs)
    exact P.repr_of_int hb ⟨.str _, H, I.tok _, ⟨_, rfl⟩, by simpa only [PyData.shown] using q⟩
  | str x =>
    obtain ⟨t, rfl⟩ := rv
    exact P.repr_of_str ⟨.str _, H, I.tok _, ⟨_, rfl⟩, by simpa only [PyData.shown] using q⟩ (by simpa only [PyData.shown] using hz)
  | lst h1 h2 =>
    cases rv
    exact repr_of_reads' rd hs (fun e => absurd (hn.symm.trans e) (by decide)) hG (by omega) (fun _ _ e => e) (fun h' t tk hk => ⟨.str _, H, I.kept hk, ⟨_, rfl⟩, q⟩) hz
  | tup h1 h2 =>
    cases rv
    exact repr_of_reads' rd hs (fun e => absurd (hn.symm.trans e) (by decide)) hG (by omega) (fun _ _ e => e) (fun h' t tk hk => ⟨.str _, H, I.kept hk, ⟨_, rfl⟩, q⟩) hz
end
/-! ### the end -/
section
variable (K : PySem.W.Frag) (a : Addr) (vs : List Value) (ns : List Int)
/-- the script as the heap has it -/
abbrev scrO : Obj := { cls := .type "list", data := .seq vs.toArray }
/-- tracked is the script alone, locked, and not even that where the top wrote it -/
def scrH : Hp := fun b => if b = a ∧ K.lookup a = none then some (.frz (scrO vs) (.lst (ns.map V.int))) else none
theorem scrH_or (b : Addr) : scrH K a vs ns b = none ∨ (b = a ∧ K.lookup a = none ∧ scrH K a vs ns b = some (.frz (scrO vs) (.lst (ns.map V.int)))) := by
  unfold scrH
  by_cases h : b = a ∧ K.lookup a = none
  · exact .inr ⟨h.1, h.2, if_pos h⟩
  · exact .inl (if_neg h)
theorem scrH_only : Only (scrH K a vs ns) := fun b => (scrH_or K a vs ns b).imp id fun ⟨_, _, e⟩ => ⟨_, _, e⟩
end
section
variable {P : Program} {w : World} {K : PySem.W.Frag} {a : Addr} {vs : List Value} {ns : List Int} {h : Heap}
theorem scrH_sq (kin : K.In h) (at_ : h.get? a = some (scrO vs)) (hi : IntsAre vs ns) (few : ns.length ≤ sizeLine) : SqL K (scrH K a vs ns) a (ns.map V.int) := by
  cases hk : K.lookup a with
  | none => exact .inl (.inr ⟨scrO vs, if_pos ⟨rfl, hk⟩⟩)
  | some o =>
    obtain rfl : o = scrO vs := Option.some.inj ((kin a o hk).symm.trans at_)
    exact .inr ⟨_, vs.toArray, _, hk, rfl, rfl, rfl, by rw [List.size_toArray, hi.length]; exact few, by simpa using vals_ints hi⟩
theorem scrH_ok (at_ : h.get? a = some (scrO vs)) (hi : IntsAre vs ns) (few : ns.length ≤ sizeLine) : HOk P w (scrH K a vs ns) h := by
  intro b u e
  rcases scrH_or K a vs ns b with n | ⟨rfl, _, y⟩
  · exact absurd (n.symm.trans e) (by simp)
  · cases y.symm.trans e
    refine ⟨at_, ?_, vs, _, vals_ints hi, at_⟩
    rw [List.length_map]
    exact few
/-- what isn't the script, and what the top wrote, stands also where the tracked is hidden -/
theorem scrH_base (at_ : h.get? a = some (scrO vs)) {b : Addr} {o : Obj} (e : h.get? b = some o) (q : o ≠ scrO vs ∨ K.lookup b ≠ none) : (hidT h (scrH K a vs ns)).get? b = some o := by
  refine hidT_get e ((scrH_or K a vs ns b).resolve_right ?_)
  rintro ⟨rfl, n, _⟩
  exact q.elim (fun z => z (Option.some.inj (e.symm.trans at_))) fun z => z n
theorem scrH_ns (at_ : h.get? a = some (scrO vs)) {b : Addr} {m : Str → Option Value} : h.Ns b m → (hidT h (scrH K a vs ns)).Ns b m := by
  rintro ⟨o, es, ep, e, dd, r⟩
  refine ⟨o, es, ep, scrH_base at_ e (.inl ?_), dd, r⟩
  rintro rfl
  exact absurd dd (by simp)
end
/-- a law whose promise holds where no repr is under way: nothing is, where it is called -/
theorem walk_ofG {l : PySem.W.OpenLaw} {n k : Nat} {q : Program} {loose : List Str} {XP : (Str → Option Value) → Heap → Prop} {YP : World → Heap → Prop} {d : DefRec} {K : Params → PySem.W.Frag} {sp : World → Sp} {x : Str}
    (most : l.most = some n) (few : n ≤ sizeLine) (plain : d.params.defaults = []) (room : Room k callerA) (top : ∀ (w : World) (h : Heap), YP w h → (K w.params).In h)
    (F : ∀ (w : World) (mg : Str → Option Value) (fa : Addr) (h : Heap), (K w.params).In h → h.Ns mainGlobals mg → mg d.name = some (.ref fa) →
      ∃ fd : FuncData, (∀ (s : Shared) (u : Value), BindsTo s fd ⟨[u], []⟩ [(x, u)]) ∧ ∀ base : Heap, (K w.params).In base → base.Ns mainGlobals mg → FnOkG l.prog w (K w.params) mg base CX0 k fa fd [x] (sp w))
    (prom : ∀ (w : World) (H : Hp) (a : Addr) (ns : List Int), ns.length ≤ n → (∀ z ∈ ns, Builtin.Int.intBits z ≤ 1048576) → Only H → SqL (K w.params) H a (ns.map V.int) → sp w [.ref a] H (fun v _ => v = .bl true) fun _ _ _ => False) :
    PySem.W.WalkO q loose XP YP l.row.toRowW d [] (fun f vs => PySem.call f vs) := by
  apply Att.attach_callB most plain
  intro w s₀ s₁ mg mb fa o pm cd doc a vs ns G Y _ _ _ hmg at_ isI size bits gens
  have kin := top w _ Y
  obtain ⟨fd, bind, hF⟩ := F w mg fa _ kin G.T.g hmg
  have few' := Nat.le_trans size few
  have ok : HOk l.prog w (scrH (K w.params) a vs ns) s₁.heap := scrH_ok at_ isI few'
  have kin' : (K w.params).In (hidT s₁.heap (scrH (K w.params) a vs ns)) := fun b o e => scrH_base at_ (kin b o e) (.inr (by rw [e]; simp))
  have g' := scrH_ns (K := K w.params) (ns := ns) at_ G.T.g
  obtain ⟨mc, lim1, lim2⟩ := G.T.nolimit
  have e0 : Env0 l.prog w (K w.params) mg (hidT s₁.heap (scrH (K w.params) a vs ns)) callerA [] s₁ (scrH (K w.params) a vs ns) :=
    ⟨rfl, ⟨kin', g', ⟨mb, scrH_ns at_ G.T.b, G.T.builtins⟩, ⟨mc, scrH_ns at_ lim1, lim2⟩⟩, fun _ _ => of_hidT, Nat.le_of_eq (hidT_size _ _), trivial, (by intro _ z; cases z), ok, AllBare.of_eq gens⟩
  refine codeAny_mono ((hF _ kin' g').calls (us := [.ref a]) (vs := [.ref a]) rfl room e0 (bind s₁ (.ref a)) (.cons rfl .nil) (prom w _ a ns size bits (scrH_only (K w.params) a vs ns) (scrH_sq kin at_ isI few'))) fun r s' h => ?_
  match r, h with
  | .error e, h => exact h.elim
  | .ok .next, h => exact h.elim
  | .ok .brk, h => exact h.elim
  | .ok .cont, h => exact h.elim
  | .ok (.ret u), ⟨v, H', os, bare, un, ok', rel, is⟩ =>
    have is : v = .bl true := is
    subst is
    cases (show u = Value.bool true from rel)
    refine ⟨rfl, OldK.of_keep ?_, os, bare⟩
    intro b o e
    rcases scrH_or (K w.params) a vs ns b with z | ⟨rfl, _, z⟩
    · exact un.keep b o e z (fun m => nomatch m) (by simp)
    · cases at_.symm.trans e
      exact (ok' _ _ (un.frzs _ _ _ z)).1
end HopR

set_option Elab.async false
set_option linter.all false
set_option maxRecDepth 100000
namespace HopR
open PySem PySem.Spec PyProof.Rows L2
theorem hu66 {A : Around} {k : Nat} (hr : Room k A) : A.units + 66 < cLine := by
  have := hr.un
  omega
/-! ### f(k = v, ..), no value by its place -/
section
variable {X : Cx} {CX : CXT} {k : Nat} {f : Addr} {fd : FuncData} {ps ks : List Str} {sp : Sp} {E : XK} {x : Str} {p pos : Pos} {kws : List Keyword} {tk : TA}
def tCallKw (m : Nat) (sp : Sp) (gV : List V → List V) (E : XK) (tk : TA) : TE := fun σ H Q => tk σ H fun zs H2 => zs.length = m ∧ sp (gV zs) H2 Q E
theorem pe_callKw {g : List Value → List Value} {gV : List V → List V} (F : FnOk X.prog X.w X.K X.mg X.base CX k f fd ps sp) (hr : Room k X.A) (hg : Gl X x) (hm : X.mg x = some (.ref f)) (hk : PySem.W.keepIn X.K (.ref f) = true)
    (hb : ∀ (s : Shared) (ws : List Value), X.K.In s.heap → ws.length = ks.length → BindsTo s fd ⟨[], ks.zip ws⟩ (ps.zip (g ws))) (hrel : ∀ {zs : List V} {ws : List Value}, Vals zs ws → Vals (gV zs) (g ws)) (hx : Passes CX X E) (hkw : PK X kws tk)
    (hall : (backToKw pos (keywordEach kws X.env)).all (·.1.isSome) = true := by rfl) (hks : (backToKw pos (keywordEach kws X.env)).filterMap (·.1) = ks := by rfl) (hdb : (x == ("__debug__" : Str)) = false := by decide)
    (hpl : ((backTo pos (starEach [] X.env)).any (·.1) || (backToKw pos (keywordEach kws X.env)).any (·.1.isNone)) = false := by rfl) :
    PE X (.Call (.Name x p) [] kws pos) (tCallKw ks.length sp gV E tk) := by
  refine ⟨fun pins s σ H Q I h => wpAny_Call_Name_kw (ld_glob I hg hm ?_ hdb)⟩
  refine PySem.W.callWith_KW0 (h₀ := X.base) I.ok.mod.kin hk hall (thn (hkw.run pos pins s σ H _ I h) fun ws s2 ⟨zs, H2, I2, rz, l2, q2⟩ => ⟨I2.kIn, ?_⟩) hpl
  rw [hks]
  refine wpAny_call (codeAny_mono (F.run X.A X.stack s2 H2 ⟨[], ks.zip ws⟩ (g ws) (gV zs) Q E hr I2.env0 (hb s2 ws I2.kIn (rz.length.symm.trans l2)) (hrel rz) q2) fun r s' hq => ?_)
  match r, hq with
  | .error e, hq => exact hx pins σ H2 s2 e s' I2 hq
  | .ok (.ret u), hq => exact I2.after hq
  | .ok .next, hq => exact hq.elim
  | .ok .brk, hq => exact hq.elim
  | .ok .cont, hq => exact hq.elim
end
/-! ### lists of small numbers as data -/
def wv (k : Nat) : V := .int (k : Int)
def dw (k : Nat) : PyData := PyData.int (k : Int)
theorem dp_walls {K : PySem.W.Frag} {H : Hp} : ∀ ks : List Nat, DpAll K H (ks.map wv) (ks.map dw)
  | [] => .nil
  | k :: r => .cons (.int _) (dp_walls r)
theorem lay_dw : ∀ ks : List Nat, PyData.canLayAll0 (ks.map dw) = true
  | [] => rfl
  | k :: r => by
    rw [List.map_cons]
    simp only [PyData.canLayAll0, lay_dw r, Bool.and_true]
    rfl
theorem deep_dw : ∀ ks : List Nat, PyData.depthAll (ks.map dw) = 0
  | [] => rfl
  | k :: r => by
    rw [List.map_cons]
    simp only [PyData.depthAll, deep_dw r]
    rfl
theorem shaped_ints (ks : List Nat) : SeqAt.shaped (.list (ks.map dw)) = true := by
  unfold SeqAt.shaped
  rw [Bool.and_eq_true]
  refine ⟨?_, decide_eq_true ?_⟩
  · simp only [PyData.canLay0, lay_dw]
  · simp only [PyData.depth, deep_dw]
    decide
theorem show_dw : ∀ ks : List Nat, (∀ k ∈ ks, k ≤ 30) → PyData.showableAll (ks.map dw) = true
  | [], _ => rfl
  | k :: r, h => by
    have hk := h k (List.mem_cons_self ..)
    have e : PyData.showable (dw k) = true := by
      show decide ((k : Int).natAbs.log2 < 1920) = true
      refine decide_eq_true (Nat.lt_of_le_of_lt (Nat.log2_le_self _) ?_)
      show k < 1920
      omega
    rw [List.map_cons]
    simp only [PyData.showableAll, e, show_dw r fun q hq => h q (List.mem_cons_of_mem _ hq), Bool.and_true]
theorem nodict_dw : ∀ ks : List Nat, PyData.hasDictAll (ks.map dw) = false
  | [] => rfl
  | k :: r => by
    rw [List.map_cons]
    simp only [PyData.hasDictAll, nodict_dw r, Bool.or_false]
    rfl
theorem text30 : ∀ k < 31, (PyData.shown (dw k)).length ≤ 2 := by decide +kernel
theorem shown_len : ∀ ks : List Nat, (∀ k ∈ ks, k ≤ 30) → ((PyData.shownAll (ks.map dw)).map (·.length)).sum ≤ 2 * ks.length ∧ (PyData.shownAll (ks.map dw)).length = ks.length
  | [], _ => ⟨Nat.le_refl _, rfl⟩
  | k :: r, h => by
    obtain ⟨h1, h2⟩ := shown_len r fun q hq => h q (List.mem_cons_of_mem _ hq)
    have hk := text30 k (by have := h k (List.mem_cons_self ..); omega)
    rw [List.map_cons]
    simp only [PyData.shownAll, List.map_cons, List.sum_cons, List.length_cons]
    omega
theorem ints_show {ks : List Nat} (h : ∀ k ∈ ks, k ≤ 30) (hl : ks.length ≤ 1000) : (PyData.list (ks.map dw)).showable = true ∧ (PyData.list (ks.map dw)).hasDict = false ∧ (PyData.list (ks.map dw)).depth ≤ 64 ∧ (PyData.list (ks.map dw)).shown.length ≤ sizeLine := by
  obtain ⟨h1, h2⟩ := shown_len ks h
  refine ⟨?_, ?_, ?_, ?_⟩
  · simp only [PyData.showable, show_dw ks h]
  · simp only [PyData.hasDict, nodict_dw]
  · simp only [PyData.depth, deep_dw]
    decide
  · simp only [PyData.shown]
    have h3 := listText_len_le (PyData.shownAll (ks.map dw))
    rw [sizeLine_eq]
    omega
/-! ### the law's own words of walls and changes -/
theorem opn_eq {bs : List Bool} {k : Nat} (h : k ≤ bs.length) : opn bs k = ((decide (k = 0) || bs.getD (k - 1) false) && (decide (k = bs.length) || !bs.getD k true)) := by
  have hl := ends_len bs
  have e1 : (ends bs)[k]?.getD false = (decide (k = 0) || bs.getD (k - 1) false) := by
    unfold ends
    cases k with
    | zero => rfl
    | succ j =>
      rw [List.getElem?_cons_succ, List.getElem?_append_left (by omega), List.getD_eq_getElem?_getD]
      simp
  have e2 : (ends bs)[k + 1]?.getD true = (decide (k ≠ bs.length) && bs.getD k true) := by
    unfold ends
    rw [List.getElem?_cons_succ]
    by_cases hk : k = bs.length
    · subst hk
      rw [List.getElem?_append_right (Nat.le_refl _)]
      simp
    · rw [List.getElem?_append_left (by omega), List.getD_eq_getElem?_getD, decide_eq_true hk]
      rfl
  have e3 : opn bs k = (((ends bs)[k]?.getD false) && !((ends bs)[k + 1]?.getD true)) := by
    have g1 : (ends bs)[k]? = some (ends bs)[k] := List.getElem?_eq_getElem (by omega)
    have g2 : (ends bs)[k + 1]? = some (ends bs)[k + 1] := List.getElem?_eq_getElem (by omega)
    have g3 : ((ends bs).drop k).take 2 = [(ends bs)[k], (ends bs)[k + 1]] := by
      rw [List.drop_eq_getElem_cons (by omega), List.drop_eq_getElem_cons (by omega)]
      rfl
    unfold opn
    rw [g3, g1, g2]
    show decide ([(ends bs)[k], (ends bs)[k + 1]] = [true, false]) = ((ends bs)[k] && !(ends bs)[k + 1])
    cases (ends bs)[k] <;> cases (ends bs)[k + 1] <;> rfl
  rw [e3, e1, e2]
  by_cases hk : k = bs.length
  · simp [hk]
  · simp [hk]
def lbeh (bs : List Bool) (k : Nat) : List Bool := if k < bs.length then (if 0 < k then bs.set (k - 1) false else bs).set k true else (if 0 < k then bs.set (k - 1) false else bs)
theorem lbeh_len (bs : List Bool) (k : Nat) : (lbeh bs k).length = bs.length := by
  unfold lbeh
  split <;> split <;> simp
theorem chg_get {bs : List Bool} {k i : Nat} (h : k ≤ bs.length) (hi : i < bs.length) : (chg bs k)[i]? = some (if i + 1 = k then false else if i = k then true else bs[i]) := by
  have hl := ends_len bs
  have hb := bhd_len h
  have he : (ends bs)[i + 1]? = some bs[i] := by
    unfold ends
    rw [List.getElem?_cons_succ, List.getElem?_append_left hi, List.getElem?_eq_getElem hi]
  unfold chg
  rw [List.getElem?_take_of_lt (by rw [hb]; omega), List.getElem?_drop, Nat.add_comm 1 i]
  unfold bhd
  rw [List.append_assoc, List.append_assoc]
  by_cases h1 : i + 1 < k
  · rw [List.getElem?_append_left (by rw [List.length_take]; omega), List.getElem?_take_of_lt h1, he, if_neg (by omega), if_neg (by omega)]
  · rw [List.getElem?_append_right (by rw [List.length_take]; omega), List.length_take, Nat.min_eq_left (by omega)]
    by_cases h2 : i + 1 = k
    · rw [if_pos h2, h2, Nat.sub_self]
      rfl
    · rw [if_neg h2]
      by_cases h3 : i = k
      · rw [if_pos h3, show i + 1 - k = 1 by omega]
        rfl
      · rw [if_neg h3]
        obtain ⟨m, hm⟩ : ∃ m, i + 1 - k = m + 2 := ⟨i + 1 - k - 2, by omega⟩
        rw [hm]
        show ((ends bs).drop (k + 2))[m]? = some bs[i]
        rw [List.getElem?_drop, show k + 2 + m = i + 1 by omega, he]
theorem lbeh_eq {bs : List Bool} {k : Nat} (h : k ≤ bs.length) : lbeh bs k = chg bs k := by
  apply List.ext_getElem?
  intro i
  by_cases hi : i < bs.length
  · rw [chg_get h hi]
    unfold lbeh
    have g : bs[i]? = some bs[i] := List.getElem?_eq_getElem hi
    have inner : (if 0 < k then bs.set (k - 1) false else bs)[i]? = some (if i + 1 = k then false else bs[i]) := by
      by_cases hk : 0 < k
      · rw [if_pos hk, List.getElem?_set]
        by_cases e : k - 1 = i
        · rw [if_pos e, if_pos (by omega), if_pos (by omega)]
        · rw [if_neg e, if_neg (by omega), g]
      · rw [if_neg hk, if_neg (by omega), g]
    have il : (if 0 < k then bs.set (k - 1) false else bs).length = bs.length := by
      split <;> simp
    by_cases hk : k < bs.length
    · rw [if_pos hk, List.getElem?_set]
      by_cases e : k = i
      · rw [if_pos e, if_pos (by rw [il]; exact hk), if_neg (by omega), if_pos e.symm]
      · rw [if_neg e, inner]
        by_cases e2 : i + 1 = k
        · rw [if_pos e2, if_pos e2]
        · rw [if_neg e2, if_neg e2, if_neg (fun z => e z.symm)]
    · rw [if_neg hk, inner]
      by_cases e2 : i + 1 = k
      · rw [if_pos e2, if_pos e2]
      · rw [if_neg e2, if_neg e2, if_neg (by omega)]
  · rw [List.getElem?_eq_none (by rw [lbeh_len]; omega), List.getElem?_eq_none (by rw [chg_len h]; omega)]
end HopR

set_option Elab.async false
set_option linter.all false
set_option maxRecDepth 100000
namespace HopR
open PySem PySem.Spec PyProof.Rows L2
/-! ### an exception that is kept behind its suite -/
/-- the exception at a, of the class cls, its dict d, kept as a value -/
def ExH (cls : Value) (d : Option Addr) (a : Addr) : HO := .ext fun h => ∃ (oe : Obj) (vs : Array Value), h.get? a = some oe ∧ Zc cls d oe ∧ oe.data = .fields vs
theorem exH_ok {P : Program} {w : World} {H : Hp} {h : Heap} {a : Addr} {cls : Value} {d : Option Addr} {oe : Obj} {vs : Array Value} (e : h.get? a = some oe) (z : Zc cls d oe) (q : oe.data = .fields vs) : ObjOk P w H h a (ExH cls d a) :=
  ⟨⟨oe, vs, e, z, q⟩, ⟨oe, e⟩, fun _ _ ⟨o, v, q, r⟩ k => ⟨o, v, k o q, r⟩⟩
section
variable {X : Cx} {pins : List (Addr × Obj)} {σ σ0 : L2.St} {H H0 : Hp} {s sI : Shared} {a : Addr} {oe : Obj} {vs : Array Value} {o : HO}
/-- an object that came behind the entry is tracked from now on -/
theorem track (I : Inv X pins σ H s) (J : Inv X pins σ0 H0 sI) (hI : sI.heap.get? a = none) (hx : X.ex = []) (na : H a = none) (nL : a ≠ X.env.locals) (ha : s.heap.get? a = some oe) (hd : oe.data = .fields vs) (new : ObjOk X.prog X.w (upd H a o) s.heap a o) : Inv X pins σ (upd H a o) s := by
  have n0 : ∀ b u, X.s_0.heap.get? b = some u → b ≠ a := by
    intro b u e z
    subst z
    obtain ⟨u2, q⟩ := J.base.there b u e (by rw [hx]; exact fun z => nomatch z)
    rw [hI] at q
    cases q
  have nN : ∀ {b : Addr} {u : HO}, H b = some u → b ≠ a := fun e => ne_of_none e na
  have bs := I.base
  refine ⟨I.ok, I.os, I.bare, ⟨bs.keep, bs.slot, ?_, bs.there, ?_, ?_, ?_⟩, I.loc, I.cell, ?_, ?_, ?_, ?_, I.len⟩
  · intro b u e n q
    rw [upd_ne (n0 b u e)]
    exact bs.free b u e n q
  · intro b xs e
    have q := bs.tups b xs e
    rw [upd_ne (nN q)]
    exact q
  · intro b ob u e
    have q := bs.frzs b ob u e
    rw [upd_ne (nN q)]
    exact q
  · intro b ps e
    obtain ⟨m, q⟩ := bs.tbls b ps e
    exact ⟨m, by rw [upd_ne (nN q)]; exact q⟩
  · rw [upd_ne nL.symm]
    exact I.free
  · intro x c e
    have nc : c ≠ a := by
      intro z
      subst z
      obtain ⟨v, oc, e1, e2⟩ := I.cell x c e
      rw [ha] at e1
      cases e1
      rw [hd] at e2
      cases e2
    rw [upd_ne nc]
    exact I.freeC x c e
  · intro p hp
    have np : p.1 ≠ a := by
      intro z
      have q := (J.pin p hp).1
      rw [z, hI] at q
      cases q
    obtain ⟨e, n, r⟩ := I.pin p hp
    exact ⟨e, by rw [upd_ne np]; exact n, r⟩
  · intro b u e
    by_cases hb : b = a
    · subst hb
      rw [upd_same] at e
      cases e
      exact new
    · rw [upd_ne hb] at e
      refine (I.hok b u e).stay (fun c v _ q => q) (fun c q => ?_) (fun c xs q => ?_)
      · rw [upd_ne (nN q)]
        exact q
      · rw [upd_ne (nN q)]
        exact q
end
theorem fly_keeps {B h h' : Heap} {l : List Env} {a : Addr} {Z : Obj → Prop} (x : HandSPX.FlyingZ B l a Z h) (k : ∀ b o, h.get? b = some o → h'.get? b = some o) : HandSPX.FlyingZ B l a Z h' := by
  obtain ⟨x1, x2, x3, oe, vs, T, oT, ts, e1, e2, e3, e4, e5, e6, e7, e8, e9⟩ := x
  exact ⟨fun b o e => k b o (x1 b o e), x2, x3.of_keeps (fun b o e _ => ⟨o, k b o e, rfl⟩), oe, vs, T, oT, ts, k _ _ e1, e2, e3, e4, e5, e6, k _ _ e7, e8, e9⟩
/-- the clause's test takes the exceptions whose class has m -/
def Tests (X : Cx) (t : Expr) (m : Value → Prop) : Prop :=
  ∀ (a : Addr) (oe : Obj) (pn pins : List (Addr × Obj)) (σ : L2.St) (H : Hp) (s : Shared) (cls : Value) (Q : Value → Shared → Prop) (E : Value → Shared → Prop), Inv (X.suite a ((a, oe) :: pn)) pins σ H s → s.heap.get? a = some oe → oe.cls = cls → m cls →
    (∀ (c : Value) (h' : Heap), (∀ b o, s.heap.get? b = some o → h'.get? b = some o) → PySem.W.Looks (model X.prog X.w) h' (excMatches (.ref a) c) true → Q c { s with heap := h' }) → wpAny (model X.prog X.w) (X.A.mark (some (.ref a))) (eval t X.env) Q E s
theorem ld_nm {X : Cx} {x : Str} {c : Value} {pins : List (Addr × Obj)} {σ : L2.St} {H : Hp} {s : Shared} {Q : Value → Shared → Prop} {E : Value → Shared → Prop} {p : Pos} (I : Inv X pins σ H s) (hc : Names X x c) (q : Q c s) : wpAny (model X.prog X.w) X.A (eval (.Name x p) X.env) Q E s := by
  obtain ⟨g, nd, h | ⟨h1, h2, h3⟩⟩ := hc
  · exact ld_glob I g h q nd
  · exact ld_blt I g h1 h2 q h3 nd
theorem ty_looks {P : Program} {w : World} {h : Heap} {a : Addr} {oe : Obj} {cls : Value} (e : h.get? a = some oe) (c : oe.cls = cls) : PySem.W.Looks (model P w) h (typeOf (.ref a)) cls := by
  intro A Q E s k q
  exact wpAny_typeOf_ref (k _ _ e) (by rw [c]; exact q)
theorem tests_one {X : Cx} {x : Str} {c : Value} {p : Pos} (hc : Names X x c) : Tests X (.Name x p) fun cls => PySem.W.exmOne X.K cls c = some true := by
  intro a oe pn pins σ H s cls Q E I ha hcl hm k
  exact ld_nm (X := X.suite a ((a, oe) :: pn)) I hc (k c s.heap (fun _ _ z => z) (PySem.W.exm_one I.kIn (ty_looks ha hcl) hm))
theorem tests_two {X : Cx} {x1 x2 : Str} {c1 c2 : Value} {p1 p2 pos : Pos} {u} (h1 : Names X x1 c1) (h2 : Names X x2 c2) : Tests X (.Tuple [.Name x1 p1, .Name x2 p2] u pos) fun cls => PySem.W.exmAny X.K cls [c1, c2] = some true := by
  intro a oe pn pins σ H s cls Q E I ha hcl hm k
  refine wpAny_Tuple_spliced ?_
  refine Calls.spliced_cons (ld_nm (X := X.suite a ((a, oe) :: pn)) I h1 ?_)
  refine Calls.spliced_cons (ld_nm (X := X.suite a ((a, oe) :: pn)) I h2 (Calls.spliced_nil ⟨by show 2 ≤ sizeLine; decide, ?_⟩))
  have hk : ∀ b o, s.heap.get? b = some o → (s.heap.push { cls := .type "tuple", data := .seq [c1, c2].toArray }).get? b = some o := fun b o e => Heap.get?_push_of_some _ e
  refine k (.ref s.heap.objs.size) _ hk ?_
  exact PySem.W.exm_tup2 (fun b o e => hk b o (I.kIn b o e)) (ty_looks (hk _ _ ha) hcl) (Heap.get?_push_size _ rfl) hm
/-- what 'except .. as n: v = n' wishes of an exception of the body: it is taken, and kept in slot j; slot i, n's, is empty behind it -/
def wHeld (m : Value → Prop) (i j : Nat) (D : Ends) : WX := fun cls d σ H => m cls ∧ ∀ a, H a = none → D.nx (((σ.set i (some (.ref a))).set j (some (.ref a))).set i none) (upd H a (ExH cls d a))
section
variable {X : Cx} {n v : Str} {i j : Nat} {t : Expr} {m : Value → Prop} {body : List Stmt} {pos pos' p1 p2 p3 : Pos} {tb : WX → TS}
theorem ps_try_held (hs : X.stack = X.env :: X.outer) (hf : X.env.frame = some X.env.locals) (hN : X.N.Nodup) (hi : X.N[i]? = some n) (hj : X.N[j]? = some v) (hln : X.env.kindOf n = some .local) (hlv : X.env.kindOf v = some .local) (hx : X.ex = []) (ht : Tests X t m)
    (hb : ∀ (W : WX) (pn : List (Addr × Obj)) (xe : Value → Shared → Prop), Takes (X.tr pn xe) W → PassesOwn (model X.prog X.w) X.A X.env xe → PSs (X.tr pn xe) body (tb W))
    (hsu : ∀ (a : Addr) (oe : Obj) (pn : List (Addr × Obj)), PSs (X.suite a ((a, oe) :: pn)) [.Assign [.Name v p1] (.Name n p2) p3] (tAsg (tVar i) (gName j))) :
    PS X (.Try body [.ExceptHandler (some t) (some n) [.Assign [.Name v p1] (.Name n p2) p3] pos'] [] [] pos) (fun D σ H => tb (wHeld m i j D) D σ H) := by
  constructor
  intro pins s σ H D I h
  have ok := I.ok
  have frm : X.A.frames = some (X.env :: X.outer) := ok.frames.trans (congrArg some hs)
  have body_ := hb (wHeld m i j D) (X.pn ++ pins) (fun e s₁ => wpAny (model X.prog X.w) X.A (noteFrame e X.env) (fun _ s₂ => wpAny (model X.prog X.w) X.A (setFlight e none) (fun _ s₃ => wpAny (model X.prog X.w) X.A (handleBy e X.env [.ExceptHandler (some t) (some n) [.Assign [.Name v p1] (.Name n p2) p3] pos']) (SP X pins D) X.xe s₃) X.xe s₂) X.xe s₁) ?caught PassesOwn.looking
  · refine wpAny_Try_except (wpAny_mono (body_.run [] s σ H D (I.toTry _) h) ?_ fun _ _ z => z)
    intro f s1 hsp
    match f, hsp with
    | .next, ⟨σ', H', J', q⟩ => exact wpAny_execs_nil ⟨σ', H', J'.ofTry ok, q⟩
    | .brk, ⟨σ', H', J', q⟩ => exact ⟨σ', H', J'.ofTry ok, q⟩
    | .cont, ⟨σ', H', J', q⟩ => exact ⟨σ', H', J'.ofTry ok, q⟩
    | .ret u, ⟨v, σ', H', J', r, q⟩ => exact ⟨v, σ', H', J'.ofTry ok, r, q⟩
  case caught =>
    rintro u s' ⟨a, B, sI, pins', σ', H', cls, d, rfl, J', nb, up, sky, na, os, ag, hm, hk⟩
    have J : Inv X pins σ' H' sI := J'.ofTry ok
    have sk2 : Sky B (X.env :: X.outer) a (Zc cls d) X.env.locals s'.heap := hs ▸ sky
    show wpAny (model X.prog X.w) X.A (noteFrame (.ref a) X.env) _ _ _
    refine Sky.land Zc.steady frm hf sk2 fun h3 fl3 up3 => ?_
    have notF : ∀ {g : Heap}, HandSPX.FlyingZ B (X.env :: X.outer) a (Zc cls d) g → a ∉ frs (X.env :: X.outer) := by
      intro g fl hmem
      obtain ⟨o1, v1, e1, _, e3⟩ := fl.there
      obtain ⟨_, o2, e2, hn2⟩ := fl.2.2.1.mem hmem
      rw [e1] at e2
      cases e2
      exact hn2 _ e3
    have nfr := notF fl3
    have nL : a ≠ X.env.locals := by
      intro z
      exact nfr (List.mem_filterMap.mpr ⟨X.env, List.mem_cons_self, hf.trans (congrArg some z.symm)⟩)
    have nF : a ∉ X.fs := by
      intro z
      obtain ⟨e, he, q⟩ := List.mem_filterMap.mp z
      exact nfr (List.mem_filterMap.mpr ⟨e, List.mem_cons_of_mem _ he, q⟩)
    have nI : sI.heap.get? a = none := by
      cases e : sI.heap.get? a with
      | none => rfl
      | some o =>
        have q := nb a o e (by rw [hs]; exact nfr)
        rw [fl3.2.1] at q
        cases q
    obtain ⟨oe3, vs3, he3, hz3, hd3⟩ := fl3.there
    have J3 : Inv X pins σ' H' { s' with heap := h3 } := J.landed nb fl3.1 (up.trans up3) os ag
    refine wpAny_handleBy_cons (codeAny_handlers_test ?_) (fun q => nomatch q)
    refine ht a oe3 _ _ _ _ _ cls _ _ (J3.suite he3 hd3 na nL nF) he3 hz3.1 hm fun c h' kp lk => lk.here ?_
    refine codeAny_handlers_suite_as (HandSPX.lands_againZ (fly_keeps fl3 kp) fun h4 fl4 up4 => ?_)
    have upA : sI.heap.UpToSlots h4 := ((up.trans up3).trans (Heap.UpToSlots.of_keeps kp)).trans up4
    have J4 : Inv X pins σ' H' { s' with heap := h4 } := J.landed nb fl4.1 upA os ag
    obtain ⟨oe4, vs4, he4, hz4, hd4⟩ := fl4.there
    refine store_ok (X := X.suite a ((a, oe4) :: (X.pn ++ pins))) (v := .ref a) (J4.suite he4 hd4 na nL nF) hN hi (.inl hln) rfl (fun s5 S5 => ?_) (.inr hln)
    have hlen : i < σ'.length := by
      rw [J.len]
      exact (List.getElem?_eq_some_iff.mp hi).1
    refine wpAny_mono ((hsu a oe4 (X.pn ++ pins)).run [] s5 _ H' { nx := fun σ6 H6 => σ6 = (σ'.set i (some (.ref a))).set j (some (.ref a)) ∧ H6 = H', rt := fun _ _ => False } S5 ?_) (fun f s6 hsp => ?_) (fun _ _ z => False.elim z)
    · exact ⟨.ref a, by simp [hlen], rfl, rfl⟩
    match f, hsp with
    | .next, ⟨σ6, H6, S6, e6, e7⟩ =>
      subst e6 e7
      refine gone_ok (X := X.suite a ((a, oe4) :: (X.pn ++ pins))) S6 hN hi hln fun s7 S7 => ?_
      have ha7 := (S7.pin (a, oe4) (List.mem_append_left _ List.mem_cons_self)).1
      exact ⟨_, _, track (S7.unsuite ok) J nI hx na nL ha7 hd4 (exH_ok ha7 hz4 hd4), hk a na⟩
    | .brk, ⟨_, _, _, z⟩ => exact z.elim
    | .cont, ⟨_, _, _, z⟩ => exact z.elim
    | .ret u, ⟨_, _, _, _, _, z⟩ => exact z.elim
end
end HopR

set_option Elab.async false
set_option linter.all false
set_option maxRecDepth 100000
namespace HopR
open PySem PySem.Spec PyProof.Rows L2
/-! ### isinstance of a kept exception without a dict -/
section
variable {X : Cx}
theorem held_at {pins : List (Addr × Obj)} {σ : L2.St} {H : Hp} {s : Shared} {a D : Addr} (I : Inv X pins σ H s) (ha : H a = some (ExH (.ref D) none a)) : ∃ oe, PySem.W.InstAt s.heap a oe D none := by
  obtain ⟨⟨oe, vs, e, ⟨z1, z2⟩, q⟩, _, _⟩ := I.hok a _ ha
  obtain ⟨oc, od, oda, osl⟩ := oe
  dsimp only at z1 z2 q
  subst z1 z2 q
  exact ⟨_, e, rfl, rfl, trivial⟩
/-- isinstance(kept, c) -/
def rIsH (K : PySem.W.Frag) : List V → Hp → VK → Prop := fun xs H Q => ∃ (a D : Addr) (c : V) (cv : Value) (b : Bool), xs = [.ref a, c] ∧ H a = some (ExH (.ref D) none a) ∧ ExcC K D ∧ ClsV c cv ∧ PySem.W.kitOne K (.ref D) cv = some b ∧ Q (.bl b) H
theorem call_isH : CallR X (.builtin "isinstance") (rIsH X.K) := by
  rintro pins s σ H xs us Q I r ⟨a, D, c, cv, b, rfl, ha, C, kc, e, q⟩
  obtain ⟨u1, u2, rfl, r1, r2⟩ := vals2 r
  obtain rfl := kc.eq r2
  cases (show u1 = Value.ref a from r1)
  obtain ⟨oe, J⟩ := held_at I ha
  exact PySem.W.kia_one (PySem.W.handS_kitx_exc C.hg C.hk C.hs C.hd C.ha C.hn C.ht C.hm) I.kIn J e (fun z => nomatch z) fun tk => ⟨.bl b, H, I.tok tk, rfl, q⟩
/-- isinstance(kept, (c1, c2, ..)) -/
def rIsHT (K : PySem.W.Frag) : List V → Hp → VK → Prop := fun xs H Q => ∃ (a D tp : Addr) (cs : List V) (ws : List Value) (b : Bool), xs = [.ref a, .ref tp] ∧ H a = some (ExH (.ref D) none a) ∧ ExcC K D ∧ H tp = some (.tup cs) ∧ Paired ClsV cs ws ∧ PySem.W.kitAny K (.ref D) ws = some b ∧ Q (.bl b) H
theorem call_isHT : CallR X (.builtin "isinstance") (rIsHT X.K) := by
  rintro pins s σ H xs us Q I r ⟨a, D, tp, cs, ws, b, rfl, ha, C, ht, kc, e, q⟩
  obtain ⟨u1, u2, rfl, r1, r2⟩ := vals2 r
  cases (show u1 = Value.ref a from r1)
  cases (show u2 = Value.ref tp from r2)
  obtain ⟨oe, J⟩ := held_at I ha
  have hT : ObjOk X.prog X.w H s.heap tp (.tup cs) := I.hok tp _ ht
  obtain ⟨_, its, rv, ⟨oc, od, dt, osl⟩, g1, g2, n, g3⟩ := hT
  obtain rfl := ClsV.all kc rv
  simp only at g2 g3
  subst g2 g3
  exact PySem.W.kia_tup (PySem.W.handS_kitx_exc C.hg C.hk C.hs C.hd C.ha C.hn C.ht C.hm) I.kIn J g1 e (fun z => nomatch z) fun tk => ⟨.bl b, H, I.tok tk, rfl, q⟩
end
/-! ### things that are whole numbers or not -/
/-- x is of a built-in type that is no whole number's -/
def Odd (K : PySem.W.Frag) (H : Hp) (x : V) : Prop := ∃ t bI, TyX K H x t ∧ PySem.W.kitOne K t (.type "int") = some bI ∧ (bI = true → PySem.W.kitOne K t (.type "bool") = some true)
theorem odd_non {K : PySem.W.Frag} {H : Hp} : Odd K H .non := ⟨_, false, .base .non, kit_ty (by decide +kernel), fun z => nomatch z⟩
theorem odd_bl {K : PySem.W.Frag} {H : Hp} {b : Bool} : Odd K H (.bl b) := ⟨_, true, .base (.bl b), kit_ty (by decide +kernel), fun _ => kit_ty (by decide +kernel)⟩
theorem odd_str {K : PySem.W.Frag} {H : Hp} {z : Str} : Odd K H (.str z) := ⟨_, false, .base (.str z), kit_ty (by decide +kernel), fun z => nomatch z⟩
theorem odd_lst {K : PySem.W.Frag} {H : Hp} {a : Addr} {xs : List V} (e : H a = some (.lst xs)) : Odd K H (.ref a) := ⟨_, false, .base (.lst e), kit_ty (by decide +kernel), fun z => nomatch z⟩
theorem odd_tup {K : PySem.W.Frag} {H : Hp} {a : Addr} {xs : List V} (e : H a = some (.tup xs)) : Odd K H (.ref a) := ⟨_, false, .base (.tup e), kit_ty (by decide +kernel), fun z => nomatch z⟩
theorem odd_dK {K : PySem.W.Frag} {H : Hp} {a : Addr} {xs : List (Key × V)} (e : H a = some (.dK xs)) : Odd K H (.ref a) := ⟨_, false, .base (.dK e), kit_ty (by decide +kernel), fun z => nomatch z⟩
end HopR

set_option Elab.async false
set_option linter.all false
set_option maxRecDepth 100000
namespace HopR
open PySem L2
theorem same_upd {H : Hp} {p : Addr} {o : HO} (h : H p = none) : Same H (upd H p o) := fun b x e => by
  rw [upd_ne (ne_of_none e h)]
  exact e
theorem same_new {H H1 : Hp} {p : Addr} {o : HO} (h : H p = none) (s : Same H H1) : Same H (upd H1 p o) := fun b x e => by
  rw [upd_ne (ne_of_none e h)]
  exact s _ _ e
/-- a def of the text, its binding, where its name leads -/
structure Fn (K : PySem.W.Frag) (mg : Str → Option Value) (x : Str) (st : Stmt) (ps : List Str) (f : Addr) (fd : FuncData) : Prop where
  F : Fun K x x st f fd
  b : Binds K fd ps []
  g : mg x = some (.ref f)
end HopR

set_option Elab.async false
set_option linter.all false
set_option maxRecDepth 100000
namespace HopR
open PySem L2
/-! ### classes of refusals -/
theorem kit_own {K : PySem.W.Frag} {D C : Addr} {b : Bool} (ne : D ≠ C) (hd : PySem.W.hasDictIn K C = true) (ht : PySem.W.typeIn K (.ref C) = some (.type "type")) (h : PySem.W.subIn K (.ref D) (.ref C) = some b) : PySem.W.kitOne K (.ref D) (.ref C) = some b := by
  obtain ⟨cd, hc, _⟩ := PySem.W.any_some hd
  have e1 : ((Value.ref D == Value.ref C) = true) = False := by
    rw [eq_iff_iff]
    exact ⟨fun z => ne (Value.ref.inj (beq_iff_eq.mp z)), False.elim⟩
  have e2 : ((PySem.W.clsIn K C).isSome && PySem.W.typeIn K (.ref C) == some (.type "type")) = true := by rw [hc, ht] <;> rfl
  unfold PySem.W.kitOne
  rw [if_neg (by rw [e1]; exact id)]
  show (if ((PySem.W.clsIn K C).isSome && PySem.W.typeIn K (.ref C) == some (.type "type")) = true then PySem.W.subIn K (.ref D) (.ref C) else none) = some b
  rw [if_pos e2]
  exact h
theorem kit_me {K : PySem.W.Frag} {D : Addr} : PySem.W.kitOne K (.ref D) (.ref D) = some true := by
  unfold PySem.W.kitOne
  rw [if_pos (by simp)]
theorem kit_blt {K : PySem.W.Frag} {D : Addr} {T : String} {b : Bool} (m : PySem.W.kitMeta T = true) (h : PySem.W.subIn K (.ref D) (.type T) = some b) : PySem.W.kitOne K (.ref D) (.type T) = some b := by
  have e1 : ¬ ((Value.ref D == Value.type T) = true) := fun z => nomatch (beq_iff_eq.mp z)
  unfold PySem.W.kitOne
  rw [if_neg e1]
  show (if PySem.W.kitMeta T = true then PySem.W.subIn K (.ref D) (.type T) else none) = some b
  rw [if_pos m]
  exact h
theorem kitAny_cons {K : PySem.W.Frag} {t c : Value} {r : List Value} (h : PySem.W.kitOne K t c = some false) (q : PySem.W.kitAny K t r = some false) : PySem.W.kitAny K t (c :: r) = some false := by
  simp only [PySem.W.kitAny, h, q]
theorem kitAny_nil {K : PySem.W.Frag} {t : Value} : PySem.W.kitAny K t [] = some false := by simp only [PySem.W.kitAny]
theorem exmAny2 {K : PySem.W.Frag} {t c1 c2 : Value} {b1 b2 : Bool} (h1 : PySem.W.exmOne K t c1 = some b1) (h2 : PySem.W.exmOne K t c2 = some b2) : PySem.W.exmAny K t [c1, c2] = some (b1 || b2) := by
  simp only [PySem.W.exmAny, h1, h2, Bool.or_false]
/-- an own exception class, as its instances are made and asked -/
structure Xc (K : PySem.W.Frag) (D : Addr) (bm : List Value) (nw : String) : Prop where
  x : PySem.W.excIn K D bm nw = true
  k : PySem.W.keepIn K (.ref D) = true
  be : PySem.W.subIn K (.ref D) (.type "BaseException") = some true
  ty : PySem.W.typeIn K (.ref D) = some (.type "type")
  c : ExcC K D
abbrev bmV : List Value := [.type "ValueError", .type "Exception", .type "BaseException", .type "object"]
abbrev bmZ : List Value := [.type "ZeroDivisionError", .type "ArithmeticError", .type "Exception", .type "BaseException", .type "object"]
/-! ### things by their kind -/
theorem tyx_same {K : PySem.W.Frag} {H H' : Hp} {x : V} {t : Value} (s : Same H H') (ty : TyX K H x t) : TyX K H' x t := by
  cases ty with
  | base h =>
    cases h with
    | non => exact .base .non
    | bl x => exact .base (.bl x)
    | int i => exact .base (.int i)
    | str x => exact .base (.str x)
    | flt x => exact .base (.flt x)
    | lst e => exact .base (.lst (s _ _ e))
    | frz e => exact .base (.frz (s _ _ e))
    | tup e => exact .base (.tup (s _ _ e))
    | dK e => exact .base (.dK (s _ _ e))
    | dT e => exact .base (.dT (s _ _ e))
    | ins e a b c d f => exact .base (.ins (s _ _ e) a b c d f)
  | byt b => exact .byt b
  | set e => exact .set (s _ _ e)
  | kList e c => exact .kList e c
  | kTuple e c => exact .kTuple e c
  | kDict e c => exact .kDict e c
  | fTuple e => exact .fTuple (s _ _ e)
  | fDict e => exact .fDict (s _ _ e)
theorem odd_same {K : PySem.W.Frag} {H H' : Hp} {x : V} (s : Same H H') (h : Odd K H x) : Odd K H' x := by
  obtain ⟨t, b, ty, k⟩ := h
  exact ⟨t, b, tyx_same s ty, k⟩
/-- x is no text -/
def NoTxt (K : PySem.W.Frag) (H : Hp) (x : V) : Prop := ∃ t, TyX K H x t ∧ PySem.W.kitOne K t (.type "str") = some false
theorem notxt_non {K : PySem.W.Frag} {H : Hp} : NoTxt K H .non := ⟨_, .base .non, kit_ty (by decide +kernel)⟩
theorem notxt_bl {K : PySem.W.Frag} {H : Hp} {b : Bool} : NoTxt K H (.bl b) := ⟨_, .base (.bl b), kit_ty (by decide +kernel)⟩
theorem notxt_int {K : PySem.W.Frag} {H : Hp} {i : Int} : NoTxt K H (.int i) := ⟨_, .base (.int i), kit_ty (by decide +kernel)⟩
theorem notxt_lst {K : PySem.W.Frag} {H : Hp} {a : Addr} {xs : List V} (e : H a = some (.lst xs)) : NoTxt K H (.ref a) := ⟨_, .base (.lst e), kit_ty (by decide +kernel)⟩
theorem notxt_tup {K : PySem.W.Frag} {H : Hp} {a : Addr} {xs : List V} (e : H a = some (.tup xs)) : NoTxt K H (.ref a) := ⟨_, .base (.tup e), kit_ty (by decide +kernel)⟩
theorem notxt_dK {K : PySem.W.Frag} {H : Hp} {a : Addr} {xs : List (Key × V)} (e : H a = some (.dK xs)) : NoTxt K H (.ref a) := ⟨_, .base (.dK e), kit_ty (by decide +kernel)⟩
theorem notxt_same {K : PySem.W.Frag} {H H' : Hp} {x : V} (s : Same H H') (h : NoTxt K H x) : NoTxt K H' x := by
  obtain ⟨t, ty, k⟩ := h
  exact ⟨t, tyx_same s ty, k⟩
/-! ### signs in the written dict of both signs -/
/-- the sign is a bead or a free place -/
def okc (c : Nat) : Bool := decide (c = 111) || decide (c = 46)
theorem okc_cd (b : Bool) : okc (cd b) = true := by cases b <;> rfl
def keyText : Value → Option Str
  | .str s _ => some s
  | _ => none
theorem keyText_str {v : Value} {s : Str} (h : keyText v = some s) : ∃ t, v = .str s t := by
  cases v <;> simp [keyText] at h
  exact ⟨_, by rw [h]⟩
def keysAre (es : Array DictEntry) : Prop := es.toList.map (fun e => keyText e.key) = [some ("o" : Str), some ("." : Str)]
theorem sign_in {K : PySem.W.Frag} {d : Addr} {es : Array DictEntry} {n : Nat} (l : K.lookup d = some ⟨.type "dict", none, .dict es n, #[]⟩) (hk : keysAre es) (c : Nat) : ∃ r, PySem.W.nsIn K d ⟨#[c]⟩ = some r ∧ r.isSome = okc c := by
  unfold keysAre at hk
  obtain ⟨e1, e2, hes⟩ : ∃ e1 e2, es.toList = [e1, e2] := by
    have hl := congrArg List.length hk
    rw [List.length_map] at hl
    match h : es.toList, hl with
    | [e1, e2], _ => exact ⟨e1, e2, rfl⟩
  rw [hes] at hk
  obtain ⟨t1, k1⟩ := keyText_str (List.cons.inj hk).1
  obtain ⟨t2, k2⟩ := keyText_str (List.cons.inj (List.cons.inj hk).2).1
  have i1 : e1.key.isStr ⟨#[c]⟩ = decide (c = 111) := by
    rw [k1]
    by_cases h : c = 111
    · subst h
      show (("o" : Str) == ⟨#[111]⟩) = true
      decide +kernel
    · rw [decide_eq_false h]
      have : ¬ (("o" : Str) = ⟨#[c]⟩) := fun z => by
        have z2 := congrArg (fun q : Str => q.cps.toList) z
        have z3 : [111] = [c] := z2
        exact h (List.cons.inj z3).1.symm
      simp [Value.isStr, this]
  have i2 : e2.key.isStr ⟨#[c]⟩ = decide (c = 46) := by
    rw [k2]
    by_cases h : c = 46
    · subst h
      show (("." : Str) == ⟨#[46]⟩) = true
      decide +kernel
    · rw [decide_eq_false h]
      have : ¬ (("." : Str) = ⟨#[c]⟩) := fun z => by
        have z2 := congrArg (fun q : Str => q.cps.toList) z
        have z3 : [46] = [c] := z2
        exact h (List.cons.inj z3).1.symm
      simp [Value.isStr, this]
  have r1 : e1.refKey = false := by unfold DictEntry.refKey; rw [k1]
  have r2 : e2.refKey = false := by unfold DictEntry.refKey; rw [k2]
  unfold PySem.W.nsIn
  rw [l]
  simp only [hes, List.find?, i1, i2, List.any_cons, r1, r2, List.any_nil, Bool.or_false]
  unfold okc
  by_cases h1 : c = 111
  · simp [h1]
  · by_cases h2 : c = 46
    · simp [h2]
    · simp [h1, h2]
/-- x is no row: no text, or one that is too short, too long, or has another sign -/
def NotRow (K : PySem.W.Frag) (H : Hp) (x : V) : Prop := NoTxt K H x ∨ ∃ z : Str, x = .str z ∧ z.length ≤ 10000 ∧ (z.length = 0 ∨ 30 < z.length ∨ ∃ c ∈ z.cps.toList, okc c = false)
def NotWord (K : PySem.W.Frag) (H : Hp) (x : V) : Prop := NoTxt K H x ∨ ∃ z : Str, x = .str z ∧ z.length ≤ 10000 ∧ (30 < z.length ∨ ∃ c ∈ z.cps.toList, okc c = false)
theorem notrow_same {K : PySem.W.Frag} {H H' : Hp} {x : V} (s : Same H H') (h : NotRow K H x) : NotRow K H' x := h.imp (notxt_same s) id
theorem notword_same {K : PySem.W.Frag} {H H' : Hp} {x : V} (s : Same H H') (h : NotWord K H x) : NotWord K H' x := h.imp (notxt_same s) id
theorem notword_row {K : PySem.W.Frag} {H : Hp} {x : V} (h : NotWord K H x) : NotRow K H x := h.imp id fun ⟨z, e, l, q⟩ => ⟨z, e, l, .inr q⟩
end HopR

set_option Elab.async false
set_option linter.all false
set_option maxRecDepth 100000
namespace HopR
open PySem L2
/-! ### words: where they can be shortened, and to what -/
def shp (bs : List Bool) (i : Nat) : Bool := decide ((bs.drop i).take 2 = [true, false])
def plc (bs : List Bool) : List Nat := (List.range bs.length).filter (shp bs)
def shA (bs : List Bool) (k : Nat) : List Bool := bs.take (k + 1) ++ bs.drop (k + 2)
def shB (bs : List Bool) (k : Nat) : List Bool := bs.take k ++ bs.drop (k + 1)
theorem shp_split {bs : List Bool} {i : Nat} (h : shp bs i = true) : bs = bs.take i ++ true :: false :: bs.drop (i + 2) ∧ i + 2 ≤ bs.length := by
  have h := of_decide_eq_true h
  have e : bs.drop i = [true, false] ++ (bs.drop i).drop 2 := by
    conv => lhs; rw [← List.take_append_drop 2 (bs.drop i), h]
  rw [List.drop_drop] at e
  have hl := congrArg List.length e
  rw [List.length_drop, List.length_append, List.length_drop] at hl
  have hl2 : bs.length - i = 2 + (bs.length - (i + 2)) := hl
  refine ⟨?_, by omega⟩
  conv => lhs; rw [← List.take_append_drop i bs, e]
  rfl
theorem plc_shp {bs : List Bool} {k : Nat} (h : k ∈ plc bs) : shp bs k = true ∧ k < bs.length := ⟨(List.mem_filter.mp h).2, List.mem_range.mp (List.mem_filter.mp h).1⟩
theorem plc_few (bs : List Bool) : (plc bs).length ≤ bs.length := by
  refine Nat.le_trans (List.length_filter_le _ _) ?_
  rw [List.length_range]
  exact Nat.le_refl _
theorem shA_len {bs : List Bool} {k : Nat} (h : k + 2 ≤ bs.length) : (shA bs k).length + 1 = bs.length := by
  unfold shA
  rw [List.length_append, List.length_take, List.length_drop]
  omega
theorem shB_len {bs : List Bool} {k : Nat} (h : k + 2 ≤ bs.length) : (shB bs k).length + 1 = bs.length := by
  unfold shB
  rw [List.length_append, List.length_take, List.length_drop]
  omega
theorem shA_eq {bs : List Bool} {k : Nat} (h : k ∈ plc bs) : shA bs k = bs.take k ++ [true] ++ bs.drop (k + 2) := by
  obtain ⟨e, hl⟩ := shp_split (plc_shp h).1
  unfold shA
  have e2 : bs.take (k + 1) = bs.take k ++ [true] := by
    rw [List.take_add_one]
    congr 1
    rw [e, List.getElem?_append_right (by rw [List.length_take]; omega), List.length_take, show k - min k bs.length = 0 by omega]
    rfl
  rw [e2]
theorem shB_eq {bs : List Bool} {k : Nat} (h : k ∈ plc bs) : shB bs k = bs.take k ++ [false] ++ bs.drop (k + 2) := by
  obtain ⟨e, hl⟩ := shp_split (plc_shp h).1
  unfold shB
  rw [List.append_assoc]
  congr 1
  have e3 : bs.drop (k + 1) = false :: bs.drop (k + 2) := by
    have h1 : k + 1 < bs.length := by omega
    rw [List.drop_eq_getElem_cons h1]
    congr 1
    have h2 : bs[k + 1]? = some false := by
      rw [e, List.getElem?_append_right (by rw [List.length_take]; omega), List.length_take, show k + 1 - min k bs.length = 1 by omega]
      rfl
    rw [List.getElem?_eq_getElem h1] at h2
    exact Option.some.inj h2
  rw [e3]
  rfl
/-! ### words and other things -/
def isRowB (z : Str) : Bool := decide (1 ≤ z.length) && (decide (z.length ≤ 30) && z.cps.toList.all okc)
def isWordB (z : Str) : Bool := decide (z.length ≤ 30) && z.cps.toList.all okc
/-- whether x is a row -/
def RowB (K : PySem.W.Frag) (H : Hp) (x : V) (b : Bool) : Prop := (NoTxt K H x ∧ b = false) ∨ ∃ z : Str, x = .str z ∧ z.length ≤ 10000 ∧ b = isRowB z
/-- whether x is a word -/
def WordB (K : PySem.W.Frag) (H : Hp) (x : V) (b : Bool) : Prop := (NoTxt K H x ∧ b = false) ∨ ∃ z : Str, x = .str z ∧ z.length ≤ 10000 ∧ b = isWordB z
theorem wordB_same {K : PySem.W.Frag} {H H' : Hp} {x : V} {b : Bool} (s : Same H H') (h : WordB K H x b) : WordB K H' x b := h.imp (fun ⟨q, e⟩ => ⟨notxt_same s q, e⟩) id
theorem rowB_same {K : PySem.W.Frag} {H H' : Hp} {x : V} {b : Bool} (s : Same H H') (h : RowB K H x b) : RowB K H' x b := h.imp (fun ⟨q, e⟩ => ⟨notxt_same s q, e⟩) id
theorem okc_tx (bs : List Bool) : (tx bs).cps.toList.all okc = true := by
  rw [tx_list, List.all_map, List.all_eq_true]
  exact fun b _ => okc_cd b
theorem isWord_tx {bs : List Bool} (h : bs.length ≤ 30) : isWordB (tx bs) = true := by
  unfold isWordB
  rw [okc_tx, tx_len, decide_eq_true h]
  rfl
theorem isRow_tx {bs : List Bool} (h1 : 1 ≤ bs.length) (h : bs.length ≤ 30) : isRowB (tx bs) = true := by
  unfold isRowB
  rw [okc_tx, tx_len, decide_eq_true h, decide_eq_true h1]
  rfl
theorem len0 {z : Str} (h : z.length = 0) : z = "" := by
  apply ext_str
  have : z.cps = #[] := Array.eq_empty_of_size_eq_zero h
  rw [this]
  rfl
/-- as the program tells it: a row, or the text without signs -/
theorem isWord_or (z : Str) : isWordB z = (isRowB z || decide (z = "")) := by
  unfold isWordB isRowB
  by_cases h : z.length = 0
  · rw [len0 h]
    decide +kernel
  · have ne : ¬ z = "" := fun e => h (by rw [e]; decide +kernel)
    rw [decide_eq_false ne, decide_eq_true (show 1 ≤ z.length by omega)]
    simp
/-- a spot at which the word of bs can't be shortened -/
def BadSpot (K : PySem.W.Frag) (H : Hp) (y : V) (ks : List Nat) : Prop := Odd K H y ∨ ∃ i : Int, y = .int i ∧ ∀ k ∈ ks, i ≠ (k : Int)
theorem badspot_same {K : PySem.W.Frag} {H H' : Hp} {y : V} {ks : List Nat} (s : Same H H') (h : BadSpot K H y ks) : BadSpot K H' y ks := h.imp (odd_same s) id
theorem inV_in {ks : List Nat} {k : Nat} (h : k ∈ ks) : inV (wv k) (ks.map wv) = true := by
  unfold inV
  rw [List.any_eq_true]
  exact ⟨wv k, List.mem_map_of_mem h, by unfold wv eqV; simp⟩
theorem inV_no {ks : List Nat} {i : Int} (h : ∀ k ∈ ks, i ≠ (k : Int)) : inV (.int i) (ks.map wv) = false := by
  unfold inV
  rw [List.any_eq_false]
  intro x hx
  obtain ⟨k, hk, rfl⟩ := List.mem_map.mp hx
  unfold wv eqV
  simp
  have := h k hk
  omega
theorem flat_ks (ks : List Nat) : (ks.map wv).all flatV = true := by
  rw [List.all_eq_true]
  intro x hx
  obtain ⟨k, _, rfl⟩ := List.mem_map.mp hx
  rfl
theorem fit {m : Nat} (h : m ≤ 10000) : m ≤ sizeLine := Nat.le_trans h (by decide)
theorem fit' {m : Nat} (h : m ≤ 10000) : m < sizeLine := Nat.lt_of_le_of_lt h (by decide)
theorem tx_fit {bs : List Bool} (h : bs.length ≤ 10000) : (tx bs).length ≤ sizeLine := by
  rw [tx_len]
  exact fit h
theorem tx_nil : ("" : Str) = tx [] := by decide +kernel
theorem dec_str {a b : Str} {p : Prop} [Decidable p] (h : a = b ↔ p) : decide (V.str a = V.str b) = decide p := by
  by_cases q : p
  · rw [decide_eq_true q, decide_eq_true (by rw [h.mpr q])]
  · rw [decide_eq_false q, decide_eq_false fun z => q (h.mp (V.str.inj z))]
end HopR

set_option Elab.async false
set_option linter.all false
set_option maxRecDepth 100000
namespace HopR
open PySem L2
/-! ### the draws -/
def dval (left : Int) (k : Nat) (z : Int) : Int :=
  if (1000000000000000000 : Int) ≤ left then left % z
  else
    let small := left % 1000000000000000000
    let one := (small + 7 * (k : Int) + 1) * (48271 + 2 * (k : Int) * (k : Int)) % 2147483647
    let two := (small / 3 + 11 * (k : Int) + 5) * (39373 + 6 * (k : Int)) % 2147483629
    (one * two + one / 64) % z
def dleft (left : Int) (z : Int) : Int := if (1000000000000000000 : Int) ≤ left then left / z else left
def draws : Int → Nat → List Int → List Int
  | _, _, [] => []
  | left, k, z :: r => dval left k z :: draws (dleft left z) (k + 1) r
theorem draws_len : ∀ (zs : List Int) (c : Int) (k : Nat), (draws c k zs).length = zs.length
  | [], _, _ => rfl
  | z :: r, c, k => by
    show (draws (dleft c z) (k + 1) r).length + 1 = r.length + 1
    rw [draws_len r]
theorem dval_ok {c : Int} {k : Nat} {z : Int} (h : 0 < z) : 0 ≤ dval c k z ∧ dval c k z < z := by
  unfold dval
  split
  · exact ⟨Int.emod_nonneg _ (by omega), Int.emod_lt_of_pos _ h⟩
  · exact ⟨Int.emod_nonneg _ (by omega), Int.emod_lt_of_pos _ h⟩
theorem draws_ok : ∀ (zs : List Int) (c : Int) (k : Nat), (∀ z ∈ zs, 0 < z) → ∀ (i : Nat) (d z : Int), (draws c k zs)[i]? = some d → zs[i]? = some z → 0 ≤ d ∧ d < z
  | [], _, _, _, i, d, z, _, h => by simp at h
  | y :: r, c, k, hp, 0, d, z, h1, h2 => by
    have e1 : dval c k y = d := Option.some.inj h1
    have e2 : y = z := Option.some.inj h2
    subst e1 e2
    exact dval_ok (hp y (List.mem_cons_self ..))
  | y :: r, c, k, hp, i + 1, d, z, h1, h2 => draws_ok r _ _ (fun q hq => hp q (List.mem_cons_of_mem _ hq)) i d z h1 h2
/-- the size of a draw is one that is reckoned with -/
def SizeOk (z : Int) : Prop := 0 < z ∧ z < 18446744073709551616
def bits (cs : List Int) : List Bool := cs.map fun c => decide (c = 1)
theorem signs_rows : ∀ (ys : List Str), (∀ y ∈ ys, ∃ b, y = tx [b]) → ∃ bs : List Bool, ys = bs.map fun b => tx [b]
  | [], _ => ⟨[], rfl⟩
  | y :: r, h => by
    obtain ⟨b, e⟩ := h y (List.mem_cons_self ..)
    obtain ⟨bs, e2⟩ := signs_rows r fun z hz => h z (List.mem_cons_of_mem _ hz)
    exact ⟨b :: bs, by rw [e, e2]; rfl⟩
theorem dot_o (c : Int) (h0 : 0 ≤ c) (h2 : c < 2) : atI (".o" : Str).cps.toList c = some (cd (decide (c = 1))) := by
  have e : (".o" : Str).cps.toList = [46, 111] := by decide +kernel
  rw [e]
  rcases (show c = 0 ∨ c = 1 by omega) with rfl | rfl
  · decide
  · decide
/-- a row -/
def Row (bs : List Bool) : Prop := 1 ≤ bs.length ∧ bs.length ≤ 30
theorem row_size {bs : List Bool} (h : Row bs) : (tx bs).length ≤ sizeLine := tx_fit (Nat.le_trans h.2 (by decide))
theorem flat_rep {α : Type} (x : α) : ∀ m : Nat, (List.replicate m [x]).flatten = List.replicate m x
  | 0 => rfl
  | m + 1 => by
    rw [List.replicate_succ, List.flatten_cons, flat_rep x m]
    rfl
theorem rep_of (m : Nat) : repS "o." m = tx (List.replicate m [true, false]).flatten := by
  unfold repS tx
  have e : ("o." : Str).cps.toList = [true, false].map cd := by decide +kernel
  rw [e, List.map_flatten, List.map_replicate]
theorem rep_of_len (m : Nat) : (List.replicate m [true, false]).flatten.length = 2 * m := by
  rw [List.length_flatten, List.map_replicate, List.sum_replicate_nat]
  show m * 2 = 2 * m
  omega
def spDrawn (K : PySem.W.Frag) : Sp := fun vs H Q _ => ∃ (c : Int) (a : Addr) (zs : List Int), vs = [.int c, .ref a] ∧ SqL K H a (zs.map V.int) ∧ (∀ z ∈ zs, SizeOk z) ∧ zs.length ≤ 1000 ∧
  ∀ H' p, Same H H' → H p = none → H' p = some (.lst ((draws c 0 zs).map V.int)) → Q (.ref p) H'
def spCellH (K : PySem.W.Frag) : Sp := fun vs H Q _ => ∃ (a : Addr) (ns : List Int) (k : Nat), vs = [.ref a, .int (k : Int)] ∧ SqL K H a (ns.map V.int) ∧ ∀ c : Int, Q (.int c) H
def spLRow : Sp := fun vs H Q _ => ∃ (c : Int) (M : Nat), vs = [.int c, .int (M : Int)] ∧ 1 ≤ M ∧ M ≤ 30 ∧ ∀ H' bs, Same H H' → 1 ≤ bs.length → bs.length ≤ M → Q (.str (tx bs)) H'
end HopR

set_option Elab.async false
set_option linter.all false
set_option maxRecDepth 100000
namespace HopR
open PySem L2
/-- a list of draws by its places -/
theorem draws2 {c z0 z1 : Int} (h0 : 0 < z0) (h1 : 0 < z1) : ∃ d0 d1 : Int, draws c 0 [z0, z1] = [d0, d1] ∧ (0 ≤ d0 ∧ d0 < z0) ∧ (0 ≤ d1 ∧ d1 < z1) := by
  have hl := draws_len [z0, z1] c 0
  match hd : draws c 0 [z0, z1], hl with
  | [d0, d1], _ =>
    have hp : ∀ z ∈ [z0, z1], 0 < z := by
      intro z hz
      simp only [List.mem_cons, List.not_mem_nil, or_false] at hz
      rcases hz with rfl | rfl
      · exact h0
      · exact h1
    exact ⟨d0, d1, rfl, draws_ok _ c 0 hp 0 d0 z0 (by rw [hd]; rfl) rfl, draws_ok _ c 0 hp 1 d1 z1 (by rw [hd]; rfl) rfl⟩
end HopR

set_option Elab.async false
set_option linter.all false
set_option maxRecDepth 100000
namespace HopR
open PySem PySem.Spec PyProof.Rows L2
open Builtin Builtin.Str Builtin.Int
/-! ### f"{n:b}" for n to 100 -/
/-- the figures of n by twos -/
def binText (n : Nat) : Str := ⟨((Nat.toDigits 2 n).map Char.toNat).toArray⟩
set_option maxHeartbeats 8000000 in
theorem gives_b : ∀ (n : Nat) (t u : Tok), n < 101 → Gives («int.__format__» ⟨[.int (n : Int) t, .str "b" u], []⟩) (.str (binText n))
  | 0, _, _, _ => .of_eq rfl
  | 1, _, _, _ => .of_eq rfl
  | 2, _, _, _ => .of_eq rfl
  | 3, _, _, _ => .of_eq rfl
  | 4, _, _, _ => .of_eq rfl
  | 5, _, _, _ => .of_eq rfl
  | 6, _, _, _ => .of_eq rfl
  | 7, _, _, _ => .of_eq rfl
  | 8, _, _, _ => .of_eq rfl
  | 9, _, _, _ => .of_eq rfl
  | 10, _, _, _ => .of_eq rfl
  | 11, _, _, _ => .of_eq rfl
  | 12, _, _, _ => .of_eq rfl
  | 13, _, _, _ => .of_eq rfl
  | 14, _, _, _ => .of_eq rfl
  | 15, _, _, _ => .of_eq rfl
  | 16, _, _, _ => .of_eq rfl
  | 17, _, _, _ => .of_eq rfl
  | 18, _, _, _ => .of_eq rfl
  | 19, _, _, _ => .of_eq rfl
  | 20, _, _, _ => .of_eq rfl
  | 21, _, _, _ => .of_eq rfl
  | 22, _, _, _ => .of_eq rfl
  | 23, _, _, _ => .of_eq rfl
  | 24, _, _, _ => .of_eq rfl
  | 25, _, _, _ => .of_eq rfl
  | 26, _, _, _ => .of_eq rfl
  | 27, _, _, _ => .of_eq rfl
  | 28, _, _, _ => .of_eq rfl
  | 29, _, _, _ => .of_eq rfl
  | 30, _, _, _ => .of_eq rfl
  | 31, _, _, _ => .of_eq rfl
  | 32, _, _, _ => .of_eq rfl
  | 33, _, _, _ => .of_eq rfl
  | 34, _, _, _ => .of_eq rfl
  | 35, _, _, _ => .of_eq rfl
  | 36, _, _, _ => .of_eq rfl
  | 37, _, _, _ => .of_eq rfl
  | 38, _, _, _ => .of_eq rfl
  | 39, _, _, _ => .of_eq rfl
  | 40, _, _, _ => .of_eq rfl
  | 41, _, _, _ => .of_eq rfl
  | 42, _, _, _ => .of_eq rfl
  | 43, _, _, _ => .of_eq rfl
  | 44, _, _, _ => .of_eq rfl
  | 45, _, _, _ => .of_eq rfl
  | 46, _, _, _ => .of_eq rfl
  | 47, _, _, _ => .of_eq rfl
  | 48, _, _, _ => .of_eq rfl
  | 49, _, _, _ => .of_eq rfl
  | 50, _, _, _ => .of_eq rfl
  | 51, _, _, _ => .of_eq rfl
  | 52, _, _, _ => .of_eq rfl
  | 53, _, _, _ => .of_eq rfl
  | 54, _, _, _ => .of_eq rfl
  | 55, _, _, _ => .of_eq rfl
  | 56, _, _, _ => .of_eq rfl
  | 57, _, _, _ => .of_eq rfl
  | 58, _, _, _ => .of_eq rfl
  | 59, _, _, _ => .of_eq rfl
  | 60, _, _, _ => .of_eq rfl
  | 61, _, _, _ => .of_eq rfl
  | 62, _, _, _ => .of_eq rfl
  | 63, _, _, _ => .of_eq rfl
  | 64, _, _, _ => .of_eq rfl
  | 65, _, _, _ => .of_eq rfl
  | 66, _, _, _ => .of_eq rfl
  | 67, _, _, _ => .of_eq rfl
  | 68, _, _, _ => .of_eq rfl
  | 69, _, _, _ => .of_eq rfl
  | 70, _, _, _ => .of_eq rfl
  | 71, _, _, _ => .of_eq rfl
  | 72, _, _, _ => .of_eq rfl
  | 73, _, _, _ => .of_eq rfl
  | 74, _, _, _ => .of_eq rfl
  | 75, _, _, _ => .of_eq rfl
  | 76, _, _, _ => .of_eq rfl
  | 77, _, _, _ => .of_eq rfl
  | 78, _, _, _ => .of_eq rfl
  | 79, _, _, _ => .of_eq rfl
  | 80, _, _, _ => .of_eq rfl
  | 81, _, _, _ => .of_eq rfl
  | 82, _, _, _ => .of_eq rfl
  | 83, _, _, _ => .of_eq rfl
  | 84, _, _, _ => .of_eq rfl
  | 85, _, _, _ => .of_eq rfl
  | 86, _, _, _ => .of_eq rfl
  | 87, _, _, _ => .of_eq rfl
  | 88, _, _, _ => .of_eq rfl
  | 89, _, _, _ => .of_eq rfl
  | 90, _, _, _ => .of_eq rfl
  | 91, _, _, _ => .of_eq rfl
  | 92, _, _, _ => .of_eq rfl
  | 93, _, _, _ => .of_eq rfl
  | 94, _, _, _ => .of_eq rfl
  | 95, _, _, _ => .of_eq rfl
  | 96, _, _, _ => .of_eq rfl
  | 97, _, _, _ => .of_eq rfl
  | 98, _, _, _ => .of_eq rfl
  | 99, _, _, _ => .of_eq rfl
  | 100, _, _, _ => .of_eq rfl
  | n + 101, _, _, h => False.elim (Nat.not_lt_of_le (Nat.le_add_left 101 n) h)
end HopR

set_option Elab.async false
set_option linter.all false
set_option maxRecDepth 100000
namespace HopR
open PySem PySem.Spec PyProof.Rows L2
def tFmtB (te : TE) : TE := fun σ H Q => te σ H fun x H1 => ∃ n : Nat, x = .int (n : Int) ∧ n < 101 ∧ Q (.str (binText n)) H1
theorem bin_small : ∀ n < 101, (binText n).length ≤ sizeLine := by decide +kernel
theorem len_b : (("b" : Str).length == 0) = false := by decide +kernel
theorem fit_b : ("b" : Str).length ≤ sizeLine := by decide +kernel
theorem field_b {prog : Program} {w : World} {A : Around} {E : Value → Shared → Prop} {s : Shared} {n : Nat} {t : Tok} {Q : Value → Shared → Prop} (hn : n < 101) (h : Q (.str (binText n) (s.toks + 1)) { s with toks := s.toks + 1 + 1 }) : wpAny (model prog w) A (formatField (.int (n : Int) t) "b") Q E s :=
  wpAny_formatField_spec (T := "int") (idf := "int.__format__") (B := PySem.Builtin.«int.__format__») (v := .int (n : Int) t) (sp := "b") (x := binText n) len_b (fun s' => typeIs_int s' (n : Int) t) PySem.F.slot_int_format PySem.F.entry_int_format PySem.F.args_int_format_2 (fun u => @gives_b n t u hn) h fit_b (bin_small n hn)
theorem pe_fmtB {X : Cx} {e : Expr} {te : TE} {pos p1 p2 : Pos} {k : Nat} (he : PE X e te) : PE X (.FormattedValue e (-1) (some (.JoinedStr [.Constant (.str "b") k p1] p2)) pos) (tFmtB te) := by
  constructor
  intro pins s σ H Q I h
  refine wpAny_FormattedValue_spec (thn (he.run pins s σ H _ I h) ?_)
  rintro v s1 ⟨x, H1, I1, rx, n, rfl, hn, q⟩
  obtain ⟨t, rfl⟩ := rx
  have js : PE X (.JoinedStr [.Constant (.str "b") k p1] p2) (tC (.str "b")) := pe_joined1 pe_str
  refine thn (js.run pins s1 σ H1 (fun y H2 => y = .str "b" ∧ H2 = H1) I1 ⟨rfl, rfl⟩) ?_
  rintro r s2 ⟨y, H2, I2, ry, rfl, rfl⟩
  obtain ⟨t2, rfl⟩ := ry
  exact ⟨_, t2, rfl, field_b hn ⟨.str (binText n), H2, I2.tok _, ⟨_, rfl⟩, q⟩⟩
end HopR

set_option Elab.async false
set_option linter.all false
set_option maxRecDepth 100000
namespace HopR
open PySem PySem.Spec PyProof.Rows L2
section
variable {X : Cx}
/-! ### x *= y, wide -/
def ipMulW : TIp := fun x y H Q => ∃ i j, x = .int i ∧ y = .int j ∧ CMulW i j ∧ Q (.int (i * j)) H
theorem ip_mulW : PIp X .Mult ipMulW := by
  intro pins s σ H x y v u Q I r1 r2 h
  obtain ⟨i, j, e1, e2, c, q⟩ := h
  subst e1; subst e2
  obtain ⟨t, rfl⟩ := r1
  obtain ⟨t', rfl⟩ := r2
  exact imul_int ⟨.int _, H, I.tok _, ⟨_, rfl⟩, q⟩ c.ok
/-! ### a body in a try whose exceptions are wished for by their class and heap alone -/
def tSome (W : WX) (tb : XK → TS) : TS := fun D σ H => ∃ E1 : XK, (∀ cls d σ' H', E1 cls d H' → W cls d σ' H') ∧ tb E1 D σ H
theorem pss_some {W : WX} {body : List Stmt} {tb : XK → TS} (h : ∀ E1 : XK, (∀ cls d σ' H', E1 cls d H' → W cls d σ' H') → PSs X body (tb E1)) : PSs X body (tSome W tb) :=
  ⟨fun pins s σ H D I ⟨E1, hW, q⟩ => (h E1 hW).run pins s σ H D I q⟩
end
/-! ### the figures of n by twos, from the left -/
def step2 (m c : Nat) : Nat := 2 * m + (if c = 49 then 1 else 0)
theorem bin_fold : ∀ n < 101, (binText n).cps.toList.foldl step2 0 = n := by decide +kernel
theorem step2_le : ∀ (cs : List Nat) (m : Nat), m ≤ cs.foldl step2 m
  | [], m => Nat.le_refl m
  | c :: r, m => by
    rw [List.foldl_cons]
    refine Nat.le_trans ?_ (step2_le r _)
    unfold step2
    omega
theorem bin_le {n i c : Nat} (hn : n < 101) (h : (binText n).cps[i]? = some c) : step2 (((binText n).cps.toList.take i).foldl step2 0) c = ((binText n).cps.toList.take (i + 1)).foldl step2 0 ∧ step2 (((binText n).cps.toList.take i).foldl step2 0) c ≤ n := by
  have e : ((binText n).cps.toList.take (i + 1)).foldl step2 0 = step2 (((binText n).cps.toList.take i).foldl step2 0) c := by
    have h2 : (binText n).cps.toList[i]? = some c := by
      rw [Array.getElem?_toList]
      exact h
    rw [List.take_add_one, h2, List.foldl_append]
    rfl
  refine ⟨e.symm, ?_⟩
  rw [← e]
  have := step2_le ((binText n).cps.toList.drop (i + 1)) (((binText n).cps.toList.take (i + 1)).foldl step2 0)
  rw [← List.foldl_append, List.take_append_drop, bin_fold n hn] at this
  exact this
theorem pow_lt {x : Int} {e m n : Nat} (h : x.natAbs < 2 ^ e) (hm : m ≤ n) : (x ^ m).natAbs < 2 ^ (e * n + 1) := by
  rw [Int.natAbs_pow]
  have h1 : x.natAbs ^ m ≤ (2 ^ e) ^ m := Nat.pow_le_pow_left (Nat.le_of_lt h) m
  rw [← Nat.pow_mul] at h1
  have h2 : 2 ^ (e * m) ≤ 2 ^ (e * n) := Nat.pow_le_pow_right (by decide) (Nat.mul_le_mul_left e hm)
  have h3 : 2 ^ (e * n) < 2 ^ (e * n + 1) := Nat.pow_lt_pow_right (by decide) (by omega)
  omega
end HopR

set_option linter.all false
namespace HopR
open PySem L2
theorem mir_mir (bs : List Bool) : mir (mir bs) = bs := by
  unfold mir
  rw [← List.map_reverse, List.reverse_reverse, List.map_map]
  have e : ((fun x => !x) ∘ fun x => !x) = (id : Bool → Bool) := by
    funext b
    cases b <;> rfl
  rw [e, List.map_id]
theorem ends_get (bs : List Bool) (k : Nat) (h : k ≤ bs.length) : opn bs k = (((ends bs)[k]?.getD false) && !((ends bs)[k + 1]?.getD true)) := by
  have hl := ends_len bs
  have e1 : (ends bs)[k]? = some (ends bs)[k] := List.getElem?_eq_getElem (by omega)
  have e2 : (ends bs)[k + 1]? = some (ends bs)[k + 1] := List.getElem?_eq_getElem (by omega)
  have e3 : ((ends bs).drop k).take 2 = [(ends bs)[k], (ends bs)[k + 1]] := by
    rw [List.drop_eq_getElem_cons (by omega), List.drop_eq_getElem_cons (by omega)]
    rfl
  unfold opn
  rw [e3, e1, e2]
  show decide ([(ends bs)[k], (ends bs)[k + 1]] = [true, false]) = ((ends bs)[k] && !(ends bs)[k + 1])
  cases (ends bs)[k] <;> cases (ends bs)[k + 1] <;> rfl
theorem ends_mir (bs : List Bool) : ends (mir bs) = mir (ends bs) := by
  unfold ends mir
  simp
theorem mir_get {l : List Bool} {k : Nat} (h : k < l.length) : (mir l)[k]? = some (!(l[l.length - 1 - k]'(by omega))) := by
  unfold mir
  rw [List.getElem?_map, List.getElem?_reverse h, List.getElem?_eq_getElem (by omega)]
  rfl
theorem opn_mir {bs : List Bool} {k : Nat} (h : k ≤ bs.length) : opn (mir bs) k = opn bs (bs.length - k) := by
  have hl := ends_len bs
  rw [ends_get (mir bs) k (by rw [mir_len]; exact h), ends_get bs (bs.length - k) (by omega), ends_mir, mir_get (by omega), mir_get (by omega)]
  have e1 : (ends bs)[bs.length - k]? = some ((ends bs)[bs.length - k]'(by omega)) := List.getElem?_eq_getElem (by omega)
  have e2 : (ends bs)[bs.length - k + 1]? = some ((ends bs)[bs.length - k + 1]'(by omega)) := List.getElem?_eq_getElem (by omega)
  rw [e1, e2]
  have i1 : (ends bs).length - 1 - k = bs.length - k + 1 := by omega
  have i2 : (ends bs).length - 1 - (k + 1) = bs.length - k := by omega
  simp only [i1, i2, Option.getD_some]
  cases (ends bs)[bs.length - k]'(by omega) <;> cases (ends bs)[bs.length - k + 1]'(by omega) <;> rfl
theorem range_rev (n : Nat) : (List.range (n + 1)).map (fun k => n - k) = (List.range (n + 1)).reverse := by
  apply List.ext_getElem
  · simp
  · intro i h1 h2
    rw [List.getElem_map, List.getElem_reverse, List.getElem_range, List.getElem_range, List.length_range]
    omega
theorem walls_mir (bs : List Bool) : walls (mir bs) = ((walls bs).map (fun k => bs.length - k)).reverse := by
  unfold walls
  rw [mir_len]
  have e : (List.range (bs.length + 1)).filter (opn (mir bs)) = (List.range (bs.length + 1)).filter (fun k => opn bs (bs.length - k)) := by
    apply List.filter_congr
    intro k hk
    exact opn_mir (by have := List.mem_range.mp hk; omega)
  rw [e, ← List.map_reverse, ← List.filter_reverse, ← range_rev, List.filter_map, List.map_map]
  have e2 : (List.range (bs.length + 1)).filter (opn bs ∘ fun k => bs.length - k) = (List.range (bs.length + 1)).filter (fun k => opn bs (bs.length - k)) := rfl
  rw [e2]
  conv => lhs; rw [← List.map_id ((List.range (bs.length + 1)).filter fun k => opn bs (bs.length - k))]
  apply List.map_congr_left
  intro k hk
  have := List.mem_range.mp (List.mem_filter.mp hk).1
  show k = bs.length - (bs.length - k)
  omega
theorem mir_app (as bs : List Bool) : mir (as ++ bs) = mir bs ++ mir as := by
  unfold mir
  rw [List.reverse_append, List.map_append]
theorem mir_take (l : List Bool) (k : Nat) (h : k ≤ l.length) : mir (l.take k) = (mir l).drop (l.length - k) := by
  have e := mir_app (l.take k) (l.drop k)
  rw [List.take_append_drop] at e
  rw [e, List.drop_append_of_le_length (by rw [mir_len, List.length_drop]; exact Nat.le_refl _), List.drop_of_length_le (by rw [mir_len, List.length_drop]; exact Nat.le_refl _), List.nil_append]
theorem mir_drop (l : List Bool) (k : Nat) (h : k ≤ l.length) : mir (l.drop k) = (mir l).take (l.length - k) := by
  have e := mir_app (l.take k) (l.drop k)
  rw [List.take_append_drop] at e
  rw [e, List.take_append_of_le_length (by rw [mir_len, List.length_drop]; exact Nat.le_refl _), List.take_of_length_le (by rw [mir_len, List.length_drop]; exact Nat.le_refl _)]
theorem bhd_mir {bs : List Bool} {k : Nat} (h : k ≤ bs.length) : mir (bhd bs k) = bhd (mir bs) (bs.length - k) := by
  have hl := ends_len bs
  unfold bhd
  rw [mir_app, mir_app, mir_app, mir_drop _ _ (by omega), mir_take _ _ (by omega), ends_mir, hl]
  have e1 : bs.length + 2 - (k + 2) = bs.length - k := by omega
  have e2 : bs.length + 2 - k = bs.length - k + 2 := by omega
  rw [e1, e2]
  show (mir (ends bs)).take (bs.length - k) ++ ([false] ++ ([true] ++ (mir (ends bs)).drop (bs.length - k + 2))) = _
  rw [List.append_assoc, List.append_assoc]
theorem chg_mir {bs : List Bool} {k : Nat} (h : k ≤ bs.length) : mir (chg bs k) = chg (mir bs) (bs.length - k) := by
  have hb := bhd_len h
  have hb2 : (bhd (mir bs) (bs.length - k)).length = bs.length + 2 := by
    rw [← bhd_mir h, mir_len, hb]
  unfold chg
  rw [mir_take _ _ (by rw [List.length_drop]; omega), mir_drop _ _ (by omega), List.length_drop, hb, hb2, bhd_mir h]
  have e1 : bs.length + 2 - 1 - (bs.length + 2 - 2) = 1 := by omega
  have e2 : bs.length + 2 - 1 = bs.length + 1 := by omega
  rw [e1, e2, List.drop_take]
  rfl
theorem num_snoc (bs : List Bool) (b : Bool) : num (bs ++ [b]) = num bs * 2 + (if b then 1 else 0) := by
  unfold num
  rw [List.foldl_append]
  rfl
theorem num_not (n : Nat) : ∀ bs : List Bool, bs.length = n → num bs + num (bs.map (!·)) = 2 ^ bs.length - 1 := by
  induction n with
  | zero =>
    intro bs h
    have : bs = [] := List.length_eq_zero_iff.mp h
    subst this
    rfl
  | succ n ih =>
    intro bs h
    have hne : bs ≠ [] := by
      intro e
      rw [e] at h
      cases h
    obtain ⟨as, b, rfl⟩ : ∃ as b, bs = as ++ [b] := ⟨bs.dropLast, bs.getLast hne, (List.dropLast_concat_getLast hne).symm⟩
    have hl : as.length = n := by
      rw [List.length_append] at h
      simpa using h
    have := ih as hl
    rw [List.map_append, List.map_cons, List.map_nil, num_snoc, num_snoc, List.length_append]
    show num as * 2 + _ + (num (as.map (!·)) * 2 + _) = 2 ^ (as.length + 1) - 1
    rw [Int.pow_succ]
    cases b with
    | true =>
      show num as * 2 + 1 + (num (as.map (!·)) * 2 + 0) = 2 ^ as.length * 2 - 1
      omega
    | false =>
      show num as * 2 + 0 + (num (as.map (!·)) * 2 + 1) = 2 ^ as.length * 2 - 1
      omega
theorem num_mir (bs : List Bool) : num bs + num (mir bs).reverse = 2 ^ bs.length - 1 := by
  have e : (mir bs).reverse = bs.map (!·) := by
    unfold mir
    rw [← List.map_reverse, List.reverse_reverse]
  rw [e]
  exact num_not _ bs rfl
theorem walls_ne (bs : List Bool) : walls bs ≠ [] := by
  -- the first place of a free one, or the last wall
  have key : ∃ k, k ≤ bs.length ∧ opn bs k = true := by
    have h : ∀ (l : List Bool), l ≠ [] → l.head? = some true → l.getLast? = some false → ∃ k, k + 1 < l.length ∧ l[k]? = some true ∧ l[k + 1]? = some false := by
      intro l
      induction l with
      | nil => intro h; exact absurd rfl h
      | cons a r ih =>
        intro _ h1 h2
        have ea : a = true := Option.some.inj h1
        subst ea
        cases r with
        | nil =>
          have : true = false := Option.some.inj h2
          cases this
        | cons b q =>
          cases b with
          | false => exact ⟨0, by simp, rfl, rfl⟩
          | true =>
            obtain ⟨k, g1, g2, g3⟩ := ih (by simp) rfl (by rw [List.getLast?_cons_cons] at h2; exact h2)
            exact ⟨k + 1, by simpa using g1, by simpa using g2, by simpa using g3⟩
    obtain ⟨k, g1, g2, g3⟩ := h (ends bs) (by unfold ends; simp) rfl (by unfold ends; rw [List.getLast?_cons]; simp)
    have hl := ends_len bs
    refine ⟨k, by omega, ?_⟩
    rw [ends_get bs k (by omega), g2, g3]
    rfl
  obtain ⟨k, h1, h2⟩ := key
  exact List.ne_nil_of_mem (mem_walls.mpr ⟨h1, h2⟩)
end HopR

set_option Elab.async false
set_option linter.all false
set_option maxRecDepth 100000
namespace HopR
open PySem PySem.Spec PyProof.Rows L2
/-! ### len, str and repr of objects of an own class; an attribute as a target -/
section
variable {X : Cx} {CX : CXT} {n : Nat} {C f : Addr} {fd : FuncData} {ps : List Str} {sp : Sp} {E : XK}
/-- a def called by a built-in that runs in the same frames -/
theorem call_at {A : Around} {pins : List (Addr × Obj)} {σ : L2.St} {H : Hp} {s : Shared} {Q : VK} {us : List Value} {vs : List V} (F : FnOk X.prog X.w X.K X.mg X.base CX n f fd ps sp) (room : Room n A) (frames : A.frames = X.A.frames) (bind : Binds X.K fd ps []) (lets : Passes CX X E)
    (I : Inv X pins σ H s) (vals : Vals vs us) (prom : sp vs H Q E) : wpAny (model X.prog X.w) A (call (.ref f) us) (EP X pins σ Q) X.xe s := by
  have I0 := I.env0
  have here : Env0 X.prog X.w X.K X.mg X.base A X.stack s H := { frames := frames.trans I0.frames, mod := I0.mod, bs := I0.bs, bsz := I0.bsz, funs := I0.funs, frf := I0.frf, hok := I0.hok, bare := I0.bare }
  have size := vals.length.symm.trans (F.len _ _ _ _ prom)
  have bound := bind s us I.kIn (by rw [List.append_nil]; exact size)
  rw [List.append_nil] at bound
  refine wpAny_call (codeAny_mono (F.run A X.stack s H ⟨us, []⟩ us vs Q E room here bound vals prom) fun r s' h => ?_)
  have said := after_call lets I h
  cases r with
  | error e => exact said
  | ok fl => cases fl <;> exact said
/-- one object of the class, and what its method promises of it -/
def rOwn1 (C : Addr) (sp : Sp) (E : XK) (R : V → Hp → VK → Prop) : List V → Hp → VK → Prop := fun xs H Q => ∃ a dx fs, xs = [.ref a] ∧ H a = some (.ins C dx fs) ∧ sp [.ref a] H (fun v H' => R v H' Q) E
def isLen : V → Hp → VK → Prop := fun v H Q => ∃ i : Int, v = .int i ∧ (0 ≤ i ∧ i < 2 ^ 63) ∧ Q (.int i) H
def isTxt : V → Hp → VK → Prop := fun v H Q => ∃ z : Str, v = .str z ∧ Q (.str z) H
/-- len(o) -/
theorem cr_lenOwn (len : PySem.W.findIn X.K (.ref C) "__len__" = some (some (.ref f))) (fn : PySem.W.isFn X.K (.ref f) = true) (F : FnOk X.prog X.w X.K X.mg X.base CX n f fd ps sp) (room : Room (n + 1) X.A) (bind : Binds X.K fd ps []) (lets : Passes CX X E) :
    CallR X (.builtin "len") (rOwn1 C sp E isLen) := by
  rintro pins s σ H _ us Q I r ⟨a, dx, fs, rfl, ha, prom⟩
  obtain ⟨u, rfl, rv⟩ := vals1 r
  cases rv
  obtain ⟨_, J, _⟩ := ins_get I.hok ha
  obtain ⟨od, J, _⟩ := J.look
  obtain ⟨m, F0⟩ := I.fr
  refine PySem.W.len_K F0 I.ok.mod.kin J len fn (thn (call_at F room.in1 rfl bind lets I (us := [.ref a]) (vs := [.ref a]) (.cons rfl .nil) prom) ?_)
  rintro w s' ⟨z, H', I', rz, i, rfl, hi, q⟩
  obtain ⟨t, rfl⟩ := rz
  exact ⟨hi, .int i, H', I'.tok _, ⟨_, rfl⟩, q⟩
/-- str(o) -/
theorem cr_strOwn (str : PySem.W.findIn X.K (.ref C) "__str__" = some (some (.ref f))) (fn : PySem.W.isFn X.K (.ref f) = true) (F : FnOk X.prog X.w X.K X.mg X.base CX n f fd ps sp) (room : Room (n + 2) X.A) (bind : Binds X.K fd ps []) (lets : Passes CX X E) :
    CallR X (.type "str") (rOwn1 C sp E isTxt) := by
  rintro pins s σ H _ us Q I r ⟨a, dx, fs, rfl, ha, prom⟩
  obtain ⟨u, rfl, rv⟩ := vals1 r
  cases rv
  obtain ⟨_, J, _⟩ := ins_get I.hok ha
  obtain ⟨od, J, _⟩ := J.look
  have un := room.un
  refine PySem.W.kso_call (by show X.A.units + 1 + 1 < cLine; omega) I.kIn J str fn (thn (call_at F room.in1.in1 rfl bind lets I (us := [.ref a]) (vs := [.ref a]) (.cons rfl .nil) prom) ?_)
  rintro w s' ⟨z, H', I', rz, y, rfl, q⟩
  obtain ⟨t, rfl⟩ := rz
  exact ⟨.str y, H', I', ⟨_, rfl⟩, q⟩
/-- repr(o) -/
theorem cr_reprOwn (rep : PySem.W.findIn X.K (.ref C) "__repr__" = some (some (.ref f))) (fn : PySem.W.isFn X.K (.ref f) = true) (F : FnOk X.prog X.w X.K X.mg X.base CX n f fd ps sp) (room : Room (n + 1) X.A) (bind : Binds X.K fd ps []) (lets : Passes CX X E) :
    CallR X (.builtin "repr") (rOwn1 C sp E isTxt) := by
  rintro pins s σ H _ us Q I r ⟨a, dx, fs, rfl, ha, prom⟩
  obtain ⟨u, rfl, rv⟩ := vals1 r
  cases rv
  obtain ⟨_, J, _⟩ := ins_get I.hok ha
  obtain ⟨od, J, _⟩ := J.look
  obtain ⟨m, F0⟩ := I.fr
  have un := room.un
  refine PySem.W.repr_K (by show X.A.units + 1 < cLine; omega) F0 I.ok.mod.kin J rep fn (thn (call_at F room.in1 rfl bind lets I (us := [.ref a]) (vs := [.ref a]) (.cons rfl .nil) prom) ?_)
  rintro w s' ⟨z, H', I', rz, y, rfl, q⟩
  obtain ⟨t, rfl⟩ := rz
  exact ⟨.str y, H', I', ⟨_, rfl⟩, q⟩
end
section
variable {X : Cx}
/-- o.f as a target: the field is put -/
def gFld (K : PySem.W.Frag) (to : TE) (f : Str) : TG := fun v σ H Q => to σ H fun o H1 => ∃ a C dx fs, o = .ref a ∧ H1 a = some (.ins C dx fs) ∧ Cls K C ∧ NoAttr K C f ∧ fs.length < 1000 ∧ Q σ (upd H1 a (.ins C dx (putF f v fs)))
theorem pg_fld {o : Expr} {to : TE} {f : Str} {pos : Pos} (ho : PE X o to) : PG X (.Attribute o f pos) (gFld X.K to f) := by
  constructor
  intro pins s σ H v u Q I r h
  rw [assign_Attribute]
  refine wpAny_bind (wpAny_holding (thn (ho.run pins s σ H _ I h) ?_))
  rintro ov s1 ⟨x, H1, I1, rx, a, C, dx, fs, rfl, ea, c, na, few, q⟩
  cases rx
  refine wpAny_bind (wpAny_standAt (wpAny_bind (wpAny_holding (setattr_ok I1 ea c na few r fun s2 I2 => ?_))))
  exact wpAny_release ⟨σ, _, I2, q⟩
end
end HopR

set_option Elab.async false
set_option linter.all false
set_option maxRecDepth 100000
namespace HopR
open PySem PySem.Spec PyProof.Rows L2
/-! ### repr of a list that holds own objects beside data -/
section
variable {X : Cx}
/-- what repr tells of an item of the list at L, n defs deep, now and later -/
def Itm (X : Cx) (n : Nat) (L : Addr) (H : Hp) (x : V) (t : Str) : Prop :=
  ∀ (pins : List (Addr × Obj)) (σ : L2.St) (H1 : Hp) (s : Shared) (u : Value) (base : Nat) (A : Around) (g : List Code) (Q : Str → Shared → Prop), Same H H1 → Inv X pins σ H1 s → RelV x u → base + t.length ≤ sizeLine →
    Room n A → A.frames = X.A.frames → A.guards = some g → (∀ b, b ≠ L → Clear g b) → (∀ s' H2, Inv X pins σ H2 s' → Same H1 H2 → Q t s') → wpAny (model X.prog X.w) A (pyReprUnder base u) Q X.xe s
theorem vals_has {p : Addr} : ∀ {xs : List V} {us : List Value}, Vals xs us → V.ref p ∈ xs → Value.ref p ∈ us
  | _, _, .cons (a := x) (b := y) r t, h => by
    rcases List.mem_cons.mp h with e | h
    · rw [← e] at r
      cases (show y = Value.ref p from r)
      exact List.mem_cons_self ..
    · exact List.mem_cons_of_mem _ (vals_has t h)
theorem all_read {h : Heap} {v : Value} : ∀ {us : List Value} {ds : List PyData} {as : List Addr}, ReadsAll h us ds as → v ∈ us → ∃ d as', Reads h v d as'
  | _, _, _, .cons r t, hm => by
    rcases List.mem_cons.mp hm with e | hm
    · rw [e]
      exact ⟨_, _, r⟩
    · exact all_read t hm
/-- an own object is no datum -/
theorem no_datum {pins : List (Addr × Obj)} {σ : L2.St} {H : Hp} {s : Shared} {p C dx : Addr} {fs : List (Str × V)} (I : Inv X pins σ H s) (hp : H p = some (.ins C dx fs)) {d : PyData} {as : List Addr} : ¬ Reads s.heap (.ref p) d as := by
  obtain ⟨_, J, _⟩ := ins_get I.hok hp
  obtain ⟨od, J, _⟩ := J.look
  have h1 := J.at_
  have h2 := J.cls
  intro r
  cases r with
  | list a b _ _ =>
    rw [h1] at a
    cases a
    rw [h2] at b
    cases b
  | tuple a b _ _ =>
    rw [h1] at a
    cases a
    rw [h2] at b
    cases b
  | dict a b _ _ _ =>
    rw [h1] at a
    cases a
    rw [h2] at b
    cases b
/-- nor is a list that holds one -/
theorem no_datumL {pins : List (Addr × Obj)} {σ : L2.St} {H : Hp} {s : Shared} {L p C dx : Addr} {xs : List V} {fs : List (Str × V)} (I : Inv X pins σ H s) (hL : H L = some (.lst xs)) (hm : V.ref p ∈ xs) (hp : H p = some (.ins C dx fs)) {d : PyData} {as : List Addr} : ¬ Reads s.heap (.ref L) d as := by
  obtain ⟨its, rv, ⟨o, k, ho, hc, hs, hd⟩, _⟩ := I.list (SqL.of hL)
  have hi := vals_has rv hm
  intro r
  cases r with
  | list a _ c e =>
    rw [ho] at a
    cases a
    rw [hd] at c
    cases c
    obtain ⟨d', as', r'⟩ := all_read e (by simpa using hi)
    exact no_datum I hp r'
  | tuple a b _ _ =>
    rw [ho] at a
    cases a
    rw [hc] at b
    exact absurd (Value.type.inj b) (by decide)
  | dict a b _ _ _ =>
    rw [ho] at a
    cases a
    rw [hc] at b
    exact absurd (Value.type.inj b) (by decide)
theorem itm_data {n : Nat} {L : Addr} {H : Hp} {x : V} {d : PyData} (hd : ∀ H1, Same H H1 → Dp X.K H1 x d) (hs : d.showable = true) (hn : d.hasDict = false) (hdep : d.depth ≤ 64) (hz : d.shown.length ≤ sizeLine)
    (hL : ∀ pins σ H1 s, Same H H1 → Inv X pins σ H1 s → ∀ e as, ¬ Reads s.heap (.ref L) e as) : Itm X n L H x d.shown := by
  intro pins σ H1 s u base A g Q sm I ru hb room fr hg hcl hQ
  obtain ⟨as, rd⟩ := Dp.reads I d x u (hd H1 sm) ru
  obtain ⟨bs, few, tells⟩ := ReprK.of_reads (prog := X.prog) (w := X.w) rd hs (fun e => absurd (hn.symm.trans e) (by decide)) hz
  refine tells base hb A g X.xe s Q hg (fun b hb' => hcl b fun e => ?_) (by have := room.un; omega) (fun _ _ e => e) (fun h' tk hk => hQ _ H1 (I.kept hk) (Same.refl _))
  obtain ⟨d', as', r', _⟩ := few b hb'
  rw [e] at r'
  exact hL _ _ _ _ sm I _ _ r'
/-- a special method found in an own class, called by `last` -/
theorem special_own {M : Model} {A : Around} {E : Value → Shared → Prop} {s : Shared} {K : PySem.W.Frag} {x C f : Addr} {ox : Obj} {od : Option Obj} {name : Str} {last : Value → List Value → Sem Value} {Q : Option Value → Shared → Prop} (kin : K.In s.heap) (J : PySem.W.InstAt s.heap x ox C od)
    (has : PySem.W.findIn K (.ref C) name = some (some (.ref f))) (fn : PySem.W.isFn K (.ref f) = true) (run : wpAny M A (last (.ref f) [.ref x]) (fun v => Q (some v)) E s) : wpAny M A (callSpecialIfBoundBy? last (.ref x) name) Q E s := by
  have tell : wpAny M A (do let v ← last (.ref f) [.ref x]; pure (some v)) Q E s := wpAny_bind (wpAny_mono run (fun _ _ h => wpAny_pure h) fun _ _ h => h)
  have bound := PySem.W.bind_fn (M := M) kin (.ref x) (beq_iff_eq.mp fn)
  unfold callSpecialIfBoundBy? bindSpecialIfBound?
  refine wpAny_holding (wpAny_bind (wpAny_bind (wpAny_bind (J.type.here ((PySem.W.looks_findIn kin has).here (wpAny_bind (wpAny_askSetting (wpAny_ite ?_))))))))
  split
  · exact wpAny_bind (bound.here (wpAny_pure tell))
  · exact wpAny_tryCatch (wpAny_bind (bound.here (wpAny_pure tell)))
theorem itm_own {CX : CXT} {k n : Nat} {L a C dx f : Addr} {H : Hp} {fs : List (Str × V)} {fd : FuncData} {ps : List Str} {sp : Sp} {E : XK} {t : Str} (ha : H a = some (.ins C dx fs)) (rep : PySem.W.findIn X.K (.ref C) "__repr__" = some (some (.ref f))) (fn : PySem.W.isFn X.K (.ref f) = true)
    (F : FnOk X.prog X.w X.K X.mg X.base CX k f fd ps sp) (kn : k ≤ n) (bind : Binds X.K fd ps []) (lets : Passes CX X E) (prom : ∀ H1, Same H H1 → sp [.ref a] H1 (fun v H2 => v = .str t ∧ Same H1 H2) E) : Itm X n L H (.ref a) t := by
  intro pins σ H1 s u base A g Q sm I ru hb room fr hg hcl hQ
  cases (show u = Value.ref a from ru)
  obtain ⟨_, J, _⟩ := ins_get I.hok (sm _ _ ha)
  obtain ⟨od, J, _⟩ := J.look
  have un := room.un
  refine wpAny_pyReprUnder_ref (by omega) ?_
  unfold pyReprObjUnder pyReprObjBy
  refine wpAny_bind (wpAny_cRoomFor (by omega) (wpAny_bind (wpAny_bind (J.type.here ((PySem.W.looks_findIn I.kIn rep).here ?_)))))
  show wpAny _ _ (if (some (Value.ref f)).isNone = true then _ else _) _ _ _
  rw [if_neg (by simp)]
  refine wpAny_bind (special_own I.kIn J rep fn (thn (call_at F (room.mono kn) fr bind lets I (us := [.ref a]) (vs := [.ref a]) (.cons rfl .nil) (prom H1 sm)) ?_))
  rintro v s' ⟨z, H', I', rz, rfl, sm'⟩
  obtain ⟨tk, rfl⟩ := rz
  exact wpAny_bind (wpAny_isInstance (T := "str") (b := true) rfl isSubtype_str_str (wpAny_pure ⟨_, _, rfl, hQ s' H' I' sm'⟩))
theorem vals_at : ∀ {xs : List V} {us : List Value}, Vals xs us → ∀ (i : Nat) x u, xs[i]? = some x → us[i]? = some u → RelV x u
  | _, _, .cons r t, 0, x, u, h1, h2 => by
    cases h1
    cases h2
    exact r
  | _, _, .cons r t, i + 1, x, u, h1, h2 => vals_at t i x u h1 h2
theorem texts_of : ∀ {ts : List Str} {us : List Value}, Vals (ts.map V.str) us → ∃ l : List (Str × Tok), us = strValues l ∧ l.map (·.1) = ts
  | [], _, h => by
    cases h
    exact ⟨[], rfl, rfl⟩
  | t :: ts, _, h => by
    cases h with
    | cons r h =>
      obtain ⟨k, rfl⟩ := r
      obtain ⟨l, rfl, e⟩ := texts_of h
      exact ⟨(t, k) :: l, rfl, by rw [List.map_cons, e]⟩
theorem room_loop {k : Nat} {A : Around} (r : Room (k + 1) A) (args : Args) : Room k (A.under (.builtin "list.__repr__.loop" args)) :=
  ⟨r.hd, by
    have := r.dp
    have e : (A.under (.builtin "list.__repr__.loop" args)).depth ≤ A.depth + 1 := by
      first | exact Nat.le_refl _ | (simp [Around.under, Code.weight, Code.isCreation, Code.isGuard, Code.isCaller, Code.frames, Code.isFrame, guardIds])
    omega, by
    have := r.un
    rw [units_under_list_loop]
    omega⟩
theorem frames_loop {A : Around} (args : Args) : (A.under (.builtin "list.__repr__.loop" args)).frames = A.frames := by
  first | rfl | simp [Around.under, Code.envs, Code.isFrame, pushEnvs]
/-- all turns of the list's repr, the texts so far at P -/
theorem turns {A : Around} {n : Nat} {L P : Addr} {H : Hp} {xs : List V} {ts : List Str} {R : Result → Shared → Prop} (hg : A.guards = some []) (room : Room (n + 1) A) (fr : A.frames = X.A.frames) (hP : H P = none) (hL : H L = some (.lst xs)) (len : ts.length = xs.length)
    (tell : ∀ (i : Nat) x t, xs[i]? = some x → ts[i]? = some t → Itm X n L H x t) (fits : (listText ts).length ≤ sizeLine) (bad : ∀ e s', X.xe e s' → R (.error e) s') {pins : List (Addr × Obj)} {σ : L2.St}
    (good : ∀ s' H2 u, Inv X pins σ H2 s' → Same H H2 → R (.ok (.ret (.str (listText ts) u))) s') :
    ∀ (k i : Nat) (H1 : Hp) (s : Shared), xs.length - i = k → i ≤ xs.length → Inv X pins σ H1 s → Same H H1 → H1 P = some (.lst ((ts.take i).map V.str)) →
      codeAny (model X.prog X.w) A (.builtin "list.__repr__.loop" ⟨[.ref L, rawInt i, .ref P, rawInt ((piled (ts.take i) : Nat) : Int)], []⟩) R s := by
  have few := textFrom_len ts 0 "["
  have whole : (listText ts).length = (textFrom 0 "[" ts).length + 1 := by
    show (textFrom 0 "[" ts ++ "]").length = _
    rw [strLen_append]
    rfl
  intro k
  induction k with
  | zero =>
    intro i H1 s hk hi I sm eP
    obtain ⟨its, rv, ⟨o, m, ho, _, _, hd⟩, _⟩ := I.list (SqL.of (sm _ _ hL))
    obtain ⟨its2, rv2, ⟨o2, m2, ho2, _, _, hd2⟩, _⟩ := I.list (SqL.of eP)
    obtain ⟨l, el, e1⟩ := texts_of rv2
    have none_ : its.toArray[i]? = none := by
      have := rv.length
      simp
      omega
    rw [List.take_of_length_le (by omega)] at e1
    refine codeAny_builtin F.entry_list_repr_loop ?_
    show wpAny _ _ (Builtin.«list.__repr__.loop» ⟨[.ref L, .int i 0, .ref P, .int ((piled (ts.take i) : Nat) : Int) 0], []⟩) _ _ s
    rw [repr_loop_tree]
    refine wpAny_bind (wpAny_listItems ho hd ?_)
    rw [Int.toNat_natCast]
    simp only [none_]
    unfold reprEnd
    refine wpAny_bind (wpAny_listItems ho2 hd2 ?_)
    rw [show its2.toArray.toList = strValues l from el, repr_fold, e1]
    exact wpAny_bind (wpAny_pure (wpAny_bind (wpAny_mkStr (wpAny_pure (good _ H1 _ (I.tok _) sm)) fits)))
  | succ k ih =>
    intro i H1 s hk hi I sm eP
    have hlt : i < xs.length := by omega
    obtain ⟨its, rv, ⟨o, m, ho, _, _, hd⟩, _⟩ := I.list (SqL.of (sm _ _ hL))
    have hli := rv.length
    obtain ⟨t, ht⟩ : ∃ t, ts[i]? = some t := ⟨ts[i]'(by omega), List.getElem?_eq_getElem _⟩
    obtain ⟨x, hx⟩ : ∃ x, xs[i]? = some x := ⟨xs[i], List.getElem?_eq_getElem hlt⟩
    have here : its.toArray[i]? = some (its[i]'(by omega)) := by simp
    have rel : RelV x (its[i]'(by omega)) := vals_at rv i _ _ hx (List.getElem?_eq_getElem _)
    have p1 := piled_take_succ ht
    have p2 := piled_take_le ts (i + 1)
    have p3 := piled_le_listText ts
    refine codeAny_builtin F.entry_list_repr_loop ?_
    show wpAny _ _ (Builtin.«list.__repr__.loop» ⟨[.ref L, .int i 0, .ref P, .int ((piled (ts.take i) : Nat) : Int) 0], []⟩) _ _ s
    rw [repr_loop_tree]
    refine wpAny_bind (wpAny_listItems ho hd ?_)
    rw [Int.toNat_natCast]
    simp only [here]
    rw [Int.toNat_natCast]
    refine wpAny_bind (wpAny_holding (wpAny_mono (tell i x t hx ht pins σ H1 s _ (piled (ts.take i) + 1) _ _ _ sm I rel (by omega) (room_loop room _) ((frames_loop _).trans fr) (guards_under_guard (isGuard_list_loop _) hg) (fun b hb => (Clear.nil b).cons (a := L) fun e => hb e.symm) ?_) (fun _ _ h => h) bad))
    intro s' H2 I2 sm2
    refine wpAny_bind (wpAny_mkStr ?_ (Nat.le_trans (few.2.1 t (List.mem_of_getElem? ht)) (by omega)))
    refine wpAny_bind ?_
    show wpAny _ _ (updateSeq P _) _ _ _
    have eP2 := sm2 _ _ eP
    obtain ⟨hz2, its2, n2, rv2, e2⟩ := (show ObjOk X.prog X.w H2 s'.heap P (.lst ((ts.take i).map V.str)) from I2.hok P _ eP2)
    have hl2 := rv2.length
    have hl3 : ((ts.take i).map V.str).length = i := by
      rw [List.length_map, List.length_take]
      omega
    have few1 := few.1
    rw [if_neg (Nat.lt_irrefl 0)] at few1
    refine wpAny_updateSeq e2 rfl (wpAny_pure ⟨F.quiet_list_repr_loop _, ?_⟩) (by rw [List.size_toArray]; omega) (by rw [Array.size_push, List.size_toArray]; omega)
    have i1 : ((i : Int) + 1) = ((i + 1 : Nat) : Int) := by omega
    have i2 : piled (ts.take i) + (t.length + 2) = piled (ts.take (i + 1)) := by omega
    rw [i1, i2]
    have et : (ts.take (i + 1)).map V.str = (ts.take i).map V.str ++ [V.str t] := by
      rw [List.take_add_one, ht, List.map_append]
      rfl
    refine ih (i + 1) (upd H2 P (.lst ((ts.take (i + 1)).map V.str))) _ (by omega) hlt (I2.write (e := P) (by rw [eP2]; trivial) (.inl rfl) (fun b u hb q => (Heap.get?_update_other _ _ (Ne.symm hb)).trans q) ⟨_, Heap.get?_update_self _ e2 rfl⟩ ⟨?_, its2 ++ [.str t s'.toks], n2 + 1, ?_, ?_⟩) (same_new hP (sm.trans sm2)) upd_same
    · rw [et, List.length_append, hl3]
      show i + 1 ≤ sizeLine
      omega
    · rw [et]
      exact rv2.append (.cons ⟨_, rfl⟩ .nil)
    · refine (Heap.get?_update_self _ e2 rfl).trans ?_
      simp [Obj.mapSeq]
/-- repr(xs), xs no empty list, of data and of own objects -/
def rReprL (X : Cx) (n : Nat) : List V → Hp → VK → Prop := fun vs H Q => ∃ (L : Addr) (x : V) (xs : List V) (ts : List Str), vs = [.ref L] ∧ H L = some (.lst (x :: xs)) ∧ ts.length = (x :: xs).length ∧ (∀ (i : Nat) y t, (x :: xs)[i]? = some y → ts[i]? = some t → Itm X n L H y t) ∧
  (listText ts).length ≤ sizeLine ∧ ∀ H', Same H H' → Q (.str (listText ts)) H'
theorem cr_reprL {n : Nat} (hG : X.A.guards = some []) (room : Room (n + 3) X.A) : CallR X (.builtin "repr") (rReprL X n) := by
  rintro pins s σ H _ us Q I r ⟨L, x, xs, ts, rfl, hL, len, tell, fits, q⟩
  obtain ⟨u, rfl, rv⟩ := vals1 r
  cases (show u = Value.ref L from rv)
  obtain ⟨its, rv2, ⟨o, m, ho, hc, _, hd⟩, _⟩ := I.list (SqL.of hL)
  have un := room.un
  have type : s.TypeIs (.ref L) "list" := ⟨o, ho, hc⟩
  have nP : H s.heap.objs.size = none := I.hok.fresh (Nat.le_refl _)
  cases rv2 with
  | cons r1 r2 =>
    refine call_repr_slot (by omega) type F.slot_list_repr.toG ?_
    refine wpAny_call (codeAny_call_builtin F.slot_list_repr.plain F.entry_list_repr (F.slot_list_repr.check _ _ _ _ _ _ _ _ type (F.args_list_repr_1 _) ?_))
    refine wpAny_list_repr_head (A := X.A.in1.in1) hG (fun _ _ _ h => nomatch h) ho hd ?_
    refine wpAny_bind (m := newList []) (wpAny_newObj_type (wpAny_pure ⟨F.quiet_list_repr_loop _, ?_⟩))
    refine turns (A := X.A.in1) (n := n) hG (Room.mono (k := n + 2) (j := n + 1) room.in1 (Nat.le_succ _)) rfl nP hL len tell fits ?bad (pins := pins) (σ := σ) ?good _ 0 (upd H s.heap.objs.size (.lst [])) _ rfl (Nat.zero_le _) (I.laid (t' := s.toks) (fun b o e => Heap.get?_push_of_some _ e) (Nat.le_refl _) ⟨Nat.zero_le _, [], 0, .nil, Heap.get?_push_size _ rfl⟩) (same_upd nP) upd_same
    case bad => exact fun e s' h => h
    case good => exact fun s' H2 u I2 sm => ⟨_, _, rfl, .str _, H2, I2, ⟨_, rfl⟩, q H2 sm⟩
end
end HopR

set_option Elab.async false
set_option linter.all false
set_option maxRecDepth 100000
namespace HopR
open PySem PySem.Spec PyProof.Rows L2
/-! ### == and != by an own __eq__ of a class of the text, whose own names hold no __ne__ -/
structure EqC (K : PySem.W.Frag) (C f : Addr) : Prop where
  eq : PySem.W.findIn K (.ref C) "__eq__" = some (some (.ref f))
  fn : PySem.W.isFn K (.ref f) = true
  own : ∃ nm q N bs hd sn sub ab col dd k0 k1 k2 k3 k5 nw, K.lookup C = some (excClassObj nm q C N bs [.type "object"] hd sn sub ab col dd k0 k1 k2 k3 k5 nw) ∧ PySem.W.nsOkIn K N = true ∧ PySem.W.nsIn K N "__eq__" = some (some (.ref f)) ∧ PySem.W.nsIn K N "__ne__" = some none
theorem name_here {K : PySem.W.Frag} {h : Heap} {N : Addr} {mg : Str → Option Value} {x : Str} {v : Value} (kin : K.In h) (names : h.Ns N mg) (e : PySem.W.nsIn K N x = some (some v)) : mg x = some v := by
  rcases names with ⟨o, es, ep, at_, data, -, find⟩
  rw [← find]
  revert e
  unfold PySem.W.nsIn
  cases look : K.lookup N with
  | none => exact fun e => nomatch e
  | some ob =>
    obtain rfl : ob = o := Option.some.inj ((kin _ _ look).symm.trans at_)
    obtain ⟨cls, dict, dat, slots⟩ := ob
    obtain rfl : dat = .dict es ep := data
    intro e
    unfold nsFind findBy
    rw [← Array.find?_toList]
    cases hit : es.toList.find? (·.key.isStr x) with
    | none =>
      simp only [hit] at e
      split at e <;> cases e
    | some en =>
      simp only [hit] at e
      cases e
      rfl
theorem fn_here {K : PySem.W.Frag} {h : Heap} {f : Addr} (kin : K.In h) (fn : PySem.W.isFn K (.ref f) = true) : ∃ o, h.get? f = some o ∧ o.cls = .type "function" := by
  have e : (K.lookup f).map (·.cls) = some (Value.type "function") := beq_iff_eq.mp fn
  obtain ⟨o, look, cls⟩ := Option.map_eq_some_iff.mp e
  exact ⟨o, kin _ _ look, cls⟩
theorem EqC.here {K : PySem.W.Frag} {h : Heap} {C f a : Addr} {o : Obj} (c : EqC K C f) (kin : K.In h) (at_ : h.get? a = some o) (cls : o.cls = .ref C) : h.OwnEqNoNe a C f "object" [.type "object"] := by
  obtain ⟨nm, q, N, bs, hd, sn, sub, ab, col, dd, k0, k1, k2, k3, k5, nw, look, ok, heq, hne⟩ := c.own
  obtain ⟨of, hf, hc⟩ := fn_here kin c.fn
  have names : h.Ns N (h.nsMap N) := .of_isNs (PySem.W.isNs_of_in kin ok)
  exact ⟨o, of, nm, q, N, bs, hd, sn, sub, ab, col, dd, k0, k1, k2, k3, k5, nw, h.nsMap N, _, at_, cls, kin _ _ look, names, name_here kin names heq, hf, hc, PySem.F.cmp_object.mro, PySem.F.cmp_object.eq.lookup, PySem.W.nsMap_none_of_in kin ok hne⟩
section
variable {X : Cx} {CX : CXT} {n : Nat} {C f : Addr} {fd : FuncData} {ps : List Str} {sp : Sp} {E : XK}
/-- two instances of the class; what its __eq__ promises of them, a truth -/
def rOwn (C : Addr) (sp : Sp) (E : XK) (neg : Bool) : R2 := fun x y H Q => ∃ a b dx dy fs gs, x = .ref a ∧ y = .ref b ∧ H a = some (.ins C dx fs) ∧ H b = some (.ins C dy gs) ∧ sp [.ref a, .ref b] H (fun v H' => ∃ k : Bool, v = .bl k ∧ Q (.bl (k ^^ neg)) H') E
theorem two_refs {a b : Addr} : Vals [V.ref a, V.ref b] [Value.ref a, Value.ref b] := .cons rfl (.cons rfl .nil)
theorem op_eqOwn (c : EqC X.K C f) (F : FnOk X.prog X.w X.K X.mg X.base CX n f fd ps sp) (room : Room n X.A) (bind : Binds X.K fd ps []) (lets : Passes CX X E) : OpR X (compareOp .Eq) (rOwn C sp E false) := by
  rintro pins s σ H _ _ v u Q I rx ry ⟨a, b, dx, dy, fs, gs, rfl, rfl, ha, hb, prom⟩
  cases rx; cases ry
  obtain ⟨_, J, _⟩ := ins_get I.hok ha
  obtain ⟨_, J', _⟩ := ins_get I.hok hb
  obtain ⟨_, J, _⟩ := J.look
  obtain ⟨_, J', _⟩ := J'.look
  obtain ⟨m, F0⟩ := I.fr
  refine PySem.W.cmp_K (op := .Eq) (tb := .ref C) room.units0 F0 I.ok.mod.kin J J'.type (by simp [PySem.W.notFirst]) c.eq c.fn (thn (call_at F room rfl bind lets I two_refs prom) ?_)
  rintro w s' ⟨z, H', I', rz, k, rfl, q⟩
  cases rz
  refine ⟨.bl k, H', I', rfl, ?_⟩
  rw [Bool.xor_false] at q
  exact q
theorem op_neOwn (c : EqC X.K C f) (F : FnOk X.prog X.w X.K X.mg X.base CX n f fd ps sp) (room : Room (n + 1) X.A) (bind : Binds X.K fd ps []) (lets : Passes CX X E) : OpR X (compareOp .NotEq) (rOwn C sp E true) := by
  rintro pins ⟨hp, g, d, t, os⟩ σ H _ _ v u Q I rx ry ⟨a, b, dx, dy, fs, gs, rfl, rfl, ha, hb, prom⟩
  cases rx; cases ry
  obtain ⟨_, J, _⟩ := ins_get I.hok ha
  obtain ⟨_, J', _⟩ := ins_get I.hok hb
  obtain ⟨_, J, _⟩ := J.look
  obtain ⟨_, J', _⟩ := J'.look
  have un := room.un
  refine compareOp_ne_ownEq PySem.F.cmp_object (c.here I.kIn J.at_ J.cls) J'.at_ J'.cls (by omega) (thn (call_at (A := X.A.in1) F room.in1 rfl bind lets I two_refs prom) ?_)
  rintro w s' ⟨z, H', I', rz, k, rfl, q⟩
  cases rz
  refine ⟨k, rfl, .bl (!k), H', I', rfl, ?_⟩
  rw [Bool.xor_true] at q
  exact q
end
end HopR

set_option Elab.async false
set_option linter.all false
set_option maxRecDepth 100000
namespace HopR
open PySem PySem.Spec PyProof.Rows L2
/-! ### {o!r} in an f-string, o of an own class -/
section
variable {X : Cx} {CX : CXT} {n : Nat} {C f : Addr} {fd : FuncData} {ps : List Str} {sp : Sp} {E : XK} {e : Expr} {te : TE} {pos : Pos}
def tFmtO (C : Addr) (sp : Sp) (E : XK) (te : TE) : TE := fun σ H Q => te σ H fun x H1 => ∃ a dx fs, x = .ref a ∧ H1 a = some (.ins C dx fs) ∧ sp [.ref a] H1 (fun v H' => ∃ z : Str, v = .str z ∧ z.length ≤ sizeLine ∧ Q (.str z) H') E
theorem pe_fmtO (rep : PySem.W.findIn X.K (.ref C) "__repr__" = some (some (.ref f))) (fn : PySem.W.isFn X.K (.ref f) = true) (F : FnOk X.prog X.w X.K X.mg X.base CX n f fd ps sp) (room : Room (n + 1) X.A) (bind : Binds X.K fd ps []) (lets : Passes CX X E) (he : PE X e te) :
    PE X (.FormattedValue e 114 none pos) (tFmtO C sp E te) := by
  constructor
  intro pins s σ H Q I h
  refine wpAny_FormattedValue_repr (thn (he.run pins s σ H _ I h) ?_)
  rintro u s1 ⟨_, H1, I1, ru, a, dx, fs, rfl, ha, prom⟩
  cases (show u = Value.ref a from ru)
  obtain ⟨_, J, _⟩ := ins_get I1.hok ha
  obtain ⟨od, J, _⟩ := J.look
  have un := room.un
  rw [pyReprObj_eq_pyReprObjBy]
  unfold pyReprObjBy
  refine wpAny_bind (wpAny_cRoomFor (by omega) (wpAny_bind (wpAny_bind (J.type.here ((PySem.W.looks_findIn I1.kIn rep).here ?_)))))
  show wpAny _ _ (if (some (Value.ref f)).isNone = true then _ else _) _ _ _
  rw [if_neg (by simp)]
  refine wpAny_bind (special_own I1.kIn J rep fn (thn (call_at F (room.mono (Nat.le_succ n)) rfl bind lets I1 (us := [.ref a]) (vs := [.ref a]) (.cons rfl .nil) prom) ?_))
  rintro v s' ⟨_, H', I', rz, z, rfl, hz, q⟩
  obtain ⟨tk, rfl⟩ := rz
  refine wpAny_bind (wpAny_isInstance (T := "str") (b := true) rfl isSubtype_str_str (wpAny_pure ?_))
  exact wpAny_formatField_str ⟨.str z, H', I', ⟨_, rfl⟩, q⟩ ⟨.str z, H', I'.tok _, ⟨_, rfl⟩, q⟩ hz
/-- o == p by the class's own __eq__, told by its two facts alone -/
theorem op_eqTwo (eq : PySem.W.findIn X.K (.ref C) "__eq__" = some (some (.ref f))) (fn : PySem.W.isFn X.K (.ref f) = true) (F : FnOk X.prog X.w X.K X.mg X.base CX n f fd ps sp) (room : Room n X.A) (bind : Binds X.K fd ps []) (lets : Passes CX X E) : OpR X (compareOp .Eq) (rOwn C sp E false) := by
  rintro pins s σ H _ _ v u Q I rx ry ⟨a, b, dx, dy, fs, gs, rfl, rfl, ha, hb, prom⟩
  cases rx; cases ry
  obtain ⟨_, J, _⟩ := ins_get I.hok ha
  obtain ⟨_, J', _⟩ := ins_get I.hok hb
  obtain ⟨_, J, _⟩ := J.look
  obtain ⟨_, J', _⟩ := J'.look
  obtain ⟨m, F0⟩ := I.fr
  refine PySem.W.cmp_K (op := .Eq) (tb := .ref C) room.units0 F0 I.ok.mod.kin J J'.type (by simp [PySem.W.notFirst]) eq fn (thn (call_at F room rfl bind lets I two_refs prom) ?_)
  rintro w s' ⟨z, H', I', rz, k, rfl, q⟩
  cases rz
  rw [Bool.xor_false] at q
  exact ⟨.bl k, H', I', rfl, q⟩
end
/-! ### lists of new tuples -/
def TupH {α : Type} (H : Hp) (f : α → List V) : List α → List V → Prop
  | [], vs => vs = []
  | a :: r, vs => ∃ p vr, vs = .ref p :: vr ∧ H p = some (.tup (f a)) ∧ TupH H f r vr
section
variable {α : Type} {H H' : Hp} {f : α → List V}
theorem tupH_same (s : Same H H') : ∀ {as : List α} {vs : List V}, TupH H f as vs → TupH H' f as vs
  | [], _, h => h
  | _ :: _, _, ⟨p, vr, e, h1, h2⟩ => ⟨p, vr, e, s _ _ h1, tupH_same s h2⟩
theorem tupH_upd {D : Addr} {xs : List V} {o : HO} (hD : H D = some (.lst xs)) : ∀ {as : List α} {vs : List V}, TupH H f as vs → TupH (upd H D o) f as vs
  | [], _, h => h
  | _ :: _, _, ⟨p, vr, e, h1, h2⟩ => ⟨p, vr, e, by
      rw [upd_ne (fun z => by rw [z, hD] at h1; cases h1)]
      exact h1, tupH_upd hD h2⟩
theorem tupH_add {a : α} {p : Addr} (h1 : H p = some (.tup (f a))) : ∀ {as : List α} {vs : List V}, TupH H f as vs → TupH H f (as ++ [a]) (vs ++ [.ref p])
  | [], _, h => by
    cases h
    exact ⟨p, [], rfl, h1, rfl⟩
  | _ :: _, _, ⟨p', vr, e, h2, h3⟩ => ⟨p', vr ++ [.ref p], by rw [e]; rfl, h2, tupH_add h1 h3⟩
theorem tupH_len : ∀ {as : List α} {vs : List V}, TupH H f as vs → vs.length = as.length
  | [], _, h => by
    cases h
    rfl
  | _ :: _, _, ⟨_, vr, e, _, h2⟩ => by rw [e, List.length_cons, List.length_cons, tupH_len h2]
theorem tupH_at : ∀ {as : List α} {vs : List V} {k : Nat} {a : α}, TupH H f as vs → as[k]? = some a → ∃ p, vs[k]? = some (.ref p) ∧ H p = some (.tup (f a))
  | [], _, k, a, h, e => by simp at e
  | b :: r, _, 0, a, ⟨p, vr, ev, h1, h2⟩, e => by
    have : b = a := Option.some.inj e
    subst this
    exact ⟨p, by rw [ev]; rfl, h1⟩
  | b :: r, _, k + 1, a, ⟨p, vr, ev, h1, h2⟩, e => by
    obtain ⟨p', e1, e2⟩ := tupH_at (k := k) h2 e
    exact ⟨p', by rw [ev]; exact e1, e2⟩
end
end HopR

set_option Elab.async false
set_option linter.all false
set_option maxRecDepth 100000
namespace HopR
open PySem PySem.Spec PyProof.Rows L2
/-! ### sum(whole numbers, start=0) -/
theorem may_start (l : Addr) (t : Tok) : checkBuiltinCall "sum" ⟨[.ref l], [(Str.ofString "start", .int 0 t)]⟩ = pure () := by
  have ok : argsOk "sum" ⟨[.ref l], [(Str.ofString "start", .int 0 t)]⟩ := by
    unfold argsOk
    kernel_rfl
  unfold checkBuiltinCall
  rw [F.kind_sum]
  unfold argsOk at ok
  cases h : Manifest.signature? "sum" with
  | none => rfl
  | some sig =>
    rw [h] at ok
    exact ok
section
variable {prog : Program} {w : World} {A : Around} {E : Value → Shared → Prop} {s : Shared}
theorem no_text {i : Int} {t : Tok} {T : String} {Q : Bool → Shared → Prop} (sub : isSubtype (.type "int") (.type T) = pure false) (q : Q false s) : wpAny (model prog w) A (isInstance (.int i t) (.type T)) Q E s := wpAny_isInstance (typeIs_int s i t) sub q
theorem sum_from {l : Addr} {t : Tok} {xs : Array (Int × Tok)} {Q : Value → Shared → Prop} (calm : A.handled = none) (hl : s.heap.IsList l (intItems xs))
    (fin : ∀ h' tk t', (∀ b o, s.heap.get? b = some o → h'.get? b = some o) → Q (.int (preSum (numAt xs) xs.size) t') { s with heap := h', toks := tk }) :
    wpAny (model prog w) A (call (.builtin "sum") [.ref l] [(Str.ofString "start", .int 0 t)]) Q E s := by
  refine wpAny_call (codeAny_call_builtin F.plain_sum F.entry_sum ?_)
  rw [may_start]
  refine wpAny_pure ?_
  unfold Builtin.«sum»
  simp only [List.length_cons, List.length_nil]
  rw [if_neg (by decide)]
  refine wpAny_bind (wpAny_of_eq (show Builtin.Builtins.bindParams "sum" ["start"] 0 ⟨[], [(Str.ofString "start", .int 0 t)]⟩ = pure [some (.int 0 t)] from by kernel_rfl) ?_)
  refine wpAny_bind (iter_intList hl fun s2 e at0 low here => ?_)
  subst e
  dsimp only
  refine wpAny_ite ?_
  split
  case isFalse no => exact absurd rfl no
  refine wpAny_bind (wpAny_rule (wpAny_bind (wpAny_mkInt (wpAny_bind (wpAny_pure ?_)))))
  simp only [List.forIn_cons, List.forIn_nil]
  refine wpAny_bind (wpAny_bind (wpAny_bind (no_text PySem.sub_int_str ?_)))
  rw [if_neg (by decide)]
  refine wpAny_pure (wpAny_bind (wpAny_bind (no_text PySem.sub_int_bytes ?_)))
  rw [if_neg (by decide)]
  refine wpAny_pure (wpAny_bind (wpAny_bind (no_text PySem.sub_int_bytearray ?_)))
  rw [if_neg (by decide)]
  refine wpAny_pure (wpAny_pure (wpAny_bind (wpAny_newObj_type ?_)))
  have W := Walks.list (prog := prog) (w := w) (A := A.in1) calm s.heap.objs.size l here (intItems xs)
  refine wpAny_pure ⟨plainId_quiet F.plain_sum_loop _, codeAny_sum_loopG W (numAt xs) (fun _ _ => intItems_at) _ (fun m => Nat.lt_irrefl _ (low _ m)) _ 0 _ _ 0 0 (.inl rfl) rfl (Nat.zero_le _) (W.frame _ _ _ at0 fun b _ o q => Heap.get?_push_of_some _ q) (Heap.get?_push_size _ rfl) ?_⟩
  intro h' tk t' old
  have q := fin h' tk t' fun b o e => ?_
  · simpa [intItems] using q
  · have lt := Heap.lt_size e
    refine old b o ?_ ?_ (Heap.get?_push_of_some _ (Heap.get?_push_of_some _ e))
    · intro m
      have m : b = s.heap.objs.size := by simpa using m
      exact absurd lt (by rw [m]; exact Nat.lt_irrefl _)
    · rw [Heap.size_push]
      exact Nat.ne_of_lt (Nat.lt_succ_of_lt lt)
end
section
variable {X : Cx}
def rSumK (K : PySem.W.Frag) : List V → List V → Hp → VK → Prop := fun vs zs H Q => ∃ (a : Addr) (ns : List Int), vs = [V.ref a] ∧ zs = [.int 0] ∧ SqL K H a (ns.map V.int) ∧ Q (.int ns.sum) H
theorem cr_sumK (calm : X.calm = true) : CallRK X (.builtin "sum") [Str.ofString "start"] (rSumK X.K) := by
  rintro pins s σ H _ _ us ws Q I r rz ⟨a, ns, rfl, rfl, hs, q⟩
  obtain rfl := Vals.ref1 r
  obtain ⟨_, rfl, t, rfl⟩ := vals1 rz
  obtain ⟨its, rv, hl, _⟩ := I.list hs
  obtain ⟨xs, e⟩ := rv.ints.allInts.items
  have hn : numsOf (intItems xs).toList = ns := by
    rw [← e]
    exact rv.ints.numsOf
  rw [nums_intItems] at hn
  have hl' := hl.isList
  rw [e] at hl'
  refine sum_from (I.ok.hd calm) hl' fun h' tk t' old => ⟨.int ns.sum, H, I.kept old, ⟨t', ?_⟩, q⟩
  rw [preSum_eq, List.take_of_length_le (by simp), hn]
end
end HopR

set_option Elab.async false
set_option linter.all false
set_option maxRecDepth 100000
set_option maxHeartbeats 4000000
namespace HopR
open PySem PySem.Spec PyProof.Rows L2
/-! ### a refusal over IndexError that keeps what was handed in: class N(IndexError), its __init__ says IndexError.__init__(self, text), then self.f = x -/
abbrev bmI : List Value := [.type "IndexError", .type "LookupError", .type "Exception", .type "BaseException", .type "object"]
/-- what is written of the class at C, whose __init__ is at fI, its field f -/
structure Kept (K : PySem.W.Frag) (C fI : Addr) (f : Str) : Prop where
  new : PySem.W.excInitIn K C bmI "IndexError.__new__" = true
  over : PySem.W.excOver K C bmI = true
  ini : PySem.W.findIn K (.ref C) "__init__" = some (some (.ref fI))
  fn : PySem.W.typeIn K (.ref fI) = some (.type "function")
  sa : PySem.W.findIn K (.ref C) "__setattr__" = some (some (.builtin "object.__setattr__"))
  taker : PySem.W.takerIn K C f = some none
  none_ : PySem.W.findIn K (.ref C) f = some none
  keep : PySem.W.keepIn K (.ref C) = true
  ty : PySem.W.typeIn K (.ref C) = some (.type "type")
  xf : XfC K C
theorem type_ie : typeOf (.type "IndexError") = pure (.type "type") := by kernel_rfl
/-- a dict laid for an exception, then named in it, then filled -/
theorem laid_dict {H : Hp} {a d : Addr} {o1 o2 o3 : HO} (n : d ≠ a) : upd (upd (upd H d o1) a o2) d o3 = upd (upd H d o3) a o2 := by
  funext b
  by_cases h1 : b = d
  · subst h1
    rw [upd_same, upd_ne n, upd_same]
  · rw [upd_ne h1]
    by_cases h2 : b = a
    · subst h2
      rw [upd_same, upd_same]
    · rw [upd_ne h2, upd_ne h2, upd_ne h1, upd_ne h1]
theorem gone_dict {H : Hp} {a d : Addr} {o1 o2 o3 o4 : HO} (n : d ≠ a) (na : H a = none) : upd (del (upd (upd (upd H a o1) d o2) a o3) a) d o4 = upd H d o4 := by
  funext b
  by_cases h1 : b = d
  · subst h1
    rw [upd_same, upd_same]
  · rw [upd_ne h1, upd_ne h1]
    by_cases h2 : b = a
    · subst h2
      rw [del_same, na]
    · rw [del_ne h2, upd_ne h2, upd_ne h1, upd_ne h2]
section
variable {X : Cx} {C fI a : Addr} {f : Str}
/-- self.f = y, on an exception without a dict -/
theorem keep_it {pins : List (Addr × Obj)} {σ : L2.St} {H : Hp} {s : Shared} {A : Around} {y : V} {u : Value} {Q : Unit → Shared → Prop} {E : Value → Shared → Prop} (T : Kept X.K C fI f) (I : Inv X pins σ H s) (ha : H a = some (exo a C none)) (r : RelV y u)
    (k : ∀ d s', H d = none → d ≠ a → Inv X pins σ (upd (upd H d (exd d [(f, y)])) a (exo a C (some d))) s' → Q () s') : wpAny (model X.prog X.w) A (setAttr (.ref a) f u) Q E s := by
  obtain ⟨t0, at0⟩ := exo_at I.hok ha
  obtain ⟨cd, c1, c2⟩ := PySem.W.any_some T.xf.hdC
  obtain ⟨hp, g, dr, tk, os⟩ := s
  have lt : a < hp.objs.size := Heap.lt_size at0
  have ne : hp.objs.size ≠ a := Nat.ne_of_gt lt
  refine PySem.W.set_plain (od := none) I.kIn ⟨at0, rfl, rfl, trivial⟩ T.sa ?_
  refine PySem.W.osa_openX (od := none) PySem.F.store_IndexError I.kIn ⟨at0, rfl, rfl, trivial⟩ T.over T.taker fun _ => ?_
  refine wpAny_bind (wpAny_pure (wpAny_bind (PySem.W.instanceDict_exc at0 (PySem.W.looks_clsIn I.kIn c1) c2 ?_)))
  refine HandSPX.store_in_new ?_ ?_
  · exact ⟨_, #[], _, (Heap.get?_update_other _ _ ne.symm).trans (Heap.get?_push_size _ rfl), rfl, fun e he => absurd he (by simp), fun _ => rfl⟩
  · intro h' tk' ns sb
    have I1 : Inv X pins σ (upd H hp.objs.size (exd hp.objs.size [])) ⟨hp.push (PySem.W.dictOf [] 0), g, dr, tk, os⟩ :=
      I.laid (a := hp.objs.size) (o := exd hp.objs.size []) (t' := tk) (fun b o q => Heap.get?_push_of_some _ q) (Nat.le_refl _) (exd_ok (mA := fun _ => none) (Heap.Ns1.of_empty ⟨_, #[], _, Heap.get?_push_size _ rfl, rfl, fun e he => absurd he (by simp), fun _ => rfl⟩) fun _ => True.intro)
    have a1 : (hp.push (PySem.W.dictOf [] 0)).get? a = some _ := Heap.get?_push_of_some _ at0
    have a2 := Heap.get?_update_self (fun o : Obj => { o with dict := some hp.objs.size }) a1 rfl
    have I2 := I1.write (x := a) (e := a) (o := exo a C (some hp.objs.size)) (t' := tk) (h' := (hp.push (PySem.W.dictOf [] 0)).update a fun o => { o with dict := some hp.objs.size }) (by rw [upd_ne ne.symm, ha]; exact True.intro) (.inl rfl)
      (fun b o hb q => (Heap.get?_update_other _ _ (Ne.symm hb)).trans q) ⟨_, a2⟩ (exo_ok a2)
    have d3 : ∃ o, h'.get? hp.objs.size = some o := by
      obtain ⟨o, _, _, q, _⟩ := ns
      exact ⟨o, q⟩
    have I3 := I2.write (x := hp.objs.size) (e := hp.objs.size) (o := exd hp.objs.size [(f, y)]) (t' := tk') (h' := h') (by rw [upd_ne ne, upd_same]; exact True.intro) (.inl rfl)
      (fun b o hb q => (sb.2 b hb).trans q) d3 (exd_ok ns (relO_put (fs := []) r fun g => True.intro))
    rw [laid_dict ne] at I3
    exact k _ _ (I.hok.fresh (Nat.le_refl _)) ne I3
/-- IndexError.__init__(self, ..): nothing of it is told -/
theorem init_ie {pins : List (Addr × Obj)} {σ : L2.St} {H : Hp} {s : Shared} {A : Around} {us : List Value} {Q : Value → Shared → Prop} {E : Value → Shared → Prop} (T : Kept X.K C fI f) (I : Inv X pins σ H s) (ha : H a = some (exo a C none)) (hl : us.length ≤ sizeLine)
    (k : ∀ s', Inv X pins σ H s' → Q .none s') : wpAny (model X.prog X.w) A (call (.builtin "IndexError.__init__") (.ref a :: us)) Q E s := by
  obtain ⟨nm, N, qn, bs, bm, hdct, sn, sub, ab, col, dd, k0, k1, k2, k3, k5, at1, cont⟩ := PySem.W.excInit_of I.kIn T.new
  obtain ⟨t0, at0⟩ := exo_at I.hok ha
  obtain ⟨hp, g, dr, tk, os⟩ := s
  refine wpAny_call (HandSPX.init_base PySem.F.excBase_IndexError cont at1 at0 hl ?_)
  intro h' t1 kp at2
  have same : upd H a (exo a C none) = H := by
    funext b
    by_cases hb : b = a
    · rw [hb, upd_same, ha]
    · rw [upd_ne hb]
  have J := I.write (x := a) (e := a) (o := exo a C none) (t' := tk) (h' := h') (by rw [ha]; exact True.intro) (.inl rfl) kp ⟨_, at2⟩ (exo_ok at2)
  rw [same] at J
  exact k _ J
variable {e o : Expr} {es : List Expr} {te to : TE} {ta : TA} {p p1 p2 p' pos : Pos}
/-- what is asked of IndexError.__init__(self, ..) -/
def tIeI (K : PySem.W.Frag) (f : Str) (ta : TA) : TE := fun σ H Q => ta σ H fun vs H1 => ∃ (a C fI : Addr) (ws : List V), vs = .ref a :: ws ∧ ws.length ≤ 1000 ∧ Kept K C fI f ∧ H1 a = some (exo a C none) ∧ Q .non H1
theorem pe_ieinit {pl : Sem Bool} (f : Str) (hg : Gl X "IndexError") (hm : X.mg "IndexError" = none) (vV : PySem.W.findCls X.K (.type "IndexError") (.type "type") "__init__" = some (.val (.builtin "IndexError.__init__"))) (ha : PA X (e :: es) ta)
    (hc : eval (.Call (.Attribute (.Name "IndexError" p1) "__init__" p2) (e :: es) [] pos) X.env = (do
      let ov ← eval (.Name "IndexError" p1) X.env
      standAt p2.atName
      let (m, first) ← holding [ov] (getMethod ov "__init__" pl)
      callWith pos m first (backTo pos (starEach (e :: es) X.env)) (backToKw pos (keywordEach [] X.env))) := by rfl)
    (he : starEach (e :: es) X.env = (false, eval e X.env) :: starEach es X.env := by rfl) (hpl : (backTo pos (starEach es X.env)).any (·.1) = false := by rfl) :
    PE X (.Call (.Attribute (.Name "IndexError" p1) "__init__" p2) (e :: es) [] pos) (tIeI X.K f ta) := by
  constructor
  intro pins s σ H Q I h
  obtain ⟨m, fr⟩ := I.fr
  refine PySem.W.methodCall_KW (ld_blt I hg hm PyProof.Rows.Boot.«IndexError» (PySem.W.method_type fr I.ok.mod.kin type_ie (by decide +kernel) vV (by decide +kernel) ?_) (by decide) (by decide)) hc
  show wpAny (model X.prog X.w) X.A (callWith pos (Value.builtin "IndexError.__init__") [] (backTo pos (starEach (e :: es) X.env)) []) _ _ _
  refine PyProof.Rows.callWith_method1 (thn (ha.run pos pins _ σ H _ (I.tok _) h) ?_) he hpl
  rintro us s1 ⟨vs, H1, J, r, a, C, fI, ws, rfl, hl, T, at1, q⟩
  cases r with
  | cons ra rr =>
    cases (show _ = Value.ref a from ra)
    refine init_ie T J at1 ?_ fun s' J' => ⟨.non, H1, J', rfl, q⟩
    have := Paired.length rr
    rw [sizeLine_eq]
    omega
/-- self.f = e -/
def tKeep (K : PySem.W.Frag) (f : Str) (to te : TE) : TS := fun D σ H => te σ H fun y H1 => to σ H1 fun x H2 => ∃ a C fI : Addr, x = .ref a ∧ Kept K C fI f ∧ H2 a = some (exo a C none) ∧ ∀ d, H2 d = none → d ≠ a → D.nx σ (upd (upd H2 d (exd d [(f, y)])) a (exo a C (some d)))
theorem ps_keep (ho : PE X o to) (he : PE X e te) (hs : swapsWith e (some (.Attribute o f p')) pos.line X.env = pure false := by rfl) : PS X (.Assign [.Attribute o f p'] e pos) (tKeep X.K f to te) := by
  constructor
  intro pins s σ H D I h
  refine plainObj_wpAny_Assign_Attribute (thn (he.run pins s σ H _ I h) ?_) hs
  rintro v s1 ⟨y, H1, I1, r1, q1⟩
  refine thn (ho.run pins s1 σ H1 _ I1 q1) ?_
  rintro u s2 ⟨x, H2, I2, r2, a, C, fI, rfl, T, ha, q⟩
  cases (show u = Value.ref a from r2)
  exact keep_it T I2 ha r1 fun d s' n ne J => ⟨σ, _, J, q d n ne⟩
/-- what __init__ does -/
def spKeepI (C : Addr) (f : Str) : Sp := fun vs H Q _ => ∃ (a : Addr) (y : V), vs = [.ref a, y] ∧ H a = some (exo a C none) ∧ ∀ d, H d = none → d ≠ a → Q .non (upd (upd H d (exd d [(f, y)])) a (exo a C (some d)))
/-- N(e): the refusal with its field, the dict at d new -/
def tMkK (C : Addr) (f : Str) (ta : TA) : L2.St → Hp → XK → Prop := fun σ H Q => ta σ H fun vs H1 => ∃ y, vs = [y] ∧ ∀ d, H1 d = none → Q (.ref C) (some d) (upd H1 d (.xd [(f, y)]))
theorem pmk_keep {x : Str} {k : Nat} {fd : FuncData} {ps : List Str} (T : Kept X.K C fI f) (F1 : FnOk X.prog X.w X.K X.mg X.base CX0 k fI fd ps (spKeepI C f)) (hr : Room (k + 1) X.A) (hb : Binds X.K fd ps []) (hg : Gl X x) (hm : X.mg x = some (.ref C)) (ha : PA X [e] ta)
    (hdb : (x == ("__debug__" : Str)) = false := by decide) (he : starEach (e :: []) X.env = (false, eval e X.env) :: starEach [] X.env := by rfl) (hpl : (backTo pos (starEach [] X.env)).any (·.1) = false := by rfl) :
    PMk X (.Call (.Name x p) [e] [] pos) (tMkK C f ta) := by
  intro pins s0 σ H0 Q I0 h0
  refine wpAny_Call_Name_kw (ld_glob I0 hg hm ?_ hdb)
  refine PySem.W.callWith_K (h₀ := X.base) I0.ok.mod.kin T.keep (thn (ha.run pos pins s0 σ H0 _ I0 h0) ?_) he hpl
  rintro us s ⟨vs, H, I, r, y, rfl, q⟩
  refine ⟨I.kIn, ?_⟩
  obtain ⟨nm, N, qn, bs, bm, hdct, sn, sub, ab, col, dd, k0, k1, k2, k3, k5, at1, cont⟩ := PySem.W.excInit_of I.kIn T.new
  obtain ⟨hp, g, dr, tk, os⟩ := s
  have na : H (hp.objs.size + 1) = none := I.hok.fresh (Nat.le_succ _)
  have old : ∀ b u, hp.get? b = some u → ((hp.push (PySem.W.kdv_tup us)).push (HandSPX.excO C hp.objs.size)).get? b = some u := fun b u q => Heap.get?_push_of_some _ (Heap.get?_push_of_some _ q)
  have at2 : ((hp.push (PySem.W.kdv_tup us)).push (HandSPX.excO C hp.objs.size)).get? (hp.objs.size + 1) = some (HandSPX.excO C hp.objs.size) := by heap_get
  have J : Inv X pins σ (upd H (hp.objs.size + 1) (exo (hp.objs.size + 1) C none)) ⟨(hp.push (PySem.W.kdv_tup us)).push (HandSPX.excO C hp.objs.size), g, dr, tk, os⟩ := I.laid (t' := tk) old (Nat.le_succ _) (exo_ok at2)
  have rr : Vals [V.ref (hp.objs.size + 1), y] (Value.ref (hp.objs.size + 1) :: us) := .cons rfl r
  have sp : spKeepI C f [V.ref (hp.objs.size + 1), y] (upd H (hp.objs.size + 1) (exo (hp.objs.size + 1) C none)) (fun v H2 => v = .non ∧ ∃ d, H d = none ∧ d ≠ hp.objs.size + 1 ∧ H2 = upd (upd (upd H (hp.objs.size + 1) (exo (hp.objs.size + 1) C none)) d (exd d [(f, y)])) (hp.objs.size + 1) (exo (hp.objs.size + 1) C (some d))) (fun _ _ _ => False) :=
    ⟨_, y, rfl, upd_same, fun d nd ne => ⟨rfl, d, by rw [upd_ne ne] at nd; exact nd, ne, rfl⟩⟩
  have hl : (Value.ref (hp.objs.size + 1) :: us).length = ps.length := rr.length.symm.trans (F1.len _ _ _ _ sp)
  have bi := hb _ (Value.ref (hp.objs.size + 1) :: us) J.kIn (by rw [List.append_nil]; exact hl)
  rw [List.append_nil] at bi
  have lu : us.length ≤ sizeLine := by
    rw [← Paired.length r]
    show 1 ≤ sizeLine
    decide
  refine wpAny_call (HandSPX.call_own PySem.F.excBase_IndexError cont at1 (PySem.W.looks_findIn I.kIn T.ini) (fun self => PySem.W.bind_fn I.kIn self T.fn) lu
    (codeAny_mono (F1.run _ X.stack _ _ ⟨Value.ref (hp.objs.size + 1) :: us, []⟩ _ _ _ _ (hr.make C us []) (J.env0.make C us []) bi rr sp) ?_))
  intro res s' z
  match res, z with
  | .error er, z =>
    have no : Passes CX0 X (fun _ _ _ => False) := fun _ _ _ _ _ _ _ h => h.elim
    exact no pins σ _ _ er s' J z
  | .ok (.ret u), z =>
    obtain ⟨v, H2, os2, bare2, un2, hok2, rv, rfl, d, nd, ne, rfl⟩ := z
    obtain ⟨hz, gz, dz, tz, oz⟩ := s'
    refine ⟨rv, mk_end (d := d) (fs := [(f, y)]) (raises_own T.xf.exC T.ty) I (Nat.le_succ _) old un2 hok2 os2 bare2 upd_same (by rw [upd_ne ne, upd_same]) nd ?_⟩
    rw [gone_dict ne na]
    exact q d nd
  | .ok .next, z => exact z.elim
  | .ok .brk, z => exact z.elim
  | .ok .cont, z => exact z.elim
end
end HopR

set_option Elab.async false
set_option linter.all false
set_option maxRecDepth 100000
set_option maxHeartbeats 4000000
namespace HopR
open PySem PySem.Spec PyProof.Rows L2
/-! ### a kept refusal that has a field -/
section
variable {X : Cx}
/-- what H says of a kept exception of the class at D with the fields fs -/
def Fld (H : Hp) (a D : Addr) (fs : List (Str × V)) : Prop := ∃ d, H a = some (ExH (.ref D) (some d) a) ∧ H d = some (.xd fs)
theorem fld_at {pins : List (Addr × Obj)} {σ : L2.St} {H : Hp} {s : Shared} {a D : Addr} {fs : List (Str × V)} (I : Inv X pins σ H s) (hf : Fld H a D fs) : ∃ oe od, PySem.W.InstAt s.heap a oe D (some od) ∧ ∀ n v, fs.lookup n = some v → ∃ u, PySem.W.lookIn n od = some (some u) ∧ RelV v u := by
  obtain ⟨d, h1, h2⟩ := hf
  obtain ⟨⟨oe, vs, e, ⟨z1, z2⟩, q⟩, _, _⟩ := I.hok a _ h1
  have ok : ObjOk X.prog X.w H s.heap d (.xd fs) := I.hok d _ h2
  obtain ⟨mA, ns, rel⟩ := ok
  obtain ⟨od, at2, look⟩ := lookIn_ns ns
  refine ⟨oe, od, ⟨e, z1, ?_, by rw [z2]; exact at2⟩, fun n v l => ?_⟩
  · unfold PySem.W.notCls
    rw [q]
  · have r := rel n
    rw [l] at r
    obtain ⟨u, hu, ru⟩ := RelO.some_of r
    exact ⟨u, by rw [look, hu], ru⟩
theorem kit_fld {K : PySem.W.Frag} {a D : Addr} {oe : Obj} {od : Option Obj} (C : ExcC K D) : PySem.W.KitX K (.ref a) (.ref D) (fun h => PySem.W.InstAt h a oe D od) :=
  PySem.W.kitx_exc (by obtain ⟨cd, hc, _⟩ := PySem.W.any_some C.hd; rw [hc]; rfl) C.hg C.hk C.hs C.ha C.hn C.ht C.hm
/-- isinstance(kept, c) -/
def rIsF (K : PySem.W.Frag) : List V → Hp → VK → Prop := fun xs H Q => ∃ (a D : Addr) (fs : List (Str × V)) (c : V) (cv : Value) (b : Bool), xs = [.ref a, c] ∧ Fld H a D fs ∧ ExcC K D ∧ ClsV c cv ∧ PySem.W.kitOne K (.ref D) cv = some b ∧ Q (.bl b) H
theorem call_isF : CallR X (.builtin "isinstance") (rIsF X.K) := by
  rintro pins s σ H xs us Q I r ⟨a, D, fs, c, cv, b, rfl, hf, C, kc, e, q⟩
  obtain ⟨u1, u2, rfl, r1, r2⟩ := vals2 r
  obtain rfl := kc.eq r2
  cases (show u1 = Value.ref a from r1)
  obtain ⟨oe, od, J, _⟩ := fld_at I hf
  exact PySem.W.kia_one (kit_fld C) I.kIn J e (fun z => nomatch z) fun tk => ⟨.bl b, H, I.tok tk, rfl, q⟩
/-- isinstance(kept, (c1, c2, ..)) -/
def rIsFT (K : PySem.W.Frag) : List V → Hp → VK → Prop := fun xs H Q => ∃ (a D tp : Addr) (fs : List (Str × V)) (cs : List V) (ws : List Value) (b : Bool), xs = [.ref a, .ref tp] ∧ Fld H a D fs ∧ ExcC K D ∧ H tp = some (.tup cs) ∧ Paired ClsV cs ws ∧ PySem.W.kitAny K (.ref D) ws = some b ∧ Q (.bl b) H
theorem call_isFT : CallR X (.builtin "isinstance") (rIsFT X.K) := by
  rintro pins s σ H xs us Q I r ⟨a, D, tp, fs, cs, ws, b, rfl, hf, C, ht, kc, e, q⟩
  obtain ⟨u1, u2, rfl, r1, r2⟩ := vals2 r
  cases (show u1 = Value.ref a from r1)
  cases (show u2 = Value.ref tp from r2)
  obtain ⟨oe, od, J, _⟩ := fld_at I hf
  have hT : ObjOk X.prog X.w H s.heap tp (.tup cs) := I.hok tp _ ht
  obtain ⟨_, its, rv, ⟨oc, odd, dt, osl⟩, g1, g2, n, g3⟩ := hT
  obtain rfl := ClsV.all kc rv
  simp only at g2 g3
  subst g2 g3
  exact PySem.W.kia_tup (kit_fld C) I.kIn J g1 e (fun z => nomatch z) fun tk => ⟨.bl b, H, I.tok tk, rfl, q⟩
/-- kept.n -/
def tFldH (K : PySem.W.Frag) (n : Str) (te : TE) : TE := fun σ H Q => te σ H fun x H1 => ∃ (a D : Addr) (fs : List (Str × V)) (v : V), x = .ref a ∧ Fld H1 a D fs ∧ XfC K D ∧ PySem.W.findIn K (.ref D) n = some none ∧ fs.lookup n = some v ∧ Q v H1
theorem pe_fldH {e : Expr} {te : TE} {pos : Pos} {n : Str} (he : PE X e te) (hb : attributeBase e n X.env (eval e X.env) = eval e X.env := by rfl) : PE X (.Attribute e n pos) (tFldH X.K n te) := by
  constructor
  intro pins s σ H Q I h
  refine attr_of hb (thn (he.run pins s σ H _ I h) ?_)
  rintro u s1 ⟨x, H1, I1, rx, a, D, fs, v, rfl, hf, T, no, l, q⟩
  cases (show u = Value.ref a from rx)
  obtain ⟨oe, od, J, look⟩ := fld_at I1 hf
  obtain ⟨w, e1, e2⟩ := look n v l
  exact HandSPX.exc_get I1.kIn J T.ga T.gg T.exC (PySem.W.findObj_own T.hdC no rfl e1) (handed_of e2) ⟨v, H1, I1.tok _, e2, q⟩
end
end HopR

set_option Elab.async false
set_option linter.all false
set_option maxRecDepth 100000
namespace HopR
open PySem L2
/-! ### data that can be shown -/
structure Okd (d : PyData) (k N : Nat) : Prop where
  sh : d.showable = true
  nd : d.hasDict = false
  dp : d.depth ≤ k
  ls : d.leavesShort 13 = true
  wt : d.weight ≤ N
structure Okds (ds : List PyData) (k N : Nat) : Prop where
  sh : PyData.showableAll ds = true
  nd : PyData.hasDictAll ds = false
  dp : PyData.depthAll ds ≤ k
  ls : PyData.leavesShortAll 13 ds = true
  wt : PyData.weightAll ds ≤ N
theorem Okds.nil {k : Nat} : Okds [] k 0 := ⟨rfl, rfl, Nat.zero_le _, rfl, Nat.le_refl _⟩
theorem Okds.cons {d : PyData} {ds : List PyData} {k N M : Nat} (a : Okd d k N) (b : Okds ds k M) : Okds (d :: ds) k (N + 1 + M) where
  sh := by simp only [PyData.showableAll, a.sh, b.sh, Bool.and_true]
  nd := by simp only [PyData.hasDictAll, a.nd, b.nd, Bool.or_false]
  dp := by
    simp only [PyData.depthAll]
    exact Nat.max_le.mpr ⟨a.dp, b.dp⟩
  ls := by simp only [PyData.leavesShortAll, a.ls, b.ls, Bool.and_true]
  wt := by
    simp only [PyData.weightAll]
    have := a.wt
    have := b.wt
    omega
theorem Okds.list {ds : List PyData} {k N : Nat} (a : Okds ds k N) : Okd (.list ds) (k + 1) N :=
  ⟨by simp only [PyData.showable, a.sh], by simp only [PyData.hasDict, a.nd], by simp only [PyData.depth]; exact Nat.succ_le_succ a.dp, by simp only [PyData.leavesShort, a.ls], by simp only [PyData.weight]; exact a.wt⟩
theorem Okds.tuple {ds : List PyData} {k N : Nat} (a : Okds ds k N) : Okd (.tuple ds) (k + 1) N :=
  ⟨by simp only [PyData.showable, a.sh], by simp only [PyData.hasDict, a.nd], by simp only [PyData.depth]; exact Nat.succ_le_succ a.dp, by simp only [PyData.leavesShort, a.ls], by simp only [PyData.weight]; exact a.wt⟩
theorem Okd.int {i : Int} {k : Nat} (h : i.natAbs < 1000000000000) : Okd (.int i) k 41 := by
  have hl : i.natAbs.log2 < 40 ∨ i.natAbs = 0 := by
    by_cases h0 : i.natAbs = 0
    · exact .inr h0
    · exact .inl ((Nat.log2_lt h0).mpr (by omega))
  have hl : i.natAbs.log2 < 40 := hl.elim id fun e => by
    rw [e]
    decide
  refine ⟨decide_eq_true (by omega), rfl, Nat.zero_le _, ?_, ?_⟩
  · simp only [PyData.leavesShort]
    exact decide_eq_true (PyData.shown_int_le h)
  · simp only [PyData.weight]
    split <;> omega
theorem Okd.bool {b : Bool} {k : Nat} : Okd (.bool b) k 0 := ⟨rfl, rfl, Nat.zero_le _, rfl, Nat.le_refl _⟩
theorem Okd.none {k : Nat} : Okd .none k 0 := ⟨rfl, rfl, Nat.zero_le _, rfl, Nat.le_refl _⟩
theorem Okd.tx {bs : List Bool} {k : Nat} : Okd (.str (tx bs)) k bs.length := by
  refine ⟨rfl, rfl, Nat.zero_le _, ?_, ?_⟩
  · simp only [PyData.leavesShort]
    rw [tx_list, List.all_map, List.all_eq_true]
    intro b _
    cases b <;> decide
  · simp only [PyData.weight]
    exact Nat.le_of_eq (tx_len bs)
theorem Okds.ints : ∀ {ks : List Nat} {k : Nat}, (∀ j ∈ ks, j < 1000000000000) → Okds (ks.map dw) k (42 * ks.length)
  | [], k, _ => Okds.nil
  | a :: r, k, h => by
    have h1 : Okd (dw a) k 41 := Okd.int (i := (a : Int)) (h a (List.mem_cons_self ..))
    have h2 : Okds (r.map dw) k (42 * r.length) := Okds.ints fun j hj => h j (List.mem_cons_of_mem _ hj)
    have := Okds.cons h1 h2
    rw [List.length_cons, show 42 * (r.length + 1) = 41 + 1 + 42 * r.length by omega]
    exact this
theorem Okd.mono {d : PyData} {k k' N N' : Nat} (a : Okd d k N) (hk : k ≤ k') (hN : N ≤ N') : Okd d k' N' := ⟨a.sh, a.nd, Nat.le_trans a.dp hk, a.ls, Nat.le_trans a.wt hN⟩
theorem Okd.fits {d : PyData} {k N : Nat} (a : Okd d k N) (hN : N ≤ 1048576) : d.shown.length ≤ sizeLine := PyData.shown_fits (B := 13) (by decide) (by decide) a.ls (Nat.le_trans a.wt hN)
end HopR

set_option Elab.async false
set_option linter.all false
set_option maxRecDepth 100000
namespace HopR
open PySem PySem.Spec PyProof.Rows L2
/-! ### what repr tells, of data and of the empty dict -/
section
variable {X : Cx}
def rReprE : List V → Hp → VK → Prop := fun vs H Q => ∃ a : Addr, vs = [.ref a] ∧ H a = some (.dK []) ∧ Q (.str (PyData.shown (.dict []))) H
theorem cr_reprE (hG : X.A.guards = some []) (hu : X.A.units + 66 < cLine) : CallR X (.builtin "repr") rReprE := by
  rintro pins s σ H _ us Q I r ⟨a, rfl, ha, q⟩
  obtain ⟨u, rfl, rv⟩ := vals1 r
  cases (show u = Value.ref a from rv)
  obtain ⟨_, hsys, vs, kv, o, es, ep, at1, at2, at3, at4, at5, at6⟩ := (show ObjOk X.prog X.w H s.heap a (.dK []) from I.hok a _ ha)
  cases kv
  have e0 : es.toList = [] := by
    generalize es.toList = l at at5
    cases at5
    rfl
  have rd : Reads s.heap (.ref a) (.dict []) (a :: [] ++ []) := Reads.dict at1 at2.1 at3 (by rw [e0]; exact .nil) (by rw [e0]; exact .nil)
  refine repr_of_reads' rd (by decide) (fun _ hm => ?_) hG (by show X.A.units + (1 + 1) < cLine; omega) (fun _ _ e => e) (fun h' t tk hk => ⟨.str _, H, I.kept hk, ⟨_, rfl⟩, q⟩) (by decide +kernel)
  have : sysModules = a := by simpa using hm
  rw [this] at hsys
  simp at hsys
/-- repr(y): data, or {} -/
def rReprA (K : PySem.W.Frag) : List V → Hp → VK → Prop := fun vs H Q => rReprD K vs H Q ∨ rReprE vs H Q
theorem cr_reprA (hG : X.A.guards = some []) (hu : X.A.units + 66 < cLine) : CallR X (.builtin "repr") (rReprA X.K) := by
  intro pins s σ H xs us Q I r h
  rcases h with h | h
  · exact cr_reprD hG hu pins s σ H xs us Q I r h
  · exact cr_reprE hG hu pins s σ H xs us Q I r h
end
/-- repr tells z of y, now and later -/
def ShownA (K : PySem.W.Frag) (H : Hp) (y : V) (z : Str) : Prop := ∀ H', Same H H' → ∀ Q : VK, Q (.str z) H' → rReprA K [y] H' Q
theorem shownA_same {K : PySem.W.Frag} {H H' : Hp} {y : V} {z : Str} (s : Same H H') (h : ShownA K H y z) : ShownA K H' y z := fun H2 s2 => h H2 (s.trans s2)
theorem shownA_of {K : PySem.W.Frag} {H : Hp} {y : V} {d : PyData} (h1 : ∀ H', Same H H' → Dp K H' y d) (h2 : d.showable = true) (h3 : d.hasDict = false) (h4 : d.depth ≤ 64) (h5 : d.shown.length ≤ sizeLine) : ∃ z, ShownA K H y z := ⟨d.shown, fun H' s Q q => .inl ⟨y, d, rfl, h1 H' s, h2, h3, h4, h5, q⟩⟩
theorem shownA_non {K : PySem.W.Frag} {H : Hp} : ∃ z, ShownA K H .non z := shownA_of (d := .none) (fun _ _ => .non) rfl rfl (by decide) (by decide +kernel)
theorem shownA_bl {K : PySem.W.Frag} {H : Hp} {b : Bool} : ∃ z, ShownA K H (.bl b) z := shownA_of (d := .bool b) (fun _ _ => .bl b) rfl rfl (by show 0 ≤ 64; decide) (by cases b <;> decide +kernel)
theorem shownA_0 {K : PySem.W.Frag} {H : Hp} : ∃ z, ShownA K H (.str "0") z := shownA_of (d := .str "0") (fun _ _ => .str "0") rfl rfl (by show 0 ≤ 64; decide) (by decide +kernel)
theorem shownA_int {K : PySem.W.Frag} {H : Hp} {i : Int} (h : i.natAbs < 1000000000000) : ∃ z, ShownA K H (.int i) z := by
  have o : Okd (.int i) 0 41 := Okd.int h
  exact shownA_of (d := .int i) (fun _ _ => .int i) o.sh o.nd (Nat.le_trans o.dp (by decide)) (o.fits (by decide))
theorem shownA_30 {K : PySem.W.Frag} {H : Hp} : ∃ z, ShownA K H (.int 1000000000000000000000000000000) z := shownA_of (d := .int _) (fun _ _ => .int _) (by decide +kernel) rfl (by show 0 ≤ 64; decide) (by decide +kernel)
theorem shownA_lst {K : PySem.W.Frag} {H : Hp} {p : Addr} {k : Nat} (h : k < 1000) (e : H p = some (.lst [wv k])) : ∃ z, ShownA K H (.ref p) z := by
  have o : Okd (.list ([k].map dw)) 1 (42 * 1) := (Okds.ints (ks := [k]) (k := 0) fun j hj => by
    obtain rfl := List.mem_singleton.mp hj
    omega).list
  exact shownA_of (d := .list ([k].map dw)) (fun H' s => .lst (SqL.of (s _ _ e)) (dp_walls [k])) o.sh o.nd (Nat.le_trans o.dp (by decide)) (o.fits (by decide))
theorem shownA_tup {K : PySem.W.Frag} {H : Hp} {p : Addr} {k : Nat} (h : k < 1000) (e : H p = some (.tup [wv k])) : ∃ z, ShownA K H (.ref p) z := by
  have o : Okd (.tuple ([k].map dw)) 1 (42 * 1) := (Okds.ints (ks := [k]) (k := 0) fun j hj => by
    obtain rfl := List.mem_singleton.mp hj
    omega).tuple
  exact shownA_of (d := .tuple ([k].map dw)) (fun H' s => .tup (SqT.of (s _ _ e)) (dp_walls [k])) o.sh o.nd (Nat.le_trans o.dp (by decide)) (o.fits (by decide))
theorem shownA_dK {K : PySem.W.Frag} {H : Hp} {p : Addr} (e : H p = some (.dK [])) : ∃ z, ShownA K H (.ref p) z := ⟨_, fun H' s Q q => .inr ⟨p, rfl, s _ _ e, q⟩⟩
end HopR

set_option Elab.async false
set_option linter.all false
set_option maxRecDepth 100000
namespace HopR
open PySem PySem.Spec PyProof.Rows L2
/-! ### C(e, ..) in a try, where __init__ may raise -/
def tMakeS (C : Addr) (sp : Sp) (E : L2.St → XK) (t : TA) : TE := fun σ H Q => t σ H fun vs H1 => ∀ x dx, H1 x = none → H1 dx = none → dx ≠ x → sp (.ref x :: vs) (upd (upd H1 dx (.own x)) x (.ins C dx [])) (fun v H2 => v = .non ∧ Q (.ref x) H2) (E σ)
section
variable {X : Cx} {CX : CXT} {k : Nat} {f C : Addr} {fd : FuncData} {ps : List Str} {sp : Sp} {E : L2.St → XK} {x : Str} {p pos : Pos} {e : Expr} {es : List Expr} {t : TA}
theorem pe_makeS (M : Mk X.K C f) (F : FnOk X.prog X.w X.K X.mg X.base CX k f fd ps sp) (hr : Room (k + 1) X.A) (hg : Gl X x) (hm : X.mg x = some (.ref C)) (hb : Binds X.K fd ps []) (hx : ∀ σ, PassesAt CX X σ (E σ))
    (ha : PA X (e :: es) t) (hdb : (x == ("__debug__" : Str)) = false := by decide) (he : starEach (e :: es) X.env = (false, eval e X.env) :: starEach es X.env := by rfl) (hpl : (backTo pos (starEach es X.env)).any (·.1) = false := by rfl) :
    PE X (.Call (.Name x p) (e :: es) [] pos) (tMakeS C sp E t) := by
  constructor
  intro pins s0 σ H0 Q I0 h0
  refine wpAny_Call_Name_kw (ld_glob I0 hg hm ?_ hdb)
  refine PySem.W.callWith_K (h₀ := X.base) I0.ok.mod.kin M.kp ?_ he hpl
  refine thn (ha.run pos pins s0 σ H0 _ I0 h0) ?_
  rintro us s ⟨vs, H, I, r, h⟩
  refine ⟨I.kIn, ?_⟩
  have hq := h (s.heap.objs.size + 1) s.heap.objs.size (I.hok.fresh (Nat.le_succ _)) (I.hok.fresh (Nat.le_refl _)) (Nat.ne_of_lt (Nat.lt_succ_self _))
  have J := Inv.made (C := C) I
  have r2 : Vals (V.ref (s.heap.objs.size + 1) :: vs) (Value.ref (s.heap.objs.size + 1) :: us) := .cons rfl r
  have hl : (Value.ref (s.heap.objs.size + 1) :: us).length = ps.length := r2.length.symm.trans (F.len _ _ _ _ hq)
  have hbi := hb _ (Value.ref (s.heap.objs.size + 1) :: us) J.kIn (by rw [List.append_nil]; exact hl)
  rw [List.append_nil] at hbi
  have run := F.run _ X.stack _ _ ⟨Value.ref (s.heap.objs.size + 1) :: us, []⟩ _ _ _ (E σ) (hr.make C us []) (J.env0.make C us []) hbi r2 hq
  refine wpAny_call (make_map (f := f) I.kIn M.makes M.init (beq_iff_eq.mp M.fn) (codeAny_mono run ?_))
  intro r s' hq'
  match r, hq' with
  | .error e, hq' => exact hx σ pins _ _ e s' J hq'
  | .ok (.ret u), hq' =>
    obtain ⟨v, H', I3, rv, ev, q3⟩ := J.after hq'
    subst ev
    exact ⟨rv, V.ref (s.heap.objs.size + 1), H', I3, rfl, q3⟩
  | .ok .next, hq' => exact hq'.elim
  | .ok .brk, hq' => exact hq'.elim
  | .ok .cont, hq' => exact hq'.elim
end
end HopR

set_option Elab.async false
set_option linter.all false
set_option maxRecDepth 100000
namespace HopR
open PySem PySem.Spec PyProof.Rows L2
/-! ### o.m(e, ..) in a try, where the method may raise: the wish may speak of the names' values -/
def tMethT (C : Addr) (m : Str) (sp : Sp) (E : L2.St → XK) (to : TE) (t : TA) : TE := fun σ H Q => to σ H fun x H1 => ∃ a dx fs, x = .ref a ∧ H1 a = some (.ins C dx fs) ∧ fs.lookup m = none ∧ t σ H1 fun vs H2 => sp (.ref a :: vs) H2 Q (E σ)
section
variable {X : Cx} {CX : CXT} {k : Nat} {f C : Addr} {fd : FuncData} {ps : List Str} {sp : Sp} {E : L2.St → XK} {m : Str} {apos pos : Pos} {o e : Expr} {es : List Expr} {to : TE} {t : TA}
theorem pe_methT {pl : Sem Bool} (ho : PE X o to) (c : Cls X.K C) (hm : Meth X.K C m f) (F : FnOk X.prog X.w X.K X.mg X.base CX k f fd ps sp) (hr : Room k X.A) (hb : Binds X.K fd ps []) (hx : ∀ σ, PassesAt CX X σ (E σ)) (ha : PA X (e :: es) t)
    (h1 : starEach (e :: es) X.env = (false, eval e X.env) :: starEach es X.env := by rfl) (h2 : (backTo pos (starEach es X.env)).any (·.1) = false := by rfl)
    (h3 : eval (.Call (.Attribute o m apos) (e :: es) [] pos) X.env = (do
      let ov ← eval o X.env
      standAt apos.atName
      let (g, first) ← holding [ov] (getMethod ov m pl)
      callWith pos g first (backTo pos (starEach (e :: es) X.env)) (backToKw pos (keywordEach [] X.env))) := by rfl) :
    PE X (.Call (.Attribute o m apos) (e :: es) [] pos) (tMethT C m sp E to t) := by
  constructor
  intro pins s0 σ H0 Q I0 h0
  refine PySem.W.methodCall_KW (pl := pl) (thn (ho.run pins s0 σ H0 _ I0 h0) ?_) h3
  rintro u s1 ⟨x, H1, I1, rx, a, dx, fs, rfl, ea, no, q⟩
  cases (show u = Value.ref a from rx)
  refine getmeth_ok I1 ea c hm no ?_
  refine PySem.W.callWith_K (first := [.ref a]) (h₀ := X.base) I0.ok.mod.kin hm.kp (thn (ha.run pos pins s1 σ H1 _ I1 q) ?_) h1 h2
  rintro us s ⟨vs, H, I, r, prom⟩
  refine ⟨I.kIn, ?_⟩
  have vals : Vals (V.ref a :: vs) (Value.ref a :: us) := .cons rfl r
  have len : (Value.ref a :: us).length = ps.length := vals.length.symm.trans (F.len _ _ _ _ prom)
  have bound := hb s (Value.ref a :: us) I.kIn (by rw [List.append_nil]; exact len)
  rw [List.append_nil] at bound
  refine wpAny_call (codeAny_mono (F.run X.A X.stack s H ⟨Value.ref a :: us, []⟩ _ _ Q (E σ) hr I.env0 bound vals prom) ?_)
  intro res s' z
  match res, z with
  | .error er, z => exact hx σ pins _ _ er s' I z
  | .ok (.ret _), z => exact I.after z
  | .ok .next, z => exact z.elim
  | .ok .brk, z => exact z.elim
  | .ok .cont, z => exact z.elim
end
end HopR

set_option Elab.async false
set_option linter.all false
set_option maxRecDepth 100000
namespace HopR
open PySem PySem.Spec PyProof.Rows L2
/-! ### sep.join(reversed(xs)), xs a list of texts -/
theorem gives_join (a : Str) : ∀ (l : List (Str × Tok)), Builtin.Str.tooLong ((l.map (·.1)).toArray.foldl (· + ·.length + a.length) 0) = false → Gives (joinTail a (strValues l)) (joinMade a l)
  | [], ok => gives_joinTail a [] ok
  | [p], ok => gives_joinTail a [p] ok
  | p :: q :: r, ok => gives_joinTail a (p :: q :: r) ok
section
variable {X : Cx}
def tJoinRev (K : PySem.W.Frag) (to te : TE) : TE := fun σ H Q => to σ H fun x H1 => (∃ a, x = .str a) ∧ te σ H1 fun v H2 => ∃ (a : Str) (q : Addr) (ts : List Str), x = .str a ∧ v = .ref q ∧ SqL K H2 q (ts.map V.str) ∧ (ts.map (·.length)).sum + ts.length * a.length ≤ 16777216 ∧ Q (.str (Txt.join a ts.reverse)) H2
theorem join_back {A : Around} {E : Value → Shared → Prop} {pins : List (Addr × Obj)} {σ : L2.St} {H : Hp} {s : Shared} {Q : Value → Shared → Prop} {q : Addr} {a : Str} {t : Tok} {ts : List Str} (I : Inv X pins σ H s) (handled : A.handled = none) (hq : SqL X.K H q (ts.map V.str)) (fits : (ts.map (·.length)).sum + ts.length * a.length ≤ 16777216)
    (good : ∀ s' u, Inv X pins σ H s' → Q (.str (Txt.join a ts.reverse) u) s') :
    wpAny (model X.prog X.w) A (call (.type "reversed") [.ref q]) (fun v s1 => wpAny (model X.prog X.w) A (call (.builtin "str.join") [.str a t, v]) Q E s1) E s := by
  obtain ⟨its, rv, plain, few⟩ := I.list hq
  have at_ := plain.isList
  obtain ⟨o, ho, _⟩ := id at_
  have ne : q ≠ s.heap.objs.size := Nat.ne_of_lt (Heap.lt_size ho)
  have size : its.toArray.size ≤ sizeLine := by
    rw [List.size_toArray, ← rv.length]
    exact few
  obtain ⟨f0, f1, f2, f3, f4, f5⟩ := I.fpOk (H' := H) (b := s.heap.objs.size) (Nat.le_refl _) (I.hok.fresh (Nat.le_refl _))
  refine call_reversed_list at_ ?_
  have I2 : Inv X pins σ H { s with heap := s.heap.push (revObj q ((its.toArray.size : Int) - 1)) } := I.kept (t' := s.toks) fun b o e => Heap.get?_push_of_some _ e
  have it : (s.heap.push (revObj q ((its.toArray.size : Int) - 1))).IsRevIter s.heap.objs.size q ((its.toArray.size : Int) - 1) := ⟨_, Heap.get?_push_size _ rfl, rfl, rfl⟩
  have lst := at_.push (revObj q ((its.toArray.size : Int) - 1))
  generalize s.heap.push (revObj q ((its.toArray.size : Int) - 1)) = h1 at I2 it lst
  have walk := Walks.listRev (prog := X.prog) (w := X.w) (A := A.in1) handled s.heap.objs.size q ne its.toArray
  refine wpAny_call (codeAny_call_builtin F.slot_str_join.plain F.entry_str_join (F.slot_str_join.check _ _ _ _ _ _ _ _ (typeIs_str _ _ _) (F.args_str_join_2 _ _) ?_))
  rw [join_tree_other]
  refine wpAny_bind (wpAny_typeOf (it.typeIs (s := { s with heap := h1 })) ?_)
  show wpAny _ A.in1 ((pyIter (.ref s.heap.objs.size)).tryCatch _ >>= fun i => collect i >>= fun items => joinTail a items) _ _ _
  refine wpAny_bind (wpAny_tryCatch (walk.self 0 { s with heap := h1 } _ _ ⟨Nat.zero_le _, by simpa using it, lst⟩ (wpAny_bind ?_)))
  refine RT.collect_rev (s := { s with heap := h1 }) (A := A.in1) handled it lst ne size fun h' tk acc keep are => ?_
  have I3 : Inv X pins σ H { s with heap := h', toks := tk } := I2.turned (t' := tk) (fun b o hb e => keep b o hb e) f0 f1 f3 f4 f5
  have back := RT.vals_rev rv are
  rw [← List.map_reverse] at back
  obtain ⟨l, el, e1⟩ := texts_of back
  rw [el]
  have fits2 : (ts.reverse.map (·.length)).sum + ts.reverse.length * a.length ≤ 16777216 := by
    rw [List.map_reverse, List.sum_reverse, List.length_reverse]
    exact fits
  have ok := joinOk_of fits2
  rw [← e1] at ok
  unfold JoinOk at ok
  rw [Bool.not_eq_true'] at ok
  have gives := gives_join a l ok
  have told : ∀ u k, Q (.str (Txt.join a (l.map (·.1))) u) { s with heap := h', toks := k } := fun u k => by
    rw [e1]
    exact good _ u (I3.tok k)
  exact gives X.prog X.w A (wants Q E) _ (post_join l ⟨joinFit_length ok, told⟩)
theorem pe_joinRev {o e : Expr} {to te : TE} {apos pos p pos2 : Pos} (hc : X.calm = true) (ho : PE X o to) (hg : Gl X "reversed") (hm : X.mg "reversed" = none) (he : PE X e te)
    (hs1 : starEach [.Call (.Name "reversed" p) [e] [] pos2] X.env = [(false, eval (.Call (.Name "reversed" p) [e] [] pos2) X.env)] := by rfl) (hs : starEach [e] X.env = (false, eval e X.env) :: starEach [] X.env := by rfl)
    (hbase : attributeBase o "join" X.env (eval o X.env) = eval o X.env := by rfl) (hline : (apos.endLine == pos.line) = true := by rfl) :
    PE X (.Call (.Attribute o "join" apos) [.Call (.Name "reversed" p) [e] [] pos2] [] pos) (tJoinRev X.K to te) := by
  constructor
  intro pins s σ H Q I h
  refine PySem.Call_method1 hbase hs1 hline (thn (ho.run pins s σ H _ I h) ?_)
  rintro v s1 ⟨x, H1, I1, r1, ⟨a, rfl⟩, q1⟩
  obtain ⟨t, rfl⟩ := r1
  refine ⟨"str", _, F.plainAttrs_str, F.slot_str_join, F.type_str_join, typeIs_str _ _ _, (fun _ e => nomatch e), Calls.callWith_builtin rfl (Calls.evalArgs_plain (Calls.spliced_cons ?_))⟩
  refine wpAny_Call_Name_kw (ld_blt I1 hg hm PyProof.Rows.boot_reversed (PyProof.Rows.callWith_type1 (args_cons (thn (he.run pins s1 σ H1 _ I1 q1) ?_) hs) hs rfl))
  rintro u s2 ⟨y, H2, I2, r2, a', q, ts, ea, rfl, hq, fits, good⟩
  cases ea
  cases (show u = Value.ref q from r2)
  refine args_nil ?_
  refine wpAny_mono (join_back (X := X) (E := X.xe) (Q := EP X pins σ Q) I2 (I2.ok.hd hc) hq fits fun s' u I' => ⟨.str _, H2, I', ⟨u, rfl⟩, good⟩) (fun v s4 h4 => Calls.spliced_nil h4) fun _ _ z => z
end
end HopR

set_option Elab.async false
set_option linter.all false
set_option maxRecDepth 100000
set_option exponentiation.threshold 200000
namespace HopR
open PySem PySem.Spec PyProof.Rows L2
/-! ### a whole number written piece by piece -/
def pcs (r : Nat) : List Str := if h : 10 ^ 64 ≤ r then Txt.zfill (Str.ofString (toString (((r % 10 ^ 64 : Nat) : Int)))) 64 :: pcs (r / 10 ^ 64) else [Str.ofString (toString ((r : Nat) : Int))]
termination_by r
decreasing_by exact Nat.div_lt_self (Nat.lt_of_lt_of_le (by decide) h) (by decide)
theorem pcs_big {r : Nat} (h : 10 ^ 64 ≤ r) : pcs r = Txt.zfill (Str.ofString (toString (((r % 10 ^ 64 : Nat) : Int)))) 64 :: pcs (r / 10 ^ 64) := by
  rw [pcs, dif_pos h]
theorem pcs_small {r : Nat} (h : r < 10 ^ 64) : pcs r = [Str.ofString (toString ((r : Nat) : Int))] := by
  rw [pcs, dif_neg (Nat.not_le.mpr h)]
theorem pcs_len : ∀ (k r : Nat), r < 10 ^ (64 * (k + 1)) → (pcs r).length ≤ k + 1
  | 0, r, h => by
    rw [pcs_small h]
    exact Nat.le_refl _
  | k + 1, r, h => by
    by_cases hb : 10 ^ 64 ≤ r
    · rw [pcs_big hb, List.length_cons]
      refine Nat.succ_le_succ (pcs_len k _ ?_)
      refine Nat.div_lt_of_lt_mul ?_
      rw [← Nat.pow_add]
      exact Nat.lt_of_lt_of_le h (Nat.pow_le_pow_right (by decide) (by omega))
    · rw [pcs_small (Nat.not_le.mp hb)]
      exact Nat.succ_le_succ (Nat.zero_le _)
theorem zfill_len (x : Str) (n : Nat) : (Txt.zfill x (n : Int)).length ≤ x.length + n + 1 := by
  unfold Txt.zfill
  split
  · omega
  · unfold zfilled
    have key : ∀ c, x.cps[0]? = some c → 1 ≤ x.length := fun c hc => (Array.getElem?_eq_some_iff.mp hc).1
    split
    · rename_i hc
      rw [size_cat, size_padded, size_strSub x 0 1 (key _ hc), size_strSub x 1 x.length (Nat.le_refl _)]
      omega
    · rename_i hc
      rw [size_cat, size_padded, size_strSub x 0 1 (key _ hc), size_strSub x 1 x.length (Nat.le_refl _)]
      omega
    · rw [size_padded]
      omega
theorem pcs_fit : ∀ (k r : Nat), r < 10 ^ (64 * (k + 1)) → ∀ z ∈ pcs r, z.length ≤ 129
  | 0, r, h, z, hz => by
    rw [pcs_small h] at hz
    rw [List.mem_singleton.mp hz]
    exact Nat.le_trans (toString_length_le (k := 64) (Int.natCast_nonneg _) (by decide) (by exact_mod_cast h)) (by decide)
  | k + 1, r, h, z, hz => by
    by_cases hb : 10 ^ 64 ≤ r
    · rw [pcs_big hb] at hz
      rcases List.mem_cons.mp hz with rfl | hz
      · have h1 : (Str.ofString (toString (((r % 10 ^ 64 : Nat) : Int)))).length ≤ 64 := toString_length_le (Int.natCast_nonneg _) (by decide) (by exact_mod_cast (Nat.mod_lt r (by decide)))
        have h2 := zfill_len (Str.ofString (toString (((r % 10 ^ 64 : Nat) : Int)))) 64
        exact Nat.le_trans h2 (by omega)
      · refine pcs_fit k _ ?_ z hz
        refine Nat.div_lt_of_lt_mul ?_
        rw [← Nat.pow_add]
        exact Nat.lt_of_lt_of_le h (Nat.pow_le_pow_right (by decide) (by omega))
    · have hb := Nat.not_le.mp hb
      rw [pcs_small hb] at hz
      rw [List.mem_singleton.mp hz]
      exact Nat.le_trans (toString_length_le (k := 64) (Int.natCast_nonneg _) (by decide) (by exact_mod_cast hb)) (by decide)
/-- the text -/
def fig (n : Nat) : Str := Txt.join "" (pcs n).reverse
theorem wide_38 {n : Nat} (h : n < 2 ^ 8000) : n < 10 ^ (64 * (37 + 1)) := Nat.lt_of_lt_of_le h (by decide)
theorem by_piece (i : Int) : Builtin.divisionGoesByPylong i 10000000000000000000000000000000000000000000000000000000000000000 = false := by
  unfold Builtin.divisionGoesByPylong
  exact Bool.and_eq_false_iff.mpr (.inl (by decide))
end HopR

set_option Elab.async false
set_option linter.all false
set_option maxRecDepth 100000
namespace HopR
open PySem PySem.Spec PyProof.Rows L2
/-! ### numbers: // by any number but 0 -/
def CDivWN (_ j : Int) : Prop := j ≠ 0 ∧ j.natAbs.log2 < 9000
theorem op_fdivWN {X : Cx} : OpR X (binaryOp .FloorDiv) (rI CDivWN fun i j => .int (i.fdiv j)) := opI fun i j _ _ _ _ _ hc q => floordiv_int hc.1 q (.inl (PyProof.noPylong_of_log2 hc.2))
theorem gcd_fmod (a b : Int) : Int.gcd b (a.fmod b) = Int.gcd a b := by
  rw [Int.fmod_def, Int.mul_comm, Int.gcd_sub_mul_right_right, Int.gcd_comm]
theorem fmod_less (a : Int) {b : Int} (h : b ≠ 0) : (a.fmod b).natAbs < b.natAbs := by
  have h1 := Int.emod_nonneg a h
  have h2 := Int.emod_lt a h
  rw [Int.fmod_eq_emod]
  by_cases h3 : 0 ≤ b ∨ b ∣ a
  · rw [if_pos h3]
    omega
  · rw [if_neg h3]
    have h4 : a % b ≠ 0 := fun e => h3 (.inr (Int.dvd_of_emod_eq_zero e))
    have h5 : b < 0 := by
      refine Int.not_le.mp fun e => h3 (.inl e)
    omega
/-! ### fractions -/
theorem low_num {t b : Int} (h : b ≠ 0) : (t.fdiv (if b < 0 then -(Int.gcd t b : Int) else (Int.gcd t b : Int))) = (Rat.divInt t b).num := by
  have hd : ((Int.gcd t b : Nat) : Int) ∣ t := Int.gcd_dvd_left ..
  rw [Rat.num_divInt, Int.gcd_comm b t]
  by_cases hb : b < 0
  · rw [if_pos hb, Int.fdiv_eq_ediv_of_dvd (by rw [Int.neg_dvd]; exact hd), Int.ediv_neg, Int.sign_eq_neg_one_of_neg hb, Int.neg_one_mul, Int.neg_ediv_of_dvd hd]
  · have hb2 : 0 < b := by omega
    rw [if_neg hb, Int.fdiv_eq_ediv_of_dvd hd, Int.sign_eq_one_of_pos hb2, Int.one_mul]
theorem low_den {t b : Int} (h : b ≠ 0) : (b.fdiv (if b < 0 then -(Int.gcd t b : Int) else (Int.gcd t b : Int))) = ((Rat.divInt t b).den : Int) := by
  have hd : ((Int.gcd t b : Nat) : Int) ∣ b := Int.gcd_dvd_right ..
  rw [Rat.den_divInt, if_neg h, Int.gcd_comm b t]
  rw [Int.natCast_ediv]
  by_cases hb : b < 0
  · rw [if_pos hb, Int.fdiv_eq_ediv_of_dvd (by rw [Int.neg_dvd]; exact hd), Int.ediv_neg, Int.ofNat_natAbs_of_nonpos (by omega), Int.neg_ediv_of_dvd hd]
  · rw [if_neg hb, Int.fdiv_eq_ediv_of_dvd hd, Int.natAbs_of_nonneg (by omega)]
theorem gcd_pos {t b : Int} (h : b ≠ 0) : 0 < Int.gcd t b := Int.gcd_pos_of_ne_zero_right _ h
/-- both numbers of the fraction are below 2 ^ n -/
def Sz (n : Nat) (q : Rat) : Prop := q.num.natAbs < 2 ^ n ∧ q.den < 2 ^ n
theorem Sz.mono {n m : Nat} {q : Rat} (h : Sz n q) (hm : n ≤ m) : Sz m q := ⟨Nat.lt_of_lt_of_le h.1 (Nat.pow_le_pow_right (by decide) hm), Nat.lt_of_lt_of_le h.2 (Nat.pow_le_pow_right (by decide) hm)⟩
theorem sz_divInt {t b : Int} {n : Nat} (h : b ≠ 0) (ht : t.natAbs < 2 ^ n) (hb : b.natAbs < 2 ^ n) : Sz n (Rat.divInt t b) := by
  have g := gcd_pos (t := t) h
  constructor
  · rw [Rat.num_divInt]
    refine Nat.lt_of_le_of_lt (Int.natAbs_ediv_le_natAbs _ _) ?_
    rw [Int.natAbs_mul]
    rcases Int.lt_or_gt_of_ne h with h | h
    · rw [Int.sign_eq_neg_one_of_neg h]; simpa using ht
    · rw [Int.sign_eq_one_of_pos h]; simpa using ht
  · rw [Rat.den_divInt, if_neg h]
    exact Nat.lt_of_le_of_lt (Nat.div_le_self _ _) hb
theorem den_ne (q : Rat) : ((q.den : Nat) : Int) ≠ 0 := by
  have := q.den_nz
  omega
theorem pos_two (n : Nat) : 0 < 2 ^ n := Nat.pow_pos (by decide)
theorem two_lt {a b : Nat} {n : Nat} (ha : a < 2 ^ n) (hb : b < 2 ^ n) : a + b < 2 ^ (n + 1) := by
  rw [Nat.pow_succ]
  omega
theorem add_eq (q r : Rat) : q + r = Rat.divInt (q.num * r.den + r.num * q.den) ((q.den : Int) * (r.den : Int)) := by
  conv => lhs; rw [← Rat.num_divInt_den q, ← Rat.num_divInt_den r]
  exact Rat.divInt_add_divInt _ _ (den_ne q) (den_ne r)
theorem sub_eq (q r : Rat) : q - r = Rat.divInt (q.num * r.den - r.num * q.den) ((q.den : Int) * (r.den : Int)) := by
  conv => lhs; rw [← Rat.num_divInt_den q, ← Rat.num_divInt_den r]
  exact Rat.divInt_sub_divInt _ _ (den_ne q) (den_ne r)
theorem mul_eq (q r : Rat) : q * r = Rat.divInt (q.num * r.num) ((q.den : Int) * (r.den : Int)) := by
  conv => lhs; rw [← Rat.num_divInt_den q, ← Rat.num_divInt_den r]
  exact Rat.divInt_mul_divInt _ _
theorem div_eq (q r : Rat) : q / r = Rat.divInt (q.num * r.den) ((q.den : Int) * r.num) := by
  rw [Rat.div_def]
  conv => lhs; rw [← Rat.num_divInt_den q, ← Rat.num_divInt_den r]
  rw [Rat.inv_divInt]
  exact Rat.divInt_mul_divInt _ _
end HopR

set_option Elab.async false
set_option linter.all false
set_option maxRecDepth 100000
namespace HopR
open PySem PySem.Spec PyProof.Rows L2
/-! ### products, divided out crosswise -/
theorem mul_num (q r : Rat) : (q.num.fdiv (Int.gcd q.num (r.den : Int) : Int)) * (r.num.fdiv (Int.gcd r.num (q.den : Int) : Int)) = (q * r).num := by
  have h1 : ((Int.gcd q.num (r.den : Int) : Nat) : Int) ∣ q.num := Int.gcd_dvd_left ..
  have h2 : ((Int.gcd r.num (q.den : Int) : Nat) : Int) ∣ r.num := Int.gcd_dvd_left ..
  rw [Int.fdiv_eq_ediv_of_dvd h1, Int.fdiv_eq_ediv_of_dvd h2]
  show _ = (Rat.mul q r).num
  unfold Rat.mul
  rfl
theorem mul_den (q r : Rat) : ((q.den : Int).fdiv (Int.gcd r.num (q.den : Int) : Int)) * ((r.den : Int).fdiv (Int.gcd q.num (r.den : Int) : Int)) = ((q * r).den : Int) := by
  have h1 : ((Int.gcd q.num (r.den : Int) : Nat) : Int) ∣ (r.den : Int) := Int.gcd_dvd_right ..
  have h2 : ((Int.gcd r.num (q.den : Int) : Nat) : Int) ∣ (q.den : Int) := Int.gcd_dvd_right ..
  rw [Int.fdiv_eq_ediv_of_dvd h1, Int.fdiv_eq_ediv_of_dvd h2]
  show _ = ((Rat.mul q r).den : Int)
  unfold Rat.mul
  rfl
end HopR

set_option Elab.async false
set_option linter.all false
set_option maxRecDepth 100000
namespace HopR
open PySem L2
/-! ### fractions above nought -/
theorem num_pos {q : Rat} (h : 0 < q) : 0 < q.num := by
  have h1 : 0 ≤ q.num := Rat.num_nonneg.mpr (by grind)
  have h2 : q.num ≠ 0 := fun e => by
    have : q = 0 := Rat.num_eq_zero.mp e
    rw [this] at h
    exact absurd h (by decide)
  omega
theorem pos_num {q : Rat} (h : 0 < q.num) : 0 < q := by
  have h1 : 0 ≤ q := Rat.num_nonneg.mp (by omega)
  have h2 : q ≠ 0 := fun e => by
    rw [e] at h
    exact absurd h (by decide)
  grind
theorem add_above {x y : Rat} (h : 0 ≤ y) (h2 : 0 < x) : 0 < y + x := by grind
theorem le_above {x : Rat} (h : 0 < x) : 0 ≤ x := by grind
theorem div_ne {q r : Rat} (h : 0 < q) (h2 : 0 < r) : q / r ≠ 0 := by
  rw [Rat.div_def]
  intro e
  rcases Rat.mul_eq_zero.mp e with e | e
  · rw [e] at h
    exact absurd h (by decide)
  · have h3 : r = 0 := by rw [← Rat.inv_inv r, e, Rat.inv_zero]
    rw [h3] at h2
    exact absurd h2 (by decide)
theorem ne_above {x : Rat} (h : 0 < x) : x ≠ 0 := fun e => by
  rw [e] at h
  exact absurd h (by decide)
theorem nat_low (n : Nat) : (0 : Rat) ≤ ((n : Int) : Rat) := by exact_mod_cast Nat.zero_le n
theorem nat_above {n : Nat} (h : 0 < n) : (0 : Rat) < ((n : Int) : Rat) := by exact_mod_cast h
theorem rat_int (t : Int) : Rat.divInt t 1 = (t : Rat) := by
  rw [Rat.divInt_eq_div]
  show (t : Rat) / ((1 : Int) : Rat) = (t : Rat)
  rw [Rat.div_def]
  have e : ((1 : Int) : Rat)⁻¹ = 1 := by decide +kernel
  rw [e, Rat.mul_one]
theorem sz_int {n k : Nat} (h : n < 2 ^ k) (hk : 1 ≤ k) : Sz k ((n : Int) : Rat) := by
  refine ⟨h, ?_⟩
  show 1 < 2 ^ k
  exact Nat.one_lt_two_pow (by omega)
theorem sz_add {n m : Nat} {q r : Rat} (h1 : Sz n q) (h2 : Sz m r) : Sz (n + m + 1) (q + r) := by
  rw [add_eq]
  have b1 : (q.num * r.den).natAbs < 2 ^ (n + m) := by
    rw [Int.natAbs_mul, Nat.pow_add]
    exact Nat.mul_lt_mul'' h1.1 h2.2
  have b2 : (r.num * q.den).natAbs < 2 ^ (n + m) := by
    rw [Int.natAbs_mul, Nat.add_comm, Nat.pow_add]
    exact Nat.mul_lt_mul'' h2.1 h1.2
  refine sz_divInt (Int.mul_ne_zero (den_ne q) (den_ne r)) ?_ ?_
  · exact Nat.lt_of_le_of_lt (Int.natAbs_add_le _ _) (two_lt b1 b2)
  · rw [Int.natAbs_mul]
    have h3 : q.den * r.den < 2 ^ (n + m) := by
      rw [Nat.pow_add]
      exact Nat.mul_lt_mul'' h1.2 h2.2
    exact Nat.lt_of_lt_of_le h3 (Nat.pow_le_pow_right (by decide) (by omega))
theorem sz_mul {n m : Nat} {q r : Rat} (h1 : Sz n q) (h2 : Sz m r) : Sz (n + m) (q * r) := by
  rw [mul_eq]
  refine sz_divInt (Int.mul_ne_zero (den_ne q) (den_ne r)) ?_ ?_
  · rw [Int.natAbs_mul, Nat.pow_add]
    exact Nat.mul_lt_mul'' h1.1 h2.1
  · rw [Int.natAbs_mul, Nat.pow_add]
    exact Nat.mul_lt_mul'' h1.2 h2.2
theorem sz_inv {n : Nat} {r : Rat} (h : Sz n r) (h0 : r ≠ 0) : Sz n r⁻¹ := by
  rw [Rat.inv_def]
  exact sz_divInt (fun e => h0 (Rat.num_eq_zero.mp e)) h.2 h.1
theorem sz_div {n m : Nat} {q r : Rat} (h1 : Sz n q) (h2 : Sz m r) (h0 : r ≠ 0) : Sz (n + m) (q / r) := by
  rw [Rat.div_def]
  exact sz_mul h1 (sz_inv h2 h0)
/-! ### walls -/
theorem two_in {l : List Nat} {a b : Nat} (ha : a ∈ l) (hb : b ∈ l) (h : a ≠ b) : 2 ≤ l.length := by
  match l, ha, hb with
  | [x], ha, hb =>
    have h1 := List.mem_singleton.mp ha
    have h2 := List.mem_singleton.mp hb
    omega
  | _ :: _ :: _, _, _ => simp
theorem one_in {l : List Nat} {a : Nat} (ha : a ∈ l) : 1 ≤ l.length := by
  match l, ha with
  | _ :: _, _ => simp
end HopR

set_option Elab.async false
set_option linter.all false
set_option maxRecDepth 100000
namespace HopR
open PySem L2
/-! ### texts by their codes -/
def rt (cs : List Nat) : Str := ⟨cs.toArray⟩
def one (c : Nat) : Str := ⟨#[c]⟩
theorem rt_list (cs : List Nat) : (rt cs).cps.toList = cs := by simp [rt]
theorem rt_len (cs : List Nat) : (rt cs).length = cs.length := by
  show cs.toArray.size = cs.length
  simp
theorem rt_of (z : Str) : rt z.cps.toList = z := ext_str (rt_list _)
theorem rt_inj {a b : List Nat} (h : rt a = rt b) : a = b := by
  have := congrArg (fun q : Str => q.cps.toList) h
  simpa only [rt_list] using this
theorem rt_app (a b : List Nat) : rt a ++ rt b = rt (a ++ b) := by
  apply ext_str
  rw [rt_list]
  show ((rt a).cps ++ (rt b).cps).toList = a ++ b
  rw [Array.toList_append, rt_list, rt_list]
theorem rt_fit {cs : List Nat} (h : cs.length ≤ 10000) : (rt cs).length ≤ sizeLine := by
  rw [rt_len]
  exact fit h
theorem sg_rt (cs : List Nat) : sg (rt cs) = cs.map one := by
  unfold sg
  rw [rt_list]
  rfl
theorem join_rt (cs : List Nat) : Txt.join "" (cs.map one) = rt cs := by
  apply ext_str
  rw [join0_list, List.map_map, rt_list]
  induction cs with
  | nil => rfl
  | cons b r ih =>
    rw [List.map_cons, List.flatten_cons, ih]
    rfl
theorem ones_sum : ∀ cs : List Nat, ((cs.map one).map (·.length)).sum = cs.length
  | [] => rfl
  | c :: r => by
    rw [List.map_cons, List.map_cons, List.sum_cons, ones_sum r]
    show 1 + r.length = r.length + 1
    omega
theorem join_rt_fits {cs : List Nat} (h : cs.length ≤ 1000) : ((cs.map one).map (·.length)).sum + (cs.map one).length * ("" : Str).length ≤ 16777216 := by
  have e : ("" : Str).length = 0 := by decide +kernel
  rw [ones_sum, e, Nat.mul_zero]
  omega
theorem cut_rt (cs : List Nat) (lo hi : Option Int) : cutS (rt cs) lo hi = rt ((cs.drop (HT.sIx cs.length 0 lo)).take (HT.sIx cs.length cs.length hi - HT.sIx cs.length 0 lo)) := by
  apply ext_str
  unfold cutS
  rw [rt_len, rt_list, rt_list]
theorem cut_rt_to (cs : List Nat) (k : Nat) : cutS (rt cs) none (some (k : Int)) = rt (cs.take k) := by
  rw [cut_rt, HT.sIx_none, HT.sIx_nat, List.drop_zero, Nat.sub_zero]
  by_cases h : k ≤ cs.length
  · rw [Nat.min_eq_left h]
  · rw [Nat.min_eq_right (by omega), List.take_length, List.take_of_length_le (by omega)]
theorem cut_rt_from (cs : List Nat) (k : Nat) : cutS (rt cs) (some (k : Int)) none = rt (cs.drop k) := by
  rw [cut_rt, HT.sIx_none, HT.sIx_nat]
  by_cases h : k ≤ cs.length
  · rw [Nat.min_eq_left h, List.take_of_length_le (by rw [List.length_drop]; exact Nat.le_refl _)]
  · rw [Nat.min_eq_right (by omega), List.drop_length, List.drop_of_length_le (by omega), List.take_nil]
theorem one_inj {a b : Nat} (h : one a = one b) : a = b := by
  have := congrArg (fun q : Str => q.cps.toList) h
  exact (List.cons.inj this).1
theorem one_eq (a b : Nat) : (one a == one b) = decide (a = b) := by
  by_cases h : a = b
  · subst h
    simp
  · rw [decide_eq_false h]
    have : ¬ (one a = one b) := fun z => h (one_inj z)
    simp [this]
/-! ### signs in a written dict -/
theorem find_key (c : Nat) : ∀ (ts : List Nat) (L : List DictEntry), L.map (fun e => keyText e.key) = ts.map (fun q => some (one q)) → (L.find? (·.key.isStr (one c))).isSome = decide (c ∈ ts) ∧ L.any (·.refKey) = false
  | [], [], _ => ⟨by simp, rfl⟩
  | [], e :: r, h => by simp at h
  | q :: ts, [], h => by simp at h
  | q :: ts, e :: r, h => by
    rw [List.map_cons, List.map_cons] at h
    obtain ⟨h1, h2⟩ := List.cons.inj h
    obtain ⟨t, hk⟩ := keyText_str h1
    obtain ⟨i1, i2⟩ := find_key c ts r h2
    have e1 : e.key.isStr (one c) = decide (q = c) := by
      rw [hk]
      exact one_eq q c
    refine ⟨?_, ?_⟩
    · rw [List.find?_cons, e1]
      by_cases hq : q = c
      · rw [decide_eq_true hq]
        simp [hq]
      · rw [decide_eq_false hq]
        show (r.find? (·.key.isStr (one c))).isSome = _
        rw [i1]
        have : ¬ c = q := fun z => hq z.symm
        simp [this]
    · rw [List.any_cons, i2, Bool.or_false]
      unfold DictEntry.refKey
      rw [hk]
theorem key_in {K : PySem.W.Frag} {d : Addr} {es : Array DictEntry} {n : Nat} {ts : List Nat} (l : K.lookup d = some ⟨.type "dict", none, .dict es n, #[]⟩) (hk : es.toList.map (fun e => keyText e.key) = ts.map (fun q => some (one q))) (c : Nat) :
    ∃ r, PySem.W.nsIn K d (one c) = some r ∧ r.isSome = decide (c ∈ ts) := by
  obtain ⟨h1, h2⟩ := find_key c ts es.toList hk
  unfold PySem.W.nsIn
  rw [l]
  simp only
  cases hf : es.toList.find? (·.key.isStr (one c)) with
  | some e =>
    rw [hf] at h1
    exact ⟨_, rfl, h1⟩
  | none =>
    rw [hf] at h1
    simp only [h2]
    exact ⟨_, rfl, h1⟩
/-! ### rings -/
def okr (c : Nat) : Bool := decide (c ∈ [97, 98, 46])
def isRingB (z : Str) : Bool := decide (2 ≤ z.length) && (decide (z.length ≤ 12) && z.cps.toList.all okr)
/-- whether x is a ring -/
def RingB (K : PySem.W.Frag) (H : Hp) (x : V) (b : Bool) : Prop := (NoTxt K H x ∧ b = false) ∨ ∃ z : Str, x = .str z ∧ z.length ≤ 10000 ∧ b = isRingB z
theorem ringB_same {K : PySem.W.Frag} {H H' : Hp} {x : V} {b : Bool} (s : Same H H') (h : RingB K H x b) : RingB K H' x b := h.imp (fun ⟨q, e⟩ => ⟨notxt_same s q, e⟩) id
/-- a ring by its codes -/
structure Rg (cs : List Nat) : Prop where
  lo : 2 ≤ cs.length
  hi : cs.length ≤ 12
  ok : ∀ c ∈ cs, c ∈ [97, 98, 46]
theorem Rg.isB {cs : List Nat} (h : Rg cs) : isRingB (rt cs) = true := by
  unfold isRingB
  rw [rt_len, rt_list, decide_eq_true h.lo, decide_eq_true h.hi]
  show cs.all okr = true
  rw [List.all_eq_true]
  exact fun c hc => decide_eq_true (h.ok c hc)
/-- how far above the others a sign stands -/
def rk (c : Nat) : Nat := if c = 97 then 2 else if c = 98 then 1 else 0
def nxt (cs : List Nat) (i : Nat) : Nat := (i + 1) % cs.length
theorem nxt_lt {cs : List Nat} (h : Rg cs) (i : Nat) : nxt cs i < cs.length := Nat.mod_lt _ (Nat.lt_of_lt_of_le (by decide) h.lo)
/-- the signs at a place and at the next one exchanged -/
def swp (cs : List Nat) (i : Nat) : List Nat := (cs.set i (cs.getD (nxt cs i) 0)).set (nxt cs i) (cs.getD i 0)
theorem swp_len (cs : List Nat) (i : Nat) : (swp cs i).length = cs.length := by
  unfold swp
  rw [List.length_set, List.length_set]
def ups (cs : List Nat) (i : Nat) : Bool := decide (rk (cs.getD (nxt cs i) 0) < rk (cs.getD i 0))
def rchg (cs : List Nat) (m : Nat) : List Nat := (List.range m).filter (ups cs)
theorem rchg_succ (cs : List Nat) (i : Nat) : rchg cs (i + 1) = rchg cs i ++ (if ups cs i then [i] else []) := by
  unfold rchg
  rw [List.range_succ, List.filter_append]
  congr 1
  cases h : ups cs i with
  | true => simp [h]
  | false => simp [h]
theorem rchg_few (cs : List Nat) (m : Nat) : (rchg cs m).length ≤ m := by
  refine Nat.le_trans (List.length_filter_le _ _) ?_
  rw [List.length_range]
  exact Nat.le_refl _
/-- the data of the changes -/
def dchg (cs : List Nat) (ks : List Nat) : List PyData := ks.map fun (k : Nat) => PyData.tuple [.int (k : Int), .str (rt (swp cs k))]
/-- a list of tuples (place, ring) -/
def Tups (H : Hp) (cs : List Nat) : List Nat → List V → Prop
  | [], vs => vs = []
  | k :: r, vs => ∃ p vr, vs = .ref p :: vr ∧ H p = some (.tup [.int (k : Int), .str (rt (swp cs k))]) ∧ Tups H cs r vr
theorem tups_same {H H' : Hp} {cs : List Nat} (s : Same H H') : ∀ {ks : List Nat} {vs : List V}, Tups H cs ks vs → Tups H' cs ks vs
  | [], _, h => h
  | k :: r, _, ⟨p, vr, e, h1, h2⟩ => ⟨p, vr, e, s _ _ h1, tups_same s h2⟩
theorem tups_add {H : Hp} {cs : List Nat} {k : Nat} {p : Addr} (h1 : H p = some (.tup [.int (k : Int), .str (rt (swp cs k))])) : ∀ {ks : List Nat} {vs : List V}, Tups H cs ks vs → Tups H cs (ks ++ [k]) (vs ++ [.ref p])
  | [], _, h => by
    cases h
    exact ⟨p, [], rfl, h1, rfl⟩
  | q :: r, _, ⟨p', vr, e, h2, h3⟩ => ⟨p', vr ++ [.ref p], by rw [e]; rfl, h2, tups_add h1 h3⟩
theorem tups_upd {H : Hp} {cs : List Nat} {D : Addr} {xs : List V} {o : HO} (hD : H D = some (.lst xs)) : ∀ {ks : List Nat} {vs : List V}, Tups H cs ks vs → Tups (upd H D o) cs ks vs
  | [], _, h => h
  | k :: r, _, ⟨p, vr, e, h1, h2⟩ => ⟨p, vr, e, by
      rw [upd_ne (fun z => by rw [z, hD] at h1; cases h1)]
      exact h1, tups_upd hD h2⟩
theorem tups_len {H : Hp} {cs : List Nat} : ∀ {ks : List Nat} {vs : List V}, Tups H cs ks vs → vs.length = ks.length
  | [], _, h => by
    cases h
    rfl
  | k :: r, _, ⟨p, vr, e, _, h2⟩ => by
    rw [e, List.length_cons, List.length_cons, tups_len h2]
theorem tups_dp {K : PySem.W.Frag} {H : Hp} {cs : List Nat} : ∀ {ks : List Nat} {vs : List V}, Tups H cs ks vs → DpAll K H vs (dchg cs ks)
  | [], _, h => by
    cases h
    exact .nil
  | k :: r, _, ⟨p, vr, e, h1, h2⟩ => by
    rw [e]
    exact .cons (.tup (SqT.of h1) (.cons (.int _) (.cons (.str _) .nil))) (tups_dp h2)
theorem getD_small {cs : List Nat} (h : Rg cs) (i : Nat) : cs.getD i 0 < 1114112 := by
  rw [List.getD_eq_getElem?_getD]
  cases e : cs[i]? with
  | none => show 0 < 1114112; decide
  | some c =>
    have := h.ok c (List.mem_of_getElem? e)
    simp only [List.mem_cons, List.not_mem_nil, or_false] at this
    show c < 1114112
    omega
theorem strOk_swp {cs : List Nat} (h : Rg cs) (i : Nat) : PyData.strOk (rt (swp cs i)) = true := by
  unfold PyData.strOk
  rw [← Array.all_toList, rt_list, List.all_eq_true]
  intro c hc
  refine decide_eq_true ?_
  unfold swp at hc
  rcases List.mem_or_eq_of_mem_set hc with h1 | rfl
  · rcases List.mem_or_eq_of_mem_set h1 with h2 | rfl
    · have := h.ok c h2
      simp only [List.mem_cons, List.not_mem_nil, or_false] at this
      omega
    · exact getD_small h _
  · exact getD_small h _
theorem lay_dchg {cs : List Nat} (h : Rg cs) : ∀ ks : List Nat, PyData.canLayAll0 (dchg cs ks) = true
  | [] => rfl
  | k :: r => by
    show PyData.canLayAll0 (.tuple [.int (k : Int), .str (rt (swp cs k))] :: dchg cs r) = true
    simp only [PyData.canLayAll0, lay_dchg h r, Bool.and_true, PyData.canLay0, strOk_swp h]
theorem deep_dchg (cs : List Nat) : ∀ ks : List Nat, PyData.depthAll (dchg cs ks) ≤ 1
  | [] => by show 0 ≤ 1; decide
  | k :: r => by
    show PyData.depthAll (.tuple [.int (k : Int), .str (rt (swp cs k))] :: dchg cs r) ≤ 1
    have := deep_dchg cs r
    simp only [PyData.depthAll, PyData.depth]
    omega
theorem shaped_dchg {cs : List Nat} (h : Rg cs) (ks : List Nat) : SeqAt.shaped (.list (dchg cs ks)) = true := by
  unfold SeqAt.shaped
  rw [Bool.and_eq_true]
  refine ⟨?_, decide_eq_true ?_⟩
  · simp only [PyData.canLay0, lay_dchg h]
  · have := deep_dchg cs ks
    simp only [PyData.depth]
    omega
theorem eqv_dchg {cs : List Nat} (h : Rg cs) (ks : List Nat) : PyData.eqv (.list (dchg cs ks)) (.list (dchg cs ks)) = true := PySem.SeqAt.eqv_refl _ (by simp only [PyData.canLay0, lay_dchg h])
end HopR

set_option Elab.async false
set_option linter.all false
set_option maxRecDepth 100000
namespace HopR
open PySem PySem.Spec PyProof.Rows L2
/-! ### walks that hand out new tuples -/
/-- n turns; at each a new tuple of items that Y tells -/
def ItTup (n : Nat) (Y : Nat → List V → Prop) : It :=
  ⟨fun i _ => i < n, fun i H v H' => ∃ T xs, v = .ref T ∧ H T = none ∧ H' = upd H T (.tup xs) ∧ Y i xs, fun i _ => n ≤ i⟩
theorem turn_tup {P : Program} {w : World} {K : PySem.W.Frag} {elts : List Expr} {kk : Nat} {tpos : Pos} {it : Addr} {fp wr : List Addr} {n : Nat} {Pt : Nat → Array Value → Prop} {St : Nat → Heap → Prop} {Mid : Nat → Addr → Heap → Prop} {Y : Nat → List V → Prop}
    (mem : it ∈ fp) (obj : ∀ i h, St i h → ∀ b ∈ fp, ∃ o, h.get? b = some o ∧ ∀ v, o.data ≠ .cell v) (W : ∀ A : Around, A.handled = none → WalksT P w A it fp wr n Pt St Mid)
    (tells : ∀ i vals, Pt i vals → ∃ xs, xs.length ≤ sizeLine ∧ Vals xs vals.toList ∧ Y i xs) (self : ∀ (A : Around) (i : Nat) (s : Shared) (Q : Value → Shared → Prop) (E : Value → Shared → Prop), St i s.heap → Q (.ref it) s → wpAny (model P w) A (pyIter (.ref it)) Q E s)
    (W0 : WalksT P w callerA it fp wr n Pt St Mid) :
    Turn P w K (.Tuple elts kk tpos) (ItTup n Y) fp it (fun i h => i ≤ n ∧ St i h) where
  mem := mem
  obj i h st := obj i h st.2
  keep i h h' st k := ⟨st.1, W0.frame i h h' st.2 k⟩
  item := by
    intro X hP hw hK calm i pins s σ H E I free st go
    subst hP hw hK
    have V := W X.A (I.ok.hd calm)
    refine V.item i s _ E go st.2 fun T vals h1 tk told new tup mid old => ⟨.ref T, rfl, ?_⟩
    refine V.go elts kk tpos i T _ _ E mid fun h2 st2 old2 => ?_
    obtain ⟨xs, few, are, y⟩ := tells i vals told
    have out := V.apart i T h1 mid
    obtain ⟨o, ho, hr⟩ := tup
    have tup2 : h2.IsTuple T vals := ⟨o, old2 T o out ho, hr⟩
    have ok : ObjOk X.prog X.w (upd H T (.tup xs)) h2 T (.tup xs) := ⟨few, vals.toList, are, by rw [Array.toArray_toList]; exact tup2⟩
    have J : Inv X pins σ (upd H T (.tup xs)) { s with heap := h2, toks := tk } := I.turnedNew (ch := fp) (fun b ob nb q => old2 b ob (fun z => nb (V.sub b z)) (old b ob (fun z => nb (V.sub b z)) q)) free new ok
    refine ⟨.ref T, _, J, rfl, ⟨T, xs, rfl, I.hok.fresh new, rfl, y⟩, ⟨go, st2⟩, fun b hb => ?_⟩
    obtain ⟨ob, q, _⟩ := obj i s.heap st.2 b hb
    rw [upd_ne (Nat.ne_of_lt (Nat.lt_of_lt_of_le (Heap.lt_size q) new))]
    exact (free b hb).1
  done := by
    intro X hP hw hK calm i pins s σ H E I free st stop
    subst hP hw hK
    have V := W X.A (I.ok.hd calm)
    obtain rfl : i = n := Nat.le_antisymm st.1 stop
    exact V.done s _ E st.2 fun h1 tk old => ⟨rfl, I.turnedL (ch := fp) (fun b o nb q => old b o (fun z => nb (V.sub b z)) q) free⟩
  self A i s Q E st q := self A i s Q E st.2 q
/-- a loop over such a walk -/
theorem walk_tup {n : Nat} {Y : Nat → List V → Prop} : Walk (ItTup n Y) n (fun _ => True) (fun i H v H' => ∃ T xs, v = .ref T ∧ H T = none ∧ H' = upd H T (.tup xs) ∧ Y i xs) :=
  ⟨fun _ _ lt _ => lt, fun _ _ => Nat.le_refl _, fun _ _ _ _ _ _ y => y⟩
/-! ### zip(text, text) -/
theorem draws_txt {prog : Program} {w : World} {A : Around} (hh : A.handled = none) (it : Addr) (x : Str) (t : Tok) :
    Draws prog w A it [it] x.cps.size (fun i v => ∃ c u, x.cps[i]? = some c ∧ v = .str ⟨#[c]⟩ u) (fun i h => h.IsStrIter it (strIterType x) x t i) := by
  unfold strIterType
  split
  · exact .strAscii hh it x t
  · exact .strWide hh it x t
/-- the signs of both texts, place by place -/
def ZipY (x y : Str) (i : Nat) (vs : List V) : Prop := ∃ c e, x.cps[i]? = some c ∧ y.cps[i]? = some e ∧ vs = [.str ⟨#[c]⟩, .str ⟨#[e]⟩]
def iZipS (ta : TA) : TI := fun σ H R => ta σ H fun vs H1 => ∃ x y : Str, vs = [.str x, .str y] ∧ R (ItTup (min x.cps.size y.cps.size) (ZipY x y)) H1
theorem pi_zipS {X : Cx} {e e2 : Expr} {ta : TA} {p pos tpos : Pos} {elts : List Expr} {kk : Nat} (hg : Gl X "zip") (hm : X.mg "zip" = none) (ha : PA X [e, e2] ta)
    (hs : starEach [e, e2] X.env = (false, eval e X.env) :: starEach [e2] X.env := by rfl) (hpl : (backTo pos (starEach [e2] X.env)).any (·.1) = false := by rfl) :
    PI X (.Tuple elts kk tpos) (.Call (.Name "zip" p) [e, e2] [] pos) (iZipS ta) := by
  constructor
  intro pins s σ H R I h
  refine Call_ (ld_blt I hg hm boot_zip (callWith_type1 (thn (ha.run pos pins s σ H _ I h) ?_) hs hpl))
  rintro us s1 ⟨_, H1, J, rel, x, y, rfl, q⟩
  obtain ⟨_, _, rfl, ⟨t, rfl⟩, u, rfl⟩ := vals2 rel
  refine zip_begins2 (begins_text x t) (begins_text y u) trivial trivial fun h' isz pin pout at1 at2 _ old => wpAny_pyIter_zip isz ?_
  have sep : ZipSep2 (s1.heap.objs.size + 4) (s1.heap.objs.size + 2) (s1.heap.objs.size + 3) s1.heap.objs.size (s1.heap.objs.size + 1) [s1.heap.objs.size] [s1.heap.objs.size + 1] := by
    constructor <;> simp
  have W : ∀ A : Around, A.handled = none → WalksT X.prog X.w A (s1.heap.objs.size + 4) _ _ _ _ _ _ := fun A hh => WalksT.zipD2 sep (draws_txt (A := A.in1) hh s1.heap.objs.size x t) (draws_txt (A := A.in1) hh (s1.heap.objs.size + 1) y u)
  refine ⟨s1.heap.objs.size + 4, _, _, _, H1, rfl, J.kept (t' := s1.toks) old, turn_tup (Y := ZipY x y) (by simp) ?_ W ?_ ?_ (W callerA rfl), ⟨Nat.zero_le _, isz, pin, ⟨_, _, pout⟩, ⟨_, at1, rfl, rfl⟩, ⟨_, at2, rfl, rfl⟩⟩, ?_, q⟩
  · rintro i h ⟨hz, h1, ⟨_, _, h2⟩, ⟨o1, g1, _, d1⟩, ⟨o2, g2, _, d2⟩⟩ b hb
    have hb : b = s1.heap.objs.size + 4 ∨ b = s1.heap.objs.size + 2 ∨ b = s1.heap.objs.size + 3 ∨ b = s1.heap.objs.size ∨ b = s1.heap.objs.size + 1 := by simpa using hb
    rcases hb with rfl | rfl | rfl | rfl | rfl
    · exact ⟨_, hz, fun v q => nomatch q⟩
    · exact ⟨_, h1, fun v q => nomatch q⟩
    · exact ⟨_, h2, fun v q => nomatch q⟩
    · exact ⟨o1, g1, fun v q => by rw [d1] at q; cases q⟩
    · exact ⟨o2, g2, fun v q => by rw [d2] at q; cases q⟩
  · rintro i vals ⟨_, _, ⟨c, t1, hc, rfl⟩, ⟨e, t2, he, rfl⟩, rfl⟩
    exact ⟨[.str ⟨#[c]⟩, .str ⟨#[e]⟩], by show 2 ≤ sizeLine; decide, .cons ⟨t1, rfl⟩ (.cons ⟨t2, rfl⟩ .nil), c, e, hc, he, rfl⟩
  · exact fun A i s Q E st q => wpAny_pyIter_zip st.1 q
  · intro b hb
    have hb : b = s1.heap.objs.size + 4 ∨ b = s1.heap.objs.size + 2 ∨ b = s1.heap.objs.size + 3 ∨ b = s1.heap.objs.size ∨ b = s1.heap.objs.size + 1 := by simpa using hb
    have le : s1.heap.objs.size ≤ b := by
      rcases hb with rfl | rfl | rfl | rfl | rfl
      · exact Nat.le_add_right _ _
      · exact Nat.le_add_right _ _
      · exact Nat.le_add_right _ _
      · exact Nat.le_refl _
      · exact Nat.le_add_right _ _
    exact J.fpOk le (J.hok.fresh le)
end HopR

set_option Elab.async false
set_option linter.all false
set_option maxRecDepth 100000
namespace HopR
open PySem PySem.Spec PyProof.Rows L2
/-! ### enumerate(text) -/
def EnumY (x : Str) (i : Nat) (vs : List V) : Prop := ∃ c, x.cps[i]? = some c ∧ vs = [.int (i : Int), .str ⟨#[c]⟩]
def iEnumS (ta : TA) : TI := fun σ H R => ta σ H fun vs H1 => ∃ x : Str, vs = [.str x] ∧ R (ItTup x.cps.size (EnumY x)) H1
theorem pi_enumS {X : Cx} {e : Expr} {ta : TA} {p pos tpos : Pos} {elts : List Expr} {kk : Nat} (hg : Gl X "enumerate") (hm : X.mg "enumerate" = none) (ha : PA X [e] ta) (hs : starEach [e] X.env = [(false, eval e X.env)] := by rfl) :
    PI X (.Tuple elts kk tpos) (.Call (.Name "enumerate" p) [e] [] pos) (iEnumS ta) := by
  constructor
  intro pins s σ H R I h
  refine Call_ (ld_blt I hg hm boot_enumerate (callWith_type1 (thn (ha.run pos pins s σ H _ I h) ?_) hs rfl))
  rintro us s1 ⟨_, H1, J, rel, x, rfl, q⟩
  obtain ⟨_, rfl, t, rfl⟩ := vals1 rel
  refine call_enumerate_str fun h' ise isi sz old => wpAny_pyIter_enum ise ?_
  have W : ∀ A : Around, A.handled = none → WalksT X.prog X.w A (s1.heap.objs.size + 1) _ _ _ _ _ _ := fun A hh => WalksT.enumerateD (draws_txt (A := A.in1) hh s1.heap.objs.size x t) (s1.heap.objs.size + 1) (Nat.succ_ne_self _) (by simp) (by simp)
  refine ⟨s1.heap.objs.size + 1, _, _, _, H1, rfl, J.kept (t' := s1.toks) old, turn_tup (Y := EnumY x) (by simp) ?_ W ?_ ?_ (W callerA rfl), ⟨Nat.zero_le _, ⟨_, ise⟩, isi⟩, ?_, q⟩
  · rintro i h ⟨⟨_, he⟩, o1, g1, _, d1⟩ b hb
    have hb : b = s1.heap.objs.size + 1 ∨ b = s1.heap.objs.size := by simpa using hb
    rcases hb with rfl | rfl
    · exact ⟨_, he, fun v q => nomatch q⟩
    · exact ⟨o1, g1, fun v q => by rw [d1] at q; cases q⟩
  · rintro i vals ⟨u, _, ⟨c, t1, hc, rfl⟩, rfl⟩
    exact ⟨[.int (i : Int), .str ⟨#[c]⟩], by show 2 ≤ sizeLine; decide, .cons ⟨u, rfl⟩ (.cons ⟨t1, rfl⟩ .nil), c, hc, rfl⟩
  · rintro A i s Q E ⟨⟨_, he⟩, _⟩ q
    exact wpAny_pyIter_enum he q
  · intro b hb
    have hb : b = s1.heap.objs.size + 1 ∨ b = s1.heap.objs.size := by simpa using hb
    have le : s1.heap.objs.size ≤ b := by
      rcases hb with rfl | rfl
      · exact Nat.le_add_right _ _
      · exact Nat.le_refl _
    exact J.fpOk le (J.hok.fresh le)
end HopR

set_option Elab.async false
set_option linter.all false
set_option maxRecDepth 100000
namespace HopR
open PySem PySem.Spec PyProof.Rows L2
/-! ### tests and statements where a token is out -/
def PTT (X : Cx) (c : Expr) (t : TT) : Prop :=
  ∀ (pins : List (Addr × Obj)) (s : Shared) (σ : L2.St) (H : Hp) (Q : Bool → Hp → Prop), 1 ≤ s.toks → Inv X pins σ H s → t σ H Q → wpAny (model X.prog X.w) X.A (isTrue c X.env (eval c X.env)) (TP X pins σ Q) X.xe s
/-- an expression behind which a token is out -/
def PE1 (X : Cx) (e : Expr) (t : TE) : Prop :=
  ∀ (pins : List (Addr × Obj)) (s : Shared) (σ : L2.St) (H : Hp) (Q : VK), Inv X pins σ H s → t σ H Q → wpAny (model X.prog X.w) X.A (eval e X.env) (fun v s' => 1 ≤ s'.toks ∧ EP X pins σ Q v s') X.xe s
section
variable {X : Cx} {a b e : Expr} {ta tb te : TE} {tA tB' : TT} {rest : List Expr} {pos : Pos}
theorem PTT.of (h : PT X a tA) : PTT X a tA := fun pins s σ H Q _ I q => h.run pins s σ H Q I q
theorem ptt_cmp {op : CmpOp} {r : R2} (ho : OpR X (compareOp op) r) (ha : PET X a ta) (hb : PET X b tb) (hm : behindInMarks op b = false) : PTT X (.Compare a [op] [b] pos) (tTest (tOp r ta tb)) := by
  intro pins s σ H Q h0 I h
  refine wpAny_isTrue_Compare1 (wpAny_mono (PySem.wpAny_toks (ha pins s σ H _ h0 I h)) (fun v s1 q => ?_) fun _ _ z => z.2) hm
  obtain ⟨hk, x, H1, I1, r1, q1⟩ := q
  exact thn (hb pins s1 σ H1 _ (Nat.le_trans h0 hk) I1 q1) fun u s2 ⟨y, H2, I2, r2, q2⟩ => thn (ho pins s2 σ H2 x y v u _ I2 r1 r2 q2) fun c s3 ⟨z, H3, I3, r3, k, e, q3⟩ => by
    subst e
    cases r3
    exact wpAny_truthy_bool ⟨H3, I3, q3⟩
theorem ptt_or (ha : PTT X a tA) (hb : PW X (.BoolOp .Or (b :: rest) pos) tB') : PTT X (.BoolOp .Or (a :: b :: rest) pos) (tOr tA tB') := by
  intro pins s σ H Q h0 I h
  refine isTrue_or (thn (ha pins s σ H _ h0 I h) fun c s1 ⟨H1, I1, q1⟩ => ?_)
  cases c with
  | false => exact hb.run _ pins s1 σ H1 Q I1 q1
  | true => exact ⟨H1, I1, q1⟩
theorem pst_ifT {c : Expr} {a b : List Stmt} {tc : TT} {t u : TS} (hc : PTT X c tc) (ha : PSsT X a t) (hb : PSsT X b u) : PST X (.If c a b pos) (tIfS tc t u) := by
  intro pins s σ H D h0 I h
  refine wpAny_If (wpAny_mono (PySem.wpAny_toks (hc pins s σ H _ h0 I h)) (fun d s1 q => ?_) fun _ _ z => z.2)
  obtain ⟨hk, H1, I1, q1⟩ := q
  have h1 := Nat.le_trans h0 hk
  cases d with
  | false => exact hb pins s1 σ H1 D h1 I1 q1
  | true => exact ha pins s1 σ H1 D h1 I1 q1
theorem pst_set {i : Nat} {x : Str} {pos' : Pos} (hN : X.N.Nodup) (hi : X.N[i]? = some x) (hx : Loc X.env.scope x) (he : PET X e te) (hs : swapsWith e (some (.Name x pos')) pos.line X.env = pure false := by rfl) (hf : X.fn x = true ∨ X.env.scope.names.lookup x = some .local := by first | exact .inl rfl | exact .inr rfl | assumption) :
    PST X (.Assign [.Name x pos'] e pos) (tAsg te (gName i)) := by
  intro pins s σ H D h0 I h
  exact wpAny_Assign_Name (thn (he pins s σ H _ h0 I h) fun v s1 ⟨y, H1, I1, r1, q1⟩ => store_ok I1 hN hi hx r1 (fun s2 I2 => ⟨_, H1, I2, q1⟩) hf) hs
theorem pet_callTy {T : String} {r : List V → Hp → VK → Prop} {x : Str} {es : List Expr} {t : TA} {p : Pos} (hc : CallR X (.type T) r) (hg : Gl X x) (hm : X.mg x = none) (hv : bootBuiltins x = some (.type T)) (ha : PAT X (e :: es) t) (hn : x ≠ "__name__" := by decide) (hdb : (x == ("__debug__" : Str)) = false := by decide)
    (he : starEach (e :: es) X.env = (false, eval e X.env) :: starEach es X.env := by rfl) (hpl : (backTo pos (starEach es X.env)).any (·.1) = false := by rfl) : PET X (.Call (.Name x p) (e :: es) [] pos) (tCB r t) := by
  intro pins s σ H Q h0 I h
  refine wpAny_Call_Name_kw (ld_blt I hg hm hv (PyProof.Rows.callWith_type1 ?_ he hpl) hn hdb)
  exact thn (ha pos pins s σ H _ h0 I h) fun us s1 ⟨vs, H1, I1, r1, q1⟩ => hc pins s1 σ H1 vs us Q I1 r1 q1
theorem pe1_int {i : Int} {j : Nat} : PE1 X (.Constant (.int i) j pos) (tC (.int i)) := fun _ s _ H _ I h => wpAny_Constant_int ⟨by show 1 ≤ s.toks + 1; omega, .int i, H, I.tok _, ⟨_, rfl⟩, h⟩
theorem pe1_opr {op : Operator} {r : R2} (ho : OpR X (binaryOp op) r) (ha : PE X a ta) (hb : PE1 X b tb) : PE1 X (.BinOp a op b pos) (tOp r ta tb) := by
  intro pins s σ H Q I h
  refine wpAny_BinOp (thn (ha.run pins s σ H _ I h) fun v s1 ⟨x, H1, I1, r1, q1⟩ => thn (hb pins s1 σ H1 _ I1 q1) fun u s2 ⟨h2, y, H2, I2, r2, q2⟩ => ?_)
  exact wpAny_mono (PySem.wpAny_toks (ho pins s2 σ H2 x y v u Q I2 r1 r2 q2)) (fun _ _ z => ⟨Nat.le_trans h2 z.1, z.2⟩) fun _ _ z => z.2
theorem pe1_opl {op : Operator} {r : R2} (ho : OpR X (binaryOp op) r) (ha : PE1 X a ta) (hb : PE X b tb) : PE1 X (.BinOp a op b pos) (tOp r ta tb) := by
  intro pins s σ H Q I h
  refine wpAny_BinOp (thn (ha pins s σ H _ I h) fun v s1 ⟨h1, x, H1, I1, r1, q1⟩ => wpAny_mono (PySem.wpAny_toks (hb.run pins s1 σ H1 _ I1 q1)) (fun u s2 z => ?_) fun _ _ z => z.2)
  obtain ⟨h2, y, H2, I2, r2, q2⟩ := z
  exact wpAny_mono (PySem.wpAny_toks (ho pins s2 σ H2 x y v u Q I2 r1 r2 q2)) (fun _ _ z => ⟨Nat.le_trans (Nat.le_trans h1 h2) z.1, z.2⟩) fun _ _ z => z.2
/-- name = value, and behind it a token is out -/
theorem pss_setT {i : Nat} {x : Str} {pos' : Pos} {rest : List Stmt} {u : TS} (hN : X.N.Nodup) (hi : X.N[i]? = some x) (hx : Loc X.env.scope x) (he : PE1 X e te) (hr : PSsT X rest u) (hs : swapsWith e (some (.Name x pos')) pos.line X.env = pure false := by rfl) (hf : X.fn x = true ∨ X.env.scope.names.lookup x = some .local := by first | exact .inl rfl | exact .inr rfl | assumption) :
    PSs X (.Assign [.Name x pos'] e pos :: rest) (tSeq (tAsg te (gName i)) u) := by
  refine ⟨fun pins s σ H D I h => ?_⟩
  refine wpAny_execs_cons (wpAny_Assign_Name (thn (he pins s σ H _ I h) fun v s1 ⟨h1, y, H1, I1, r1, q1⟩ => ?_) hs)
  refine wpAny_mono (PySem.wpAny_toks (store_ok (Q := fun _ s2 => Inv X pins (σ.set i (some y)) H1 s2) I1 hN hi hx r1 (fun s2 I2 => I2) hf)) (fun _ s2 z => ?_) fun _ _ z => z.2
  exact hr pins s2 _ H1 D (Nat.le_trans h1 z.1) z.2 q1
end
end HopR

set_option Elab.async false
set_option linter.all false
set_option maxRecDepth 100000
set_option maxHeartbeats 1000000
namespace HopR
open PySem PySem.Spec PyProof.Rows L2
/-! ### reversed(text) -/
theorem text_norev : typeLookup (.type "str") "__reversed__" = pure none := by rw [typeLookup_type, builtinLookup_eq_fast]; kernel_rfl
theorem text_get : typeLookup (.type "str") "__getitem__" = pure (some (.builtin "str.__getitem__")) := by rw [typeLookup_type, builtinLookup_eq_fast]; kernel_rfl
/-- goes through the text x backwards; the next place is i -/
def RevAt (h : Heap) (a : Addr) (x : Str) (t : Tok) (i : Int) : Prop := ∃ o, h.get? a = some o ∧ o.cls = .type "reversed" ∧ o.data = .fields #[.str x t, rawInt i]
section
variable {prog : Program} {w : World} {A : Around} {E : Value → Shared → Prop} {s : Shared} {x : Str} {t : Tok}
theorem RevAt.kind {a : Addr} {i : Int} (r : RevAt s.heap a x t i) : s.TypeIs (.ref a) "reversed" := r.elim fun o h => ⟨o, h.1, h.2.1⟩
theorem rev_made {Q : Value → Shared → Prop} (few : ¬ (x.length : Int) ≥ 2 ^ 63)
    (q : Q (.ref s.heap.objs.size) { s with heap := s.heap.push { cls := .type "reversed", data := .fields #[.str x t, rawInt ((x.length : Int) - 1)] }, toks := s.toks + 1 + 1 }) : wpAny (model prog w) A (call (.type "reversed") [.str x t]) Q E s := by
  have ty := typeIs_str s x t
  refine callType_codes (Q₁ := fun obj s' => s'.TypeIs obj "reversed" ∧ Q obj s') RT.called_rt (F.typeCall_reversed_1 _) F.entry_object_init (codeAny_of_tree ?_) fun obj s' h =>
    ⟨h.1, F.args_object_init_2 obj _, object_init_meets RT.called_rt.init.lookup RT.called_rt.made (by decide) prog w A.in1 _ s' ⟨h.1, rfl, h.2⟩⟩
  show wpAny _ A.in1.in1 (do checkBuiltinCall "reversed.__new__" ⟨[.type "reversed", .str x t], []⟩; again (.builtin "reversed.__new__" ⟨[.type "reversed", .str x t], []⟩)) _ _ s
  refine wpAny_bind (wpAny_of_eq (F.newCall_reversed_1 _) (wpAny_pure ⟨plainId_quiet F.plain_reversed_new _, codeAny_builtin F.entry_reversed_new ?_⟩))
  rw [Around.under_plainId F.plain_reversed_new _]
  unfold Builtin.«reversed.__new__»
  refine wpAny_bind (wpAny_of_eq (newClass_reversed _) (wpAny_bind (wpAny_of_eq (a := ()) rfl (wpAny_bind (wpAny_of_eq (a := ()) rfl ?_)))))
  refine wpAny_bind (wpAny_specialOf ty text_norev ?_)
  refine wpAny_bind ?_
  wp_delta
  refine wpAny_bind (wpAny_isInstance (T := "str") (U := "dict") (b := false) ty PySem.F.sub_str_dict ?_)
  rw [if_neg Bool.false_ne_true]
  refine wpAny_bind (wpAny_specialOf ty text_get ?_)
  refine wpAny_pure ?_
  rw [if_neg (by decide)]
  refine wpAny_bind (len_str few (wpAny_bind (wpAny_of_eq (a := some ((x.length : Nat) : Int)) rfl (wpAny_bind ?_))))
  show wpAny _ _ (newObj (.type "reversed") (.fields #[.str x t, rawInt ((x.length : Int) - 1)])) _ _ _
  exact wpAny_newObj_type (wpAny_pure ⟨⟨_, Heap.get?_push_size _ rfl, rfl⟩, q⟩)
/-- one sign more -/
theorem rev_item {a : Addr} {i c : Nat} {Q : Option Value → Shared → Prop} (r : RevAt s.heap a x t (i : Int)) (hc : x.cps[i]? = some c) (few : x.length ≤ sizeLine)
    (q : ∀ h' k u, RevAt h' a x t ((i : Int) - 1) → Heap.SameBut a s.heap h' → Q (some (.str ⟨#[c]⟩ u)) { s with heap := h', toks := k }) : wpAny (model prog w) A (pyNext (.ref a)) Q E s := by
  obtain ⟨o, ho, cls, dat⟩ := id r
  have lt : i < x.length := (Array.getElem?_eq_some_iff.mp hc).1
  rw [sizeLine_eq] at few
  have spot : (seqIndex? (i : Int) x.length).bind (x.cps[·]?) = some c := by
    rw [seqIndex_of (by omega) (by omega)]
    exact hc
  unfold pyNext
  refine wpAny_bind (wpAny_attempt (wpAny_callSpecial?_slot (name := Str.ofString "__next__") r.kind RT.slot_rt_next (wpAny_call_entry RT.slot_rt_next r.kind RT.entry_rt_next ?_ (RT.args_rt_next _))))
  unfold Builtin.«reversed.__next__»
  refine wpAny_bind (wpAny_of_eq (a := (Value.ref a, [])) rfl (wpAny_bind (wpAny_field ho dat (x := .str x t) rfl (wpAny_bind (wpAny_field ho dat (x := rawInt (i : Int)) rfl ?_)))))
  show wpAny _ _ (if (i : Int) < 0 then _ else _) _ _ s
  rw [if_neg (by omega)]
  refine wpAny_bind (wpAny_specialOf (typeIs_str s x t) text_get ?_)
  rw [if_neg (by decide)]
  refine wpAny_bind (wpAny_mkInt (wpAny_bind (wpAny_attempt (PyProof.Rows.getItem_str (s := { s with toks := s.toks + 1 }) (by
    rw [decide_eq_false (by omega), decide_eq_false (by omega)]
    rfl) spot ?_))))
  refine wpAny_bind (wpAny_field (s := { s with toks := s.toks + 1 + 1 }) ho dat (x := rawInt (i : Int)) rfl ?_)
  refine wpAny_bind (wpAny_setField (s := { s with toks := s.toks + 1 + 1 }) ho dat (by simp) ?_)
  have out : RevAt (s.heap.update a (Obj.mapFields (·.setIfInBounds 1 (rawInt ((i : Int) - 1))))) a x t ((i : Int) - 1) :=
    ⟨_, Heap.get?_update_self _ ho (Obj.isFreed_of_fields (Obj.data_mapFields dat _)), (Obj.cls_mapFields ..).trans cls, by rw [Obj.data_mapFields dat]; simp⟩
  exact wpAny_pure ⟨_, rfl, wpAny_pure (q _ _ _ out (Heap.SameBut.update ..))⟩
theorem stop_raised {α : Type} {Q : α → Shared → Prop} (calm : A.handled = none) (q : ∀ h' e, (∀ b o, s.heap.get? b = some o → h'.get? b = some o) → (∃ o, h'.get? e = some o ∧ o.cls = .type "StopIteration") → E (.ref e) { s with heap := h' }) :
    wpAny (model prog w) A (Builtin.SmallTypes.stopIteration : Sem α) Q E s := by
  unfold Builtin.SmallTypes.stopIteration
  simp only [newExc, newTuple, raiseNew]
  refine wpAny_bind (wpAny_bind (wpAny_newObj_type (wpAny_bind (m := firstArgMember _ _) (wpAny_of_eq (a := Value.none) rfl (wpAny_newObj_type ?_ (by size_fits)))) (by size_fits)))
  refine wpAny_bind (wpAny_handled ?_)
  rw [calm]
  exact wpAny_bind (wpAny_pure (wpAny_throw (q _ _ (fun b o e => Heap.get?_push_of_some _ (Heap.get?_push_of_some _ e)) ⟨_, Heap.get?_push_size _ rfl, rfl⟩)))
/-- no sign is left -/
theorem rev_end {a : Addr} {Q : Option Value → Shared → Prop} (calm : A.handled = none) (r : RevAt s.heap a x t (-1)) (q : ∀ h', Heap.ExtBut a s.heap h' → Q none { s with heap := h' }) : wpAny (model prog w) A (pyNext (.ref a)) Q E s := by
  obtain ⟨o, ho, cls, dat⟩ := id r
  unfold pyNext
  refine wpAny_bind (wpAny_attempt (wpAny_callSpecial?_slot (name := Str.ofString "__next__") r.kind RT.slot_rt_next (wpAny_call_entry RT.slot_rt_next r.kind RT.entry_rt_next ?_ (RT.args_rt_next _))))
  unfold Builtin.«reversed.__next__»
  refine wpAny_bind (wpAny_of_eq (a := (Value.ref a, [])) rfl (wpAny_bind (wpAny_field ho dat (x := .str x t) rfl (wpAny_bind (wpAny_field ho dat (x := rawInt (-1)) rfl ?_)))))
  show wpAny _ _ (if (-1 : Int) < 0 then _ else _) _ _ s
  rw [if_pos (by decide)]
  refine wpAny_bind (wpAny_rule (wpAny_bind ?_))
  wp_delta
  have ho2 := Heap.get?_update_self (Obj.mapFields (·.setIfInBounds 1 (rawInt (-1)))) ho (Obj.isFreed_of_fields (Obj.data_mapFields dat _))
  refine wpAny_bind (wpAny_setField ho dat (by simp) (wpAny_setField (s := { s with heap := s.heap.update a (Obj.mapFields (·.setIfInBounds 1 (rawInt (-1)))) }) ho2 (Obj.data_mapFields dat _) (by simp) ?_))
  have calm1 : A.in1.handled = none := calm
  refine wpAny_bind (stop_raised calm1 fun h' e old ⟨oe, he, ce⟩ => ?_)
  refine wpAny_bind (wpAny_isInstance (T := "StopIteration") (b := true) ⟨oe, he, ce⟩ isSubtype_stop (wpAny_pure (q _ fun b ob nb g => old b ob ?_)))
  exact (Heap.get?_update_other _ _ (Ne.symm nb)).trans ((Heap.get?_update_other _ _ (Ne.symm nb)).trans g)
end
end HopR

set_option Elab.async false
set_option linter.all false
set_option maxRecDepth 100000
namespace HopR
open PySem PySem.Spec PyProof.Rows L2
/-- the signs of a text from its end on -/
def ItRevS (x : Str) : It := ⟨fun i _ => i < x.cps.size, fun i H v H' => H' = H ∧ ∃ c, x.cps[x.cps.size - 1 - i]? = some c ∧ v = .str ⟨#[c]⟩, fun i _ => x.cps.size ≤ i⟩
theorem turn_revS {P : Program} {w : World} {K : PySem.W.Frag} {tg : Expr} (it : Addr) (x : Str) (t : Tok) (few : x.length ≤ sizeLine) : Turn P w K tg (ItRevS x) [it] it (fun i h => i ≤ x.cps.size ∧ RevAt h it x t ((x.cps.size : Int) - 1 - (i : Nat))) where
  mem := List.mem_singleton.mpr rfl
  obj i h st b hb := by
    obtain rfl := List.mem_singleton.mp hb
    obtain ⟨_, o, g, _, d⟩ := st
    exact ⟨o, g, fun v z => by rw [d] at z; cases z⟩
  keep i h h' st k := let ⟨o, g, r⟩ := st.2; ⟨st.1, o, k it (List.mem_singleton.mpr rfl) o g, r⟩
  item := by
    intro X hP hw hK calm i pins s σ H E I free st go
    subst hP hw hK
    obtain ⟨f0, f1, _, f3, f4, f5⟩ := free it (List.mem_singleton.mpr rfl)
    have go : i < x.cps.size := go
    obtain ⟨_, r⟩ := st
    rw [show (x.cps.size : Int) - 1 - (i : Nat) = ((x.cps.size - 1 - i : Nat) : Int) by omega] at r
    have hc : x.cps[x.cps.size - 1 - i]? = some (x.cps[x.cps.size - 1 - i]'(by omega)) := Array.getElem?_eq_getElem _
    refine rev_item r hc few fun h' k u r' sb => ⟨_, rfl, ?_⟩
    have J : Inv X pins σ H { s with heap := h', toks := k } := I.turned (t' := k) (fun b o nb g => (sb.2 b nb).trans g) f0 f1 f3 f4 f5
    obtain ⟨o, g, c, d⟩ := id r'
    refine go_of (s := { s with heap := h', toks := k }) g c d (by decide) ⟨.str ⟨#[_]⟩, H, J, ⟨u, rfl⟩, ⟨rfl, _, hc, rfl⟩, ⟨go, ?_⟩, fun b hb => (free b hb).1⟩
    rw [show (x.cps.size : Int) - 1 - ((i + 1 : Nat) : Int) = ((x.cps.size - 1 - i : Nat) : Int) - 1 by omega]
    exact r'
  done := by
    intro X hP hw hK calm i pins s σ H E I free st stop
    subst hP hw hK
    obtain ⟨f0, f1, _, f3, f4, f5⟩ := free it (List.mem_singleton.mpr rfl)
    have stop : x.cps.size ≤ i := stop
    obtain ⟨le, r⟩ := st
    rw [show (x.cps.size : Int) - 1 - (i : Nat) = -1 by omega] at r
    exact rev_end (I.ok.hd calm) r fun h' eb => ⟨rfl, I.turned (t' := s.toks) (fun b o nb g => eb b o nb g) f0 f1 f3 f4 f5⟩
  self A i s Q E st q := by
    refine wpAny_pyIter_slot st.2.kind RT.slot_rt_iter (wpAny_call_entry RT.slot_rt_iter st.2.kind RT.entry_rt_iter ?_ (RT.args_rt_iter _))
    show wpAny _ _ (ret (.ref it)) _ _ s
    exact wpAny_pure ⟨_, rfl, "reversed", _, st.2.kind, RT.slot_rt_next.lookup, q⟩
theorem walk_revS {x : Str} : Walk (ItRevS x) x.cps.size (fun _ => True) (fun i H v H' => H' = H ∧ ∃ c, x.cps[x.cps.size - 1 - i]? = some c ∧ v = .str ⟨#[c]⟩) :=
  ⟨fun _ _ lt _ => lt, fun _ _ => Nat.le_refl _, fun _ _ _ _ _ _ y => y⟩
def iRevS (te : TE) : TI := fun σ H R => te σ H fun v H1 => ∃ x : Str, v = .str x ∧ x.length ≤ sizeLine ∧ R (ItRevS x) H1
theorem pi_revS {X : Cx} {tg e : Expr} {te : TE} {p pos : Pos} (hg : Gl X "reversed") (hm : X.mg "reversed" = none) (he : PE X e te) (hs : starEach [e] X.env = (false, eval e X.env) :: starEach [] X.env := by rfl) : PI X tg (.Call (.Name "reversed" p) [e] [] pos) (iRevS te) := by
  constructor
  intro pins s σ H R I h
  refine Call_ (ld_blt I hg hm PyProof.Rows.boot_reversed (callWith_type1 (args_cons (thn (he.run pins s σ H _ I h) ?_) hs) hs rfl))
  rintro v s1 ⟨_, H1, J, rel, x, rfl, few, q⟩
  obtain ⟨t, rfl⟩ := rel
  refine args_nil (rev_made (by have := few; rw [sizeLine_eq] at this; omega) ?_)
  have gone : RevAt (s1.heap.push { cls := .type "reversed", data := .fields #[.str x t, rawInt ((x.length : Int) - 1)] }) s1.heap.objs.size x t ((x.cps.size : Int) - 1 - ((0 : Nat) : Int)) := ⟨_, Heap.get?_push_size _ rfl, rfl, by
    show Data.fields #[.str x t, rawInt ((x.length : Int) - 1)] = _
    rw [show (x.cps.size : Int) - 1 - ((0 : Nat) : Int) = (x.length : Int) - 1 by show (x.cps.size : Int) - 1 - ((0 : Nat) : Int) = (x.cps.size : Int) - 1; omega]⟩
  have J2 : Inv X pins σ H1 { s1 with heap := s1.heap.push { cls := .type "reversed", data := .fields #[.str x t, rawInt ((x.length : Int) - 1)] }, toks := s1.toks + 1 + 1 } := J.kept fun b o g => Heap.get?_push_of_some _ g
  refine (turn_revS (P := X.prog) (w := X.w) (K := X.K) (tg := tg) s1.heap.objs.size x t few).self X.A 0 _ _ _ ⟨Nat.zero_le _, gone⟩ ?_
  exact ⟨_, _, _, ItRevS x, H1, rfl, J2, turn_revS _ x t few, ⟨Nat.zero_le _, gone⟩, fun b hb => by
    obtain rfl := List.mem_singleton.mp hb
    exact J.fpOk (Nat.le_refl _) (J.hok.fresh (Nat.le_refl _)), q⟩
end HopR

set_option Elab.async false
set_option linter.all false
set_option maxRecDepth 100000
namespace HopR
open PySem PySem.Spec PyProof.Rows L2
section
variable {X : Cx}
/-- tuple(text) -/
def rTupT : List V → Hp → VK → Prop := fun vs H Q => ∃ z : Str, vs = [.str z] ∧ z.length ≤ sizeLine ∧ ∀ p : Addr, H p = none → Q (.ref p) (upd H p (.tup ((sg z).map V.str)))
theorem cr_tupT (hcm : X.calm = true) : CallR X (.type "tuple") rTupT := by
  rintro pins s σ H _ us Q I r ⟨z, rfl, hz, q⟩
  obtain ⟨_, rfl, t, rfl⟩ := vals1 r
  refine call_tuple_str (I.ok.hd hcm) z t (fun h' tk acc old items => ?_) hz
  have after : Inv X pins σ H { s with heap := h', toks := tk } := I.kept old
  refine ⟨.ref h'.objs.size, _, after.laid (t' := tk) (fun b o e => Heap.get?_push_of_some _ e) (Nat.le_refl _) ?_, rfl, q _ (after.hok.fresh (Nat.le_refl _))⟩
  refine ⟨by rw [List.length_map, sg_len]; exact hz, acc.toList, vals_of_strs (signs_are items), ?_⟩
  rw [Array.toArray_toList]
  exact IsTup.new _ _
end
/-! ### lists of whole numbers as data -/
def dis (zs : List Int) : List PyData := zs.map PyData.int
theorem dp_ints {K : PySem.W.Frag} {H : Hp} : ∀ zs : List Int, DpAll K H (zs.map V.int) (dis zs)
  | [] => .nil
  | z :: r => .cons (.int z) (dp_ints r)
theorem lay_ints : ∀ zs : List Int, PyData.canLayAll0 (dis zs) = true
  | [] => rfl
  | z :: r => by
    show PyData.canLayAll0 (.int z :: dis r) = true
    simp only [PyData.canLayAll0, lay_ints r, Bool.and_true]
    rfl
theorem deep_ints : ∀ zs : List Int, PyData.depthAll (dis zs) = 0
  | [] => rfl
  | z :: r => by
    show PyData.depthAll (.int z :: dis r) = 0
    simp only [PyData.depthAll, deep_ints r]
    rfl
theorem shaped_zs (zs : List Int) : SeqAt.shaped (.list (dis zs)) = true := by
  unfold SeqAt.shaped
  rw [Bool.and_eq_true]
  refine ⟨?_, decide_eq_true ?_⟩
  · simp only [PyData.canLay0, lay_ints]
  · simp only [PyData.depth, deep_ints]
    decide
theorem cut_ints (ns : List Int) (hi : Int) (hl : ns.length ≤ 63) : ∃ zs : List Int, cutV (ns.map V.int) none (some hi) = zs.map V.int ∧ zs.length ≤ 63 := by
  unfold cutV
  refine ⟨(ns.drop (HT.sIx (ns.map V.int).length 0 none)).take (HT.sIx (ns.map V.int).length (ns.map V.int).length (some hi) - HT.sIx (ns.map V.int).length 0 none), by rw [List.map_take, List.map_drop], ?_⟩
  rw [List.length_take, List.length_drop]
  omega
end HopR

set_option Elab.async false
set_option linter.all false
set_option maxRecDepth 100000
namespace HopW
/-! ### weights of words -/
/-- a line's numbers, each with g of its place -/
def lp (g : Nat → Rat) : List Nat → Rat
  | [] => 0
  | m :: l => (m : Rat) * g 0 + lp (fun b => g (b + 1)) l
def tp (x : Rat) (g : Nat → Rat) : List (List Nat) → Rat
  | [] => 0
  | l :: t => lp g l + x * tp x g t
def sfx : List Nat → List Nat
  | [] => []
  | m :: l => (m + l.sum) :: sfx l
def go (s : Nat) : List (List Nat) → List (List Nat)
  | [] => [[s]]
  | l :: t => (s :: sfx l.tail) :: go l.sum t
def sg (h : Nat → Rat) : Nat → Rat
  | 0 => 0
  | b + 1 => h 0 + sg (fun j => h (j + 1)) b
def fg (x : Rat) (g : Nat → Rat) : Nat → Rat := fun b => x * g 0 + sg (fun j => g (j + 1)) b
def stT (T : List (List Nat)) (b : Bool) : List (List Nat) := if b then T.map (0 :: ·) else go 0 T
def gf (x : Rat) : List Bool → (Nat → Rat) → (Nat → Rat)
  | [], g => g
  | true :: w, g => fun b => gf x w g (b + 1)
  | false :: w, g => fg x (gf x w g)
theorem cast_add (a b : Nat) : ((a + b : Nat) : Rat) = (a : Rat) + (b : Rat) := by exact_mod_cast rfl
theorem lp_lin (c : Rat) (h : Nat → Rat) : ∀ l : List Nat, lp (fun b => c + h b) l = c * (l.sum : Rat) + lp h l := by
  intro l
  induction l generalizing h with
  | nil => show (0 : Rat) = c * ((0 : Nat) : Rat) + 0; grind
  | cons m l ih =>
    show (m : Rat) * (c + h 0) + lp (fun b => c + h (b + 1)) l = c * ((m :: l).sum : Rat) + ((m : Rat) * h 0 + lp (fun b => h (b + 1)) l)
    rw [ih (fun b => h (b + 1)), List.sum_cons, cast_add]
    grind
theorem lp_sfx (h : Nat → Rat) (m : Nat) : ∀ l : List Nat, lp (sg h) (m :: l) = lp h (sfx l) := by
  intro l
  induction l generalizing h m with
  | nil => show (m : Rat) * 0 + 0 = 0; grind
  | cons m' l ih =>
    show (m : Rat) * 0 + lp (fun b => h 0 + sg (fun j => h (j + 1)) b) (m' :: l) = ((m' + l.sum : Nat) : Rat) * h 0 + lp (fun b => h (b + 1)) (sfx l)
    rw [lp_lin, ih, List.sum_cons]
    grind
theorem lp_fg (x : Rat) (g : Nat → Rat) (l : List Nat) : lp (fg x g) l = x * ((l.sum : Rat) * g 0) + lp (fun b => g (b + 1)) (sfx l.tail) := by
  unfold fg
  rw [lp_lin]
  cases l with
  | nil => show x * g 0 * ((0 : Nat) : Rat) + 0 = x * (((0 : Nat) : Rat) * g 0) + 0; grind
  | cons m l =>
    rw [lp_sfx, List.tail_cons]
    grind
theorem tp_go (x : Rat) (g : Nat → Rat) : ∀ (T : List (List Nat)) (s : Nat), tp x g (go s T) = (s : Rat) * g 0 + tp x (fg x g) T := by
  intro T
  induction T with
  | nil =>
    intro s
    show ((s : Rat) * g 0 + 0) + x * 0 = (s : Rat) * g 0 + 0
    grind
  | cons l t ih =>
    intro s
    show ((s : Rat) * g 0 + lp (fun b => g (b + 1)) (sfx l.tail)) + x * tp x g (go l.sum t) = (s : Rat) * g 0 + (lp (fg x g) l + x * tp x (fg x g) t)
    rw [ih, lp_fg]
    grind
theorem tp_bead (x : Rat) (g : Nat → Rat) : ∀ T : List (List Nat), tp x g (T.map (0 :: ·)) = tp x (fun b => g (b + 1)) T := by
  intro T
  induction T with
  | nil => rfl
  | cons l t ih =>
    show (((0 : Nat) : Rat) * g 0 + lp (fun b => g (b + 1)) l) + x * tp x g (t.map (0 :: ·)) = lp (fun b => g (b + 1)) l + x * tp x (fun b => g (b + 1)) t
    rw [ih]
    grind
theorem tp_st (x : Rat) (g : Nat → Rat) (T : List (List Nat)) (b : Bool) : tp x g (stT T b) = tp x (gf x [b] g) T := by
  cases b with
  | true => exact tp_bead x g T
  | false =>
    show tp x g (go 0 T) = tp x (fg x g) T
    rw [tp_go]
    show ((0 : Nat) : Rat) * g 0 + tp x (fg x g) T = _
    grind
theorem gf_app (x : Rat) (g : Nat → Rat) : ∀ u v : List Bool, gf x (u ++ v) g = gf x u (gf x v g)
  | [], _ => rfl
  | true :: u, v => by
    show (fun b => gf x (u ++ v) g (b + 1)) = fun b => gf x u (gf x v g) (b + 1)
    rw [gf_app x g u v]
  | false :: u, v => by
    show fg x (gf x (u ++ v) g) = fg x (gf x u (gf x v g))
    rw [gf_app x g u v]
theorem tp_fold (x : Rat) (g : Nat → Rat) : ∀ (w : List Bool) (T : List (List Nat)), tp x g (w.foldl stT T) = tp x (gf x w g) T := by
  intro w
  induction w with
  | nil => intro T; rfl
  | cons b w ih =>
    intro T
    show tp x g (w.foldl stT (stT T b)) = _
    rw [ih, tp_st]
    show tp x (gf x [b] (gf x w g)) T = _
    rw [← gf_app]
    rfl
def tbl (w : List Bool) : List (List Nat) := w.foldl stT [[1]]
/-- the weight of a word: x for each free place left, y for each bead -/
def wt (x y : Rat) (w : List Bool) : Rat := gf x w (fun b => y ^ b) 0
theorem wt_tbl (x y : Rat) (w : List Bool) : tp x (fun b => y ^ b) (tbl w) = wt x y w := by
  unfold tbl wt
  rw [tp_fold]
  show (((1 : Nat) : Rat) * gf x w (fun b => y ^ b) 0 + 0) + x * 0 = _
  grind
/-! ### what the weights keep -/
theorem sg_add (h k : Nat → Rat) : ∀ b, sg (fun j => h j + k j) b = sg h b + sg k b := by
  intro b
  induction b generalizing h k with
  | zero => show (0 : Rat) = 0 + 0; grind
  | succ b ih =>
    show h 0 + k 0 + sg (fun j => h (j + 1) + k (j + 1)) b = (h 0 + sg (fun j => h (j + 1)) b) + (k 0 + sg (fun j => k (j + 1)) b)
    rw [ih]
    grind
theorem sg_mul (c : Rat) (h : Nat → Rat) : ∀ b, sg (fun j => c * h j) b = c * sg h b := by
  intro b
  induction b generalizing h with
  | zero => show (0 : Rat) = c * 0; grind
  | succ b ih =>
    show c * h 0 + sg (fun j => c * h (j + 1)) b = c * (h 0 + sg (fun j => h (j + 1)) b)
    rw [ih]
    grind
theorem gf_add (x : Rat) (h k : Nat → Rat) : ∀ (w : List Bool) (b : Nat), gf x w (fun j => h j + k j) b = gf x w h b + gf x w k b := by
  intro w
  induction w with
  | nil => intro b; rfl
  | cons s w ih =>
    intro b
    cases s with
    | true => exact ih (b + 1)
    | false =>
      show x * gf x w (fun j => h j + k j) 0 + sg (fun j => gf x w (fun j => h j + k j) (j + 1)) b = (x * gf x w h 0 + sg (fun j => gf x w h (j + 1)) b) + (x * gf x w k 0 + sg (fun j => gf x w k (j + 1)) b)
      rw [ih 0, show (fun j => gf x w (fun j => h j + k j) (j + 1)) = fun j => gf x w h (j + 1) + gf x w k (j + 1) from funext fun j => ih (j + 1), sg_add]
      grind
theorem gf_mul (x c : Rat) (h : Nat → Rat) : ∀ (w : List Bool) (b : Nat), gf x w (fun j => c * h j) b = c * gf x w h b := by
  intro w
  induction w with
  | nil => intro b; rfl
  | cons s w ih =>
    intro b
    cases s with
    | true => exact ih (b + 1)
    | false =>
      show x * gf x w (fun j => c * h j) 0 + sg (fun j => gf x w (fun j => c * h j) (j + 1)) b = c * (x * gf x w h 0 + sg (fun j => gf x w h (j + 1)) b)
      rw [ih 0, show (fun j => gf x w (fun j => c * h j) (j + 1)) = fun j => c * gf x w h (j + 1) from funext fun j => ih (j + 1), sg_mul]
      grind
theorem sg_last (h : Nat → Rat) : ∀ b, sg h (b + 1) = sg h b + h b := by
  intro b
  induction b generalizing h with
  | zero => show h 0 + 0 = 0 + h 0; grind
  | succ b ih =>
    show h 0 + sg (fun j => h (j + 1)) (b + 1) = (h 0 + sg (fun j => h (j + 1)) b) + h (b + 1)
    rw [ih]
    grind
/-- a bead that comes out is gone, or the free place is -/
theorem wt_of (x y : Rat) (u v : List Bool) : wt x y (u ++ true :: false :: v) = wt x y (u ++ true :: v) + wt x y (u ++ false :: v) := by
  unfold wt
  rw [gf_app, gf_app, gf_app, ← gf_add]
  congr 1
  funext b
  show x * gf x v (fun b => y ^ b) 0 + sg (fun j => gf x v (fun b => y ^ b) (j + 1)) (b + 1) = gf x v (fun b => y ^ b) (b + 1) + (x * gf x v (fun b => y ^ b) 0 + sg (fun j => gf x v (fun b => y ^ b) (j + 1)) b)
  rw [sg_last]
  grind
theorem wt_free (x y : Rat) (v : List Bool) : wt x y (false :: v) = x * wt x y v := by
  show x * gf x v (fun b => y ^ b) 0 + 0 = x * gf x v (fun b => y ^ b) 0
  grind
theorem wt_bead (x y : Rat) (v : List Bool) : wt x y (v ++ [true]) = y * wt x y v := by
  unfold wt
  rw [gf_app, ← gf_mul]
  congr 1
  funext b
  show y ^ (b + 1) = y * y ^ b
  rw [Rat.pow_succ, Rat.mul_comm]
theorem sg_pow {x y : Rat} (h : x * y = x + y) : ∀ b, x + sg (fun j => y ^ (j + 1)) b = x * y ^ b := by
  intro b
  induction b with
  | zero => show x + 0 = x * y ^ 0; rw [Rat.pow_zero]; grind
  | succ b ih =>
    rw [sg_last, Rat.pow_succ]
    have e : x * (y ^ b * y) = y ^ b * (x * y) := by grind
    rw [e, h]
    grind
theorem gf_one {x y : Rat} (h : x * y = x + y) : ∀ (w : List Bool) (b : Nat), gf x w (fun b => y ^ b) b = x ^ (w.count false) * y ^ (w.count true) * y ^ b := by
  intro w
  induction w with
  | nil => intro b; show y ^ b = x ^ 0 * y ^ 0 * y ^ b; rw [Rat.pow_zero, Rat.pow_zero]; grind
  | cons s w ih =>
    intro b
    cases s with
    | true =>
      show gf x w (fun b => y ^ b) (b + 1) = _
      rw [ih, List.count_cons_of_ne (by decide), List.count_cons_self, Rat.pow_succ, Rat.pow_succ]
      grind
    | false =>
      show x * gf x w (fun b => y ^ b) 0 + sg (fun j => gf x w (fun b => y ^ b) (j + 1)) b = _
      rw [ih, show (fun j => gf x w (fun b => y ^ b) (j + 1)) = fun j => (x ^ (w.count false) * y ^ (w.count true)) * y ^ (j + 1) from funext fun j => ih (j + 1), sg_mul, List.count_cons_self, List.count_cons_of_ne (by decide), Rat.pow_succ, Rat.pow_zero]
      have e := sg_pow h b
      grind
theorem wt_one {x y : Rat} (h : x * y = x + y) (w : List Bool) : wt x y w = x ^ (w.count false) * y ^ (w.count true) := by
  unfold wt
  rw [gf_one h, Rat.pow_zero]
  grind
/-! ### all heaps counted -/
def sn (h : Nat → Nat) : Nat → Nat
  | 0 => 0
  | b + 1 => h 0 + sn (fun j => h (j + 1)) b
def gn : List Bool → Nat → Nat
  | [], _ => 1
  | true :: w, b => gn w (b + 1)
  | false :: w, b => sn (gn w) (b + 1)
theorem sn_sg (h : Nat → Nat) : ∀ b, ((sn h b : Nat) : Rat) = sg (fun j => (h j : Rat)) b := by
  intro b
  induction b generalizing h with
  | zero => rfl
  | succ b ih =>
    show ((h 0 + sn (fun j => h (j + 1)) b : Nat) : Rat) = (h 0 : Rat) + sg (fun j => (h (j + 1) : Rat)) b
    rw [cast_add, ih]
theorem gn_gf : ∀ (w : List Bool) (b : Nat), ((gn w b : Nat) : Rat) = gf 1 w (fun b => 1 ^ b) b := by
  intro w
  induction w with
  | nil =>
    intro b
    show ((1 : Nat) : Rat) = 1 ^ b
    induction b with
    | zero => rfl
    | succ b ih => rw [Rat.pow_succ, ← ih, Rat.mul_one]
  | cons s w ih =>
    intro b
    cases s with
    | true => exact ih (b + 1)
    | false =>
      show ((sn (gn w) (b + 1) : Nat) : Rat) = 1 * gf 1 w (fun b => 1 ^ b) 0 + sg (fun j => gf 1 w (fun b => 1 ^ b) (j + 1)) b
      rw [sn_sg]
      show (gn w 0 : Rat) + sg (fun j => (gn w (j + 1) : Rat)) b = _
      rw [ih 0, show (fun j => (gn w (j + 1) : Rat)) = fun j => gf 1 w (fun b => 1 ^ b) (j + 1) from funext fun j => ih (j + 1)]
      grind
theorem gn_wt (w : List Bool) : ((gn w 0 : Nat) : Rat) = wt 1 1 w := gn_gf w 0
end HopW

set_option Elab.async false
set_option linter.all false
set_option maxRecDepth 100000
namespace HopR
open PySem PySem.Spec PyProof.Rows L2
/-! ### sorted(texts, reverse=True): the same texts, in some order -/
def ltS (v u : Value) : Bool := decide ((strOf v).cps.toList < (strOf u).cps.toList)
theorem swo_txt : SrtO.Swo ltS where
  asym x y h := decide_eq_false (List.lt_asymm (of_decide_eq_true h))
  tr x y z h1 h2 := by
    have a := List.not_lt.mp (of_decide_eq_false h1)
    have b := List.not_lt.mp (of_decide_eq_false h2)
    exact decide_eq_false (List.not_lt.mpr (List.le_trans a b))
section
variable {prog : Program} {w : World} {A : Around} {s : Shared}
theorem texts_sortable {l : Addr} {vs : List Value} {ss : List Str} (are : StrsAre vs ss) (two : 2 ≤ vs.length) : SrtO.SortableO prog w A s l vs ltS := by
  intro h' _
  refine ⟨oneType', fun Q E q => ?_, fun x y hx hy => ?_⟩
  · obtain ⟨a, b, r, rfl⟩ : ∃ a b r, vs = a :: b :: r := by
      match vs, two with
      | a :: b :: r, _ => exact ⟨a, b, r, rfl⟩
    rw [keyKind_strs are]
    exact wpAny_pure q
  · obtain ⟨a, t, ea⟩ := are.all _ hx
    obtain ⟨b, u, eb⟩ := are.all _ hy
    show wpAny (model prog w) A (keyLt' oneType' x.1 y.1) (fun r s' => s' = _ ∧ r = ltS x.1 y.1) (fun _ _ => False) _
    rw [ea, eb, keyLt'_oneType]
    exact oneLt_str ⟨rfl, rfl⟩
end
section
variable {X : Cx}
def rSortTR (K : PySem.W.Frag) : List V → List V → Hp → VK → Prop := fun vs zs H Q => ∃ (a : Addr) (xs : List Str), vs = [.ref a] ∧ zs = [.bl true] ∧ SqL K H a (xs.map V.str) ∧ ∀ (ys : List Str) (p : Addr), ys.Perm xs → H p = none → Q (.ref p) (upd H p (.lst (ys.map V.str)))
theorem strs_of_vals : ∀ {xs : List Str} {us : List Value}, Vals (xs.map V.str) us → StrsAre us xs
  | [], _, h => by
    cases h
    exact .nil
  | x :: r, _, h => by
    cases h with
    | cons a b =>
      obtain ⟨t, rfl⟩ := a
      exact .cons x t (strs_of_vals b)
theorem cr_sortTR : CallRK X (.builtin "sorted") [Str.ofString "reverse"] (rSortTR X.K) := by
  rintro pins s σ H _ _ us ws Q I r rz ⟨a, xs, rfl, rfl, hs, q⟩
  obtain rfl := Vals.ref1 r
  obtain ⟨w1, rfl, e1⟩ := vals1 rz
  obtain rfl : w1 = Value.bool true := e1
  obtain ⟨its, rv, hl, hz⟩ := I.list hs
  have are := strs_of_vals rv
  refine SrtR.sorted_ordK (b := true) (fun _ => rfl) (args_sorted_rev _ _) (fun _ => args_list_sort_rev _ _) swo_txt hl.isList (by rw [← rv.length]; exact hz) (fun two _ _ _ _ => texts_sortable are two) fun out _ stb => ?_
  have pm : out.reverse.Perm its := out.reverse_perm.trans (stb.perm.trans its.reverse_perm)
  have are' : StrsAre out.reverse (out.reverse.map strOf) := strsAre_map _ fun v hv => are.all v (pm.mem_iff.mp hv)
  have pm' : (out.reverse.map strOf).Perm xs := by
    have := pm.map strOf
    rw [are.strs] at this
    exact this
  obtain ⟨ep, at_⟩ := sortedAll_at s.heap its (if true = true then out.toArray.reverse else out.toArray)
  have hlen : ((out.reverse.map strOf).map V.str).length ≤ sizeLine := by
    rw [List.length_map, pm'.length_eq]
    rw [List.length_map] at hz
    exact hz
  refine ⟨.ref (s.heap.objs.size + 1), upd H (s.heap.objs.size + 1) (.lst ((out.reverse.map strOf).map V.str)), I.laid (t' := s.toks) (fun _ _ => sortedAll_old) (Nat.le_succ _) ⟨hlen, out.reverse, ep, vals_of_strs are', ?_⟩, rfl, q _ _ pm' (I.hok.fresh (Nat.le_succ _))⟩
  rw [at_]
  simp
end
end HopR

set_option Elab.async false
set_option linter.all false
set_option maxRecDepth 100000
namespace HopW
/-! ### rows beneath, counted by the beads that are over -/
def bno : List Bool → Nat → Nat
  | [], 0 => 1
  | [], _ + 1 => 0
  | true :: w, o => bno w o + bno w (o + 1)
  | false :: w, 0 => bno w 0
  | false :: w, o + 1 => bno w o + bno w (o + 1)
def dl (f : Nat → Int) : Nat → Int := fun b => f (b + 1) - f b
def di : Nat → (Nat → Int) → Int
  | 0, f => f 0
  | o + 1, f => di o (dl f)
theorem di_add : ∀ (o : Nat) (f g : Nat → Int), di o (fun b => f b + g b) = di o f + di o g := by
  intro o
  induction o with
  | zero => intro f g; rfl
  | succ o ih =>
    intro f g
    show di o (dl fun b => f b + g b) = di o (dl f) + di o (dl g)
    rw [← ih]
    congr 1
    funext b
    show f (b + 1) + g (b + 1) - (f b + g b) = (f (b + 1) - f b) + (g (b + 1) - g b)
    omega
theorem di_zero : ∀ o : Nat, di o (fun _ => 0) = 0 := by
  intro o
  induction o with
  | zero => rfl
  | succ o ih =>
    show di o (dl fun _ => 0) = 0
    rw [show (dl fun _ => (0 : Int)) = fun _ => 0 from funext fun b => rfl]
    exact ih
theorem sn_last (h : Nat → Nat) : ∀ b, sn h (b + 1) = sn h b + h b := by
  intro b
  induction b generalizing h with
  | zero => show h 0 + 0 = 0 + h 0; omega
  | succ b ih =>
    show h 0 + sn (fun j => h (j + 1)) (b + 1) = (h 0 + sn (fun j => h (j + 1)) b) + h (b + 1)
    rw [ih]
    omega
theorem di_gn : ∀ (w : List Bool) (o : Nat), di o (fun b => (gn w b : Int)) = (bno w o : Int) := by
  intro w
  induction w with
  | nil =>
    intro o
    cases o with
    | zero => rfl
    | succ o =>
      show di o (dl fun _ => ((1 : Nat) : Int)) = ((0 : Nat) : Int)
      rw [show (dl fun _ => ((1 : Nat) : Int)) = fun _ => 0 from funext fun b => rfl]
      exact di_zero o
  | cons s w ih =>
    have two : ∀ o, di o (fun b => (gn w (b + 1) : Int)) = ((bno w o + bno w (o + 1) : Nat) : Int) := fun o => by
      rw [show (fun b => (gn w (b + 1) : Int)) = fun b => (fun b => (gn w b : Int)) b + dl (fun b => (gn w b : Int)) b from funext fun b => by
        show (gn w (b + 1) : Int) = (gn w b : Int) + ((gn w (b + 1) : Int) - (gn w b : Int))
        omega, di_add, ih o, show di o (dl fun b => (gn w b : Int)) = di (o + 1) (fun b => (gn w b : Int)) from rfl, ih (o + 1), Int.natCast_add]
    intro o
    cases s with
    | true => exact two o
    | false =>
      cases o with
      | zero =>
        show ((sn (gn w) 1 : Nat) : Int) = (bno w 0 : Int)
        rw [← ih 0]
        rfl
      | succ o =>
        show di o (dl fun b => ((sn (gn w) (b + 1) : Nat) : Int)) = ((bno w o + bno w (o + 1) : Nat) : Int)
        rw [show (dl fun b => ((sn (gn w) (b + 1) : Nat) : Int)) = fun b => (gn w (b + 1) : Int) from funext fun b => by
          show ((sn (gn w) (b + 1 + 1) : Nat) : Int) - ((sn (gn w) (b + 1) : Nat) : Int) = _
          rw [sn_last]
          omega]
        exact two o
/-- as many rows lie beneath as there are heaps -/
theorem bno_gn (w : List Bool) : bno w 0 = gn w 0 := by
  have := di_gn w 0
  have e : di 0 (fun b => (gn w b : Int)) = (gn w 0 : Int) := rfl
  omega
theorem gn_pos : ∀ (w : List Bool) (b : Nat), 0 < gn w b
  | [], _ => by show 0 < 1; decide
  | true :: w, b => gn_pos w (b + 1)
  | false :: w, b => by
    show 0 < gn w 0 + sn (fun j => gn w (j + 1)) b
    have := gn_pos w 0
    omega
end HopW

set_option Elab.async false
set_option linter.all false
set_option maxRecDepth 100000
/-! ### != of two lists whose items are alike, by their own == -/
namespace NeOwn
open PySem PySem.SeqAt
open AutoSeq1 (wpAny_loadPart')
open MeetsSeq MeetsSeq2 MeetsSeq3 SeqRoads2
section
variable {prog : Program} {w : World} {A : Around} {R : Result → Shared → Prop} {l b : Addr} {N : Nat} {I : Nat → Shared → Prop}
theorem at_end {its : Array Value} {i : Nat} (h : its.size = i) : its[((i : Nat) : Int).toNat]? = none := by
  rw [Int.toNat_natCast]
  exact Array.getElem?_eq_none (by omega)
theorem at_in {its : Array Value} {i : Nat} (h : i < its.size) : its[((i : Nat) : Int).toNat]? = some its[i] := by
  rw [Int.toNat_natCast]
  exact Array.getElem?_eq_getElem h
theorem walk (turns : GQ.ListI prog w A (fun e t => R (.error e) t) l b N I) (stop : ∀ t, I N t → R (.ok (.ret (.bool false))) t) :
    ∀ (left i : Nat), i + left = N → ∀ t, I i t → wpAny (model prog w) A.in1 (Builtin.«list.__eq__.loop» ⟨[.ref l, .ref b, rawInt i, rawInt 3], []⟩) (GQ.FinOf prog w A R) (fun e t => R (.error e) t) t
  | 0, i, e, t, h => by
    obtain ⟨xs, ys, c1, c2, gl, gb, zx, zy, _⟩ := turns i t h
    have done : R (.ok (.ret (.bool false))) t := stop t (by rw [← e]; exact h)
    have ex := at_end (its := xs) (i := i) (by omega)
    have ey := at_end (its := ys) (i := i) (by omega)
    obtain ⟨hp, g, d, tk, os⟩ := t
    wp_walk using wpAny_loadPart' gl, wpAny_loadPart' gb
    rw [ex, ey]
    wp_walk using wpAny_loadPart' gl, wpAny_loadPart' gb
    have z : (xs.size != ys.size) = false := by rw [zx, zy]; exact bne_self_eq_false N
    show R (.ok (.ret (.bool (xs.size != ys.size)))) _
    rw [z]
    exact done
  | left + 1, i, e, t, h => by
    obtain ⟨xs, ys, c1, c2, gl, gb, zx, zy, same⟩ := turns i t h
    have kx : i < xs.size := by omega
    have ky : i < ys.size := by omega
    have alike := same kx ky
    have ex := at_in kx
    have ey := at_in ky
    have more := walk turns stop left (i + 1) (by omega)
    obtain ⟨hp, g, d, tk, os⟩ := t
    wp_walk using wpAny_loadPart' gl, wpAny_loadPart' gb
    rw [ex, ey]
    refine wpAny_bind (wpAny_mono alike (fun r t2 q => ?_) fun _ _ z => z)
    obtain ⟨rfl, q2⟩ := q
    have go := more t2 q2
    obtain ⟨hp2, g2, d2, tk2, os2⟩ := t2
    wp_walk
    rw [show ((i : Int) + 1) = ((i + 1 : Nat) : Int) from rfl]
    exact ⟨plainId_quiet plain_eq_loop _, codeAny_builtin entry_eq_loop (by rw [Around.under_plainId plain_eq_loop _]; exact go)⟩
theorem lists_ne (turns : GQ.ListI prog w A (fun e t => R (.error e) t) l b N I) (stop : ∀ t, I N t → R (.ok (.ret (.bool false))) t) {t : Shared} (h : I 0 t) :
    wpAny (model prog w) A.in1 (Builtin.«list.__ne__» ⟨[.ref l, .ref b], []⟩) (GQ.FinOf prog w A R) (fun e t => R (.error e) t) t := by
  have go := walk turns stop N 0 (Nat.zero_add N) t h
  obtain ⟨xs, ys, c1, c2, gl, gb, zx, zy, _⟩ := turns 0 t h
  have lists := AutoSeq1.sub_list_list
  have z : ¬ (xs.size != ys.size) = true := by rw [zx, zy]; simp
  obtain ⟨hp, g, d, tk, os⟩ := t
  wp_walk using wpAny_loadPart' gl, wpAny_loadPart' gb
  exact ⟨plainId_quiet plain_eq_loop _, codeAny_builtin entry_eq_loop (by rw [Around.under_plainId plain_eq_loop _]; exact go)⟩
end
end NeOwn
namespace L2
open PySem PySem.Spec PyProof.Rows
section
variable {X : Cx} {n : Nat} {D : Eqv}
/-- x != y of two lists, their items alike by what D says -/
def rNeL (D : Eqv) : R2 := fun x y H Q => DList D x y H ∧ ∀ H', Ext H H' → Q (.bl false) H'
theorem op_neL (hD : Mon D) (h : EqG X n D) (hr : Room (n + 1) X.A) : OpR X (compareOp .NotEq) (rNeL D) := by
  intro pins s σ H x y v u Q I rx ry ⟨⟨a, b, xs, ys, ex, ey, ha, hb, p⟩, q⟩
  subst ex ey
  cases rx
  cases ry
  have sb : Sub X (n + 1) X.A := ⟨hr, rfl⟩
  show wpAny (model X.prog X.w) X.A (richCompare .NotEq (.ref a) (.ref b)) (EP X pins σ Q) X.xe s
  have items : ∀ {c : Addr} {zs : List V} {t : Shared} {H1 : Hp}, Inv X pins σ H1 t → Ext H H1 → H c = some (.lst zs) → ∃ (its : List Value) (k : Nat), Vals zs its ∧ t.heap.get? c = some { cls := .type "list", data := .seq its.toArray k } := fun I1 e1 hc => by
    obtain ⟨_, its, k, r, e⟩ := I1.hok _ _ (e1 _ _ hc)
    exact ⟨its, k, r, e⟩
  have turns : GQ.ListI X.prog X.w X.A X.xe a b xs.length (fun _ t => LoopI X pins σ H t) := fun i t q => by
    obtain ⟨H1, I1, e1⟩ := id q
    obtain ⟨its, k, r, e⟩ := items I1 e1 ha
    obtain ⟨its2, k2, r2, e2⟩ := items I1 e1 hb
    exact ⟨its.toArray, its2.toArray, k, k2, e, e2, by rw [List.size_toArray, ← r.length], by rw [List.size_toArray, ← r2.length, ← p.1], fun h1 h2 => turnG hD h sb p r r2 i h1 h2 t q⟩
  obtain ⟨its, k, r, e⟩ := items I Ext.rfl' ha
  obtain ⟨its2, k2, r2, e2⟩ := items I Ext.rfl' hb
  refine wpAny_richCompare_same_room (op := .NotEq) ⟨_, e, rfl⟩ ⟨_, e2, rfl⟩ F.slot_list_ne (GQ.call_here F.slot_list_ne ⟨_, e, rfl⟩ F.entry_list_ne (F.args_list_ne_2 _ _) ?_) hr.units0
  exact NeOwn.lists_ne (R := wants (fun v t => v ≠ .notImplemented ∧ EP X pins σ Q v t) X.xe) turns (fun t ⟨H', I', e'⟩ => ⟨(fun x => nomatch x), ⟨.bl false, H', I', rfl, q H' e'⟩⟩) ⟨H, I, Ext.rfl'⟩
end
end L2

set_option Elab.async false
set_option linter.all false
set_option maxRecDepth 100000
namespace HopW
open L2
/-! ### a dict that counts -/
section
variable {α κ : Type} [DecidableEq α] [DecidableEq κ]
def zv (ι : α → κ) (l : List (α × Int)) : List (κ × V) := l.map fun p => (ι p.1, .int p.2)
def gz (k : α) : List (α × Int) → Int
  | [] => 0
  | (j, v) :: l => if j = k then v else gz k l
def pz (k : α) (c : Int) : List (α × Int) → List (α × Int)
  | [] => [(k, c)]
  | (j, v) :: l => if j = k then (j, v + c) :: l else (j, v) :: pz k c l
def ds (φ : α → Rat) : List (α × Int) → Rat
  | [] => 0
  | (j, v) :: l => (v : Rat) * φ j + ds φ l
/-- the keys are told once each -/
def Once (l : List (α × Int)) : Prop := (l.map (·.1)).Nodup
theorem val_zv {ι : α → κ} (inj : ∀ a b, ι a = ι b → a = b) (k : α) : ∀ l : List (α × Int), (valV (zv ι l) (ι k)).getD (.int 0) = .int (gz k l)
  | [] => rfl
  | (j, v) :: l => by
    show (valV ((ι j, V.int v) :: zv ι l) (ι k)).getD (.int 0) = .int (if j = k then v else gz k l)
    by_cases e : j = k
    · rw [if_pos e, valV_pos (by rw [e])]; rfl
    · rw [if_neg e, valV_neg (fun z => e (inj _ _ z))]
      exact val_zv inj k l
theorem val_in {ι : α → κ} (inj : ∀ a b, ι a = ι b → a = b) {k : α} : ∀ {l : List (α × Int)} {i : Nat} {c : Int}, Once l → l[i]? = some (k, c) → valV (zv ι l) (ι k) = some (.int c)
  | (j, v) :: l, 0, c, _, h => by
    obtain ⟨rfl, rfl⟩ := Prod.mk.inj (Option.some.inj h)
    exact valV_pos rfl
  | (j, v) :: l, i + 1, c, o, h => by
    have o' : (j :: l.map (·.1)).Nodup := o
    have h' : l[i]? = some (k, c) := h
    obtain ⟨n1, n2⟩ := List.nodup_cons.mp o'
    have m : k ∈ l.map (·.1) := List.mem_map.mpr ⟨(k, c), List.mem_of_getElem? h', rfl⟩
    refine (valV_neg (fun z => n1 ?_)).trans (val_in inj (i := i) n2 h')
    rw [inj _ _ (show ι j = ι k from z)]; exact m
theorem no_key {ι : α → κ} (inj : ∀ a b, ι a = ι b → a = b) {k : α} : ∀ {l : List (α × Int)}, k ∉ l.map (·.1) → valV (zv ι l) (ι k) = none ∧ ∀ x, (zv ι l).map (fun kv => if kv.1 = ι k then (kv.1, x) else kv) = zv ι l
  | [], _ => ⟨rfl, fun _ => rfl⟩
  | (j, v) :: l, h => by
    have h' : k ∉ j :: l.map (·.1) := h
    have n1 : ¬ ι j = ι k := fun z => h' (by rw [inj _ _ z]; exact List.mem_cons_self ..)
    obtain ⟨a, b⟩ := no_key inj (l := l) (fun m => h' (List.mem_cons_of_mem _ m))
    refine ⟨(valV_neg n1).trans a, fun x => ?_⟩
    show (if ι j = ι k then (ι j, x) else (ι j, V.int v)) :: (zv ι l).map _ = (ι j, V.int v) :: zv ι l
    rw [if_neg n1, b x]
theorem any_zv {ι : α → κ} (k : α) (l : List (α × Int)) : ((zv ι l).any fun kv => decide (kv.1 = ι k)) = (valV (zv ι l) (ι k)).isSome := valV_any (ι k) _
theorem put_zv {ι : α → κ} (inj : ∀ a b, ι a = ι b → a = b) (k : α) (c : Int) : ∀ {l : List (α × Int)}, Once l → putK (zv ι l) (ι k) (.int (gz k l + c)) = zv ι (pz k c l)
  | [], _ => by
    rw [putK_new _ (show valV (zv ι ([] : List (α × Int))) (ι k) = none from rfl)]
    show [(ι k, V.int (0 + c))] = [(ι k, V.int c)]
    rw [Int.zero_add]
  | (j, v) :: l, o => by
    have o' : (j :: l.map (·.1)).Nodup := o
    obtain ⟨n1, n2⟩ := List.nodup_cons.mp o'
    by_cases e : j = k
    · subst e
      show putK ((ι j, V.int v) :: zv ι l) (ι j) (.int ((if j = j then v else gz j l) + c)) = zv ι (if j = j then (j, v + c) :: l else _)
      rw [if_pos rfl, if_pos rfl]
      have q := (no_key inj n1).2 (.int (v + c))
      unfold putK
      rw [if_pos (by simp)]
      show (if ι j = ι j then (ι j, V.int (v + c)) else _) :: (zv ι l).map _ = (ι j, V.int (v + c)) :: zv ι l
      rw [if_pos rfl, q]
    · have n3 : ¬ ι j = ι k := fun z => e (inj _ _ z)
      have ih := put_zv inj k c n2
      show putK ((ι j, V.int v) :: zv ι l) (ι k) (.int ((if j = k then v else gz k l) + c)) = zv ι (if j = k then _ else (j, v) :: pz k c l)
      rw [if_neg e, if_neg e]
      show _ = (ι j, V.int v) :: zv ι (pz k c l)
      rw [← ih]
      generalize V.int (gz k l + c) = x
      unfold putK
      rw [List.any_cons, show decide ((ι j, V.int v).1 = ι k) = false from decide_eq_false n3, Bool.false_or, List.map_cons, if_neg n3]
      by_cases t : ((zv ι l).any fun kv => decide (kv.1 = ι k)) = true
      · rw [if_pos t, if_pos t]
      · rw [if_neg t, if_neg t]; rfl
theorem ds_pz (φ : α → Rat) (k : α) (c : Int) : ∀ l : List (α × Int), ds φ (pz k c l) = ds φ l + (c : Rat) * φ k
  | [] => by show (c : Rat) * φ k + 0 = 0 + (c : Rat) * φ k; grind
  | (j, v) :: l => by
    unfold pz
    split
    · rename_i e; subst e
      show ((v + c : Int) : Rat) * φ j + ds φ l = (v : Rat) * φ j + ds φ l + (c : Rat) * φ j
      rw [Rat.intCast_add]; grind
    · show (v : Rat) * φ j + ds φ (pz k c l) = (v : Rat) * φ j + ds φ l + (c : Rat) * φ k
      rw [ds_pz φ k c l]; grind
theorem keys_pz {k x : α} {c : Int} : ∀ {l : List (α × Int)}, x ∈ (pz k c l).map (·.1) → x = k ∨ x ∈ l.map (·.1)
  | [], h => .inl (by simpa [pz] using h)
  | (j, v) :: l, h => by
    unfold pz at h
    split at h
    · exact .inr h
    · rcases List.mem_cons.mp h with e | m
      · exact .inr (by rw [e]; exact List.mem_cons_self ..)
      · rcases keys_pz m with e | m
        · exact .inl e
        · exact .inr (List.mem_cons_of_mem _ m)
theorem once_pz {k : α} {c : Int} : ∀ {l : List (α × Int)}, Once l → Once (pz k c l)
  | [], _ => by simp [Once, pz]
  | (j, v) :: l, o => by
    have o' : (j :: l.map (·.1)).Nodup := o
    obtain ⟨n1, n2⟩ := List.nodup_cons.mp o'
    unfold pz
    split
    · exact o
    · rename_i e
      exact List.nodup_cons.mpr ⟨fun m => (keys_pz m).elim e n1, once_pz n2⟩
theorem len_pz (k : α) (c : Int) : ∀ l : List (α × Int), (pz k c l).length ≤ l.length + 1
  | [] => Nat.le_refl _
  | (j, v) :: l => by
    unfold pz
    split
    · exact Nat.le_succ _
    · exact Nat.succ_le_succ (len_pz k c l)
theorem ds_app (φ : α → Rat) : ∀ l m : List (α × Int), ds φ (l ++ m) = ds φ l + ds φ m
  | [], m => by show ds φ m = 0 + ds φ m; grind
  | (j, v) :: l, m => by show (v : Rat) * φ j + ds φ (l ++ m) = (v : Rat) * φ j + ds φ l + ds φ m; rw [ds_app φ l m]; grind
theorem ds_take {φ : α → Rat} {l : List (α × Int)} {i : Nat} {k : α} {c : Int} (h : l[i]? = some (k, c)) : ds φ (l.take (i + 1)) = ds φ (l.take i) + (c : Rat) * φ k := by
  rw [List.take_succ, h, ds_app]
  show ds φ (l.take i) + ((c : Rat) * φ k + 0) = _
  grind
end
/-! ### a word without a bead before a free place -/
theorem wt_rest (x y : Rat) (f b : Nat) : wt x y (List.replicate f false ++ List.replicate b true) = x ^ f * y ^ b := by
  induction f with
  | zero =>
    induction b with
    | zero => simp [wt, gf]
    | succ b ih =>
      rw [List.replicate_succ', ← List.append_assoc, wt_bead, ih]
      grind
  | succ f ih =>
    rw [List.replicate_succ, List.cons_append, wt_free, ih]
    grind
end HopW

set_option Elab.async false
set_option linter.all false
set_option maxRecDepth 100000
namespace HopW
open L2
theorem all_pz {α : Type} [DecidableEq α] {R : α → Prop} {k : α} {c : Int} (hk : R k) (hc : 0 ≤ c) : ∀ {l : List (α × Int)}, (∀ p ∈ l, R p.1 ∧ 0 ≤ p.2) → ∀ p ∈ pz k c l, R p.1 ∧ 0 ≤ p.2
  | [], _, p, m => by
    obtain rfl := List.mem_singleton.mp m
    exact ⟨hk, hc⟩
  | (j, v) :: l, h, p, m => by
    have h0 := h _ (List.mem_cons_self ..)
    have h1 : ∀ p ∈ l, R p.1 ∧ 0 ≤ p.2 := fun p m => h p (List.mem_cons_of_mem _ m)
    unfold pz at m
    split at m
    · rcases List.mem_cons.mp m with rfl | m
      · exact ⟨h0.1, Int.add_nonneg h0.2 hc⟩
      · exact h1 p m
    · rcases List.mem_cons.mp m with rfl | m
      · exact h0
      · exact all_pz hk hc h1 p m
/-- what a dict of words, or of ends, keeps -/
structure Tl {α : Type} (R : α → Prop) (M : Nat) (l : List (α × Int)) : Prop where
  o : (l.map (·.1)).Nodup
  a : ∀ p ∈ l, R p.1 ∧ 0 ≤ p.2
  n : l.length ≤ M
theorem Tl.nil {α : Type} {R : α → Prop} {M : Nat} : Tl R M ([] : List (α × Int)) := ⟨List.nodup_nil, by simp, Nat.zero_le _⟩
theorem Tl.put {α : Type} [DecidableEq α] {R : α → Prop} {M : Nat} {l : List (α × Int)} {k : α} {c : Int} (t : Tl R M l) (hk : R k) (hc : 0 ≤ c) : Tl R (M + 1) (pz k c l) :=
  ⟨once_pz t.o, all_pz hk hc t.a, Nat.le_trans (len_pz k c l) (Nat.succ_le_succ t.n)⟩
theorem Tl.up {α : Type} {R : α → Prop} {M N : Nat} {l : List (α × Int)} (t : Tl R M l) (h : M ≤ N) : Tl R N l := ⟨t.o, t.a, Nat.le_trans t.n h⟩
theorem Tl.at {α : Type} {R : α → Prop} {M : Nat} {l : List (α × Int)} (t : Tl R M l) {i : Nat} {k : α} {c : Int} (h : l[i]? = some (k, c)) : R k ∧ 0 ≤ c := t.a _ (List.mem_of_getElem? h)
/-- one turn over a word: an end is told -/
theorem ds_end {x y : Rat} {f b : Nat} {c : Int} {T : List (List Bool × Int)} {i : Nat} (h : T[i]? = some (List.replicate f false ++ List.replicate b true, c)) (G : List ((Nat × Nat) × Int)) {Z : Rat} {L : List (List Bool × Int)}
    (e : ds (wt x y) L + ds (fun e => x ^ e.1 * y ^ e.2) G = ds (wt x y) (T.take i) + Z) : ds (wt x y) L + ds (fun e => x ^ e.1 * y ^ e.2) (pz (f, b) c G) = ds (wt x y) (T.take (i + 1)) + Z := by
  rw [ds_pz, ds_take h, wt_rest]
  show _ + (_ + (c : Rat) * (x ^ f * y ^ b)) = _
  grind
/-- two shorter words are told -/
theorem ds_two {x y : Rat} {u v : List Bool} {c : Int} {T : List (List Bool × Int)} {i : Nat} (h : T[i]? = some (u ++ true :: false :: v, c)) {Z g : Rat} {L : List (List Bool × Int)}
    (e : ds (wt x y) L + g = ds (wt x y) (T.take i) + Z) : ds (wt x y) (pz (u ++ false :: v) c (pz (u ++ true :: v) c L)) + g = ds (wt x y) (T.take (i + 1)) + Z := by
  rw [ds_pz, ds_pz, ds_take h, wt_of]
  grind
end HopW

set_option Elab.async false
set_option linter.all false
set_option maxRecDepth 100000
namespace HopW
open L2
/-! ### ends, weighed by any function of both their numbers -/
def stF (F : Nat → Nat → Rat) : Nat → Nat → Rat := fun a b => F (a + 1) 0 + sg (fun j => F a (j + 1)) b
def gF : List Bool → (Nat → Nat → Rat) → (Nat → Nat → Rat)
  | [], F => F
  | true :: w, F => fun a b => gF w F a (b + 1)
  | false :: w, F => stF (gF w F)
def tF (F : Nat → Nat → Rat) : List (List Nat) → Rat
  | [] => 0
  | l :: t => lp (F 0) l + tF (fun a => F (a + 1)) t
theorem lp_stF (F : Nat → Nat → Rat) (l : List Nat) : lp (stF F 0) l = (l.sum : Rat) * F 1 0 + lp (fun b => F 0 (b + 1)) (sfx l.tail) := by
  show lp (fun b => F 1 0 + sg (fun j => F 0 (j + 1)) b) l = _
  rw [lp_lin]
  cases l with
  | nil => show F 1 0 * ((0 : Nat) : Rat) + 0 = ((0 : Nat) : Rat) * F 1 0 + 0; grind
  | cons m l =>
    rw [lp_sfx, List.tail_cons]
    grind
theorem tF_go : ∀ (T : List (List Nat)) (F : Nat → Nat → Rat) (s : Nat), tF F (go s T) = (s : Rat) * F 0 0 + tF (stF F) T := by
  intro T
  induction T with
  | nil =>
    intro F s
    show ((s : Rat) * F 0 0 + 0) + 0 = (s : Rat) * F 0 0 + 0
    grind
  | cons l t ih =>
    intro F s
    show ((s : Rat) * F 0 0 + lp (fun b => F 0 (b + 1)) (sfx l.tail)) + tF (fun a => F (a + 1)) (go l.sum t) = (s : Rat) * F 0 0 + (lp (stF F 0) l + tF (fun a => stF F (a + 1)) t)
    rw [ih, lp_stF]
    show _ + ((l.sum : Rat) * F 1 0 + tF (stF (fun a => F (a + 1))) t) = _
    have e : (fun a => stF F (a + 1)) = stF (fun a => F (a + 1)) := rfl
    rw [e]
    grind
theorem tF_bead : ∀ (T : List (List Nat)) (F : Nat → Nat → Rat), tF F (T.map (0 :: ·)) = tF (fun a b => F a (b + 1)) T := by
  intro T
  induction T with
  | nil => intro F; rfl
  | cons l t ih =>
    intro F
    show (((0 : Nat) : Rat) * F 0 0 + lp (fun b => F 0 (b + 1)) l) + tF (fun a => F (a + 1)) (t.map (0 :: ·)) = lp (fun b => F 0 (b + 1)) l + tF (fun a b => F (a + 1) (b + 1)) t
    rw [ih]
    grind
theorem tF_st (F : Nat → Nat → Rat) (T : List (List Nat)) (b : Bool) : tF F (stT T b) = tF (gF [b] F) T := by
  cases b with
  | true => exact tF_bead T F
  | false =>
    show tF F (go 0 T) = tF (stF F) T
    rw [tF_go]
    show ((0 : Nat) : Rat) * F 0 0 + tF (stF F) T = _
    grind
theorem gF_app (F : Nat → Nat → Rat) : ∀ u v : List Bool, gF (u ++ v) F = gF u (gF v F)
  | [], _ => rfl
  | true :: u, v => by
    show (fun a b => gF (u ++ v) F a (b + 1)) = fun a b => gF u (gF v F) a (b + 1)
    rw [gF_app F u v]
  | false :: u, v => by
    show stF (gF (u ++ v) F) = stF (gF u (gF v F))
    rw [gF_app F u v]
theorem tF_fold (F : Nat → Nat → Rat) : ∀ (w : List Bool) (T : List (List Nat)), tF F (w.foldl stT T) = tF (gF w F) T := by
  intro w
  induction w with
  | nil => intro T; rfl
  | cons b w ih =>
    intro T
    show tF F (w.foldl stT (stT T b)) = _
    rw [ih, tF_st]
    show tF (gF [b] (gF w F)) T = _
    rw [← gF_app]
    rfl
def wF (F : Nat → Nat → Rat) (w : List Bool) : Rat := gF w F 0 0
theorem wF_tbl (F : Nat → Nat → Rat) (w : List Bool) : tF F (tbl w) = wF F w := by
  unfold tbl wF
  rw [tF_fold]
  show (((1 : Nat) : Rat) * gF w F 0 0 + 0) + 0 = _
  grind
theorem gF_add (F G : Nat → Nat → Rat) : ∀ (w : List Bool) (a b : Nat), gF w (fun i j => F i j + G i j) a b = gF w F a b + gF w G a b := by
  intro w
  induction w with
  | nil => intro a b; rfl
  | cons s w ih =>
    intro a b
    cases s with
    | true => exact ih a (b + 1)
    | false =>
      show gF w (fun i j => F i j + G i j) (a + 1) 0 + sg (fun j => gF w (fun i j => F i j + G i j) a (j + 1)) b = (gF w F (a + 1) 0 + sg (fun j => gF w F a (j + 1)) b) + (gF w G (a + 1) 0 + sg (fun j => gF w G a (j + 1)) b)
      rw [ih (a + 1) 0, show (fun j => gF w (fun i j => F i j + G i j) a (j + 1)) = fun j => gF w F a (j + 1) + gF w G a (j + 1) from funext fun j => ih a (j + 1), sg_add]
      grind
/-- a bead that comes out is gone, or the free place is -/
theorem wF_of (F : Nat → Nat → Rat) (u v : List Bool) : wF F (u ++ true :: false :: v) = wF F (u ++ true :: v) + wF F (u ++ false :: v) := by
  unfold wF
  rw [gF_app, gF_app, gF_app, ← gF_add]
  congr 1
  funext a b
  show gF v F (a + 1) 0 + sg (fun j => gF v F a (j + 1)) (b + 1) = gF v F a (b + 1) + (gF v F (a + 1) 0 + sg (fun j => gF v F a (j + 1)) b)
  rw [sg_last]
  grind
theorem gF_up (F : Nat → Nat → Rat) : ∀ (w : List Bool) (a b : Nat), gF w F (a + 1) b = gF w (fun i => F (i + 1)) a b := by
  intro w
  induction w with
  | nil => intro a b; rfl
  | cons s w ih =>
    intro a b
    cases s with
    | true => exact ih a (b + 1)
    | false =>
      show gF w F (a + 1 + 1) 0 + sg (fun j => gF w F (a + 1) (j + 1)) b = gF w (fun i => F (i + 1)) (a + 1) 0 + sg (fun j => gF w (fun i => F (i + 1)) a (j + 1)) b
      rw [ih (a + 1) 0, show (fun j => gF w F (a + 1) (j + 1)) = fun j => gF w (fun i => F (i + 1)) a (j + 1) from funext fun j => ih a (j + 1)]
theorem wF_free (F : Nat → Nat → Rat) (v : List Bool) : wF F (false :: v) = wF (fun i => F (i + 1)) v := by
  show gF v F 1 0 + 0 = gF v (fun i => F (i + 1)) 0 0
  rw [gF_up]
  grind
theorem wF_bead (F : Nat → Nat → Rat) (v : List Bool) : wF F (v ++ [true]) = wF (fun i j => F i (j + 1)) v := by
  unfold wF
  rw [gF_app]
  rfl
theorem wF_rest (F : Nat → Nat → Rat) (f b : Nat) : wF F (List.replicate f false ++ List.replicate b true) = F f b := by
  induction f generalizing F with
  | zero =>
    induction b generalizing F with
    | zero => rfl
    | succ b ih => rw [List.replicate_succ', ← List.append_assoc, wF_bead, ih]
  | succ f ih => rw [List.replicate_succ, List.cons_append, wF_free, ih]
theorem wF_frees (F : Nat → Nat → Rat) (v : List Bool) : ∀ k : Nat, wF F (List.replicate k false ++ v) = wF (fun i j => F (i + k) j) v := by
  intro k
  induction k generalizing F with
  | zero => rfl
  | succ k ih =>
    rw [List.replicate_succ, List.cons_append, wF_free, ih]
    congr 1
theorem wF_beads (F : Nat → Nat → Rat) (v : List Bool) : ∀ k : Nat, wF F (v ++ List.replicate k true) = wF (fun i j => F i (j + k)) v := by
  intro k
  induction k generalizing F with
  | zero => rw [List.replicate_zero, List.append_nil]; rfl
  | succ k ih =>
    rw [List.replicate_succ', ← List.append_assoc, wF_bead, ih]
    congr 1
/-- not too many ends -/
theorem two_add (m : Nat) : ∀ n : Nat, (2 : Rat) ^ (m + n) = 2 ^ m * 2 ^ n
  | 0 => by rw [Nat.add_zero, Rat.pow_zero, Rat.mul_one]
  | n + 1 => by rw [← Nat.add_assoc, Rat.pow_succ, Rat.pow_succ, two_add m n, Rat.mul_assoc]
theorem sg_two (c : Rat) (h : Nat → Rat) (hc : 0 ≤ c) : ∀ b : Nat, (∀ j, h j ≤ c * 2 ^ (j + 1)) → sg h b + c ≤ c * 2 ^ (b + 1) := by
  intro b
  induction b with
  | zero => intro _; show 0 + c ≤ c * 2 ^ 1; grind
  | succ b ih =>
    intro hh
    have h1 := ih hh
    have h2 := hh b
    rw [sg_last, Rat.pow_succ (n := b + 1)]
    grind
theorem gF_one : ∀ (w : List Bool) (a b : Nat), gF w (fun _ _ => 1) a b ≤ 2 ^ (w.length + b) := by
  intro w
  induction w with
  | nil =>
    intro a b
    show (1 : Rat) ≤ 2 ^ (0 + b)
    rw [Nat.zero_add]
    induction b with
    | zero => rw [Rat.pow_zero]; grind
    | succ b ih => rw [Rat.pow_succ]; grind
  | cons s w ih =>
    intro a b
    cases s with
    | true =>
      have := ih a (b + 1)
      show gF w (fun _ _ => 1) a (b + 1) ≤ 2 ^ (w.length + 1 + b)
      rw [show w.length + 1 + b = w.length + (b + 1) by omega]
      exact this
    | false =>
      have h0 := ih (a + 1) 0
      have p0 : (0 : Rat) ≤ 2 ^ w.length := Rat.le_of_lt (Rat.pow_pos (by decide))
      have h1 := sg_two (2 ^ w.length) (fun j => gF w (fun _ _ => 1) a (j + 1)) p0 b (fun j => by
        rw [← two_add]
        exact ih a (j + 1))
      rw [← two_add] at h1
      show gF w (fun _ _ => 1) (a + 1) 0 + sg (fun j => gF w (fun _ _ => 1) a (j + 1)) b ≤ 2 ^ (w.length + 1 + b)
      rw [show w.length + 1 + b = w.length + (b + 1) by omega]
      rw [Nat.add_zero] at h0
      grind
theorem wF_one (w : List Bool) : wF (fun _ _ => 1) w ≤ 2 ^ w.length := gF_one w 0 0
end HopW

set_option Elab.async false
set_option linter.all false
set_option maxRecDepth 100000
namespace HopW
/-! ### lists of ends: the ends of a table, sorted, and alone so -/
abbrev En := (Nat × Nat) × Int
def lt2 (p q : Nat × Nat) : Prop := p.1 < q.1 ∨ p.1 = q.1 ∧ p.2 < q.2
def Sd (l : List En) : Prop := l.Pairwise (fun a b => lt2 a.1 b.1) ∧ ∀ e ∈ l, 0 < e.2
theorem lt2_irr (p : Nat × Nat) : ¬ lt2 p p := by unfold lt2; omega
theorem lt2_tri (p q : Nat × Nat) : lt2 p q ∨ p = q ∨ lt2 q p := by
  obtain ⟨a, b⟩ := p
  obtain ⟨c, d⟩ := q
  unfold lt2
  simp only [Prod.mk.injEq]
  omega
theorem Sd.tail {e : En} {l : List En} (h : Sd (e :: l)) : Sd l := ⟨(List.pairwise_cons.mp h.1).2, fun x m => h.2 x (List.mem_cons_of_mem _ m)⟩
theorem Sd.head {e : En} {l : List En} (h : Sd (e :: l)) : 0 < e.2 ∧ ∀ x ∈ l, lt2 e.1 x.1 := ⟨h.2 e (List.mem_cons_self ..), (List.pairwise_cons.mp h.1).1⟩
def at1 (k : Nat × Nat) : Nat × Nat → Rat := fun e => if e = k then 1 else 0
theorem ds_off {k : Nat × Nat} : ∀ {l : List En}, (∀ x ∈ l, x.1 ≠ k) → ds (at1 k) l = 0
  | [], _ => rfl
  | (j, v) :: l, h => by
    show (v : Rat) * at1 k j + ds (at1 k) l = 0
    rw [ds_off (l := l) (fun x m => h x (List.mem_cons_of_mem _ m)), show at1 k j = 0 from if_neg (h (j, v) (List.mem_cons_self ..))]
    grind
theorem ds_head {e : En} {l : List En} (h : Sd (e :: l)) : ds (at1 e.1) (e :: l) = (e.2 : Rat) := by
  show (e.2 : Rat) * at1 e.1 e.1 + ds (at1 e.1) l = _
  rw [ds_off (l := l) (fun x m z => lt2_irr _ (by have := h.head.2 x m; rw [z] at this; exact this)), show at1 e.1 e.1 = 1 from if_pos rfl]
  grind
theorem ds_less {k : Nat × Nat} {e : En} {l : List En} (h : Sd (e :: l)) (hk : lt2 k e.1) : ds (at1 k) (e :: l) = 0 := ds_off fun x m z => by
  rcases List.mem_cons.mp m with rfl | m
  · rw [z] at hk; exact lt2_irr _ hk
  · have h2 := h.head.2 x m
    rw [z] at h2
    unfold lt2 at hk h2
    omega
theorem pos_cast {c : Int} (h : 0 < c) : ((c : Int) : Rat) ≠ 0 := fun e => by
  have := Rat.intCast_eq_zero_iff.mp e
  omega
/-- two such lists that weigh alike are the same -/
theorem sd_same : ∀ {l m : List En}, Sd l → Sd m → (∀ φ : Nat × Nat → Rat, ds φ l = ds φ m) → l = m
  | [], [], _, _, _ => rfl
  | [], e :: m, _, h, w => by
    have := w (at1 e.1)
    rw [ds_head h] at this
    exact absurd this.symm (pos_cast h.head.1)
  | e :: l, [], h, _, w => by
    have := w (at1 e.1)
    rw [ds_head h] at this
    exact absurd this (pos_cast h.head.1)
  | e :: l, e' :: m, h, h', w => by
    rcases lt2_tri e.1 e'.1 with c | c | c
    · have := w (at1 e.1)
      rw [ds_head h, ds_less h' c] at this
      exact absurd this (pos_cast h.head.1)
    · have w1 := w (at1 e.1)
      rw [ds_head h, c, ds_head h'] at w1
      have c2 : e.2 = e'.2 := Rat.intCast_inj.mp w1
      have ee : e = e' := Prod.ext c c2
      subst ee
      congr 1
      refine sd_same h.tail h'.tail fun φ => ?_
      have := w φ
      have this : (e.2 : Rat) * φ e.1 + ds φ l = (e.2 : Rat) * φ e.1 + ds φ m := this
      grind
    · have := w (at1 e'.1)
      rw [ds_head h', ds_less h c] at this
      exact absurd this.symm (pos_cast h'.head.1)
/-! ### the ends of a table -/
def enL (f b : Nat) : List Nat → List En
  | [] => []
  | m :: l => (if 0 < m then [((f, b), (m : Int))] else []) ++ enL f (b + 1) l
def enT (f : Nat) : List (List Nat) → List En
  | [] => []
  | l :: t => enL f 0 l ++ enT (f + 1) t
def φF (F : Nat → Nat → Rat) : Nat × Nat → Rat := fun e => F e.1 e.2
theorem ds_if (φ : Nat × Nat → Rat) (k : Nat × Nat) (m : Nat) : ds φ (if 0 < m then [(k, (m : Int))] else []) = (m : Rat) * φ k := by
  by_cases h : 0 < m
  · rw [if_pos h]
    show ((m : Int) : Rat) * φ k + 0 = _
    rw [Rat.intCast_natCast]; grind
  · rw [if_neg h, show m = 0 by omega]
    show (0 : Rat) = ((0 : Nat) : Rat) * φ k
    grind
theorem ds_enL (F : Nat → Nat → Rat) (f : Nat) : ∀ (l : List Nat) (b : Nat), ds (φF F) (enL f b l) = lp (fun j => F f (b + j)) l
  | [], _ => rfl
  | m :: l, b => by
    show ds (φF F) ((if 0 < m then [((f, b), (m : Int))] else []) ++ enL f (b + 1) l) = (m : Rat) * F f (b + 0) + lp (fun j => F f (b + (j + 1))) l
    rw [ds_app, ds_if, ds_enL F f l (b + 1), show (fun j => F f (b + 1 + j)) = fun j => F f (b + (j + 1)) from funext fun j => by rw [Nat.add_assoc, Nat.add_comm 1 j]]
    rfl
theorem ds_enT (F : Nat → Nat → Rat) : ∀ (T : List (List Nat)) (f : Nat), ds (φF F) (enT f T) = tF (fun a => F (f + a)) T
  | [], _ => rfl
  | l :: t, f => by
    show ds (φF F) (enL f 0 l ++ enT (f + 1) t) = lp (F (f + 0)) l + tF (fun a => F (f + (a + 1))) t
    rw [ds_app, ds_enL, ds_enT F t (f + 1), show (fun a => F (f + 1 + a)) = fun a => F (f + (a + 1)) from funext fun j => by rw [Nat.add_assoc, Nat.add_comm 1 j]]
    simp only [Nat.zero_add, Nat.add_zero]
theorem enL_mem {f : Nat} {e : En} : ∀ {l : List Nat} {b : Nat}, e ∈ enL f b l → e.1.1 = f ∧ b ≤ e.1.2 ∧ 0 < e.2
  | [], _, h => absurd h (by simp [enL])
  | m :: l, b, h => by
    rcases List.mem_append.mp h with h | h
    · by_cases hm : 0 < m
      · rw [if_pos hm] at h
        obtain rfl := List.mem_singleton.mp h
        exact ⟨rfl, Nat.le_refl _, by show (0 : Int) < (m : Int); omega⟩
      · rw [if_neg hm] at h
        exact absurd h (by simp)
    · obtain ⟨h1, h2, h3⟩ := enL_mem h
      exact ⟨h1, by omega, h3⟩
theorem enL_sd (f : Nat) : ∀ (l : List Nat) (b : Nat), (enL f b l).Pairwise (fun a b => lt2 a.1 b.1)
  | [], _ => List.Pairwise.nil
  | m :: l, b => by
    refine List.pairwise_append.mpr ⟨?_, enL_sd f l (b + 1), fun x hx y hy => ?_⟩
    · by_cases hm : 0 < m
      · rw [if_pos hm]; exact List.pairwise_singleton _ _
      · rw [if_neg hm]; exact List.Pairwise.nil
    · obtain ⟨y1, y2, _⟩ := enL_mem hy
      by_cases hm : 0 < m
      · rw [if_pos hm] at hx
        obtain rfl := List.mem_singleton.mp hx
        exact .inr ⟨y1.symm, by show b < _; omega⟩
      · rw [if_neg hm] at hx
        exact absurd hx (by simp)
theorem enT_mem {e : En} : ∀ {T : List (List Nat)} {f : Nat}, e ∈ enT f T → f ≤ e.1.1 ∧ 0 < e.2
  | [], _, h => absurd h (by simp [enT])
  | l :: t, f, h => by
    rcases List.mem_append.mp h with h | h
    · obtain ⟨h1, _, h3⟩ := enL_mem h
      exact ⟨by omega, h3⟩
    · obtain ⟨h1, h3⟩ := enT_mem h
      exact ⟨by omega, h3⟩
theorem enT_sd : ∀ (T : List (List Nat)) (f : Nat), (enT f T).Pairwise (fun a b => lt2 a.1 b.1)
  | [], _ => List.Pairwise.nil
  | l :: t, f => List.pairwise_append.mpr ⟨enL_sd f l 0, enT_sd t (f + 1), fun x hx y hy => .inl (by
      have := (enL_mem hx).1
      have := (enT_mem hy).1
      omega)⟩
/-- the ends of a word, sorted -/
def eN (w : List Bool) : List En := enT 0 (tbl w)
theorem eN_sd (w : List Bool) : Sd (eN w) := ⟨enT_sd _ _, fun e h => (enT_mem h).2⟩
theorem eN_ds (F : Nat → Nat → Rat) (w : List Bool) : ds (φF F) (eN w) = wF F w := by
  unfold eN
  rw [ds_enT, ← wF_tbl]
  congr 1
  funext a
  rw [Nat.zero_add]
theorem eN_is {l : List En} {w : List Bool} (h : Sd l) (hw : ∀ F : Nat → Nat → Rat, ds (φF F) l = wF F w) : l = eN w :=
  sd_same h (eN_sd w) fun φ => by
    have := hw (fun a b => φ (a, b))
    rw [← eN_ds] at this
    exact this
theorem le_ds {φ : Nat × Nat → Rat} (h1 : ∀ k, φ k = 1) : ∀ {l : List En}, (∀ e ∈ l, 0 < e.2) → 0 ≤ ds φ l ∧ ∀ e ∈ l, (e.2 : Rat) ≤ ds φ l
  | [], _ => ⟨Rat.le_refl, by simp⟩
  | (j, v) :: l, h => by
    obtain ⟨i1, i2⟩ := le_ds h1 (l := l) (fun x m => h x (List.mem_cons_of_mem _ m))
    have hv : (0 : Rat) ≤ (v : Rat) := by
      have : 0 < v := h (j, v) (List.mem_cons_self ..)
      exact Rat.intCast_nonneg.mpr (by omega)
    have e : ds φ ((j, v) :: l) = (v : Rat) + ds φ l := by
      show (v : Rat) * φ j + ds φ l = _
      rw [h1]; grind
    rw [e]
    refine ⟨by grind, fun x m => ?_⟩
    rcases List.mem_cons.mp m with rfl | m
    · show (v : Rat) ≤ _; grind
    · have := i2 x m; grind
theorem eN_most {w : List Bool} {e : En} (h : e ∈ eN w) : 0 < e.2 ∧ e.2.natAbs ≤ 2 ^ w.length := by
  have p := (eN_sd w).2 e h
  refine ⟨p, ?_⟩
  have h1 := (le_ds (φ := φF fun _ _ => 1) (fun _ => rfl) (eN_sd w).2).2 e h
  rw [eN_ds] at h1
  have h2 := Rat.le_trans h1 (wF_one w)
  have h3 : (e.2 : Rat) ≤ (((2 : Int) ^ w.length : Int) : Rat) := by
    rw [Rat.intCast_pow]; exact h2
  have h4 : e.2 ≤ (2 : Int) ^ w.length := Rat.intCast_le_intCast.mp h3
  have h5 : ((2 ^ w.length : Nat) : Int) = (2 : Int) ^ w.length := by simp
  omega
end HopW

set_option Elab.async false
set_option linter.all false
set_option maxRecDepth 100000
namespace HopW
/-! ### what a sorted list of ends is -/
def le3 (p q : En) : Prop := p.1.1 < q.1.1 ∨ p.1.1 = q.1.1 ∧ (p.1.2 < q.1.2 ∨ p.1.2 = q.1.2 ∧ p.2 ≤ q.2)
theorem sd_of : ∀ {l : List En}, l.Pairwise le3 → (l.map (·.1)).Nodup → (∀ e ∈ l, 0 < e.2) → Sd l
  | [], _, _, _ => ⟨.nil, by simp⟩
  | e :: l, h, n, p => by
    have h' := List.pairwise_cons.mp h
    have n' : (e.1 :: l.map (·.1)).Nodup := n
    have n2 := List.nodup_cons.mp n'
    have ih := sd_of h'.2 n2.2 (fun x m => p x (List.mem_cons_of_mem _ m))
    refine ⟨List.pairwise_cons.mpr ⟨fun x m => ?_, ih.1⟩, p⟩
    have h3 := h'.1 x m
    have ne : e.1 ≠ x.1 := fun z => n2.1 (List.mem_map.mpr ⟨x, m, z.symm⟩)
    obtain ⟨⟨a, b⟩, c⟩ := e
    obtain ⟨⟨a', b'⟩, c'⟩ := x
    have h3 : a < a' ∨ a = a' ∧ (b < b' ∨ b = b' ∧ c ≤ c') := h3
    show a < a' ∨ a = a' ∧ b < b'
    have ne : ¬ (a = a' ∧ b = b') := fun z => ne (by rw [z.1, z.2])
    omega
theorem all_pz1 {α : Type} [DecidableEq α] {R : α → Prop} {k : α} {c : Int} (hk : R k) (hc : 0 < c) : ∀ {l : List (α × Int)}, (∀ p ∈ l, R p.1 ∧ 0 < p.2) → ∀ p ∈ pz k c l, R p.1 ∧ 0 < p.2
  | [], _, p, m => by
    obtain rfl := List.mem_singleton.mp m
    exact ⟨hk, hc⟩
  | (j, v) :: l, h, p, m => by
    have h0 := h _ (List.mem_cons_self ..)
    have h1 : ∀ p ∈ l, R p.1 ∧ 0 < p.2 := fun p m => h p (List.mem_cons_of_mem _ m)
    have h0' : 0 < v := h0.2
    unfold pz at m
    split at m
    · rcases List.mem_cons.mp m with rfl | m
      · exact ⟨h0.1, by show 0 < v + c; omega⟩
      · exact h1 p m
    · rcases List.mem_cons.mp m with rfl | m
      · exact h0
      · exact all_pz1 hk hc h1 p m
/-- what a dict of words, or of ends, keeps: none told nought times -/
structure Tp {α : Type} (R : α → Prop) (M : Nat) (l : List (α × Int)) : Prop where
  o : (l.map (·.1)).Nodup
  a : ∀ p ∈ l, R p.1 ∧ 0 < p.2
  n : l.length ≤ M
theorem Tp.nil {α : Type} {R : α → Prop} {M : Nat} : Tp R M ([] : List (α × Int)) := ⟨List.nodup_nil, by simp, Nat.zero_le _⟩
theorem Tp.put {α : Type} [DecidableEq α] {R : α → Prop} {M : Nat} {l : List (α × Int)} {k : α} {c : Int} (t : Tp R M l) (hk : R k) (hc : 0 < c) : Tp R (M + 1) (pz k c l) :=
  ⟨once_pz t.o, all_pz1 hk hc t.a, Nat.le_trans (len_pz k c l) (Nat.succ_le_succ t.n)⟩
theorem Tp.up {α : Type} {R : α → Prop} {M N : Nat} {l : List (α × Int)} (t : Tp R M l) (h : M ≤ N) : Tp R N l := ⟨t.o, t.a, Nat.le_trans t.n h⟩
theorem Tp.at {α : Type} {R : α → Prop} {M : Nat} {l : List (α × Int)} (t : Tp R M l) {i : Nat} {k : α} {c : Int} (h : l[i]? = some (k, c)) : R k ∧ 0 < c := t.a _ (List.mem_of_getElem? h)
/-- one turn over a word: an end is told -/
theorem dsF_end {F : Nat → Nat → Rat} {f b : Nat} {c : Int} {T : List (List Bool × Int)} {i : Nat} (h : T[i]? = some (List.replicate f false ++ List.replicate b true, c)) (G : List En) {Z : Rat} {L : List (List Bool × Int)}
    (e : ds (wF F) L + ds (φF F) G = ds (wF F) (T.take i) + Z) : ds (wF F) L + ds (φF F) (pz (f, b) c G) = ds (wF F) (T.take (i + 1)) + Z := by
  rw [ds_pz, ds_take h, wF_rest]
  show _ + (_ + (c : Rat) * F f b) = _
  grind
/-- two shorter words are told -/
theorem dsF_two {F : Nat → Nat → Rat} {u v : List Bool} {c : Int} {T : List (List Bool × Int)} {i : Nat} (h : T[i]? = some (u ++ true :: false :: v, c)) {Z g : Rat} {L : List (List Bool × Int)}
    (e : ds (wF F) L + g = ds (wF F) (T.take i) + Z) : ds (wF F) (pz (u ++ false :: v) c (pz (u ++ true :: v) c L)) + g = ds (wF F) (T.take (i + 1)) + Z := by
  rw [ds_pz, ds_pz, ds_take h, wF_of]
  grind
theorem ds_permF {α : Type} (φ : α → Rat) {l m : List (α × Int)} (p : l.Perm m) : ds φ l = ds φ m := by
  induction p with
  | nil => rfl
  | cons x _ ih =>
    show (x.2 : Rat) * φ x.1 + ds φ _ = (x.2 : Rat) * φ x.1 + ds φ _
    rw [ih]
  | swap x y l =>
    show (y.2 : Rat) * φ y.1 + ((x.2 : Rat) * φ x.1 + ds φ l) = (x.2 : Rat) * φ x.1 + ((y.2 : Rat) * φ y.1 + ds φ l)
    grind
  | trans _ _ a b => exact a.trans b
theorem tp_sorted {R : Nat × Nat → Prop} {M : Nat} {l m : List En} (t : Tp R M l) (p : m.Perm l) (h : m.Pairwise le3) : Sd m :=
  sd_of h ((p.map (·.1)).nodup_iff.mpr t.o) (fun e he => (t.a e (p.mem_iff.mp he)).2)
/-! ### great words: so many beads ahead of so many free places -/
def Wb (F : Nat → Nat → Rat) (i j : Nat) : Rat := wF F (List.replicate i true ++ List.replicate j false)
theorem Wb_of (F : Nat → Nat → Rat) (i j : Nat) : Wb F (i + 1) (j + 1) = Wb F (i + 1) j + Wb F i (j + 1) := by
  unfold Wb
  have h := wF_of F (List.replicate i true) (List.replicate j false)
  rw [List.replicate_succ' (n := i), List.replicate_succ (n := j), List.append_assoc, List.append_assoc]
  exact h
theorem Wb_none (F : Nat → Nat → Rat) (j : Nat) : Wb F 0 j = F j 0 := by
  have h := wF_rest F j 0
  rw [List.replicate_zero, List.append_nil] at h
  exact h
theorem Wb_all (F : Nat → Nat → Rat) (i : Nat) : Wb F i 0 = F 0 i := by
  have h := wF_rest F 0 i
  unfold Wb
  rw [List.replicate_zero, List.append_nil]
  exact h
def sR (c : Nat → Rat) : Nat → Rat
  | 0 => 0
  | n + 1 => sR c n + c n
theorem sR_same {c d : Nat → Rat} : ∀ {n : Nat}, (∀ j, j < n → c j = d j) → sR c n = sR d n
  | 0, _ => rfl
  | n + 1, h => by
    show sR c n + c n = sR d n + d n
    rw [sR_same (fun j hj => h j (by omega)), h n (by omega)]
theorem sR_one {c d : Nat → Rat} {k : Nat} {z : Rat} : ∀ {n : Nat}, k < n → (∀ j, j ≠ k → d j = c j) → d k = c k + z → sR d n = sR c n + z
  | 0, h, _, _ => absurd h (by omega)
  | n + 1, h, h1, h2 => by
    show sR d n + d n = sR c n + c n + z
    by_cases e : k = n
    · subst e
      rw [sR_same (c := d) (d := c) (fun j hj => h1 j (by omega)), h2]
      grind
    · rw [sR_one (n := n) (by omega) h1 h2, h1 n (fun z => e z.symm)]
      grind
def rw1 (F : Nat → Nat → Rat) (M : Nat → Nat → Int) (i : Nat) : Nat → Rat := sR fun j => (M i j : Rat) * Wb F i j
/-- what is still to be looked at: all lines below s (fr places each), and m places of line s -/
def XM (F : Nat → Nat → Rat) (fr : Nat) (M : Nat → Nat → Int) (s m : Nat) : Rat := sR (fun i => rw1 F M i fr) s + rw1 F M s m
def addc (M : Nat → Nat → Int) (i0 j0 : Nat) (v : Int) : Nat → Nat → Int := fun i j => if i = i0 ∧ j = j0 then M i j + v else M i j
theorem rw1_off {F : Nat → Nat → Rat} {M : Nat → Nat → Int} {i0 j0 i m : Nat} {v : Int} (h : i ≠ i0 ∨ m ≤ j0) : rw1 F (addc M i0 j0 v) i m = rw1 F M i m := by
  refine sR_same fun j hj => ?_
  rw [show addc M i0 j0 v i j = M i j from if_neg (by omega)]
theorem rw1_on {F : Nat → Nat → Rat} {M : Nat → Nat → Int} {i0 j0 m : Nat} {v : Int} (h : j0 < m) : rw1 F (addc M i0 j0 v) i0 m = rw1 F M i0 m + (v : Rat) * Wb F i0 j0 := by
  refine sR_one h (fun j hj => ?_) ?_
  · rw [show addc M i0 j0 v i0 j = M i0 j from if_neg (by omega)]
  · rw [show addc M i0 j0 v i0 j0 = M i0 j0 + v from if_pos ⟨rfl, rfl⟩, Rat.intCast_add]
    grind
theorem XM_in {F : Nat → Nat → Rat} {fr : Nat} {M : Nat → Nat → Int} {s m j0 : Nat} {v : Int} (h : j0 < m) : XM F fr (addc M s j0 v) s m = XM F fr M s m + (v : Rat) * Wb F s j0 := by
  unfold XM
  rw [rw1_on h, sR_same (d := fun i => rw1 F M i fr) (fun i hi => rw1_off (.inl (by omega)))]
  grind
theorem XM_below {F : Nat → Nat → Rat} {fr : Nat} {M : Nat → Nat → Int} {s m j0 : Nat} {v : Int} (h : j0 < fr) : XM F fr (addc M s j0 v) (s + 1) m = XM F fr M (s + 1) m + (v : Rat) * Wb F s j0 := by
  unfold XM
  rw [rw1_off (i := s + 1) (.inl (by omega)), sR_one (c := fun i => rw1 F M i fr) (k := s) (z := (v : Rat) * Wb F s j0) (by omega) (fun i hi => rw1_off (.inl hi)) (rw1_on h)]
  grind
theorem XM_less (F : Nat → Nat → Rat) (fr : Nat) (M : Nat → Nat → Int) (s m : Nat) : XM F fr M s (m + 1) = XM F fr M s m + (M s m : Rat) * Wb F s m := by
  show sR (fun i => rw1 F M i fr) s + (rw1 F M s m + (M s m : Rat) * Wb F s m) = sR (fun i => rw1 F M i fr) s + rw1 F M s m + _
  grind
theorem XM_line (F : Nat → Nat → Rat) (fr : Nat) (M : Nat → Nat → Int) (s : Nat) : XM F fr M (s + 1) 0 = XM F fr M s fr := by
  show sR (fun i => rw1 F M i fr) s + rw1 F M s fr + 0 = sR (fun i => rw1 F M i fr) s + rw1 F M s fr
  grind
theorem XM_zero (F : Nat → Nat → Rat) (fr : Nat) (M : Nat → Nat → Int) : XM F fr M 0 0 = 0 := by
  show (0 : Rat) + 0 = 0
  grind
/-- a turn within: one way on each hand -/
theorem XM_turn {F : Nat → Nat → Rat} {fr : Nat} {M : Nat → Nat → Int} {s m : Nat} (h : m + 1 < fr) : XM F fr (addc (addc M (s + 1) m (M (s + 1) (m + 1))) s (m + 1) (M (s + 1) (m + 1))) (s + 1) (m + 1) = XM F fr M (s + 1) (m + 1 + 1) := by
  rw [XM_below h, XM_in (by omega), XM_less F fr M (s + 1) (m + 1), Wb_of]
  grind
theorem zero_sum {F : Nat → Nat → Rat} {i n : Nat} : rw1 F (fun _ _ => 0) i n = 0 := by
  unfold rw1
  induction n with
  | zero => rfl
  | succ n ih =>
    show sR _ n + ((0 : Int) : Rat) * Wb F i n = 0
    rw [ih]
    have : ((0 : Int) : Rat) = 0 := rfl
    grind
theorem zero_all {F : Nat → Nat → Rat} {fr s : Nat} : sR (fun i => rw1 F (fun _ _ => 0) i fr) s = 0 := by
  induction s with
  | zero => rfl
  | succ n ih =>
    show sR _ n + rw1 F (fun _ _ => 0) n fr = 0
    rw [ih, zero_sum]
    grind
theorem XM_start (F : Nat → Nat → Rat) (B f : Nat) : XM F (f + 1) (addc (fun _ _ => 0) B f 1) B (f + 1) = Wb F B f := by
  rw [XM_in (Nat.lt_succ_self f)]
  unfold XM
  rw [zero_sum, zero_all]
  have : ((1 : Int) : Rat) = 1 := rfl
  grind
theorem addc_nn {M : Nat → Nat → Int} (h : ∀ i j, 0 ≤ M i j) {i0 j0 : Nat} {v : Int} (hv : 0 ≤ v) : ∀ i j, 0 ≤ addc M i0 j0 v i j := fun i j => by
  unfold addc
  have := h i j
  split <;> omega
/-- ends moved on: free places ahead, beads behind -/
def mv (p q : Nat) (e : En) : En := ((e.1.1 + p, e.1.2 + q), e.2)
theorem ds_mv (F : Nat → Nat → Rat) (p q : Nat) : ∀ G : List En, ds (φF F) (G.map (mv p q)) = ds (φF fun i j => F (i + p) (j + q)) G
  | [] => rfl
  | e :: G => by
    show (e.2 : Rat) * F (e.1.1 + p) (e.1.2 + q) + ds (φF F) (G.map (mv p q)) = (e.2 : Rat) * F (e.1.1 + p) (e.1.2 + q) + ds _ G
    rw [ds_mv F p q G]
theorem once_mv {p q : Nat} : ∀ {G : List En}, (G.map (·.1)).Nodup → ((G.map (mv p q)).map (·.1)).Nodup
  | [], _ => List.nodup_nil
  | e :: G, h => by
    have h' : (e.1 :: G.map (·.1)).Nodup := h
    obtain ⟨n1, n2⟩ := List.nodup_cons.mp h'
    refine List.nodup_cons.mpr ⟨fun m => n1 ?_, once_mv n2⟩
    obtain ⟨x, mx, ex⟩ := List.mem_map.mp m
    obtain ⟨y, my, rfl⟩ := List.mem_map.mp mx
    refine List.mem_map.mpr ⟨y, my, ?_⟩
    have e1 : y.1.1 + p = e.1.1 + p := congrArg Prod.fst ex
    have e2 : y.1.2 + q = e.1.2 + q := congrArg Prod.snd ex
    exact Prod.ext (by omega) (by omega)
/-- the word of p free places, i beads, j free places, q beads -/
def gw (p i j q : Nat) : List Bool := List.replicate p false ++ (List.replicate i true ++ List.replicate j false) ++ List.replicate q true
theorem wF_gw (F : Nat → Nat → Rat) (p i j q : Nat) : wF F (gw p i j q) = Wb (fun a b => F (a + p) (b + q)) i j := by
  unfold gw
  rw [wF_beads, wF_frees]
  rfl
end HopW

set_option Elab.async false
set_option linter.all false
set_option maxRecDepth 100000
namespace HopT
open PySem PySem.Spec PyProof.Rows L2
/-! ### sorted(tuples of ints, of any lengths but nought): the same tuples in some order -/
section
variable {prog : Program} {w : World} {A : Around} {E : Value → Shared → Prop} {s : Shared}
def Whole (u : Value) : Prop := ∃ (x : Int) (t : Tok), u = .int x t
def Begun (h : Heap) (v : Value) : Prop := ∃ a o f us n, v = .ref a ∧ h.get? a = some o ∧ o.cls = .type "tuple" ∧ o.data = .seq (f :: us).toArray n ∧ ∀ u ∈ f :: us, Whole u
/-- two rows of ints are always told apart or alike -/
theorem apart {b z : Bool} : ∀ (l : List (Value × Value)) (i : Nat), (∀ p ∈ l, Whole p.1 ∧ Whole p.2) → ∃ c : Bool, ∀ Q : Bool → Shared → Prop, Q c s → PySem.W.KatLex prog w A b z Q l i s
  | [], _, _ => ⟨z, fun _ q => PySem.W.kat_nil q⟩
  | (_, _) :: l, i, hl => by
    obtain ⟨⟨x, t, rfl⟩, ⟨y, u, rfl⟩⟩ := hl _ (List.mem_cons_self ..)
    obtain ⟨c, hc⟩ := apart l (i + 1) (fun p m => hl p (List.mem_cons_of_mem _ m))
    by_cases same : x = y
    · exact ⟨c, fun Q q => PySem.W.kat_cons (SeqAt.EqAt.int_int x t y u prog w _ _ (PySem.W.kat_go (fun _ => PySem.W.kat_yes (hc Q q)) (fun no => by simp [same] at no)))⟩
    · exact ⟨decide (x < y), fun Q q => PySem.W.kat_cons (SeqAt.EqAt.int_int x t y u prog w _ _ (PySem.W.kat_go (fun yes => absurd (by simpa using yes) same) (fun _ => PySem.W.kat_no (TS.oneLt_ints _ q))))⟩
theorem heads {h : Heap} : ∀ vs : List Value, (∀ v ∈ vs, Begun h v) → ∃ fs : List Value, PySem.W.KatTups h vs fs ∧ fs.length = vs.length ∧ ∀ f ∈ fs, Whole f
  | [], _ => ⟨[], .nil, rfl, by simp⟩
  | v :: vs, hv => by
    obtain ⟨fs, k, l, z⟩ := heads vs (fun u m => hv u (List.mem_cons_of_mem _ m))
    obtain ⟨a, o, f, us, n, rfl, g, c, d, i⟩ := hv v (List.mem_cons_self ..)
    refine ⟨f :: fs, .cons g c d (by simp) k, by simp [l], ?_⟩
    intro x m
    cases m with
    | head => exact i f (List.mem_cons_self ..)
    | tail _ m => exact z x m
theorem can_sort {a : Addr} {vs : List Value} (some' : vs ≠ []) (hv : ∀ v ∈ vs, Begun s.heap v) (na : ∀ o, s.heap.get? a = some o → o.cls ≠ .type "tuple") : Srt.Sortable prog w A s a vs := fun h' keep => by
  have hv' : ∀ v ∈ vs, Begun h' v := fun v m => by
    obtain ⟨b, o, f, us, n, e, g, c, r⟩ := hv v m
    exact ⟨b, o, f, us, n, e, keep b o (by rintro rfl; exact na o g c) g, c, r⟩
  obtain ⟨fs, k, l, z⟩ := heads vs hv'
  have p : 0 < fs.length := by rw [l]; exact List.length_pos_iff.mpr some'
  have nt : (Value.type "int" != Value.type "tuple") = true := by first | decide +kernel | rfl
  refine ⟨tuples' true, fun Q E q => PySem.W.kat_kind (T := .type "int") k p (fun f m => ?_) rfl (nt ▸ q), fun x y hx hy => ?_⟩
  · obtain ⟨i, t, rfl⟩ := z f m
    exact .now
  · obtain ⟨a1, o1, f1, us1, n1, e1, g1, c1, d1, i1⟩ := hv' _ hx
    obtain ⟨a2, o2, f2, us2, n2, e2, g2, c2, d2, i2⟩ := hv' _ hy
    obtain ⟨c, hc⟩ := apart (prog := prog) (w := w) (A := A) (s := { s with heap := h' }) (b := true) (z := decide ((f1 :: us1).toArray.size < (f2 :: us2).toArray.size)) ((f1 :: us1).zip (f2 :: us2)) 0 (fun p m => ⟨i1 _ (List.of_mem_zip m).1, i2 _ (List.of_mem_zip m).2⟩)
    rw [e1, e2]
    exact ⟨c, PySem.W.kat_lt g1 d1 g2 d2 (hc _ ⟨rfl, rfl⟩)⟩
end
def rSortedZ (K : PySem.W.Frag) : List V → Hp → VK → Prop := fun vs H Q => ∃ (a : Addr) (ts : List Addr), vs = [.ref a] ∧ SqL K H a (ts.map V.ref) ∧ (∀ t ∈ ts, ∃ (n : Int) (ns : List Int), H t = some (.tup ((n :: ns).map V.int))) ∧
  ∀ (ys : List Addr) p, ys.Perm ts → H p = none → Q (.ref p) (upd H p (.lst (ys.map V.ref)))
theorem refs_are : ∀ {ts : List Addr} {us : List Value}, Vals (ts.map V.ref) us → us = ts.map Value.ref
  | [], _, .nil => rfl
  | _ :: _, _, .cons r t => by cases r; rw [refs_are t]; rfl
theorem are_refs : ∀ ts : List Addr, Vals (ts.map V.ref) (ts.map Value.ref)
  | [] => .nil
  | _ :: ts => .cons rfl (are_refs ts)
theorem perm_refs {out : List Value} {ts : List Addr} (h : out.Perm (ts.map Value.ref)) : ∃ ys : List Addr, out = ys.map Value.ref ∧ ys.Perm ts := by
  let f : Value → Addr := fun v => match v with | .ref a => a | _ => 0
  have e : ∀ l : List Addr, (l.map Value.ref).map f = l := fun l => by induction l with
    | nil => rfl
    | cons x l ih => rw [List.map_cons, List.map_cons, ih]
  refine ⟨out.map f, ?_, by have := h.map f; rwa [e] at this⟩
  rw [List.map_map]
  refine (List.map_id out).symm.trans (List.map_congr_left fun v m => ?_)
  obtain ⟨a, _, rfl⟩ := List.mem_map.mp (h.mem_iff.mp m)
  rfl
theorem cr_sortedZ {X : Cx} : CallR X (.builtin "sorted") (rSortedZ X.K) := by
  rintro pins s σ H vs us Q I r ⟨a, ts, rfl, hs, ht, q⟩
  obtain ⟨its, rv, isl, big⟩ := I.list hs
  obtain rfl := refs_are rv
  rw [Vals.ref1 r]
  have beg : ∀ v ∈ ts.map Value.ref, Begun s.heap v := by
    intro v m
    obtain ⟨t, mt, rfl⟩ := List.mem_map.mp m
    obtain ⟨n, ns, e⟩ := ht t mt
    obtain ⟨_, vs', r', o, g, c, k, d⟩ := I.hok _ _ e
    have wh := SrtO.ints_mem r'.ints
    cases r' with
    | cons r0 rs => exact ⟨t, o, _, _, k, rfl, g, c, d, wh⟩
  refine Srt.sorted_any isl.isList (by simpa using big) (fun two h1 b hb kk => can_sort (by rintro e; rw [e] at two; simp at two) (fun v m => ?_) (fun o g => ?_)) (fun out po => ?_)
  · obtain ⟨t, o, f, us, n, e, g, rest⟩ := beg v m
    exact ⟨t, o, f, us, n, e, (kk _ _ g).2, rest⟩
  · obtain rfl := Option.some.inj (g.symm.trans hb)
    exact fun c => absurd (Value.type.inj c) (by decide)
  · obtain ⟨ys, rfl, py⟩ := perm_refs po
    obtain ⟨k, at'⟩ := sortedAll_at s.heap (ts.map Value.ref) (ys.map Value.ref).toArray
    have len : (ys.map V.ref).length ≤ sizeLine := by rw [List.length_map, py.length_eq]; simpa using big
    exact ⟨.ref _, upd H (s.heap.objs.size + 1) (.lst (ys.map V.ref)), I.laid (t' := s.toks) (fun _ _ => sortedAll_old) (Nat.le_succ _) ⟨len, _, k, are_refs ys, at'⟩, rfl, q ys _ py (I.hok.fresh (Nat.le_succ _))⟩
end HopT

set_option Elab.async false
set_option linter.all false
set_option maxRecDepth 100000
namespace HopT
open PySem PySem.Spec PyProof.Rows L2
/-! ### sorted(tuples of three ints), any number of them: rising -/
abbrev T3 := Int × Int × Int
def lexT (p q : T3) : Bool := if p.1 = q.1 then (if p.2.1 = q.2.1 then decide (p.2.2 < q.2.2) else decide (p.2.1 < q.2.1)) else decide (p.1 < q.1)
theorem lexT_iff {p q : T3} : lexT p q = true ↔ p.1 < q.1 ∨ (p.1 = q.1 ∧ (p.2.1 < q.2.1 ∨ (p.2.1 = q.2.1 ∧ p.2.2 < q.2.2))) := by
  unfold lexT
  by_cases e : p.1 = q.1
  · rw [if_pos e]
    by_cases e2 : p.2.1 = q.2.1
    · rw [if_pos e2, decide_eq_true_eq]; omega
    · rw [if_neg e2, decide_eq_true_eq]; omega
  · rw [if_neg e, decide_eq_true_eq]; omega
theorem lexT_no {p q : T3} : lexT p q = false ↔ ¬ (p.1 < q.1 ∨ (p.1 = q.1 ∧ (p.2.1 < q.2.1 ∨ (p.2.1 = q.2.1 ∧ p.2.2 < q.2.2)))) := by
  rw [← lexT_iff]
  cases lexT p q <;> simp
theorem swo_lexT (k : Value → T3) : SrtO.Swo fun v u => lexT (k v) (k u) := by
  refine ⟨fun x y h => ?_, fun x y z h1 h2 => ?_⟩
  · have a := lexT_iff.mp h
    refine lexT_no.mpr ?_
    omega
  · have a := lexT_no.mp h1
    have b := lexT_no.mp h2
    refine lexT_no.mpr ?_
    omega
def IsTrip (h : Heap) (v : Value) (x y z : Int) : Prop := ∃ a o t u r n, v = .ref a ∧ h.get? a = some o ∧ o.cls = .type "tuple" ∧ o.data = .seq [Value.int x t, Value.int y u, Value.int z r].toArray n
section
variable {prog : Program} {w : World} {A : Around} {E : Value → Shared → Prop} {s : Shared}
theorem trip_cmp {vs : List Value} {k : Value → T3} (hp : ∀ v ∈ vs, IsTrip s.heap v (k v).1 (k v).2.1 (k v).2.2) : SrtO.Cmp prog w A s (tuples' true) (fun p => p.1 ∈ vs) (SrtO.lt2 fun v u => lexT (k v) (k u)) := by
  intro p q hm hm'
  have h1 := hp _ hm
  have h2 := hp _ hm'
  show wpAny (model prog w) A (keyLt' (tuples' true) p.1 q.1) (fun r s' => s' = s ∧ r = lexT (k p.1) (k q.1)) (fun _ _ => False) s
  unfold lexT
  generalize (k p.1).1 = x at h1 ⊢
  generalize (k p.1).2.1 = y at h1 ⊢
  generalize (k p.1).2.2 = z at h1 ⊢
  generalize (k q.1).1 = x' at h2 ⊢
  generalize (k q.1).2.1 = y' at h2 ⊢
  generalize (k q.1).2.2 = z' at h2 ⊢
  obtain ⟨a, o, t, u, r, n, e, ho, hc, hd⟩ := h1
  obtain ⟨a', o', t', u', r', n', e', ho', hc', hd'⟩ := h2
  rw [e, e']
  refine PySem.W.kat_lt ho hd ho' hd' ?_
  show PySem.W.KatLex prog w A true (decide (3 < 3)) _ [(.int x t, .int x' t'), (.int y u, .int y' u'), (.int z r, .int z' r')] 0 s
  refine PySem.W.kat_cons (SeqAt.EqAt.int_int x t x' t' prog w _ _ ?_)
  refine PySem.W.kat_go (fun e1 => ?_) (fun e1 => ?_)
  · have ex : x = x' := by simpa using e1
    refine PySem.W.kat_yes (PySem.W.kat_cons (SeqAt.EqAt.int_int y u y' u' prog w _ _ ?_))
    refine PySem.W.kat_go (fun e2 => ?_) (fun e2 => ?_)
    · have ey : y = y' := by simpa using e2
      refine PySem.W.kat_yes (PySem.W.kat_cons (SeqAt.EqAt.int_int z r z' r' prog w _ _ ?_))
      refine PySem.W.kat_go (fun e3 => ?_) (fun e3 => ?_)
      · have ez : z = z' := by simpa using e3
        have e4 : (if x = x' then (if y = y' then decide (z < z') else decide (y < y')) else decide (x < x')) = false := by
          rw [if_pos ex, if_pos ey, ez]
          exact decide_eq_false (Int.lt_irrefl _)
        exact PySem.W.kat_yes (PySem.W.kat_nil ⟨rfl, e4.symm⟩)
      · have e4 : (if x = x' then (if y = y' then decide (z < z') else decide (y < y')) else decide (x < x')) = decide (z < z') := by rw [if_pos ex, if_pos ey]
        refine PySem.W.kat_no (TS.oneLt_ints _ ?_)
        exact (show s = s ∧ decide (z < z') = _ from ⟨rfl, e4.symm⟩)
    · have ey : ¬ y = y' := by simpa using e2
      have e4 : (if x = x' then (if y = y' then decide (z < z') else decide (y < y')) else decide (x < x')) = decide (y < y') := by rw [if_pos ex, if_neg ey]
      refine PySem.W.kat_no (TS.oneLt_ints _ ?_)
      exact (show s = s ∧ decide (y < y') = _ from ⟨rfl, e4.symm⟩)
  · have ex : ¬ x = x' := by simpa using e1
    have e4 : (if x = x' then (if y = y' then decide (z < z') else decide (y < y')) else decide (x < x')) = decide (x < x') := if_neg ex
    exact PySem.W.kat_no (TS.oneLt_ints _ (show s = s ∧ decide (x < x') = _ from ⟨rfl, e4.symm⟩))
theorem trips_sortableO {a : Addr} {vs : List Value} {k : Value → T3} (some' : vs ≠ []) (hp : ∀ v ∈ vs, IsTrip s.heap v (k v).1 (k v).2.1 (k v).2.2) (na : ∀ o, s.heap.get? a = some o → o.cls ≠ .type "tuple") : SrtO.SortableO prog w A s a vs fun v u => lexT (k v) (k u) := by
  intro h' keep
  have hp' : ∀ v ∈ vs, IsTrip h' v (k v).1 (k v).2.1 (k v).2.2 := fun v hm => by
    obtain ⟨b, o, t, u, r, n, e, ho, hc, hd⟩ := hp v hm
    exact ⟨b, o, t, u, r, n, e, keep b o (by rintro rfl; exact na o ho hc) ho, hc, hd⟩
  have hv' : ∀ v ∈ vs, Begun h' v := fun v hm => by
    obtain ⟨b, o, t, u, r, n, e, ho, hc, hd⟩ := hp' v hm
    refine ⟨b, o, _, _, n, e, ho, hc, hd, fun x hx => ?_⟩
    rcases List.mem_cons.mp hx with rfl | hx
    · exact ⟨_, _, rfl⟩
    rcases List.mem_cons.mp hx with rfl | hx
    · exact ⟨_, _, rfl⟩
    obtain rfl := List.mem_singleton.mp hx
    exact ⟨_, _, rfl⟩
  obtain ⟨fs, kt, l, z⟩ := heads vs hv'
  have p : 0 < fs.length := by rw [l]; exact List.length_pos_iff.mpr some'
  have nt : (Value.type "int" != Value.type "tuple") = true := by first | decide +kernel | rfl
  refine ⟨tuples' true, fun Q E q => PySem.W.kat_kind (T := .type "int") kt p (fun f m => ?_) rfl (nt ▸ q), trip_cmp hp'⟩
  obtain ⟨i, t, rfl⟩ := z f m
  exact .now
end
def rSortedQ (K : PySem.W.Frag) : List V → Hp → VK → Prop := fun vs H Q => ∃ (a : Addr) (ts : List Addr) (k : Addr → T3), vs = [.ref a] ∧ SqL K H a (ts.map V.ref) ∧ (∀ t ∈ ts, H t = some (.tup [.int (k t).1, .int (k t).2.1, .int (k t).2.2])) ∧
  ∀ (ys : List Addr) p, ys.Perm ts → ys.Pairwise (fun x y => lexT (k y) (k x) = false) → H p = none → Q (.ref p) (upd H p (.lst (ys.map V.ref)))
theorem cr_sortedQ {X : Cx} : CallR X (.builtin "sorted") (rSortedQ X.K) := by
  rintro pins s σ H vs us Q I r ⟨a, ts, k, rfl, hs, ht, q⟩
  obtain ⟨its, rv, isl, big⟩ := I.list hs
  obtain rfl := refs_are rv
  rw [Vals.ref1 r]
  let kv : Value → T3 := fun v => match v with | .ref a => k a | _ => (0, 0, 0)
  have beg : ∀ v ∈ ts.map Value.ref, IsTrip s.heap v (kv v).1 (kv v).2.1 (kv v).2.2 := by
    intro v m
    obtain ⟨t, mt, rfl⟩ := List.mem_map.mp m
    obtain ⟨_, vs', r', o, g, c, n, d⟩ := I.hok _ _ (ht t mt)
    cases r' with
    | cons r0 rs =>
      cases rs with
      | cons r1 rs =>
        cases rs with
        | cons r2 rs =>
          cases rs
          obtain ⟨t0, rfl⟩ := r0
          obtain ⟨t1, rfl⟩ := r1
          obtain ⟨t2, rfl⟩ := r2
          exact ⟨t, o, t0, t1, t2, n, rfl, g, c, d⟩
  refine SrtO.sorted_ord (swo_lexT kv) isl.isList (by simpa using big) (fun two h1 b hb kk => trips_sortableO (by rintro e; rw [e] at two; simp at two) (fun v m => ?_) (fun o g => ?_)) (fun out so st => ?_)
  · obtain ⟨b', o, t, u, r, n, e, g, rest⟩ := beg v m
    exact ⟨b', o, t, u, r, n, e, (kk _ _ g).2, rest⟩
  · obtain rfl := Option.some.inj (g.symm.trans hb)
    exact fun c => absurd (Value.type.inj c) (by decide)
  · obtain ⟨ys, rfl, py⟩ := perm_refs st.perm
    obtain ⟨kk, at'⟩ := sortedAll_at s.heap (ts.map Value.ref) (ys.map Value.ref).toArray
    have len : (ys.map V.ref).length ≤ sizeLine := by rw [List.length_map, py.length_eq]; simpa using big
    have so' : ys.Pairwise (fun x y => lexT (k y) (k x) = false) := List.pairwise_map.mp so
    exact ⟨.ref _, upd H (s.heap.objs.size + 1) (.lst (ys.map V.ref)), I.laid (t' := s.toks) (fun _ _ => sortedAll_old) (Nat.le_succ _) ⟨len, _, kk, are_refs ys, at'⟩, rfl, q ys _ py so' (I.hok.fresh (Nat.le_succ _))⟩
end HopT

set_option Elab.async false
set_option linter.all false
set_option maxRecDepth 100000
namespace HopR
open PySem L2
/-! ### a row beneath a row -/
def ust (u l : Bool) : Int := (if u then 1 else 0) - (if l then 0 else 1)
def bn : Int → List Bool → List Bool → Bool
  | o, u :: us, l :: ls => if o + ust u l < 0 then false else bn (o + ust u l) us ls
  | o, _, _ => decide (o = 0)
theorem bn_nil (o : Int) (ls : List Bool) : bn o [] ls = decide (o = 0) := by
  cases ls <;> rfl
theorem bn_cons (o : Int) (u l : Bool) (us ls : List Bool) : bn o (u :: us) (l :: ls) = if o + ust u l < 0 then false else bn (o + ust u l) us ls := rfl
def rise (b : Bool) : Int := if b then 1 else -1
theorem rise_two (u l : Bool) : rise u + rise l = 2 * ust u l := by cases u <;> cases l <;> rfl
/-- as the law looks -/
def lb : Int → List Bool → List Nat → Bool
  | h, u :: us, c :: cs => if okc c = false then false else if h + rise u + rise (decide (c = 111)) < 0 then false else lb (h + rise u + rise (decide (c = 111))) us cs
  | h, _, _ => decide (h = 0)
def bls (cs : List Nat) : List Bool := cs.map fun c => decide (c = 111)
theorem lb_eq : ∀ (us : List Bool) (cs : List Nat) (o : Int), us.length = cs.length → lb (2 * o) us cs = (cs.all okc && bn o us (bls cs))
  | [], [], o, _ => by
    show decide (2 * o = 0) = (true && decide (o = 0))
    by_cases h : o = 0
    · rw [decide_eq_true h, decide_eq_true (by omega)]; rfl
    · rw [decide_eq_false h, decide_eq_false (by omega)]; rfl
  | [], c :: cs, o, h => by simp at h
  | u :: us, [], o, h => by simp at h
  | u :: us, c :: cs, o, h => by
    have hl : us.length = cs.length := by simpa using h
    show (if okc c = false then false else if 2 * o + rise u + rise (decide (c = 111)) < 0 then false else lb (2 * o + rise u + rise (decide (c = 111))) us cs) = ((okc c && cs.all okc) && (if o + ust u (decide (c = 111)) < 0 then false else bn (o + ust u (decide (c = 111))) us (bls cs)))
    cases hc : okc c with
    | false => rfl
    | true =>
      rw [if_neg (by decide)]
      have e := rise_two u (decide (c = 111))
      have e2 : 2 * o + rise u + rise (decide (c = 111)) = 2 * (o + ust u (decide (c = 111))) := by omega
      rw [e2, lb_eq us cs _ hl, Bool.true_and]
      by_cases hn : o + ust u (decide (c = 111)) < 0
      · rw [if_pos hn, if_pos (by omega), Bool.and_false]
      · rw [if_neg hn, if_neg (by omega)]
/-- whether x is beneath the row of bs -/
def bnB (bs : List Bool) (cs : List Nat) : Bool := decide (cs.length = bs.length) && (cs.all okc && bn 0 bs (bls cs))
def BnB (K : PySem.W.Frag) (H : Hp) (bs : List Bool) (x : V) (b : Bool) : Prop := (NoTxt K H x ∧ b = false) ∨ ∃ cs : List Nat, x = .str (rt cs) ∧ cs.length ≤ 10000 ∧ b = bnB bs cs
theorem bnB_same {K : PySem.W.Frag} {H H' : Hp} {bs : List Bool} {x : V} {b : Bool} (s : Same H H') (h : BnB K H bs x b) : BnB K H' bs x b := h.imp (fun ⟨q, e⟩ => ⟨notxt_same s q, e⟩) id
theorem tx_rt (bs : List Bool) : tx bs = rt (bs.map cd) := ext_str (by rw [tx_list, rt_list])
theorem bls_tx (bs : List Bool) : bls (bs.map cd) = bs := by
  unfold bls
  rw [List.map_map]
  conv => rhs; rw [← List.map_id bs]
  congr 1
  funext b
  cases b <;> rfl
theorem okc_map (bs : List Bool) : (bs.map cd).all okc = true := by
  rw [List.all_map, List.all_eq_true]
  exact fun b _ => okc_cd b
theorem okc_row {cs : List Nat} (h : cs.all okc = true) : rt cs = tx (bls cs) := by
  rw [tx_rt]
  congr 1
  unfold bls
  rw [List.map_map]
  conv => lhs; rw [← List.map_id cs]
  apply List.map_congr_left
  intro c hc
  have := List.all_eq_true.mp h c hc
  unfold okc at this
  simp only [Bool.or_eq_true, decide_eq_true_eq] at this
  rcases this with rfl | rfl <;> rfl
theorem bnB_tx (bs ls : List Bool) : bnB bs (ls.map cd) = (decide (ls.length = bs.length) && bn 0 bs ls) := by
  unfold bnB
  rw [List.length_map, okc_map, bls_tx, Bool.true_and]
end HopR

set_option Elab.async false
set_option linter.all false
set_option maxRecDepth 100000
namespace HopR
open PySem L2
/-! ### how many ways lead on from each height -/
def geti (L : List Int) (i : Int) : Int := if 0 ≤ i ∧ i < (L.length : Int) then L.getD i.toNat 0 else 0
def own (b : Bool) (L : List Int) : List Int := (List.range L.length).map fun h : Nat => geti L ((h : Int) + (rise b - 1)) + geti L ((h : Int) + (rise b + 1))
def tab (L0 : List Int) : List Bool → List (List Int)
  | [] => [L0]
  | b :: bs => own b ((tab L0 bs).headD []) :: tab L0 bs
theorem own_len (b : Bool) (L : List Int) : (own b L).length = L.length := by
  unfold own
  rw [List.length_map, List.length_range]
theorem own_at {b : Bool} {L : List Int} {h : Nat} (hh : h < L.length) : geti (own b L) (h : Int) = geti L ((h : Int) + (rise b - 1)) + geti L ((h : Int) + (rise b + 1)) := by
  conv => lhs; unfold geti
  rw [if_pos ⟨by omega, by rw [own_len]; omega⟩]
  unfold own
  rw [Int.toNat_natCast, List.getD_eq_getElem?_getD, List.getElem?_map, List.getElem?_range hh]
  rfl
/-- the table from the row's beginning on -/
def hd (L0 : List Int) (bs : List Bool) : List Int := (tab L0 bs).headD []
theorem tab_hd (L0 : List Int) (bs : List Bool) : ∃ r, tab L0 bs = hd L0 bs :: r := by
  cases bs with
  | nil => exact ⟨[], rfl⟩
  | cons b r => exact ⟨tab L0 r, rfl⟩
theorem hd_cons (L0 : List Int) (b : Bool) (bs : List Bool) : hd L0 (b :: bs) = own b (hd L0 bs) := rfl
theorem hd_len (L0 : List Int) : ∀ bs : List Bool, (hd L0 bs).length = L0.length
  | [] => rfl
  | b :: r => by rw [hd_cons, own_len, hd_len L0 r]
theorem tab_len (L0 : List Int) : ∀ bs : List Bool, (tab L0 bs).length = bs.length + 1
  | [] => rfl
  | b :: r => by
    show (tab L0 r).length + 1 = r.length + 1 + 1
    rw [tab_len L0 r]
theorem tab_at (L0 : List Int) : ∀ (bs : List Bool) (k : Nat), k ≤ bs.length → (tab L0 bs)[k]? = some (hd L0 (bs.drop k))
  | bs, 0, _ => by
    obtain ⟨r, e⟩ := tab_hd L0 bs
    rw [e]
    rfl
  | [], k + 1, h => by simp at h
  | b :: r, k + 1, h => by
    show (tab L0 r)[k]? = some (hd L0 (r.drop k))
    exact tab_at L0 r k (by simpa using h)
theorem geti_nn {L : List Int} (h : ∀ x ∈ L, 0 ≤ x) (i : Int) : 0 ≤ geti L i := by
  unfold geti
  split
  · rw [List.getD_eq_getElem?_getD]
    cases e : L[i.toNat]? with
    | none => exact Int.le_refl _
    | some x => exact h x (List.mem_of_getElem? e)
  · exact Int.le_refl _
theorem own_nn {b : Bool} {L : List Int} (h : ∀ x ∈ L, 0 ≤ x) : ∀ x ∈ own b L, 0 ≤ x := by
  intro x hx
  obtain ⟨i, _, rfl⟩ := List.mem_map.mp hx
  have h1 := geti_nn h ((i : Int) + (rise b - 1))
  have h2 := geti_nn h ((i : Int) + (rise b + 1))
  omega
theorem hd_nn {L0 : List Int} (h : ∀ x ∈ L0, 0 ≤ x) : ∀ bs : List Bool, ∀ x ∈ hd L0 bs, 0 ≤ x
  | [] => h
  | b :: r => by
    rw [hd_cons]
    exact own_nn (hd_nn h r)
/-- something always leads on from height 0 -/
theorem hd_zero {L0 : List Int} (h : ∀ x ∈ L0, 0 ≤ x) (h0 : 0 < geti L0 0) (hl : 0 < L0.length) : ∀ bs : List Bool, 0 < geti (hd L0 bs) 0
  | [] => h0
  | b :: r => by
    have ih := hd_zero h h0 hl r
    have e := own_at (b := b) (L := hd L0 r) (h := 0) (by rw [hd_len]; exact hl)
    rw [hd_cons]
    have e' : geti (own b (hd L0 r)) 0 = geti (own b (hd L0 r)) ((0 : Nat) : Int) := rfl
    rw [e', e]
    have n1 := geti_nn (hd_nn h r) (((0 : Nat) : Int) + (rise b - 1))
    have n2 := geti_nn (hd_nn h r) (((0 : Nat) : Int) + (rise b + 1))
    cases b with
    | true =>
      have : (((0 : Nat) : Int) + (rise true - 1)) = 0 := rfl
      rw [this] at n1 ⊢
      omega
    | false =>
      have : (((0 : Nat) : Int) + (rise false + 1)) = 0 := rfl
      rw [this] at n2 ⊢
      omega
theorem geti_at {L : List Int} {j : Nat} (h : j < L.length) : atI (L.map V.int) (j : Int) = some (.int (geti L (j : Int))) := atI_nat (by
  unfold geti
  rw [if_pos ⟨by omega, by omega⟩, List.getElem?_map, List.getD_eq_getElem?_getD, Int.toNat_natCast, List.getElem?_eq_getElem h]
  rfl)
/-! ### lists of lists -/
def Lsts (H : Hp) (o : Addr) : List (List Int) → List V → Prop
  | [], vs => vs = []
  | L :: r, vs => ∃ p vr, vs = .ref p :: vr ∧ p ≠ o ∧ H p = some (.lst (L.map V.int)) ∧ Lsts H o r vr
theorem lsts_same {H H' : Hp} {o : Addr} (s : Same H H') : ∀ {Ls : List (List Int)} {vs : List V}, Lsts H o Ls vs → Lsts H' o Ls vs
  | [], _, h => h
  | L :: r, _, ⟨p, vr, e, n, h1, h2⟩ => ⟨p, vr, e, n, s _ _ h1, lsts_same s h2⟩
theorem lsts_upd {H : Hp} {o : Addr} {x : HO} : ∀ {Ls : List (List Int)} {vs : List V}, Lsts H o Ls vs → Lsts (upd H o x) o Ls vs
  | [], _, h => h
  | L :: r, _, ⟨p, vr, e, n, h1, h2⟩ => ⟨p, vr, e, n, by rw [upd_ne n]; exact h1, lsts_upd h2⟩
theorem lsts_len {H : Hp} {o : Addr} : ∀ {Ls : List (List Int)} {vs : List V}, Lsts H o Ls vs → vs.length = Ls.length
  | [], _, h => by
    cases h
    rfl
  | L :: r, _, ⟨p, vr, e, _, _, h2⟩ => by rw [e, List.length_cons, List.length_cons, lsts_len h2]
theorem lsts_at {H : Hp} {o : Addr} : ∀ {Ls : List (List Int)} {vs : List V} {k : Nat} {L : List Int}, Lsts H o Ls vs → Ls[k]? = some L → ∃ p, vs[k]? = some (.ref p) ∧ H p = some (.lst (L.map V.int))
  | [], _, k, L, h, e => by simp at e
  | M :: r, _, 0, L, ⟨p, vr, ev, _, h1, h2⟩, e => by
    have : M = L := Option.some.inj e
    subst this
    exact ⟨p, by rw [ev]; rfl, h1⟩
  | M :: r, _, k + 1, L, ⟨p, vr, ev, _, h1, h2⟩, e => by
    obtain ⟨p', e1, e2⟩ := lsts_at (k := k) h2 e
    exact ⟨p', by rw [ev]; exact e1, e2⟩
end HopR

set_option Elab.async false
set_option linter.all false
set_option maxRecDepth 100000
namespace HopR
open PySem L2
/-! ### lists of new tuples -/
def TupG {α : Type} (H : Hp) (f : α → List V) : List α → List V → Prop
  | [], vs => vs = []
  | a :: r, vs => ∃ p vr, vs = .ref p :: vr ∧ H p = some (.tup (f a)) ∧ TupG H f r vr
section
variable {α : Type} {H H' : Hp} {f : α → List V}
theorem tupG_same (s : Same H H') : ∀ {as : List α} {vs : List V}, TupG H f as vs → TupG H' f as vs
  | [], _, h => h
  | _ :: _, _, ⟨p, vr, e, h1, h2⟩ => ⟨p, vr, e, s _ _ h1, tupG_same s h2⟩
theorem tupG_upd {D : Addr} {xs : List V} {o : HO} (hD : H D = some (.lst xs)) : ∀ {as : List α} {vs : List V}, TupG H f as vs → TupG (upd H D o) f as vs
  | [], _, h => h
  | _ :: _, _, ⟨p, vr, e, h1, h2⟩ => ⟨p, vr, e, by
      rw [upd_ne (fun z => by rw [z, hD] at h1; cases h1)]
      exact h1, tupG_upd hD h2⟩
theorem tupG_add {a : α} {p : Addr} (h1 : H p = some (.tup (f a))) : ∀ {as : List α} {vs : List V}, TupG H f as vs → TupG H f (as ++ [a]) (vs ++ [.ref p])
  | [], _, h => by
    cases h
    exact ⟨p, [], rfl, h1, rfl⟩
  | _ :: _, _, ⟨p', vr, e, h2, h3⟩ => ⟨p', vr ++ [.ref p], by rw [e]; rfl, h2, tupG_add h1 h3⟩
theorem tupG_len : ∀ {as : List α} {vs : List V}, TupG H f as vs → vs.length = as.length
  | [], _, h => by
    cases h
    rfl
  | _ :: _, _, ⟨_, vr, e, _, h2⟩ => by rw [e, List.length_cons, List.length_cons, tupG_len h2]
theorem tupG_at : ∀ {as : List α} {vs : List V} {k : Nat} {a : α}, TupG H f as vs → as[k]? = some a → ∃ p, vs[k]? = some (.ref p) ∧ H p = some (.tup (f a))
  | [], _, k, a, h, e => by simp at e
  | b :: r, _, 0, a, ⟨p, vr, ev, h1, h2⟩, e => by
    have : b = a := Option.some.inj e
    subst this
    exact ⟨p, by rw [ev]; rfl, h1⟩
  | b :: r, _, k + 1, a, ⟨p, vr, ev, h1, h2⟩, e => by
    obtain ⟨p', e1, e2⟩ := tupG_at (k := k) h2 e
    exact ⟨p', by rw [ev]; exact e1, e2⟩
end
/-! ### from height to height -/
theorem geti_pos {L : List Int} {i : Int} (h : 0 < geti L i) : 0 ≤ i ∧ i < (L.length : Int) := by
  unfold geti at h
  split at h
  · assumption
  · omega
/-- the sign l leads on from height h -/
def leads (L : List Int) (h : Int) (u l : Bool) : Bool := decide (0 ≤ h + rise u + rise l) && decide (0 < geti L (h + rise u + rise l))
theorem some_leads {L : List Int} {h : Nat} {u : Bool} (hh : h < L.length) (hp : 0 < geti (own u L) (h : Int)) : ∃ l, leads L (h : Int) u l = true := by
  rw [own_at hh] at hp
  by_cases h1 : 0 < geti L ((h : Int) + (rise u - 1))
  · refine ⟨false, ?_⟩
    have e : (h : Int) + rise u + rise false = (h : Int) + (rise u - 1) := by
      show (h : Int) + rise u + (-1) = _
      omega
    unfold leads
    rw [e, decide_eq_true (geti_pos h1).1, decide_eq_true h1]
    rfl
  · have h2 : 0 < geti L ((h : Int) + (rise u + 1)) := by omega
    refine ⟨true, ?_⟩
    have e : (h : Int) + rise u + rise true = (h : Int) + (rise u + 1) := by
      show (h : Int) + rise u + 1 = _
      omega
    unfold leads
    rw [e, decide_eq_true (geti_pos h2).1, decide_eq_true h2]
    rfl
end HopR

set_option Elab.async false
set_option linter.all false
set_option maxRecDepth 100000
namespace HopW
open PySem L2 HopR HopT
/-- an end: what stands in its tuple -/
def f3i (e : En) : List V := [.int (e.1.1 : Int), .int (e.1.2 : Int), .int e.2]
theorem paired_imp {α β : Type} {R S : α → β → Prop} (h : ∀ a b, R a b → S a b) : ∀ {l : List α} {m : List β}, Paired R l m → Paired S l m
  | _, _, .nil => .nil
  | _, _, .cons r t => .cons (h _ _ r) (paired_imp h t)
theorem paired_snoc {α β : Type} {R : α → β → Prop} {a : α} {b : β} : ∀ {l : List α} {m : List β}, Paired R l m → R a b → Paired R (l ++ [a]) (m ++ [b])
  | _, _, .nil, h => .cons h .nil
  | _, _, .cons r t, h => .cons r (paired_snoc t h)
theorem paired_left {α β : Type} {R : α → β → Prop} : ∀ {l : List α} {m : List β}, Paired R l m → ∀ a ∈ l, ∃ b, b ∈ m ∧ R a b
  | _, _, .nil, a, h => absurd h (by simp)
  | x :: l, _, .cons r t, a, h => by
    rcases List.mem_cons.mp h with rfl | h
    · exact ⟨_, List.mem_cons_self .., r⟩
    · obtain ⟨b, m, q⟩ := paired_left t a h
      exact ⟨b, List.mem_cons_of_mem _ m, q⟩
theorem paired_perm {α β : Type} {R : α → β → Prop} {k l : List α} (p : k.Perm l) : ∀ {m : List β}, Paired R l m → ∃ m', m'.Perm m ∧ Paired R k m' := by
  induction p with
  | nil => exact fun h => ⟨_, .refl _, h⟩
  | cons x _ ih =>
    intro m h
    cases h with
    | cons r t =>
      obtain ⟨m', p', h'⟩ := ih t
      exact ⟨_, p'.cons _, .cons r h'⟩
  | swap x y l =>
    intro m h
    cases h with
    | cons r t =>
      cases t with
      | cons r' t => exact ⟨_, .swap _ _ _, .cons r' (.cons r t)⟩
  | trans _ _ ih1 ih2 =>
    intro m h
    obtain ⟨m1, p1, h1⟩ := ih2 h
    obtain ⟨m2, p2, h2⟩ := ih1 h1
    exact ⟨m2, p2.trans p1, h2⟩
theorem paired_len {α β : Type} {R : α → β → Prop} : ∀ {l : List α} {m : List β}, Paired R l m → l.length = m.length
  | _, _, .nil => rfl
  | _, _, .cons _ t => congrArg (· + 1) (paired_len t)
theorem paired_right {α β : Type} {R : α → β → Prop} : ∀ {l : List α} {m : List β}, Paired R l m → ∀ b ∈ m, ∃ a, a ∈ l ∧ R a b
  | _, _, .nil, b, h => absurd h (by simp)
  | _, y :: m, .cons r t, b, h => by
    rcases List.mem_cons.mp h with rfl | h
    · exact ⟨_, List.mem_cons_self .., r⟩
    · obtain ⟨a, mm, q⟩ := paired_right t b h
      exact ⟨a, List.mem_cons_of_mem _ mm, q⟩
theorem paired_pw {α β : Type} {R : α → β → Prop} {S : α → α → Prop} {S' : β → β → Prop} (h : ∀ a b a' b', R a b → R a' b' → S a a' → S' b b') : ∀ {l : List α} {m : List β}, Paired R l m → l.Pairwise S → m.Pairwise S'
  | _, _, .nil, _ => .nil
  | _, _, .cons r t, p => by
    have p' := List.pairwise_cons.mp p
    refine List.pairwise_cons.mpr ⟨fun b hb => ?_, paired_pw h t p'.2⟩
    obtain ⟨a, ha, ra⟩ := paired_right t b hb
    exact h _ _ _ _ r ra (p'.1 a ha)
/-- what three ints stand at t -/
def trK (H : Hp) (t : Addr) : T3 := match H t with
  | some (.tup [.int a, .int b, .int c]) => (a, b, c)
  | _ => (0, 0, 0)
theorem trK_at {H : Hp} {t : Addr} {e : En} (h : H t = some (.tup (f3i e))) : trK H t = ((e.1.1 : Int), (e.1.2 : Int), e.2) := by
  unfold trK
  rw [h]
  rfl
theorem srt_keys {H : Hp} {ts : List Addr} {G : List En} (pr : Paired (fun t e => H t = some (.tup (f3i e))) ts G) : ∀ t ∈ ts, H t = some (.tup [.int (trK H t).1, .int (trK H t).2.1, .int (trK H t).2.2]) := fun t ht => by
  obtain ⟨e, _, h⟩ := paired_left pr t ht
  rw [trK_at h]
  exact h
theorem srt_ends {H : Hp} {ys : List Addr} {G : List En} (pr : Paired (fun t e => H t = some (.tup (f3i e))) ys G) (h : ys.Pairwise (fun x y => lexT (trK H y) (trK H x) = false)) : G.Pairwise le3 := by
  refine paired_pw (fun a b a' b' r r' s => ?_) pr h
  rw [trK_at r, trK_at r'] at s
  have s := lexT_no.mp s
  obtain ⟨⟨a, b⟩, c⟩ := b
  obtain ⟨⟨a', b'⟩, c'⟩ := b'
  have s : ¬ ((a' : Int) < a ∨ ((a' : Int) = a ∧ ((b' : Int) < b ∨ ((b' : Int) = b ∧ c' < c)))) := s
  show a < a' ∨ a = a' ∧ (b < b' ∨ b = b' ∧ c ≤ c')
  omega
theorem tupG_of {H : Hp} : ∀ {ts : List Addr} {G : List En}, Paired (fun t e => H t = some (.tup (f3i e))) ts G → TupG H f3i G (ts.map V.ref)
  | _, _, .nil => rfl
  | _, _, .cons r t => ⟨_, _, rfl, r, tupG_of t⟩
/-! ### a list of ends as data -/
def dE (G : List En) : PyData := .list (G.map fun e => .tuple [.int (e.1.1 : Int), .int (e.1.2 : Int), .int e.2])
theorem dp_ends {K : PySem.W.Frag} {H : Hp} : ∀ {G : List En} {vs : List V}, TupG H f3i G vs → DpAll K H vs (G.map fun e => .tuple [.int (e.1.1 : Int), .int (e.1.2 : Int), .int e.2])
  | [], _, h => by
    cases h
    exact .nil
  | e :: G, _, ⟨p, vr, ev, h1, h2⟩ => by
    rw [ev]
    exact .cons (.tup (SqT.of h1) (.cons (.int _) (.cons (.int _) (.cons (.int _) .nil)))) (dp_ends h2)
theorem dE_of {K : PySem.W.Frag} {H : Hp} {p : Addr} {vs : List V} {G : List En} (e : H p = some (.lst vs)) (g : TupG H f3i G vs) : Dp K H (.ref p) (dE G) := .lst (SqL.of e) (dp_ends g)
theorem lay_ends : ∀ G : List En, PyData.canLayAll0 (G.map fun e => .tuple [.int (e.1.1 : Int), .int (e.1.2 : Int), .int e.2]) = true
  | [] => rfl
  | e :: G => by
    rw [List.map_cons]
    simp only [PyData.canLayAll0, PyData.canLay0, lay_ends G, Bool.and_true]
theorem deep_ends : ∀ G : List En, PyData.depthAll (G.map fun e => .tuple [.int (e.1.1 : Int), .int (e.1.2 : Int), .int e.2]) ≤ 1
  | [] => Nat.zero_le _
  | e :: G => by
    rw [List.map_cons]
    have := deep_ends G
    simp only [PyData.depthAll, PyData.depth]
    omega
theorem dE_shaped (G : List En) : SeqAt.shaped (dE G) = true := by
  unfold SeqAt.shaped dE
  rw [Bool.and_eq_true]
  refine ⟨by simp only [PyData.canLay0, lay_ends], decide_eq_true ?_⟩
  have := deep_ends G
  simp only [PyData.depth]
  omega
theorem dE_self (G : List En) : PyData.eqv (dE G) (dE G) = true := SeqAt.eqv_refl _ (SeqAt.canLay_of_shaped (dE_shaped G))
theorem okd_ends : ∀ {G : List En}, (∀ e ∈ G, e.1.1 < 1000 ∧ e.1.2 < 1000 ∧ e.2.natAbs < 1000000000000) → Okds (G.map fun e => .tuple [.int (e.1.1 : Int), .int (e.1.2 : Int), .int e.2]) 1 (127 * G.length)
  | [], _ => Okds.nil
  | e :: G, h => by
    obtain ⟨h1, h2, h3⟩ := h e (List.mem_cons_self ..)
    have a1 : Okd (.int (e.1.1 : Int)) 0 41 := Okd.int (by omega)
    have a2 : Okd (.int (e.1.2 : Int)) 0 41 := Okd.int (by omega)
    have a3 : Okd (.int e.2) 0 41 := Okd.int h3
    have t := (Okds.cons a1 (Okds.cons a2 (Okds.cons a3 Okds.nil))).tuple
    have r := Okds.cons t (okd_ends (G := G) (fun e m => h e (List.mem_cons_of_mem _ m)))
    rw [List.length_cons, show 127 * (G.length + 1) = (41 + 1 + (41 + 1 + (41 + 1 + 0))) + 1 + 127 * G.length by omega]
    exact r
theorem okd_dE {G : List En} (h : ∀ e ∈ G, e.1.1 < 1000 ∧ e.1.2 < 1000 ∧ e.2.natAbs < 1000000000000) : Okd (dE G) 2 (127 * G.length) := (okd_ends h).list
theorem eN_near {w : List Bool} (hw : w.length ≤ 30) (hl : ∀ e ∈ eN w, e.1.1 < 1000 ∧ e.1.2 < 1000) : ∀ e ∈ eN w, e.1.1 < 1000 ∧ e.1.2 < 1000 ∧ e.2.natAbs < 1000000000000 := fun e he => by
  obtain ⟨h1, h2⟩ := hl e he
  refine ⟨h1, h2, Nat.lt_of_le_of_lt (eN_most he).2 (Nat.lt_of_le_of_lt (Nat.pow_le_pow_right (by decide) hw) (by decide))⟩
end HopW

set_option Elab.async false
set_option linter.all false
set_option maxRecDepth 100000
namespace HopR
open PySem PySem.Spec PyProof.Rows L2 TL
/-! ### where a word has a bead before a free place -/
theorem of_tx : ("o." : Str) = tx [true, false] := by decide +kernel
theorem sub_tx (bs : List Bool) (i : Nat) : Builtin.Str.subAt (tx bs) (tx [true, false]) i = true ↔ (bs.drop i).take 2 = [true, false] := by
  have e : (tx bs).cps.extract i (i + (tx [true, false]).length) = (tx ((bs.drop i).take 2)).cps := by
    apply Array.toList_inj.mp
    rw [Array.toList_extract, tx_list, tx_list, tx_len, List.extract_eq_drop_take, List.map_take, List.map_drop]
    show ((bs.map cd).drop i).take (i + 2 - i) = _
    rw [Nat.add_sub_cancel_left]
  unfold Builtin.Str.subAt
  rw [e, beq_iff_eq]
  constructor
  · intro h
    apply tx_inj
    exact congrArg Str.mk h
  · intro h; rw [h]
theorem no_pair : ∀ bs : List Bool, (∀ i, (bs.drop i).take 2 ≠ [true, false]) → ∃ f b, bs = List.replicate f false ++ List.replicate b true
  | [], _ => ⟨0, 0, rfl⟩
  | [true], _ => ⟨0, 1, rfl⟩
  | [false], _ => ⟨1, 0, rfl⟩
  | false :: y :: r, h => by
    obtain ⟨f, b, e⟩ := no_pair (y :: r) (fun i => h (i + 1))
    exact ⟨f + 1, b, by rw [e]; rfl⟩
  | true :: false :: r, h => absurd rfl (h 0)
  | true :: true :: r, h => by
    obtain ⟨f, b, e⟩ := no_pair (true :: r) (fun i => h (i + 1))
    cases f with
    | zero => exact ⟨0, b + 1, by rw [e]; rfl⟩
    | succ f => exact absurd (List.cons.inj e).1 (by decide)
theorem find_of (bs : List Bool) : (Txt.find (tx bs) "o." = -1 ∧ ∃ f b, bs = List.replicate f false ++ List.replicate b true) ∨
    ∃ u v, Txt.find (tx bs) "o." = (u.length : Int) ∧ bs = u ++ true :: false :: v := by
  rw [of_tx]
  rcases find_whole (tx bs) (tx [true, false]) with ⟨e, no⟩ | ⟨i, e, ⟨le, at'⟩, _⟩
  · refine .inl ⟨e, no_pair bs fun i h => no i ⟨?_, (sub_tx bs i).mpr h⟩⟩
    rw [tx_len, tx_len]
    have l := congrArg List.length h
    rw [List.length_take, List.length_drop] at l
    simp only [List.length_cons, List.length_nil] at l ⊢
    omega
  · have h := (sub_tx bs i).mp at'
    have l : i ≤ bs.length := by
      have l := congrArg List.length h
      rw [List.length_take, List.length_drop] at l
      simp only [List.length_cons, List.length_nil] at l
      omega
    refine .inr ⟨bs.take i, bs.drop (i + 2), ?_, ?_⟩
    · rw [e, List.length_take, Nat.min_eq_left l]
    · have q := List.take_append_drop 2 (bs.drop i)
      rw [h, List.drop_drop] at q
      have q2 := List.take_append_drop i bs
      rw [← q] at q2
      exact q2.symm
end HopR

set_option Elab.async false
set_option linter.all false
set_option maxRecDepth 100000
namespace HopR
open PySem PySem.Spec PyProof.Rows L2
/-! ### d != {} -/
def rNeD0 : R2 := fun x y H Q => ∃ (a b : Addr) (ks : List (Key × V)), x = .ref a ∧ y = .ref b ∧ H a = some (.dK ks) ∧ H b = some (.dK []) ∧ Q (.bl (!ks.isEmpty)) H
theorem op_neD0 {X : Cx} (hu : X.A.units < cLine) : OpR X (compareOp .NotEq) rNeD0 := by
  rintro pins s σ H _ _ v u Q I rx ry ⟨a, b, ks, rfl, rfl, ea, eb, q⟩
  cases ks with
  | nil => exact op_ne_dictA hu pins s σ H _ _ v u Q I rx ry ⟨a, b, [], [], rfl, rfl, ea, eb, rfl, by simp, q⟩
  | cons k ks =>
    obtain rfl : v = Value.ref a := rx
    obtain rfl : u = Value.ref b := ry
    obtain ⟨_, na, va, ra, da⟩ := dk_of I.hok ea
    obtain ⟨_, nb, vb, rb, db⟩ := dk_of I.hok eb
    have l : ¬ va.length = vb.length := by
      rw [← ra.length, ← rb.length]
      simp
    exact PySem.W.keq_ne (knd := mixKind X.prog X.w) (r := true) na nb da db hu (fun e => absurd e l) (fin_bl I q (by simp [l]))
end HopR

set_option Elab.async false
set_option linter.all false
set_option maxRecDepth 100000
namespace HopW
open PySem L2 HopR HopT
/-! ### how large lists of ends are -/
theorem enL_lt {f : Nat} {e : En} : ∀ {l : List Nat} {b : Nat}, e ∈ enL f b l → e.1.2 < b + l.length
  | [], _, h => absurd h (by simp [enL])
  | m :: l, b, h => by
    rw [List.length_cons]
    rcases List.mem_append.mp h with h | h
    · by_cases hm : 0 < m
      · rw [if_pos hm] at h
        obtain rfl := List.mem_singleton.mp h
        show b < _
        omega
      · rw [if_neg hm] at h
        exact absurd h (by simp)
    · have := enL_lt h
      omega
theorem enT_lt {e : En} {M : Nat} : ∀ {T : List (List Nat)} {f : Nat}, (∀ l ∈ T, l.length ≤ M) → e ∈ enT f T → e.1.1 < f + T.length ∧ e.1.2 < M
  | [], _, _, h => absurd h (by simp [enT])
  | l :: t, f, hl, h => by
    rw [List.length_cons]
    rcases List.mem_append.mp h with h | h
    · have h1 := (enL_mem h).1
      have h2 := enL_lt h
      have h3 := hl l (List.mem_cons_self ..)
      omega
    · have := enT_lt (fun x m => hl x (List.mem_cons_of_mem _ m)) h
      omega
theorem enL_len (f : Nat) : ∀ (l : List Nat) (b : Nat), (enL f b l).length ≤ l.length
  | [], _ => Nat.le_refl _
  | m :: l, b => by
    show ((if 0 < m then [((f, b), (m : Int))] else []) ++ enL f (b + 1) l).length ≤ l.length + 1
    rw [List.length_append]
    have := enL_len f l (b + 1)
    split
    · simp only [List.length_cons, List.length_nil]; omega
    · simp only [List.length_nil]; omega
theorem enT_len {M : Nat} : ∀ {T : List (List Nat)} (f : Nat), (∀ l ∈ T, l.length ≤ M) → (enT f T).length ≤ M * T.length
  | [], _, _ => Nat.zero_le _
  | l :: t, f, hl => by
    show (enL f 0 l ++ enT (f + 1) t).length ≤ _
    rw [List.length_append, List.length_cons, Nat.mul_succ]
    have h1 := enL_len f l 0
    have h2 := hl l (List.mem_cons_self ..)
    have h3 := enT_len (f + 1) (fun x m => hl x (List.mem_cons_of_mem _ m))
    omega
theorem tupG_app {α : Type} {H : Hp} {f : α → List V} : ∀ {as bs : List α} {vs us : List V}, TupG H f as vs → TupG H f bs us → TupG H f (as ++ bs) (vs ++ us)
  | [], _, _, _, h, g => by
    cases h
    exact g
  | _ :: _, _, _, _, ⟨p, vr, e, h1, h2⟩, g => ⟨p, vr ++ _, by rw [e]; rfl, h1, tupG_app h2 g⟩
/-- at p the list of these ends -/
def EndsAt (H : Hp) (p : Addr) (G : List En) : Prop := ∃ vs, H p = some (.lst vs) ∧ TupG H f3i G vs
theorem EndsAt.same {H H' : Hp} {p : Addr} {G : List En} (s : Same H H') (h : EndsAt H p G) : EndsAt H' p G := let ⟨vs, e, g⟩ := h; ⟨vs, s _ _ e, tupG_same s g⟩
theorem EndsAt.dp {K : PySem.W.Frag} {H : Hp} {p : Addr} {G : List En} (h : EndsAt H p G) : Dp K H (.ref p) (dE G) := let ⟨_, e, g⟩ := h; dE_of e g
theorem EndsAt.of {H : Hp} {p : Addr} {ts : List Addr} {G : List En} (e : H p = some (.lst (ts.map V.ref))) (pr : Paired (fun t e => H t = some (.tup (f3i e))) ts G) : EndsAt H p G := ⟨_, e, tupG_of pr⟩
/-- another list is changed -/
theorem EndsAt.other {H : Hp} {p q : Addr} {G : List En} {xs : List V} {o : HO} (h : EndsAt H p G) (hq : H q = some (.lst xs)) (n : p ≠ q) : EndsAt (upd H q o) p G := let ⟨vs, e, g⟩ := h; ⟨vs, by rw [upd_ne n]; exact e, tupG_upd hq g⟩
end HopW
namespace HopR
open PySem PySem.Spec PyProof.Rows L2 TL
theorem find3_of (bs : List Bool) (i : Int) : Txt.find3 (tx bs) "o." i = -1 ∨ ∃ u v, Txt.find3 (tx bs) "o." i = (u.length : Int) ∧ bs = u ++ true :: false :: v := by
  rw [of_tx]
  unfold Txt.find3
  rcases StrLaws.occ_head_from (tx bs) (tx [true, false]) _ 1 (Nat.le_refl 1) with ⟨h0, _⟩ | ⟨k, r, h0, _, hk, _⟩
  · rw [h0]; exact .inl rfl
  · rw [h0]
    have h := (sub_tx bs k).mp hk.2
    have l : k ≤ bs.length := by
      have l := congrArg List.length h
      rw [List.length_take, List.length_drop] at l
      simp only [List.length_cons, List.length_nil] at l
      omega
    refine .inr ⟨bs.take k, bs.drop (k + 2), ?_, ?_⟩
    · show ((k : Nat) : Int) = _
      rw [List.length_take, Nat.min_eq_left l]
    · have q := List.take_append_drop 2 (bs.drop k)
      rw [h, List.drop_drop] at q
      have q2 := List.take_append_drop k bs
      rw [← q] at q2
      exact q2.symm
end HopR

set_option Elab.async false
set_option linter.all false
set_option maxRecDepth 100000
namespace HopW
open PySem HopR
/-! ### as much comes to a row as goes from it -/
def xc (bs : List Bool) : List Bool := bs.map (!·)
theorem xc_app (u v : List Bool) : xc (u ++ v) = xc u ++ xc v := List.map_append
theorem xc_cons (b : Bool) (v : List Bool) : xc (b :: v) = (!b) :: xc v := rfl
theorem xc_xc (u : List Bool) : xc (xc u) = u := by
  unfold xc
  rw [List.map_map]
  refine (List.map_congr_left fun b _ => ?_).trans (List.map_id u)
  show (!(!b)) = b
  rw [Bool.not_not]
theorem xc_len (u : List Bool) : (xc u).length = u.length := List.length_map ..
theorem opn_first (b : Bool) (v : List Bool) : opn (b :: v) 0 = !b := by
  unfold opn ends
  show decide ([true, b] = [true, false]) = !b
  cases b <;> decide
theorem opn_mid (u v : List Bool) (a b : Bool) : opn (u ++ a :: b :: v) (u.length + 1) = (a && !b) := by
  unfold opn ends
  have e : (true :: (u ++ a :: b :: v ++ [false])).drop (u.length + 1) = a :: b :: (v ++ [false]) := by
    show (u ++ a :: b :: v ++ [false]).drop u.length = _
    rw [List.append_assoc, List.drop_append, List.drop_length, Nat.sub_self]
    rfl
  rw [e]
  show decide ([a, b] = [true, false]) = _
  cases a <;> cases b <;> decide
theorem opn_last (u : List Bool) (a : Bool) : opn (u ++ [a]) (u.length + 1) = a := by
  unfold opn ends
  have e : (true :: (u ++ [a] ++ [false])).drop (u.length + 1) = [a, false] := by
    show (u ++ [a] ++ [false]).drop u.length = _
    rw [List.append_assoc, List.drop_append, List.drop_length, Nat.sub_self]
    rfl
  rw [e]
  show decide ([a, false] = [true, false]) = _
  cases a <;> decide
theorem chg_first (b : Bool) (v : List Bool) : chg (b :: v) 0 = true :: v := by
  unfold chg bhd ends
  show ((true :: (v ++ [false])).take _) = _
  have e : ([] ++ [false] ++ [true] ++ (true :: (b :: v ++ [false])).drop (0 + 2)).length - 2 = v.length + 1 := by
    simp
  show (true :: (v ++ [false])).take (([] ++ [false] ++ [true] ++ (true :: (b :: v ++ [false])).drop (0 + 2)).length - 2) = true :: v
  rw [e, List.take_succ_cons, List.take_append, List.take_length, Nat.sub_self]
  simp
theorem chg_mid (u v : List Bool) (a b : Bool) : chg (u ++ a :: b :: v) (u.length + 1) = u ++ false :: true :: v := by
  unfold chg
  have e : bhd (u ++ a :: b :: v) (u.length + 1) = true :: (u ++ false :: true :: (v ++ [false])) := by
    unfold bhd ends
    have e1 : (true :: (u ++ a :: b :: v ++ [false])).take (u.length + 1) = true :: u := by
      rw [List.take_succ_cons, List.append_assoc, List.take_append, List.take_length, Nat.sub_self]
      simp
    have e2 : (true :: (u ++ a :: b :: v ++ [false])).drop (u.length + 1 + 2) = v ++ [false] := by
      show (u ++ a :: b :: v ++ [false]).drop (u.length + 2) = _
      rw [List.append_assoc, List.drop_append, List.drop_of_length_le (by omega), show u.length + 2 - u.length = 2 by omega]
      rfl
    rw [e1, e2]
    simp
  rw [e]
  have e3 : (true :: (u ++ false :: true :: (v ++ [false]))).length - 2 = (u ++ false :: true :: v).length := by simp
  rw [e3]
  show ((u ++ false :: true :: (v ++ [false])).take (u ++ false :: true :: v).length) = _
  have e4 : u ++ false :: true :: (v ++ [false]) = (u ++ false :: true :: v) ++ [false] := by simp
  rw [e4, List.take_append, List.take_length, Nat.sub_self]
  simp
theorem chg_last (u : List Bool) (a : Bool) : chg (u ++ [a]) (u.length + 1) = u ++ [false] := by
  unfold chg
  have e : bhd (u ++ [a]) (u.length + 1) = true :: (u ++ [false] ++ [true]) := by
    unfold bhd ends
    have e1 : (true :: (u ++ [a] ++ [false])).take (u.length + 1) = true :: u := by
      rw [List.take_succ_cons, List.append_assoc, List.take_append, List.take_length, Nat.sub_self]
      simp
    have e2 : (true :: (u ++ [a] ++ [false])).drop (u.length + 1 + 2) = [] := by
      refine List.drop_of_length_le ?_
      simp
    rw [e1, e2]
    simp
  rw [e]
  have e3 : (true :: (u ++ [false] ++ [true])).length - 2 = (u ++ [false]).length := by simp
  rw [e3]
  show ((u ++ [false] ++ [true]).take (u ++ [false]).length) = _
  rw [List.take_append, List.take_length, Nat.sub_self]
  simp
/-! ### the flow over each wall -/
def sQ (f : Nat → Rat) : Nat → Rat
  | 0 => 0
  | n + 1 => sQ f n + f n
def sm : List Rat → Rat
  | [] => 0
  | a :: l => a + sm l
theorem sm_app : ∀ l m : List Rat, sm (l ++ m) = sm l + sm m
  | [], m => by show sm m = 0 + sm m; grind
  | a :: l, m => by show a + sm (l ++ m) = a + sm l + sm m; rw [sm_app l m]; grind
theorem sm_filter (p : Nat → Bool) (f : Nat → Rat) : ∀ n, sm (((List.range n).filter p).map f) = sQ (fun k => if p k = true then f k else 0) n
  | 0 => rfl
  | n + 1 => by
    rw [List.range_succ, List.filter_append, List.map_append, sm_app, sm_filter p f n]
    show _ = sQ _ n + (if p n = true then f n else 0)
    congr 1
    cases h : p n with
    | true => simp [h, sm]; grind
    | false => simp [h, sm]
theorem sQ_sub (f g : Nat → Rat) : ∀ n, sQ (fun k => f k - g k) n = sQ f n - sQ g n
  | 0 => by show (0 : Rat) = 0 - 0; grind
  | n + 1 => by
    show sQ (fun k => f k - g k) n + (f n - g n) = (sQ f n + f n) - (sQ g n + g n)
    rw [sQ_sub f g n]; grind
theorem sQ_mul (c : Rat) (f : Nat → Rat) : ∀ n, sQ (fun k => f k * c) n = sQ f n * c
  | 0 => by show (0 : Rat) = 0 * c; grind
  | n + 1 => by
    show sQ (fun k => f k * c) n + f n * c = (sQ f n + f n) * c
    rw [sQ_mul c f n]; grind
def pcA (bs : List Bool) (q r : Rat) (k : Nat) : Rat := if k = 0 then q else if k = bs.length then r else 1
/-- a row from which a change leads to bs -/
def ahd (bs : List Bool) (k : Nat) : List Bool := xc (chg (xc bs) k)
def outF (q r : Rat) (bs : List Bool) (k : Nat) : Rat := if opn bs k = true then pcA bs q r k * wt q⁻¹ r⁻¹ bs else 0
def inF (q r : Rat) (bs : List Bool) (k : Nat) : Rat := if opn (xc bs) k = true then wt q⁻¹ r⁻¹ (ahd bs k) * pcA bs q r k else 0
/-- the weight without place i, with the sign of what stands there -/
def tt (q r : Rat) (bs : List Bool) (i : Nat) : Rat := (if bs[i]? = some true then 1 else -1) * wt q⁻¹ r⁻¹ (bs.eraseIdx i)
section
variable {q r : Rat}
theorem tt_first (b : Bool) (v : List Bool) : tt q r (b :: v) 0 = (if b = true then 1 else -1) * wt q⁻¹ r⁻¹ v := by
  unfold tt
  cases b <;> simp
theorem tt_at (u v : List Bool) (a : Bool) : tt q r (u ++ a :: v) u.length = (if a = true then 1 else -1) * wt q⁻¹ r⁻¹ (u ++ v) := by
  unfold tt
  rw [List.getElem?_append_right (Nat.le_refl _), Nat.sub_self, List.eraseIdx_append_of_length_le (Nat.le_refl _), Nat.sub_self]
  cases a <;> simp
theorem flow_first (hq : q ≠ 0) (b : Bool) (v : List Bool) : outF q r (b :: v) 0 - inF q r (b :: v) 0 = - tt q r (b :: v) 0 := by
  have hw : wt q⁻¹ r⁻¹ (false :: v) = q⁻¹ * wt q⁻¹ r⁻¹ v := wt_free ..
  have hi : q * q⁻¹ = 1 := Rat.mul_inv_cancel q hq
  rw [tt_first]
  unfold outF inF ahd
  rw [xc_cons, opn_first, opn_first, chg_first, xc_cons, xc_xc]
  have hp : pcA (b :: v) q r 0 = q := if_pos rfl
  rw [hp]
  cases b with
  | false =>
    rw [hw]
    simp
    grind
  | true =>
    simp
    rw [hw]
    grind
theorem flow_mid {u v : List Bool} {a b : Bool} : outF q r (u ++ a :: b :: v) (u.length + 1) - inF q r (u ++ a :: b :: v) (u.length + 1) = tt q r (u ++ a :: b :: v) u.length - tt q r (u ++ a :: b :: v) (u.length + 1) := by
  have t1 := tt_at (q := q) (r := r) u (b :: v) a
  have t2 : tt q r (u ++ a :: b :: v) (u.length + 1) = (if b = true then 1 else -1) * wt q⁻¹ r⁻¹ (u ++ a :: v) := by
    have h := tt_at (q := q) (r := r) (u ++ [a]) v b
    rw [List.length_append, List.append_assoc, List.append_assoc] at h
    exact h
  rw [t1, t2]
  have hof := wt_of q⁻¹ r⁻¹ u v
  have hp : pcA (u ++ a :: b :: v) q r (u.length + 1) = 1 := by
    unfold pcA
    rw [if_neg (by omega), if_neg (by rw [List.length_append, List.length_cons, List.length_cons]; omega)]
  unfold outF inF ahd
  have ex : xc (u ++ a :: b :: v) = xc u ++ (!a) :: (!b) :: xc v := by rw [xc_app, xc_cons, xc_cons]
  have o2 : opn (xc (u ++ a :: b :: v)) (u.length + 1) = (!a && b) := by
    rw [ex, ← xc_len u, opn_mid, Bool.not_not]
  have c2 : xc (chg (xc (u ++ a :: b :: v)) (u.length + 1)) = u ++ true :: false :: v := by
    rw [ex, ← xc_len u, chg_mid, xc_app, xc_cons, xc_cons, xc_xc, xc_xc]
    rfl
  rw [opn_mid, o2, c2, hp]
  cases a <;> cases b <;> simp <;> grind
theorem flow_last (hr : r ≠ 0) (u : List Bool) (a : Bool) : outF q r (u ++ [a]) (u.length + 1) - inF q r (u ++ [a]) (u.length + 1) = tt q r (u ++ [a]) u.length := by
  have hw : wt q⁻¹ r⁻¹ (u ++ [true]) = r⁻¹ * wt q⁻¹ r⁻¹ u := wt_bead ..
  have hi : r * r⁻¹ = 1 := Rat.mul_inv_cancel r hr
  have t1 := tt_at (q := q) (r := r) u [] a
  rw [List.append_nil] at t1
  rw [t1]
  have hp : pcA (u ++ [a]) q r (u.length + 1) = r := by
    unfold pcA
    rw [if_neg (by omega), if_pos (by rw [List.length_append]; rfl)]
  unfold outF inF ahd
  have ex : xc (u ++ [a]) = xc u ++ [!a] := by rw [xc_app]; rfl
  have o2 : opn (xc (u ++ [a])) (u.length + 1) = !a := by rw [ex, ← xc_len u, opn_last]
  have c2 : xc (chg (xc (u ++ [a])) (u.length + 1)) = u ++ [true] := by
    rw [ex, ← xc_len u, chg_last, xc_app, xc_xc]
    rfl
  rw [opn_last, o2, c2, hp]
  cases a with
  | false =>
    rw [hw]
    simp
    grind
  | true =>
    rw [hw]
    simp
    grind
theorem split_at {bs : List Bool} {i : Nat} (h : i < bs.length) : ∃ u a v, bs = u ++ a :: v ∧ u.length = i := ⟨bs.take i, bs[i], bs.drop (i + 1), by
  rw [← List.drop_eq_getElem_cons h, List.take_append_drop], by rw [List.length_take]; omega⟩
theorem flows (hq : q ≠ 0) {bs : List Bool} : ∀ m, m < bs.length → sQ (fun k => outF q r bs k - inF q r bs k) (m + 1) = - tt q r bs m := by
  intro m
  induction m with
  | zero =>
    intro h
    cases bs with
    | nil => exact absurd h (by simp)
    | cons b v =>
      show 0 + (outF q r (b :: v) 0 - inF q r (b :: v) 0) = _
      rw [flow_first hq b v]
      grind
  | succ m ih =>
    intro h
    show sQ (fun k => outF q r bs k - inF q r bs k) (m + 1) + (outF q r bs (m + 1) - inF q r bs (m + 1)) = _
    rw [ih (by omega)]
    obtain ⟨u, a, v, e, hu⟩ := split_at (show m < bs.length by omega)
    cases v with
    | nil =>
      rw [e, List.length_append] at h
      have h : m + 1 < u.length + 1 := h
      omega
    | cons b v =>
      subst e
      subst hu
      rw [flow_mid]
      grind
theorem balance (hq : q ≠ 0) (hr : r ≠ 0) {bs : List Bool} (h : 1 ≤ bs.length) : sQ (fun k => outF q r bs k - inF q r bs k) (bs.length + 1) = 0 := by
  obtain ⟨u, a, v, e, hu⟩ := split_at (show bs.length - 1 < bs.length by omega)
  cases v with
  | cons b v =>
    rw [e, List.length_append, List.length_cons, List.length_cons] at hu
    omega
  | nil =>
    subst e
    rw [List.length_append]
    show sQ _ (u.length + 1) + (outF q r (u ++ [a]) (u.length + 1) - inF q r (u ++ [a]) (u.length + 1)) = 0
    rw [flows hq u.length (by rw [List.length_append]; exact Nat.lt_succ_self _), flow_last hr]
    grind
/-- what goes: the weight times the paces of the open walls; what comes: weights ahead, each times its pace -/
theorem comes_goes (hq : q ≠ 0) (hr : r ≠ 0) {bs : List Bool} (h : 1 ≤ bs.length) : sm ((walls (xc bs)).map fun k => wt q⁻¹ r⁻¹ (ahd bs k) * pcA bs q r k) = sm ((walls bs).map (pcA bs q r)) * wt q⁻¹ r⁻¹ bs := by
  have hb := balance hq hr h
  rw [sQ_sub] at hb
  unfold walls
  rw [sm_filter, sm_filter, xc_len, ← sQ_mul]
  have e1 : (fun k => (if opn bs k = true then pcA bs q r k else 0) * wt q⁻¹ r⁻¹ bs) = outF q r bs := by
    funext k
    unfold outF
    split <;> grind
  have e2 : (fun k => if opn (xc bs) k = true then wt q⁻¹ r⁻¹ (ahd bs k) * pcA bs q r k else 0) = inF q r bs := rfl
  rw [e1, e2]
  have hb : sQ (outF q r bs) (bs.length + 1) - sQ (inF q r bs) (bs.length + 1) = 0 := hb
  grind
end
end HopW

set_option Elab.async false
set_option linter.all false
set_option maxRecDepth 100000
namespace HopW
open PySem HopR
/-! ### the rows ahead, by where the wall is -/
theorem ahd_first (v : List Bool) : ahd (true :: v) 0 = false :: v := by
  unfold ahd
  rw [xc_cons, chg_first, xc_cons, xc_xc]
  rfl
theorem ahd_mid (u v : List Bool) (a b : Bool) : ahd (u ++ a :: b :: v) (u.length + 1) = u ++ true :: false :: v := by
  unfold ahd
  rw [xc_app, xc_cons, xc_cons, ← xc_len u, chg_mid, xc_app, xc_cons, xc_cons, xc_xc, xc_xc]
  rfl
theorem ahd_last (u : List Bool) (a : Bool) : ahd (u ++ [a]) (u.length + 1) = u ++ [true] := by
  unfold ahd
  rw [xc_app, show xc [a] = [!a] from rfl, ← xc_len u, chg_last, xc_app, xc_xc]
  rfl
theorem at_wall {bs : List Bool} {k : Nat} (h : 1 ≤ bs.length) (hk : k ≤ bs.length) : (∃ b v, bs = b :: v ∧ k = 0) ∨ (∃ u a b v, bs = u ++ a :: b :: v ∧ k = u.length + 1) ∨ (∃ u a, bs = u ++ [a] ∧ k = u.length + 1) := by
  cases k with
  | zero =>
    cases bs with
    | nil => exact absurd h (by simp)
    | cons b v => exact .inl ⟨b, v, rfl, rfl⟩
  | succ i =>
    obtain ⟨u, a, v, e, hu⟩ := split_at (show i < bs.length by omega)
    cases v with
    | nil => exact .inr (.inr ⟨u, a, e, by rw [hu]⟩)
    | cons b v => exact .inr (.inl ⟨u, a, b, v, e, by rw [hu]⟩)
theorem xopn_first (b : Bool) (v : List Bool) : opn (xc (b :: v)) 0 = b := by rw [xc_cons, opn_first, Bool.not_not]
theorem xopn_mid (u v : List Bool) (a b : Bool) : opn (xc (u ++ a :: b :: v)) (u.length + 1) = (!a && b) := by
  rw [xc_app, xc_cons, xc_cons, ← xc_len u, opn_mid, Bool.not_not]
theorem xopn_last (u : List Bool) (a : Bool) : opn (xc (u ++ [a])) (u.length + 1) = !a := by
  rw [xc_app, show xc [a] = [!a] from rfl, ← xc_len u, opn_last]
theorem ahd_count {bs : List Bool} {k : Nat} (h : 1 ≤ bs.length) (hk : k ∈ walls (xc bs)) : (ahd bs k).length = bs.length ∧ (ahd bs k).count false ≤ bs.count false + 1 ∧ (ahd bs k).count true ≤ bs.count true + 1 ∧ k ∈ walls (ahd bs k) ∧ chg (ahd bs k) k = bs := by
  obtain ⟨h1, h2⟩ := mem_walls.mp hk
  rw [xc_len] at h1
  rcases at_wall h h1 with ⟨b, v, rfl, rfl⟩ | ⟨u, a, b, v, rfl, rfl⟩ | ⟨u, a, rfl, rfl⟩
  · rw [xopn_first] at h2
    subst h2
    rw [ahd_first]
    refine ⟨rfl, ?_, ?_, mem_walls.mpr ⟨Nat.zero_le _, by rw [opn_first]; rfl⟩, by rw [chg_first]⟩
    · simp [List.count_cons]
    · simp [List.count_cons]; omega
  · rw [xopn_mid] at h2
    have ha : a = false ∧ b = true := by cases a <;> cases b <;> simp_all
    obtain ⟨rfl, rfl⟩ := ha
    rw [ahd_mid]
    refine ⟨by simp, ?_, ?_, mem_walls.mpr ⟨by simp, by rw [opn_mid]; rfl⟩, by rw [chg_mid]⟩
    · simp [List.count_append, List.count_cons]
    · simp [List.count_append, List.count_cons]
  · rw [xopn_last] at h2
    have ha : a = false := by cases a <;> simp_all
    subst ha
    rw [ahd_last]
    refine ⟨by simp, ?_, ?_, mem_walls.mpr ⟨by simp, by rw [opn_last]⟩, by rw [chg_last]⟩
    · simp [List.count_append]; omega
    · simp [List.count_append]
/-- a bead put ahead of the wall, a free place behind it -/
def s2 (bs : List Bool) (k : Nat) : List Bool := if k < bs.length then (if 0 < k then bs.set (k - 1) true else bs).set k false else (if 0 < k then bs.set (k - 1) true else bs)
theorem s2_ok {bs : List Bool} {k : Nat} (h : 1 ≤ bs.length) (hk : k ≤ bs.length) : (s2 bs k).length = bs.length ∧ k ∈ walls (s2 bs k) ∧ decide (chg (s2 bs k) k = bs) = opn (xc bs) k ∧ (opn (xc bs) k = true → s2 bs k = ahd bs k) := by
  rcases at_wall h hk with ⟨b, v, rfl, rfl⟩ | ⟨u, a, b, v, rfl, rfl⟩ | ⟨u, a, rfl, rfl⟩
  · have e : s2 (b :: v) 0 = false :: v := by
      unfold s2
      rw [if_pos (by simp), if_neg (by omega)]
      rfl
    rw [e, chg_first, xopn_first]
    refine ⟨rfl, mem_walls.mpr ⟨Nat.zero_le _, by rw [opn_first]; rfl⟩, ?_, fun hb => ?_⟩
    · cases b <;> simp
    · subst hb; rw [ahd_first]
  · have e : s2 (u ++ a :: b :: v) (u.length + 1) = u ++ true :: false :: v := by
      unfold s2
      rw [if_pos (by simp), if_pos (by omega), Nat.add_sub_cancel]
      have e1 : (u ++ a :: b :: v).set u.length true = u ++ true :: b :: v := by rw [List.set_append_right _ _ (Nat.le_refl _), Nat.sub_self]; rfl
      rw [e1, List.set_append_right _ _ (by omega), show u.length + 1 - u.length = 1 by omega]
      rfl
    rw [e, chg_mid, xopn_mid, ahd_mid]
    refine ⟨by simp, mem_walls.mpr ⟨by simp, by rw [opn_mid]; rfl⟩, ?_, fun _ => rfl⟩
    cases a <;> cases b <;> simp
  · have e : s2 (u ++ [a]) (u.length + 1) = u ++ [true] := by
      unfold s2
      rw [if_neg (by simp), if_pos (by omega), Nat.add_sub_cancel]
      rw [List.set_append_right _ _ (Nat.le_refl _), Nat.sub_self]
      rfl
    rw [e, chg_last, xopn_last, ahd_last]
    refine ⟨by simp, mem_walls.mpr ⟨by simp, by rw [opn_last]⟩, ?_, fun _ => rfl⟩
    cases a <;> simp
/-! ### fractions over one bottom: how large sums of them are -/
def FrD (D : Int) (M : Nat) (x : Rat) : Prop := ∃ N : Int, x * (D : Rat) = (N : Rat) ∧ N.natAbs ≤ M
theorem FrD.add {D : Int} {M M' : Nat} {x y : Rat} (h : FrD D M x) (h' : FrD D M' y) : FrD D (M + M') (x + y) := by
  obtain ⟨N, e, l⟩ := h
  obtain ⟨N', e', l'⟩ := h'
  refine ⟨N + N', ?_, Nat.le_trans (Int.natAbs_add_le _ _) (Nat.add_le_add l l')⟩
  rw [Rat.intCast_add, ← e, ← e']
  grind
theorem FrD.mul {D D' : Int} {M M' : Nat} {x y : Rat} (h : FrD D M x) (h' : FrD D' M' y) : FrD (D * D') (M * M') (x * y) := by
  obtain ⟨N, e, l⟩ := h
  obtain ⟨N', e', l'⟩ := h'
  refine ⟨N * N', ?_, by rw [Int.natAbs_mul]; exact Nat.mul_le_mul l l'⟩
  rw [Rat.intCast_mul, Rat.intCast_mul, ← e, ← e']
  grind
theorem FrD.up {D E : Int} {M : Nat} {x : Rat} (h : FrD D M x) : FrD (D * E) (M * E.natAbs) x := by
  obtain ⟨N, e, l⟩ := h
  refine ⟨N * E, ?_, by rw [Int.natAbs_mul]; exact Nat.mul_le_mul_right _ l⟩
  rw [Rat.intCast_mul, Rat.intCast_mul, ← e]
  grind
theorem FrD.zero (D : Int) : FrD D 0 0 := ⟨0, by show (0 : Rat) * _ = ((0 : Int) : Rat); rw [show ((0 : Int) : Rat) = 0 from rfl]; grind, Nat.le_refl _⟩
theorem FrD.mono {D : Int} {M M' : Nat} {x : Rat} (h : FrD D M x) (l : M ≤ M') : FrD D M' x := let ⟨N, e, i⟩ := h; ⟨N, e, Nat.le_trans i l⟩
theorem FrD.sz {D : Int} {M k : Nat} {x : Rat} (h : FrD D M x) (hd : D ≠ 0) (hD : D.natAbs < 2 ^ k) (hM : M < 2 ^ k) : Sz k x := by
  obtain ⟨N, e, l⟩ := h
  have hn : ((D : Int) : Rat) ≠ 0 := fun z => hd (Rat.intCast_eq_zero_iff.mp z)
  have ex : x = Rat.divInt N D := by
    rw [Rat.divInt_eq_div, ← e, Rat.mul_div_cancel hn]
  rw [ex]
  exact sz_divInt hd (Nat.lt_of_le_of_lt l hM) hD
theorem FrD.of (q : Rat) : FrD (q.den : Int) q.num.natAbs q := ⟨q.num, by
  rw [Rat.intCast_natCast]
  have h := Rat.num_divInt_den q
  rw [Rat.divInt_eq_div] at h
  have hn : ((q.den : Int) : Rat) ≠ 0 := fun z => q.den_nz (by have := Rat.intCast_eq_zero_iff.mp z; omega)
  have h2 : (q.num : Rat) / ((q.den : Int) : Rat) * ((q.den : Int) : Rat) = (q.num : Rat) := Rat.div_mul_cancel hn
  rw [h, Rat.intCast_natCast] at h2
  exact h2, Nat.le_refl _⟩
end HopW

set_option Elab.async false
set_option linter.all false
set_option maxRecDepth 100000
/-! ### != of two tuples whose items are alike, by their own == -/
namespace NeOwn
open PySem PySem.SeqAt
open AutoSeq1 (wpAny_loadPart')
section
variable {prog : Program} {w : World} {A : Around} {R : Result → Shared → Prop} {l b : Addr} {xs ys : Array Value} {n n2 : Nat} {d1 d2 : Option Addr} {sl sl2 : Array (Option Value)} {I : Shared → Prop}
theorem tuples_ne (size : xs.size = ys.size)
    (alike : ∀ p ∈ xs.toList.zip ys.toList, ∀ t, I t → wpAny (model prog w) A.in1 (eqBool p.1 p.2) (fun r t' => r = true ∧ I t') (fun e t' => R (.error e) t') t) (stop : ∀ t, I t → R (.ok (.ret (.bool false))) t)
    {t : Shared} (gl : t.heap.get? l = some { cls := .type "tuple", dict := d1, data := .seq xs n, slots := sl }) (gb : t.heap.get? b = some { cls := .type "tuple", dict := d2, data := .seq ys n2, slots := sl2 }) (h : I t) :
    wpAny (model prog w) A.in1 (Builtin.«tuple.__ne__» ⟨[.ref l, .ref b], []⟩) (GQ.FinOf prog w A R) (fun e t' => R (.error e) t') t := by
  have tuples := AutoSeq1.sub_tuple_tuple
  have first := h
  obtain ⟨hp, g, dd, tk, os⟩ := t
  wp_walk using wpAny_loadPart' gl, wpAny_loadPart' gb, wpAny_forIn_list _ (fun left c t' => c.1 = none ∧ (∀ p ∈ left, p ∈ xs.toList.zip ys.toList) ∧ I t') _
  case turn =>
    rintro p left c t' ⟨hc, sub, hI⟩
    refine wpAny_bind (wpAny_mono (alike p (sub p List.mem_cons_self) t' hI) (fun r t2 z => ?_) fun _ _ z => z)
    obtain ⟨hr, hI2⟩ := z
    rw [hr]
    wp_walk
    exact ⟨rfl, fun z m => sub z (List.mem_cons_of_mem _ m), hI2⟩
  case fin =>
    rintro ⟨c, c2⟩ t' ⟨hc, _, hI⟩
    dsimp only at hc
    rw [hc]
    have done := stop t' hI
    wp_walk
    simpa [Builtin.Tuple.tupleCompareSizes, size] using done
  case h => exact ⟨rfl, fun _ m => m, first⟩
end
end NeOwn
namespace L2
open PySem PySem.Spec PyProof.Rows
section
variable {X : Cx} {n : Nat} {D : Eqv}
/-- x != y of two tuples, their items alike by what D says -/
def rNeT (K : PySem.W.Frag) (D : Eqv) : R2 := fun x y H Q => DTup K D x y H ∧ ∀ H', Ext H H' → Q (.bl false) H'
theorem op_neT (hD : Mon D) (h : EqG X n D) (hr : Room (n + 1) X.A) : OpR X (compareOp .NotEq) (rNeT X.K D) := by
  intro pins s σ H x y v u Q I rx ry ⟨⟨a, b, xs, ys, ex, ey, ha, hb, p⟩, q⟩
  subst ex ey
  cases rx
  cases ry
  have sb : Sub X (n + 1) X.A := ⟨hr, rfl⟩
  show wpAny (model X.prog X.w) X.A (richCompare .NotEq (.ref a) (.ref b)) (EP X pins σ Q) X.xe s
  obtain ⟨its, r, ⟨⟨cls, dd, data, sl⟩, e, hc, k, hd⟩, z⟩ := I.tuple ha
  obtain ⟨its2, r2, ⟨⟨cls2, dd2, data2, sl2⟩, e2, hc2, k2, hd2⟩, z2⟩ := I.tuple hb
  dsimp only at hc hd hc2 hd2
  subst hc hd hc2 hd2
  have hsz : its.toArray.size = its2.toArray.size := by rw [List.size_toArray, List.size_toArray, ← r.length, ← r2.length]; exact p.1
  refine wpAny_richCompare_same_room (op := .NotEq) ⟨_, e, rfl⟩ ⟨_, e2, rfl⟩ F.slot_tuple_ne (GQ.call_here F.slot_tuple_ne ⟨_, e, rfl⟩ F.entry_tuple_ne (F.args_tuple_ne_2 _ _) ?_) hr.units0
  refine NeOwn.tuples_ne (R := wants (fun v t => v ≠ .notImplemented ∧ EP X pins σ Q v t) X.xe) (I := fun t => LoopI X pins σ H t) hsz (fun m hm t hI => ?_) (fun t ⟨H', I', e'⟩ => ⟨(fun x => nomatch x), ⟨.bl false, H', I', rfl, q H' e'⟩⟩) e e2 ⟨H, I, Ext.rfl'⟩
  obtain ⟨i, hi, e0⟩ := List.mem_iff_getElem.mp hm
  have hi' := hi
  rw [List.length_zip] at hi'
  have h1 : i < its.toArray.size := by simp at hi' ⊢; omega
  have h2 : i < its2.toArray.size := by simp at hi' ⊢; omega
  have e1 : m = (its.toArray[i], its2.toArray[i]) := by rw [← e0]; simp
  rw [e1]
  exact turnG hD h sb p r r2 i h1 h2 t hI
end
end L2

set_option Elab.async false
set_option linter.all false
set_option maxRecDepth 100000
/-! Heaps of a row: a course in any order fills one. -/
namespace HopH
abbrev T3 := Nat × Nat × Bool
/-- of the letters S the tuples R are a heap -/
structure Heaped (bs : List Bool) (S : List Nat) (R : List T3) : Prop where
  inn : ∀ b f s, (b, f, s) ∈ R → b ∈ S ∧ f ∈ S ∧ b < f ∧ bs[b]? = some true ∧ bs[f]? = some false
  nd : (R.map fun e => (e.1, e.2.1)).Nodup
  has : ∀ b f, b ∈ S → f ∈ S → b < f → bs[b]? = some true → bs[f]? = some false → ((∃ s, (b, f, s) ∈ R) ↔ ∀ k ∈ S, b < k → k < f → (k, f, true) ∉ R ∧ (b, k, false) ∉ R)
theorem pair_mem {R : List T3} {b f : Nat} : (b, f) ∈ R.map (fun e : T3 => (e.1, e.2.1)) ↔ ∃ s, (b, f, s) ∈ R := by
  rw [List.mem_map]
  constructor
  · rintro ⟨⟨b', f', s⟩, m, e⟩
    cases e
    exact ⟨s, m⟩
  · rintro ⟨s, m⟩
    exact ⟨_, m, rfl⟩
theorem heaped_nil {bs : List Bool} {S : List Nat} (h : ∀ b f, b ∈ S → f ∈ S → b < f → bs[b]? = some true → bs[f]? = some false → False) : Heaped bs S [] :=
  ⟨fun _ _ _ m => absurd m (by simp), by simp, fun b f hb hf l h1 h2 => (h b f hb hf l h1 h2).elim⟩
theorem Heaped.perm {bs : List Bool} {S : List Nat} {R R' : List T3} (h : Heaped bs S R) (p : R.Perm R') : Heaped bs S R' := by
  refine ⟨fun b f s m => h.inn b f s (p.mem_iff.mpr m), (p.map _).nodup_iff.mp h.nd, fun b f hb hf l h1 h2 => ?_⟩
  have e := h.has b f hb hf l h1 h2
  constructor
  · rintro ⟨s, m⟩ k hk k1 k2
    have := e.mp ⟨s, p.mem_iff.mpr m⟩ k hk k1 k2
    exact ⟨fun z => this.1 (p.mem_iff.mpr z), fun z => this.2 (p.mem_iff.mpr z)⟩
  · intro q
    obtain ⟨s, m⟩ := e.mpr fun k hk k1 k2 => ⟨fun z => (q k hk k1 k2).1 (p.mem_iff.mp z), fun z => (q k hk k1 k2).2 (p.mem_iff.mp z)⟩
    exact ⟨s, p.mem_iff.mp m⟩
theorem bad {o : Option Bool} (h1 : o = some true) (h2 : o = some false) : False := by rw [h1] at h2; cases h2
/-- a step at b, f that leaves the free place out -/
theorem heaped_free {bs : List Bool} {S S' : List Nat} {R : List T3} {b f : Nat} (hb : b ∈ S) (hf : f ∈ S) (bf : b < f) (adj : ∀ k ∈ S, b < k → k < f → False) (h1 : bs[b]? = some true) (h2 : bs[f]? = some false)
    (hS : ∀ x, x ∈ S' ↔ x ∈ S ∧ x ≠ f) (h : Heaped bs S' R) : Heaped bs S ((b, f, true) :: R) := by
  have nf : ∀ x s, (x, f, s) ∉ R := fun x s m => ((hS f).mp (h.inn _ _ _ m).2.1).2 rfl
  refine ⟨fun b1 f1 s m => ?_, ?_, fun b1 f1 hb1 hf1 l k1 k2 => ?_⟩
  · rcases List.mem_cons.mp m with e | m
    · cases e; exact ⟨hb, hf, bf, h1, h2⟩
    · obtain ⟨a, c, d⟩ := h.inn _ _ _ m
      exact ⟨((hS _).mp a).1, ((hS _).mp c).1, d⟩
  · rw [List.map_cons, List.nodup_cons]
    exact ⟨fun m => by obtain ⟨s, m⟩ := pair_mem.mp m; exact nf _ _ m, h.nd⟩
  · by_cases ef : f1 = f
    · subst ef
      by_cases eb : b1 = b
      · subst eb
        exact ⟨fun _ k hk z1 z2 => (adj k hk z1 z2).elim, fun _ => ⟨true, List.mem_cons_self ..⟩⟩
      · have lb : b1 < b := by
          rcases Nat.lt_trichotomy b1 b with z | z | z
          · exact z
          · exact absurd z eb
          · exact (adj b1 hb1 z l).elim
        constructor
        · rintro ⟨s, m⟩
          rcases List.mem_cons.mp m with e | m
          · cases e; exact absurd rfl eb
          · exact (nf _ _ m).elim
        · intro q
          exact ((q b hb lb bf).1 (List.mem_cons_self ..)).elim
    · have nb : b1 ≠ f := fun e => by rw [e] at k1; exact bad k1 h2
      have e := h.has b1 f1 ((hS _).mpr ⟨hb1, nb⟩) ((hS _).mpr ⟨hf1, ef⟩) l k1 k2
      have i1 : ∀ x s, (x, f1, s) ∈ (b, f, true) :: R ↔ (x, f1, s) ∈ R := fun x s => by
        constructor
        · intro m
          rcases List.mem_cons.mp m with e | m
          · cases e; exact absurd rfl ef
          · exact m
        · exact List.mem_cons_of_mem _
      have i2 : ∀ k, (b1, k, false) ∈ (b, f, true) :: R ↔ (b1, k, false) ∈ R := fun k => by
        constructor
        · intro m
          rcases List.mem_cons.mp m with e | m
          · cases e
          · exact m
        · exact List.mem_cons_of_mem _
      constructor
      · rintro ⟨s, m⟩ k hk z1 z2
        rw [i1, i2]
        by_cases ek : k = f
        · subst ek
          refine ⟨fun z => ?_, nf _ _⟩
          exact bad (h.inn _ _ _ z).2.2.2.1 h2
        · exact e.mp ⟨s, (i1 _ _).mp m⟩ k ((hS _).mpr ⟨hk, ek⟩) z1 z2
      · intro q
        obtain ⟨s, m⟩ := e.mpr fun k hk z1 z2 => by
          have := q k ((hS _).mp hk).1 z1 z2
          rw [i1, i2] at this
          exact this
        exact ⟨s, (i1 _ _).mpr m⟩
/-- a step at b, f that leaves the bead out -/
theorem heaped_bead {bs : List Bool} {S S' : List Nat} {R : List T3} {b f : Nat} (hb : b ∈ S) (hf : f ∈ S) (bf : b < f) (adj : ∀ k ∈ S, b < k → k < f → False) (h1 : bs[b]? = some true) (h2 : bs[f]? = some false)
    (hS : ∀ x, x ∈ S' ↔ x ∈ S ∧ x ≠ b) (h : Heaped bs S' R) : Heaped bs S ((b, f, false) :: R) := by
  have nb : ∀ x s, (b, x, s) ∉ R := fun x s m => ((hS b).mp (h.inn _ _ _ m).1).2 rfl
  refine ⟨fun b1 f1 s m => ?_, ?_, fun b1 f1 hb1 hf1 l k1 k2 => ?_⟩
  · rcases List.mem_cons.mp m with e | m
    · cases e; exact ⟨hb, hf, bf, h1, h2⟩
    · obtain ⟨a, c, d⟩ := h.inn _ _ _ m
      exact ⟨((hS _).mp a).1, ((hS _).mp c).1, d⟩
  · rw [List.map_cons, List.nodup_cons]
    exact ⟨fun m => by obtain ⟨s, m⟩ := pair_mem.mp m; exact nb _ _ m, h.nd⟩
  · by_cases eb : b1 = b
    · subst eb
      by_cases ef : f1 = f
      · subst ef
        exact ⟨fun _ k hk z1 z2 => (adj k hk z1 z2).elim, fun _ => ⟨false, List.mem_cons_self ..⟩⟩
      · have lf : f < f1 := by
          rcases Nat.lt_trichotomy f f1 with z | z | z
          · exact z
          · exact absurd z.symm ef
          · exact (adj f1 hf1 l z).elim
        constructor
        · rintro ⟨s, m⟩
          rcases List.mem_cons.mp m with e | m
          · cases e; exact absurd rfl ef
          · exact (nb _ _ m).elim
        · intro q
          exact ((q f hf bf lf).2 (List.mem_cons_self ..)).elim
    · have nf : f1 ≠ b := fun e => by rw [e] at k2; exact bad h1 k2
      have e := h.has b1 f1 ((hS _).mpr ⟨hb1, eb⟩) ((hS _).mpr ⟨hf1, nf⟩) l k1 k2
      have i1 : ∀ x s, (b1, x, s) ∈ (b, f, false) :: R ↔ (b1, x, s) ∈ R := fun x s => by
        constructor
        · intro m
          rcases List.mem_cons.mp m with e | m
          · cases e; exact absurd rfl eb
          · exact m
        · exact List.mem_cons_of_mem _
      have i2 : ∀ k, (k, f1, true) ∈ (b, f, false) :: R ↔ (k, f1, true) ∈ R := fun k => by
        constructor
        · intro m
          rcases List.mem_cons.mp m with e | m
          · cases e
          · exact m
        · exact List.mem_cons_of_mem _
      constructor
      · rintro ⟨s, m⟩ k hk z1 z2
        rw [i1, i2]
        by_cases ek : k = b
        · subst ek
          refine ⟨nb _ _, fun z => ?_⟩
          exact bad h1 (h.inn _ _ _ z).2.2.2.2
        · exact e.mp ⟨s, (i1 _ _).mp m⟩ k ((hS _).mpr ⟨hk, ek⟩) z1 z2
      · intro q
        obtain ⟨s, m⟩ := e.mpr fun k hk z1 z2 => by
          have := q k ((hS _).mp hk).1 z1 z2
          rw [i1, i2] at this
          exact this
        exact ⟨s, (i1 _ _).mpr m⟩
/-! ### which cells have a sign -/
theorem one_o {bs : List Bool} {S : List Nat} {R : List T3} (h : Heaped bs S R) {b1 b2 f : Nat} (m1 : (b1, f, true) ∈ R) (m2 : (b2, f, true) ∈ R) : b1 = b2 := by
  have go : ∀ {x y : Nat}, (x, f, true) ∈ R → (y, f, true) ∈ R → ¬ x < y := fun {x y} mx my l => by
    obtain ⟨a, b, c, d, e⟩ := h.inn _ _ _ mx
    obtain ⟨a', b', c', d', e'⟩ := h.inn _ _ _ my
    exact ((h.has x f a b c d e).mp ⟨_, mx⟩ y a' l c').1 my
  have := go m1 m2
  have := go m2 m1
  omega
theorem one_dot {bs : List Bool} {S : List Nat} {R : List T3} (h : Heaped bs S R) {b f1 f2 : Nat} (m1 : (b, f1, false) ∈ R) (m2 : (b, f2, false) ∈ R) : f1 = f2 := by
  have go : ∀ {x y : Nat}, (b, x, false) ∈ R → (b, y, false) ∈ R → ¬ x < y := fun {x y} mx my l => by
    obtain ⟨a, c, d, e, g⟩ := h.inn _ _ _ mx
    obtain ⟨a', c', d', e', g'⟩ := h.inn _ _ _ my
    exact ((h.has b y a' c' d' e' g').mp ⟨_, my⟩ x c d l).2 mx
  have := go m1 m2
  have := go m2 m1
  omega
/-- a cell has a sign just where no nearer one uses the bead or the free place up -/
theorem signed_iff {bs : List Bool} {S : List Nat} {R : List T3} (h : Heaped bs S R) {b f : Nat} (hb : b ∈ S) (hf : f ∈ S) (l : b < f) (h1 : bs[b]? = some true) (h2 : bs[f]? = some false) :
    (∃ s, (b, f, s) ∈ R) ↔ (∀ k, (k, f, true) ∈ R → k ≤ b) ∧ (∀ k, (b, k, false) ∈ R → f ≤ k) := by
  rw [h.has b f hb hf l h1 h2]
  constructor
  · intro q
    refine ⟨fun k m => ?_, fun k m => ?_⟩
    · obtain ⟨a, _, c, _⟩ := h.inn _ _ _ m
      by_cases z : k ≤ b
      · exact z
      · exact ((q k a (by omega) c).1 m).elim
    · obtain ⟨_, a, c, _⟩ := h.inn _ _ _ m
      by_cases z : f ≤ k
      · exact z
      · exact ((q k a c (by omega)).2 m).elim
  · rintro ⟨q1, q2⟩ k hk z1 z2
    exact ⟨fun m => by have := q1 k m; omega, fun m => by have := q2 k m; omega⟩
/-- what is left: free places ahead of beads -/
theorem left_apart {bs : List Bool} {S : List Nat} {R : List T3} (h : Heaped bs S R) {b f : Nat} (hb : b ∈ S) (hf : f ∈ S) (h1 : bs[b]? = some true) (h2 : bs[f]? = some false) (lb : ∀ k, (b, k, false) ∉ R) (lf : ∀ k, (k, f, true) ∉ R) : f < b := by
  rcases Nat.lt_trichotomy f b with z | z | z
  · exact z
  · rw [z] at h2; exact (bad h1 h2).elim
  · obtain ⟨s, m⟩ := (signed_iff h hb hf z h1 h2).mpr ⟨fun k m => (lf k m).elim, fun k m => (lb k m).elim⟩
    cases s with
    | true => exact (lf _ m).elim
    | false => exact (lb _ m).elim
/-! ### sorted lists with the same members are one -/
theorem same_sorted {α : Type} {lt : α → α → Prop} (irr : ∀ x, ¬ lt x x) (asym : ∀ x y, lt x y → lt y x → False) : ∀ {l m : List α}, l.Pairwise lt → m.Pairwise lt → (∀ x, x ∈ l ↔ x ∈ m) → l = m
  | [], [], _, _, _ => rfl
  | [], y :: m, _, _, h => absurd ((h y).mpr (List.mem_cons_self ..)) (by simp)
  | x :: l, [], _, _, h => absurd ((h x).mp (List.mem_cons_self ..)) (by simp)
  | x :: l, y :: m, hl, hm, h => by
    obtain ⟨hx, hl'⟩ := List.pairwise_cons.mp hl
    obtain ⟨hy, hm'⟩ := List.pairwise_cons.mp hm
    have e : x = y := by
      rcases List.mem_cons.mp ((h x).mp (List.mem_cons_self ..)) with e | e
      · exact e
      · rcases List.mem_cons.mp ((h y).mpr (List.mem_cons_self ..)) with e' | e'
        · exact e'.symm
        · exact (asym _ _ (hx _ e') (hy _ e)).elim
    subst e
    refine congrArg (x :: ·) (same_sorted irr asym hl' hm' fun z => ?_)
    constructor
    · intro mz
      rcases List.mem_cons.mp ((h z).mp (List.mem_cons_of_mem _ mz)) with e | e
      · subst e; exact (irr _ (hx _ mz)).elim
      · exact e
    · intro mz
      rcases List.mem_cons.mp ((h z).mpr (List.mem_cons_of_mem _ mz)) with e | e
      · subst e; exact (irr _ (hy _ mz)).elim
      · exact e
/-! ### the cells of a row, and those that are due -/
def beadsOf (bs : List Bool) : List Nat := (List.range bs.length).filter fun p => bs[p]? == some true
def freesOf (bs : List Bool) : List Nat := (List.range bs.length).filter fun p => bs[p]? == some false
def cellsN (bs : List Bool) : List (Nat × Nat) := (beadsOf bs).flatMap fun b => ((freesOf bs).filter fun f => decide (b < f)).map fun f => (b, f)
abbrev I3 := Int × Int × Bool
def ci (c : Nat × Nat) : Int × Int := ((c.1 : Int), (c.2 : Int))
def c3 (e : T3) : I3 := ((e.1 : Int), (e.2.1 : Int), e.2.2)
def pr3 (e : I3) : Int × Int := (e.1, e.2.1)
/-- the nearest bead of a free place: the last one of the list that uses it up -/
def nbI (ts : List I3) (f : Int) : Option Int := (ts.filter fun e => decide (e.2.1 = f) && e.2.2).getLast?.map (·.1)
/-- the nearest free place of a bead: the first one of the list that uses it up -/
def nfI (ts : List I3) (b : Int) : Option Int := (ts.filter fun e => decide (e.1 = b) && !e.2.2).head?.map (·.2.1)
def dueI (ts : List I3) (c : Nat × Nat) : Bool := decide ((nbI ts (c.2 : Int)).getD (c.1 : Int) ≤ (c.1 : Int)) && decide ((c.2 : Int) ≤ (nfI ts (c.1 : Int)).getD (c.2 : Int))
def dueCells (bs : List Bool) (ts : List I3) : List (Int × Int) := ((cellsN bs).filter (dueI ts)).map ci
def isHeapB (bs : List Bool) (ts : List I3) : Bool := decide (ts.map pr3 = dueCells bs ts)
theorem mem_beads {bs : List Bool} {p : Nat} : p ∈ beadsOf bs ↔ bs[p]? = some true := by
  unfold beadsOf
  rw [List.mem_filter, List.mem_range, beq_iff_eq]
  exact ⟨fun h => h.2, fun h => ⟨(List.getElem?_eq_some_iff.mp h).1, h⟩⟩
theorem mem_frees {bs : List Bool} {p : Nat} : p ∈ freesOf bs ↔ bs[p]? = some false := by
  unfold freesOf
  rw [List.mem_filter, List.mem_range, beq_iff_eq]
  exact ⟨fun h => h.2, fun h => ⟨(List.getElem?_eq_some_iff.mp h).1, h⟩⟩
theorem mem_cells {bs : List Bool} {b f : Nat} : (b, f) ∈ cellsN bs ↔ bs[b]? = some true ∧ bs[f]? = some false ∧ b < f := by
  unfold cellsN
  rw [List.mem_flatMap]
  constructor
  · rintro ⟨x, hx, m⟩
    obtain ⟨y, hy, e⟩ := List.mem_map.mp m
    cases e
    obtain ⟨h1, h2⟩ := List.mem_filter.mp hy
    exact ⟨mem_beads.mp hx, mem_frees.mp h1, of_decide_eq_true h2⟩
  · rintro ⟨h1, h2, h3⟩
    exact ⟨b, mem_beads.mpr h1, List.mem_map.mpr ⟨f, List.mem_filter.mpr ⟨mem_frees.mpr h2, decide_eq_true h3⟩, rfl⟩⟩
def ltN (a b : Nat × Nat) : Prop := a.1 < b.1 ∨ a.1 = b.1 ∧ a.2 < b.2
def ltP2 (a b : Int × Int) : Prop := a.1 < b.1 ∨ a.1 = b.1 ∧ a.2 < b.2
theorem range_lt (n : Nat) : (List.range n).Pairwise (· < ·) := List.pairwise_lt_range
theorem flat_lt (g : Nat → List Nat) : ∀ l : List Nat, l.Pairwise (· < ·) → (∀ b, (g b).Pairwise (· < ·)) → (l.flatMap fun b => (g b).map fun f => (b, f)).Pairwise ltN
  | [], _, _ => by simp
  | b :: l, h, hg => by
    obtain ⟨h1, h2⟩ := List.pairwise_cons.mp h
    rw [List.flatMap_cons, List.pairwise_append]
    refine ⟨List.pairwise_map.mpr ((hg b).imp fun h => .inr ⟨rfl, h⟩), flat_lt g l h2 hg, ?_⟩
    intro x hx y hy
    obtain ⟨f, _, rfl⟩ := List.mem_map.mp hx
    obtain ⟨b', hb', m⟩ := List.mem_flatMap.mp hy
    obtain ⟨f', _, rfl⟩ := List.mem_map.mp m
    exact .inl (h1 _ hb')
theorem cells_sorted (bs : List Bool) : (cellsN bs).Pairwise ltN :=
  flat_lt (fun b => (freesOf bs).filter fun f => decide (b < f)) _ ((range_lt _).filter _) fun b => ((range_lt _).filter _).filter _
theorem due_sorted (bs : List Bool) (ts : List I3) : (dueCells bs ts).Pairwise ltP2 := by
  unfold dueCells
  refine List.pairwise_map.mpr (((cells_sorted bs).filter _).imp fun h => ?_)
  rcases h with h | ⟨h1, h2⟩
  · exact .inl (show _ < _ by show ((_ : Nat) : Int) < ((_ : Nat) : Int); omega)
  · exact .inr ⟨by show ((_ : Nat) : Int) = ((_ : Nat) : Int); omega, by show ((_ : Nat) : Int) < ((_ : Nat) : Int); omega⟩
theorem last_mem {α : Type} {l : List α} {x : α} (h : l.getLast? = some x) : x ∈ l := List.mem_of_getLast? h
theorem head_mem {α : Type} {l : List α} {x : α} (h : l.head? = some x) : x ∈ l := List.mem_of_head? h
/-- of a heap: due is what has a sign -/
theorem due_iff {bs : List Bool} {S : List Nat} {R : List T3} (h : Heaped bs S R) {ts : List I3} (p : ts.Perm (R.map c3)) {b f : Nat} (hb : b ∈ S) (hf : f ∈ S) (l : b < f) (h1 : bs[b]? = some true) (h2 : bs[f]? = some false) : dueI ts (b, f) = true ↔ ∃ s, (b, f, s) ∈ R := by
  have mem : ∀ x y s, ((x, y, s) : I3) ∈ ts ↔ ∃ x' y' : Nat, x = x' ∧ y = y' ∧ (x', y', s) ∈ R := fun x y s => by
    rw [p.mem_iff, List.mem_map]
    constructor
    · rintro ⟨⟨x', y', s'⟩, m, e⟩
      cases e
      exact ⟨x', y', rfl, rfl, m⟩
    · rintro ⟨x', y', rfl, rfl, m⟩
      exact ⟨_, m, rfl⟩
  rw [signed_iff h hb hf l h1 h2]
  unfold dueI
  rw [Bool.and_eq_true, decide_eq_true_eq, decide_eq_true_eq]
  have a : ((nbI ts (f : Int)).getD (b : Int) ≤ (b : Int)) ↔ ∀ k, (k, f, true) ∈ R → k ≤ b := by
    unfold nbI
    cases e : (ts.filter fun e => decide (e.2.1 = (f : Int)) && e.2.2).getLast? with
    | none =>
      have em := List.getLast?_eq_none_iff.mp e
      refine ⟨fun _ k m => ?_, fun _ => Int.le_refl _⟩
      have : ((k : Int), (f : Int), true) ∈ ts.filter fun e => decide (e.2.1 = (f : Int)) && e.2.2 := List.mem_filter.mpr ⟨(mem _ _ _).mpr ⟨k, f, rfl, rfl, m⟩, by simp⟩
      rw [em] at this
      exact absurd this (by simp)
    | some x =>
      obtain ⟨m, q⟩ := List.mem_filter.mp (last_mem e)
      obtain ⟨x1, x2, x3⟩ := x
      have q1 : x2 = (f : Int) ∧ x3 = true := by simpa using q
      obtain ⟨rfl, rfl⟩ := q1
      obtain ⟨k0, f0, rfl, e2, m0⟩ := (mem _ _ _).mp m
      have : f0 = f := by omega
      subst this
      show ((k0 : Nat) : Int) ≤ (b : Int) ↔ _
      constructor
      · intro le k mk
        rw [one_o h mk m0]
        omega
      · intro q
        have := q _ m0
        omega
  have c : ((f : Int) ≤ (nfI ts (b : Int)).getD (f : Int)) ↔ ∀ k, (b, k, false) ∈ R → f ≤ k := by
    unfold nfI
    cases e : (ts.filter fun e => decide (e.1 = (b : Int)) && !e.2.2).head? with
    | none =>
      have em := List.head?_eq_none_iff.mp e
      refine ⟨fun _ k m => ?_, fun _ => Int.le_refl _⟩
      have : ((b : Int), (k : Int), false) ∈ ts.filter fun e => decide (e.1 = (b : Int)) && !e.2.2 := List.mem_filter.mpr ⟨(mem _ _ _).mpr ⟨b, k, rfl, rfl, m⟩, by simp⟩
      rw [em] at this
      exact absurd this (by simp)
    | some x =>
      obtain ⟨m, q⟩ := List.mem_filter.mp (head_mem e)
      obtain ⟨x1, x2, x3⟩ := x
      have q1 : x1 = (b : Int) ∧ x3 = false := by simpa using q
      obtain ⟨rfl, rfl⟩ := q1
      obtain ⟨b0, k0, e1, rfl, m0⟩ := (mem _ _ _).mp m
      have : b0 = b := by omega
      subst this
      show (f : Int) ≤ ((k0 : Nat) : Int) ↔ _
      constructor
      · intro le k mk
        rw [one_dot h mk m0]
        omega
      · intro q
        have := q _ m0
        omega
  rw [a, c]
/-- a heap, sorted, is what the program lets by -/
theorem heap_ok {bs : List Bool} {R : List T3} (h : Heaped bs (List.range bs.length) R) {ts : List I3} (p : ts.Perm (R.map c3)) (so : (ts.map pr3).Pairwise ltP2) : ts.map pr3 = dueCells bs ts := by
  refine same_sorted (lt := ltP2) (fun x h => ?_) (fun x y h1 h2 => ?_) so (due_sorted bs ts) fun ⟨x, y⟩ => ?_
  · unfold ltP2 at h; omega
  · unfold ltP2 at h1 h2; omega
  · unfold dueCells
    rw [List.mem_map, List.mem_map]
    constructor
    · rintro ⟨e, m, q⟩
      obtain ⟨⟨b, f, s⟩, mR, rfl⟩ := List.mem_map.mp (p.mem_iff.mp m)
      cases q
      obtain ⟨hb, hf, l, h1, h2⟩ := h.inn _ _ _ mR
      exact ⟨(b, f), List.mem_filter.mpr ⟨mem_cells.mpr ⟨h1, h2, l⟩, (due_iff h p hb hf l h1 h2).mpr ⟨s, mR⟩⟩, rfl⟩
    · rintro ⟨⟨b, f⟩, m, q⟩
      cases q
      obtain ⟨mc, md⟩ := List.mem_filter.mp m
      obtain ⟨h1, h2, l⟩ := mem_cells.mp mc
      obtain ⟨s, mR⟩ := (due_iff h p (List.mem_range.mpr (List.getElem?_eq_some_iff.mp h1).1) (List.mem_range.mpr (List.getElem?_eq_some_iff.mp h2).1) l h1 h2).mp md
      exact ⟨c3 (b, f, s), p.mem_iff.mpr (List.mem_map.mpr ⟨_, mR, rfl⟩), rfl⟩
/-- sorted by all three, no cell twice: sorted by cells -/
theorem pairs_lt {R : List T3} (nd : (R.map fun e => (e.1, e.2.1)).Nodup) {ts : List I3} (p : ts.Perm (R.map c3)) (so : ts.Pairwise fun x y => ¬ ltP2 (pr3 y) (pr3 x)) : (ts.map pr3).Pairwise ltP2 := by
  have nd2 : (ts.map pr3).Nodup := by
    rw [(p.map pr3).nodup_iff, List.map_map, show pr3 ∘ c3 = ci ∘ (fun e : T3 => (e.1, e.2.1)) from rfl, ← List.map_map]
    refine List.Pairwise.map _ ?_ nd
    rintro ⟨a, b⟩ ⟨a', b'⟩ ne e
    unfold ci at e
    injection e with e1 e2
    have e1 : (a : Int) = (a' : Int) := e1
    have e2 : (b : Int) = (b' : Int) := e2
    exact ne (by rw [Int.ofNat.inj e1, Int.ofNat.inj e2])
  have so2 : (ts.map pr3).Pairwise fun x y => ¬ ltP2 y x := List.pairwise_map.mpr so
  refine (List.Pairwise.and nd2 so2).imp ?_
  rintro ⟨a, b⟩ ⟨a', b'⟩ ⟨ne, n⟩
  unfold ltP2 at n ⊢
  have n' : ¬ (a' < a ∨ a' = a ∧ b' < b) := n
  show a < a' ∨ a = a' ∧ b < b'
  rcases Int.lt_trichotomy a a' with z | z | z
  · exact .inl z
  · subst z
    rcases Int.lt_trichotomy b b' with z | z | z
    · exact .inr ⟨rfl, z⟩
    · subst z; exact absurd rfl ne
    · exact absurd (.inr ⟨rfl, z⟩) n'
  · exact absurd (.inl z) n'
end HopH

set_option Elab.async false
set_option linter.all false
set_option maxRecDepth 100000
namespace HopT
open PySem PySem.Spec PyProof.Rows L2
/-! ### sorted(tuples of ints and texts, alike in their kinds): in order, however many -/
def ltK : Key → Key → Bool
  | .inl x, .inl y => decide (x < y)
  | .inr s, .inr t => decide (s.cps.toList < t.cps.toList)
  | .inl _, .inr _ => true
  | .inr _, .inl _ => false
def lexK : List Key → List Key → Bool
  | [], [] => false
  | [], _ :: _ => true
  | _ :: _, [] => false
  | a :: l, b :: m => if a = b then lexK l m else ltK a b
theorem str_ext {s t : Str} (h : s.cps.toList = t.cps.toList) : s = t := by
  cases s; cases t
  exact congrArg Str.mk (Array.toList_inj.mp h)
theorem ltK_irr (a : Key) : ltK a a = false := by
  cases a with
  | inl x => exact decide_eq_false (Int.lt_irrefl _)
  | inr s => exact decide_eq_false (List.lt_irrefl _)
theorem ltK_asym (a b : Key) (h : ltK a b = true) : ltK b a = false := by
  cases a <;> cases b
  · exact decide_eq_false (by have := of_decide_eq_true h; omega)
  · rfl
  · cases h
  · exact decide_eq_false (fun z => List.lt_asymm (of_decide_eq_true h) z)
theorem ltK_tri (a b : Key) (h1 : ltK a b = false) (h2 : ltK b a = false) : a = b := by
  cases a <;> cases b
  · have := of_decide_eq_false h1; have := of_decide_eq_false h2; congr 1; omega
  · cases h1
  · cases h2
  · exact congrArg Sum.inr (str_ext (List.le_antisymm (of_decide_eq_false h2) (of_decide_eq_false h1)))
theorem ltK_tr (a b c : Key) (h1 : ltK b a = false) (h2 : ltK c b = false) : ltK c a = false := by
  cases a <;> cases b <;> cases c <;> first | cases h1; done | cases h2; done | rfl | skip
  · exact decide_eq_false (by have := of_decide_eq_false h1; have := of_decide_eq_false h2; omega)
  · exact decide_eq_false (List.le_trans (of_decide_eq_false h1) (of_decide_eq_false h2))
theorem lexK_asym : ∀ l m : List Key, lexK l m = true → lexK m l = false
  | [], [], h => by cases h
  | [], _ :: _, _ => rfl
  | _ :: _, [], h => by cases h
  | a :: l, b :: m, h => by
    unfold lexK at h ⊢
    by_cases e : a = b
    · rw [if_pos e] at h; rw [if_pos e.symm]; exact lexK_asym l m h
    · rw [if_neg e] at h; rw [if_neg (Ne.symm e)]; exact ltK_asym _ _ h
theorem lexK_tr : ∀ l m k : List Key, lexK m l = false → lexK k m = false → lexK k l = false
  | [], [], k, _, h => h
  | [], _ :: _, [], _, h => by cases h
  | [], _ :: _, _ :: _, _, _ => rfl
  | _ :: _, [], _, h, _ => by cases h
  | _ :: _, _ :: _, [], _, h => by cases h
  | a :: l, b :: m, c :: k, h1, h2 => by
    unfold lexK at h1 h2 ⊢
    by_cases e1 : b = a
    · subst e1
      rw [if_pos rfl] at h1
      by_cases e2 : c = b
      · rw [if_pos e2] at h2 ⊢; exact lexK_tr l m k h1 h2
      · rw [if_neg e2] at h2 ⊢; exact h2
    · rw [if_neg e1] at h1
      by_cases e2 : c = b
      · subst e2; rw [if_neg e1]; exact h1
      · rw [if_neg e2] at h2
        have h3 := ltK_tr _ _ _ h1 h2
        by_cases e3 : c = a
        · subst e3
          exact absurd (ltK_tri _ _ h2 h1) (fun z => e2 z)
        · rw [if_neg e3]; exact h3
theorem swo_lexK {α : Type} (k : α → List Key) : SrtO.Swo fun x y => lexK (k x) (k y) := ⟨fun x y => lexK_asym _ _, fun x y z => lexK_tr _ _ _⟩
def kindK : Key → Bool
  | .inl _ => true
  | .inr _ => false
section
variable {prog : Program} {w : World} {A : Around} {E : Value → Shared → Prop} {s : Shared}
def KeysAre (ks : List Key) (us : List Value) : Prop := Vals (ks.map kV) us
theorem lex_run {b : Bool} : ∀ {ks ms : List Key} {us vs : List Value} (i : Nat), KeysAre ks us → KeysAre ms vs → ks.map kindK = ms.map kindK → ∀ Q : Bool → Shared → Prop, Q (lexK ks ms) s → PySem.W.KatLex prog w A b false Q (us.zip vs) i s
  | [], [], _, _, _, .nil, .nil, _, _, q => PySem.W.kat_nil q
  | [], _ :: _, _, _, _, _, _, h, _, _ => by simp at h
  | _ :: _, [], _, _, _, _, _, h, _, _ => by simp at h
  | .inl x :: ks, .inr y :: ms, _, _, _, _, _, h, _, _ => by simp [kindK] at h
  | .inr x :: ks, .inl y :: ms, _, _, _, _, _, h, _, _ => by simp [kindK] at h
  | .inl x :: ks, .inl y :: ms, _, _, i, .cons r1 t1, .cons r2 t2, h, Q, q => by
    obtain ⟨t, rfl⟩ := r1
    obtain ⟨u, rfl⟩ := r2
    have h' : ks.map kindK = ms.map kindK := (List.cons.inj h).2
    unfold lexK at q
    refine PySem.W.kat_cons (SeqAt.EqAt.int_int x t y u prog w _ _ (PySem.W.kat_go (fun e1 => ?_) (fun e1 => ?_)))
    · have e : x = y := by simpa using e1
      rw [if_pos (congrArg Sum.inl e)] at q
      exact PySem.W.kat_yes (lex_run (i + 1) t1 t2 h' Q q)
    · have e : ¬ x = y := by simpa using e1
      rw [if_neg (fun z => e (Sum.inl.inj z))] at q
      exact PySem.W.kat_no (oneLt_any_int q)
  | .inr x :: ks, .inr y :: ms, _, _, i, .cons r1 t1, .cons r2 t2, h, Q, q => by
    obtain ⟨t, rfl⟩ := r1
    obtain ⟨u, rfl⟩ := r2
    have h' : ks.map kindK = ms.map kindK := (List.cons.inj h).2
    unfold lexK at q
    refine PySem.W.kat_cons (SeqAt.EqAt.str_str x t y u prog w _ _ (PySem.W.kat_go (fun e1 => ?_) (fun e1 => ?_)))
    · have e : x = y := by simpa using e1
      rw [if_pos (congrArg Sum.inr e)] at q
      exact PySem.W.kat_yes (lex_run (i + 1) t1 t2 h' Q q)
    · have e : ¬ x = y := by simpa using e1
      rw [if_neg (fun z => e (Sum.inr.inj z))] at q
      exact PySem.W.kat_no (oneLt_any_str q)
/-- at v a tuple of the keys ks -/
def TupK (h : Heap) (v : Value) (ks : List Key) : Prop := ∃ a o us n, v = .ref a ∧ h.get? a = some o ∧ o.cls = .type "tuple" ∧ o.data = .seq us.toArray n ∧ KeysAre ks us
theorem TupK.keeps {h h' : Heap} {v : Value} {ks : List Key} (x : TupK h v ks) (k : ∀ b o, h.get? b = some o → o.cls = .type "tuple" → h'.get? b = some o) : TupK h' v ks := by
  obtain ⟨a, o, us, n, e, g, c, r⟩ := x
  exact ⟨a, o, us, n, e, k _ _ g c, c, r⟩
theorem tup_heads {h : Heap} {k : Value → List Key} {c : Bool} {κs : List Bool} : ∀ vs : List Value, (∀ v ∈ vs, TupK h v (k v) ∧ (k v).map kindK = c :: κs) → ∃ fs : List Value, PySem.W.KatTups h vs fs ∧ fs.length = vs.length ∧ ∀ f ∈ fs, if c then ∃ i t, f = .int i t else ∃ x t, f = .str x t
  | [], _ => ⟨[], .nil, rfl, by simp⟩
  | v :: vs, hv => by
    obtain ⟨fs, kt, l, z⟩ := tup_heads vs (fun u m => hv u (List.mem_cons_of_mem _ m))
    obtain ⟨⟨a, o, us, n, e, g, cl, d, ka⟩, hk⟩ := hv v (List.mem_cons_self ..)
    generalize k v = kv at hk ka
    cases kv with
    | nil => simp at hk
    | cons x ks =>
      obtain ⟨f, us', rfl, r, t⟩ : ∃ f us', us = f :: us' ∧ RelV (kV x) f ∧ Vals (ks.map kV) us' := by
        cases ka with
        | cons r t => exact ⟨_, _, rfl, r, t⟩
      refine ⟨f :: fs, ?_, by simp [l], ?_⟩
      · rw [e]; exact .cons g cl d (by simp) kt
      · intro y m
        rcases List.mem_cons.mp m with rfl | m
        · have hx : kindK x = c := (List.cons.inj hk).1
          cases x with
          | inl i => obtain ⟨t, e⟩ := r; have : c = true := hx.symm; rw [this]; exact ⟨i, t, e⟩
          | inr i => obtain ⟨t, e⟩ := r; have : c = false := hx.symm; rw [this]; exact ⟨i, t, e⟩
        · exact z y m
theorem tups_sortable {a : Addr} {vs : List Value} {k : Value → List Key} {c : Bool} {κs : List Bool} (h0 : 0 < vs.length) (hp : ∀ v ∈ vs, TupK s.heap v (k v) ∧ (k v).map kindK = c :: κs) (ha : ∀ o, s.heap.get? a = some o → o.cls ≠ .type "tuple") : SrtO.SortableO prog w A s a vs fun v u => lexK (k v) (k u) := by
  intro h' keep
  have hp' : ∀ v ∈ vs, TupK h' v (k v) ∧ (k v).map kindK = c :: κs := fun v hm => ⟨(hp v hm).1.keeps fun b o e cl => keep b o (fun z => by subst z; exact ha o e cl) e, (hp v hm).2⟩
  obtain ⟨fs, h1, h2, h3⟩ := tup_heads vs hp'
  refine ⟨tuples' true, fun Q E hq => ?_, ?_⟩
  · cases c with
    | true =>
      have nt : (Value.type "int" != Value.type "tuple") = true := by first | decide +kernel | rfl
      refine PySem.W.kat_kind (T := .type "int") h1 (by omega) (fun f hm => ?_) (by rfl) (nt ▸ hq)
      obtain ⟨x, t, rfl⟩ := h3 f hm
      exact PySem.W.Looks.now
    | false =>
      have nt : (Value.type "str" != Value.type "tuple") = true := by first | decide +kernel | rfl
      refine PySem.W.kat_kind (T := .type "str") h1 (by omega) (fun f hm => ?_) (by rfl) (nt ▸ hq)
      obtain ⟨x, t, rfl⟩ := h3 f hm
      exact PySem.W.Looks.now
  · intro p q hm hm'
    obtain ⟨⟨a1, o1, us1, n1, e1, g1, c1, d1, k1⟩, z1⟩ := hp' _ hm
    obtain ⟨⟨a2, o2, us2, n2, e2, g2, c2, d2, k2⟩, z2⟩ := hp' _ hm'
    show wpAny (model prog w) A (keyLt' (tuples' true) p.1 q.1) (fun r s' => s' = _ ∧ r = lexK (k p.1) (k q.1)) (fun _ _ => False) _
    rw [show keyLt' (tuples' true) p.1 q.1 = keyLt' (tuples' true) (.ref a1) (.ref a2) by rw [e1, e2]]
    refine PySem.W.kat_lt g1 d1 g2 d2 ?_
    have len : us1.length = us2.length := by
      have l1 := Vals.length k1
      have l2 := Vals.length k2
      have l3 := congrArg List.length (z1.trans z2.symm)
      rw [List.length_map] at l1 l2
      rw [List.length_map, List.length_map] at l3
      omega
    have ef : decide (us1.toArray.size < us2.toArray.size) = false := by
      rw [List.size_toArray, List.size_toArray]
      exact decide_eq_false (by omega)
    rw [ef]
    exact lex_run 0 k1 k2 (z1.trans z2.symm) _ ⟨rfl, rfl⟩
end
abbrev ltV (k : V → List Key) (x y : V) : Bool := lexK (k x) (k y)
/-- sorted(xs), xs a list of tuples of ints and texts, alike in their kinds -/
def rSortedTK (K : PySem.W.Frag) : List V → Hp → VK → Prop := fun vs H Q => ∃ (a : Addr) (xs : List V) (k : V → List Key) (c : Bool) (κs : List Bool), vs = [V.ref a] ∧ SqL K H a xs ∧ (∀ x ∈ xs, ∃ t, x = V.ref t ∧ H t = some (.tup ((k x).map kV)) ∧ (k x).map kindK = c :: κs) ∧
  ∀ ys p, SrtO.Srtd (ltV k) ys → ys.Perm xs → H p = none → Q (.ref p) (upd H p (.lst ys))
theorem cr_sortedTK {X : Cx} : CallR X (.builtin "sorted") (rSortedTK X.K) := by
  intro pins s σ H vs us Q I r h
  obtain ⟨a, xs, k, c, κs, rfl, hs, hx, q⟩ := h
  obtain ⟨its, rv, hl, hz⟩ := I.list hs
  rw [Vals.ref1 r]
  obtain ⟨e1, e2⟩ := refs_back rv fun x m => by
    obtain ⟨t, e, _⟩ := hx x m
    exact ⟨t, e⟩
  have tk : ∀ v ∈ its, TupK s.heap v (k (backV v)) ∧ (k (backV v)).map kindK = c :: κs := fun v hv => by
    obtain ⟨t, rfl⟩ := e2 v hv
    have hm : V.ref t ∈ xs := by rw [e1]; exact List.mem_map.mpr ⟨_, hv, rfl⟩
    obtain ⟨t', e, ht, hk⟩ := hx _ hm
    cases e
    obtain ⟨_, its2, r2, o, ho, hc, n, hd⟩ := I.hok _ _ ht
    exact ⟨⟨t, o, its2, n, rfl, ho, hc, hd, r2⟩, hk⟩
  refine SrtO.sorted_ord (swo_lexK fun v => k (backV v)) hl.isList (by rw [← rv.length]; exact hz) (fun h2 h₁ b hb kk => ?_) fun out hso hst => ?_
  · refine tups_sortable (s := { s with heap := h₁ }) (by omega) (fun v hm => ⟨(tk v hm).1.keeps fun b o e _ => (kk b o e).2, (tk v hm).2⟩) fun o e => ?_
    obtain rfl := Option.some.inj (e.symm.trans hb)
    exact fun c => absurd (Value.type.inj c) (by decide)
  · have h3 : ∀ u ∈ out, ∃ a, u = Value.ref a := fun u hu => e2 u (hst.perm.mem_iff.mp hu)
    have pm : (out.map backV).Perm xs := by rw [e1]; exact hst.perm.map backV
    obtain ⟨n, hn⟩ := sortedAll_at s.heap its out.toArray
    refine ⟨.ref _, upd H (s.heap.objs.size + 1) (.lst (out.map backV)), I.laid (t' := s.toks) (fun _ _ => sortedAll_old) (Nat.le_succ _) ⟨?_, out, n, vals_back h3, hn⟩, rfl, q _ _ (SrtO.srtd_map hso) pm (I.hok.fresh (Nat.le_succ _))⟩
    rw [pm.length_eq]
    exact hz
end HopT

set_option Elab.async false
set_option linter.all false
set_option maxRecDepth 100000
namespace HopH
open PySem PySem.Spec PyProof.Rows L2 HopR HopT
/-! ### lists of pairs and of triples in the machine -/
def t2v (c : Int × Int) : List V := [.int c.1, .int c.2]
def t3v (e : I3) : List V := [.int e.1, .int e.2.1, .str (tx [e.2.2])]
def k3 (e : I3) : List Key := [.inl e.1, .inl e.2.1, .inr (tx [e.2.2])]
/-- at p a list of new tuples -/
def TL {α : Type} (f : α → List V) (H : Hp) (p : Addr) (l : List α) : Prop := ∃ acc, H p = some (.lst acc) ∧ TupG H f l acc
theorem TL.same {α : Type} {f : α → List V} {H H' : Hp} {p : Addr} {l : List α} (s : Same H H') (h : TL f H p l) : TL f H' p l := let ⟨acc, e, g⟩ := h; ⟨acc, s _ _ e, tupG_same s g⟩
theorem tupG_item {α : Type} {H : Hp} {f : α → List V} : ∀ {as : List α} {vs : List V} {k : Nat} {x : V}, TupG H f as vs → vs[k]? = some x → ∃ a p, as[k]? = some a ∧ x = .ref p ∧ H p = some (.tup (f a))
  | [], _, k, x, h, e => by cases h; simp at e
  | a :: as, _, k, x, ⟨p, vr, ev, h1, h2⟩, e => by
    subst ev
    cases k with
    | zero => cases e; exact ⟨a, p, rfl, rfl, h1⟩
    | succ k => exact tupG_item (as := as) h2 e
theorem tupG_paired {α : Type} {H : Hp} {f : α → List V} : ∀ {as : List α} {vs : List V}, TupG H f as vs → Paired (fun v a => ∃ p, v = V.ref p ∧ H p = some (.tup (f a))) vs as
  | [], _, h => by cases h; exact .nil
  | a :: as, _, ⟨p, vr, ev, h1, h2⟩ => by subst ev; exact .cons ⟨p, rfl, h1⟩ (tupG_paired h2)
theorem tupG_back {α : Type} {H : Hp} {f : α → List V} : ∀ {as : List α} {vs : List V}, Paired (fun v a => ∃ p, v = V.ref p ∧ H p = some (.tup (f a))) vs as → TupG H f as vs
  | _, _, .nil => rfl
  | _, _, .cons ⟨p, e, h⟩ t => ⟨p, _, by rw [e], h, tupG_back t⟩
theorem paired_perm' {α β : Type} {R : α → β → Prop} {k l : List α} (p : k.Perm l) : ∀ {m : List β}, Paired R l m → ∃ m', m'.Perm m ∧ Paired R k m' := by
  induction p with
  | nil => exact fun h => ⟨_, .refl _, h⟩
  | cons x _ ih =>
    intro m h
    cases h with
    | cons r t =>
      obtain ⟨m', p', h'⟩ := ih t
      exact ⟨_, p'.cons _, .cons r h'⟩
  | swap x y l =>
    intro m h
    cases h with
    | cons r t =>
      cases t with
      | cons r' t => exact ⟨_, .swap _ _ _, .cons r' (.cons r t)⟩
  | trans _ _ ih1 ih2 =>
    intro m h
    obtain ⟨m1, p1, h1⟩ := ih2 h
    obtain ⟨m2, p2, h2⟩ := ih1 h1
    exact ⟨m2, p2.trans p1, h2⟩
theorem tupG_perm {α : Type} {H : Hp} {f : α → List V} {as : List α} {vs us : List V} (h : TupG H f as vs) (p : us.Perm vs) : ∃ bs, bs.Perm as ∧ TupG H f bs us := by
  obtain ⟨m, pm, h'⟩ := paired_perm' p (tupG_paired h)
  exact ⟨m, pm, tupG_back h'⟩
/-! ### sorted -/
def keyV? : V → Option Key
  | .int i => some (.inl i)
  | .str s => some (.inr s)
  | _ => none
def kOf (H : Hp) : V → List Key
  | .ref a => match H a with
    | some (.tup xs) => xs.filterMap keyV?
    | _ => []
  | _ => []
theorem keys_back : ∀ ks : List Key, (ks.map kV).filterMap keyV? = ks
  | [] => rfl
  | .inl i :: ks => by rw [List.map_cons]; show List.filterMap keyV? (V.int i :: _) = _; rw [List.filterMap_cons]; show _ :: _ = _; rw [keys_back ks]
  | .inr i :: ks => by rw [List.map_cons]; show List.filterMap keyV? (V.str i :: _) = _; rw [List.filterMap_cons]; show _ :: _ = _; rw [keys_back ks]
theorem kOf_at {H : Hp} {a : Addr} {ks : List Key} (e : H a = some (.tup (ks.map kV))) : kOf H (.ref a) = ks := by
  unfold kOf
  simp only [e]
  exact keys_back ks
theorem srtd_tup {α : Type} {H : Hp} {f : α → List V} {kf : α → List Key} (hf : ∀ a, f a = (kf a).map kV) : ∀ {as : List α} {vs : List V}, TupG H f as vs → SrtO.Srtd (ltV (kOf H)) vs → as.Pairwise fun x y => lexK (kf y) (kf x) = false
  | [], _, _, _ => .nil
  | a :: as, _, ⟨p, vr, ev, h1, h2⟩, h => by
    subst ev
    obtain ⟨h3, h4⟩ := List.pairwise_cons.mp h
    refine .cons (fun b mb => ?_) (srtd_tup hf h2 h4)
    obtain ⟨k, hk⟩ := List.mem_iff_getElem?.mp mb
    obtain ⟨q, e1, e2⟩ := tupG_at h2 hk
    have := h3 _ (List.mem_iff_getElem?.mpr ⟨k, e1⟩)
    unfold ltV at this
    rw [kOf_at (a := q) (ks := kf b) (by rw [e2, hf]), kOf_at (a := p) (ks := kf a) (by rw [h1, hf])] at this
    exact this
/-- sorted(xs), xs a list of tuples alike in their kinds, each told by an α -/
def rSortedA {α : Type} (f : α → List V) (kf : α → List Key) : List V → Hp → VK → Prop := fun vs H Q => ∃ (a : Addr) (l : List α), vs = [V.ref a] ∧ TL f H a l ∧
  ∀ l' p H', l'.Perm l → (l'.Pairwise fun x y => lexK (kf y) (kf x) = false) → Same H H' → H p = none → TL f H' p l' → Q (.ref p) H'
theorem cr_sortedA {X : Cx} {α : Type} {f : α → List V} {kf : α → List Key} (hf : ∀ a, f a = (kf a).map kV) {c : Bool} {κs : List Bool} (hk : ∀ a, (kf a).map kindK = c :: κs) : CallR X (.builtin "sorted") (rSortedA f kf) := by
  intro pins s σ H vs us Q I r h
  obtain ⟨a, l, rfl, ⟨acc, ea, g⟩, q⟩ := h
  refine cr_sortedTK pins s σ H _ us Q I r ⟨a, acc, kOf H, c, κs, rfl, SqL.of ea, fun x mx => ?_, fun ys p so pm np => ?_⟩
  · obtain ⟨i, hi⟩ := List.mem_iff_getElem?.mp mx
    obtain ⟨b, t, _, rfl, et⟩ := tupG_item g hi
    have e2 : H t = some (.tup ((kf b).map kV)) := by rw [et, hf]
    refine ⟨t, rfl, ?_, ?_⟩
    · rw [kOf_at e2]; exact e2
    · rw [kOf_at e2]; exact hk b
  · obtain ⟨bs, pb, gb⟩ := tupG_perm g pm
    exact q bs p _ pb (srtd_tup hf gb so) (same_upd np) np ⟨ys, upd_same, tupG_same (same_upd np) gb⟩
theorem t3v_key (e : I3) : t3v e = (k3 e).map kV := rfl
theorem cr_sorted3 {X : Cx} : CallR X (.builtin "sorted") (rSortedA t3v k3) := cr_sortedA (c := true) (κs := [true, false]) t3v_key fun _ => rfl
theorem lex3 {x y : I3} (h : lexK (k3 y) (k3 x) = false) : ¬ ltP2 (pr3 y) (pr3 x) := by
  intro l
  obtain ⟨x1, x2, x3⟩ := x
  obtain ⟨y1, y2, y3⟩ := y
  unfold ltP2 pr3 at l
  have l : y1 < x1 ∨ y1 = x1 ∧ y2 < x2 := l
  unfold k3 lexK at h
  by_cases e1 : y1 = x1
  · rw [if_pos (congrArg Sum.inl e1)] at h
    unfold lexK at h
    have h2 : y2 < x2 := by omega
    rw [if_neg (fun z => by have := Sum.inl.inj z; omega)] at h
    have := of_decide_eq_false h
    omega
  · rw [if_neg (fun z => e1 (Sum.inl.inj z))] at h
    have := of_decide_eq_false h
    omega
theorem sorted_pairs {R : List T3} (nd : (R.map fun e => (e.1, e.2.1)).Nodup) {ts : List I3} (p : ts.Perm (R.map c3)) (so : ts.Pairwise fun x y => lexK (k3 y) (k3 x) = false) : (ts.map pr3).Pairwise ltP2 := pairs_lt nd p (so.imp lex3)
/-! ### as data -/
def d2 (c : Int × Int) : PyData := .tuple [.int c.1, .int c.2]
def d3 (e : I3) : PyData := .tuple [.int e.1, .int e.2.1, .str (tx [e.2.2])]
theorem dp2 {K : PySem.W.Frag} {H : Hp} : ∀ {l : List (Int × Int)} {vs : List V}, TupG H t2v l vs → DpAll K H vs (l.map d2)
  | [], _, h => by cases h; exact .nil
  | e :: G, _, ⟨p, vr, ev, h1, h2⟩ => by
    rw [ev]
    exact .cons (.tup (SqT.of h1) (.cons (.int _) (.cons (.int _) .nil))) (dp2 h2)
theorem dp3 {K : PySem.W.Frag} {H : Hp} : ∀ {l : List I3} {vs : List V}, TupG H t3v l vs → DpAll K H vs (l.map d3)
  | [], _, h => by cases h; exact .nil
  | e :: G, _, ⟨p, vr, ev, h1, h2⟩ => by
    rw [ev]
    exact .cons (.tup (SqT.of h1) (.cons (.int _) (.cons (.int _) (.cons (.str _) .nil)))) (dp3 h2)
theorem tl_d2 {K : PySem.W.Frag} {H : Hp} {p : Addr} {l : List (Int × Int)} (h : TL t2v H p l) : Dp K H (.ref p) (.list (l.map d2)) := let ⟨_, e, g⟩ := h; .lst (SqL.of e) (dp2 g)
theorem tl_d3 {K : PySem.W.Frag} {H : Hp} {p : Addr} {l : List I3} (h : TL t3v H p l) : Dp K H (.ref p) (.list (l.map d3)) := let ⟨_, e, g⟩ := h; .lst (SqL.of e) (dp3 g)
theorem lay2 : ∀ l : List (Int × Int), PyData.canLayAll0 (l.map d2) = true
  | [] => rfl
  | e :: G => by
    rw [List.map_cons]
    unfold d2
    simp only [PyData.canLayAll0, PyData.canLay0, Bool.and_true]
    exact lay2 G
theorem deep2 : ∀ l : List (Int × Int), PyData.depthAll (l.map d2) ≤ 1
  | [] => Nat.zero_le _
  | e :: G => by
    rw [List.map_cons]
    have := deep2 G
    unfold d2 at this ⊢
    simp only [PyData.depthAll, PyData.depth]
    omega
theorem shaped2 (l : List (Int × Int)) : SeqAt.shaped (.list (l.map d2)) = true := by
  unfold SeqAt.shaped
  rw [Bool.and_eq_true]
  refine ⟨by simp only [PyData.canLay0, lay2], decide_eq_true ?_⟩
  have := deep2 l
  simp only [PyData.depth]
  omega
theorem lay3 : ∀ l : List I3, PyData.canLayAll0 (l.map d3) = true
  | [] => rfl
  | e :: G => by
    rw [List.map_cons]
    have ok : PyData.strOk (tx [e.2.2]) = true := by cases e.2.2 <;> decide +kernel
    have ih := lay3 G
    unfold d3 at ih ⊢
    simp only [PyData.canLayAll0, PyData.canLay0, Bool.and_true, ok, ih]
theorem deep3 : ∀ l : List I3, PyData.depthAll (l.map d3) ≤ 1
  | [] => Nat.zero_le _
  | e :: G => by
    rw [List.map_cons]
    have := deep3 G
    unfold d3 at this ⊢
    simp only [PyData.depthAll, PyData.depth]
    omega
theorem shaped3 (l : List I3) : SeqAt.shaped (.list (l.map d3)) = true := by
  unfold SeqAt.shaped
  rw [Bool.and_eq_true]
  refine ⟨by simp only [PyData.canLay0, lay3], decide_eq_true ?_⟩
  have := deep3 l
  simp only [PyData.depth]
  omega
theorem eqv2 (c c' : Int × Int) : PyData.eqv (d2 c) (d2 c') = decide (c = c') := by
  obtain ⟨a, b⟩ := c
  obtain ⟨a', b'⟩ := c'
  unfold d2
  simp only [PyData.eqv, PyData.eqvAll, Bool.and_true]
  by_cases h1 : a = a' <;> by_cases h2 : b = b' <;> simp [h1, h2]
theorem eqvL2 : ∀ l m : List (Int × Int), PyData.eqvAll (l.map d2) (m.map d2) = decide (l = m)
  | [], [] => rfl
  | [], _ :: _ => by simp [PyData.eqvAll]
  | _ :: _, [] => by simp [PyData.eqvAll]
  | x :: l, y :: m => by
    rw [List.map_cons, List.map_cons]
    simp only [PyData.eqvAll, eqv2, eqvL2 l m]
    by_cases h1 : x = y <;> by_cases h2 : l = m <;> simp [h1, h2]
theorem eqvT2 (l m : List (Int × Int)) : PyData.eqv (.list (l.map d2)) (.list (m.map d2)) = decide (l = m) := by
  rw [← eqvL2]
  simp only [PyData.eqv]
/-! ### the nearest ones, as the list is gone through -/
theorem nbI_snoc (ts : List I3) (e : I3) (f : Int) : nbI (ts ++ [e]) f = if e.2.1 = f ∧ e.2.2 = true then some e.1 else nbI ts f := by
  unfold nbI
  rw [List.filter_append]
  by_cases h : e.2.1 = f ∧ e.2.2 = true
  · rw [if_pos h, List.filter_cons_of_pos (by simp [h]), List.filter_nil, List.getLast?_concat]
    rfl
  · rw [if_neg h, List.filter_cons_of_neg (by simpa using h), List.filter_nil, List.append_nil]
theorem nfI_snoc (ts : List I3) (e : I3) (b : Int) : nfI (ts ++ [e]) b = match nfI ts b with | some x => some x | none => if e.1 = b ∧ e.2.2 = false then some e.2.1 else none := by
  unfold nfI
  rw [List.filter_append]
  cases h : ts.filter (fun e => decide (e.1 = b) && !e.2.2) with
  | cons x l => rfl
  | nil =>
    rw [List.nil_append]
    show _ = if e.1 = b ∧ e.2.2 = false then some e.2.1 else none
    by_cases h : e.1 = b ∧ e.2.2 = false
    · rw [if_pos h, List.filter_cons_of_pos (by simp [h])]; rfl
    · rw [if_neg h, List.filter_cons_of_neg (by simpa using h)]; rfl
theorem nbI_nil (f : Int) : nbI [] f = none := rfl
theorem nfI_nil (f : Int) : nfI [] f = none := rfl
/-! ### the places of beads, of free places, from the left -/
def plsTo (v : Bool) (bs : List Bool) (i : Nat) : List Nat := (List.range i).filter fun p => bs[p]? == some v
theorem plsTo_step {v b : Bool} {bs : List Bool} {i : Nat} (h : bs[i]? = some b) : plsTo v bs (i + 1) = plsTo v bs i ++ (if b = v then [i] else []) := by
  unfold plsTo
  rw [List.range_succ, List.filter_append]
  by_cases e : b = v
  · rw [if_pos e, List.filter_cons_of_pos (by rw [h, e]; simp), List.filter_nil]
  · rw [if_neg e, List.filter_cons_of_neg (by rw [h]; simpa using e), List.filter_nil]
theorem plsTo_len (v : Bool) (bs : List Bool) (i : Nat) : (plsTo v bs i).length ≤ i := by
  unfold plsTo
  exact Nat.le_trans (List.length_filter_le _ _) (by rw [List.length_range]; exact Nat.le_refl _)
/-! ### cells, row by row -/
def cellsTo (bs : List Bool) (B : List Nat) (F : List Nat) : List (Nat × Nat) := B.flatMap fun b => (F.filter fun f => decide (b < f)).map fun f => (b, f)
theorem cellsN_eq (bs : List Bool) : cellsN bs = cellsTo bs (plsTo true bs bs.length) (plsTo false bs bs.length) := rfl
end HopH

set_option Elab.async false
set_option linter.all false
set_option maxRecDepth 100000
namespace HopR
open PySem PySem.Spec PyProof.Rows L2
/-! ### f(e, .., k = v, ..) in a try whose wish may speak of the names' values -/
def tCallT (n m : Nat) (sp : Sp) (gV : List V → List V → List V) (E : L2.St → XK) (t tk : TA) : TE := fun σ H Q => t σ H fun vs H1 => tk σ H1 fun zs H2 => vs.length = n ∧ zs.length = m ∧ sp (gV vs zs) H2 Q (E σ)
section
variable {X : Cx} {CX : CXT} {k n : Nat} {f : Addr} {fd : FuncData} {ps ks : List Str} {sp : Sp} {E : L2.St → XK} {x : Str} {p pos : Pos} {e : Expr} {es : List Expr} {kws : List Keyword} {t tk : TA} {g : List Value → List Value → List Value} {gV : List V → List V → List V}
theorem pe_callT (G : FnOk X.prog X.w X.K X.mg X.base CX k f fd ps sp) (room : Room k X.A) (glob : Gl X x) (here : X.mg x = some (.ref f)) (kp : PySem.W.keepIn X.K (.ref f) = true) (b : KBn X.K fd ps n ks g gV) (hx : ∀ σ, PassesAt CX X σ (E σ))
    (args : PA X (e :: es) t) (kargs : PK X kws tk) (named : (backToKw pos (keywordEach kws X.env)).all (·.1.isSome) = true := by rfl) (names : (backToKw pos (keywordEach kws X.env)).filterMap (·.1) = ks := by rfl)
    (nodbg : (x == ("__debug__" : Str)) = false := by decide) (first : starEach (e :: es) X.env = (false, eval e X.env) :: starEach es X.env := by rfl)
    (plain : ((backTo pos (starEach (e :: es) X.env)).any (·.1) || (backToKw pos (keywordEach kws X.env)).any (·.1.isNone)) = false := by rfl) :
    PE X (.Call (.Name x p) (e :: es) kws pos) (tCallT n ks.length sp gV E t tk) := by
  constructor
  intro pins s0 σ H0 Q I0 h0
  refine wpAny_Call_Name_kw (ld_glob I0 glob here ?_ nodbg)
  refine PySem.W.callWith_KW (h₀ := X.base) I0.ok.mod.kin kp named (thn (args.run pos pins s0 σ H0 _ I0 h0) ?_) plain first
  rintro us s1 ⟨vs, H1, I1, r1, q1⟩
  refine thn (kargs.run pos pins s1 σ H1 _ I1 q1) ?_
  rintro ws s2 ⟨zs, H2, I2, r2, l1, l2, prom⟩
  refine ⟨I2.kIn, ?_⟩
  rw [names]
  have bound := b.to s2 us ws I2.kIn (r1.length ▸ l1) (r2.length ▸ l2)
  refine wpAny_call (codeAny_mono (G.run X.A X.stack s2 H2 ⟨us, ks.zip ws⟩ _ _ Q (E σ) room I2.env0 bound (b.rel r1 r2) prom) ?_)
  intro res s' z
  match res, z with
  | .error er, z => exact hx σ pins _ _ er s' I2 z
  | .ok (.ret _), z => exact I2.after z
  | .ok .next, z => exact z.elim
  | .ok .brk, z => exact z.elim
  | .ok .cont, z => exact z.elim
end
end HopR

set_option Elab.async false
set_option linter.all false
set_option maxRecDepth 100000
namespace HopH
open PySem PySem.Spec PyProof.Rows L2 HopR HopT TL
/-! ### a course: step by step from the other end -/
theorem lt_at {L : List Nat} (so : L.Pairwise (· < ·)) {i j a b : Nat} (hi : L[i]? = some a) (hj : L[j]? = some b) (l : i < j) : a < b := by
  obtain ⟨h1, e1⟩ := List.getElem?_eq_some_iff.mp hi
  obtain ⟨h2, e2⟩ := List.getElem?_eq_some_iff.mp hj
  subst e1 e2
  exact List.pairwise_iff_getElem.mp so i j h1 h2 l
theorem at_lt {L : List Nat} (so : L.Pairwise (· < ·)) {i j a b : Nat} (hi : L[i]? = some a) (hj : L[j]? = some b) (l : a < b) : i < j := by
  rcases Nat.lt_trichotomy i j with z | z | z
  · exact z
  · subst z; rw [hi] at hj; cases hj; omega
  · have := lt_at so hj hi z; omega
theorem mem_erase {L : List Nat} (so : L.Pairwise (· < ·)) {k a : Nat} (h : L[k]? = some a) (x : Nat) : x ∈ L.eraseIdx k ↔ x ∈ L ∧ x ≠ a := by
  rw [List.mem_eraseIdx_iff_getElem?]
  constructor
  · rintro ⟨i, ne, e⟩
    refine ⟨List.mem_of_getElem? e, fun z => ?_⟩
    subst z
    rcases Nat.lt_or_gt_of_ne ne with l | l
    · have := lt_at so e h l; omega
    · have := lt_at so h e l; omega
  · rintro ⟨m, ne⟩
    obtain ⟨i, e⟩ := List.mem_iff_getElem?.mp m
    exact ⟨i, fun z => by subst z; rw [h] at e; cases e; exact ne rfl, e⟩
theorem next_to {L : List Nat} (so : L.Pairwise (· < ·)) {k a b : Nat} (ha : L[k]? = some a) (hb : L[k + 1]? = some b) : ∀ x ∈ L, a < x → x < b → False := by
  intro x m l1 l2
  obtain ⟨i, e⟩ := List.mem_iff_getElem?.mp m
  have := at_lt so ha e l1
  have := at_lt so e hb l2
  omega
theorem step_heap {bs : List Bool} {S L : List Nat} {R : List T3} (so : L.Pairwise (· < ·)) {k b f : Nat} (hb : L[k]? = some b) (hf : L[k + 1]? = some f) (h1 : bs[b]? = some true) (h2 : bs[f]? = some false) (s : Bool)
    (good : ∀ R', Heaped bs L R' → Heaped bs S (R ++ R')) : ∀ R', Heaped bs (L.eraseIdx (if s then k + 1 else k)) R' → Heaped bs S ((R ++ [(b, f, s)]) ++ R') := by
  intro R' h
  have bf := lt_at so hb hf (Nat.lt_succ_self k)
  have adj := next_to so hb hf
  rw [List.append_assoc]
  apply good
  cases s with
  | true => exact heaped_free (List.mem_of_getElem? hb) (List.mem_of_getElem? hf) bf adj h1 h2 (mem_erase so hf) h
  | false => exact heaped_bead (List.mem_of_getElem? hb) (List.mem_of_getElem? hf) bf adj h1 h2 (mem_erase so hb) h
/-! ### where a bead stands before a free place -/
def bitL (bs : List Bool) (l : Nat) : Bool := (bs[l]?).getD false
def ofAt (w : List Bool) (i : Nat) : Bool := decide ((w.drop i).take 2 = [true, false])
def hasOf (w : List Bool) : Bool := (List.range (w.length - 1)).any (ofAt w)
def spotsL (w : List Bool) : List Nat := (List.range (w.length - 1)).filter (ofAt w)
theorem ofAt_iff {w : List Bool} {i : Nat} : ofAt w i = true ↔ w[i]? = some true ∧ w[i + 1]? = some false := by
  unfold ofAt
  rw [decide_eq_true_iff]
  constructor
  · intro h
    have e : ∀ j, j < 2 → w[i + j]? = ([true, false] : List Bool)[j]? := fun j hj => by
      rw [← h, List.getElem?_take_of_lt hj, List.getElem?_drop]
    exact ⟨e 0 (by decide), e 1 (by decide)⟩
  · rintro ⟨h1, h2⟩
    obtain ⟨l1, e1⟩ := List.getElem?_eq_some_iff.mp h1
    obtain ⟨l2, e2⟩ := List.getElem?_eq_some_iff.mp h2
    rw [List.drop_eq_getElem_cons l1, List.drop_eq_getElem_cons l2, e1, e2]
    rfl
theorem ofAt_lt {w : List Bool} {i : Nat} (h : ofAt w i = true) : i < w.length - 1 := by
  obtain ⟨_, h2⟩ := ofAt_iff.mp h
  obtain ⟨l2, _⟩ := List.getElem?_eq_some_iff.mp h2
  omega
theorem mem_spots {w : List Bool} {i : Nat} : i ∈ spotsL w ↔ ofAt w i = true := by
  unfold spotsL
  rw [List.mem_filter, List.mem_range]
  exact ⟨fun h => h.2, fun h => ⟨ofAt_lt h, h⟩⟩
theorem hasOf_spots {w : List Bool} (h : hasOf w = true) : spotsL w ≠ [] := by
  unfold hasOf at h
  obtain ⟨i, _, e⟩ := List.any_eq_true.mp h
  exact fun z => by have := mem_spots.mpr e; rw [z] at this; simp at this
theorem hasOf_no {w : List Bool} (h : hasOf w = false) (i : Nat) : ofAt w i = false := by
  cases e : ofAt w i with
  | false => rfl
  | true =>
    have : hasOf w = true := List.any_eq_true.mpr ⟨i, List.mem_range.mpr (ofAt_lt e), e⟩
    rw [h] at this
    cases this
theorem no_of {w : List Bool} (h : ∀ i, ofAt w i = false) {i j : Nat} (l : i < j) (h1 : w[i]? = some true) (h2 : w[j]? = some false) : False := by
  obtain ⟨a, b, e⟩ := no_pair w fun i z => by
    have := h i
    unfold ofAt at this
    exact of_decide_eq_false this z
  subst e
  have hj : j < a := by
    apply Nat.lt_of_not_le
    intro z
    rw [List.getElem?_append_right (by simpa using z)] at h2
    have := List.mem_of_getElem? h2
    simp at this
  rw [List.getElem?_append_left (by rw [List.length_replicate]; omega)] at h1
  have := List.mem_of_getElem? h1
  simp at this
theorem end_heap {bs : List Bool} {L : List Nat} (so : L.Pairwise (· < ·)) (h : ∀ i, ofAt (L.map (bitL bs)) i = false) : Heaped bs L [] := by
  refine heaped_nil fun b f hb hf l h1 h2 => ?_
  obtain ⟨i, ei⟩ := List.mem_iff_getElem?.mp hb
  obtain ⟨j, ej⟩ := List.mem_iff_getElem?.mp hf
  refine no_of h (at_lt so ei ej l) (i := i) (j := j) ?_ ?_
  · rw [List.getElem?_map, ei]; show some (bitL bs b) = _; unfold bitL; rw [h1]; rfl
  · rw [List.getElem?_map, ej]; show some (bitL bs f) = _; unfold bitL; rw [h2]; rfl
theorem in_of (w : List Bool) : (!(Builtin.Str.occurrences (tx w) "o." 0 (tx w).length 1).isEmpty) = hasOf w := by
  rw [of_tx]
  have iff : ∀ i, StrLaws.At (tx w) (tx [true, false]) (tx w).length i → ofAt w i = true := fun i h => by
    unfold ofAt
    exact decide_eq_true ((sub_tx w i).mp h.2)
  rcases StrLaws.occ_head (tx w) (tx [true, false]) 1 (Nat.le_refl _) with ⟨e, no⟩ | ⟨i, r, e, a, _⟩
  · rw [e]
    show false = _
    cases h : hasOf w with
    | false => rfl
    | true =>
      obtain ⟨i, _, z⟩ := List.any_eq_true.mp h
      refine absurd ⟨?_, (sub_tx w i).mpr (of_decide_eq_true z)⟩ (no i)
      have := ofAt_lt z
      rw [tx_len, tx_len]
      simp only [List.length_cons, List.length_nil]
      omega
  · rw [e]
    show true = _
    have z := iff i a
    exact (List.any_eq_true.mpr ⟨i, List.mem_range.mpr (ofAt_lt z), z⟩).symm
/-! ### a heap in the machine -/
def HeapL (bs : List Bool) (ts : List I3) : Prop := ∃ R, Heaped bs (List.range bs.length) R ∧ ts.Perm (R.map c3) ∧ (ts.map pr3).Pairwise ltP2 ∧ ts.length ≤ 1000
theorem HeapL.ok {bs : List Bool} {ts : List I3} (h : HeapL bs ts) : isHeapB bs ts = true := by
  obtain ⟨R, h1, p, so, _⟩ := h
  unfold isHeapB
  exact decide_eq_true (heap_ok h1 p so)
end HopH

set_option Elab.async false
set_option linter.all false
set_option maxRecDepth 100000
namespace HopT
open PySem PySem.Spec PyProof.Rows L2
/-! ### dict(xs) of a list of pairs whose first things are tuples -/
section
variable {prog : Program} {w : World} {A : Around} {E : Value → Shared → Prop}
abbrev tkd (prog : Program) (w : World) := tupleKind (mixKind prog w)
abbrev E3 := List L2.Key × Addr × Value
def fillH (acc : List E3) (more : List E3) : List E3 := more.foldl (fun a q => storedH a q.1 q.2.1 q.2.2) acc
theorem key_at {h h' : Heap} {ks : List L2.Key} {a : Addr} (x : (tkd prog w).is h ks a) (k : ∀ o, h.get? a = some o → h'.get? a = some o) : (tkd prog w).is h' ks a := by
  obtain ⟨o, its, m, h1, hr⟩ := (show IsTupleKey (mixKind prog w) h ks a from x)
  exact (show IsTupleKey (mixKind prog w) h' ks a from ⟨o, its, m, k _ h1, hr⟩)
theorem dict_at {h h' : Heap} {d : Addr} {xs : List E3} (x : h.DictOfH (tkd prog w) d xs) (kd : ∀ o, h.get? d = some o → h'.get? d = some o) (kk : ∀ y ∈ xs, (tkd prog w).is h' y.1 y.2.1) : h'.DictOfH (tkd prog w) d xs := by
  obtain ⟨o, es, ep, h1, h2, h3, h4, _, h5⟩ := x
  exact ⟨o, es, ep, kd _ h1, h2, h3, h4, kk, h5⟩
theorem stored_le (xs : List E3) (q : E3) : (storedH xs q.1 q.2.1 q.2.2).length ≤ xs.length + 1 := by
  unfold storedH
  by_cases z : (atKey xs q.1).isSome = true
  · rw [if_pos z, List.length_map]; omega
  · rw [if_neg z, List.length_append]; exact Nat.le_refl _
theorem stored_mem {xs : List E3} {q y : E3} (h : y ∈ storedH xs q.1 q.2.1 q.2.2) : y = q ∨ ∃ x ∈ xs, y.1 = x.1 ∧ y.2.1 = x.2.1 := by
  unfold storedH at h
  by_cases z : (atKey xs q.1).isSome = true
  · rw [if_pos z] at h
    obtain ⟨x, mx, e⟩ := List.mem_map.mp h
    refine .inr ⟨x, mx, ?_⟩
    subst e
    unfold putAt
    split
    · exact ⟨rfl, rfl⟩
    · exact ⟨rfl, rfl⟩
  · rw [if_neg z] at h
    rcases List.mem_append.mp h with h | h
    · exact .inr ⟨y, h, rfl, rfl⟩
    · exact .inl (List.mem_singleton.mp h)
/-- the old heap stands below S -/
def Below (S : Addr) (h0 h : Heap) : Prop := ∀ b o, b < S → h0.get? b = some o → h.get? b = some o
def KeyOf (prog : Program) (w : World) (S : Addr) (h0 : Heap) (y : E3) : Prop := y.2.1 < S ∧ (tkd prog w).is h0 y.1 y.2.1
theorem KeyOf.there {S : Addr} {h0 h : Heap} {y : E3} (k : KeyOf prog w S h0 y) (b : Below S h0 h) : (tkd prog w).is h y.1 y.2.1 := key_at k.2 fun o e => b _ _ k.1 e
theorem fill_loop {R : Result → Shared → Prop} {S J l : Addr} {items : Array Value} {res : Value} {h0 : Heap} (hh : A.handled = none) (hu : A.units + 1 < cLine) (hSJ : S < J) (hl0 : h0.IsList l items) (hlS : l < S) :
    ∀ (rest : List E3) (i : Nat) (acc : List E3) (ix : Int) (t : Tok) (s : Shared), items.size = i + rest.length → acc.length + rest.length ≤ sizeLine →
      (∀ (j : Nat) (q : E3), rest[j]? = some q → KeyOf prog w S h0 q ∧ ∃ b : Addr, items[i + j]? = some (.ref b) ∧ b < S ∧ IsTup h0 b #[.ref q.2.1, q.2.2]) →
      (∀ y ∈ acc, KeyOf prog w S h0 y) → Below S h0 s.heap → s.heap.IsListIter J l i → s.heap.DictOfH (tkd prog w) S acc →
      (∀ h' tk, h'.DictOfH (tkd prog w) S (fillH acc rest) → Below S h0 h' → R (.ok (.ret res)) { s with heap := h', toks := tk }) →
      codeAny (model prog w) A (.builtin "dict.update.loop" ⟨[.ref S, .ref J, .int ix t, res], []⟩) R s := by
  intro rest
  induction rest with
  | nil =>
    intro i acc ix t s sz ln ht ha bl it dd fin
    have hl := hl0.at fun o e => bl _ o hlS e
    refine codeAny_builtin ud_entry ?_
    rw [Around.under_plainId ud_plain _]
    show wpAny _ A.in1 (pyNext (.ref J) >>= _) _ _ s
    have out : items[i]? = none := Array.getElem?_eq_none (Nat.le_of_eq sz)
    refine wpAny_bind (wpAny_pyNext_list_end (A := A.in1) hh it hl out fun h' he => ?_)
    show wpAny _ A.in1 (Builtin.Dict.addKeywords S [] >>= _) _ _ _
    have bl' : Below S h0 h' := fun b o hb e => he b o (Nat.ne_of_lt (Nat.lt_trans hb hSJ)) (bl b o hb e)
    exact wpAny_bind (wpAny_pure (wpAny_pure (fin h' s.toks (dict_at dd (fun o e => he S o (Nat.ne_of_lt hSJ) e) fun y my => (ha y my).there bl') bl')))
  | cons q rest ih =>
    intro i acc ix t s sz ln ht ha bl it dd fin
    obtain ⟨kq, b, hb, hbS, tb⟩ := ht 0 q rfl
    rw [List.length_cons] at sz ln
    have hl := hl0.at fun o e => bl _ o hlS e
    refine codeAny_builtin ud_entry ?_
    rw [Around.under_plainId ud_plain _]
    show wpAny _ A.in1 (pyNext (.ref J) >>= _) _ _ s
    refine wpAny_bind (wpAny_pyNext_list_item (x := .ref b) it hl hb fun h1 it1 sm => ?_)
    have bl1 : Below S h0 h1 := fun c o hc e => sm.extBut c o (Nat.ne_of_lt (Nat.lt_trans hc hSJ)) (bl c o hc e)
    have dd1 : h1.DictOfH (tkd prog w) S acc := dict_at dd (fun o e => sm.extBut S o (Nat.ne_of_lt hSJ) e) fun y my => (ha y my).there bl1
    obtain ⟨o, ho, hc, n, hd⟩ := tb
    have ho1 := bl1 b o hbS ho
    show wpAny _ A.in1 (holding [Value.ref b] _ >>= _) _ _ _
    refine wpAny_bind (wpAny_holding (wpAny_bind (wpAny_tryCatch ?_)))
    unfold Builtin.Dict.pairItems
    refine wpAny_bind (wpAny_typeOf (T := "tuple") ⟨o, ho1, hc⟩ ?_)
    rw [if_pos (by first | decide | rfl | simp)]
    refine wpAny_bind (wpAny_seqItems ho1 hd (wpAny_pure ?_))
    show wpAny _ A.in1 (holding [Value.ref q.2.1, q.2.2] (dictSet S (.ref q.2.1) q.2.2)) _ _ _
    refine wpAny_holding (wpAny_dictSet_heap (knd := tkd prog w) (k := q.1) (show A.units + 1 < cLine from hu) (kq.there bl1) dd1 (fun h2 dd2 sm2 => ?_) (by omega))
    have bl2 : Below S h0 h2 := fun c o hc e => sm2.extBut c o (Nat.ne_of_lt hc) (bl1 c o hc e)
    refine wpAny_pure ⟨plainId_quiet ud_plain _, ih (i + 1) (storedH acc q.1 q.2.1 q.2.2) (ix + 1) 0 _ (by omega) ?_ (fun j q' e => ?_) (fun y my => ?_) bl2 (it1.at fun o' e => sm2.extBut J o' (Nat.ne_of_gt hSJ) e) dd2 fun h' tk d' b' => fin h' tk d' b'⟩
    · have z := stored_le acc q
      omega
    · obtain ⟨k', b', hb', r'⟩ := ht (j + 1) q' e
      exact ⟨k', b', by rw [show i + 1 + j = i + (j + 1) by omega]; exact hb', r'⟩
    · rcases stored_mem my with rfl | ⟨x, mx, e1, e2⟩
      · exact kq
      · have := ha x mx
        unfold KeyOf at this ⊢
        rw [e1, e2]
        exact this
theorem dict_of_pairs {s : Shared} {l : Addr} {ol : Obj} {items : Array Value} {n : Nat} {prs : List E3} {Q : Value → Shared → Prop} (hh : A.handled = none) (hu : A.units + 2 < cLine) (hl : s.heap.get? l = some ol) (hc : ol.cls = .type "list") (hd : ol.dict = none)
    (hdat : ol.data = .seq items n) (hsz : items.size = prs.length) (hln : prs.length ≤ sizeLine)
    (ht : ∀ (j : Nat) (q : E3), prs[j]? = some q → KeyOf prog w s.heap.objs.size s.heap q ∧ ∃ b : Addr, items[j]? = some (.ref b) ∧ b < s.heap.objs.size ∧ IsTup s.heap b #[.ref q.2.1, q.2.2])
    (h : ∀ h' tk, h'.DictOfH (tkd prog w) s.heap.objs.size (fillH [] prs) → Below s.heap.objs.size s.heap h' → Q (.ref s.heap.objs.size) { s with heap := h', toks := tk }) :
    wpAny (model prog w) A (call (.type "dict") [.ref l]) Q E s := by
  let nw : Obj := { cls := .type "dict", data := .dict #[] }
  refine callType_codes (Q₁ := fun obj s₁ => obj = .ref s.heap.objs.size ∧ s₁ = { s with heap := s.heap.push nw }) PySem.F.kt_called_dict (PySem.F.kt_typeCall_dict_1 _) PySem.F.entry_dict_init (kt_code_dict_new _ ⟨rfl, rfl⟩) ?_
  rintro obj s₁ ⟨rfl, rfl⟩
  have fresh : (s.heap.push nw).DictOfH (tkd prog w) s.heap.objs.size [] := Heap.DictOfH.new s.heap
  have k0 : ∀ b o, s.heap.get? b = some o → (s.heap.push nw).get? b = some o := fun b o e => Heap.get?_push_of_some _ e
  refine ⟨fresh.typeIs, PySem.F.args_dict_init_2 _ _, ?_⟩
  unfold Builtin.«dict.__init__»
  refine wpAny_bind ?_
  unfold Builtin.Dict.selfAndRest
  refine wpAny_bind (wpAny_notOrdered_dict fresh.typeIs ?_)
  show wpAny _ _ (pure (s.heap.objs.size, [Value.ref l])) _ _ _
  refine wpAny_pure ?_
  show wpAny _ _ (Builtin.Dict.updateFrom "dict.__init__" s.heap.objs.size (.ref l) [] .none) _ _ _
  unfold Builtin.Dict.updateFrom
  refine wpAny_bind (wpAny_typeOf (T := "list") ⟨ol, k0 _ _ hl, hc⟩ ?_)
  rw [if_pos (by first | decide | rfl | simp)]
  refine wpAny_bind (miss_list (k0 _ _ hl) hc hdat hd hh fun h1 tk1 hk1 => ?_)
  rw [if_pos (show (none : Option Value).isNone = true from rfl)]
  refine wpAny_bind (wpAny_rule ?_)
  have lS : l < s.heap.objs.size := Heap.lt_size hl
  have hl0 : s.heap.IsList l items := ⟨ol, hl, hc, n, hdat⟩
  have hl1 : h1.IsList l items := ⟨ol, hk1 _ _ (k0 _ _ hl), hc, n, hdat⟩
  have S1 : s.heap.objs.size < h1.objs.size := Heap.lt_size (hk1 _ _ (Heap.get?_push_size (o := nw) _ rfl))
  refine wpAny_bind (wpAny_pyIter_list hl1 ?_)
  let h2 := h1.push { cls := .type "list_iterator", data := .fields #[.ref l, .int 0 0] }
  have k2 : ∀ b o, (s.heap.push nw).get? b = some o → h2.get? b = some o := fun b o e => Heap.get?_push_of_some _ (hk1 b o e)
  have loop := fill_loop (prog := prog) (w := w) (A := A.in1) (R := wants (fun r s₂ => r = .none ∧ Q (.ref s.heap.objs.size) s₂) E) (S := s.heap.objs.size) (J := h1.objs.size) (l := l) (items := items) (res := Value.none) (h0 := s.heap) hh hu S1 hl0 lS prs 0 [] 0 0 { s with heap := h2, toks := tk1 }
    (by rw [hsz, Nat.zero_add]) (by rw [List.length_nil, Nat.zero_add]; exact hln) (fun j q e => by rw [Nat.zero_add]; exact ht j q e) (fun y my => nomatch my) (fun b o _ e => k2 b o (k0 b o e)) ⟨_, Heap.get?_push_size _ rfl, rfl, rfl⟩
    (dict_at fresh (fun o e => k2 _ o e) fun y my => nomatch my) (fun h' tk d' b' => ⟨rfl, h h' tk d' b'⟩)
  first
    | exact wpAny_pure ⟨plainId_quiet ud_plain _, loop⟩
    | exact wpAny_bind (wpAny_pure (wpAny_pure ⟨plainId_quiet ud_plain _, loop⟩))
end
section
variable {X : Cx}
/-- key, where it lies, value -/
abbrev T3V := List L2.Key × Addr × V
def mergeT (kvs : List (List L2.Key × V)) (more : List T3V) : List (List L2.Key × V) := more.foldl (fun acc q => putK acc q.1 q.2.2) kvs
theorem mergeT_le : ∀ (more : List T3V) (kvs : List (List L2.Key × V)), (mergeT kvs more).length ≤ kvs.length + more.length
  | [], kvs => Nat.le_refl _
  | q :: r, kvs => by
    have h1 := mergeT_le r (putK kvs q.1 q.2.2)
    have h2 := length_putK kvs q.1 q.2.2
    show (mergeT (putK kvs q.1 q.2.2) r).length ≤ kvs.length + (r.length + 1)
    omega
abbrev Alike : List T3V → List E3 → Prop := Paired fun p q => p.1 = q.1 ∧ p.2.1 = q.2.1 ∧ RelV p.2.2 q.2.2
theorem kt_merge {H : Hp} : ∀ {more : List T3V} {rs : List E3} {kvs : List (List L2.Key × V)} {xs : List E3}, Alike more rs → (∀ p ∈ more, H p.2.1 = some (.tup (p.1.map kV))) → KT H kvs xs → KT H (mergeT kvs more) (fillH xs rs) := by
  intro more rs kvs xs al
  induction al generalizing kvs xs with
  | nil => exact fun _ r => r
  | @cons p q ps qs hpq _ ih =>
    intro hk r
    obtain ⟨e1, e2, rv⟩ := hpq
    have hb := hk p (List.mem_cons_self ..)
    show KT H (mergeT (putK kvs p.1 p.2.2) ps) (fillH (storedH xs q.1 q.2.1 q.2.2) qs)
    rw [← e1, ← e2]
    exact ih (fun y my => hk y (List.mem_cons_of_mem _ my)) (r.put p.1 hb rv)
/-- each of a list is a pair: a tuple for a key, a value -/
abbrev PairsAt (K : PySem.W.Frag) (H : Hp) : List Addr → List T3V → Prop := Paired fun p q => H p = some (.tup [.ref q.2.1, q.2.2]) ∧ H q.2.1 = some (.tup (q.1.map kV))
theorem alike_of {pins : List (Addr × Obj)} {σ : L2.St} {H : Hp} {s : Shared} (I : Inv X pins σ H s) : ∀ {ps : List Addr} {kvs : List T3V}, PairsAt X.K H ps kvs →
    ∃ prs : List E3, Alike kvs prs ∧ prs.length = ps.length ∧ ∀ (j : Nat) (q : E3), prs[j]? = some q → KeyOf X.prog X.w s.heap.objs.size s.heap q ∧ ∃ b : Addr, (ps.map Value.ref)[j]? = some (.ref b) ∧ b < s.heap.objs.size ∧ IsTup s.heap b #[.ref q.2.1, q.2.2]
  | _, _, .nil => ⟨[], .nil, rfl, fun j q e => by simp at e⟩
  | _, _, .cons (a := p) (b := kv) h t => by
    obtain ⟨prs, al, hl, hp⟩ := alike_of I t
    obtain ⟨its, rv, tp, _⟩ := I.tuple (SqT.of h.1)
    obtain ⟨u, y, ei, ru, ry⟩ := vals2 rv
    subst ei
    cases (show u = Value.ref kv.2.1 from ru)
    have kk := key_of I.hok h.2
    refine ⟨(kv.1, kv.2.1, y) :: prs, .cons ⟨rfl, rfl, ry⟩ al, by rw [List.length_cons, List.length_cons, hl], fun j q e => ?_⟩
    cases j with
    | zero =>
      cases e
      obtain ⟨o, _, _, ho, _⟩ := id (show IsTupleKey (mixKind X.prog X.w) s.heap kv.1 kv.2.1 from kk)
      exact ⟨⟨Heap.lt_size ho, kk⟩, p, rfl, tp.lt, tp⟩
    | succ j => exact hp j q e
theorem call_dictT (hc : X.calm = true) (hu : X.A.units + 2 < cLine) : CallR X (.type "dict") (fun xs H Q => ∃ (a : Addr) (ps : List Addr) (kvs : List T3V), xs = [.ref a] ∧ H a = some (.lst (ps.map V.ref)) ∧ PairsAt X.K H ps kvs ∧
    ∀ p, H p = none → Q (.ref p) (upd H p (.dT (mergeT [] kvs)))) := by
  intro pins s σ H xs us Q I r q
  obtain ⟨a, ps, kvs, rfl, ea, hp, q⟩ := q
  obtain ⟨u, rfl, rx⟩ := vals1 r
  cases rx
  obtain ⟨its, rv, pl, hz⟩ := I.list (SqL.of ea)
  have ei := refs_at rv
  subst ei
  rw [List.length_map] at hz
  obtain ⟨prs, al, hl, hpr⟩ := alike_of I hp
  obtain ⟨o, n, ho, hcl, hd, hdat⟩ := pl
  refine dict_of_pairs (prs := prs) (I.ok.hd hc) hu ho hcl hd hdat (by simp [hl]) (by rw [hl]; exact hz) (fun j q' e => ?_) fun h' tk d' b' => ?_
  · obtain ⟨k, b, e1, r⟩ := hpr j q' e
    exact ⟨k, b, by simpa using e1, r⟩
  · have nf := I.hok.fresh (Nat.le_refl s.heap.objs.size)
    have hm : (s.heap.objs.size == sysModules) = false := beq_eq_false_iff_ne.mpr (Nat.ne_of_gt I.big)
    have ln : (mergeT [] kvs).length ≤ sizeLine := by
      refine Nat.le_trans (mergeT_le kvs []) ?_
      rw [List.length_nil, Nat.zero_add, al.length, hl]
      exact hz
    obtain ⟨ob, es, ep, g1, g2, g3, g4, _, g5⟩ := d'
    have keys : ∀ {ps : List Addr} {kvs : List T3V}, PairsAt X.K H ps kvs → ∀ p ∈ kvs, H p.2.1 = some (.tup (p.1.map kV)) := by
      intro ps kvs h
      induction h with
      | nil => exact fun p m => nomatch m
      | cons hq _ ih =>
        intro p m
        rcases List.mem_cons.mp m with rfl | m
        · exact hq.2
        · exact ih p m
    have kt : KT H (mergeT [] kvs) (fillH [] prs) := kt_merge al (keys hp) .nil
    refine ⟨.ref s.heap.objs.size, upd H s.heap.objs.size (.dT (mergeT [] kvs)), I.laid (t' := tk) (fun b o e => b' b o (Heap.lt_size e) e) (Nat.le_refl _) (show ObjOk X.prog X.w _ _ _ (.dT (mergeT [] kvs)) from ⟨ln, hm, _, kt.keeps fun c ys ec => ?_, ob, es, ep, g1, g2, g3, g4, g5⟩), rfl, q _ nf⟩
    rw [upd_ne (fun z => by rw [z, nf] at ec; cases ec)]
    exact ec
end
end HopT

set_option Elab.async false
set_option linter.all false
set_option maxRecDepth 100000
namespace HopH
open PySem PySem.Spec PyProof.Rows L2 HopR HopT TL
/-! ### a heap in the mirror -/
def mt3 (n : Nat) (e : HopH.T3) : HopH.T3 := (n - 1 - e.2.1, n - 1 - e.1, !e.2.2)
def mtI (m : Int) (e : I3) : I3 := (m - e.2.1, m - e.1, !e.2.2)
theorem mtI_mtI (m : Int) (e : I3) : mtI m (mtI m e) = e := by
  obtain ⟨a, b, s⟩ := e
  unfold mtI
  have h1 : m - (m - a) = a := by omega
  have h2 : m - (m - b) = b := by omega
  show ((m - (m - a), m - (m - b), !!s) : I3) = _
  rw [h1, h2, Bool.not_not]
theorem mir_at {bs : List Bool} {k : Nat} (h : k < bs.length) : (mir bs)[k]? = (bs[bs.length - 1 - k]?).map (!·) := by
  rw [mir_get h, List.getElem?_eq_getElem]
  rfl
theorem mir_val {bs : List Bool} {k : Nat} {v : Bool} (h : k < bs.length) : (mir bs)[k]? = some v ↔ bs[bs.length - 1 - k]? = some (!v) := by
  rw [mir_at h]
  cases bs[bs.length - 1 - k]? with
  | none => simp
  | some x => cases x <;> cases v <;> simp
theorem mem_mir {bs : List Bool} {R : List HopH.T3} (h : Heaped bs (List.range bs.length) R) {x y : Nat} {s : Bool} (hx : x < bs.length) (hy : y < bs.length) : (x, y, s) ∈ R.map (mt3 bs.length) ↔ (bs.length - 1 - y, bs.length - 1 - x, !s) ∈ R := by
  rw [List.mem_map]
  constructor
  · rintro ⟨⟨b, f, t⟩, m, e⟩
    obtain ⟨hb, hf, _⟩ := h.inn _ _ _ m
    have hb := List.mem_range.mp hb
    have hf := List.mem_range.mp hf
    unfold mt3 at e
    injection e with e1 e2
    injection e2 with e2 e3
    have e1 : bs.length - 1 - f = x := e1
    have e2 : bs.length - 1 - b = y := e2
    have e3 : (!t) = s := e3
    have a1 : bs.length - 1 - y = b := by omega
    have a2 : bs.length - 1 - x = f := by omega
    rw [a1, a2, ← e3, Bool.not_not]
    exact m
  · intro m
    refine ⟨_, m, ?_⟩
    unfold mt3
    have a1 : bs.length - 1 - (bs.length - 1 - x) = x := by omega
    have a2 : bs.length - 1 - (bs.length - 1 - y) = y := by omega
    show (bs.length - 1 - (bs.length - 1 - x), bs.length - 1 - (bs.length - 1 - y), !!s) = _
    rw [a1, a2, Bool.not_not]
theorem mt3_lt {bs : List Bool} {R : List HopH.T3} (h : Heaped bs (List.range bs.length) R) {x y : Nat} {s : Bool} (m : (x, y, s) ∈ R.map (mt3 bs.length)) : x < bs.length ∧ y < bs.length := by
  obtain ⟨⟨b, f, t⟩, m, e⟩ := List.mem_map.mp m
  obtain ⟨hb, hf, _⟩ := h.inn _ _ _ m
  have hb := List.mem_range.mp hb
  have hf := List.mem_range.mp hf
  unfold mt3 at e
  injection e with e1 e2
  injection e2 with e2 e3
  have e1 : bs.length - 1 - f = x := e1
  have e2 : bs.length - 1 - b = y := e2
  omega
theorem heaped_mir {bs : List Bool} {R : List HopH.T3} (h : Heaped bs (List.range bs.length) R) : Heaped (mir bs) (List.range bs.length) (R.map (mt3 bs.length)) := by
  refine ⟨fun b f s m => ?_, ?_, fun b f hb hf l h1 h2 => ?_⟩
  · obtain ⟨xl, yl⟩ := mt3_lt h m
    obtain ⟨hb, hf, l, v1, v2⟩ := h.inn _ _ _ ((mem_mir h xl yl).mp m)
    refine ⟨List.mem_range.mpr xl, List.mem_range.mpr yl, by omega, (mir_val xl).mpr v2, (mir_val yl).mpr v1⟩
  · rw [List.map_map]
    have e : R.map ((fun e : HopH.T3 => (e.1, e.2.1)) ∘ mt3 bs.length) = (R.map fun e : HopH.T3 => (e.1, e.2.1)).map fun c : Nat × Nat => (bs.length - 1 - c.2, bs.length - 1 - c.1) := by
      rw [List.map_map]
      rfl
    rw [e]
    refine List.pairwise_map.mpr ?_
    have nd : (R.map fun e : HopH.T3 => (e.1, e.2.1)).Pairwise (· ≠ ·) := h.nd
    refine (List.pairwise_iff_forall_sublist).mpr fun {x y} sl => ?_
    have ne := (List.pairwise_iff_forall_sublist).mp nd sl
    have mx : x ∈ R.map fun e : HopH.T3 => (e.1, e.2.1) := sl.subset (List.mem_cons_self ..)
    have my : y ∈ R.map fun e : HopH.T3 => (e.1, e.2.1) := sl.subset (List.mem_cons_of_mem _ (List.mem_cons_self ..))
    obtain ⟨x1, x2⟩ := x
    obtain ⟨y1, y2⟩ := y
    obtain ⟨s, mx⟩ := pair_mem.mp mx
    obtain ⟨t, my⟩ := pair_mem.mp my
    obtain ⟨a1, a2, _⟩ := h.inn _ _ _ mx
    obtain ⟨b1, b2, _⟩ := h.inn _ _ _ my
    have a1 := List.mem_range.mp a1
    have a2 := List.mem_range.mp a2
    have b1 := List.mem_range.mp b1
    have b2 := List.mem_range.mp b2
    intro z
    injection z with z1 z2
    have z1 : bs.length - 1 - x2 = bs.length - 1 - y2 := z1
    have z2 : bs.length - 1 - x1 = bs.length - 1 - y1 := z2
    exact ne (by rw [show x1 = y1 by omega, show x2 = y2 by omega])
  · have bl := List.mem_range.mp hb
    have fl := List.mem_range.mp hf
    have v1 := (mir_val bl).mp h1
    have v2 := (mir_val fl).mp h2
    have hh := h.has (bs.length - 1 - f) (bs.length - 1 - b) (List.mem_range.mpr (by omega)) (List.mem_range.mpr (by omega)) (by omega) v2 v1
    constructor
    · rintro ⟨s, m⟩ k hk k1 k2
      have kl := List.mem_range.mp hk
      have q := hh.mp ⟨_, (mem_mir h bl fl).mp m⟩ (bs.length - 1 - k) (List.mem_range.mpr (by omega)) (by omega) (by omega)
      exact ⟨fun z => q.2 ((mem_mir h kl fl).mp z), fun z => q.1 ((mem_mir h bl kl).mp z)⟩
    · intro q
      obtain ⟨s, m⟩ := hh.mpr fun k hk k1 k2 => by
        have kl := List.mem_range.mp hk
        have kl' : bs.length - 1 - k < bs.length := by omega
        have z := q (bs.length - 1 - k) (List.mem_range.mpr kl') (by omega) (by omega)
        rw [mem_mir h kl' fl, mem_mir h bl kl', show bs.length - 1 - (bs.length - 1 - k) = k by omega] at z
        exact ⟨z.2, z.1⟩
      refine ⟨!s, (mem_mir h bl fl).mpr ?_⟩
      rw [Bool.not_not]
      exact m
theorem c3_mir {bs : List Bool} {R : List HopH.T3} (h : Heaped bs (List.range bs.length) R) : (R.map c3).map (mtI ((bs.length : Int) - 1)) = (R.map (mt3 bs.length)).map c3 := by
  rw [List.map_map, List.map_map]
  refine List.map_congr_left fun e m => ?_
  obtain ⟨b, f, s⟩ := e
  obtain ⟨hb, hf, _⟩ := h.inn _ _ _ m
  have hb := List.mem_range.mp hb
  have hf := List.mem_range.mp hf
  show (((bs.length : Int) - 1 - (f : Int), (bs.length : Int) - 1 - (b : Int), !s) : I3) = (((bs.length - 1 - f : Nat) : Int), ((bs.length - 1 - b : Nat) : Int), !s)
  rw [show ((bs.length - 1 - f : Nat) : Int) = (bs.length : Int) - 1 - (f : Int) by omega, show ((bs.length - 1 - b : Nat) : Int) = (bs.length : Int) - 1 - (b : Int) by omega]
/-- sorted, the mirrored ones are a heap in the mirror -/
theorem mir_heap {bs : List Bool} {ts l : List I3} (h : HeapL bs ts) (p : l.Perm (ts.map (mtI ((bs.length : Int) - 1)))) (so : l.Pairwise fun x y => lexK (k3 y) (k3 x) = false) : HeapL (mir bs) l := by
  obtain ⟨R, hR, pR, _, ln⟩ := h
  have hm := heaped_mir hR
  have q : l.Perm ((R.map (mt3 bs.length)).map c3) := by
    rw [← c3_mir hR]
    exact p.trans (pR.map _)
  refine ⟨R.map (mt3 bs.length), by rw [mir_len]; exact hm, q, sorted_pairs hm.nd q so, ?_⟩
  rw [p.length_eq, List.length_map]
  exact ln
theorem HeapL.one {bs cs : List Bool} {ts us : List I3} (h : HeapL bs ts) (g : HeapL cs us) (p : ts.Perm us) : ts = us := by
  obtain ⟨_, _, _, so, _⟩ := h
  obtain ⟨_, _, _, so', _⟩ := g
  refine same_sorted (lt := fun x y => ltP2 (pr3 x) (pr3 y)) (fun x h => ?_) (fun x y h1 h2 => ?_) (List.pairwise_map.mp so) (List.pairwise_map.mp so') fun x => p.mem_iff
  · unfold ltP2 at h; omega
  · unfold ltP2 at h1 h2; omega
theorem mir_back {m : Int} {ts us vs : List I3} (p : us.Perm (ts.map (mtI m))) (q : vs.Perm (us.map (mtI m))) : vs.Perm ts := by
  have e : (ts.map (mtI m)).map (mtI m) = ts := by
    rw [List.map_map]
    exact (List.map_congr_left fun e _ => mtI_mtI m e).trans (List.map_id _)
  have := q.trans (p.map (mtI m))
  rw [e] at this
  exact this
/-! ### a heap from left to right -/
theorem by_step {bs : List Bool} {S l1 l2 : List Nat} {R : List HopH.T3} {b f : Nat} (so : (l1 ++ b :: f :: l2).Pairwise (· < ·)) (h1 : bs[b]? = some true) (h2 : bs[f]? = some false) (good : ∀ R', Heaped bs (l1 ++ b :: f :: l2) R' → Heaped bs S (R ++ R')) :
    (∀ R', Heaped bs (l1 ++ b :: l2) R' → Heaped bs S ((R ++ [(b, f, true)]) ++ R')) ∧ (∀ R', Heaped bs (l1 ++ f :: l2) R' → Heaped bs S ((R ++ [(b, f, false)]) ++ R')) := by
  have g1 : (l1 ++ b :: f :: l2)[l1.length]? = some b := by rw [List.getElem?_append_right (Nat.le_refl _), Nat.sub_self]; rfl
  have g2 : (l1 ++ b :: f :: l2)[l1.length + 1]? = some f := by rw [List.getElem?_append_right (Nat.le_add_right l1.length 1), Nat.add_sub_cancel_left]; rfl
  have st := fun s => step_heap so g1 g2 h1 h2 s good
  have e1 : (l1 ++ b :: f :: l2).eraseIdx (l1.length + 1) = l1 ++ b :: l2 := by
    rw [List.eraseIdx_append_of_length_le (Nat.le_add_right l1.length 1), Nat.add_sub_cancel_left]; rfl
  have e2 : (l1 ++ b :: f :: l2).eraseIdx l1.length = l1 ++ f :: l2 := by
    rw [List.eraseIdx_append_of_length_le (Nat.le_refl _), Nat.sub_self]; rfl
  have s1 := st true
  have s2 := st false
  rw [if_pos rfl, e1] at s1
  rw [if_neg (by decide), e2] at s2
  exact ⟨s1, s2⟩
theorem by_end {bs : List Bool} {F B : List Nat} (so : (F ++ B).Pairwise (· < ·)) (hF : ∀ x ∈ F, bs[x]? = some false) (hB : ∀ x ∈ B, bs[x]? = some true) : Heaped bs (F ++ B) [] := by
  refine heaped_nil fun b f hb hf l h1 h2 => ?_
  have mb : b ∈ B := by
    rcases List.mem_append.mp hb with m | m
    · rw [hF b m] at h1; cases h1
    · exact m
  have mf : f ∈ F := by
    rcases List.mem_append.mp hf with m | m
    · exact m
    · rw [hB f m] at h2; cases h2
  have := (List.pairwise_append.mp so).2.2 f mf b mb
  omega
/-! ### signs by cells -/
def sg (ts : List I3) (c : Int × Int) : Option Bool := (ts.find? fun e => decide (pr3 e = c)).map (·.2.2)
theorem sg_iff {ts : List I3} (nd : (ts.map pr3).Pairwise ltP2) {b f : Int} {s : Bool} : sg ts (b, f) = some s ↔ (b, f, s) ∈ ts := by
  unfold sg
  induction ts with
  | nil => simp
  | cons e ts ih =>
    rw [List.map_cons] at nd
    obtain ⟨h1, h2⟩ := List.pairwise_cons.mp nd
    obtain ⟨x, y, t⟩ := e
    rw [List.find?_cons]
    by_cases z : pr3 (x, y, t) = (b, f)
    · rw [decide_eq_true z]
      have zx : x = b ∧ y = f := by
        unfold pr3 at z
        injection z with z1 z2
        exact ⟨z1, z2⟩
      obtain ⟨rfl, rfl⟩ := zx
      constructor
      · intro q
        have q : t = s := Option.some.inj q
        rw [← q]
        exact List.mem_cons_self ..
      · intro m
        rcases List.mem_cons.mp m with q | m
        · injection q with _ q
          injection q with _ q
          rw [q]; rfl
        · have := h1 _ (List.mem_map.mpr ⟨_, m, rfl⟩)
          unfold ltP2 pr3 at this
          have : x < x ∨ x = x ∧ y < y := this
          omega
    · rw [decide_eq_false z]
      show _ ↔ _
      rw [ih h2]
      constructor
      · exact List.mem_cons_of_mem _
      · intro m
        rcases List.mem_cons.mp m with q | m
        · exact absurd (by rw [← q]; rfl) z
        · exact m
theorem sg_some {ts : List I3} (nd : (ts.map pr3).Pairwise ltP2) {b f : Int} : (sg ts (b, f)).isSome = true ↔ ∃ s, (b, f, s) ∈ ts := by
  cases h : sg ts (b, f) with
  | none =>
    refine ⟨fun z => (by cases z), fun ⟨s, m⟩ => ?_⟩
    rw [(sg_iff nd).mpr m] at h
    cases h
  | some s => exact ⟨fun _ => ⟨s, (sg_iff nd).mp h⟩, fun _ => rfl⟩
/-- of a heap: a cell has a sign just where nothing nearer uses it up -/
theorem cell_iff {bs : List Bool} {ts : List I3} (h : HeapL bs ts) {b f : Nat} (l : b < f) (h1 : bs[b]? = some true) (h2 : bs[f]? = some false) :
    (sg ts ((b : Int), (f : Int))).isSome = true ↔ ∀ k : Nat, b < k → k < f → sg ts ((k : Int), (f : Int)) ≠ some true ∧ sg ts ((b : Int), (k : Int)) ≠ some false := by
  obtain ⟨R, hR, p, so, _⟩ := h
  have fl : f < bs.length := (List.getElem?_eq_some_iff.mp h2).1
  have mem : ∀ {x y : Nat} {s : Bool}, (((x : Int), (y : Int), s) : I3) ∈ ts ↔ (x, y, s) ∈ R := fun {x y s} => by
    rw [p.mem_iff, List.mem_map]
    constructor
    · rintro ⟨⟨x', y', s'⟩, m, e⟩
      unfold c3 at e
      injection e with e1 e2
      injection e2 with e2 e3
      have e1 : (x' : Int) = (x : Int) := e1
      have e2 : (y' : Int) = (y : Int) := e2
      have e3 : s' = s := e3
      rw [← Int.ofNat.inj e1, ← Int.ofNat.inj e2, ← e3]
      exact m
    · exact fun m => ⟨_, m, rfl⟩
  rw [sg_some so]
  have hh := hR.has b f (List.mem_range.mpr (by omega)) (List.mem_range.mpr fl) l h1 h2
  constructor
  · rintro ⟨s, m⟩ k k1 k2
    have q := hh.mp ⟨s, mem.mp m⟩ k (List.mem_range.mpr (by omega)) k1 k2
    exact ⟨fun z => q.1 (mem.mp ((sg_iff so).mp z)), fun z => q.2 (mem.mp ((sg_iff so).mp z))⟩
  · intro q
    obtain ⟨s, m⟩ := hh.mpr fun k _ k1 k2 => ⟨fun z => (q k k1 k2).1 ((sg_iff so).mpr (mem.mpr z)), fun z => (q k k1 k2).2 ((sg_iff so).mpr (mem.mpr z))⟩
    exact ⟨s, mem.mpr m⟩
/-- who has a sign stands on a cell -/
theorem sg_cell {bs : List Bool} {ts : List I3} (h : HeapL bs ts) {b f : Nat} (hs : (sg ts ((b : Int), (f : Int))).isSome = true) : bs[b]? = some true ∧ bs[f]? = some false := by
  obtain ⟨R, hR, p, so, _⟩ := h
  obtain ⟨s, m⟩ := (sg_some so).mp hs
  obtain ⟨⟨x, y, t⟩, m, e⟩ := List.mem_map.mp (p.mem_iff.mp m)
  unfold c3 at e
  injection e with e1 e2
  injection e2 with e2 e3
  have e1 : (x : Int) = (b : Int) := e1
  have e2 : (y : Int) = (f : Int) := e2
  have := hR.inn _ _ _ m
  rw [← Int.ofNat.inj e1, ← Int.ofNat.inj e2]
  exact ⟨this.2.2.2.1, this.2.2.2.2⟩
/-! ### so many ahead of a cell -/
def ahd (ts : List I3) (b f : Int) : Nat := ts.countP fun e => decide (e.1 < b ∨ e.1 = b ∧ e.2.1 < f)
theorem ahd_step {ts : List I3} (so : (ts.map pr3).Pairwise ltP2) (b f : Int) : ahd ts b (f + 1) = ahd ts b f + (if (sg ts (b, f)).isSome = true then 1 else 0) := by
  unfold ahd
  induction ts with
  | nil => simp [sg]
  | cons e ts ih =>
    have so0 := so
    rw [List.map_cons] at so
    obtain ⟨h1, h2⟩ := List.pairwise_cons.mp so
    have ih := ih h2
    rw [List.countP_cons, List.countP_cons, ih]
    obtain ⟨x, y, t⟩ := e
    by_cases z : x = b ∧ y = f
    · obtain ⟨rfl, rfl⟩ := z
      have s1 : (sg ((x, y, t) :: ts) (x, y)).isSome = true := (sg_some so0).mpr ⟨t, List.mem_cons_self ..⟩
      have s2 : (sg ts (x, y)).isSome = false := by
        cases q : (sg ts (x, y)).isSome with
        | false => rfl
        | true =>
          obtain ⟨s, m⟩ := (sg_some h2).mp q
          have := h1 _ (List.mem_map.mpr ⟨_, m, rfl⟩)
          unfold ltP2 pr3 at this
          have : x < x ∨ x = x ∧ y < y := this
          omega
      rw [s1, s2, if_pos rfl, if_neg (by decide), if_pos (decide_eq_true (show x < x ∨ x = x ∧ y < y + 1 by omega)), if_neg (fun q => by have : x < x ∨ x = x ∧ y < y := of_decide_eq_true q; omega)]
    · have s1 : sg ((x, y, t) :: ts) (b, f) = sg ts (b, f) := by
        unfold sg
        rw [List.find?_cons, decide_eq_false (fun q => z (by unfold pr3 at q; injection q with q1 q2; exact ⟨q1, q2⟩))]
      rw [s1]
      have e : decide (x < b ∨ x = b ∧ y < f + 1) = decide (x < b ∨ x = b ∧ y < f) := by
        refine decide_eq_decide.mpr ?_
        constructor <;> intro q <;> omega
      show _ + _ + (if decide (x < b ∨ x = b ∧ y < f + 1) = true then 1 else 0) = _ + (if decide (x < b ∨ x = b ∧ y < f) = true then 1 else 0) + _
      rw [e]
      omega
theorem heap_in {bs : List Bool} {ts : List I3} (h : HeapL bs ts) {e : I3} (m : e ∈ ts) : 0 ≤ e.1 ∧ e.1 < e.2.1 ∧ e.2.1 < (bs.length : Int) := by
  obtain ⟨R, hR, p, _, _⟩ := h
  obtain ⟨⟨b, f, s⟩, m', rfl⟩ := List.mem_map.mp (p.mem_iff.mp m)
  obtain ⟨hb, hf, l, _⟩ := hR.inn _ _ _ m'
  have hf := List.mem_range.mp hf
  show 0 ≤ (b : Int) ∧ (b : Int) < (f : Int) ∧ (f : Int) < _
  omega
theorem countP_same {α : Type} {p q : α → Bool} : ∀ {l : List α}, (∀ x ∈ l, p x = q x) → l.countP p = l.countP q
  | [], _ => rfl
  | x :: l, h => by
    rw [List.countP_cons, List.countP_cons, h x (List.mem_cons_self ..), countP_same fun y m => h y (List.mem_cons_of_mem _ m)]
theorem ahd_row {bs : List Bool} {ts : List I3} (h : HeapL bs ts) (b : Int) : ahd ts b (bs.length : Int) = ahd ts (b + 1) (b + 2) := by
  unfold ahd
  refine countP_same fun e m => decide_eq_decide.mpr ?_
  have := heap_in h m
  constructor <;> intro q <;> omega
theorem ahd_start {bs : List Bool} {ts : List I3} (h : HeapL bs ts) : ahd ts 0 1 = 0 := by
  unfold ahd
  rw [List.countP_eq_zero]
  intro e m z
  have := heap_in h m
  have := of_decide_eq_true z
  omega
theorem ahd_end {bs : List Bool} {ts : List I3} (h : HeapL bs ts) (f : Int) : ahd ts (bs.length : Int) f = ts.length := by
  unfold ahd
  rw [List.countP_eq_length]
  intro e m
  have := heap_in h m
  exact decide_eq_true (by omega)
/-! ### the dict of signs -/
def kP (c : Int × Int) : List L2.Key := [.inl c.1, .inl c.2]
def sgK (ts : List I3) : List (List L2.Key × V) := ts.map fun e => (kP (pr3 e), V.str (tx [e.2.2]))
theorem kP_inj {c d : Int × Int} (h : kP c = kP d) : c = d := by
  obtain ⟨a, b⟩ := c
  obtain ⟨a', b'⟩ := d
  unfold kP at h
  injection h with h1 h2
  injection h2 with h2 _
  have h1 : a = a' := Sum.inl.inj h1
  have h2 : b = b' := Sum.inl.inj h2
  rw [h1, h2]
theorem valV_cons {κ : Type} [DecidableEq κ] (p : κ × V) (l : List (κ × V)) (k : κ) : valV (p :: l) k = if p.1 = k then some p.2 else valV l k := by
  unfold valV
  rw [List.find?_cons]
  by_cases z : p.1 = k
  · rw [if_pos z]; simp [z]
  · rw [if_neg z]; simp [z]
theorem val_sg (ts : List I3) (c : Int × Int) : valV (sgK ts) (kP c) = (sg ts c).map fun s => V.str (tx [s]) := by
  induction ts with
  | nil => rfl
  | cons e ts ih =>
    show valV ((kP (pr3 e), V.str (tx [e.2.2])) :: sgK ts) (kP c) = _
    rw [valV_cons]
    unfold sg
    rw [List.find?_cons]
    by_cases z : pr3 e = c
    · rw [if_pos (by rw [z]), decide_eq_true z]; rfl
    · rw [if_neg (fun q => z (kP_inj q)), decide_eq_false z, ih]; rfl
theorem merge_new : ∀ (more : List T3V) (kvs : List (List L2.Key × V)), (kvs.map (·.1) ++ more.map (·.1)).Nodup → mergeT kvs more = kvs ++ more.map fun q => (q.1, q.2.2)
  | [], kvs, _ => by rw [List.map_nil, List.append_nil]; rfl
  | q :: r, kvs, nd => by
    show mergeT (putK kvs q.1 q.2.2) r = _
    have no : (kvs.any fun kv => decide (kv.1 = q.1)) = false := by
      rw [List.any_eq_false]
      intro x mx z
      have z := of_decide_eq_true z
      exact (List.nodup_append.mp nd).2.2 _ (List.mem_map.mpr ⟨x, mx, rfl⟩) q.1 (List.mem_cons_self ..) z
    have e : putK kvs q.1 q.2.2 = kvs ++ [(q.1, q.2.2)] := by
      unfold putK
      rw [no, if_neg (by decide)]
    rw [e, merge_new r]
    · rw [List.append_assoc]; rfl
    · rw [List.map_append, List.append_assoc]
      exact nd
end HopH

set_option Elab.async false
set_option linter.all false
set_option maxRecDepth 100000
namespace HopH
/-! ### the heap of a number -/
/-- while the number reaches the count: beads from the top, what is left of them, the rest -/
def popF (c : Nat → Nat) : List Nat → Nat → List Nat × List Nat × Nat
  | [], r => ([], [], r)
  | b :: B, r => if c (B.length + 1) ≤ r then (b :: (popF c B (r - c (B.length + 1))).1, (popF c B (r - c (B.length + 1))).2) else ([], b :: B, r)
def topF (i : Nat) (B : List Nat) : List T3 := match B with
  | [] => []
  | b :: _ => [(b, i, true)]
def hbF : List Bool → Nat → List Nat → Nat → List T3
  | [], _, _, _ => []
  | true :: w, i, B, r => hbF w (i + 1) (i :: B) r
  | false :: w, i, B, r => (popF (HopW.gn w) B r).1.map (fun b => (b, i, false)) ++ (topF i (popF (HopW.gn w) B r).2.1 ++ hbF w (i + 1) (popF (HopW.gn w) B r).2.1 (popF (HopW.gn w) B r).2.2)
/-- behind the taking out -/
def hbG (w : List Bool) (i : Nat) (z : List Nat × List Nat × Nat) : List T3 := z.1.map (fun b => (b, i, false)) ++ (topF i z.2.1 ++ hbF w (i + 1) z.2.1 z.2.2)
theorem hbF_free (w : List Bool) (i : Nat) (B : List Nat) (r : Nat) : hbF (false :: w) i B r = hbG w i (popF (HopW.gn w) B r) := rfl
theorem hbF_bead (w : List Bool) (i : Nat) (B : List Nat) (r : Nat) : hbF (true :: w) i B r = hbF w (i + 1) (i :: B) r := rfl
theorem popF_nil (c : Nat → Nat) (r : Nat) : popF c [] r = ([], [], r) := rfl
theorem popF_yes {c : Nat → Nat} {b : Nat} {B : List Nat} {r : Nat} (h : c (B.length + 1) ≤ r) : popF c (b :: B) r = (b :: (popF c B (r - c (B.length + 1))).1, (popF c B (r - c (B.length + 1))).2) := by
  rw [popF]
  exact if_pos h
theorem popF_no {c : Nat → Nat} {b : Nat} {B : List Nat} {r : Nat} (h : ¬ c (B.length + 1) ≤ r) : popF c (b :: B) r = ([], b :: B, r) := by
  rw [popF]
  exact if_neg h
theorem hbG_yes {w : List Bool} {i b : Nat} {B : List Nat} {r : Nat} (h : HopW.gn w (B.length + 1) ≤ r) : hbG w i (popF (HopW.gn w) (b :: B) r) = (b, i, false) :: hbG w i (popF (HopW.gn w) B (r - HopW.gn w (B.length + 1))) := by
  rw [popF_yes h]
  rfl
theorem hbG_no {w : List Bool} {i b : Nat} {B : List Nat} {r : Nat} (h : ¬ HopW.gn w (B.length + 1) ≤ r) : hbG w i (popF (HopW.gn w) (b :: B) r) = (b, i, true) :: hbF w (i + 1) (b :: B) r := by
  rw [popF_no h]
  rfl
theorem hbG_nil {w : List Bool} {i r : Nat} : hbG w i (popF (HopW.gn w) [] r) = hbF w (i + 1) [] r := rfl
theorem popF_len (c : Nat → Nat) : ∀ (B : List Nat) (r : Nat), (popF c B r).1.length + (popF c B r).2.1.length = B.length
  | [], _ => rfl
  | b :: B, r => by
    by_cases h : c (B.length + 1) ≤ r
    · rw [popF_yes h]
      have := popF_len c B (r - c (B.length + 1))
      show (popF c B (r - c (B.length + 1))).1.length + 1 + (popF c B (r - c (B.length + 1))).2.1.length = B.length + 1
      omega
    · rw [popF_no h]
      show 0 + (B.length + 1) = _
      rw [List.length_cons]
      omega
theorem hbF_len : ∀ (w : List Bool) (i : Nat) (B : List Nat) (r : Nat), (hbF w i B r).length ≤ B.length + w.length
  | [], _, _, _ => Nat.zero_le _
  | true :: w, i, B, r => by
    have := hbF_len w (i + 1) (i :: B) r
    rw [hbF_bead]
    rw [List.length_cons] at this ⊢
    omega
  | false :: w, i, B, r => by
    rw [hbF_free]
    have h1 := popF_len (HopW.gn w) B r
    generalize popF (HopW.gn w) B r = z at h1
    have h2 := hbF_len w (i + 1) z.2.1 z.2.2
    have h3 : (topF i z.2.1).length ≤ 1 := by
      unfold topF
      split
      · exact Nat.zero_le _
      · exact Nat.le_refl _
    unfold hbG
    rw [List.length_append, List.length_append, List.length_map, List.length_cons]
    omega
/-- beads taken out, one after the other -/
theorem pop_heap {bs : List Bool} {S : List Nat} {i : Nat} {rest : List Nat} {F : List Nat} (h2 : bs[i]? = some false) (c : Nat → Nat) : ∀ (B : List Nat) (r : Nat) (R : List T3), (F ++ B.reverse ++ i :: rest).Pairwise (· < ·) → (∀ x ∈ B, bs[x]? = some true) →
    (∀ R', Heaped bs (F ++ B.reverse ++ i :: rest) R' → Heaped bs S (R ++ R')) →
    (F ++ (popF c B r).2.1.reverse ++ i :: rest).Pairwise (· < ·) ∧ (∀ x ∈ (popF c B r).2.1, bs[x]? = some true) ∧ ∀ R', Heaped bs (F ++ (popF c B r).2.1.reverse ++ i :: rest) R' → Heaped bs S ((R ++ (popF c B r).1.map fun b => (b, i, false)) ++ R')
  | [], r, R, so, hB, good => by
    rw [popF_nil]
    refine ⟨so, hB, fun R' h => ?_⟩
    show Heaped bs S (R ++ [] ++ R')
    rw [List.append_nil]
    exact good R' h
  | b :: B, r, R, so, hB, good => by
    by_cases h : c (B.length + 1) ≤ r
    · rw [popF_yes h]
      have e : F ++ (b :: B).reverse ++ i :: rest = (F ++ B.reverse) ++ b :: i :: rest := by
        rw [List.reverse_cons, ← List.append_assoc, List.append_assoc (F ++ B.reverse)]
        rfl
      rw [e] at so good
      have so' : (F ++ B.reverse ++ i :: rest).Pairwise (· < ·) := so.sublist (List.Sublist.append_left (List.sublist_cons_self _ _) _)
      have st := (by_step so (hB b (List.mem_cons_self ..)) h2 good).2
      obtain ⟨k1, k2, k3⟩ := pop_heap h2 c B (r - c (B.length + 1)) (R ++ [(b, i, false)]) so' (fun x m => hB x (List.mem_cons_of_mem _ m)) st
      refine ⟨k1, k2, fun R' h => ?_⟩
      have := k3 R' h
      rw [List.append_assoc R] at this
      exact this
    · rw [popF_no h]
      refine ⟨so, hB, fun R' h => ?_⟩
      show Heaped bs S (R ++ [] ++ R')
      rw [List.append_nil]
      exact good R' h
theorem hb_heap {bs : List Bool} {S : List Nat} : ∀ (w : List Bool) (i : Nat) (B : List Nat) (r : Nat) (F : List Nat) (R : List T3), bs.drop i = w → (F ++ B.reverse ++ List.range' i w.length).Pairwise (· < ·) → (∀ x ∈ F, bs[x]? = some false) → (∀ x ∈ B, bs[x]? = some true) →
    (∀ R', Heaped bs (F ++ B.reverse ++ List.range' i w.length) R' → Heaped bs S (R ++ R')) → Heaped bs S (R ++ hbF w i B r)
  | [], i, B, r, F, R, e, so, hF, hB, good => by
    rw [show List.range' i ([] : List Bool).length = [] from rfl, List.append_nil] at so good
    exact good [] (by_end so hF fun x m => hB x (List.mem_reverse.mp m))
  | x :: w, i, B, r, F, R, e, so, hF, hB, good => by
    have il : i < bs.length := by
      rcases Nat.lt_or_ge i bs.length with h | h
      · exact h
      · rw [List.drop_eq_nil_of_le h] at e; cases e
    have e' := e
    rw [List.drop_eq_getElem_cons il] at e'
    obtain ⟨e1, e2⟩ := List.cons.inj e'
    have bi : bs[i]? = some x := by rw [List.getElem?_eq_getElem il, e1]
    have rg : List.range' i (x :: w).length = i :: List.range' (i + 1) w.length := by
      rw [List.length_cons, List.range'_succ]
    rw [rg] at so good
    cases x with
    | true =>
      rw [hbF_bead]
      have ec : F ++ B.reverse ++ i :: List.range' (i + 1) w.length = F ++ (i :: B).reverse ++ List.range' (i + 1) w.length := by
        rw [List.reverse_cons, ← List.append_assoc, List.append_assoc (F ++ B.reverse)]
        rfl
      rw [ec] at so good
      exact hb_heap w (i + 1) (i :: B) r F R e2 so hF (fun x m => by
        rcases List.mem_cons.mp m with rfl | m
        · exact bi
        · exact hB x m) good
    | false =>
      rw [hbF_free]
      unfold hbG
      obtain ⟨k1, k2, k3⟩ := pop_heap bi (HopW.gn w) B r R so hB good
      generalize popF (HopW.gn w) B r = z at k1 k2 k3
      obtain ⟨z1, z2, z3⟩ := z
      have k1 : (F ++ z2.reverse ++ i :: List.range' (i + 1) w.length).Pairwise (· < ·) := k1
      have k2 : ∀ x ∈ z2, bs[x]? = some true := k2
      have k3 : ∀ R', Heaped bs (F ++ z2.reverse ++ i :: List.range' (i + 1) w.length) R' → Heaped bs S ((R ++ z1.map fun b => (b, i, false)) ++ R') := k3
      show Heaped bs S (R ++ (z1.map (fun b => (b, i, false)) ++ (topF i z2 ++ hbF w (i + 1) z2 z3)))
      rw [← List.append_assoc]
      cases z2 with
      | nil =>
        show Heaped bs S ((R ++ z1.map fun b => (b, i, false)) ++ hbF w (i + 1) [] z3)
        have ec : F ++ ([] : List Nat).reverse ++ i :: List.range' (i + 1) w.length = F ++ [i] ++ ([] : List Nat).reverse ++ List.range' (i + 1) w.length := by
          rw [List.reverse_nil, List.append_nil, List.append_nil, List.append_assoc]
          rfl
        rw [ec] at k1 k3
        exact hb_heap w (i + 1) [] z3 (F ++ [i]) _ e2 k1 (fun x m => by
          rcases List.mem_append.mp m with m | m
          · exact hF x m
          · rw [List.mem_singleton.mp m]; exact bi) (fun x m => by simp at m) k3
      | cons b B' =>
        have ec : F ++ (b :: B').reverse ++ i :: List.range' (i + 1) w.length = (F ++ B'.reverse) ++ b :: i :: List.range' (i + 1) w.length := by
          rw [List.reverse_cons, ← List.append_assoc, List.append_assoc (F ++ B'.reverse)]
          rfl
        rw [ec] at k1 k3
        have st := (by_step k1 (k2 b (List.mem_cons_self ..)) bi k3).1
        have ed : (F ++ B'.reverse) ++ b :: List.range' (i + 1) w.length = F ++ (b :: B').reverse ++ List.range' (i + 1) w.length := by
          rw [List.reverse_cons, ← List.append_assoc, List.append_assoc (F ++ B'.reverse) [b]]
          rfl
        have so' : ((F ++ B'.reverse) ++ b :: List.range' (i + 1) w.length).Pairwise (· < ·) := k1.sublist (List.Sublist.append_left (List.Sublist.cons_cons b (List.sublist_cons_self _ _)) _)
        rw [ed] at st so'
        have := hb_heap w (i + 1) (b :: B') z3 F _ e2 so' hF k2 st
        rw [List.append_assoc] at this
        rw [List.append_assoc]
        rw [List.append_assoc] at this
        exact this
theorem hb_all (bs : List Bool) (r : Nat) : Heaped bs (List.range bs.length) (hbF bs 0 [] r) := by
  have h := hb_heap (bs := bs) (S := List.range bs.length) bs 0 [] r [] [] List.drop_zero
    (by rw [List.reverse_nil, List.nil_append, List.nil_append, ← List.range_eq_range']; exact range_lt _) (fun x m => by simp at m) (fun x m => by simp at m)
    (fun R' h => by
      rw [List.reverse_nil, List.nil_append, List.nil_append, ← List.range_eq_range'] at h
      exact h)
  exact h
end HopH

set_option Elab.async false
set_option linter.all false
set_option maxRecDepth 100000
namespace HopH
/-! ### a letter taken out of a heap, another one put in -/
theorem pair_one {R : List T3} (nd : (R.map fun e => (e.1, e.2.1)).Nodup) {b f : Nat} {s t : Bool} (h1 : (b, f, s) ∈ R) (h2 : (b, f, t) ∈ R) : s = t := by
  induction R with
  | nil => simp at h1
  | cons e R ih =>
    rw [List.map_cons, List.nodup_cons] at nd
    rcases List.mem_cons.mp h1 with q1 | q1 <;> rcases List.mem_cons.mp h2 with q2 | q2
    · rw [← q1] at q2; injection q2 with _ q2; injection q2 with _ q2; exact q2.symm
    · exact absurd (List.mem_map.mpr ⟨_, q2, by rw [← q1]⟩) nd.1
    · exact absurd (List.mem_map.mpr ⟨_, q1, by rw [← q2]⟩) nd.1
    · exact ih nd.2 q1 q2
theorem nodup_filter {R : List T3} (p : T3 → Bool) (nd : (R.map fun e => (e.1, e.2.1)).Nodup) : ((R.filter p).map fun e => (e.1, e.2.1)).Nodup :=
  nd.sublist (List.filter_sublist.map _)
/-- b and f stand side by side: their cell has a sign -/
theorem cut_sign {bs : List Bool} {S : List Nat} {R : List T3} (h : Heaped bs S R) {b f : Nat} (hb : b ∈ S) (hf : f ∈ S) (bf : b < f) (adj : ∀ k ∈ S, b < k → k < f → False) (h1 : bs[b]? = some true) (h2 : bs[f]? = some false) : ∃ s, (b, f, s) ∈ R :=
  (h.has b f hb hf bf h1 h2).mpr fun k hk z1 z2 => (adj k hk z1 z2).elim
theorem cut_free_only {bs : List Bool} {S : List Nat} {R : List T3} (h : Heaped bs S R) {b f : Nat} (hb : b ∈ S) (bf : b < f) (adj : ∀ k ∈ S, b < k → k < f → False) (m : (b, f, true) ∈ R) {b1 : Nat} {s1 : Bool} (m1 : (b1, f, s1) ∈ R) : b1 = b ∧ s1 = true := by
  obtain ⟨a1, a2, a3, a4, a5⟩ := h.inn _ _ _ m1
  rcases Nat.lt_trichotomy b1 b with z | z | z
  · exact ((((h.has b1 f a1 a2 a3 a4 a5).mp ⟨_, m1⟩ b hb z bf).1) m).elim
  · subst z; exact ⟨rfl, pair_one h.nd m1 m⟩
  · exact (adj b1 a1 z a3).elim
theorem cut_bead_only {bs : List Bool} {S : List Nat} {R : List T3} (h : Heaped bs S R) {b f : Nat} (hf : f ∈ S) (bf : b < f) (adj : ∀ k ∈ S, b < k → k < f → False) (m : (b, f, false) ∈ R) {f1 : Nat} {s1 : Bool} (m1 : (b, f1, s1) ∈ R) : f1 = f ∧ s1 = false := by
  obtain ⟨a1, a2, a3, a4, a5⟩ := h.inn _ _ _ m1
  rcases Nat.lt_trichotomy f1 f with z | z | z
  · exact (adj f1 a2 a3 z).elim
  · subst z; exact ⟨rfl, pair_one h.nd m1 m⟩
  · exact ((((h.has b f1 a1 a2 a3 a4 a5).mp ⟨_, m1⟩ f hf bf z).2) m).elim
theorem cut_free {bs : List Bool} {S S' : List Nat} {R : List T3} (h : Heaped bs S R) {b f : Nat} (hb : b ∈ S) (bf : b < f) (adj : ∀ k ∈ S, b < k → k < f → False) (h2 : bs[f]? = some false) (m : (b, f, true) ∈ R)
    (hS : ∀ x, x ∈ S' ↔ x ∈ S ∧ x ≠ f) : Heaped bs S' (R.filter fun e => decide (e.1 ≠ f) && decide (e.2.1 ≠ f)) := by
  have mem : ∀ {x y : Nat} {s : Bool}, x ≠ f → y ≠ f → ((x, y, s) ∈ R.filter (fun e => decide (e.1 ≠ f) && decide (e.2.1 ≠ f)) ↔ (x, y, s) ∈ R) := fun {x y s} nx ny => by
    rw [List.mem_filter]
    exact ⟨fun q => q.1, fun q => ⟨q, by simp [nx, ny]⟩⟩
  refine ⟨fun b1 f1 s m1 => ?_, nodup_filter _ h.nd, fun b1 f1 hb1 hf1 l k1 k2 => ?_⟩
  · obtain ⟨q, z⟩ := List.mem_filter.mp m1
    have z : b1 ≠ f ∧ f1 ≠ f := by simpa using z
    obtain ⟨a1, a2, r⟩ := h.inn _ _ _ q
    exact ⟨(hS _).mpr ⟨a1, z.1⟩, (hS _).mpr ⟨a2, z.2⟩, r⟩
  · obtain ⟨hb1, nb⟩ := (hS _).mp hb1
    obtain ⟨hf1, nf⟩ := (hS _).mp hf1
    have e := h.has b1 f1 hb1 hf1 l k1 k2
    constructor
    · rintro ⟨s, q⟩ k hk z1 z2
      obtain ⟨hk, nk⟩ := (hS _).mp hk
      rw [mem nk nf, mem nb nk]
      exact e.mp ⟨s, (mem nb nf).mp q⟩ k hk z1 z2
    · intro q
      obtain ⟨s, r⟩ := e.mpr fun k hk z1 z2 => by
        by_cases ek : k = f
        · subst ek
          refine ⟨fun z => bad (h.inn _ _ _ z).2.2.2.1 h2, fun z => ?_⟩
          have := (cut_free_only h hb bf adj m z).2
          cases this
        · have := q k ((hS _).mpr ⟨hk, ek⟩) z1 z2
          rw [mem ek nf, mem nb ek] at this
          exact this
      exact ⟨s, (mem nb nf).mpr r⟩
theorem cut_bead {bs : List Bool} {S S' : List Nat} {R : List T3} (h : Heaped bs S R) {b f : Nat} (hf : f ∈ S) (bf : b < f) (adj : ∀ k ∈ S, b < k → k < f → False) (h1 : bs[b]? = some true) (m : (b, f, false) ∈ R)
    (hS : ∀ x, x ∈ S' ↔ x ∈ S ∧ x ≠ b) : Heaped bs S' (R.filter fun e => decide (e.1 ≠ b) && decide (e.2.1 ≠ b)) := by
  have mem : ∀ {x y : Nat} {s : Bool}, x ≠ b → y ≠ b → ((x, y, s) ∈ R.filter (fun e => decide (e.1 ≠ b) && decide (e.2.1 ≠ b)) ↔ (x, y, s) ∈ R) := fun {x y s} nx ny => by
    rw [List.mem_filter]
    exact ⟨fun q => q.1, fun q => ⟨q, by simp [nx, ny]⟩⟩
  refine ⟨fun b1 f1 s m1 => ?_, nodup_filter _ h.nd, fun b1 f1 hb1 hf1 l k1 k2 => ?_⟩
  · obtain ⟨q, z⟩ := List.mem_filter.mp m1
    have z : b1 ≠ b ∧ f1 ≠ b := by simpa using z
    obtain ⟨a1, a2, r⟩ := h.inn _ _ _ q
    exact ⟨(hS _).mpr ⟨a1, z.1⟩, (hS _).mpr ⟨a2, z.2⟩, r⟩
  · obtain ⟨hb1, nb⟩ := (hS _).mp hb1
    obtain ⟨hf1, nf⟩ := (hS _).mp hf1
    have e := h.has b1 f1 hb1 hf1 l k1 k2
    constructor
    · rintro ⟨s, q⟩ k hk z1 z2
      obtain ⟨hk, nk⟩ := (hS _).mp hk
      rw [mem nk nf, mem nb nk]
      exact e.mp ⟨s, (mem nb nf).mp q⟩ k hk z1 z2
    · intro q
      obtain ⟨s, r⟩ := e.mpr fun k hk z1 z2 => by
        by_cases ek : k = b
        · subst ek
          refine ⟨fun z => ?_, fun z => bad h1 (h.inn _ _ _ z).2.2.2.2⟩
          have := (cut_bead_only h hf bf adj m z).2
          cases this
        · have := q k ((hS _).mpr ⟨hk, ek⟩) z1 z2
          rw [mem ek nf, mem nb ek] at this
          exact this
      exact ⟨s, (mem nb nf).mpr r⟩
/-- a letter that no other one meets -/
def Lone (bs : List Bool) (S : List Nat) (x : Nat) : Prop := (bs[x]? = some true ∧ ∀ y ∈ S, x < y → bs[y]? ≠ some false) ∨ (bs[x]? = some false ∧ ∀ y ∈ S, y < x → bs[y]? ≠ some true)
theorem lone_none {bs : List Bool} {S : List Nat} {R : List T3} {x : Nat} (inn : ∀ b f s, (b, f, s) ∈ R → b ∈ S ∧ f ∈ S ∧ b < f ∧ bs[b]? = some true ∧ bs[f]? = some false) (l : Lone bs S x) : (∀ f s, (x, f, s) ∉ R) ∧ ∀ b s, (b, x, s) ∉ R := by
  constructor
  · intro f s m
    obtain ⟨a1, a2, a3, a4, a5⟩ := inn _ _ _ m
    rcases l with ⟨q1, q2⟩ | ⟨q1, q2⟩
    · exact q2 f a2 a3 a5
    · exact bad a4 q1
  · intro b s m
    obtain ⟨a1, a2, a3, a4, a5⟩ := inn _ _ _ m
    rcases l with ⟨q1, q2⟩ | ⟨q1, q2⟩
    · exact bad q1 a5
    · exact q2 b a1 a3 a4
theorem lone_out {bs : List Bool} {S S' : List Nat} {R : List T3} {x : Nat} (h : Heaped bs S R) (l : Lone bs S x) (hS : ∀ y, y ∈ S' ↔ y ∈ S ∧ y ≠ x) : Heaped bs S' R := by
  obtain ⟨n1, n2⟩ := lone_none h.inn l
  refine ⟨fun b f s m => ?_, h.nd, fun b f hb hf bf k1 k2 => ?_⟩
  · obtain ⟨a1, a2, r⟩ := h.inn _ _ _ m
    exact ⟨(hS _).mpr ⟨a1, fun z => by subst z; exact n1 _ _ m⟩, (hS _).mpr ⟨a2, fun z => by subst z; exact n2 _ _ m⟩, r⟩
  · rw [h.has b f ((hS _).mp hb).1 ((hS _).mp hf).1 bf k1 k2]
    constructor
    · exact fun q k hk => q k ((hS _).mp hk).1
    · intro q k hk z1 z2
      by_cases e : k = x
      · subst e; exact ⟨n1 _ _, n2 _ _⟩
      · exact q k ((hS _).mpr ⟨hk, e⟩) z1 z2
theorem lone_in {bs : List Bool} {S S' : List Nat} {R : List T3} {x : Nat} (h : Heaped bs S' R) (l : Lone bs S x) (hS : ∀ y, y ∈ S' ↔ y ∈ S ∧ y ≠ x) : Heaped bs S R := by
  have inn : ∀ b f s, (b, f, s) ∈ R → b ∈ S ∧ f ∈ S ∧ b < f ∧ bs[b]? = some true ∧ bs[f]? = some false := fun b f s m => by
    obtain ⟨a1, a2, r⟩ := h.inn _ _ _ m
    exact ⟨((hS _).mp a1).1, ((hS _).mp a2).1, r⟩
  obtain ⟨n1, n2⟩ := lone_none inn l
  refine ⟨inn, h.nd, fun b f hb hf bf k1 k2 => ?_⟩
  have nb : b ≠ x := fun z => by
    subst z
    rcases l with ⟨q1, q2⟩ | ⟨q1, q2⟩
    · exact q2 f hf bf k2
    · exact bad k1 q1
  have nf : f ≠ x := fun z => by
    subst z
    rcases l with ⟨q1, q2⟩ | ⟨q1, q2⟩
    · exact bad q1 k2
    · exact q2 b hb bf k1
  rw [h.has b f ((hS _).mpr ⟨hb, nb⟩) ((hS _).mpr ⟨hf, nf⟩) bf k1 k2]
  constructor
  · intro q k hk z1 z2
    by_cases e : k = x
    · subst e; exact ⟨n1 _ _, n2 _ _⟩
    · exact q k ((hS _).mpr ⟨hk, e⟩) z1 z2
  · exact fun q k hk => q k ((hS _).mp hk).1
/-! ### letters named anew -/
def rl (φ : Nat → Nat) (e : T3) : T3 := (φ e.1, φ e.2.1, e.2.2)
theorem heaped_map {bs bs' : List Bool} {S S' : List Nat} {R : List T3} (φ : Nat → Nat) (mono : ∀ x ∈ S, ∀ y ∈ S, x < y → φ x < φ y) (val : ∀ x ∈ S, bs'[φ x]? = bs[x]?) (hS : ∀ y, y ∈ S' ↔ ∃ x ∈ S, y = φ x) (h : Heaped bs S R) : Heaped bs' S' (R.map (rl φ)) := by
  have inj : ∀ x ∈ S, ∀ y ∈ S, φ x = φ y → x = y := fun x hx y hy e => by
    rcases Nat.lt_trichotomy x y with z | z | z
    · have := mono x hx y hy z; omega
    · exact z
    · have := mono y hy x hx z; omega
  have back : ∀ x ∈ S, ∀ y ∈ S, φ x < φ y → x < y := fun x hx y hy l => by
    rcases Nat.lt_trichotomy x y with z | z | z
    · exact z
    · subst z; omega
    · have := mono y hy x hx z; omega
  have mem : ∀ {x y : Nat} {s : Bool}, x ∈ S → y ∈ S → ((φ x, φ y, s) ∈ R.map (rl φ) ↔ (x, y, s) ∈ R) := fun {x y s} hx hy => by
    rw [List.mem_map]
    constructor
    · rintro ⟨⟨x', y', s'⟩, m, e⟩
      obtain ⟨a1, a2, _⟩ := h.inn _ _ _ m
      unfold rl at e
      injection e with e1 e2
      injection e2 with e2 e3
      have e1 := inj _ a1 _ hx e1
      have e2 := inj _ a2 _ hy e2
      have e3 : s' = s := e3
      have e1 : x' = x := e1
      have e2 : y' = y := e2
      rw [← e1, ← e2, ← e3]
      exact m
    · exact fun m => ⟨_, m, rfl⟩
  refine ⟨fun b f s m => ?_, ?_, fun b f hb hf bf k1 k2 => ?_⟩
  · obtain ⟨⟨x, y, t⟩, m', e⟩ := List.mem_map.mp m
    unfold rl at e
    injection e with e1 e2
    injection e2 with e2 e3
    have e1 : φ x = b := e1
    have e2 : φ y = f := e2
    subst e1 e2
    obtain ⟨a1, a2, a3, a4, a5⟩ := h.inn _ _ _ m'
    exact ⟨(hS _).mpr ⟨x, a1, rfl⟩, (hS _).mpr ⟨y, a2, rfl⟩, mono _ a1 _ a2 a3, by rw [val _ a1]; exact a4, by rw [val _ a2]; exact a5⟩
  · have nd := h.nd
    have inn := h.inn
    clear h mem
    induction R with
    | nil => simp
    | cons e R ih =>
      rw [List.map_cons, List.nodup_cons] at nd
      rw [List.map_cons, List.map_cons, List.nodup_cons]
      refine ⟨fun m => ?_, ih nd.2 fun b f s m => inn b f s (List.mem_cons_of_mem _ m)⟩
      obtain ⟨z, hz, ez⟩ := List.mem_map.mp m
      obtain ⟨u, hu, rfl⟩ := List.mem_map.mp hz
      obtain ⟨u1, u2, u3⟩ := u
      obtain ⟨e1, e2, e3⟩ := e
      unfold rl at ez
      injection ez with q1 q2
      obtain ⟨a1, a2, _⟩ := inn _ _ _ (List.mem_cons_of_mem _ hu)
      obtain ⟨b1, b2, _⟩ := inn _ _ _ (List.mem_cons_self ..)
      have q1 := inj _ a1 _ b1 q1
      have q2 := inj _ a2 _ b2 q2
      exact nd.1 (List.mem_map.mpr ⟨_, hu, by show (u1, u2) = (e1, e2); rw [show u1 = e1 from q1, show u2 = e2 from q2]⟩)
  · obtain ⟨x, hx, rfl⟩ := (hS _).mp hb
    obtain ⟨y, hy, rfl⟩ := (hS _).mp hf
    have e := h.has x y hx hy (back _ hx _ hy bf) (by rw [← val _ hx]; exact k1) (by rw [← val _ hy]; exact k2)
    constructor
    · rintro ⟨s, m⟩ k hk z1 z2
      obtain ⟨u, hu, rfl⟩ := (hS _).mp hk
      rw [mem hu hy, mem hx hu]
      exact e.mp ⟨s, (mem hx hy).mp m⟩ u hu (back _ hx _ hu z1) (back _ hu _ hy z2)
    · intro q
      obtain ⟨s, m⟩ := e.mpr fun u hu z1 z2 => by
        have := q (φ u) ((hS _).mpr ⟨u, hu, rfl⟩) (mono _ hx _ hu z1) (mono _ hu _ hy z2)
        rw [mem hu hy, mem hx hu] at this
        exact this
      exact ⟨s, (mem hx hy).mpr m⟩
/-- where a place is then: one taken out, one put in -/
def plc2 (t u x : Nat) : Nat := if u ≤ (if t < x then x - 1 else x) then (if t < x then x - 1 else x) + 1 else (if t < x then x - 1 else x)
theorem plc2_mono {t u x y : Nat} (nx : x ≠ t) (ny : y ≠ t) (l : x < y) : plc2 t u x < plc2 t u y := by
  unfold plc2
  by_cases h1 : t < x <;> by_cases h2 : t < y <;> simp only [h1, h2, if_true, if_false] <;> split <;> split <;> omega
theorem plc2_ne {t u x : Nat} : plc2 t u x ≠ u := by
  unfold plc2
  by_cases h1 : t < x <;> simp only [h1, if_true, if_false] <;> split <;> omega
theorem plc2_lt {t u x n : Nat} (nx : x ≠ t) (ht : t < n) (hx : x < n) : plc2 t u x < n := by
  unfold plc2
  by_cases h1 : t < x <;> simp only [h1, if_true, if_false] <;> split <;> omega
theorem plc2_back {t u x : Nat} (nx : x ≠ t) : plc2 u t (plc2 t u x) = x := by
  unfold plc2
  by_cases h1 : t < x <;> simp only [h1, if_true, if_false] <;> split <;> split <;> split <;> omega
theorem erase_at {bs : List Bool} {t x : Nat} (nx : x ≠ t) : (bs.eraseIdx t)[if t < x then x - 1 else x]? = bs[x]? := by
  by_cases h : t < x
  · rw [if_pos h, List.getElem?_eraseIdx_of_ge (by omega), show x - 1 + 1 = x by omega]
  · rw [if_neg h, List.getElem?_eraseIdx_of_lt (by omega)]
theorem plc2_val {bs bs' : List Bool} {t u x : Nat} (e : bs.eraseIdx t = bs'.eraseIdx u) (nx : x ≠ t) : bs'[plc2 t u x]? = bs[x]? := by
  rw [← erase_at nx, e]
  unfold plc2
  generalize (if t < x then x - 1 else x) = y
  have h := erase_at (bs := bs') (t := u) (x := if u ≤ y then y + 1 else y) (by split <;> omega)
  rw [← h]
  congr 1
  by_cases z : u ≤ y
  · rw [if_pos z, if_pos (by omega)]; rfl
  · rw [if_neg z, if_neg (by omega)]
end HopH

set_option Elab.async false
set_option linter.all false
set_option maxRecDepth 100000
namespace HopH
open PySem L2 HopR HopT
/-! ### the greater walk: from heap to heap -/
theorem decA (u : List Bool) : ∃ u0 m, u = u0 ++ List.replicate m false ∧ (u0 = [] ∨ ∃ w, u0 = w ++ [true]) ∧ (u.reverse.dropWhile (!·)).length = u0.length := by
  generalize hn : u.length = n
  induction n generalizing u with
  | zero =>
    have := List.length_eq_zero_iff.mp hn
    subst this
    exact ⟨[], 0, rfl, .inl rfl, rfl⟩
  | succ n ih =>
    obtain ⟨v, b, rfl⟩ : ∃ v b, u = v ++ [b] := ⟨u.dropLast, u.getLast (fun z => by subst z; cases hn), (List.dropLast_concat_getLast _).symm⟩
    rw [List.length_append] at hn
    have hv : v.length = n := by simpa using hn
    cases b with
    | true => exact ⟨v ++ [true], 0, by simp, .inr ⟨v, rfl⟩, by simp⟩
    | false =>
      obtain ⟨u0, m, e, q, l⟩ := ih v hv
      refine ⟨u0, m + 1, ?_, q, ?_⟩
      · rw [List.replicate_succ', ← List.append_assoc, ← e]
      · rw [List.reverse_append]
        exact l
theorem decB : ∀ v : List Bool, ∃ m v0, v = List.replicate m true ++ v0 ∧ (v0 = [] ∨ ∃ w, v0 = false :: w) ∧ (v.takeWhile id).length = m
  | [] => ⟨0, [], rfl, .inl rfl, rfl⟩
  | false :: v => ⟨0, false :: v, rfl, .inr ⟨v, rfl⟩, rfl⟩
  | true :: v => by
    obtain ⟨m, v0, e, q, l⟩ := decB v
    refine ⟨m + 1, v0, ?_, q, ?_⟩
    · rw [List.replicate_succ, List.cons_append, ← e]
    · show (true :: v.takeWhile id).length = _
      rw [List.length_cons, l]
theorem wall_cases {bs : List Bool} {k : Nat} (ne : bs ≠ []) (h : k ∈ walls bs) : (k = 0 ∧ ∃ v, bs = false :: v) ∨ (∃ u v, bs = u ++ true :: false :: v ∧ k = u.length + 1) ∨ ∃ u, bs = u ++ [true] ∧ k = u.length + 1 := by
  obtain ⟨h1, h2⟩ := mem_walls.mp h
  cases k with
  | zero =>
    cases bs with
    | nil => exact absurd rfl ne
    | cons b v =>
      rw [HopW.opn_first] at h2
      cases b
      · exact .inl ⟨rfl, v, rfl⟩
      · cases h2
  | succ j =>
    have lj : (bs.take j).length = j := by rw [List.length_take]; omega
    have e : bs = bs.take j ++ bs.drop j := (List.take_append_drop ..).symm
    generalize bs.take j = u at lj e
    cases hd : bs.drop j with
    | nil =>
      have := congrArg List.length hd
      rw [List.length_drop] at this
      simp only [List.length_nil] at this
      omega
    | cons a w =>
      rw [hd] at e
      subst e
      subst lj
      cases w with
      | nil =>
        rw [HopW.opn_last] at h2
        subst h2
        exact .inr (.inr ⟨u, rfl, rfl⟩)
      | cons b v =>
        rw [HopW.opn_mid] at h2
        cases a <;> cases b
        · cases h2
        · cases h2
        · exact .inr (.inl ⟨u, v, rfl, rfl⟩)
        · cases h2
def toA (bs : List Bool) (k : Nat) : Nat := ((bs.take (k - 1)).reverse.dropWhile (!·)).length
def toB (bs : List Bool) (k : Nat) : Nat := k + 1 + ((bs.drop (k + 1)).takeWhile id).length
/-- the row behind, where a free place is put in -/
structure InA (bs : List Bool) (k : Nat) (u0 : List Bool) (m : Nat) (v : List Bool) : Prop where
  row : chg bs k = u0 ++ false :: (List.replicate m false ++ v)
  at_ : k = u0.length + 1 + m
  to : toA bs k = u0.length
  stop : u0 = [] ∨ ∃ w, u0 = w ++ [true]
  cut : ∃ t, (t = if k < bs.length then k else k - 1) ∧ bs.eraseIdx t = (chg bs k).eraseIdx u0.length
theorem inA {bs : List Bool} {k : Nat} (ne : bs ≠ []) (h : k ∈ walls bs) (h0 : 0 < k) : ∃ u0 m v, InA bs k u0 m v := by
  rcases wall_cases ne h with ⟨rfl, _⟩ | ⟨u, v, rfl, rfl⟩ | ⟨u, rfl, rfl⟩
  · omega
  · obtain ⟨u0, m, e, q, l⟩ := decA u
    refine ⟨u0, m, true :: v, ?_, ?_, ?_, q, _, rfl, ?_⟩
    · rw [HopW.chg_mid, e, List.append_assoc]
      congr 1
      rw [← List.cons_append, ← List.replicate_succ, List.replicate_succ', List.append_assoc]
      rfl
    · rw [e, List.length_append, List.length_replicate]; omega
    · unfold toA
      rw [Nat.add_sub_cancel, List.take_left]
      exact l
    · rw [if_pos (by rw [List.length_append]; simp), HopW.chg_mid]
      have e1 : u ++ false :: true :: v = u0 ++ false :: (List.replicate m false ++ true :: v) := by
        rw [e, List.append_assoc]
        congr 1
        rw [← List.cons_append, ← List.replicate_succ, List.replicate_succ', List.append_assoc]
        rfl
      rw [e1, List.eraseIdx_append_of_length_le (Nat.le_refl _), Nat.sub_self, List.eraseIdx_cons_zero, ← List.append_assoc, ← e, List.eraseIdx_append_of_length_le (by omega), show u.length + 1 - u.length = 1 by omega]
      rfl
  · obtain ⟨u0, m, e, q, l⟩ := decA u
    refine ⟨u0, m, [], ?_, ?_, ?_, q, _, rfl, ?_⟩
    · rw [HopW.chg_last, e, List.append_assoc]
      congr 1
      rw [← List.cons_append, ← List.replicate_succ, List.replicate_succ', List.append_nil]
    · rw [e, List.length_append, List.length_replicate]; omega
    · unfold toA
      rw [Nat.add_sub_cancel, List.take_left]
      exact l
    · rw [if_neg (by rw [List.length_append]; simp), HopW.chg_last]
      have e1 : u ++ [false] = u0 ++ false :: (List.replicate m false) := by
        rw [e, List.append_assoc]
        congr 1
        rw [← List.replicate_succ, List.replicate_succ']
      rw [e1, List.eraseIdx_append_of_length_le (Nat.le_refl _), Nat.sub_self, List.eraseIdx_cons_zero, ← e, List.eraseIdx_append_of_length_le (by omega), show u.length + 1 - 1 - u.length = 0 by omega]
      simp
/-- the row behind, where a bead is put in -/
structure InB (bs : List Bool) (k : Nat) (u : List Bool) (m : Nat) (v0 : List Bool) : Prop where
  row : chg bs k = u ++ (List.replicate m true ++ true :: v0)
  at_ : k = u.length
  to : toB bs k = u.length + m + 1
  stop : v0 = [] ∨ ∃ w, v0 = false :: w
  cut : bs.eraseIdx (k - 1) = (chg bs k).eraseIdx (u.length + m)
theorem inB {bs : List Bool} {k : Nat} (ne : bs ≠ []) (h : k ∈ walls bs) (hn : k < bs.length) : ∃ u m v0, InB bs k u m v0 := by
  rcases wall_cases ne h with ⟨rfl, v, rfl⟩ | ⟨u, v, rfl, rfl⟩ | ⟨u, rfl, rfl⟩
  · obtain ⟨m, v0, e, q, l⟩ := decB v
    have e1 : true :: v = [] ++ (List.replicate m true ++ true :: v0) := by
      rw [e, List.nil_append, ← List.cons_append, ← List.replicate_succ, List.replicate_succ', List.append_assoc]
      rfl
    refine ⟨[], m, v0, ?_, rfl, ?_, q, ?_⟩
    · rw [HopW.chg_first, e1]
    · unfold toB
      rw [List.drop_succ_cons, List.drop_zero, l]
      show 0 + 1 + m = 0 + m + 1
      omega
    · rw [HopW.chg_first, e1, List.nil_append, List.length_nil, Nat.zero_add]
      show v = _
      rw [List.eraseIdx_append_of_length_le (by rw [List.length_replicate]; exact Nat.le_refl _), List.length_replicate, Nat.sub_self]
      exact e
  · obtain ⟨m, v0, e, q, l⟩ := decB v
    have e1 : u ++ false :: true :: v = (u ++ [false]) ++ (List.replicate m true ++ true :: v0) := by
      rw [e, List.append_assoc]
      congr 1
      rw [List.singleton_append]
      congr 1
      rw [← List.cons_append, ← List.replicate_succ, List.replicate_succ', List.append_assoc]
      rfl
    refine ⟨u ++ [false], m, v0, ?_, ?_, ?_, q, ?_⟩
    · rw [HopW.chg_mid, e1]
    · rw [List.length_append]; rfl
    · unfold toB
      rw [List.drop_append, List.drop_of_length_le (by omega), show u.length + 1 + 1 - u.length = 2 by omega]
      show u.length + 1 + 1 + (v.takeWhile id).length = _
      rw [l, List.length_append, List.length_singleton]
      omega
    · have l1 : (u ++ true :: false :: v).eraseIdx (u.length + 1 - 1) = u ++ false :: v := by
        rw [Nat.add_sub_cancel, List.eraseIdx_append_of_length_le (Nat.le_refl _), Nat.sub_self]
        rfl
      have l2 : ((u ++ [false]) ++ (List.replicate m true ++ true :: v0)).eraseIdx ((u ++ [false]).length + m) = (u ++ [false]) ++ (List.replicate m true ++ v0) := by
        rw [List.eraseIdx_append_of_length_le (Nat.le_add_right _ _), Nat.add_sub_cancel_left, List.eraseIdx_append_of_length_le (by rw [List.length_replicate]; exact Nat.le_refl _), List.length_replicate, Nat.sub_self]
        rfl
      rw [HopW.chg_mid, e1, l1, l2, ← e, List.append_assoc]
      rfl
  · rw [List.length_append] at hn
    simp at hn
/-! what the places say -/
theorem InA.run {bs : List Bool} {k : Nat} {u0 v : List Bool} {m : Nat} (x : InA bs k u0 m v) {j : Nat} (h1 : toA bs k ≤ j) (h2 : j < k) : (chg bs k)[j]? = some false := by
  rw [x.to] at h1
  have := x.at_
  rw [x.row, List.getElem?_append_right h1, ← List.cons_append, ← List.replicate_succ, List.getElem?_append_left (by rw [List.length_replicate]; omega), List.getElem?_replicate, if_pos (by omega)]
theorem InA.ahead {bs : List Bool} {k : Nat} {u0 v : List Bool} {m : Nat} (x : InA bs k u0 m v) (h : 0 < toA bs k) : (chg bs k)[toA bs k - 1]? = some true := by
  rw [x.to] at h ⊢
  rcases x.stop with e | ⟨w, e⟩
  · rw [e] at h; exact absurd h (by simp)
  · rw [x.row, e, List.length_append, List.length_singleton, Nat.add_sub_cancel, List.append_assoc, List.getElem?_append_right (Nat.le_refl _), Nat.sub_self]
    rfl
theorem InA.lt {bs : List Bool} {k : Nat} {u0 v : List Bool} {m : Nat} (x : InA bs k u0 m v) : toA bs k < k := by
  rw [x.to, x.at_]; omega
theorem InB.run {bs : List Bool} {k : Nat} {u v0 : List Bool} {m : Nat} (x : InB bs k u m v0) {j : Nat} (h1 : k ≤ j) (h2 : j < toB bs k) : (chg bs k)[j]? = some true := by
  rw [x.to] at h2
  rw [x.at_] at h1
  have e : List.replicate m true ++ true :: v0 = List.replicate (m + 1) true ++ v0 := by
    rw [List.replicate_succ', List.append_assoc]; rfl
  rw [x.row, List.getElem?_append_right h1, e, List.getElem?_append_left (by rw [List.length_replicate]; omega), List.getElem?_replicate, if_pos (by omega)]
theorem InB.len {bs : List Bool} {k : Nat} {u v0 : List Bool} {m : Nat} (x : InB bs k u m v0) (h : k ≤ bs.length) : bs.length = toB bs k + v0.length := by
  have := congrArg List.length x.row
  rw [chg_len h, List.length_append, List.length_append, List.length_replicate, List.length_cons] at this
  rw [x.to]; omega
theorem InB.behind {bs : List Bool} {k : Nat} {u v0 : List Bool} {m : Nat} (x : InB bs k u m v0) (hk : k ≤ bs.length) (h : toB bs k < bs.length) : (chg bs k)[toB bs k]? = some false := by
  have l := x.len hk
  rcases x.stop with e | ⟨w, e⟩
  · rw [e, List.length_nil] at l; omega
  · have e1 : List.replicate m true ++ true :: v0 = List.replicate (m + 1) true ++ v0 := by
      rw [List.replicate_succ', List.append_assoc]; rfl
    rw [x.to, x.row, e1, List.getElem?_append_right (by omega), List.getElem?_append_right (by rw [List.length_replicate]; omega), List.length_replicate, show u.length + m + 1 - u.length - (m + 1) = 0 by omega, e]
    rfl
theorem InB.gt {bs : List Bool} {k : Nat} {u v0 : List Bool} {m : Nat} (x : InB bs k u m v0) : k < toB bs k := by
  rw [x.to, x.at_]; omega
/-! the heap behind -/
def cutR (t : Nat) (R : List T3) : List T3 := R.filter fun e => decide (e.1 ≠ t) && decide (e.2.1 ≠ t)
theorem lone_cut {bs : List Bool} {S : List Nat} {R : List T3} {x : Nat} (h : Heaped bs S R) (l : Lone bs S x) : cutR x R = R := by
  obtain ⟨n1, n2⟩ := lone_none h.inn l
  unfold cutR
  refine List.filter_eq_self.mpr fun e m => ?_
  obtain ⟨b, f, s⟩ := e
  have h1 : b ≠ x := fun z => by subst z; exact n1 _ _ m
  have h2 : f ≠ x := fun z => by subst z; exact n2 _ _ m
  simp [h1, h2]
theorem moved_heap {bs bs' : List Bool} {R : List T3} {t u : Nat} (ht : t < bs.length) (hu : u < bs.length) (e : bs.eraseIdx t = bs'.eraseIdx u)
    (out : ∀ S', (∀ x, x ∈ S' ↔ x ∈ List.range bs.length ∧ x ≠ t) → Heaped bs S' (cutR t R)) : ∀ S', (∀ x, x ∈ S' ↔ x ∈ List.range bs.length ∧ x ≠ u) → Heaped bs' S' ((cutR t R).map (rl (plc2 t u))) := by
  intro S' hS'
  have hS : ∀ x, x ∈ (List.range bs.length).filter (fun x => decide (x ≠ t)) ↔ x ∈ List.range bs.length ∧ x ≠ t := fun x => by
    rw [List.mem_filter]
    simp
  refine heaped_map (plc2 t u) (fun x hx y hy l => plc2_mono ((hS x).mp hx).2 ((hS y).mp hy).2 l) (fun x hx => plc2_val e ((hS x).mp hx).2) (fun y => ?_) (out _ hS)
  rw [hS']
  constructor
  · rintro ⟨hy, ny⟩
    refine ⟨plc2 u t y, (hS _).mpr ⟨List.mem_range.mpr (plc2_lt ny hu (List.mem_range.mp hy)), plc2_ne⟩, (plc2_back ny).symm⟩
  · rintro ⟨x, hx, rfl⟩
    obtain ⟨hx, nx⟩ := (hS x).mp hx
    exact ⟨List.mem_range.mpr (plc2_lt nx ht (List.mem_range.mp hx)), plc2_ne⟩
theorem without (n u : Nat) : ∀ x, x ∈ (List.range n).filter (fun x => decide (x ≠ u)) ↔ x ∈ List.range n ∧ x ≠ u := fun x => by
  rw [List.mem_filter]
  simp
theorem put_free {bs' : List Bool} {n u : Nat} {M : List T3} (hn : bs'.length = n) (hu : u < n) (m : ∀ S', (∀ x, x ∈ S' ↔ x ∈ List.range n ∧ x ≠ u) → Heaped bs' S' M) (h0 : bs'[u]? = some false) (h1 : 0 < u → bs'[u - 1]? = some true) :
    Heaped bs' (List.range n) ((if 0 < u then [(u - 1, u, true)] else []) ++ M) := by
  have hm := m _ (without n u)
  by_cases z : 0 < u
  · rw [if_pos z]
    exact heaped_free (List.mem_range.mpr (by omega)) (List.mem_range.mpr hu) (by omega) (fun k _ a b => by omega) (h1 z) h0 (without n u) hm
  · rw [if_neg z]
    refine lone_in hm (.inr ⟨h0, fun y _ l => by omega⟩) (without n u)
theorem put_bead {bs' : List Bool} {n u : Nat} {M : List T3} (hn : bs'.length = n) (hu : u < n) (m : ∀ S', (∀ x, x ∈ S' ↔ x ∈ List.range n ∧ x ≠ u) → Heaped bs' S' M) (h0 : bs'[u]? = some true) (h1 : u + 1 < n → bs'[u + 1]? = some false) :
    Heaped bs' (List.range n) ((if u + 1 < n then [(u, u + 1, false)] else []) ++ M) := by
  have hm := m _ (without n u)
  by_cases z : u + 1 < n
  · rw [if_pos z]
    exact heaped_bead (List.mem_range.mpr hu) (List.mem_range.mpr z) (by omega) (fun k _ a b => by omega) h0 (h1 z) (without n u) hm
  · rw [if_neg z]
    refine lone_in hm (.inl ⟨h0, fun y hy l => ?_⟩) (without n u)
    have := List.mem_range.mp hy
    omega
/-- is the free place behind the wall taken out, or else the bead ahead of it -/
def sideO (bs : List Bool) (ts : List I3) (k : Nat) : Bool := decide (k = bs.length) || (decide (0 < k) && decide (sg ts ((k : Int) - 1, (k : Int)) = some true))
def ldT (bs : List Bool) (ts : List I3) (k : Nat) : Nat := if sideO bs ts k = true ∧ k < bs.length then k else k - 1
def ldTo (bs : List Bool) (ts : List I3) (k : Nat) : Nat := if sideO bs ts k = true then toA bs k else toB bs k
def ldU (bs : List Bool) (ts : List I3) (k : Nat) : Nat := if sideO bs ts k = true then toA bs k else toB bs k - 1
def plI (t u x : Int) : Int := if u ≤ (if t < x then x - 1 else x) then (if t < x then x - 1 else x) + 1 else (if t < x then x - 1 else x)
theorem plI_nat (t u x : Nat) : plI (t : Int) (u : Int) (x : Int) = ((plc2 t u x : Nat) : Int) := by
  unfold plI plc2
  by_cases h : t < x
  · rw [if_pos h, if_pos (by omega : (t : Int) < (x : Int))]
    by_cases z : u ≤ x - 1
    · rw [if_pos z, if_pos (by omega)]; omega
    · rw [if_neg z, if_neg (by omega)]; omega
  · rw [if_neg h, if_neg (by omega : ¬ (t : Int) < (x : Int))]
    by_cases z : u ≤ x
    · rw [if_pos z, if_pos (by omega)]; omega
    · rw [if_neg z, if_neg (by omega)]
def rlI (t u : Int) (e : I3) : I3 := (plI t u e.1, plI t u e.2.1, e.2.2)
def keepI (t : Int) (e : I3) : Bool := decide (e.1 ≠ t) && decide (e.2.1 ≠ t)
def mvI (t u : Int) (ts : List I3) : List I3 := (ts.filter (keepI t)).map (rlI t u)
def ldE (bs : List Bool) (ts : List I3) (k : Nat) : List I3 := if 0 < ldTo bs ts k ∧ ldTo bs ts k < bs.length then [((ldTo bs ts k : Int) - 1, (ldTo bs ts k : Int), sideO bs ts k)] else []
def ldM (bs : List Bool) (ts : List I3) (k : Nat) : List I3 := mvI (ldT bs ts k : Int) (ldU bs ts k : Int) ts ++ ldE bs ts k
theorem mvI_c3 (t u : Nat) (R : List T3) : mvI (t : Int) (u : Int) (R.map c3) = ((cutR t R).map (rl (plc2 t u))).map c3 := by
  unfold mvI cutR
  rw [List.filter_map, List.map_map, List.map_map]
  have e1 : (keepI (t : Int) ∘ c3) = fun e : T3 => decide (e.1 ≠ t) && decide (e.2.1 ≠ t) := by
    funext e
    obtain ⟨a, b, s⟩ := e
    show (decide (((a : Nat) : Int) ≠ (t : Int)) && decide (((b : Nat) : Int) ≠ (t : Int))) = (decide (a ≠ t) && decide (b ≠ t))
    have q : ∀ x : Nat, decide (((x : Nat) : Int) ≠ (t : Int)) = decide (x ≠ t) := fun x => decide_eq_decide.mpr (by omega)
    rw [q, q]
  rw [e1]
  refine List.map_congr_left fun e _ => ?_
  obtain ⟨a, b, s⟩ := e
  show ((plI t u (a : Int), plI t u (b : Int), s) : I3) = (((plc2 t u a : Nat) : Int), ((plc2 t u b : Nat) : Int), s)
  rw [plI_nat, plI_nat]
theorem mvI_perm {t u : Int} {ts us : List I3} (p : ts.Perm us) : (mvI t u ts).Perm (mvI t u us) := (p.filter _).map _
theorem mvI_len (t u : Int) (ts : List I3) : (mvI t u ts).length ≤ ts.length := by
  unfold mvI
  rw [List.length_map]
  exact List.length_filter_le ..
theorem ldE_len (bs : List Bool) (ts : List I3) (k : Nat) : (ldE bs ts k).length ≤ 1 := by
  unfold ldE
  split
  · exact Nat.le_refl _
  · exact Nat.zero_le _
theorem ldM_len (bs : List Bool) (ts : List I3) (k : Nat) : (ldM bs ts k).length ≤ ts.length + 1 := by
  unfold ldM
  rw [List.length_append]
  have := mvI_len (ldT bs ts k : Int) (ldU bs ts k : Int) ts
  have := ldE_len bs ts k
  omega
theorem side_mid {bs : List Bool} {ts : List I3} (h : HeapL bs ts) {k : Nat} (h0 : 0 < k) (hn : k < bs.length) (h1 : bs[k - 1]? = some true) (h2 : bs[k]? = some false) : sg ts ((k : Int) - 1, (k : Int)) = some (sideO bs ts k) := by
  obtain ⟨R, hR, p, so, _⟩ := h
  obtain ⟨s, m⟩ := cut_sign hR (List.mem_range.mpr (show k - 1 < _ by omega)) (List.mem_range.mpr hn) (by omega) (fun j _ a b => by omega) h1 h2
  have m' : (((k : Int) - 1, (k : Int), s) : I3) ∈ ts := p.mem_iff.mpr (List.mem_map.mpr ⟨_, m, by show (((k - 1 : Nat) : Int), (k : Int), s) = _; rw [show ((k - 1 : Nat) : Int) = (k : Int) - 1 by omega]⟩)
  have e := (sg_iff so).mpr m'
  rw [e]
  unfold sideO
  rw [decide_eq_false (by omega : ¬ k = bs.length), decide_eq_true h0, e]
  cases s <;> rfl
theorem wall_bits {bs : List Bool} {k : Nat} (ne : bs ≠ []) (h : k ∈ walls bs) : (0 < k → bs[k - 1]? = some true) ∧ (k < bs.length → bs[k]? = some false) := by
  rcases wall_cases ne h with ⟨rfl, v, rfl⟩ | ⟨u, v, rfl, rfl⟩ | ⟨u, rfl, rfl⟩
  · exact ⟨fun z => by omega, fun _ => rfl⟩
  · refine ⟨fun _ => ?_, fun _ => ?_⟩
    · rw [Nat.add_sub_cancel, List.getElem?_append_right (Nat.le_refl _), Nat.sub_self]; rfl
    · rw [List.getElem?_append_right (by omega), show u.length + 1 - u.length = 1 by omega]; rfl
  · refine ⟨fun _ => ?_, fun z => ?_⟩
    · rw [Nat.add_sub_cancel, List.getElem?_append_right (Nat.le_refl _), Nat.sub_self]; rfl
    · rw [List.length_append] at z; simp at z
theorem led_heap {bs : List Bool} {ts us : List I3} {k : Nat} (ne : bs ≠ []) (h : HeapL bs ts) (hk : k ∈ walls bs) (ln : ts.length ≤ 999) (pm : us.Perm (ldM bs ts k)) (sd : us.Pairwise fun x y => lexK (k3 y) (k3 x) = false) : HeapL (chg bs k) us := by
  have hk1 := (mem_walls.mp hk).1
  have pos : 0 < bs.length := List.length_pos_iff.mpr ne
  obtain ⟨b1, b2⟩ := wall_bits ne hk
  have lc := chg_len hk1
  have sgn := fun a b => side_mid h (k := k) a b (b1 a) (b2 b)
  obtain ⟨R, hR, p, so, _⟩ := id h
  have fin : ∀ {M : List T3} {e : List T3}, Heaped (chg bs k) (List.range bs.length) (e ++ M) → (M.map c3).Perm (mvI (ldT bs ts k : Int) (ldU bs ts k : Int) ts) → e.map c3 = ldE bs ts k → HeapL (chg bs k) us := by
    intro M e hM q1 q2
    have pp : us.Perm ((e ++ M).map c3) := by
      refine pm.trans ?_
      unfold ldM
      rw [List.map_append, q2]
      exact (q1.symm.append_right _).trans List.perm_append_comm
    refine ⟨e ++ M, by rw [lc]; exact hM, pp, sorted_pairs hM.nd pp sd, ?_⟩
    rw [pm.length_eq]
    exact Nat.le_trans (ldM_len ..) (by omega)
  cases hs : sideO bs ts k with
  | true =>
    have k0 : 0 < k := by
      unfold sideO at hs
      rcases Nat.eq_zero_or_pos k with z | z
      · subst z
        rw [decide_eq_false (by omega), decide_eq_false (by omega)] at hs
        cases hs
      · exact z
    obtain ⟨u0, m, v, x⟩ := inA ne hk k0
    obtain ⟨t, et, ec⟩ := x.cut
    have eT : ldT bs ts k = t := by
      unfold ldT
      rw [hs, et]
      by_cases z : k < bs.length
      · rw [if_pos ⟨rfl, z⟩, if_pos z]
      · rw [if_neg fun q => z q.2, if_neg z]
    have eU : ldU bs ts k = toA bs k := by unfold ldU; rw [if_pos hs]
    have eTo : ldTo bs ts k = toA bs k := by unfold ldTo; rw [if_pos hs]
    have lt := x.lt
    have tl : t < bs.length := by rw [et]; split <;> omega
    rw [← x.to] at ec
    have out : ∀ S', (∀ y, y ∈ S' ↔ y ∈ List.range bs.length ∧ y ≠ t) → Heaped bs S' (cutR t R) := by
      intro S' hS'
      by_cases z : k < bs.length
      · rw [if_pos z] at et
        subst et
        have e := sgn k0 z
        rw [hs] at e
        have m' := p.mem_iff.mp ((sg_iff so).mp e)
        obtain ⟨⟨a, b, s⟩, m', q⟩ := List.mem_map.mp m'
        unfold c3 at q
        injection q with q1 q2
        injection q2 with q2 q3
        have w1 : (a : Int) = (t : Int) - 1 := q1
        have w2 : (b : Int) = (t : Int) := q2
        have w3 : s = true := q3
        obtain rfl : a = t - 1 := by omega
        obtain rfl : b = t := by omega
        subst w3
        exact cut_free hR (List.mem_range.mpr (by omega)) (by omega) (fun j _ a b => by omega) (b2 z) m' hS'
      · rw [if_neg z] at et
        subst et
        have l : Lone bs (List.range bs.length) (k - 1) := .inl ⟨b1 k0, fun y hy ly => by
          have := List.mem_range.mp hy
          omega⟩
        rw [lone_cut hR l]
        exact lone_out hR l hS'
    refine fin (put_free lc (by omega) (moved_heap tl (by omega) ec out) (x.run (Nat.le_refl _) lt) fun z => x.ahead z) ?_ ?_
    · rw [eT, eU, ← mvI_c3]
      exact mvI_perm p.symm
    · unfold ldE
      rw [eTo, hs]
      by_cases z : 0 < toA bs k
      · rw [if_pos z, if_pos ⟨z, by omega⟩, List.map_singleton]
        show [((((toA bs k - 1 : Nat) : Int), ((toA bs k : Nat) : Int), true) : I3)] = _
        rw [show ((toA bs k - 1 : Nat) : Int) = (toA bs k : Int) - 1 by omega]
      · rw [if_neg z, if_neg fun q => z q.1, List.map_nil]
  | false =>
    have kn : k < bs.length := by
      unfold sideO at hs
      rcases Nat.lt_or_ge k bs.length with z | z
      · exact z
      · rw [decide_eq_true (by omega : k = bs.length)] at hs
        cases hs
    obtain ⟨u, m, v0, x⟩ := inB ne hk kn
    have ec := x.cut
    have eT : ldT bs ts k = k - 1 := by
      unfold ldT
      rw [hs, if_neg fun q => by cases q.1]
    have eU : ldU bs ts k = toB bs k - 1 := by unfold ldU; rw [hs, if_neg (by decide)]
    have eTo : ldTo bs ts k = toB bs k := by unfold ldTo; rw [hs, if_neg (by decide)]
    have lt := x.gt
    have ll := x.len hk1
    have eu : u.length + m = toB bs k - 1 := by rw [x.to]; omega
    rw [eu] at ec
    have out : ∀ S', (∀ y, y ∈ S' ↔ y ∈ List.range bs.length ∧ y ≠ k - 1) → Heaped bs S' (cutR (k - 1) R) := by
      intro S' hS'
      by_cases z : 0 < k
      · have e := sgn z kn
        rw [hs] at e
        have m' := p.mem_iff.mp ((sg_iff so).mp e)
        obtain ⟨⟨a, b, s⟩, m', q⟩ := List.mem_map.mp m'
        unfold c3 at q
        injection q with q1 q2
        injection q2 with q2 q3
        have w1 : (a : Int) = (k : Int) - 1 := q1
        have w2 : (b : Int) = (k : Int) := q2
        have w3 : s = false := q3
        obtain rfl : a = k - 1 := by omega
        obtain rfl : b = k := by omega
        subst w3
        exact cut_bead hR (List.mem_range.mpr kn) (by omega) (fun j _ a b => by omega) (b1 z) m' hS'
      · have ez : k = 0 := by omega
        subst ez
        have l : Lone bs (List.range bs.length) (0 - 1) := .inr ⟨b2 kn, fun y _ ly => by omega⟩
        rw [lone_cut hR l]
        exact lone_out hR l hS'
    refine fin (put_bead lc (by omega) (moved_heap (t := k - 1) (u := toB bs k - 1) (by omega) (by omega) ec out) (x.run (by omega) (by omega)) fun z => by rw [show toB bs k - 1 + 1 = toB bs k by omega] at z ⊢; exact x.behind hk1 z) ?_ ?_
    · rw [eT, eU, ← mvI_c3]
      exact mvI_perm p.symm
    · unfold ldE
      rw [eTo, hs, show toB bs k - 1 + 1 = toB bs k by omega]
      by_cases z : toB bs k < bs.length
      · rw [if_pos z, if_pos ⟨by omega, z⟩, List.map_singleton]
        show [((((toB bs k - 1 : Nat) : Int), ((toB bs k : Nat) : Int), false) : I3)] = _
        rw [show ((toB bs k - 1 : Nat) : Int) = (toB bs k : Int) - 1 by omega]
      · rw [if_neg z, if_neg fun q => z q.2, List.map_nil]
/-- the wall to which it comes is open -/
theorem led_open {bs : List Bool} {ts : List I3} {k : Nat} (ne : bs ≠ []) (hk : k ∈ walls bs) : ldTo bs ts k ∈ walls (chg bs k) := by
  have hk1 := (mem_walls.mp hk).1
  have lc := chg_len hk1
  have pos : 0 < bs.length := List.length_pos_iff.mpr ne
  unfold ldTo
  cases hs : sideO bs ts k with
  | true =>
    have k0 : 0 < k := by
      unfold sideO at hs
      rcases Nat.eq_zero_or_pos k with z | z
      · subst z
        rw [decide_eq_false (by omega), decide_eq_false (by omega)] at hs
        cases hs
      · exact z
    obtain ⟨u0, m, v, x⟩ := inA ne hk k0
    rw [if_pos rfl, x.to]
    refine mem_walls.mpr ⟨by rw [x.row, List.length_append]; omega, ?_⟩
    rcases x.stop with e | ⟨w, e⟩
    · rw [x.row, e]
      exact HopW.opn_first ..
    · rw [x.row, e, List.length_append, List.length_singleton, List.append_assoc]
      exact HopW.opn_mid w _ true false
  | false =>
    have kn : k < bs.length := by
      unfold sideO at hs
      rcases Nat.lt_or_ge k bs.length with z | z
      · exact z
      · rw [decide_eq_true (by omega : k = bs.length)] at hs
        cases hs
    obtain ⟨u, m, v0, x⟩ := inB ne hk kn
    rw [if_neg (by decide)]
    refine mem_walls.mpr ⟨by rw [lc]; have := x.len hk1; omega, ?_⟩
    have e1 : chg bs k = (u ++ List.replicate m true) ++ true :: v0 := by rw [x.row, List.append_assoc]
    have e2 : toB bs k = (u ++ List.replicate m true).length + 1 := by rw [x.to, List.length_append, List.length_replicate]
    rw [e1, e2]
    rcases x.stop with e | ⟨w, e⟩
    · rw [e]
      exact HopW.opn_last ..
    · rw [e]
      exact HopW.opn_mid _ w true false
end HopH

set_option Elab.async false
set_option linter.all false
set_option maxRecDepth 100000
namespace HopH
open PySem PySem.Spec PyProof PyProof.Rows L2 HopR HopT
theorem rstrip_len (x y : Str) : (Txt.rstripChars x y).length = x.length - (x.cps.toList.reverse.takeWhile y.cps.contains).length := by
  have e : stripLo y.cps.contains false x = 0 := rfl
  have e2 : stripHi y.cps.contains true x 0 = x.length - (x.cps.toList.reverse.takeWhile y.cps.contains).length := by
    unfold stripHi
    rw [if_pos rfl, List.drop_zero]
  unfold Txt.rstripChars Txt.stripBy
  split
  · rename_i h
    unfold stripSame at h
    rw [e, e2, Bool.and_eq_true] at h
    rw [beq_iff_eq.mp h.2]
  · unfold stripped
    rw [e, e2]
    show (PySem.Builtin.Str.strSub x 0 _).cps.size = _
    unfold PySem.Builtin.Str.strSub
    rw [Array.size_extract]
    show min _ x.length - 0 = _
    omega
theorem lstrip_len (x y : Str) : (Txt.lstripChars x y).length = x.length - (x.cps.toList.takeWhile y.cps.contains).length := by
  have e : stripLo y.cps.contains true x = (x.cps.toList.takeWhile y.cps.contains).length := rfl
  have e2 : ∀ n, stripHi y.cps.contains false x n = x.length := fun n => rfl
  unfold Txt.lstripChars Txt.stripBy
  split
  · rename_i h
    unfold stripSame at h
    rw [e, e2, Bool.and_eq_true] at h
    rw [beq_iff_eq.mp h.1, Nat.sub_zero]
  · unfold stripped
    rw [e, e2]
    show (PySem.Builtin.Str.strSub x _ _).cps.size = _
    unfold PySem.Builtin.Str.strSub
    rw [Array.size_extract]
    show min x.length x.length - _ = _
    omega
theorem has_free : (fun c => (tx [false]).cps.contains c) ∘ cd = fun b => !b := by
  funext b
  cases b <;> decide +kernel
theorem has_bead : (fun c => (tx [true]).cps.contains c) ∘ cd = fun b => b := by
  funext b
  cases b <;> decide +kernel
/-- where the block starts -/
theorem start_len {bs : List Bool} {k : Nat} {u0 v : List Bool} {m : Nat} (x : InA bs k u0 m v) : (Txt.rstripChars (tx ((chg bs k).take k)) (tx [false])).length = toA bs k := by
  have e : (chg bs k).take k = u0 ++ List.replicate (m + 1) false := by
    rw [x.row, x.at_, ← List.cons_append, ← List.replicate_succ, ← List.append_assoc, List.take_append_of_le_length (by rw [List.length_append, List.length_replicate]; omega), List.take_of_length_le (by rw [List.length_append, List.length_replicate]; omega)]
  rw [rstrip_len, e, tx_len, tx_list, ← List.map_reverse, List.takeWhile_map, has_free, List.length_map, List.reverse_append, List.reverse_replicate, List.takeWhile_append_of_pos (by intro a ha; rw [List.eq_of_mem_replicate ha]; rfl)]
  have z : u0.reverse.takeWhile (fun b => !b) = [] := by
    rcases x.stop with q | ⟨w, q⟩
    · rw [q]; rfl
    · rw [q, List.reverse_append]; rfl
  rw [z, List.append_nil, List.length_append, List.length_replicate, x.to]
  omega
/-- where the block stops -/
theorem stop_len {bs : List Bool} {k : Nat} {u v0 : List Bool} {m : Nat} (x : InB bs k u m v0) : ((chg bs k).length : Int) - ((Txt.lstripChars (tx ((chg bs k).drop k)) (tx [true])).length : Int) = (toB bs k : Int) := by
  have e : (chg bs k).drop k = List.replicate (m + 1) true ++ v0 := by
    rw [x.row, x.at_, List.drop_left, List.replicate_succ', List.append_assoc]
    rfl
  have el : (chg bs k).length = u.length + (m + 1) + v0.length := by
    rw [x.row, List.length_append, List.length_append, List.length_replicate, List.length_cons]
    omega
  rw [lstrip_len, e, tx_len, tx_list, List.takeWhile_map, has_bead, List.length_map, List.takeWhile_append_of_pos (by intro a ha; rw [List.eq_of_mem_replicate ha])]
  have z : v0.takeWhile (fun b => b) = [] := by
    rcases x.stop with q | ⟨w, q⟩
    · rw [q]; rfl
    · rw [q]; rfl
  rw [z, List.append_nil, List.length_append, List.length_replicate, x.to, el]
  omega
end HopH

set_option Elab.async false
set_option linter.all false
set_option maxRecDepth 100000
namespace HopH
open PySem L2 HopR HopT
/-! ### the greater walk, back -/
def fromO (bs : List Bool) (w : Nat) : Nat := w + ((bs.drop w).takeWhile (!·)).length
def fromF (bs : List Bool) (w : Nat) : Nat := ((bs.take w).reverse.dropWhile id).length
theorem chg_bits {bs : List Bool} {k : Nat} (ne : bs ≠ []) (h : k ∈ walls bs) : (0 < k → (chg bs k)[k - 1]? = some false) ∧ (k < bs.length → (chg bs k)[k]? = some true) := by
  rcases wall_cases ne h with ⟨rfl, v, rfl⟩ | ⟨u, v, rfl, rfl⟩ | ⟨u, rfl, rfl⟩
  · exact ⟨fun z => by omega, fun _ => by rw [HopW.chg_first]; rfl⟩
  · refine ⟨fun _ => ?_, fun _ => ?_⟩
    · rw [HopW.chg_mid, Nat.add_sub_cancel, List.getElem?_append_right (Nat.le_refl _), Nat.sub_self]; rfl
    · rw [HopW.chg_mid, List.getElem?_append_right (by omega), show u.length + 1 - u.length = 1 by omega]; rfl
  · refine ⟨fun _ => ?_, fun z => ?_⟩
    · rw [HopW.chg_last, Nat.add_sub_cancel, List.getElem?_append_right (Nat.le_refl _), Nat.sub_self]; rfl
    · rw [List.length_append] at z; simp at z
theorem ahd_chg {bs : List Bool} {k : Nat} (ne : bs ≠ []) (h : k ∈ walls bs) : HopW.ahd (chg bs k) k = bs := by
  rcases wall_cases ne h with ⟨rfl, v, rfl⟩ | ⟨u, v, rfl, rfl⟩ | ⟨u, rfl, rfl⟩
  · rw [HopW.chg_first, HopW.ahd_first]
  · rw [HopW.chg_mid, HopW.ahd_mid]
  · rw [HopW.chg_last, HopW.ahd_last]
theorem decC : ∀ v : List Bool, ∃ m v0, v = List.replicate m false ++ v0 ∧ (v0 = [] ∨ ∃ w, v0 = true :: w)
  | [] => ⟨0, [], rfl, .inl rfl⟩
  | true :: v => ⟨0, true :: v, rfl, .inr ⟨v, rfl⟩⟩
  | false :: v => by
    obtain ⟨m, v0, e, q⟩ := decC v
    exact ⟨m + 1, v0, by rw [List.replicate_succ, List.cons_append, ← e], q⟩
theorem decD (u : List Bool) : ∃ u0 m, u = u0 ++ List.replicate m true ∧ (u0 = [] ∨ ∃ w, u0 = w ++ [false]) := by
  obtain ⟨m, v0, e, q⟩ := decB u.reverse |>.imp fun m h => h.imp fun v0 h => (⟨h.1, h.2.1⟩ : _ ∧ _)
  refine ⟨v0.reverse, m, ?_, ?_⟩
  · rw [← List.reverse_reverse u, e, List.reverse_append, List.reverse_replicate]
  · rcases q with q | ⟨w, q⟩
    · exact .inl (by rw [q]; rfl)
    · exact .inr ⟨w.reverse, by rw [q, List.reverse_cons]⟩
theorem runO {u0 v : List Bool} {m : Nat} (h : v = [] ∨ ∃ w, v = true :: w) : fromO (u0 ++ (List.replicate m false ++ v)) u0.length = u0.length + m := by
  unfold fromO
  rw [List.drop_left, List.takeWhile_append_of_pos (by intro a ha; rw [List.eq_of_mem_replicate ha]; rfl)]
  have z : v.takeWhile (!·) = [] := by
    rcases h with q | ⟨w, q⟩
    · rw [q]; rfl
    · rw [q]; rfl
  rw [z, List.append_nil, List.length_replicate]
theorem runF {u v0 : List Bool} {m : Nat} (h : u = [] ∨ ∃ w, u = w ++ [false]) : fromF ((u ++ List.replicate m true) ++ v0) (u.length + m) = u.length := by
  unfold fromF
  rw [List.take_append_of_le_length (by rw [List.length_append, List.length_replicate]; exact Nat.le_refl _), List.take_of_length_le (by rw [List.length_append, List.length_replicate]; exact Nat.le_refl _), List.reverse_append, List.reverse_replicate, List.dropWhile_append_of_pos (by intro a ha; rw [List.eq_of_mem_replicate ha]; rfl)]
  rcases h with q | ⟨w, q⟩
  · rw [q]; rfl
  · rw [q, List.reverse_append]
    show (false :: w.reverse).length = _
    simp
/-- the change that comes to wall w, a free place put in -/
structure BkA (bs bs' : List Bool) (k w : Nat) : Prop where
  ne : bs ≠ []
  hk : k ∈ walls bs
  ch : chg bs k = bs'
  k0 : 0 < k
  to : toA bs k = w
structure BkB (bs bs' : List Bool) (k w : Nat) : Prop where
  ne : bs ≠ []
  hk : k ∈ walls bs
  ch : chg bs k = bs'
  kn : k < bs.length
  to : toB bs k = w
theorem BkA.from {bs bs' : List Bool} {k w : Nat} (x : BkA bs bs' k w) : fromO bs' w = k := by
  obtain ⟨u0, m, v, y⟩ := inA x.ne x.hk x.k0
  have b := (chg_bits x.ne x.hk).2
  have hk1 := (mem_walls.mp x.hk).1
  have e : chg bs k = u0 ++ (List.replicate (m + 1) false ++ v) := by rw [y.row, List.replicate_succ, List.cons_append]
  have nx : v = [] ∨ ∃ w, v = true :: w := by
    have ll := congrArg List.length e
    rw [chg_len hk1, List.length_append, List.length_append, List.length_replicate] at ll
    have ka := y.at_
    cases v with
    | nil => exact .inl rfl
    | cons a v =>
      rw [List.length_cons] at ll
      have := b (by omega)
      rw [e, List.getElem?_append_right (by omega), List.getElem?_append_right (by rw [List.length_replicate]; omega), List.length_replicate, show k - u0.length - (m + 1) = 0 by omega] at this
      exact .inr ⟨v, by rw [show a = true from Option.some.inj this]⟩
  rw [← x.ch, e, ← x.to, y.to, runO nx, y.at_]
  omega
theorem BkB.from {bs bs' : List Bool} {k w : Nat} (x : BkB bs bs' k w) : fromF bs' w = k := by
  obtain ⟨u, m, v0, y⟩ := inB x.ne x.hk x.kn
  have b := (chg_bits x.ne x.hk).1
  have e : chg bs k = (u ++ List.replicate (m + 1) true) ++ v0 := by
    rw [y.row, List.replicate_succ', List.append_assoc, List.append_assoc]
    rfl
  have ka := y.at_
  have nx : u = [] ∨ ∃ w, u = w ++ [false] := by
    rcases Nat.eq_zero_or_pos u.length with z | z
    · exact .inl (List.length_eq_zero_iff.mp z)
    · have hne : u ≠ [] := fun q => by rw [q] at z; exact absurd z (by decide)
      have := b (by omega)
      rw [e, List.append_assoc, List.getElem?_append_left (by omega), ka, ← List.getLast?_eq_getElem?, List.getLast?_eq_getLast hne] at this
      exact .inr ⟨u.dropLast, by rw [← Option.some.inj this]; exact (List.dropLast_concat_getLast hne).symm⟩
  rw [← x.ch, e, ← x.to, y.to, show u.length + m + 1 = u.length + (m + 1) by omega, runF nx, ka]
theorem exA {bs' : List Bool} {w : Nat} (hw : w ∈ walls bs') (hn : w < bs'.length) : ∃ bs k, BkA bs bs' k w := by
  have ne : bs' ≠ [] := fun z => by rw [z] at hn; exact absurd hn (by simp)
  obtain ⟨b1, b2⟩ := wall_bits ne hw
  obtain ⟨m, v, e, q⟩ := decC (bs'.drop w)
  have lu : (bs'.take w).length = w := by rw [List.length_take]; omega
  have e' : bs' = bs'.take w ++ (List.replicate m false ++ v) := by rw [← e, List.take_append_drop]
  have m1 : 0 < m := by
    rcases Nat.eq_zero_or_pos m with z | z
    · subst z
      have := b2 hn
      rw [e', List.getElem?_append_right (by omega), lu, Nat.sub_self] at this
      rcases q with q | ⟨x, q⟩ <;> rw [q] at this <;> cases this
    · exact z
  obtain ⟨m, rfl⟩ : ∃ j, m = j + 1 := ⟨m - 1, by omega⟩
  have st : bs'.take w = [] ∨ ∃ x, bs'.take w = x ++ [true] := by
    rcases Nat.eq_zero_or_pos w with z | z
    · exact .inl (by rw [z]; rfl)
    · have hne : bs'.take w ≠ [] := fun q => by rw [q] at lu; simp at lu; omega
      have := b1 z
      rw [e', List.getElem?_append_left (by omega), show w - 1 = (bs'.take w).length - 1 by omega, ← List.getLast?_eq_getElem?, List.getLast?_eq_getLast hne] at this
      exact .inr ⟨(bs'.take w).dropLast, by rw [← Option.some.inj this]; exact (List.dropLast_concat_getLast hne).symm⟩
  generalize bs'.take w = u0 at e' lu st
  have tA : ∀ X : List Bool, toA ((u0 ++ List.replicate m false) ++ X) ((u0 ++ List.replicate m false).length + 1) = w := fun X => by
    unfold toA
    rw [Nat.add_sub_cancel, List.take_left, List.reverse_append, List.reverse_replicate, List.dropWhile_append_of_pos (by intro a ha; rw [List.eq_of_mem_replicate ha]; rfl)]
    rcases st with z | ⟨x, z⟩
    · rw [z] at lu ⊢; exact lu
    · rw [z, List.length_append, List.length_singleton] at lu
      rw [z, List.reverse_append]
      show (true :: x.reverse).length = _
      rw [List.length_cons, List.length_reverse]
      exact lu
  rcases q with q | ⟨x, q⟩
  · subst q
    refine ⟨(u0 ++ List.replicate m false) ++ [true], (u0 ++ List.replicate m false).length + 1, by simp, mem_walls.mpr ⟨by simp; omega, by rw [HopW.opn_last]⟩, ?_, Nat.succ_pos _, tA _⟩
    rw [HopW.chg_last, e', List.append_nil, List.replicate_succ', List.append_assoc]
  · subst q
    refine ⟨(u0 ++ List.replicate m false) ++ true :: false :: x, (u0 ++ List.replicate m false).length + 1, by simp, mem_walls.mpr ⟨by simp; omega, by rw [HopW.opn_mid]; rfl⟩, ?_, Nat.succ_pos _, tA _⟩
    rw [HopW.chg_mid, e', List.replicate_succ', List.append_assoc, List.append_assoc]
    rfl
theorem exB {bs' : List Bool} {w : Nat} (hw : w ∈ walls bs') (h0 : 0 < w) : ∃ bs k, BkB bs bs' k w := by
  have hw1 := (mem_walls.mp hw).1
  have ne : bs' ≠ [] := fun z => by rw [z] at hw1; simp at hw1; omega
  obtain ⟨b1, b2⟩ := wall_bits ne hw
  obtain ⟨u0, m, e, q⟩ := decD (bs'.take w)
  have lw : (bs'.take w).length = w := by rw [List.length_take]; omega
  rw [e, List.length_append, List.length_replicate] at lw
  have e' : bs' = (u0 ++ List.replicate m true) ++ bs'.drop w := by rw [← e, List.take_append_drop]
  have m1 : 0 < m := by
    rcases Nat.eq_zero_or_pos m with z | z
    · subst z
      have := b1 h0
      rcases q with q | ⟨x, q⟩
      · rw [q] at lw; simp at lw; omega
      · rw [e', q, List.append_assoc, List.append_assoc, List.getElem?_append_right (by rw [q, List.length_append, List.length_singleton] at lw; omega)] at this
        rw [q, List.length_append, List.length_singleton] at lw
        rw [show w - 1 - x.length = 0 by omega] at this
        cases this
    · exact z
  obtain ⟨m, rfl⟩ : ∃ j, m = j + 1 := ⟨m - 1, by omega⟩
  have st : bs'.drop w = [] ∨ ∃ x, bs'.drop w = false :: x := by
    cases hd : bs'.drop w with
    | nil => exact .inl rfl
    | cons a x =>
      have ll := congrArg List.length hd
      rw [List.length_drop, List.length_cons] at ll
      have := b2 (by omega)
      have e0 : (bs'.drop w)[0]? = bs'[w]? := by rw [List.getElem?_drop]; rfl
      rw [← e0, hd] at this
      exact .inr ⟨x, by rw [show a = false from Option.some.inj this]⟩
  generalize bs'.drop w = v0 at e' st
  have tk : (List.replicate m true ++ v0).takeWhile id = List.replicate m true := by
    rw [List.takeWhile_append_of_pos (by intro a ha; rw [List.eq_of_mem_replicate ha]; rfl)]
    have z : v0.takeWhile id = [] := by
      rcases st with z | ⟨x, z⟩
      · rw [z]; rfl
      · rw [z]; rfl
    rw [z, List.append_nil]
  rcases q with q | ⟨x, q⟩
  · subst q
    refine ⟨false :: (List.replicate m true ++ v0), 0, by simp, mem_walls.mpr ⟨Nat.zero_le _, by rw [HopW.opn_first]; rfl⟩, ?_, by simp, ?_⟩
    · rw [HopW.chg_first, e', List.nil_append, List.replicate_succ, List.cons_append]
    · unfold toB
      rw [List.drop_succ_cons, List.drop_zero, tk, List.length_replicate]
      simp at lw
      omega
  · subst q
    refine ⟨x ++ true :: false :: (List.replicate m true ++ v0), x.length + 1, by simp, mem_walls.mpr ⟨by simp, by rw [HopW.opn_mid]; rfl⟩, ?_, by simp, ?_⟩
    · rw [HopW.chg_mid, e', List.append_assoc, List.append_assoc, List.replicate_succ, List.cons_append]
      rfl
    · unfold toB
      rw [List.drop_append, List.drop_of_length_le (by omega), show x.length + 1 + 1 - x.length = 2 by omega]
      show x.length + 1 + 1 + ((List.replicate m true ++ v0).takeWhile id).length = w
      rw [tk, List.length_replicate]
      rw [List.length_append, List.length_singleton] at lw
      omega
end HopH

set_option Elab.async false
set_option linter.all false
set_option maxRecDepth 100000
namespace HopH
open PySem L2 HopR HopT
theorem plI_back {t u x : Int} (h : x ≠ t) : plI u t (plI t u x) = x := by
  unfold plI
  by_cases h1 : t < x
  · rw [if_pos h1]
    by_cases h2 : u ≤ x - 1
    · rw [if_pos h2, if_pos (by omega : u < x - 1 + 1), if_pos (by omega)]; omega
    · rw [if_neg h2, if_neg (by omega : ¬ u < x - 1), if_pos (by omega)]; omega
  · rw [if_neg h1]
    by_cases h2 : u ≤ x
    · rw [if_pos h2, if_pos (by omega : u < x + 1), if_neg (by omega)]; omega
    · rw [if_neg h2, if_neg (by omega : ¬ u < x), if_neg (by omega)]
theorem plI_ne {t u x : Int} : plI t u x ≠ u := by
  unfold plI
  by_cases h1 : t < x
  · rw [if_pos h1]
    by_cases h2 : u ≤ x - 1
    · rw [if_pos h2]; omega
    · rw [if_neg h2]; omega
  · rw [if_neg h1]
    by_cases h2 : u ≤ x
    · rw [if_pos h2]; omega
    · rw [if_neg h2]; omega
theorem mv_mv (t u : Int) (ts : List I3) : mvI u t (mvI t u ts) = ts.filter (keepI t) := by
  unfold mvI
  have e1 : ((ts.filter (keepI t)).map (rlI t u)).filter (keepI u) = (ts.filter (keepI t)).map (rlI t u) := by
    refine List.filter_eq_self.mpr fun e m => ?_
    obtain ⟨x, _, rfl⟩ := List.mem_map.mp m
    show (decide (plI t u x.1 ≠ u) && decide (plI t u x.2.1 ≠ u)) = true
    rw [decide_eq_true plI_ne, decide_eq_true plI_ne]
    rfl
  rw [e1, List.map_map]
  refine (List.map_congr_left fun e m => ?_).trans (List.map_id _)
  obtain ⟨_, k⟩ := List.mem_filter.mp m
  unfold keepI at k
  rw [Bool.and_eq_true, decide_eq_true_eq, decide_eq_true_eq] at k
  show ((plI u t (plI t u e.1), plI u t (plI t u e.2.1), e.2.2) : I3) = e
  rw [plI_back k.1, plI_back k.2]
theorem mvI_app (t u : Int) (as bs : List I3) : mvI t u (as ++ bs) = mvI t u as ++ mvI t u bs := by
  unfold mvI
  rw [List.filter_append, List.map_append]
theorem mvI_nil {t u : Int} {es : List I3} (h : ∀ e ∈ es, e.1 = t ∨ e.2.1 = t) : mvI t u es = [] := by
  unfold mvI
  rw [List.filter_eq_nil_iff.mpr, List.map_nil]
  intro e m
  unfold keepI
  rw [Bool.and_eq_true, decide_eq_true_eq, decide_eq_true_eq]
  rintro ⟨a, b⟩
  rcases h e m with z | z
  · exact a z
  · exact b z
theorem HeapL.nodup {bs : List Bool} {ts : List I3} (h : HeapL bs ts) : ts.Nodup := by
  obtain ⟨_, _, _, so, _⟩ := h
  exact (List.pairwise_map.mp so).imp fun {a b} l e => by subst e; unfold ltP2 at l; omega
theorem touch {ts : List I3} {x : Int} {E : List I3} (nd : ts.Nodup) (en : E.Nodup) (h1 : ∀ e ∈ E, e ∈ ts ∧ (e.1 = x ∨ e.2.1 = x)) (h2 : ∀ e ∈ ts, e.1 = x ∨ e.2.1 = x → e ∈ E) : ts.Perm (ts.filter (keepI x) ++ E) := by
  have kp : ∀ e : I3, keepI x e = true ↔ ¬ (e.1 = x ∨ e.2.1 = x) := fun e => by
    unfold keepI
    rw [Bool.and_eq_true, decide_eq_true_eq, decide_eq_true_eq, not_or]
  refine (List.perm_ext_iff_of_nodup nd ?_).mpr fun e => ?_
  · refine List.nodup_append.mpr ⟨nd.filter _, en, fun a ha b hb z => ?_⟩
    subst z
    exact (kp a).mp (List.mem_filter.mp ha).2 (h1 a hb).2
  · rw [List.mem_append, List.mem_filter, kp]
    constructor
    · intro m
      by_cases z : e.1 = x ∨ e.2.1 = x
      · exact .inr (h2 e m z)
      · exact .inl ⟨m, z⟩
    · rintro (⟨m, _⟩ | m)
      · exact m
      · exact (h1 e m).1
theorem mem_R {R : List T3} {ts : List I3} (p : ts.Perm (R.map c3)) {e : I3} (m : e ∈ ts) : ∃ b f s, (b, f, s) ∈ R ∧ e = ((b : Int), (f : Int), s) := by
  obtain ⟨⟨b, f, s⟩, m', q⟩ := List.mem_map.mp (p.mem_iff.mp m)
  exact ⟨b, f, s, m', q.symm⟩
theorem of_R {R : List T3} {ts : List I3} (p : ts.Perm (R.map c3)) {b f : Nat} {s : Bool} (m : (b, f, s) ∈ R) : (((b : Int), (f : Int), s) : I3) ∈ ts := p.mem_iff.mpr (List.mem_map.mpr ⟨_, m, rfl⟩)
theorem sg_R {bs : List Bool} {R : List T3} {ts : List I3} (p : ts.Perm (R.map c3)) (so : (ts.map pr3).Pairwise ltP2) {b f : Nat} {s : Bool} (h : sg ts ((b : Int), (f : Int)) = some s) : (b, f, s) ∈ R := by
  obtain ⟨b', f', s', m, q⟩ := mem_R p ((sg_iff so).mp h)
  injection q with q1 q2
  injection q2 with q2 q3
  have q1 : (b : Int) = (b' : Int) := q1
  have q2 : (f : Int) = (f' : Int) := q2
  have q3 : s = s' := q3
  obtain rfl : b = b' := by omega
  obtain rfl : f = f' := by omega
  subst q3
  exact m
theorem touch_free {bs : List Bool} {ts : List I3} (h : HeapL bs ts) {x : Nat} (hx : bs[x]? = some false) (hs : 0 < x → sg ts ((x : Int) - 1, (x : Int)) = some true) : ts.Perm (ts.filter (keepI (x : Int)) ++ (if 0 < x then [((x : Int) - 1, (x : Int), true)] else [])) := by
  obtain ⟨R, hR, p, so, _⟩ := id h
  have xl := (List.getElem?_eq_some_iff.mp hx).1
  refine touch h.nodup (by split <;> simp) (fun e m => ?_) (fun e m z => ?_)
  · by_cases x0 : 0 < x
    · rw [if_pos x0, List.mem_singleton] at m
      subst m
      exact ⟨(sg_iff so).mp (hs x0), .inr rfl⟩
    · rw [if_neg x0] at m; cases m
  · obtain ⟨b, f, s, m', rfl⟩ := mem_R p m
    obtain ⟨a1, a2, a3, a4, a5⟩ := hR.inn _ _ _ m'
    rcases z with z | z
    · have z : (b : Int) = (x : Int) := z
      obtain rfl : b = x := by omega
      exact absurd a4 (by rw [hx]; simp)
    · have z : (f : Int) = (x : Int) := z
      obtain rfl : f = x := by omega
      have x0 : 0 < f := by omega
      have m1 : (f - 1, f, true) ∈ R := sg_R (bs := bs) p so (by rw [show ((f - 1 : Nat) : Int) = (f : Int) - 1 by omega]; exact hs x0)
      obtain ⟨rfl, rfl⟩ := cut_free_only hR (hR.inn _ _ _ m1).1 (by omega) (fun k _ y1 y2 => by omega) m1 m'
      rw [if_pos x0, show ((f - 1 : Nat) : Int) = (f : Int) - 1 by omega]
      exact List.mem_singleton.mpr rfl
theorem touch_bead {bs : List Bool} {ts : List I3} (h : HeapL bs ts) {x : Nat} (hx : bs[x]? = some true) (hs : x + 1 < bs.length → sg ts ((x : Int), (x : Int) + 1) = some false) : ts.Perm (ts.filter (keepI (x : Int)) ++ (if x + 1 < bs.length then [((x : Int), (x : Int) + 1, false)] else [])) := by
  obtain ⟨R, hR, p, so, _⟩ := id h
  have xl := (List.getElem?_eq_some_iff.mp hx).1
  refine touch h.nodup (by split <;> simp) (fun e m => ?_) (fun e m z => ?_)
  · by_cases x0 : x + 1 < bs.length
    · rw [if_pos x0, List.mem_singleton] at m
      subst m
      exact ⟨(sg_iff so).mp (hs x0), .inl rfl⟩
    · rw [if_neg x0] at m; cases m
  · obtain ⟨b, f, s, m', rfl⟩ := mem_R p m
    obtain ⟨a1, a2, a3, a4, a5⟩ := hR.inn _ _ _ m'
    have a2 := List.mem_range.mp a2
    rcases z with z | z
    · have z : (b : Int) = (x : Int) := z
      obtain rfl : b = x := by omega
      have x0 : b + 1 < bs.length := by omega
      have m1 : (b, b + 1, false) ∈ R := sg_R (bs := bs) p so (by rw [show ((b + 1 : Nat) : Int) = (b : Int) + 1 by omega]; exact hs x0)
      obtain ⟨rfl, rfl⟩ := cut_bead_only hR (hR.inn _ _ _ m1).2.1 (by omega) (fun k _ y1 y2 => by omega) m1 m'
      rw [if_pos x0, show ((b + 1 : Nat) : Int) = (b : Int) + 1 by omega]
      exact List.mem_singleton.mpr rfl
    · have z : (f : Int) = (x : Int) := z
      obtain rfl : f = x := by omega
      exact absurd a5 (by rw [hx]; simp)
/-! ### back from a heap -/
def bside (bs : List Bool) (ts : List I3) (w : Nat) : Bool := decide (w = 0) || (decide (w < bs.length) && decide (sg ts ((w : Int) - 1, (w : Int)) = some true))
def bkK (bs : List Bool) (ts : List I3) (w : Nat) : Nat := if bside bs ts w = true then fromO bs w else fromF bs w
def bkT (bs : List Bool) (ts : List I3) (w : Nat) : Nat := if bside bs ts w = true then w else w - 1
def bkU (bs : List Bool) (ts : List I3) (w : Nat) : Nat := if bside bs ts w = true ∧ bkK bs ts w < bs.length then bkK bs ts w else bkK bs ts w - 1
def bkE (bs : List Bool) (ts : List I3) (w : Nat) : List I3 := if 0 < bkK bs ts w ∧ bkK bs ts w < bs.length then [((bkK bs ts w : Int) - 1, (bkK bs ts w : Int), bside bs ts w)] else []
def bkM (bs : List Bool) (ts : List I3) (w : Nat) : List I3 := mvI (bkT bs ts w : Int) (bkU bs ts w : Int) ts ++ bkE bs ts w
theorem bkM_len (bs : List Bool) (ts : List I3) (w : Nat) : (bkM bs ts w).length ≤ ts.length + 1 := by
  unfold bkM
  rw [List.length_append]
  have h1 := mvI_len (bkT bs ts w : Int) (bkU bs ts w : Int) ts
  have h2 : (bkE bs ts w).length ≤ 1 := by
    unfold bkE
    split <;> simp
  omega
theorem heap_of {bs' : List Bool} {R : List T3} {ts us : List I3} {t u : Nat} {M e : List T3} {E : List I3} (p : ts.Perm (R.map c3)) (hM : Heaped bs' (List.range bs'.length) (e ++ M)) (eM : M = (cutR t R).map (rl (plc2 t u))) (eE : e.map c3 = E) (pm : us.Perm (mvI (t : Int) (u : Int) ts ++ E)) (ln : ts.length + 1 ≤ 1000) (lm : E.length ≤ 1)
    (sd : us.Pairwise fun x y => lexK (k3 y) (k3 x) = false) : HeapL bs' us := by
  have q : (M.map c3).Perm (mvI (t : Int) (u : Int) ts) := by
    rw [eM, ← mvI_c3]
    exact mvI_perm p.symm
  have pp : us.Perm ((e ++ M).map c3) := by
    refine pm.trans ?_
    rw [List.map_append, eE]
    exact (q.symm.append_right _).trans List.perm_append_comm
  refine ⟨e ++ M, hM, pp, sorted_pairs hM.nd pp sd, ?_⟩
  rw [pm.length_eq, List.length_append]
  have := mvI_len (t : Int) (u : Int) ts
  omega
theorem bside_mid {bs : List Bool} {ts : List I3} {w : Nat} (h : HeapL bs ts) (ne : bs ≠ []) (hw : w ∈ walls bs) (hs : bside bs ts w = false) : 0 < w ∧ (w < bs.length → sg ts ((w : Int) - 1, (w : Int)) = some false) := by
  unfold bside at hs
  rw [Bool.or_eq_false_iff] at hs
  have w0 : 0 < w := by
    have := of_decide_eq_false hs.1
    omega
  refine ⟨w0, fun hn => ?_⟩
  obtain ⟨b1, b2⟩ := wall_bits ne hw
  have e := side_mid h w0 hn (b1 w0) (b2 hn)
  rw [decide_eq_true hn, Bool.true_and] at hs
  have := of_decide_eq_false hs.2
  rw [e] at this ⊢
  cases q : sideO bs ts w with
  | true => rw [q] at this; exact absurd rfl this
  | false => rfl
/-- what is told back comes from a heap, and a change leads from it to this one -/
theorem back_main {bs' : List Bool} {ts us : List I3} {w : Nat} (ne' : bs' ≠ []) (h : HeapL bs' ts) (hw : w ∈ walls bs') (ln : ts.length ≤ 999) (pm : us.Perm (bkM bs' ts w)) (sd : us.Pairwise fun x y => lexK (k3 y) (k3 x) = false) :
    ∃ bs, bs = HopW.ahd bs' (bkK bs' ts w) ∧ bs ≠ [] ∧ bs.length = bs'.length ∧ bkK bs' ts w ∈ walls bs ∧ chg bs (bkK bs' ts w) = bs' ∧ HeapL bs us ∧ ldTo bs us (bkK bs' ts w) = w ∧ ts.Perm (ldM bs us (bkK bs' ts w)) := by
  have hw1 := (mem_walls.mp hw).1
  obtain ⟨b1, b2⟩ := wall_bits ne' hw
  have pos : 0 < bs'.length := List.length_pos_iff.mpr ne'
  obtain ⟨R, hR, p, so, _⟩ := id h
  cases hs : bside bs' ts w with
  | true =>
    have wn : w < bs'.length := by
      unfold bside at hs
      rcases Nat.eq_zero_or_pos w with z | z
      · omega
      · rw [decide_eq_false (by omega : ¬ w = 0), Bool.false_or, Bool.and_eq_true, decide_eq_true_eq] at hs
        exact hs.1
    have sw : 0 < w → sg ts ((w : Int) - 1, (w : Int)) = some true := fun z => by
      unfold bside at hs
      rw [decide_eq_false (by omega : ¬ w = 0), Bool.false_or, Bool.and_eq_true, decide_eq_true_eq, decide_eq_true_eq] at hs
      exact hs.2
    obtain ⟨bs, k, x⟩ := exA hw wn
    have eK : bkK bs' ts w = k := by unfold bkK; rw [if_pos hs, x.from]
    have hk1 := (mem_walls.mp x.hk).1
    have lc : bs'.length = bs.length := by rw [← x.ch, chg_len hk1]
    obtain ⟨c1, c2⟩ := wall_bits x.ne x.hk
    have k0 := x.k0
    obtain ⟨u0, m, v, y⟩ := inA x.ne x.hk x.k0
    obtain ⟨t, et, ec⟩ := y.cut
    rw [← y.to, x.to, x.ch] at ec
    have tl : t < bs.length := by rw [et]; split <;> omega
    have eT : bkT bs' ts w = w := by unfold bkT; rw [if_pos hs]
    have eU : bkU bs' ts w = t := by
      unfold bkU
      rw [eK, hs, et, lc]
      by_cases z : k < bs.length
      · rw [if_pos ⟨rfl, z⟩, if_pos z]
      · rw [if_neg fun q => z q.2, if_neg z]
    have eE : bkE bs' ts w = if k < bs.length then [((k : Int) - 1, (k : Int), true)] else [] := by
      unfold bkE
      rw [eK, hs, lc]
      by_cases z : k < bs.length
      · rw [if_pos ⟨k0, z⟩, if_pos z]
      · rw [if_neg fun q => z q.2, if_neg z]
    have out : ∀ S', (∀ y, y ∈ S' ↔ y ∈ List.range bs'.length ∧ y ≠ w) → Heaped bs' S' (cutR w R) := by
      intro S' hS'
      by_cases z : 0 < w
      · have m1 : (w - 1, w, true) ∈ R := sg_R (bs := bs') p so (by rw [show ((w - 1 : Nat) : Int) = (w : Int) - 1 by omega]; exact sw z)
        exact cut_free hR (hR.inn _ _ _ m1).1 (by omega) (fun j _ a b => by omega) (b2 wn) m1 hS'
      · have l : Lone bs' (List.range bs'.length) w := .inr ⟨b2 wn, fun y _ ly => by omega⟩
        rw [lone_cut hR l]
        exact lone_out hR l hS'
    have mh := moved_heap (bs := bs') (bs' := bs) (t := w) (u := t) wn (by omega) ec.symm out
    rw [lc] at mh
    have hus : HeapL bs us := by
      unfold bkM at pm
      rw [eT, eU, eE] at pm
      by_cases z : k < bs.length
      · rw [if_pos z] at pm et
        subst et
        exact heap_of p (put_free rfl z mh (c2 z) (fun _ => c1 k0)) rfl (by rw [if_pos k0, List.map_singleton]; unfold c3; rw [show ((t - 1 : Nat) : Int) = (t : Int) - 1 by omega]) pm (by omega) (by simp) sd
      · rw [if_neg z] at pm et
        subst et
        exact heap_of p (put_bead rfl tl mh (c1 k0) (fun q => by omega)) rfl (by rw [if_neg (by omega), List.map_nil]) pm (by omega) (by simp) sd
    have hside : sideO bs us k = true := by
      unfold sideO
      by_cases z : k < bs.length
      · obtain ⟨_, _, _, so', _⟩ := id hus
        have m1 : (((k : Int) - 1, (k : Int), true) : I3) ∈ us := pm.mem_iff.mpr (by unfold bkM; rw [eE, if_pos z]; exact List.mem_append_right _ (List.mem_singleton.mpr rfl))
        rw [decide_eq_true k0, (sg_iff so').mpr m1]
        simp
      · rw [decide_eq_true (by omega : k = bs.length)]
        rfl
    have eTo : ldTo bs us k = w := by unfold ldTo; rw [if_pos hside, x.to]
    refine ⟨bs, by rw [eK, ← x.ch, ahd_chg x.ne x.hk], x.ne, lc.symm, by rw [eK]; exact x.hk, by rw [eK]; exact x.ch, hus, by rw [eK]; exact eTo, ?_⟩
    rw [eK]
    have e1 : ldT bs us k = t := by
      unfold ldT
      rw [hside, et]
      by_cases z : k < bs.length
      · rw [if_pos ⟨rfl, z⟩, if_pos z]
      · rw [if_neg fun q => z q.2, if_neg z]
    have e2 : ldU bs us k = w := by unfold ldU; rw [if_pos hside, x.to]
    have e3 : ldE bs us k = if 0 < w then [((w : Int) - 1, (w : Int), true)] else [] := by
      unfold ldE
      rw [eTo, hside]
      by_cases z : 0 < w
      · rw [if_pos ⟨z, by omega⟩, if_pos z]
      · rw [if_neg fun q => z q.1, if_neg z]
    unfold ldM
    rw [e1, e2, e3]
    refine (touch_free h (b2 wn) sw).trans (List.Perm.append_right _ ?_)
    refine List.Perm.trans ?_ (mvI_perm pm).symm
    unfold bkM
    rw [mvI_app, eT, eU, mv_mv, mvI_nil (es := bkE bs' ts w), List.append_nil]
    intro e m
    rw [eE] at m
    by_cases z : k < bs.length
    · rw [if_pos z, List.mem_singleton] at m
      rw [if_pos z] at et
      subst m et
      exact .inr rfl
    · rw [if_neg z] at m; cases m
  | false =>
    obtain ⟨w0, sw⟩ := bside_mid h ne' hw hs
    obtain ⟨bs, k, x⟩ := exB hw w0
    have eK : bkK bs' ts w = k := by unfold bkK; rw [if_neg (by rw [hs]; decide), x.from]
    have hk1 := (mem_walls.mp x.hk).1
    have kn := x.kn
    have lc : bs'.length = bs.length := by rw [← x.ch, chg_len hk1]
    obtain ⟨c1, c2⟩ := wall_bits x.ne x.hk
    obtain ⟨u, m, v0, y⟩ := inB x.ne x.hk x.kn
    have ec := y.cut
    have eu : u.length + m = w - 1 := by rw [← x.to, y.to]; omega
    rw [eu, x.ch] at ec
    have eT : bkT bs' ts w = w - 1 := by unfold bkT; rw [if_neg (by rw [hs]; decide)]
    have eU : bkU bs' ts w = k - 1 := by
      unfold bkU
      rw [eK, hs, if_neg fun q => by cases q.1]
    have eE : bkE bs' ts w = if 0 < k then [((k : Int) - 1, (k : Int), false)] else [] := by
      unfold bkE
      rw [eK, hs]
      by_cases z : 0 < k
      · rw [if_pos ⟨z, by omega⟩, if_pos z]
      · rw [if_neg fun q => z q.1, if_neg z]
    have out : ∀ S', (∀ y, y ∈ S' ↔ y ∈ List.range bs'.length ∧ y ≠ w - 1) → Heaped bs' S' (cutR (w - 1) R) := by
      intro S' hS'
      by_cases z : w < bs'.length
      · have m1 : (w - 1, w, false) ∈ R := sg_R (bs := bs') p so (by rw [show ((w - 1 : Nat) : Int) = (w : Int) - 1 by omega]; exact sw z)
        exact cut_bead hR (hR.inn _ _ _ m1).2.1 (by omega) (fun j _ a b => by omega) (b1 w0) m1 hS'
      · have l : Lone bs' (List.range bs'.length) (w - 1) := .inl ⟨b1 w0, fun y hy ly => by
          have := List.mem_range.mp hy
          omega⟩
        rw [lone_cut hR l]
        exact lone_out hR l hS'
    have mh := moved_heap (bs := bs') (bs' := bs) (t := w - 1) (u := k - 1) (by omega) (by omega) ec.symm out
    rw [lc] at mh
    have hus : HeapL bs us := by
      unfold bkM at pm
      rw [eT, eU, eE] at pm
      by_cases z : 0 < k
      · rw [if_pos z] at pm
        exact heap_of p (put_bead rfl (by omega) mh (c1 z) (fun _ => by rw [show k - 1 + 1 = k by omega]; exact c2 kn)) rfl (by rw [if_pos (by omega), List.map_singleton]; unfold c3; rw [show ((k - 1 : Nat) : Int) = (k : Int) - 1 by omega, show ((k - 1 + 1 : Nat) : Int) = (k : Int) by omega]) pm (by omega) (by simp) sd
      · rw [if_neg z] at pm
        have ez : k = 0 := by omega
        subst ez
        exact heap_of p (put_free rfl (by omega) mh (c2 kn) (fun q => absurd q (by omega))) rfl (by rw [if_neg (by omega), List.map_nil]) pm (by omega) (by simp) sd
    have hside : sideO bs us k = false := by
      unfold sideO
      rw [decide_eq_false (by omega : ¬ k = bs.length), Bool.false_or]
      by_cases z : 0 < k
      · obtain ⟨_, _, _, so', _⟩ := id hus
        have m1 : (((k : Int) - 1, (k : Int), false) : I3) ∈ us := pm.mem_iff.mpr (by unfold bkM; rw [eE, if_pos z]; exact List.mem_append_right _ (List.mem_singleton.mpr rfl))
        rw [(sg_iff so').mpr m1]
        simp
      · rw [decide_eq_false z]
        rfl
    have hns : ¬ sideO bs us k = true := by rw [hside]; decide
    have eTo : ldTo bs us k = w := by unfold ldTo; rw [if_neg hns, x.to]
    refine ⟨bs, by rw [eK, ← x.ch, ahd_chg x.ne x.hk], x.ne, lc.symm, by rw [eK]; exact x.hk, by rw [eK]; exact x.ch, hus, by rw [eK]; exact eTo, ?_⟩
    rw [eK]
    have e1 : ldT bs us k = k - 1 := by
      unfold ldT
      rw [hside, if_neg fun q => by cases q.1]
    have e2 : ldU bs us k = w - 1 := by unfold ldU; rw [if_neg hns, x.to]
    have e3 : ldE bs us k = if (w - 1) + 1 < bs'.length then [(((w - 1 : Nat) : Int), ((w - 1 : Nat) : Int) + 1, false)] else [] := by
      unfold ldE
      rw [eTo, hside, show w - 1 + 1 = w by omega, show ((w - 1 : Nat) : Int) + 1 = (w : Int) by omega, show ((w - 1 : Nat) : Int) = (w : Int) - 1 by omega, lc]
      by_cases z : w < bs.length
      · rw [if_pos ⟨w0, z⟩, if_pos z]
      · rw [if_neg fun q => z q.2, if_neg z]
    unfold ldM
    rw [e1, e2, e3]
    refine (touch_bead h (b1 w0) fun z => by rw [show ((w - 1 : Nat) : Int) + 1 = (w : Int) by omega, show ((w - 1 : Nat) : Int) = (w : Int) - 1 by omega]; exact sw (by omega)).trans (List.Perm.append_right _ ?_)
    refine List.Perm.trans ?_ (mvI_perm pm).symm
    unfold bkM
    rw [mvI_app, eT, eU, mv_mv, mvI_nil (es := bkE bs' ts w), List.append_nil]
    intro e m
    rw [eE] at m
    by_cases z : 0 < k
    · rw [if_pos z, List.mem_singleton] at m
      subst m
      exact .inl (by show (k : Int) - 1 = ((k - 1 : Nat) : Int); omega)
    · rw [if_neg z] at m; cases m
/-- a change is gone back -/
theorem back_led {bs : List Bool} {ts us : List I3} {k : Nat} (ne : bs ≠ []) (h : HeapL bs ts) (hk : k ∈ walls bs) (pm : us.Perm (ldM bs ts k)) (hus : HeapL (chg bs k) us) : bkK (chg bs k) us (ldTo bs ts k) = k ∧ ts.Perm (bkM (chg bs k) us (ldTo bs ts k)) := by
  have hk1 := (mem_walls.mp hk).1
  have pos : 0 < bs.length := List.length_pos_iff.mpr ne
  have lc := chg_len hk1
  obtain ⟨b1, b2⟩ := wall_bits ne hk
  obtain ⟨_, _, _, so', _⟩ := id hus
  cases hs : sideO bs ts k with
  | true =>
    have k0 : 0 < k := by
      unfold sideO at hs
      rcases Nat.eq_zero_or_pos k with z | z
      · subst z
        rw [decide_eq_false (by omega), decide_eq_false (by omega)] at hs
        cases hs
      · exact z
    have x : BkA bs (chg bs k) k (toA bs k) := ⟨ne, hk, rfl, k0, rfl⟩
    obtain ⟨u0, m, v, y⟩ := inA ne hk k0
    have lt := y.lt
    have eTo : ldTo bs ts k = toA bs k := by unfold ldTo; rw [if_pos hs]
    have eU : ldU bs ts k = toA bs k := by unfold ldU; rw [if_pos hs]
    have eE : ldE bs ts k = if 0 < toA bs k then [((toA bs k : Int) - 1, (toA bs k : Int), true)] else [] := by
      unfold ldE
      rw [eTo, hs]
      by_cases z : 0 < toA bs k
      · rw [if_pos ⟨z, by omega⟩, if_pos z]
      · rw [if_neg fun q => z q.1, if_neg z]
    have hb : bside (chg bs k) us (toA bs k) = true := by
      unfold bside
      by_cases z : 0 < toA bs k
      · have m1 : (((toA bs k : Int) - 1, (toA bs k : Int), true) : I3) ∈ us := pm.mem_iff.mpr (by unfold ldM; rw [eE, if_pos z]; exact List.mem_append_right _ (List.mem_singleton.mpr rfl))
        rw [(sg_iff so').mpr m1, lc, decide_eq_true (show toA bs k < bs.length by omega)]
        simp
      · rw [decide_eq_true (by omega : toA bs k = 0)]
        rfl
    rw [eTo]
    have eK : bkK (chg bs k) us (toA bs k) = k := by unfold bkK; rw [if_pos hb, x.from]
    refine ⟨eK, ?_⟩
    have eT' : bkT (chg bs k) us (toA bs k) = toA bs k := by unfold bkT; rw [if_pos hb]
    have eU' : bkU (chg bs k) us (toA bs k) = ldT bs ts k := by
      unfold bkU ldT
      rw [eK, hb, hs, lc]
    have eE' : bkE (chg bs k) us (toA bs k) = if k < bs.length then [((k : Int) - 1, (k : Int), true)] else [] := by
      unfold bkE
      rw [eK, hb, lc]
      by_cases z : k < bs.length
      · rw [if_pos ⟨k0, z⟩, if_pos z]
      · rw [if_neg fun q => z q.2, if_neg z]
    unfold bkM
    rw [eT', eU', eE']
    have back : (mvI (toA bs k : Int) (ldT bs ts k : Int) us).Perm (ts.filter (keepI (ldT bs ts k : Int))) := by
      refine (mvI_perm pm).trans ?_
      unfold ldM
      rw [mvI_app, eU, mv_mv, mvI_nil (es := ldE bs ts k), List.append_nil]
      intro e m
      rw [eE] at m
      by_cases z : 0 < toA bs k
      · rw [if_pos z, List.mem_singleton] at m
        subst m
        exact .inr rfl
      · rw [if_neg z] at m; cases m
    refine List.Perm.trans ?_ (back.symm.append_right _)
    by_cases z : k < bs.length
    · have e1 : ldT bs ts k = k := by unfold ldT; rw [if_pos ⟨hs, z⟩]
      have := touch_free h (b2 z) fun q => by
        have := side_mid h q z (b1 q) (b2 z)
        rw [hs] at this
        exact this
      rw [e1, if_pos z]
      rw [if_pos k0] at this
      exact this
    · have e1 : ldT bs ts k = k - 1 := by unfold ldT; rw [if_neg fun q => z q.2]
      have := touch_bead h (b1 k0) fun q => by omega
      rw [e1, if_neg z]
      rw [if_neg (by omega)] at this
      exact this
  | false =>
    have kn : k < bs.length := by
      unfold sideO at hs
      rcases Nat.lt_or_ge k bs.length with z | z
      · exact z
      · rw [decide_eq_true (by omega : k = bs.length)] at hs
        cases hs
    have hns : ¬ sideO bs ts k = true := by rw [hs]; decide
    have x : BkB bs (chg bs k) k (toB bs k) := ⟨ne, hk, rfl, kn, rfl⟩
    obtain ⟨u, m, v0, y⟩ := inB ne hk kn
    have gt := y.gt
    have ll := y.len hk1
    have eTo : ldTo bs ts k = toB bs k := by unfold ldTo; rw [if_neg hns]
    have eU : ldU bs ts k = toB bs k - 1 := by unfold ldU; rw [if_neg hns]
    have eE : ldE bs ts k = if toB bs k < bs.length then [((toB bs k : Int) - 1, (toB bs k : Int), false)] else [] := by
      unfold ldE
      rw [eTo, hs]
      by_cases z : toB bs k < bs.length
      · rw [if_pos ⟨by omega, z⟩, if_pos z]
      · rw [if_neg fun q => z q.2, if_neg z]
    have hb : bside (chg bs k) us (toB bs k) = false := by
      unfold bside
      rw [decide_eq_false (by omega : ¬ toB bs k = 0), Bool.false_or, lc]
      by_cases z : toB bs k < bs.length
      · have m1 : (((toB bs k : Int) - 1, (toB bs k : Int), false) : I3) ∈ us := pm.mem_iff.mpr (by unfold ldM; rw [eE, if_pos z]; exact List.mem_append_right _ (List.mem_singleton.mpr rfl))
        rw [(sg_iff so').mpr m1]
        simp
      · rw [decide_eq_false z]
        rfl
    have hnb : ¬ bside (chg bs k) us (toB bs k) = true := by rw [hb]; decide
    rw [eTo]
    have eK : bkK (chg bs k) us (toB bs k) = k := by unfold bkK; rw [if_neg hnb, x.from]
    refine ⟨eK, ?_⟩
    have eT' : bkT (chg bs k) us (toB bs k) = toB bs k - 1 := by unfold bkT; rw [if_neg hnb]
    have eU' : bkU (chg bs k) us (toB bs k) = k - 1 := by
      unfold bkU
      rw [eK, hb, if_neg fun q => by cases q.1]
    have e1 : ldT bs ts k = k - 1 := by unfold ldT; rw [hs, if_neg fun q => by cases q.1]
    have eE' : bkE (chg bs k) us (toB bs k) = if 0 < k then [((k : Int) - 1, (k : Int), false)] else [] := by
      unfold bkE
      rw [eK, hb, lc]
      by_cases z : 0 < k
      · rw [if_pos ⟨z, kn⟩, if_pos z]
      · rw [if_neg fun q => z q.1, if_neg z]
    unfold bkM
    rw [eT', eU', eE']
    have back : (mvI ((toB bs k - 1 : Nat) : Int) ((k - 1 : Nat) : Int) us).Perm (ts.filter (keepI ((k - 1 : Nat) : Int))) := by
      refine (mvI_perm pm).trans ?_
      unfold ldM
      rw [mvI_app, eU, e1, mv_mv, mvI_nil (es := ldE bs ts k), List.append_nil]
      intro e m
      rw [eE] at m
      by_cases z : toB bs k < bs.length
      · rw [if_pos z, List.mem_singleton] at m
        subst m
        exact .inl (by show (toB bs k : Int) - 1 = ((toB bs k - 1 : Nat) : Int); omega)
      · rw [if_neg z] at m; cases m
    refine List.Perm.trans ?_ (back.symm.append_right _)
    by_cases z : 0 < k
    · have := touch_bead h (b1 z) fun q => by
        have := side_mid h z kn (b1 z) (b2 kn)
        rw [hs] at this
        rw [show ((k - 1 : Nat) : Int) + 1 = (k : Int) by omega, show ((k - 1 : Nat) : Int) = (k : Int) - 1 by omega]
        exact this
      rw [if_pos (by omega), show ((k - 1 : Nat) : Int) + 1 = (k : Int) by omega] at this
      rw [if_pos z, show (k : Int) - 1 = ((k - 1 : Nat) : Int) by omega]
      exact this
    · have ez : k = 0 := by omega
      subst ez
      have := touch_free h (b2 kn) fun q => by omega
      rw [if_neg (by omega)] at this
      rw [if_neg z]
      exact this
end HopH

set_option Elab.async false
set_option linter.all false
set_option maxRecDepth 100000
namespace HopH
open HopW (gn sn)
/-! ### the number of a heap -/
/-- counts below β, m of them -/
def sd (c : Nat → Nat) : Nat → Nat → Nat
  | _, 0 => 0
  | β, m + 1 => c β + sd c (β - 1) m
/-- how many beads the free place i uses up -/
def uF (R : List T3) (i : Nat) : Nat := R.countP fun e => decide (e.2.1 = i) && !e.2.2
def nuF : List Bool → Nat → Nat → (Nat → Nat) → Nat
  | [], _, _, _ => 0
  | true :: w, i, β, U => nuF w (i + 1) (β + 1) U
  | false :: w, i, β, U => sd (gn w) β (U i) + nuF w (i + 1) (β - U i) U
theorem nuF_congr : ∀ (w : List Bool) (i β : Nat) (U U' : Nat → Nat), (∀ j, i ≤ j → U j = U' j) → nuF w i β U = nuF w i β U'
  | [], _, _, _, _, _ => rfl
  | true :: w, i, β, U, U', h => nuF_congr w (i + 1) (β + 1) U U' fun j hj => h j (by omega)
  | false :: w, i, β, U, U', h => by
    show sd (gn w) β (U i) + nuF w (i + 1) (β - U i) U = sd (gn w) β (U' i) + nuF w (i + 1) (β - U' i) U'
    rw [h i (Nat.le_refl _), nuF_congr w (i + 1) (β - U' i) U U' fun j hj => h j (by omega)]
theorem uF_cons (e : T3) (R : List T3) (j : Nat) : uF (e :: R) j = uF R j + (if e.2.1 = j ∧ e.2.2 = false then 1 else 0) := by
  unfold uF
  rw [List.countP_cons]
  congr 1
  by_cases h : e.2.1 = j
  · rw [decide_eq_true h]
    cases e.2.2 <;> simp [h]
  · rw [decide_eq_false h]
    simp [h]
theorem uF_perm {R R' : List T3} (p : R.Perm R') (j : Nat) : uF R j = uF R' j := p.countP_eq _
theorem uF_zero {R : List T3} {j : Nat} (h : ∀ e ∈ R, e.2.1 = j → e.2.2 = true) : uF R j = 0 := by
  unfold uF
  rw [List.countP_eq_zero]
  intro e m
  rw [Bool.and_eq_true, decide_eq_true_eq]
  rintro ⟨a, b⟩
  rw [h e m a] at b
  cases b
theorem sn_end (h : Nat → Nat) : ∀ b, sn h (b + 1) = sn h b + h b := by
  intro b
  induction b generalizing h with
  | zero => show h 0 + 0 = 0 + h 0; omega
  | succ b ih =>
    show h 0 + sn (fun j => h (j + 1)) (b + 1) = (h 0 + sn (fun j => h (j + 1)) b) + h (b + 1)
    rw [ih (fun j => h (j + 1))]
    omega
theorem gn_free (w : List Bool) (β : Nat) : gn (false :: w) (β + 1) = gn (false :: w) β + gn w (β + 1) := sn_end (gn w) (β + 1)
theorem gn_free0 (w : List Bool) : gn (false :: w) 0 = gn w 0 := by
  show gn w 0 + 0 = _
  omega
theorem gn_ge (w : List Bool) (β : Nat) : gn w β ≤ gn (false :: w) β := by
  cases β with
  | zero => rw [gn_free0]; exact Nat.le_refl _
  | succ β => rw [gn_free]; omega
theorem hbF_from : ∀ (w : List Bool) (i : Nat) (B : List Nat) (r : Nat), ∀ e ∈ hbF w i B r, i ≤ e.2.1
  | [], _, _, _, e, m => by cases m
  | true :: w, i, B, r, e, m => by
    have := hbF_from w (i + 1) (i :: B) r e m
    omega
  | false :: w, i, B, r, e, m => by
    rw [hbF_free] at m
    unfold hbG at m
    rcases List.mem_append.mp m with m | m
    · obtain ⟨b, _, rfl⟩ := List.mem_map.mp m
      exact Nat.le_refl _
    rcases List.mem_append.mp m with m | m
    · generalize (popF (gn w) B r).2.1 = L at m
      cases L with
      | nil => cases m
      | cons b L =>
        rw [show topF i (b :: L) = [(b, i, true)] from rfl, List.mem_singleton] at m
        rw [m]
        exact Nat.le_refl _
    · have := hbF_from w (i + 1) _ _ e m
      omega
/-- the number of what a number tells -/
theorem num_hb : ∀ (w : List Bool) (i : Nat) (B : List Nat) (r : Nat), r < gn w B.length → nuF w i B.length (uF (hbF w i B r)) = r := by
  intro w
  induction w with
  | nil =>
    intro i B r h
    have h : r < 1 := h
    show 0 = r
    omega
  | cons x w ih =>
    cases x with
    | true =>
      intro i B r h
      rw [hbF_bead]
      exact ih (i + 1) (i :: B) r h
    | false =>
      intro i B
      induction B with
      | nil =>
        intro r h
        rw [hbF_free, hbG_nil]
        have z : uF (hbF w (i + 1) [] r) i = 0 := uF_zero fun e m q => by
          have := hbF_from w (i + 1) [] r e m
          omega
        show sd (gn w) 0 (uF (hbF w (i + 1) [] r) i) + nuF w (i + 1) (0 - uF (hbF w (i + 1) [] r) i) _ = r
        rw [z]
        have h : r < gn (false :: w) 0 := h
        rw [gn_free0] at h
        have := ih (i + 1) [] r h
        show 0 + nuF w (i + 1) 0 _ = r
        rw [Nat.zero_add]
        exact this
      | cons b B ihB =>
        intro r h
        have h : r < gn (false :: w) (B.length + 1) := h
        rw [gn_free] at h
        rw [hbF_free]
        by_cases c : gn w (B.length + 1) ≤ r
        · rw [hbG_yes c, ← hbF_free]
          have q := ihB (r - gn w (B.length + 1)) (by omega)
          generalize hbF (false :: w) i B (r - gn w (B.length + 1)) = R at q
          have u1 : uF ((b, i, false) :: R) i = uF R i + 1 := by rw [uF_cons, if_pos ⟨rfl, rfl⟩]
          have q : sd (gn w) B.length (uF R i) + nuF w (i + 1) (B.length - uF R i) (uF R) = r - gn w (B.length + 1) := q
          show sd (gn w) (B.length + 1) (uF ((b, i, false) :: R) i) + nuF w (i + 1) (B.length + 1 - uF ((b, i, false) :: R) i) (uF ((b, i, false) :: R)) = r
          rw [u1, nuF_congr w (i + 1) (B.length + 1 - (uF R i + 1)) (uF ((b, i, false) :: R)) (uF R) fun j hj => by rw [uF_cons, if_neg fun z => by have : i = j := z.1; omega]; rfl, show B.length + 1 - (uF R i + 1) = B.length - uF R i by omega]
          show gn w (B.length + 1) + sd (gn w) (B.length + 1 - 1) (uF R i) + _ = r
          rw [Nat.add_sub_cancel]
          omega
        · rw [hbG_no c]
          have q := ih (i + 1) (b :: B) r (by show r < gn w (B.length + 1); omega)
          have z : uF (hbF w (i + 1) (b :: B) r) i = 0 := uF_zero fun e m q => by
            have := hbF_from w (i + 1) (b :: B) r e m
            omega
          generalize hbF w (i + 1) (b :: B) r = R at q z
          have u1 : ∀ j, uF ((b, i, true) :: R) j = uF R j := fun j => by rw [uF_cons, if_neg fun z => by cases z.2]; rfl
          show sd (gn w) (B.length + 1) (uF ((b, i, true) :: R) i) + nuF w (i + 1) (B.length + 1 - uF ((b, i, true) :: R) i) (uF ((b, i, true) :: R)) = r
          rw [u1, z, nuF_congr w (i + 1) _ (uF ((b, i, true) :: R)) (uF R) fun j _ => u1 j]
          show 0 + nuF w (i + 1) (B.length + 1) (uF R) = r
          rw [Nat.zero_add]
          exact q
theorem mem_mid {l1 l2 : List Nat} {x : Nat} (so : (l1 ++ x :: l2).Pairwise (· < ·)) : ∀ y, y ∈ l1 ++ l2 ↔ y ∈ l1 ++ x :: l2 ∧ y ≠ x := by
  obtain ⟨_, h2, h3⟩ := List.pairwise_append.mp so
  obtain ⟨h4, _⟩ := List.pairwise_cons.mp h2
  intro y
  rw [List.mem_append, List.mem_append, List.mem_cons]
  constructor
  · rintro (m | m)
    · exact ⟨.inl m, fun e => by have := h3 y m x (List.mem_cons_self ..); omega⟩
    · exact ⟨.inr (.inr m), fun e => by have := h4 y m; omega⟩
  · rintro ⟨m | m | m, n⟩
    · exact .inl m
    · exact absurd m n
    · exact .inr m
theorem Heaped.nodup {bs : List Bool} {S : List Nat} {R : List T3} (h : Heaped bs S R) : R.Nodup := (List.pairwise_map.mp h.nd).imp fun {a b} n e => n (by rw [e])
theorem touchT {R : List T3} {x : Nat} {e : T3} (nd : R.Nodup) (he : e ∈ R) (ht : e.1 = x ∨ e.2.1 = x) (only : ∀ a ∈ R, a.1 = x ∨ a.2.1 = x → a = e) : R.Perm (e :: R.filter fun a => decide (a.1 ≠ x) && decide (a.2.1 ≠ x)) := by
  have kp : ∀ a : T3, (decide (a.1 ≠ x) && decide (a.2.1 ≠ x)) = true ↔ ¬ (a.1 = x ∨ a.2.1 = x) := fun a => by
    rw [Bool.and_eq_true, decide_eq_true_eq, decide_eq_true_eq, not_or]
  refine (List.perm_ext_iff_of_nodup nd ?_).mpr fun a => ?_
  · refine List.nodup_cons.mpr ⟨fun m => ?_, nd.filter _⟩
    exact (kp e).mp (List.mem_filter.mp m).2 ht
  · rw [List.mem_cons, List.mem_filter, kp]
    constructor
    · intro m
      by_cases z : a.1 = x ∨ a.2.1 = x
      · exact .inl (only a m z)
      · exact .inr ⟨m, z⟩
    · rintro (rfl | ⟨m, _⟩)
      · exact he
      · exact m
theorem no_touch {R : List T3} {x : Nat} (h : ∀ a ∈ R, a.1 ≠ x ∧ a.2.1 ≠ x) : R.filter (fun a => decide (a.1 ≠ x) && decide (a.2.1 ≠ x)) = R := by
  refine List.filter_eq_self.mpr fun a m => ?_
  rw [decide_eq_true (h a m).1, decide_eq_true (h a m).2]
  rfl
/-- each heap is the heap of its number -/
theorem num_back {bs : List Bool} : ∀ (w : List Bool) (i : Nat) (B F : List Nat) (R : List T3), bs.drop i = w → (F ++ B.reverse ++ List.range' i w.length).Pairwise (· < ·) → (∀ x ∈ F, bs[x]? = some false) → (∀ x ∈ B, bs[x]? = some true) →
    Heaped bs (F ++ B.reverse ++ List.range' i w.length) R → nuF w i B.length (uF R) < gn w B.length ∧ R.Perm (hbF w i B (nuF w i B.length (uF R))) := by
  intro w
  induction w with
  | nil =>
    intro i B F R e so hF hB h
    rw [show List.range' i ([] : List Bool).length = [] from rfl, List.append_nil] at so h
    refine ⟨by show 0 < 1; decide, ?_⟩
    have : R = [] := by
      cases R with
      | nil => rfl
      | cons a R =>
        obtain ⟨b, f, s⟩ := a
        obtain ⟨a1, a2, a3, a4, a5⟩ := h.inn b f s (List.mem_cons_self ..)
        obtain ⟨_, _, h3⟩ := List.pairwise_append.mp so
        rcases List.mem_append.mp a1 with m1 | m1
        · exact absurd (hF b m1) (by rw [a4]; simp)
        rcases List.mem_append.mp a2 with m2 | m2
        · have := h3 f m2 b m1; omega
        · exact absurd (hB f (List.mem_reverse.mp m2)) (by rw [a5]; simp)
    rw [this]
    exact .nil
  | cons x w ih =>
    intro i B F R e so hF hB h
    have il : i < bs.length := by
      rcases Nat.lt_or_ge i bs.length with h | h
      · exact h
      · rw [List.drop_eq_nil_of_le h] at e; cases e
    rw [List.drop_eq_getElem_cons il] at e
    obtain ⟨e1, e2⟩ := List.cons.inj e
    have bi : bs[i]? = some x := by rw [List.getElem?_eq_getElem il, e1]
    have rg : List.range' i (x :: w).length = i :: List.range' (i + 1) w.length := by
      rw [List.length_cons, List.range'_succ]
    rw [rg] at so h
    cases x with
    | true =>
      have ec : F ++ B.reverse ++ i :: List.range' (i + 1) w.length = F ++ (i :: B).reverse ++ List.range' (i + 1) w.length := by
        rw [List.reverse_cons, ← List.append_assoc, List.append_assoc (F ++ B.reverse)]
        rfl
      rw [ec] at so h
      exact ih (i + 1) (i :: B) F R e2 so hF (fun x m => by
        rcases List.mem_cons.mp m with rfl | m
        · exact bi
        · exact hB x m) h
    | false =>
      clear rg e
      induction B generalizing R with
      | nil =>
        have ec : F ++ ([] : List Nat).reverse ++ i :: List.range' (i + 1) w.length = F ++ [i] ++ ([] : List Nat).reverse ++ List.range' (i + 1) w.length := by
          rw [List.reverse_nil, List.append_nil, List.append_nil, List.append_assoc]
          rfl
        have z : uF R i = 0 := uF_zero fun a m q => by
          obtain ⟨b, f, s⟩ := a
          have q : f = i := q
          subst q
          obtain ⟨a1, a2, a3, a4, a5⟩ := h.inn _ _ _ m
          rw [List.reverse_nil, List.append_nil] at so a1
          obtain ⟨_, k2, k3⟩ := List.pairwise_append.mp so
          rcases List.mem_append.mp a1 with m1 | m1
          · exact absurd (hF b m1) (by rw [a4]; simp)
          · rcases List.mem_cons.mp m1 with m1 | m1
            · omega
            · have := (List.pairwise_cons.mp k2).1 b m1
              omega
        rw [ec] at so h
        obtain ⟨q1, q2⟩ := ih (i + 1) [] (F ++ [i]) R e2 so (fun x m => by
          rcases List.mem_append.mp m with m | m
          · exact hF x m
          · rw [List.mem_singleton.mp m]; exact bi) (fun x m => by simp at m) h
        have en : nuF (false :: w) i ([] : List Nat).length (uF R) = nuF w (i + 1) ([] : List Nat).length (uF R) := by
          show sd (gn w) 0 (uF R i) + nuF w (i + 1) (0 - uF R i) (uF R) = nuF w (i + 1) 0 (uF R)
          rw [z]
          show 0 + nuF w (i + 1) 0 (uF R) = _
          omega
        rw [en]
        refine ⟨Nat.lt_of_lt_of_le q1 (gn_ge w 0), ?_⟩
        rw [hbF_free, hbG_nil]
        exact q2
      | cons b B ihB =>
        have ec : F ++ (b :: B).reverse ++ i :: List.range' (i + 1) w.length = (F ++ B.reverse) ++ b :: i :: List.range' (i + 1) w.length := by
          rw [List.reverse_cons, ← List.append_assoc, List.append_assoc (F ++ B.reverse)]
          rfl
        have bb := hB b (List.mem_cons_self ..)
        have so0 := so
        rw [ec] at so h
        have gb : ((F ++ B.reverse) ++ b :: i :: List.range' (i + 1) w.length)[(F ++ B.reverse).length]? = some b := by rw [List.getElem?_append_right (Nat.le_refl _), Nat.sub_self]; rfl
        have gi : ((F ++ B.reverse) ++ b :: i :: List.range' (i + 1) w.length)[(F ++ B.reverse).length + 1]? = some i := by rw [List.getElem?_append_right (Nat.le_add_right _ _), Nat.add_sub_cancel_left]; rfl
        have adj := next_to so gb gi
        have bS := List.mem_of_getElem? gb
        have iS := List.mem_of_getElem? gi
        have lt : b < i := lt_at so gb gi (Nat.lt_succ_self _)
        obtain ⟨s, m⟩ := cut_sign h bS iS lt adj bb bi
        cases s with
        | true =>
          have ed : (F ++ B.reverse ++ [b]) ++ List.range' (i + 1) w.length = F ++ (b :: B).reverse ++ List.range' (i + 1) w.length := by
            rw [List.reverse_cons, List.append_assoc F]
          have ee : (F ++ B.reverse) ++ b :: i :: List.range' (i + 1) w.length = (F ++ B.reverse ++ [b]) ++ i :: List.range' (i + 1) w.length := by
            rw [List.append_assoc (F ++ B.reverse)]
            rfl
          have hS := mem_mid (by rw [← ee]; exact so : ((F ++ B.reverse ++ [b]) ++ i :: List.range' (i + 1) w.length).Pairwise (· < ·))
          rw [← ee, ed] at hS
          have hc := cut_free h bS lt adj bi m hS
          have so' : (F ++ (b :: B).reverse ++ List.range' (i + 1) w.length).Pairwise (· < ·) := by
            rw [← ed]
            rw [ee] at so
            exact so.sublist (List.Sublist.append_left (List.sublist_cons_self _ _) _)
          obtain ⟨q1, q2⟩ := ih (i + 1) (b :: B) F _ e2 so' hF hB hc
          have pR := touchT h.nodup m (.inr rfl) fun a ma z => by
            obtain ⟨b1, f1, s1⟩ := a
            rcases z with z | z
            · have z : b1 = i := z
              subst z
              exact absurd (h.inn _ _ _ ma).2.2.2.1 (by rw [bi]; simp)
            · have z : f1 = i := z
              subst z
              obtain ⟨r1, r2⟩ := cut_free_only h bS lt adj m ma
              rw [r1, r2]
          generalize (R.filter fun e => decide (e.1 ≠ i) && decide (e.2.1 ≠ i)) = R' at pR q1 q2 hc
          have u1 : ∀ j, uF R j = uF R' j := fun j => by rw [uF_perm pR, uF_cons, if_neg fun z => by cases z.2]; rfl
          have u0 : uF R i = 0 := by
            rw [u1]
            refine uF_zero fun a ma z => ?_
            obtain ⟨b1, f1, s1⟩ := a
            have z : f1 = i := z
            subst z
            have := ((hS f1).mp (hc.inn _ _ _ ma).2.1).2
            exact absurd rfl this
          have en : nuF (false :: w) i (b :: B).length (uF R) = nuF w (i + 1) (b :: B).length (uF R') := by
            show sd (gn w) (B.length + 1) (uF R i) + nuF w (i + 1) (B.length + 1 - uF R i) (uF R) = nuF w (i + 1) (B.length + 1) (uF R')
            rw [u0, nuF_congr w (i + 1) _ (uF R) (uF R') fun j _ => u1 j]
            show 0 + nuF w (i + 1) (B.length + 1) (uF R') = _
            omega
          rw [en]
          refine ⟨Nat.lt_of_lt_of_le q1 (gn_ge w _), ?_⟩
          have q1 : nuF w (i + 1) (B.length + 1) (uF R') < gn w (B.length + 1) := q1
          rw [hbF_free, hbG_no (show ¬ gn w (B.length + 1) ≤ nuF w (i + 1) (b :: B).length (uF R') from by show ¬ gn w (B.length + 1) ≤ nuF w (i + 1) (B.length + 1) (uF R'); omega)]
          exact pR.trans (q2.cons _)
        | false =>
          have hS := mem_mid so
          have hc := cut_bead h iS lt adj bb m hS
          have so' : ((F ++ B.reverse) ++ i :: List.range' (i + 1) w.length).Pairwise (· < ·) := so.sublist (List.Sublist.append_left (List.sublist_cons_self _ _) _)
          obtain ⟨q1, q2⟩ := ihB _ so' (fun x m => hB x (List.mem_cons_of_mem _ m)) hc
          have pR := touchT h.nodup m (.inl rfl) fun a ma z => by
            obtain ⟨b1, f1, s1⟩ := a
            rcases z with z | z
            · have z : b1 = b := z
              subst z
              obtain ⟨r1, r2⟩ := cut_bead_only h iS lt adj m ma
              rw [r1, r2]
            · have z : f1 = b := z
              subst z
              exact absurd (h.inn _ _ _ ma).2.2.2.2 (by rw [bb]; simp)
          generalize (R.filter fun e => decide (e.1 ≠ b) && decide (e.2.1 ≠ b)) = R' at pR q1 q2 hc
          have ui : uF R i = uF R' i + 1 := by rw [uF_perm pR, uF_cons, if_pos ⟨rfl, rfl⟩]
          have u1 : ∀ j, i + 1 ≤ j → uF R j = uF R' j := fun j hj => by rw [uF_perm pR, uF_cons, if_neg fun z => by have : i = j := z.1; omega]; rfl
          have en : nuF (false :: w) i (b :: B).length (uF R) = gn w (B.length + 1) + nuF (false :: w) i B.length (uF R') := by
            show sd (gn w) (B.length + 1) (uF R i) + nuF w (i + 1) (B.length + 1 - uF R i) (uF R) = gn w (B.length + 1) + (sd (gn w) B.length (uF R' i) + nuF w (i + 1) (B.length - uF R' i) (uF R'))
            rw [ui, nuF_congr w (i + 1) _ (uF R) (uF R') u1, show B.length + 1 - (uF R' i + 1) = B.length - uF R' i by omega]
            show gn w (B.length + 1) + sd (gn w) (B.length + 1 - 1) (uF R' i) + _ = _
            rw [Nat.add_sub_cancel]
            omega
          rw [en]
          have gf := gn_free w B.length
          refine ⟨by show _ < gn (false :: w) (B.length + 1); omega, ?_⟩
          rw [hbF_free, hbG_yes (by omega), ← hbF_free, Nat.add_sub_cancel_left]
          exact pR.trans (q2.cons _)
theorem num_all {bs : List Bool} {R : List T3} (h : Heaped bs (List.range bs.length) R) : nuF bs 0 0 (uF R) < gn bs 0 ∧ R.Perm (hbF bs 0 [] (nuF bs 0 0 (uF R))) := by
  have := num_back (bs := bs) bs 0 [] [] R List.drop_zero (by rw [List.reverse_nil, List.nil_append, List.nil_append, ← List.range_eq_range']; exact range_lt _) (fun x m => by simp at m) (fun x m => by simp at m) (by rw [List.reverse_nil, List.nil_append, List.nil_append, ← List.range_eq_range']; exact h)
  exact this
end HopH

set_option Elab.async false
set_option linter.all false
set_option maxRecDepth 100000
namespace HopH
open HopW (gn sn)
open L2 HopR HopT
/-- no free place uses up more beads than are left -/
def uOK : List Bool → Nat → Nat → (Nat → Nat) → Prop
  | [], _, _, _ => True
  | true :: w, i, β, U => uOK w (i + 1) (β + 1) U
  | false :: w, i, β, U => U i ≤ β ∧ uOK w (i + 1) (β - U i) U
theorem uOK_congr : ∀ (w : List Bool) (i β : Nat) (U U' : Nat → Nat), (∀ j, i ≤ j → U j = U' j) → uOK w i β U → uOK w i β U'
  | [], _, _, _, _, _, _ => trivial
  | true :: w, i, β, U, U', h, k => uOK_congr w (i + 1) (β + 1) U U' (fun j hj => h j (by omega)) k
  | false :: w, i, β, U, U', h, k => by
    obtain ⟨k1, k2⟩ := k
    rw [h i (Nat.le_refl _)] at k1 k2
    exact ⟨k1, uOK_congr w (i + 1) (β - U' i) U U' (fun j hj => h j (by omega)) k2⟩
theorem uOK_hb : ∀ (w : List Bool) (i : Nat) (B : List Nat) (r : Nat), uOK w i B.length (uF (hbF w i B r)) := by
  intro w
  induction w with
  | nil => intro i B r; trivial
  | cons x w ih =>
    cases x with
    | true =>
      intro i B r
      exact ih (i + 1) (i :: B) r
    | false =>
      intro i B
      induction B with
      | nil =>
        intro r
        have z : uF (hbF w (i + 1) [] r) i = 0 := uF_zero fun e m q => by
          have := hbF_from w (i + 1) [] r e m
          omega
        refine ⟨by rw [hbF_free, hbG_nil, z]; exact Nat.zero_le _, ?_⟩
        rw [hbF_free, hbG_nil, z]
        exact ih (i + 1) [] r
      | cons b B ihB =>
        intro r
        by_cases c : gn w (B.length + 1) ≤ r
        · rw [hbF_free, hbG_yes c, ← hbF_free]
          obtain ⟨q1, q2⟩ := ihB (r - gn w (B.length + 1))
          generalize hbF (false :: w) i B (r - gn w (B.length + 1)) = R at q1 q2
          have u1 : uF ((b, i, false) :: R) i = uF R i + 1 := by rw [uF_cons, if_pos ⟨rfl, rfl⟩]
          refine ⟨by rw [u1, List.length_cons]; omega, ?_⟩
          rw [u1, List.length_cons, show B.length + 1 - (uF R i + 1) = B.length - uF R i by omega]
          exact uOK_congr w (i + 1) _ _ _ (fun j hj => by rw [uF_cons, if_neg fun z => by have : i = j := z.1; omega]; rfl) q2
        · rw [hbF_free, hbG_no c]
          have q := ih (i + 1) (b :: B) r
          have z : uF (hbF w (i + 1) (b :: B) r) i = 0 := uF_zero fun e m q => by
            have := hbF_from w (i + 1) (b :: B) r e m
            omega
          generalize hbF w (i + 1) (b :: B) r = R at q z
          have u1 : ∀ j, uF ((b, i, true) :: R) j = uF R j := fun j => by rw [uF_cons, if_neg fun z => by cases z.2]; rfl
          refine ⟨by rw [u1, z]; exact Nat.zero_le _, ?_⟩
          rw [u1, z]
          exact uOK_congr w (i + 1) _ _ _ (fun j _ => (u1 j).symm) q
/-- the number of a list of tuples -/
def uI (ts : List I3) (i : Nat) : Nat := ((ts.filter fun e => !e.2.2).map fun e => e.2.1).count (i : Int)
def numL (bs : List Bool) (ts : List I3) : Nat := nuF bs 0 0 (uI ts)
theorem uI_uF {R : List T3} {ts : List I3} (p : ts.Perm (R.map c3)) (i : Nat) : uI ts i = uF R i := by
  unfold uI
  rw [((p.filter _).map _).count_eq]
  clear p
  induction R with
  | nil => rfl
  | cons e R ih =>
    obtain ⟨b, f, s⟩ := e
    rw [uF_cons, ← ih, List.map_cons]
    cases s with
    | true =>
      rw [List.filter_cons_of_neg (by simp [c3]), if_neg fun z => by cases z.2]
      rfl
    | false =>
      rw [List.filter_cons_of_pos (by simp [c3]), List.map_cons, List.count_cons]
      congr 1
      show (if ((f : Int) == (i : Int)) = true then 1 else 0) = _
      by_cases h : f = i
      · subst h
        rw [if_pos (beq_self_eq_true _), if_pos ⟨rfl, rfl⟩]
      · rw [if_neg (by rw [beq_iff_eq]; omega), if_neg fun z => h z.1]
theorem numL_at {bs : List Bool} {ts : List I3} {N : Nat} (p : ts.Perm ((hbF bs 0 [] N).map c3)) (h : N < gn bs 0) : numL bs ts = N := by
  unfold numL
  rw [nuF_congr bs 0 0 (uI ts) (uF (hbF bs 0 [] N)) fun j _ => uI_uF p j]
  exact num_hb bs 0 [] N h
theorem numL_back {bs : List Bool} {ts : List I3} (h : HeapL bs ts) : numL bs ts < gn bs 0 ∧ ts.Perm ((hbF bs 0 [] (numL bs ts)).map c3) := by
  obtain ⟨R, hR, p, _, _⟩ := h
  have e : numL bs ts = nuF bs 0 0 (uF R) := nuF_congr bs 0 0 _ _ fun j _ => uI_uF p j
  obtain ⟨q1, q2⟩ := num_all hR
  rw [e]
  exact ⟨q1, p.trans (q2.map _)⟩
theorem uOK_heap {bs : List Bool} {ts : List I3} (h : HeapL bs ts) : uOK bs 0 0 (uI ts) := by
  obtain ⟨R, hR, p, _, _⟩ := h
  obtain ⟨q1, q2⟩ := num_all hR
  exact uOK_congr bs 0 0 (uF (hbF bs 0 [] (nuF bs 0 0 (uF R)))) _ (fun j _ => by rw [uI_uF p, uF_perm q2]) (uOK_hb bs 0 [] _)
end HopH

set_option Elab.async false
set_option linter.all false
set_option maxRecDepth 100000
namespace HopH
open PySem PySem.Spec PyProof PyProof.Rows L2 HopR HopT
open HopW (gn)
/-! ### all heaps by the leftmost pair -/
theorem find_of (w : List Bool) : (Txt.find (tx w) "o." = -1 ∧ hasOf w = false) ∨ ∃ i : Nat, ofAt w i = true ∧ (∀ j, j < i → ofAt w j = false) ∧ Txt.find (tx w) "o." = (i : Int) := by
  have iff : ∀ i, StrLaws.At (tx w) (tx [true, false]) (tx w).length i ↔ ofAt w i = true := fun i => by
    constructor
    · intro h
      unfold ofAt
      exact decide_eq_true ((sub_tx w i).mp h.2)
    · intro z
      refine ⟨?_, (sub_tx w i).mpr (of_decide_eq_true z)⟩
      have := ofAt_lt z
      rw [tx_len, tx_len]
      simp only [List.length_cons, List.length_nil]
      omega
  have eo : ("o." : Str) = tx [true, false] := of_tx
  unfold Txt.find
  rw [eo]
  rcases StrLaws.occ_head (tx w) (tx [true, false]) 1 (Nat.le_refl _) with ⟨e, no⟩ | ⟨i, r, e, a, fst⟩
  · rw [e]
    refine .inl ⟨rfl, ?_⟩
    cases h : hasOf w with
    | false => rfl
    | true =>
      obtain ⟨i, _, z⟩ := List.any_eq_true.mp h
      exact absurd ((iff i).mpr z) (no i)
  · rw [e]
    refine .inr ⟨i, (iff i).mp a, fun j hj => ?_, rfl⟩
    cases z : ofAt w j with
    | false => rfl
    | true => exact absurd ((iff j).mpr z) (fst j hj)
def AllH (w : List Bool) (i : Nat) (B : List Nat) : List (List T3) := (List.range (gn w B.length)).map (hbF w i B)
theorem all_nil (i : Nat) (B : List Nat) : AllH [] i B = [[]] := rfl
theorem all_free0 (w : List Bool) (i : Nat) : AllH (false :: w) i [] = AllH w (i + 1) [] := by
  unfold AllH
  rw [show gn (false :: w) ([] : List Nat).length = gn w ([] : List Nat).length from gn_free0 w]
  rfl
theorem all_free (w : List Bool) (i b : Nat) (B : List Nat) : AllH (false :: w) i (b :: B) = (AllH w (i + 1) (b :: B)).map (fun R => (b, i, true) :: R) ++ (AllH (false :: w) i B).map (fun R => (b, i, false) :: R) := by
  unfold AllH
  have e : gn (false :: w) (b :: B).length = gn w (b :: B).length + gn (false :: w) B.length := by
    show gn (false :: w) (B.length + 1) = gn w (B.length + 1) + _
    rw [gn_free]
    omega
  rw [e, List.range_add, List.map_append, List.map_map, List.map_map, List.map_map]
  congr 1
  · refine List.map_congr_left fun r m => ?_
    have m := List.mem_range.mp m
    show hbF (false :: w) i (b :: B) r = (b, i, true) :: hbF w (i + 1) (b :: B) r
    rw [hbF_free, hbG_no (by have : r < gn w (B.length + 1) := m; omega)]
  · refine List.map_congr_left fun r m => ?_
    show hbF (false :: w) i (b :: B) (gn w (B.length + 1) + r) = (b, i, false) :: hbF (false :: w) i B r
    rw [hbF_free, hbG_yes (by omega), Nat.add_sub_cancel_left, ← hbF_free]
theorem gn_le : ∀ (w : List Bool) (β : Nat), gn w β ≤ 2 ^ (β + w.length) := by
  intro w
  induction w with
  | nil => intro β; exact Nat.one_le_two_pow
  | cons x w ih =>
    cases x with
    | true =>
      intro β
      have := ih (β + 1)
      rw [show β + 1 + w.length = β + (true :: w).length by rw [List.length_cons]; omega] at this
      exact this
    | false =>
      intro β
      induction β with
      | zero =>
        rw [gn_free0]
        refine Nat.le_trans (ih 0) (Nat.pow_le_pow_right (by decide) ?_)
        rw [List.length_cons]
        omega
      | succ β ihβ =>
        rw [gn_free]
        have h1 := ih (β + 1)
        have e1 : 2 ^ (β + (false :: w).length) = 2 ^ (β + 1 + w.length) := by rw [List.length_cons]; congr 1; omega
        have e2 : 2 ^ (β + 1 + (false :: w).length) = 2 ^ (β + 1 + w.length) * 2 := by
          rw [← Nat.pow_succ, List.length_cons]
          congr 1
        omega
/-- letters that are left, read as beads, frees behind them not yet reached -/
structure PS (bs : List Bool) (L : List Nat) (w : List Bool) (i : Nat) (B F : List Nat) : Prop where
  e : L = F ++ B.reverse ++ List.range' i w.length
  d : bs.drop i = w
  so : L.Pairwise (· < ·)
  f : ∀ x ∈ F, bs[x]? = some false
  b : ∀ x ∈ B, bs[x]? = some true
theorem ps_cons {bs : List Bool} {L : List Nat} {x : Bool} {w : List Bool} {i : Nat} {B F : List Nat} (h : PS bs L (x :: w) i B F) : bs[i]? = some x ∧ bs.drop (i + 1) = w ∧ L = F ++ B.reverse ++ i :: List.range' (i + 1) w.length := by
  have e := h.d
  have il : i < bs.length := by
    rcases Nat.lt_or_ge i bs.length with h | h
    · exact h
    · rw [List.drop_eq_nil_of_le h] at e; cases e
  rw [List.drop_eq_getElem_cons il] at e
  obtain ⟨e1, e2⟩ := List.cons.inj e
  refine ⟨by rw [List.getElem?_eq_getElem il, e1], e2, ?_⟩
  rw [h.e, List.length_cons, List.range'_succ]
theorem norm {bs : List Bool} {L : List Nat} : ∀ {w : List Bool} {i : Nat} {B F : List Nat}, PS bs L w i B F → ∃ w' i' B' F', PS bs L w' i' B' F' ∧ AllH w i B = AllH w' i' B' ∧ (w' = [] ∨ ∃ v b B'', w' = false :: v ∧ B' = b :: B'') := by
  intro w
  induction w with
  | nil => intro i B F h; exact ⟨[], i, B, F, h, rfl, .inl rfl⟩
  | cons x w ih =>
    intro i B F h
    obtain ⟨h1, h2, h3⟩ := ps_cons h
    cases x with
    | true =>
      obtain ⟨w', i', B', F', q1, q2, q3⟩ := ih (i := i + 1) (B := i :: B) (F := F) ⟨by rw [h3, List.reverse_cons, ← List.append_assoc, List.append_assoc (F ++ B.reverse)]; rfl, h2, h.so, h.f, fun x m => by
        rcases List.mem_cons.mp m with rfl | m
        · exact h1
        · exact h.b x m⟩
      exact ⟨w', i', B', F', q1, q2, q3⟩
    | false =>
      cases B with
      | nil =>
        obtain ⟨w', i', B', F', q1, q2, q3⟩ := ih (i := i + 1) (B := []) (F := F ++ [i]) ⟨by rw [h3, List.reverse_nil, List.append_nil, List.append_nil, List.append_assoc]; rfl, h2, h.so, fun x m => by
          rcases List.mem_append.mp m with m | m
          · exact h.f x m
          · rw [List.mem_singleton.mp m]; exact h1, fun x m => by simp at m⟩
        exact ⟨w', i', B', F', q1, by rw [all_free0]; exact q2, q3⟩
      | cons b B => exact ⟨false :: w, i, b :: B, F, h, rfl, .inr ⟨w, b, B, rfl, rfl⟩⟩
theorem bitL_of {bs : List Bool} {x : Nat} {v : Bool} (h : bs[x]? = some v) : bitL bs x = v := by
  unfold bitL
  rw [h]
  rfl
/-- frees, then beads: no pair begins there -/
theorem no_pair {bs : List Bool} {F B rest : List Nat} (hF : ∀ x ∈ F, bs[x]? = some false) (hB : ∀ x ∈ B, bs[x]? = some true) {j : Nat} (hj : j + 1 < F.length + B.length) : ofAt ((F ++ B.reverse ++ rest).map (bitL bs)) j = false := by
  cases z : ofAt ((F ++ B.reverse ++ rest).map (bitL bs)) j with
  | false => rfl
  | true =>
    obtain ⟨z1, z2⟩ := ofAt_iff.mp z
    rw [List.getElem?_map, List.getElem?_append_left (by rw [List.length_append, List.length_reverse]; omega)] at z1 z2
    by_cases c : j < F.length
    · rw [List.getElem?_append_left c, List.getElem?_eq_getElem c] at z1
      have := bitL_of (hF _ (List.getElem_mem c))
      simp [this] at z1
    · rw [List.getElem?_append_right (by omega)] at z2
      obtain ⟨y, hy, e⟩ := Option.map_eq_some_iff.mp z2
      have := bitL_of (hB y (List.mem_reverse.mp (List.mem_of_getElem? hy)))
      rw [this] at e
      cases e
theorem ps_end {bs : List Bool} {L : List Nat} {i : Nat} {B F : List Nat} (h : PS bs L [] i B F) : ∀ j, ofAt (L.map (bitL bs)) j = false := by
  intro j
  have e := h.e
  rw [show List.range' i ([] : List Bool).length = [] from rfl] at e
  by_cases c : j + 1 < F.length + B.length
  · rw [e]
    exact no_pair h.f h.b c
  · cases z : ofAt (L.map (bitL bs)) j with
    | false => rfl
    | true =>
      have := ofAt_lt z
      rw [List.length_map, e, List.append_nil, List.length_append, List.length_reverse] at this
      omega
theorem ps_pair {bs : List Bool} {L : List Nat} {v : List Bool} {i b : Nat} {B F : List Nat} (h : PS bs L (false :: v) i (b :: B) F) :
    L[F.length + B.length]? = some b ∧ L[F.length + B.length + 1]? = some i ∧ ofAt (L.map (bitL bs)) (F.length + B.length) = true ∧ (∀ j, j < F.length + B.length → ofAt (L.map (bitL bs)) j = false) ∧ PS bs (L.eraseIdx (F.length + B.length + 1)) v (i + 1) (b :: B) F ∧ PS bs (L.eraseIdx (F.length + B.length)) (false :: v) i B F := by
  obtain ⟨h1, h2, h3⟩ := ps_cons h
  have ec : L = (F ++ B.reverse) ++ b :: i :: List.range' (i + 1) v.length := by
    rw [h3, List.reverse_cons, ← List.append_assoc, List.append_assoc (F ++ B.reverse)]
    rfl
  have ln : (F ++ B.reverse).length = F.length + B.length := by rw [List.length_append, List.length_reverse]
  have g1 : L[F.length + B.length]? = some b := by rw [ec, ← ln, List.getElem?_append_right (Nat.le_refl _), Nat.sub_self]; rfl
  have g2 : L[F.length + B.length + 1]? = some i := by rw [ec, ← ln, List.getElem?_append_right (Nat.le_add_right _ _), Nat.add_sub_cancel_left]; rfl
  have bb := h.b b (List.mem_cons_self ..)
  refine ⟨g1, g2, ?_, fun j hj => ?_, ⟨?_, h2, h.so.sublist (List.eraseIdx_sublist ..), h.f, h.b⟩, ⟨?_, h.d, h.so.sublist (List.eraseIdx_sublist ..), h.f, fun x m => h.b x (List.mem_cons_of_mem _ m)⟩⟩
  · refine ofAt_iff.mpr ⟨?_, ?_⟩
    · rw [List.getElem?_map, g1]
      exact congrArg some (bitL_of bb)
    · rw [List.getElem?_map, g2]
      exact congrArg some (bitL_of h1)
  · rw [h3]
    exact no_pair h.f h.b (by rw [List.length_cons]; omega)
  · rw [ec, ← ln, List.eraseIdx_append_of_length_le (Nat.le_add_right _ _), Nat.add_sub_cancel_left, List.reverse_cons, ← List.append_assoc, List.append_assoc (F ++ B.reverse)]
    rfl
  · rw [ec, ← ln, List.eraseIdx_append_of_length_le (Nat.le_refl _), Nat.sub_self, List.length_cons, List.range'_succ]
    rfl
end HopH

set_option Elab.async false
set_option linter.all false
set_option maxRecDepth 100000
namespace HopR
open PySem PySem.Spec PyProof PyProof.Rows L2
section
variable {X : Cx}
/-- how often a truth stands in a list of truths -/
def isB (k : Bool) : Value → Bool
  | .bool b => b == k
  | _ => false
theorem bl_vals : ∀ {bs : List Bool} {its : List Value}, Vals (bs.map V.bl) its → (∀ y ∈ its, ∃ b, y = .bool b) ∧ ∀ k, its.countP (isB k) = bs.count k
  | [], _, h => by cases h; exact ⟨fun y m => by simp at m, fun k => rfl⟩
  | b :: bs, _, h => by
    cases h with
    | cons r h =>
      cases r
      obtain ⟨h1, h2⟩ := bl_vals h
      refine ⟨fun y m => ?_, fun k => ?_⟩
      · rcases List.mem_cons.mp m with rfl | m
        · exact ⟨b, rfl⟩
        · exact h1 y m
      · rw [List.countP_cons, List.count_cons, h2 k]
        rfl
def rCntB (K : PySem.W.Frag) : V → List V → Hp → VK → Prop := fun x xs H Q => ∃ (p : Addr) (bs : List Bool) (k : Bool), x = .ref p ∧ xs = [.bl k] ∧ SqL K H p (bs.map V.bl) ∧ Q (.int ((bs.count k : Nat) : Int)) H
theorem mt_countB : MtR X "list.count" (rCntB X.K) := by
  intro pins s σ H x xs v us Q I rx rxs h
  obtain ⟨p, bs, k, rfl, rfl, hs, q⟩ := h
  cases rx
  obtain ⟨u, rfl, ru⟩ := rxs.one
  cases ru
  obtain ⟨its, rv, ⟨⟨cls, dd, data, sl⟩, n, ho, hc, hdn, hd⟩, hlen⟩ := I.list hs
  simp only at hc hd
  subst hc hd
  obtain ⟨b1, b2⟩ := bl_vals rv
  have eqs : ∀ y ∈ its.toArray, SeqAt.EqAt X.A.in1 s y (.bool k) (isB k y) := fun y hy => by
    obtain ⟨b, rfl⟩ := b1 y (by simpa using hy)
    exact eqAt_V (y := .bl b) (x := .bl k) rfl rfl rfl rfl
  refine call_meets PySem.F.slot_list_count ⟨_, ho, rfl⟩ PySem.F.entry_list_count (PySem.F.args_list_count_2 _ _) (SeqAt.list_countAt p its.toArray n dd sl (.bool k) (isB k)) ⟨ho, eqs, ?_⟩
  refine ⟨.int ((bs.count k : Nat) : Int), H, I.tok _, ⟨s.toks, ?_⟩, q⟩
  show Value.int ((its.toArray.toList.countP (isB k) : Nat) : Int) s.toks = Value.int ((bs.count k : Nat) : Int) s.toks
  rw [show its.toArray.toList = its from by simp, b2 k]
end
end HopR

set_option Elab.async false
set_option linter.all false
set_option maxRecDepth 100000
namespace HopH
open PySem L2 HopR HopT
theorem eqv3 (e e' : I3) : PyData.eqv (d3 e) (d3 e') = decide (e = e') := by
  obtain ⟨a, b, s⟩ := e
  obtain ⟨a', b', s'⟩ := e'
  have ht : (tx [s] == tx [s']) = decide (s = s') := by cases s <;> cases s' <;> decide +kernel
  unfold d3
  simp only [PyData.eqv, PyData.eqvAll, Bool.and_true, ht]
  by_cases h1 : a = a' <;> by_cases h2 : b = b' <;> by_cases h3 : s = s' <;> simp [h1, h2, h3]
theorem eqvL3 : ∀ l m : List I3, PyData.eqvAll (l.map d3) (m.map d3) = decide (l = m)
  | [], [] => rfl
  | [], _ :: _ => by simp [PyData.eqvAll]
  | _ :: _, [] => by simp [PyData.eqvAll]
  | x :: l, y :: m => by
    rw [List.map_cons, List.map_cons]
    simp only [PyData.eqvAll, eqv3, eqvL3 l m]
    by_cases h1 : x = y <;> by_cases h2 : l = m <;> simp [h1, h2]
theorem eqvT3 (l m : List I3) : PyData.eqv (.list (l.map d3)) (.list (m.map d3)) = decide (l = m) := by
  rw [← eqvL3]
  simp only [PyData.eqv]
theorem eqv_self {d : PyData} (h : SeqAt.shaped d = true) : PyData.eqv d d = true := by
  refine SeqAt.eqv_refl _ ?_
  unfold SeqAt.shaped at h
  exact (Bool.and_eq_true_iff.mp h).1
end HopH

set_option Elab.async false
set_option linter.all false
set_option maxRecDepth 100000
/-! ### a change seen in the mirror -/
namespace HopH
open PySem L2 HopR HopT
theorem lead_mir (x : List Bool) : ((mir x).takeWhile id).length + (x.reverse.dropWhile (!·)).length = x.length := by
  have e : mir x = x.reverse.map (!·) := rfl
  have h := List.takeWhile_append_dropWhile (p := (!·)) (l := x.reverse)
  have hl := congrArg List.length h
  rw [List.length_append, List.length_reverse] at hl
  rw [e, List.takeWhile_map, List.length_map]
  exact hl
theorem tail_mir (y : List Bool) : ((mir y).reverse.dropWhile (!·)).length + (y.takeWhile id).length = y.length := by
  have e : (mir y).reverse = y.map (!·) := by
    show (y.reverse.map (!·)).reverse = _
    rw [← List.map_reverse, List.reverse_reverse]
  have h := List.takeWhile_append_dropWhile (p := id) (l := y)
  have hl := congrArg List.length h
  rw [List.length_append] at hl
  rw [e, List.dropWhile_map, List.length_map]
  have e2 : ((fun x => !x) ∘ fun x => !x) = (id : Bool → Bool) := by
    funext x
    cases x <;> rfl
  rw [e2]
  omega
theorem toB_mir {bs : List Bool} {k : Nat} (h0 : 0 < k) (h : k ≤ bs.length) : toB (mir bs) (bs.length - k) = bs.length - toA bs k ∧ toA bs k ≤ bs.length := by
  unfold toB toA
  have e : (mir bs).drop (bs.length - k + 1) = mir (bs.take (k - 1)) := by
    rw [mir_take _ _ (by omega)]
    congr 1
    omega
  have l := lead_mir (bs.take (k - 1))
  rw [List.length_take] at l
  rw [e]
  omega
theorem toA_mir {bs : List Bool} {k : Nat} (h : k < bs.length) : toA (mir bs) (bs.length - k) = bs.length - toB bs k ∧ toB bs k ≤ bs.length := by
  unfold toB toA
  have e : (mir bs).take (bs.length - k - 1) = mir (bs.drop (k + 1)) := by
    rw [mir_drop _ _ (by omega)]
    congr 1
  have l := tail_mir (bs.drop (k + 1))
  rw [List.length_drop] at l
  rw [e]
  omega
theorem plI_mir {m t u x : Int} (h : x ≠ t) : plI (m - t) (m - u) (m - x) = m - plI t u x := by
  unfold plI
  by_cases h1 : t < x
  · rw [if_pos h1, if_neg (by omega : ¬ (m - t < m - x))]
    by_cases h2 : u ≤ x - 1
    · rw [if_pos h2, if_neg (by omega)]; omega
    · rw [if_neg h2, if_pos (by omega)]; omega
  · rw [if_neg h1, if_pos (by omega : m - t < m - x)]
    by_cases h2 : u ≤ x
    · rw [if_pos h2, if_neg (by omega)]; omega
    · rw [if_neg h2, if_pos (by omega)]; omega
theorem mvI_mir (m t u : Int) (ts : List I3) : (mvI t u ts).map (mtI m) = mvI (m - t) (m - u) (ts.map (mtI m)) := by
  unfold mvI
  induction ts with
  | nil => rfl
  | cons e r ih =>
    obtain ⟨b, f, s⟩ := e
    have hk : keepI (m - t) (mtI m (b, f, s)) = keepI t (b, f, s) := by
      unfold keepI mtI
      rw [Bool.and_comm]
      congr 1
      · exact decide_eq_decide.mpr ⟨fun h q => h (by show m - b = m - t; omega), fun h q => h (by have : m - b = m - t := q; omega)⟩
      · exact decide_eq_decide.mpr ⟨fun h q => h (by show m - f = m - t; omega), fun h q => h (by have : m - f = m - t := q; omega)⟩
    rw [List.map_cons, List.filter_cons, List.filter_cons, hk]
    by_cases h : keepI t (b, f, s) = true
    · rw [if_pos h, if_pos h, List.map_cons, List.map_cons, List.map_cons, ih]
      congr 1
      unfold keepI at h
      rw [Bool.and_eq_true, decide_eq_true_eq, decide_eq_true_eq] at h
      show (m - plI t u f, m - plI t u b, !s) = (plI (m - t) (m - u) (m - f), plI (m - t) (m - u) (m - b), !s)
      rw [plI_mir h.1, plI_mir h.2]
    · rw [if_neg h, if_neg h]
      exact ih
theorem sg_mir {m : Int} {ts ms : List I3} (so : (ts.map pr3).Pairwise ltP2) (sm : (ms.map pr3).Pairwise ltP2) (p : ms.Perm (ts.map (mtI m))) (b f : Int) : sg ms (m - f, m - b) = (sg ts (b, f)).map (!·) := by
  have iff : ∀ s, sg ms (m - f, m - b) = some s ↔ sg ts (b, f) = some (!s) := fun s => by
    rw [sg_iff sm, sg_iff so, p.mem_iff, List.mem_map]
    constructor
    · rintro ⟨⟨b', f', s'⟩, h, e⟩
      have e1 : (m - f', m - b', !s') = (m - f, m - b, s) := e
      injection e1 with e1 e2
      injection e2 with e2 e3
      obtain rfl : f' = f := by omega
      obtain rfl : b' = b := by omega
      subst e3
      rw [Bool.not_not]
      exact h
    · intro h
      exact ⟨_, h, by show (m - f, m - b, !!s) = _; rw [Bool.not_not]⟩
  cases h : sg ts (b, f) with
  | some s =>
    have := (iff (!s)).mpr (by rw [h, Bool.not_not])
    rw [this]
    rfl
  | none =>
    cases h2 : sg ms (m - f, m - b) with
    | none => rfl
    | some s =>
      have := (iff s).mp h2
      rw [h] at this
      cases this
section
variable {bs : List Bool} {ts us ms : List I3} {k : Nat}
theorem side_mir (ne : bs ≠ []) (h : HeapL bs ts) (hm : HeapL (mir bs) ms) (p : ms.Perm (ts.map (mtI ((bs.length : Int) - 1)))) (hk : k ∈ walls bs) : sideO (mir bs) ms (bs.length - k) = !sideO bs ts k := by
  have hk1 := (mem_walls.mp hk).1
  have pos : 0 < bs.length := List.length_pos_iff.mpr ne
  obtain ⟨b1, b2⟩ := wall_bits ne hk
  have sgn := fun a b => side_mid h (k := k) a b (b1 a) (b2 b)
  obtain ⟨_, _, _, so, _⟩ := id h
  obtain ⟨_, _, _, sm, _⟩ := id hm
  have ml := mir_len bs
  rcases Nat.eq_zero_or_pos k with z | z
  · subst z
    have e1 : sideO bs ts 0 = false := by
      unfold sideO
      rw [decide_eq_false (by omega : ¬ 0 = bs.length), decide_eq_false (by omega : ¬ 0 < 0)]
      rfl
    have e2 : sideO (mir bs) ms (bs.length - 0) = true := by
      unfold sideO
      rw [decide_eq_true (by rw [ml]; omega)]
      rfl
    rw [e1, e2]
    rfl
  · rcases Nat.lt_or_ge k bs.length with y | y
    · have e := sg_mir so sm p ((k : Int) - 1) (k : Int)
      rw [sgn z y] at e
      have e' : sg ms (((bs.length - k : Nat) : Int) - 1, ((bs.length - k : Nat) : Int)) = some (!sideO bs ts k) := by
        rw [← show (bs.length : Int) - 1 - (k : Int) = ((bs.length - k : Nat) : Int) - 1 by omega, ← show (bs.length : Int) - 1 - ((k : Int) - 1) = ((bs.length - k : Nat) : Int) by omega]
        exact e
      show (decide (bs.length - k = (mir bs).length) || (decide (0 < bs.length - k) && decide (sg ms (((bs.length - k : Nat) : Int) - 1, ((bs.length - k : Nat) : Int)) = some true))) = _
      rw [e', ml, decide_eq_false (by omega), decide_eq_true (by omega : 0 < bs.length - k)]
      cases sideO bs ts k <;> rfl
    · have ek : k = bs.length := by omega
      have e1 : sideO bs ts k = true := by
        unfold sideO
        rw [decide_eq_true ek]
        rfl
      have e2 : sideO (mir bs) ms (bs.length - k) = false := by
        unfold sideO
        rw [ml, decide_eq_false (by omega), decide_eq_false (by omega : ¬ 0 < bs.length - k)]
        rfl
      rw [e1, e2]
      rfl
theorem to_mir (ne : bs ≠ []) (h : HeapL bs ts) (hm : HeapL (mir bs) ms) (p : ms.Perm (ts.map (mtI ((bs.length : Int) - 1)))) (hk : k ∈ walls bs) : ldTo (mir bs) ms (bs.length - k) = bs.length - ldTo bs ts k ∧ ldTo bs ts k ≤ bs.length ∧ (sideO bs ts k = true → 0 < k ∧ ldTo bs ts k < bs.length) ∧ (sideO bs ts k = false → k < bs.length ∧ 0 < ldTo bs ts k) := by
  have hk1 := (mem_walls.mp hk).1
  have pos : 0 < bs.length := List.length_pos_iff.mpr ne
  have sd := side_mir ne h hm p hk
  cases hs : sideO bs ts k with
  | true =>
    have k0 : 0 < k := by
      unfold sideO at hs
      rcases Nat.eq_zero_or_pos k with z | z
      · subst z
        rw [decide_eq_false (by omega), decide_eq_false (by omega)] at hs
        cases hs
      · exact z
    obtain ⟨u0, m, v, x⟩ := inA ne hk k0
    have lt := x.lt
    obtain ⟨e1, e2⟩ := toB_mir k0 hk1
    rw [hs] at sd
    unfold ldTo
    rw [sd, hs]
    refine ⟨e1, e2, fun _ => ⟨k0, ?_⟩, fun z => by cases z⟩
    show toA bs k < _
    omega
  | false =>
    have kn : k < bs.length := by
      unfold sideO at hs
      rcases Nat.lt_or_ge k bs.length with z | z
      · exact z
      · rw [decide_eq_true (by omega : k = bs.length)] at hs
        cases hs
    obtain ⟨e1, e2⟩ := toA_mir kn
    rw [hs] at sd
    unfold ldTo
    rw [sd, hs]
    refine ⟨e1, e2, (fun z => by cases z), fun _ => ⟨kn, ?_⟩⟩
    show 0 < toB bs k
    unfold toB
    omega
/-- the change in the mirror -/
theorem ldM_mir (ne : bs ≠ []) (h : HeapL bs ts) (hm : HeapL (mir bs) ms) (p : ms.Perm (ts.map (mtI ((bs.length : Int) - 1)))) (hk : k ∈ walls bs) : ((ldM bs ts k).map (mtI ((bs.length : Int) - 1))).Perm (ldM (mir bs) ms (bs.length - k)) := by
  have hk1 := (mem_walls.mp hk).1
  have pos : 0 < bs.length := List.length_pos_iff.mpr ne
  have sd := side_mir ne h hm p hk
  obtain ⟨et, le, s1, s2⟩ := to_mir ne h hm p hk
  have ml := mir_len bs
  have eT : ((ldT (mir bs) ms (bs.length - k) : Nat) : Int) = (bs.length : Int) - 1 - (ldT bs ts k : Int) := by
    unfold ldT
    rw [sd, ml]
    cases hs : sideO bs ts k with
    | true =>
      obtain ⟨k0, _⟩ := s1 hs
      rw [Bool.not_true, if_neg (fun z => by cases z.1)]
      by_cases z : k < bs.length
      · rw [if_pos ⟨rfl, z⟩]; omega
      · rw [if_neg (fun q => z q.2)]; omega
    | false =>
      obtain ⟨kn, _⟩ := s2 hs
      rw [Bool.not_false]
      by_cases z : 0 < k
      · rw [if_pos ⟨rfl, by omega⟩, if_neg (fun z => by cases z.1)]; omega
      · rw [if_neg (fun q => by have := q.2; omega), if_neg (fun z => by cases z.1)]; omega
  have eU : ((ldU (mir bs) ms (bs.length - k) : Nat) : Int) = (bs.length : Int) - 1 - (ldU bs ts k : Int) := by
    have e1 : ∀ (b : List Bool) (t : List I3) (j : Nat), ldU b t j = if sideO b t j = true then ldTo b t j else ldTo b t j - 1 := fun b t j => by
      unfold ldU ldTo
      split <;> rfl
    rw [e1, e1, sd, et]
    cases hs : sideO bs ts k with
    | true =>
      obtain ⟨k0, t0⟩ := s1 hs
      rw [Bool.not_true, if_neg (by decide), if_pos rfl]
      omega
    | false =>
      obtain ⟨kn, t0⟩ := s2 hs
      rw [Bool.not_false, if_pos rfl, if_neg (by decide)]
      omega
  have eE : (ldE bs ts k).map (mtI ((bs.length : Int) - 1)) = ldE (mir bs) ms (bs.length - k) := by
    unfold ldE
    rw [sd, et, ml]
    by_cases z : 0 < ldTo bs ts k ∧ ldTo bs ts k < bs.length
    · rw [if_pos z, if_pos (by omega), List.map_singleton]
      show [((bs.length : Int) - 1 - (ldTo bs ts k : Int), (bs.length : Int) - 1 - ((ldTo bs ts k : Int) - 1), !sideO bs ts k)] = _
      rw [show (bs.length : Int) - 1 - (ldTo bs ts k : Int) = ((bs.length - ldTo bs ts k : Nat) : Int) - 1 by omega, show (bs.length : Int) - 1 - ((ldTo bs ts k : Int) - 1) = ((bs.length - ldTo bs ts k : Nat) : Int) by omega]
    · rw [if_neg z, if_neg (by omega), List.map_nil]
  unfold ldM
  rw [List.map_append, mvI_mir, eE, eT, eU]
  exact (mvI_perm p.symm).append_right _
end
end HopH

set_option Elab.async false
set_option linter.all false
set_option maxRecDepth 100000
set_option exponentiation.threshold 200000
namespace Hop
section
open PySem L2 HopR
def top (i : Nat) : Stmt := PySem.Challenge.pw_hopline_k14_changes_by_paces.main.body.getD i (.Pass ⟨0, 0, 0, 0⟩)
abbrev sIsWhole : Stmt := top 11
abbrev sIsRow : Stmt := top 20
abbrev sNeedRow : Stmt := top 21
end
end Hop
namespace Hop
section
open PySem L2 HopR
open C8 (InsC call_isC)
abbrev sDivisor : Stmt := top 12
abbrev sInit : Stmt := inClass (top 14) 0
theorem tb_ : ¬ (("top" : Str) = "bottom") := by decide +kernel
def pf (q : Rat) : List (Str × V) := putF "bottom" (.int (q.den : Int)) (putF "top" (.int q.num) [])
theorem pf_top (q : Rat) : (pf q).lookup ("top" : Str) = some (.int q.num) := by
  unfold pf
  rw [lookup_putF, if_neg tb_, lookup_putF, if_pos rfl]
/-- at a a Part of q -/
def PA (C : Addr) (H : Hp) (a : Addr) (q : Rat) : Prop := ∃ dx, H a = some (.ins C dx (pf q))
theorem PA.same {C : Addr} {H H' : Hp} {a : Addr} {q : Rat} (s : Same H H') (h : PA C H a q) : PA C H' a q := let ⟨dx, e⟩ := h; ⟨dx, s _ _ e⟩
/-- what is known of the class and of the built-ins -/
structure TxtP (K : PySem.W.Frag) (mg : Str → Option Value) (C : Addr) : Prop where
  len : mg "len" = none
  range : mg "range" = none
  abs : mg "abs" = none
  isi : mg "isinstance" = none
  int : mg "int" = none
  bool : mg "bool" = none
  ins : InsC K C
  nT : NoAttr K C "top"
  nB : NoAttr K C "bottom"
  mgC : mg "Part" = some (.ref C)
end
end Hop
namespace Hop
section
open PySem L2 HopR
open C8 (InsC call_isC)
variable {P : Program} {w : World} {K : PySem.W.Frag} {mg : Str → Option Value} {base : Heap} {C : Addr}
def spWhole : Sp := fun vs H Q _ => ∃ i : Int, vs = [.int i] ∧ Q (.bl true) H
theorem scWhole : FnScope ["thing"] ["thing"] (defScope sIsWhole) := ⟨rfl, rfl, rfl, by decide +kernel, rfl, by decide +kernel, by decide +kernel⟩
theorem ok_whole {f : Addr} {fd : FuncData} {k : Nat} (F : Fun K "is_whole" "is_whole" sIsWhole f fd) (T : TxtP K mg C) : FnOk P w K mg base CX0 (k + 1) f fd ["thing"] spWhole := by
  refine F.ok scWhole (fun vs H Q E h => ?_) (fun cdv A outer s H vs Q E hr h => ?_)
  · obtain ⟨i, rfl, _⟩ := h
    rfl
  · obtain ⟨i, rfl, q⟩ := h
    refine ⟨_, pss_one (ps_ret (pe_and (pe_callB call_isi (by rfl) T.isi (by decide +kernel) (pa_cons (pv 0) (pa_cons (pe_bltn (v := .ty "int") (by rfl) T.int (by decide +kernel) rfl) pa_nil)))
      (pe_one (pe_not (pe_callB call_isi (by rfl) T.isi (by decide +kernel) (pa_cons (pv 0) (pa_cons (pe_bltn (v := .ty "bool") (by rfl) T.bool (by decide +kernel) rfl) pa_nil))))))), ?_⟩
    refine ⟨.int i, rfl, .int i, .ty "int", .type "int", .type "int", true, rfl, .ty _, .base (.int _), kit_ty (by decide +kernel), true, rfl, ?_⟩
    exact ⟨.int i, rfl, .int i, .ty "bool", .type "int", .type "bool", false, rfl, .ty _, .base (.int _), kit_ty (by decide +kernel), false, rfl, q⟩
def spDivisor : Sp := fun vs H Q _ => ∃ a b : Int, vs = [.int a, .int b] ∧ Q (.int (Int.gcd a b : Int)) H
theorem scDivisor : FnScope ["one", "other"] ["one", "other"] (defScope sDivisor) := ⟨rfl, rfl, rfl, by decide +kernel, rfl, by decide +kernel, by decide +kernel⟩
theorem ok_divisor {f : Addr} {fd : FuncData} {k : Nat} (F : Fun K "common_divisor" "common_divisor" sDivisor f fd) (T : TxtP K mg C) : FnOk P w K mg base CX0 (k + 1) f fd ["one", "other"] spDivisor := by
  refine F.ok scDivisor (fun vs H Q E h => ?_) (fun cdv A outer s H vs Q E hr h => ?_)
  · obtain ⟨a, b, rfl, _⟩ := h
    rfl
  · obtain ⟨a, b, rfl, q⟩ := h
    have nd := scDivisor.nd
    refine ⟨_, pss_cons (ps_while PassesOwn.never (pt_cmpR op_ne (pv 1) pe_int (nomark _)) (pss_one (ps_par (by rfl) nd (i := 0) (j := 1) rfl rfl (by decide) rfl rfl (pa_cons (pv 1) (pa_cons (pe_op op_modN (pv 0) (pv 1)) pa_nil)) (by rfl))))
      (pss_one (ps_ret (pe_callB call_abs (by rfl) T.abs (by decide +kernel) (pa_cons (pv 0) pa_nil)))), ?_⟩
    refine while_by (fun σ H1 => ∃ x y : Int, σ = [some (.int x), some (.int y)] ∧ Int.gcd x y = Int.gcd a b ∧ H1 = H) (fun σ _ => match σ with | [_, some (.int y)] => y.natAbs | _ => 0) ⟨a, b, rfl, rfl, rfl⟩ ?_ ?_
    · rintro σ H1 ⟨x, y, rfl, e, rfl⟩
      refine ⟨.int y, rfl, rfl, _, rfl, ?_⟩
      by_cases hy : y = 0
      · subst hy
        refine iteNS rfl ⟨.int x, rfl, x, rfl, ?_⟩
        have e2 : (if x < 0 then -x else x) = (Int.gcd a b : Int) := by
          rw [← e, Int.gcd_zero_right]
          split <;> omega
        show Q (.int (if x < 0 then -x else x)) H1
        rw [e2]
        exact q
      · rw [decide_eq_false (fun z => hy (V.int.inj z))]
        refine iteT ⟨.int y, rfl, .int x, rfl, .int y, rfl, x, y, rfl, rfl, hy, _, _, rfl, ⟨y, x.fmod y, rfl, (gcd_fmod x y).trans e, rfl⟩, fmod_less x hy⟩
    · rintro σ H1 Q1 Q2 hm h
      obtain ⟨v, e1, e2, k2, e3, h⟩ := h
      exact ⟨v, e1, e2, k2, e3, hm _ _ h⟩
theorem scInit : FnScope ["self", "top", "bottom", "divisor"] ["self", "top", "bottom"] (defScope sInit) := ⟨rfl, rfl, rfl, by decide +kernel, rfl, by decide +kernel, by decide +kernel⟩
def spInit (C : Addr) : Sp := fun vs H Q _ => ∃ (p dx : Addr) (t b : Int), vs = [.ref p, .int t, .int b] ∧ b ≠ 0 ∧ b.natAbs < 2 ^ 8000 ∧ H p = some (.ins C dx []) ∧ Q .non (upd H p (.ins C dx (pf (Rat.divInt t b))))
theorem ok_init {f f1 f2 : Addr} {fd fd1 fd2 : FuncData} {k : Nat} (F : FunD K "__init__" "Part.__init__" (defArgs sInit) (defBody sInit) (defScope sInit) [.int 1] [] f fd) (N1 : Fn K mg "is_whole" sIsWhole ["thing"] f1 fd1) (N2 : Fn K mg "common_divisor" sDivisor ["one", "other"] f2 fd2) (T : TxtP K mg C) :
    FnOk P w K mg base CX0 (k + 2) f fd ["self", "top", "bottom"] (spInit C) := by
  have G1 : FnOk P w K mg base CX0 (k + 1) f1 fd1 ["thing"] spWhole := ok_whole N1.F T
  have G2 : FnOk P w K mg base CX0 (k + 1) f2 fd2 ["one", "other"] spDivisor := ok_divisor N2.F T
  refine F.ok scInit (fun vs H Q E h => ?_) (fun cdv A outer s H vs Q E hr h => ?_)
  · obtain ⟨p, dx, t, b, rfl, _⟩ := h
    rfl
  · obtain ⟨p, dx, t, b, rfl, hb, hb2, hp, q⟩ := h
    have nd := scInit.nd
    refine ⟨_, PSs.nox (pss_cons (ps_if (pt_not (pt_val (pe_call G1 hr (by rfl) N1.g N1.F.kp N1.b .nil pass0 (pa_cons (pv 1) pa_nil)))) (pss_one ps_never) pss_nil)
      (pss_cons (ps_if (pt_not (pt_val (pe_call G1 hr (by rfl) N1.g N1.F.kp N1.b .nil pass0 (pa_cons (pv 2) pa_nil)))) (pss_one ps_never) pss_nil)
      (pss_cons (ps_if (pt_cmpR op_eq (pv 2) pe_int (nomark _)) (pss_one ps_never) pss_nil)
      (pss_cons (ps_set (i := 3) nd rfl (.inl rfl) (pe_call G2 hr (by rfl) N2.g N2.F.kp N2.b .nil pass0 (pa_cons (pv 1) (pa_cons (pv 2) pa_nil))))
      (pss_cons (ps_if (pt_cmpR op_lt (pv 2) pe_int (nomark _)) (pss_one (ps_set (i := 3) nd rfl (.inl rfl) (pe_un un_neg (pv 3)))) pss_nil)
      (pss_cons (ps_fld (pv 0) (pe_op op_fdivWN (pv 1) (pv 3)) rfl)
      (pss_one (ps_fld (pv 0) (pe_op op_fdivWN (pv 2) (pv 3)) rfl)))))))), ?_⟩
    refine ⟨.int t, rfl, t, rfl, true, rfl, iteF ⟨.int b, rfl, b, rfl, true, rfl, iteF ⟨.int b, rfl, rfl, _, rfl, ?_⟩⟩⟩
    rw [decide_eq_false (fun z => hb (V.int.inj z))]
    refine iteF ⟨.int t, rfl, .int b, rfl, t, b, rfl, ?_⟩
    have hg := gcd_pos (t := t) hb
    have hgl : (Int.gcd t b).log2 < 9000 := by
      have h1 : Int.gcd t b ≤ b.natAbs := Nat.le_of_dvd (by omega) (Int.gcd_dvd_natAbs_right ..)
      exact Nat.lt_of_lt_of_le (PySem.Flt.log2_lt_of (by decide) (Nat.lt_of_le_of_lt h1 hb2)) (by decide)
    have fin : ∀ g : Int, g = (if b < 0 then -(Int.gcd t b : Int) else (Int.gcd t b : Int)) → CDivWN t g ∧ CDivWN b g := fun g e => by
      have e2 : g.natAbs = Int.gcd t b := by
        rw [e]
        split <;> omega
      unfold CDivWN
      rw [e2]
      exact ⟨⟨by omega, hgl⟩, ⟨by omega, hgl⟩⟩
    have done : ∀ g : Int, g = (if b < 0 then -(Int.gcd t b : Int) else (Int.gcd t b : Int)) → Q .non (upd (upd H p (.ins C dx (putF "top" (.int (t.fdiv g)) []))) p (.ins C dx (putF "bottom" (.int (b.fdiv g)) (putF "top" (.int (t.fdiv g)) [])))) := fun g e => by
      rw [upd_upd, e, low_num hb, low_den hb]
      exact q
    refine ⟨.int b, rfl, _, _, rfl, rfl, _, rfl, ite2 (fun e => ?_) (fun e => ?_)⟩
    · have e : b < 0 := of_decide_eq_true e
      have eg : -(Int.gcd t b : Int) = (if b < 0 then -(Int.gcd t b : Int) else (Int.gcd t b : Int)) := (if_pos e).symm
      obtain ⟨c1, c2⟩ := fin _ eg
      refine ⟨_, rfl, _, rfl, ?_⟩
      refine ⟨.int t, rfl, _, rfl, t, _, rfl, rfl, c1, .ref p, rfl, p, C, dx, _, rfl, hp, T.ins.cl, T.nT, (by show 0 < 1000; decide), ?_⟩
      exact ⟨.int b, rfl, _, rfl, b, _, rfl, rfl, c2, .ref p, rfl, p, C, dx, _, rfl, upd_same, T.ins.cl, T.nB, (by show 1 < 1000; decide), done _ eg⟩
    · have e : ¬ b < 0 := fun z => e (decide_eq_true z)
      have eg : (Int.gcd t b : Int) = (if b < 0 then -(Int.gcd t b : Int) else (Int.gcd t b : Int)) := (if_neg e).symm
      obtain ⟨c1, c2⟩ := fin _ eg
      refine ⟨.int t, rfl, _, rfl, t, _, rfl, rfl, c1, .ref p, rfl, p, C, dx, _, rfl, hp, T.ins.cl, T.nT, (by show 0 < 1000; decide), ?_⟩
      exact ⟨.int b, rfl, _, rfl, b, _, rfl, rfl, c2, .ref p, rfl, p, C, dx, _, rfl, upd_same, T.ins.cl, T.nB, (by show 1 < 1000; decide), done _ eg⟩
/-- what a Part is made with: its class, its __init__ and how that binds -/
structure Mks (K : PySem.W.Frag) (mg : Str → Option Value) (C fi f1 f2 : Addr) (gi g1 g2 : FuncData) (d1 : Value) : Prop where
  M : Mk K C fi
  F : FunD K "__init__" "Part.__init__" (defArgs sInit) (defBody sInit) (defScope sInit) [.int 1] [] fi gi
  b3 : Binds K gi ["self", "top", "bottom"] []
  b2 : Binds K gi ["self", "top", "bottom"] [d1]
  r1 : RelV (.int 1) d1
  N1 : Fn K mg "is_whole" sIsWhole ["thing"] f1 g1
  N2 : Fn K mg "common_divisor" sDivisor ["one", "other"] f2 g2
end
end Hop
namespace Hop
section
open PySem L2 HopR
open C8 (InsC call_isC)
structure TxtR (K : PySem.W.Frag) (w : World) (mg : Str → Option Value) (d : Addr) (es : Array DictEntry) (n : Nat) : Prop where
  len : mg "len" = none
  range : mg "range" = none
  all : mg "all" = none
  isi : mg "isinstance" = none
  str : mg "str" = none
  int : mg "int" = none
  bool : mg "bool" = none
  reversed : mg "reversed" = none
  sorted : mg "sorted" = none
  list : mg "list" = none
  repr : mg "repr" = none
  bead : ∃ t, mg "BEAD" = some (.str "o" t)
  free : ∃ t, mg "FREE" = some (.str "." t)
  most : ∃ t, mg "MOST_PLACES" = some (.int 30 t)
  os : mg "OTHER_SIGN" = some (.ref d)
  D : KDict K w d es n
  osO : ∃ t, PySem.W.nsIn K d "o" = some (some (.str "." t))
  osF : ∃ t, PySem.W.nsIn K d "." = some (some (.str "o" t))
/-- a text in a written dict -/
def rInKd (K : PySem.W.Frag) (d : Addr) : R2 := fun x y H Q => ∃ (z : Str) (r : Option Value), x = .str z ∧ y = .ref d ∧ PySem.W.nsIn K d z = some r ∧ Q (.bl r.isSome) H
theorem op_inKd {X : Cx} {d : Addr} {es : Array DictEntry} {n : Nat} (D : KDict X.K X.w d es n) : OpR X (compareOp .In) (rInKd X.K d) := op_in_kd D
def spIsRow : Sp := fun vs H Q _ => ∃ bs, vs = [.str (tx bs)] ∧ Row bs ∧ ∀ H', Same H H' → Q (.bl true) H'
theorem scIsRow : FnScope ["thing", "sign"] ["thing"] (defScope sIsRow) := ⟨rfl, rfl, rfl, by decide +kernel, rfl, by decide +kernel, by decide +kernel⟩
end
end Hop
namespace Hop
section
open PySem L2 HopR
open C8 (InsC call_isC)
variable {P : Program} {w : World} {K : PySem.W.Frag} {mg : Str → Option Value} {base : Heap} {d : Addr} {es : Array DictEntry} {n : Nat}
theorem in_os (T : TxtR K w mg d es n) (b : Bool) : ∃ r, PySem.W.nsIn K d (tx [b]) = some (some r) ∧ ∃ t, r = .str (tx [!b]) t := by
  cases b with
  | true =>
    obtain ⟨t, e⟩ := T.osO
    rw [tx_o] at e
    exact ⟨_, e, t, by rw [tx_f]; rfl⟩
  | false =>
    obtain ⟨t, e⟩ := T.osF
    rw [tx_f] at e
    exact ⟨_, e, t, by rw [tx_o]; rfl⟩
theorem ok_isrow {f : Addr} {fd : FuncData} {k : Nat} (F : Fun K "is_row" "is_row" sIsRow f fd) (T : TxtR K w mg d es n) : FnOk P w K mg base CX0 (k + 1) f fd ["thing"] spIsRow := by
  refine F.ok scIsRow (fun vs H Q E h => ?_) (fun cdv A outer s H vs Q E hr h => ?_)
  · obtain ⟨bs, rfl, _⟩ := h
    rfl
  · obtain ⟨bs, rfl, hR, q⟩ := h
    have nd := scIsRow.nd
    obtain ⟨tm, gm⟩ := T.most
    refine ⟨_, pss_cons (ps_if (PW.pt (pw_or (pt_not (pt_val (pe_callB call_isi (by rfl) T.isi (by decide +kernel) (pa_cons (pv 0) (pa_cons (pe_bltn (v := .ty "str") (by rfl) T.str (by decide +kernel) rfl) pa_nil)))))
          (pw_or (pt_cmpR op_lt (pe_callB call_len_str (by rfl) T.len PySem.boot_len (pa_cons (pv 0) pa_nil)) pe_int (nomark _))
          (pw_or1 (pt_cmpR op_gt (pe_callB call_len_str (by rfl) T.len PySem.boot_len (pa_cons (pv 0) pa_nil)) (pe_glob (v := .int 30) (by rfl) gm ⟨_, rfl⟩) (nomark _))))))
        (pss_one (ps_ret pe_bl)) pss_nil)
      (pss_one (ps_ret (pe_callB (cr_all rfl) (by rfl) T.all (by decide +kernel) (pa_cons
        (pe_lc (own := [("sign", 1)]) (g := gName 1) (tt := tYes) (te := tOp (rInKd K d) (tVar 1) (tC (.ref d))) rfl nd (pi_str (pv 0)) (blkOk_by (own := [("sign", 1)]) (N := ["thing", "sign"]) (sc := defScope sIsRow) (by decide +kernel))
          (fun _ _ _ _ _ => pg_name (i := 1) nd rfl (Or.inl rfl)) (fun _ _ _ _ _ => pts_nil)
          (fun _ _ _ _ _ => pe_cmpR (op_inKd T.D) (pv 1) (pe_glob (v := .ref d) (by rfl) T.os rfl) (by rfl)))
        pa_nil)))), ?_⟩
    have hz := row_size hR
    refine ⟨.str (tx bs), rfl, .str (tx bs), .ty "str", .type "str", .type "str", true, rfl, .ty _, .base (.str _), kit_ty (by decide +kernel), true, rfl, iteF ?_⟩
    refine ⟨.str (tx bs), rfl, tx bs, rfl, hz, _, _, rfl, rfl, _, rfl, ?_⟩
    rw [tx_len, decide_eq_false (by have := hR.1; omega)]
    refine iteF ⟨.str (tx bs), rfl, tx bs, rfl, hz, _, _, rfl, rfl, _, rfl, ?_⟩
    rw [tx_len, decide_eq_false (by have := hR.2; omega)]
    refine iteF ⟨.str (tx bs), rfl, tx bs, rfl, fun D hD => ?_⟩
    refine lc_tx (bs := bs) (fun i H3 => Same H H3 ∧ H3 D = some (.lst ((List.replicate i true).map V.bl)) ∧ i ≤ 30) ⟨same_upd hD, upd_same, by decide⟩ ?_ ?_
    · rintro i b H3 hb ⟨sm, eD, hi⟩
      obtain ⟨r, e1, t, e2⟩ := in_os T b
      have hi2 : i < bs.length := (List.getElem?_eq_some_iff.mp hb).1
      refine ⟨rfl, .str (tx [b]), rfl, tx [b], some r, rfl, rfl, e1, _, eD, ?_, same_new hD sm, ?_, ?_⟩
      · rw [List.length_map, List.length_replicate]
        exact small1000 (by omega)
      · rw [upd_same, List.replicate_succ', List.map_append]
        rfl
      · have := hR.2
        omega
    · rintro H3 ⟨sm, eD, hi⟩
      refine ⟨D, List.replicate bs.length true, rfl, SqL.of eD, ?_⟩
      have e : (List.replicate bs.length true).all id = true := by simp
      rw [e]
      exact q H3 sm
def spNeed : Sp := fun vs H Q _ => ∃ bs, vs = [.str (tx bs)] ∧ Row bs ∧ ∀ H', Same H H' → Q .non H'
theorem scNeed : FnScope ["thing"] ["thing"] (defScope sNeedRow) := ⟨rfl, rfl, rfl, by decide +kernel, rfl, by decide +kernel, by decide +kernel⟩
theorem ok_need {f f1 : Addr} {fd fd1 : FuncData} {k : Nat} (F : Fun K "need_row" "need_row" sNeedRow f fd) (N1 : Fn K mg "is_row" sIsRow ["thing"] f1 fd1) (T : TxtR K w mg d es n) : FnOk P w K mg base CX0 (k + 2) f fd ["thing"] spNeed := by
  have G1 : FnOk P w K mg base CX0 (k + 1) f1 fd1 ["thing"] spIsRow := ok_isrow N1.F T
  refine F.ok scNeed (fun vs H Q E h => ?_) (fun cdv A outer s H vs Q E hr h => ?_)
  · obtain ⟨bs, rfl, _⟩ := h
    rfl
  · obtain ⟨bs, rfl, hR, q⟩ := h
    refine ⟨_, pss_one (ps_if (pt_not (pt_val (pe_call G1 hr (by rfl) N1.g N1.F.kp N1.b .nil pass0 (pa_cons (pv 0) pa_nil)))) (pss_one ps_never) pss_nil), ?_⟩
    exact ⟨.str (tx bs), rfl, bs, rfl, hR, fun H1 s1 => ⟨true, rfl, iteF (q H1 s1)⟩⟩
end
end Hop
namespace Hop
section
open PySem L2 HopR
open C8 (InsC call_isC)
variable {P : Program} {w : World} {K : PySem.W.Frag} {mg : Str → Option Value} {base : Heap} {C : Addr}
/-- at a a pace -/
def PC (C : Addr) (H : Hp) (a : Addr) (q : Rat) : Prop := PA C H a q ∧ 0 < q ∧ Sz 45 q
theorem PC.same {H H' : Hp} {a : Addr} {q : Rat} (s : Same H H') (h : PC C H a q) : PC C H' a q := ⟨h.1.same s, h.2⟩
/-- what is handed in as a pace, and the pace that it is -/
def Pw (C : Addr) (H : Hp) (x : V) (q : Rat) : Prop := (x = .non ∧ q = 1) ∨ ∃ a, x = .ref a ∧ PC C H a q
theorem Pw.same {H H' : Hp} {x : V} {q : Rat} (s : Same H H') (h : Pw C H x q) : Pw C H' x q := h.imp id fun ⟨a, e, p⟩ => ⟨a, e, p.same s⟩
end
end Hop
namespace Hop
section
open PySem L2 HopR HopT HopH
open C8 (InsC call_isC)
variable {P : Program} {w : World} {K : PySem.W.Frag} {mg : Str → Option Value} {base : Heap} {C d : Addr} {es : Array DictEntry} {n : Nat}
variable {fi f1 f2 : Addr} {gi g1 g2 : FuncData} {d1 : Value}
def tq (q : Rat) : List V := [.int q.num, .int (q.den : Int)]
/-- a pace, told by the law: None, or a tuple -/
def Pt (e : Nat) (H : Hp) (v : V) (q : Rat) : Prop := (v = .non ∧ q = 1) ∨ ∃ a, v = .ref a ∧ H a = some (.tup (tq q)) ∧ 0 < q ∧ Sz e q
theorem Pt.same {e : Nat} {H H' : Hp} {v : V} {q : Rat} (s : Same H H') (h : Pt e H v q) : Pt e H' v q := h.imp id fun ⟨a, e, t, p⟩ => ⟨a, e, s _ _ t, p⟩
end
end Hop
namespace Hop
section
open PySem L2 HopR HopT HopH
variable {P : Program} {w : World} {K : PySem.W.Frag} {mg : Str → Option Value} {base : Heap} {C d : Addr} {es : Array DictEntry} {n : Nat}
/-- no tuple -/
def NoTup (K : PySem.W.Frag) (H : Hp) (x : V) : Prop := ∃ t, TyX K H x t ∧ PySem.W.kitOne K t (.type "tuple") = some false
def NoLst (K : PySem.W.Frag) (H : Hp) (x : V) : Prop := ∃ t, TyX K H x t ∧ PySem.W.kitOne K t (.type "list") = some false
theorem NoLst.same {H H' : Hp} {x : V} (s : Same H H') (h : NoLst K H x) : NoLst K H' x := let ⟨t, ty, k⟩ := h; ⟨t, tyx_same s ty, k⟩
/-- one of a list is filled, or no tuple -/
def FilB (K : PySem.W.Frag) (H : Hp) (x : V) (b : Bool) : Prop := (∃ t e, x = .ref t ∧ H t = some (.tup (t3v e)) ∧ b = true) ∨ (NoTup K H x ∧ b = false)
theorem FilB.same {H H' : Hp} {x : V} {b : Bool} (s : Same H H') (h : FilB K H x b) : FilB K H' x b := by
  rcases h with ⟨t, e, h1, h2, h3⟩ | ⟨⟨t, ty, k⟩, h⟩
  · exact .inl ⟨t, e, h1, s _ _ h2, h3⟩
  · exact .inr ⟨⟨t, tyx_same s ty, k⟩, h⟩
/-- what is told of x, whether it is a heap -/
def HeapB (K : PySem.W.Frag) (bs : List Bool) (H : Hp) (x : V) (b : Bool) : Prop :=
  (NoLst K H x ∧ b = false) ∨ (∃ p ts, x = .ref p ∧ TL t3v H p ts ∧ ts.length ≤ 1000 ∧ b = isHeapB bs ts) ∨
  (∃ p xs fl, x = .ref p ∧ H p = some (.lst xs) ∧ xs.length ≤ 1000 ∧ Paired (FilB K H) xs fl ∧ fl.all id = false ∧ b = false)
theorem paired_impH {α β : Type} {R S : α → β → Prop} (h : ∀ a b, R a b → S a b) : ∀ {l : List α} {m : List β}, Paired R l m → Paired S l m
  | _, _, .nil => .nil
  | _, _, .cons r t => .cons (h _ _ r) (paired_impH h t)
end
end Hop
namespace Hop
section
open PySem L2 HopR HopT HopH
open C8 (InsC call_isC)
def gl (w : List Bool) (m : Nat) : List Nat := (List.range m).map (HopW.gn w)
/-- from place j on: by the number of beads left ahead -/
def CntAt (H : Hp) (bs : List Bool) (L : List V) (j : Nat) : Prop := ∃ (b : Addr) (m : Nat), L[j]? = some (.ref b) ∧ H b = some (.lst ((gl (bs.drop j) m).map wv)) ∧ j + 1 ≤ m ∧ m ≤ 31
def Cnts (H : Hp) (bs : List Bool) (p : Addr) : Prop := ∃ L, H p = some (.lst L) ∧ ∀ j, j ≤ bs.length → CntAt H bs L j
theorem Cnts.same {H H' : Hp} {bs : List Bool} {p : Addr} (s : Same H H') (h : Cnts H bs p) : Cnts H' bs p := by
  obtain ⟨L, e, h⟩ := h
  refine ⟨L, s _ _ e, fun j hj => ?_⟩
  obtain ⟨b, m, e1, e2, r⟩ := h j hj
  exact ⟨b, m, e1, s _ _ e2, r⟩
end
end Hop
namespace Hop
section
open PySem L2 HopR
abbrev sWithEnds : Stmt := top 22
abbrev sWallsOf : Stmt := top 23
abbrev sNeedOpen : Stmt := top 24
abbrev sChanged : Stmt := top 25
end
end Hop
namespace Hop
section
open PySem L2 HopR HopT HopH
variable {P : Program} {w : World} {K : PySem.W.Frag} {mg : Str → Option Value} {base : Heap} {C d : Addr} {es : Array DictEntry} {n : Nat}
def spEnds : Sp := fun vs H Q _ => ∃ bs, vs = [.str (tx bs)] ∧ Row bs ∧ Q (.str (tx (ends bs))) H
theorem scEnds : FnScope ["row"] ["row"] (defScope sWithEnds) := ⟨rfl, rfl, rfl, by decide +kernel, rfl, by decide +kernel, by decide +kernel⟩
theorem ok_ends {f : Addr} {fd : FuncData} {k : Nat} (F : Fun K "with_ends" "with_ends" sWithEnds f fd) (T : TxtR K w mg d es n) : FnOk P w K mg base CX0 (k + 1) f fd ["row"] spEnds := by
  refine F.ok scEnds (fun vs H Q E h => ?_) (fun cdv A outer s H vs Q E hr h => ?_)
  · obtain ⟨bs, rfl, _⟩ := h
    rfl
  · obtain ⟨bs, rfl, hR, q⟩ := h
    obtain ⟨tb, gb⟩ := T.bead
    obtain ⟨tf, gf⟩ := T.free
    have h30 := hR.2
    have l1 : ("o" : Str).length = 1 := by decide +kernel
    have l2 : ("." : Str).length = 1 := by decide +kernel
    refine ⟨_, pss_one (ps_ret (pe_op op_add_str (pe_op op_add_str (pe_glob (v := .str "o") (by rfl) gb ⟨_, rfl⟩) (pv 0)) (pe_glob (v := .str ".") (by rfl) gf ⟨_, rfl⟩))), ?_⟩
    refine ⟨.str (tx bs), rfl, "o", tx bs, rfl, rfl, ?_, "o" ++ tx bs, ".", rfl, rfl, ?_, ?_⟩
    · rw [l1, tx_len, sizeLine_eq]
      omega
    · rw [tx_o, tx_f, tx_app, tx_len, tx_len, sizeLine_eq]
      show ([true] ++ bs).length + 1 ≤ 16777216
      rw [List.length_append]
      show 1 + bs.length + 1 ≤ 16777216
      omega
    · rw [tx_o, tx_f, tx_app, tx_app]
      exact q
def spWalls : Sp := fun vs H Q _ => ∃ bs, vs = [.str (tx bs)] ∧ Row bs ∧ ∀ H' p, Same H H' → H p = none → H' p = some (.lst ((walls bs).map wv)) → Q (.ref p) H'
theorem scWalls : FnScope ["row", "signs", "wall"] ["row"] (defScope sWallsOf) := ⟨rfl, rfl, rfl, by decide +kernel, rfl, by decide +kernel, by decide +kernel⟩
theorem ok_walls {f f1 f2 f3 : Addr} {fd fd1 fd2 fd3 : FuncData} {k : Nat} (F : Fun K "walls_of" "walls_of" sWallsOf f fd) (N1 : Fn K mg "is_row" sIsRow ["thing"] f1 fd1) (N2 : Fn K mg "need_row" sNeedRow ["thing"] f2 fd2) (N3 : Fn K mg "with_ends" sWithEnds ["row"] f3 fd3) (T : TxtR K w mg d es n) :
    FnOk P w K mg base CX0 (k + 3) f fd ["row"] spWalls := by
  have G2 : FnOk P w K mg base CX0 (k + 2) f2 fd2 ["thing"] spNeed := ok_need N2.F N1 T
  have G3 : FnOk P w K mg base CX0 (k + 2) f3 fd3 ["row"] spEnds := ok_ends N3.F T
  refine F.ok scWalls (fun vs H Q E h => ?_) (fun cdv A outer s H vs Q E hr h => ?_)
  · obtain ⟨bs, rfl, _⟩ := h
    rfl
  · obtain ⟨bs, rfl, hR, q⟩ := h
    have nd := scWalls.nd
    obtain ⟨tb, gb⟩ := T.bead
    obtain ⟨tf, gf⟩ := T.free
    refine ⟨_, pss_cons (ps_expr (pe_call G2 hr (by rfl) N2.g N2.F.kp N2.b .nil pass0 (pa_cons (pv 0) pa_nil)))
      (pss_cons (ps_set (i := 1) nd rfl (.inr rfl) (pe_call G3 hr (by rfl) N3.g N3.F.kp N3.b .nil pass0 (pa_cons (pv 0) pa_nil)))
      (pss_one (ps_ret (pe_lc (own := [("wall", 2)]) (g := gName 2) rfl nd (pi_range1 (by rfl) T.range (pa_cons (pe_op op_add (pe_callB call_len_str (by rfl) T.len PySem.boot_len (pa_cons (pv 0) pa_nil)) pe_int) pa_nil))
        (blkOk_by (own := [("wall", 2)]) (N := ["row", "signs", "wall"]) (sc := defScope sWallsOf) (by decide +kernel))
        (fun _ _ _ _ _ => pg_name (i := 2) nd rfl (Or.inl rfl))
        (fun _ _ _ _ _ => pts_one (pt_cmpR op_eq (pe_slice sl_str (pv 1) (po_some (pv 2)) (po_some (pe_op op_add (pv 2) pe_int))) (pe_op op_add_str (pe_glob (v := .str "o") (by rfl) gb ⟨_, rfl⟩) (pe_glob (v := .str ".") (by rfl) gf ⟨_, rfl⟩)) (nomark _)))
        (fun _ _ _ _ _ => pv 2))))), ?_⟩
    have hz := row_size hR
    refine ⟨.str (tx bs), rfl, bs, rfl, hR, fun H1 s1 => ⟨.str (tx bs), rfl, bs, rfl, hR, ?_⟩⟩
    refine ⟨.str (tx bs), rfl, tx bs, rfl, hz, _, 1, rfl, rfl, _, rfl, ?_, ?_, fun D hD => ?_⟩
    · rw [tx_len]; omega
    · rw [tx_len]; have := hR.2; omega
    · have en : (((tx bs).length : Int) + 1).toNat = bs.length + 1 := by
        rw [tx_len]
        omega
      rw [en]
      refine lc_range (lo := 0) (n := bs.length + 1) (fun i H3 => Same H H3 ∧ H3 D = some (.lst (((List.range i).filter (opn bs)).map wv))) ⟨same_new (s1.free hD) s1, upd_same⟩ ?_ ?_
      · rintro i H3 hi ⟨sm, eD⟩
        rw [Int.zero_add]
        have h30 := hR.2
        have hze : (tx (ends bs)).length ≤ sizeLine := by
          rw [tx_len, ends_len, sizeLine_eq]
          omega
        have hlt : (((List.range i).filter (opn bs)).map wv).length < sizeLine := by
          rw [List.length_map]
          refine small1000 (Nat.le_trans (List.length_filter_le _ _) ?_)
          rw [List.length_range]
          omega
        refine ⟨rfl, .str (tx (ends bs)), rfl, .int (i : Int), rfl, _, rfl, .int (i : Int), rfl, _, _, rfl, rfl, _, rfl, tx (ends bs), rfl, hze, "o", ".", rfl, rfl, by decide, rfl, _, rfl, ?_⟩
        have e : decide (V.str (cutS (tx (ends bs)) (some (i : Int)) (some ((i : Int) + 2))) = V.str ("o" ++ ".")) = opn bs i := by
          have e1 := cut_at (ends bs) i 2
          rw [show (((2 : Nat) : Int)) = 2 from rfl] at e1
          rw [e1, tx_o, tx_f, tx_app]
          show decide (V.str (tx (((ends bs).drop i).take 2)) = V.str (tx [true, false])) = opn bs i
          unfold opn
          by_cases h : ((ends bs).drop i).take 2 = [true, false]
          · rw [h, decide_eq_true rfl, decide_eq_true rfl]
          · rw [decide_eq_false h, decide_eq_false fun q => h (tx_inj (V.str.inj q))]
        rw [e]
        have er : (List.range (i + 1)).filter (opn bs) = (List.range i).filter (opn bs) ++ (if opn bs i then [i] else []) := by
          rw [List.range_succ, List.filter_append]
          congr 1
          cases h : opn bs i with
          | true => simp [h]
          | false => simp [h]
        cases h : opn bs i with
        | true =>
          rw [h] at er
          refine ⟨.int (i : Int), rfl, _, eD, hlt, same_new (s1.free hD) sm, ?_⟩
          rw [upd_same, er, List.map_append]
          rfl
        | false =>
          rw [h] at er
          refine ⟨sm, ?_⟩
          rw [er, eD]
          simp
      · rintro H3 ⟨sm, eD⟩
        exact q H3 D sm (s1.free hD) eD
theorem scChanged : FnScope ["row", "wall", "signs", "behind"] ["row", "wall"] (defScope sChanged) := ⟨rfl, rfl, rfl, by decide +kernel, rfl, by decide +kernel, by decide +kernel⟩
def spChanged : Sp := fun vs H Q _ => ∃ bs k, vs = [.str (tx bs), wv k] ∧ Row bs ∧ k ∈ walls bs ∧ ∀ H', Same H H' → Q (.str (tx (chg bs k))) H'
theorem inV_walls {bs : List Bool} {k : Nat} (h : k ∈ walls bs) : inV (wv k) ((walls bs).map wv) = true := by
  unfold inV
  rw [List.any_eq_true]
  exact ⟨wv k, List.mem_map_of_mem h, by unfold wv eqV; simp⟩
theorem flat_walls (ks : List Nat) : (ks.map wv).all flatV = true := by
  rw [List.all_eq_true]
  intro x hx
  obtain ⟨k, _, rfl⟩ := List.mem_map.mp hx
  rfl
def spOpenOk : Sp := fun vs H Q _ => ∃ bs k, vs = [.str (tx bs), wv k] ∧ Row bs ∧ k ∈ walls bs ∧ ∀ H', Same H H' → Q .non H'
theorem scNeedOpen : FnScope ["row", "wall", "walls"] ["row", "wall"] (defScope sNeedOpen) := ⟨rfl, rfl, rfl, by decide +kernel, rfl, by decide +kernel, by decide +kernel⟩
theorem ok_needopen {C f f1 f2 f3 f4 f5 : Addr} {fd fd1 fd2 fd3 fd4 fd5 : FuncData} {k : Nat} (F : Fun K "need_open" "need_open" sNeedOpen f fd) (N1 : Fn K mg "is_row" sIsRow ["thing"] f1 fd1) (N2 : Fn K mg "need_row" sNeedRow ["thing"] f2 fd2) (N3 : Fn K mg "with_ends" sWithEnds ["row"] f3 fd3)
    (N4 : Fn K mg "walls_of" sWallsOf ["row"] f4 fd4) (N5 : Fn K mg "is_whole" sIsWhole ["thing"] f5 fd5) (T : TxtR K w mg d es n) (TP : TxtP K mg C) : FnOk P w K mg base CX0 (k + 4) f fd ["row", "wall"] spOpenOk := by
  have G4 : FnOk P w K mg base CX0 (k + 3) f4 fd4 ["row"] spWalls := ok_walls N4.F N1 N2 N3 T
  have G5 : FnOk P w K mg base CX0 (k + 3) f5 fd5 ["thing"] spWhole := ok_whole N5.F TP
  refine F.ok scNeedOpen (fun vs H Q E h => ?_) (fun cdv A outer s H vs Q E hr h => ?_)
  · obtain ⟨bs, k, rfl, _⟩ := h
    rfl
  · obtain ⟨bs, j, rfl, hR, hj, q⟩ := h
    have nd := scNeedOpen.nd
    refine ⟨_, pss_cons (ps_set (i := 2) nd rfl (.inl rfl) (pe_call G4 hr (by rfl) N4.g N4.F.kp N4.b .nil pass0 (pa_cons (pv 0) pa_nil)))
      (pss_one (ps_if (PW.pt (pw_or (pt_not (pt_val (pe_call G5 hr (by rfl) N5.g N5.F.kp N5.b .nil pass0 (pa_cons (pv 1) pa_nil)))) (pw_or1 (pt_cmpR op_notIn_seq (pv 1) (pv 2) (by rfl))))) (pss_one ps_never) pss_nil)), ?_⟩
    refine ⟨.str (tx bs), rfl, bs, rfl, hR, fun H1 p s1 np ep => ?_⟩
    refine ⟨wv j, rfl, (j : Int), rfl, true, rfl, iteF ⟨wv j, rfl, .ref p, rfl, p, _, rfl, .inl (SqL.of ep), rfl, flat_walls _, _, rfl, ?_⟩⟩
    rw [inV_walls hj]
    exact iteF (q H1 s1)
theorem ok_changed {C f f1 f2 f3 f4 f5 : Addr} {fd fd1 fd2 fd3 fd4 fd5 : FuncData} {k : Nat} (F : Fun K "changed" "changed" sChanged f fd) (N0 : ∃ r s, Fn K mg "need_open" sNeedOpen ["row", "wall"] r s) (N1 : Fn K mg "is_row" sIsRow ["thing"] f1 fd1) (N2 : Fn K mg "need_row" sNeedRow ["thing"] f2 fd2) (N3 : Fn K mg "with_ends" sWithEnds ["row"] f3 fd3)
    (N4 : Fn K mg "walls_of" sWallsOf ["row"] f4 fd4) (N5 : Fn K mg "is_whole" sIsWhole ["thing"] f5 fd5) (T : TxtR K w mg d es n) (TP : TxtP K mg C) : FnOk P w K mg base CX0 (k + 5) f fd ["row", "wall"] spChanged := by
  have G3 : FnOk P w K mg base CX0 (k + 4) f3 fd3 ["row"] spEnds := ok_ends N3.F T
  obtain ⟨f0, fd0, N0⟩ := N0
  have G0 : FnOk P w K mg base CX0 (k + 4) f0 fd0 ["row", "wall"] spOpenOk := ok_needopen N0.F N1 N2 N3 N4 N5 T TP
  refine F.ok scChanged (fun vs H Q E h => ?_) (fun cdv A outer s H vs Q E hr h => ?_)
  · obtain ⟨bs, k, rfl, _⟩ := h
    rfl
  · obtain ⟨bs, j, rfl, hR, hj, q⟩ := h
    have nd := scChanged.nd
    obtain ⟨tb, gb⟩ := T.bead
    obtain ⟨tf, gf⟩ := T.free
    have h30 := hR.2
    have hj1 := (mem_walls.mp hj).1
    refine ⟨_, pss_cons (ps_expr (pe_call G0 hr (by rfl) N0.g N0.F.kp N0.b .nil pass0 (pa_cons (pv 0) (pa_cons (pv 1) pa_nil))))
      (pss_cons (ps_set (i := 2) nd rfl (.inl rfl) (pe_call G3 hr (by rfl) N3.g N3.F.kp N3.b .nil pass0 (pa_cons (pv 0) pa_nil)))
      (pss_cons (ps_set (i := 3) nd rfl (.inl rfl) (pe_op op_add_str (pe_op op_add_str (pe_op op_add_str (pe_slice sl_str (pv 2) po_none (po_some (pv 1))) (pe_glob (v := .str ".") (by rfl) gf ⟨_, rfl⟩)) (pe_glob (v := .str "o") (by rfl) gb ⟨_, rfl⟩))
        (pe_slice sl_str (pv 2) (po_some (pe_op op_add (pv 1) pe_int)) po_none)))
      (pss_one (ps_ret (pe_slice sl_str (pv 3) (po_some pe_int) (po_some (pe_un un_neg pe_int))))))), ?_⟩
    refine ⟨.str (tx bs), rfl, wv j, rfl, bs, j, rfl, hR, hj, fun H1 s1 => ?_⟩
    refine ⟨.str (tx bs), rfl, bs, rfl, hR, ?_⟩
    have hze : (tx (ends bs)).length ≤ sizeLine := by
      rw [tx_len, ends_len, sizeLine_eq]
      omega
    refine ⟨.str (tx (ends bs)), rfl, wv j, rfl, (j : Int), rfl, tx (ends bs), rfl, hze, _, ".", rfl, rfl, ?_, _, "o", rfl, rfl, ?_, .str (tx (ends bs)), rfl, wv j, rfl, (j : Int), 2, rfl, rfl, (j : Int) + 2, rfl, tx (ends bs), rfl, hze, _, _, rfl, rfl, ?_, ?_⟩
    · rw [cut_to, tx_f, tx_len, tx_len, List.length_take, ends_len, sizeLine_eq]
      show min j (bs.length + 2) + 1 ≤ 16777216
      omega
    · rw [cut_to, tx_f, tx_o, tx_app, tx_len, tx_len, List.length_append, List.length_take, ends_len, sizeLine_eq]
      show min j (bs.length + 2) + 1 + 1 ≤ 16777216
      omega
    · rw [show (j : Int) + 2 = ((j + 2 : Nat) : Int) by omega, cut_from, cut_to, tx_f, tx_o, tx_app, tx_app, tx_len, tx_len, List.length_append, List.length_append, List.length_take, List.length_drop, ends_len, sizeLine_eq]
      show min j (bs.length + 2) + 1 + 1 + (bs.length + 2 - (j + 2)) ≤ 16777216
      omega
    · rw [show (j : Int) + 2 = ((j + 2 : Nat) : Int) by omega, cut_from, cut_to, tx_f, tx_o, tx_app, tx_app, tx_app]
      have hb := bhd_len hj1
      refine ⟨.str (tx (bhd bs j)), rfl, 1, rfl, 1, rfl, -1, rfl, tx (bhd bs j), rfl, ?_, ?_⟩
      · rw [tx_len, hb, sizeLine_eq]
        omega
      · rw [cut_mid _ (by rw [hb]; omega)]
        exact q H1 s1
end
end Hop
namespace Hop
section
open PySem L2 HopR HopT HopH
theorem HeapL.len {bs : List Bool} {ts : List I3} (h : HeapL bs ts) (hR : Row bs) : ts.length ≤ 900 := by
  have e := of_decide_eq_true (show decide (ts.map pr3 = dueCells bs ts) = true from h.ok)
  have l := congrArg List.length e
  rw [List.length_map] at l
  rw [l]
  unfold dueCells
  rw [List.length_map]
  have h1 := List.length_filter_le (dueI ts) (cellsN bs)
  have h2 : ∀ B : List Nat, (cellsTo bs B (plsTo false bs bs.length)).length ≤ 30 * B.length := fun B => by
    induction B with
    | nil => exact Nat.le_refl _
    | cons b B ih =>
      have h1 : (((plsTo false bs bs.length).filter fun f => decide (b < f)).map fun f => (b, f)).length ≤ 30 := by
        rw [List.length_map]
        exact Nat.le_trans (List.length_filter_le _ _) (Nat.le_trans (plsTo_len _ _ _) hR.2)
      have : (cellsTo bs (b :: B) (plsTo false bs bs.length)).length = (((plsTo false bs bs.length).filter fun f => decide (b < f)).map fun f => (b, f)).length + (cellsTo bs B (plsTo false bs bs.length)).length := by
        unfold cellsTo
        rw [List.flatMap_cons, List.length_append]
      rw [this, List.length_cons]
      omega
  rw [cellsN_eq] at h1 ⊢
  have h3 := h2 (plsTo true bs bs.length)
  have h4 := plsTo_len true bs bs.length
  have := hR.2
  omega
end
end Hop
namespace Hop
section
open PySem L2 HopR HopT HopH
variable {P : Program} {w : World} {K : PySem.W.Frag} {mg : Str → Option Value} {base : Heap} {C d : Addr} {es : Array DictEntry} {n : Nat}
variable {NR NH NN TM : Addr}
theorem HeapB.same {bs : List Bool} {H H' : Hp} {x : V} {b : Bool} (s : Same H H') (h : HeapB K bs H x b) : HeapB K bs H' x b := by
  rcases h with ⟨h, e⟩ | ⟨p, ts, e, t, l, q⟩ | ⟨p, xs, fl, e, ep, l, pf, a, q⟩
  · exact .inl ⟨h.same s, e⟩
  · exact .inr (.inl ⟨p, ts, e, t.same s, l, q⟩)
  · exact .inr (.inr ⟨p, xs, fl, e, s _ _ ep, l, paired_impH (fun _ _ h => h.same s) pf, a, q⟩)
end
end Hop
namespace Hop
section
open PySem L2 HopR
open C8 (InsC call_isC)
variable {P : Program} {w : World} {K : PySem.W.Frag} {mg : Str → Option Value} {base : Heap} {C : Addr}
theorem mk_facts {H : Hp} {x dx : Addr} {q : Rat} (hx : H x = none) (hdx : H dx = none) : Same H (upd (upd H dx (.own x)) x (.ins C dx (pf q))) ∧ PA C (upd (upd H dx (.own x)) x (.ins C dx (pf q))) x q := by
  refine ⟨fun c o e => ?_, dx, upd_same⟩
  rw [upd_ne (ne_of_none e hx), upd_ne (ne_of_none e hdx)]
  exact e
end
end Hop
namespace Hop
section
open PySem L2 HopR
open C8 (InsC call_isC)
abbrev sPaceFrom : Stmt := top 27
abbrev sPacesFrom : Stmt := top 28
abbrev sPaceOf : Stmt := top 29
end
end Hop
namespace Hop
section
open PySem L2 HopR
open C8 (InsC call_isC)
variable {P : Program} {w : World} {K : PySem.W.Frag} {mg : Str → Option Value} {base : Heap} {C d : Addr} {es : Array DictEntry} {n : Nat}
theorem pc_one {H : Hp} {p : Addr} (h : PA C H p (Rat.divInt 1 1)) : PC C H p 1 := by
  have e : Rat.divInt 1 1 = 1 := by decide +kernel
  rw [e] at h
  exact ⟨h, by decide, ⟨by decide, by decide⟩⟩
end
end Hop
namespace Hop
section
open PySem L2 HopR
open C8 (InsC call_isC)
variable {P : Program} {w : World} {K : PySem.W.Frag} {mg : Str → Option Value} {base : Heap} {C d : Addr} {es : Array DictEntry} {n : Nat}
variable {fi f1 f2 : Addr} {gi g1 g2 : FuncData} {d1 : Value}
def spPaceFrom (C : Addr) : Sp := fun vs H Q _ => ∃ x q, vs = [x] ∧ Pw C H x q ∧ ∀ H' a, Same H H' → PC C H' a q → Q (.ref a) H'
theorem scPaceFrom : FnScope ["thing"] ["thing"] (defScope sPaceFrom) := ⟨rfl, rfl, rfl, by decide +kernel, rfl, by decide +kernel, by decide +kernel⟩
theorem ok_paceFrom {f : Addr} {fd : FuncData} {k : Nat} (F : Fun K "pace_from" "pace_from" sPaceFrom f fd) (M : Mks K mg C fi f1 f2 gi g1 g2 d1) (T : TxtP K mg C) : FnOk P w K mg base CX0 (k + 4) f fd ["thing"] (spPaceFrom C) := by
  have GI : FnOk P w K mg base CX0 (k + 2) fi gi ["self", "top", "bottom"] (spInit C) := ok_init M.F M.N1 M.N2 T
  refine F.ok scPaceFrom (fun vs H Q E h => ?_) (fun cdv A outer s H vs Q E hr h => ?_)
  · obtain ⟨x, q, rfl, _⟩ := h
    rfl
  · obtain ⟨x, q, rfl, hx, h⟩ := h
    refine ⟨_, PSs.nox (pss_cons (ps_if (pt_cmpR op_isN (pv 0) pe_non (nomark _)) (pss_one (ps_ret (pe_make M.M GI hr (by rfl) T.mgC M.b2 (.cons M.r1 .nil) pass0 (pa_cons pe_int pa_nil)))) pss_nil)
      (pss_cons (ps_if (PW.pt (pw_or (pt_not (pt_val (pe_callB (call_isC T.ins) (by rfl) T.isi (by decide +kernel) (pa_cons (pv 0) (pa_cons (pe_glob (v := .ref C) (by rfl) T.mgC rfl) pa_nil))))) (pw_or1 (pt_cmpR op_lt (pe_fld (pv 0) rfl) pe_int (nomark _))))) (pss_one ps_never) pss_nil)
      (pss_one (ps_ret (pv 0))))), ?_⟩
    rcases hx with ⟨rfl, rfl⟩ | ⟨a, rfl, ⟨⟨dx, ha⟩, h0, hz⟩⟩
    · refine ⟨.non, rfl, rfl, _, rfl, ?_⟩
      rw [decide_eq_true rfl]
      refine iteT ?_
      intro p dx np hdx ne
      refine ⟨p, dx, 1, 1, rfl, by decide, Nat.one_lt_two_pow (by decide), upd_same, rfl, ?_⟩
      rw [upd_upd]
      obtain ⟨s3, pa3⟩ := mk_facts (C := C) (q := Rat.divInt 1 1) np hdx
      exact h _ p s3 (pc_one pa3)
    · refine ⟨.ref a, rfl, rfl, _, rfl, ?_⟩
      rw [decide_eq_false (fun z => nomatch z)]
      refine iteF ⟨.ref a, rfl, a, dx, _, rfl, ha, true, rfl, iteF ?_⟩
      refine ⟨.ref a, rfl, a, C, dx, _, _, rfl, ha, T.ins.cl, T.nT, pf_top q, _, _, rfl, rfl, _, rfl, ?_⟩
      have hp := num_pos h0
      rw [decide_eq_false (show ¬ q.num < 1 by omega)]
      exact iteF ⟨.ref a, rfl, h _ _ (Same.refl _) ⟨⟨dx, ha⟩, h0, hz⟩⟩
def spPacesFrom (C : Addr) : Sp := fun vs H Q _ => ∃ x y q r, vs = [x, y] ∧ Pw C H x q ∧ Pw C H y r ∧ ∀ H' p a b, Same H H' → H p = none → H' p = some (.tup [.ref a, .ref b]) → PC C H' a q → PC C H' b r → Q (.ref p) H'
theorem scPacesFrom : FnScope ["inn", "out", "first"] ["inn", "out"] (defScope sPacesFrom) := ⟨rfl, rfl, rfl, by decide +kernel, rfl, by decide +kernel, by decide +kernel⟩
theorem ok_pacesFrom {f p1 : Addr} {fd q1 : FuncData} {k : Nat} (F : Fun K "paces_from" "paces_from" sPacesFrom f fd) (N1 : Fn K mg "pace_from" sPaceFrom ["thing"] p1 q1) (M : Mks K mg C fi f1 f2 gi g1 g2 d1) (T : TxtP K mg C) : FnOk P w K mg base CX0 (k + 5) f fd ["inn", "out"] (spPacesFrom C) := by
  have G1 : FnOk P w K mg base CX0 (k + 4) p1 q1 ["thing"] (spPaceFrom C) := ok_paceFrom N1.F M T
  refine F.ok scPacesFrom (fun vs H Q E h => ?_) (fun cdv A outer s H vs Q E hr h => ?_)
  · obtain ⟨x, y, q, r, rfl, _⟩ := h
    rfl
  · obtain ⟨x, y, q, r, rfl, pa, pb, h⟩ := h
    have nd := scPacesFrom.nd
    refine ⟨_, pss_cons (ps_set (i := 2) nd rfl (.inl rfl) (pe_call G1 hr (by rfl) N1.g N1.F.kp N1.b .nil pass0 (pa_cons (pv 0) pa_nil)))
      (pss_one (ps_ret (pe_tup (pa_cons (pv 2) (pa_cons (pe_call G1 hr (by rfl) N1.g N1.F.kp N1.b .nil pass0 (pa_cons (pv 1) pa_nil)) pa_nil))))), ?_⟩
    refine ⟨x, rfl, x, q, rfl, pa, fun H1 a s1 p1 => ⟨.ref a, rfl, y, rfl, y, r, rfl, pb.same s1, fun H2 b s2 p2 => ⟨(by show 2 ≤ sizeLine; decide), fun p np => ?_⟩⟩⟩
    have s12 := s1.trans s2
    exact h _ p a b (s12.trans (same_upd np)) (s12.free np) upd_same (p1.same (s2.trans (same_upd np))) (p2.same (same_upd np))
def paceAt (bs : List Bool) (q r : Rat) (k : Nat) : Rat := if k = 0 then q else if k = bs.length then r else 1
def spPaceOf (C : Addr) : Sp := fun vs H Q _ => ∃ (bs : List Bool) (k : Nat) (a b : V) (q r : Rat), vs = [.str (tx bs), wv k, a, b] ∧ Row bs ∧ Pw C H a q ∧ Pw C H b r ∧ ∀ H' p, Same H H' → PC C H' p (paceAt bs q r k) → Q (.ref p) H'
theorem scPaceOf : FnScope ["row", "wall", "inn", "out", "first", "last"] ["row", "wall", "inn", "out"] (defScope sPaceOf) := ⟨rfl, rfl, rfl, by decide +kernel, rfl, by decide +kernel, by decide +kernel⟩
structure PcDefs (K : PySem.W.Frag) (mg : Str → Option Value) (C fi f1 f2 r1 r2 p1 p2 p3 : Addr) (gi g1 g2 s1 s2 q1 q2 q3 : FuncData) (d1 : Value) : Prop where
  M : Mks K mg C fi f1 f2 gi g1 g2 d1
  R1 : Fn K mg "is_row" sIsRow ["thing"] r1 s1
  R2 : Fn K mg "need_row" sNeedRow ["thing"] r2 s2
  P1 : Fn K mg "pace_from" sPaceFrom ["thing"] p1 q1
  P2 : Fn K mg "paces_from" sPacesFrom ["inn", "out"] p2 q2
  F3 : FunD K "pace_of" "pace_of" (defArgs sPaceOf) (defBody sPaceOf) (defScope sPaceOf) [.non, .non] [] p3 q3
  b3 : Binds K q3 ["row", "wall", "inn", "out"] []
  g3 : mg "pace_of" = some (.ref p3)
end
end Hop
namespace Hop
section
open PySem L2 HopR
open C8 (InsC call_isC)
variable {P : Program} {w : World} {K : PySem.W.Frag} {mg : Str → Option Value} {base : Heap} {C d : Addr} {es : Array DictEntry} {n : Nat}
variable {fi f1 f2 : Addr} {gi g1 g2 : FuncData} {d1 : Value}
variable {r1 r2 p1 p2 p3 : Addr} {s1 s2 q1 q2 q3 : FuncData}
theorem ok_paceOf {k : Nat} (N : PcDefs K mg C fi f1 f2 r1 r2 p1 p2 p3 gi g1 g2 s1 s2 q1 q2 q3 d1) (T : TxtP K mg C) (TR : TxtR K w mg d es n) : FnOk P w K mg base CX0 (k + 6) p3 q3 ["row", "wall", "inn", "out"] (spPaceOf C) := by
  have GI : FnOk P w K mg base CX0 (k + 4) fi gi ["self", "top", "bottom"] (spInit C) := ok_init N.M.F N.M.N1 N.M.N2 T
  have G2 : FnOk P w K mg base CX0 (k + 5) r2 s2 ["thing"] spNeed := ok_need N.R2.F N.R1 TR
  have G3 : FnOk P w K mg base CX0 (k + 5) p2 q2 ["inn", "out"] (spPacesFrom C) := ok_pacesFrom N.P2.F N.P1 N.M T
  refine N.F3.ok scPaceOf (fun vs H Q E h => ?_) (fun cdv A outer s H vs Q E hr h => ?_)
  · obtain ⟨bs, j, a, b, q, r, rfl, _⟩ := h
    rfl
  · obtain ⟨bs, j, a, b, q, r, rfl, hR, pa, pb, h⟩ := h
    have nd := scPaceOf.nd
    refine ⟨_, PSs.nox (pss_cons (ps_expr (pe_call G2 hr (by rfl) N.R2.g N.R2.F.kp N.R2.b .nil pass0 (pa_cons (pv 0) pa_nil)))
      (pss_cons (ps_asg (pe_call G3 hr (by rfl) N.P2.g N.P2.F.kp N.P2.b .nil pass0 (pa_cons (pv 2) (pa_cons (pv 3) pa_nil))) (pg_tup (by rfl) (pgs_cons (pg_name (i := 4) nd rfl (.inl rfl)) (pgs_cons (pg_name (i := 5) nd rfl (.inl rfl)) pgs_nil))))
      (pss_cons (ps_if (pt_cmpR op_eq (pv 1) pe_int (nomark _)) (pss_one (ps_ret (pv 4))) pss_nil)
      (pss_cons (ps_if (pt_cmpR op_eq (pv 1) (pe_callB call_len_str (by rfl) T.len PySem.boot_len (pa_cons (pv 0) pa_nil)) (nomark _)) (pss_one (ps_ret (pv 5))) pss_nil)
      (pss_one (ps_ret (pe_make N.M.M GI hr (by rfl) T.mgC N.M.b2 (.cons N.M.r1 .nil) pass0 (pa_cons pe_int pa_nil)))))))), ?_⟩
    refine ⟨.str (tx bs), rfl, bs, rfl, hR, fun H1 s1 => ?_⟩
    refine ⟨a, rfl, b, rfl, a, b, q, r, rfl, pa.same s1, pb.same s1, fun H2 p2 a2 b2 s2 n2 e2 pa2 pb2 => ?_⟩
    have s12 := s1.trans s2
    refine ⟨p2, _, rfl, SqT.of e2, rfl, _, _, rfl, _, _, rfl, rfl, ?_⟩
    refine ⟨wv j, rfl, rfl, _, rfl, ite2 (fun e => ?_) (fun e => ?_)⟩
    · have e : j = 0 := by
        have := V.int.inj (of_decide_eq_true e)
        omega
      refine ⟨.ref a2, rfl, h H2 a2 s12 ?_⟩
      unfold paceAt
      rw [if_pos e]
      exact pa2
    · have e : ¬ j = 0 := fun z => e (decide_eq_true (by rw [z]; rfl))
      refine ⟨wv j, rfl, .str (tx bs), rfl, tx bs, rfl, row_size hR, rfl, _, rfl, ite2 (fun e2 => ?_) (fun e2 => ?_)⟩
      · have e2 : j = bs.length := by
          have := V.int.inj (of_decide_eq_true e2)
          rw [tx_len] at this
          omega
        refine ⟨.ref b2, rfl, h H2 b2 s12 ?_⟩
        unfold paceAt
        rw [if_neg e, if_pos e2]
        exact pb2
      · have e2 : ¬ j = bs.length := fun z => e2 (decide_eq_true (by rw [z, tx_len]; rfl))
        intro p dx np hdx ne
        refine ⟨p, dx, 1, 1, rfl, by decide, Nat.one_lt_two_pow (by decide), upd_same, rfl, ?_⟩
        rw [upd_upd]
        obtain ⟨s3, pa3⟩ := mk_facts (C := C) (q := Rat.divInt 1 1) np hdx
        refine h _ p (s12.trans s3) ?_
        unfold paceAt
        rw [if_neg e, if_neg e2]
        exact pc_one pa3
end
end Hop
namespace Hop
section
open PySem L2 HopR
open C8 (InsC call_isC)
variable {P : Program} {w : World} {K : PySem.W.Frag} {mg : Str → Option Value} {base : Heap} {C W d : Addr} {es : Array DictEntry} {n : Nat}
variable {fi f1 f2 r1 r2 r3 r4 r6 p1 p2 p3 p4 fp ft fo fz fc fg : Addr} {gi g1 g2 s1 s2 s3 s4 s6 q1 q2 q3 q4 gp gt go gz gc gg : FuncData} {d1 : Value}
variable {mr mw md mk ml me ms mu mc pr wq wr pq : Addr} {hr' hw' hd' hk' hl' he' hs' hu' hc' hp' hq' hz' hx' : FuncData}
def chv (bs : List Bool) (x : Nat × Addr) : List V := [wv x.1, .ref x.2, .str (tx (chg bs x.1))]
abbrev sChg : Stmt := top 30
abbrev nChg : List Str := ["row", "inn", "out", "walls", "wall"]
theorem scChg : FnScope nChg ["row", "inn", "out"] (defScope sChg) := ⟨rfl, rfl, rfl, by decide +kernel, rfl, by decide +kernel, by decide +kernel⟩
end
end Hop
namespace Hop
section
open PySem L2 HopR HopT HopH
open C8 (InsC call_isC)
variable {P : Program} {w : World} {K : PySem.W.Frag} {mg : Str → Option Value} {base : Heap} {C d : Addr} {es : Array DictEntry} {n : Nat}
variable {fi f1 f2 r1 r2 r3 r4 r6 p1 p2 p3 : Addr} {gi g1 g2 s1 s2 s3 s4 s6 q1 q2 q3 : FuncData} {d1 : Value}
structure CgDefs (K : PySem.W.Frag) (mg : Str → Option Value) (C fi f1 f2 r1 r2 r3 r4 r6 p1 p2 p3 : Addr) (gi g1 g2 s1 s2 s3 s4 s6 q1 q2 q3 : FuncData) (d1 : Value) : Prop where
  N : PcDefs K mg C fi f1 f2 r1 r2 p1 p2 p3 gi g1 g2 s1 s2 q1 q2 q3 d1
  R3 : Fn K mg "with_ends" sWithEnds ["row"] r3 s3
  R4 : Fn K mg "walls_of" sWallsOf ["row"] r4 s4
  R6 : Fn K mg "changed" sChanged ["row", "wall"] r6 s6
  R0 : ∃ r s, Fn K mg "need_open" sNeedOpen ["row", "wall"] r s
def spChgP (C : Addr) : Sp := fun vs H Q _ => ∃ (bs : List Bool) (a b : V) (q r : Rat), vs = [.str (tx bs), a, b] ∧ Row bs ∧ Pw C H a q ∧ Pw C H b r ∧ ∀ H' p ks ws, Same H H' → H p = none → H' p = some (.lst ws) → ks.map (·.1) = walls bs → TupH H' (chv bs) ks ws → (∀ x ∈ ks, PA C H' x.2 (paceAt bs q r x.1)) → Q (.ref p) H'
theorem ok_chgP {f : Addr} {fd : FuncData} {k : Nat} (F : FunD K "changes" "changes" (defArgs sChg) (defBody sChg) (defScope sChg) [.non, .non] [] f fd) (D : CgDefs K mg C fi f1 f2 r1 r2 r3 r4 r6 p1 p2 p3 gi g1 g2 s1 s2 s3 s4 s6 q1 q2 q3 d1) (T : TxtP K mg C) (TR : TxtR K w mg d es n) :
    FnOk P w K mg base CX0 (k + 7) f fd ["row", "inn", "out"] (spChgP C) := by
  have Gw : FnOk P w K mg base CX0 (k + 6) r4 s4 ["row"] spWalls := ok_walls D.R4.F D.N.R1 D.N.R2 D.R3 TR
  have Gp : FnOk P w K mg base CX0 (k + 6) p3 q3 ["row", "wall", "inn", "out"] (spPaceOf C) := ok_paceOf D.N T TR
  have Gc : FnOk P w K mg base CX0 (k + 6) r6 s6 ["row", "wall"] spChanged := ok_changed D.R6.F D.R0 D.N.R1 D.N.R2 D.R3 D.R4 D.N.M.N1 TR T
  refine F.ok scChg (fun vs H Q E h => ?_) (fun cdv A outer s H vs Q E hr h => ?_)
  · obtain ⟨bs, a, b, q, r, rfl, _⟩ := h
    rfl
  · obtain ⟨bs, a, b, q, r, rfl, hR, pa, pb, h⟩ := h
    have nd := scChg.nd
    refine ⟨_, pss_cons (ps_set (i := 3) nd rfl (.inl rfl) (pe_call Gw hr (by rfl) D.R4.g D.R4.F.kp D.R4.b .nil pass0 (pa_cons (pv 0) pa_nil)))
      (pss_one (ps_ret (pe_lc (own := [("wall", 4)]) (g := gName 4) (tt := tYes) rfl nd (pi_list (pv 3)) (blkOk_by (own := [("wall", 4)]) (N := nChg) (sc := defScope sChg) (by decide +kernel))
        (fun _ _ _ _ _ => pg_name (i := 4) nd rfl (Or.inl rfl)) (fun _ _ _ _ _ => pts_nil)
        (fun _ _ _ _ _ => pe_tup (pa_cons (pv 4) (pa_cons (pe_call Gp hr (by rfl) D.N.g3 D.N.F3.kp D.N.b3 .nil pass0 (pa_cons (pv 0) (pa_cons (pv 4) (pa_cons (pv 1) (pa_cons (pv 2) pa_nil))))) (pa_cons (pe_call Gc hr (by rfl) D.R6.g D.R6.F.kp D.R6.b .nil pass0 (pa_cons (pv 0) (pa_cons (pv 4) pa_nil))) pa_nil))))))), ?_⟩
    refine ⟨.str (tx bs), rfl, bs, rfl, hR, fun H1 pw sw nw ew => ?_⟩
    refine ⟨.ref pw, rfl, pw, rfl, ⟨_, SqL.of ew⟩, fun Da hD => ?_⟩
    have hD0 := sw.free hD
    refine lc_list (K := K) (a := pw) (xs := (walls bs).map wv) (fun j H3 => ∃ ks ws, Same H1 H3 ∧ H3 Da = some (.lst ws) ∧ ks.map (·.1) = (walls bs).take j ∧ TupH H3 (chv bs) ks ws ∧ ∀ x ∈ ks, PA C H3 x.2 (paceAt bs q r x.1)) ⟨[], [], same_upd hD, upd_same, rfl, rfl, fun _ h => nomatch h⟩ (fun j H3 _ ⟨_, _, h, _⟩ => SqL.of (h _ _ ew)) ?_ ?_
    · rintro j x H3 hx ⟨ks, ws, sm, eD, ek, tg, pk⟩
      rw [List.getElem?_map] at hx
      obtain ⟨m, hm, rfl⟩ := Option.map_eq_some_iff.mp hx
      have hmw : m ∈ walls bs := List.mem_of_getElem? hm
      have hjl : j < (walls bs).length := (List.getElem?_eq_some_iff.mp hm).1
      refine ⟨rfl, wv m, rfl, .str (tx bs), rfl, wv m, rfl, a, rfl, b, rfl, bs, m, a, b, q, r, rfl, hR, pa.same (sw.trans sm), pb.same (sw.trans sm), fun H4 pp s4 pc4 => ?_⟩
      refine ⟨.str (tx bs), rfl, wv m, rfl, bs, m, rfl, hR, hmw, fun H5 s5 => ⟨(by show 3 ≤ sizeLine; decide), fun pt npt => ?_⟩⟩
      have s35 := s4.trans s5
      have eD5 := s35 _ _ eD
      have nDt : Da ≠ pt := ne_of_none eD5 npt
      have hkl : ks.length = j := by
        have := congrArg List.length ek
        rw [List.length_map, List.length_take] at this
        omega
      refine ⟨ws, (by rw [upd_ne nDt]; exact eD5), ?_, ks ++ [(m, pp)], ws ++ [.ref pt], ?_, upd_same, ?_, ?_, ?_⟩
      · rw [tupH_len tg, hkl]
        have := walls_len bs
        have := hR.2
        exact small1000 (by omega)
      · intro z o e
        rw [upd_ne (ne_of_none e hD), upd_ne (fun z' => by rw [z'] at e; have := (sm.trans s35) _ _ e; rw [npt] at this; cases this)]
        exact (sm.trans s35) _ _ e
      · rw [List.map_append, ek, List.take_add_one, hm]
        rfl
      · exact tupH_upd (by rw [upd_ne nDt]; exact eD5) (tupH_add (a := (m, pp)) (show upd H5 pt (HO.tup [wv m, V.ref pp, V.str (tx (chg bs m))]) pt = some (.tup (chv bs (m, pp))) from upd_same) (tupH_same (s35.trans (same_upd npt)) tg))
      · intro z hz
        have s5p := same_upd (o := .tup [wv m, .ref pp, .str (tx (chg bs m))]) npt
        have eDp : upd H5 pt (.tup [wv m, .ref pp, .str (tx (chg bs m))]) Da = some (.lst ws) := s5p _ _ eD5
        have p5 : PA C (upd H5 pt (.tup [wv m, .ref pp, .str (tx (chg bs m))])) z.2 (paceAt bs q r z.1) := by
          rcases List.mem_append.mp hz with hz | hz
          · exact ((pk z hz).same s35).same s5p
          · obtain rfl := List.mem_singleton.mp hz
            exact (pc4.1.same s5).same s5p
        obtain ⟨dz, ez⟩ := p5
        exact ⟨dz, by rw [upd_ne (fun e => by rw [e, eDp] at ez; cases ez)]; exact ez⟩
    · rintro H3 ⟨ks, ws, sm, eD, ek, tg, pk⟩
      rw [List.length_map, List.take_length] at ek
      exact h H3 Da ks ws (sw.trans sm) hD0 eD ek tg pk
end
end Hop
namespace Hop
section
open PySem L2 HopR
open C8 (InsC call_isC)
theorem pf_bottom (q : Rat) : (pf q).lookup ("bottom" : Str) = some (.int (q.den : Int)) := by
  unfold pf
  rw [lookup_putF, if_pos rfl]
/-- all but what stands at v and l stays -/
def Keeps (v l : Addr) (H H' : Hp) : Prop := ∀ b o, b ≠ v → b ≠ l → H b = some o → H' b = some o
theorem Keeps.trans {v l : Addr} {H H1 H2 : Hp} (a : Keeps v l H H1) (b : Keeps v l H1 H2) : Keeps v l H H2 := fun c o n1 n2 e => b c o n1 n2 (a c o n1 n2 e)
abbrev sCellAt : Stmt := top 32
abbrev sDrawn : Stmt := top 33
abbrev sLow : Stmt := top 34
abbrev sLIs : Stmt := top 35
abbrev sLRow : Stmt := top 36
abbrev sLPaces : Stmt := top 37
abbrev sOpen : Stmt := top 38
abbrev sBehind : Stmt := top 39
abbrev sLPace : Stmt := top 40
end
end Hop
namespace Hop
section
open PySem L2 HopR
open C8 (InsC call_isC)
variable {P : Program} {w : World} {K : PySem.W.Frag} {mg : Str → Option Value} {base : Heap}
theorem scDrawn : FnScope ["_law_cell", "_law_sizes", "_law_found", "_law_left", "_law_k", "_law_small", "_law_one", "_law_two"] ["_law_cell", "_law_sizes"] (defScope sDrawn) := ⟨rfl, rfl, rfl, by decide +kernel, rfl, by decide +kernel, by decide +kernel⟩
theorem ok_drawn {f : Addr} {fd : FuncData} {k : Nat} (F : Fun K "_law_drawn" "_law_drawn" sDrawn f fd) (mL : mg "len" = none) (mR : mg "range" = none) : FnOk P w K mg base CX0 (k + 1) f fd ["_law_cell", "_law_sizes"] (spDrawn K) := by
  refine F.ok scDrawn (fun vs H Q E h => ?_) (fun cdv A outer s H vs Q E hr h => ?_)
  · obtain ⟨c, a, zs, rfl, _⟩ := h
    rfl
  · obtain ⟨c, a, zs, rfl, hS, hz, hlen, q⟩ := h
    have nd := scDrawn.nd
    refine ⟨_, pss_cons (ps_set (i := 2) nd rfl (.inl rfl) (pe_lst pa_nil))
      (pss_cons (ps_set (i := 3) nd rfl (.inl rfl) (pv 0))
      (pss_cons (ps_for PassesOwn.never rfl (pi_range1 (by rfl) mR (pa_cons (pe_callB call_len_seq (by rfl) mL PySem.boot_len (pa_cons (pv 1) pa_nil)) pa_nil)) (pg_name (i := 4) nd rfl (.inl rfl))
        (pss_one (ps_if (pt_cmpR op_ge (pv 3) (pe_op op_pow pe_int pe_int) (nomark _))
          (pss_cons (ps_expr (pe_bm PySem.F.plainAttrs_list PySem.F.slot_list_append PySem.F.type_list_append mt_append (pv 2) (pa_cons (pe_op op_mod (pv 3) (pe_ix ix_list (pv 1) (pv 4) (fun _ _ => rfl))) pa_nil)))
            (pss_one (ps_set (i := 3) nd rfl (.inl rfl) (pe_op op_fdivW (pv 3) (pe_ix ix_list (pv 1) (pv 4) (fun _ _ => rfl))))))
          (pss_cons (ps_set (i := 5) nd rfl (.inl rfl) (pe_op op_mod (pv 3) (pe_op op_pow pe_int pe_int)))
          (pss_cons (ps_set (i := 6) nd rfl (.inl rfl) (pe_op op_mod (pe_op op_mul (pe_op op_add (pe_op op_add (pv 5) (pe_op op_mul pe_int (pv 4))) pe_int) (pe_op op_add pe_int (pe_op op_mul (pe_op op_mul pe_int (pv 4)) (pv 4)))) pe_int))
          (pss_cons (ps_set (i := 7) nd rfl (.inl rfl) (pe_op op_mod (pe_op op_mul (pe_op op_add (pe_op op_add (pe_op op_fdiv (pv 5) pe_int) (pe_op op_mul pe_int (pv 4))) pe_int) (pe_op op_add pe_int (pe_op op_mul pe_int (pv 4)))) pe_int))
          (pss_one (ps_expr (pe_bm PySem.F.plainAttrs_list PySem.F.slot_list_append PySem.F.type_list_append mt_append (pv 2) (pa_cons (pe_op op_mod (pe_op op_add (pe_op op_mul (pv 6) (pv 7)) (pe_op op_fdiv (pv 6) pe_int)) (pe_ix ix_list (pv 1) (pv 4) (fun _ _ => rfl))) pa_nil))))))))))
      (pss_one (ps_ret (pv 2))))), ?_⟩
    -- found = []; left = cell
    refine ⟨Nat.zero_le _, fun o no => ?_⟩
    have s1 : Same H (upd H o (.lst [])) := same_upd no
    refine ⟨.int c, rfl, .ref a, rfl, a, zs.map V.int, rfl, .inl (s1.seq hS), ((zs.map V.int).length : Int), rfl, by omega, (by rw [List.length_map]; omega), ?_⟩
    refine for_range (lo := 0) (n := zs.length) (fun i σ H3 => ∃ (l : Int) (y4 y5 y6 y7 : Option V) (ds : List Int), σ = [some (.int c), some (.ref a), some (.ref o), some (.int l), y4, y5, y6, y7] ∧
        Same H H3 ∧ H3 o = some (.lst (ds.map V.int)) ∧ ds.length = i ∧ ds ++ draws l i (zs.drop i) = draws c 0 zs)
      ⟨c, none, none, none, none, [], rfl, s1, upd_same, rfl, by simp⟩ ?_ ?_ |> (fun h => by rw [List.length_map]; exact h)
    · rintro i σ H3 hi ⟨l, y4, y5, y6, y7, ds, rfl, sm, eo, el, ed⟩
      have hA : SqL K H3 a (zs.map V.int) := sm.seq hS
      have hz1 := hz zs[i] (List.getElem_mem hi)
      have gz : zs[i]? = some zs[i] := List.getElem?_eq_getElem hi
      have g : atI (zs.map V.int) (i : Int) = some (.int zs[i]) := atI_nat (by rw [List.getElem?_map, gz]; rfl)
      have hd : zs.drop i = zs[i] :: zs.drop (i + 1) := List.drop_eq_getElem_cons hi
      rw [hd] at ed
      have ed' : (ds ++ [dval l i zs[i]]) ++ draws (dleft l zs[i]) (i + 1) (zs.drop (i + 1)) = draws c 0 zs := by
        rw [List.append_assoc]
        exact ed
      have small : (ds.map V.int).length < sizeLine := by
        rw [List.length_map]
        exact small1000 (by omega)
      rw [Int.zero_add]
      refine ⟨.int l, rfl, 10, 18, rfl, rfl, ⟨by decide, by decide, by decide⟩, l, 10 ^ 18, rfl, rfl, _, rfl, ite2 (fun e => ?_) (fun e => ?_)⟩
      · have e : (1000000000000000000 : Int) ≤ l := of_decide_eq_true e
        refine ⟨.ref o, rfl, .inl ⟨rfl, _, SqL.of eo⟩, .int l, rfl, .ref a, rfl, .int (i : Int), rfl, a, _, _, _, rfl, rfl, hA, g, l, zs[i], rfl, rfl, hz1.1, o, _, _, rfl, rfl, eo, small, ?_⟩
        have e1 : dval l i zs[i] = l % zs[i] := by
          unfold dval
          rw [if_pos e]
        have e2 : dleft l zs[i] = l / zs[i] := by
          unfold dleft
          rw [if_pos e]
        have sm2 : Same H (upd H3 o (.lst (ds.map V.int ++ [.int (l % zs[i])]))) := same_new no sm
        refine ⟨.int l, rfl, .ref a, rfl, .int (i : Int), rfl, a, _, _, _, rfl, rfl, sm2.seq hS, g, l, zs[i], rfl, rfl, wide_div hz1.1 (b := 64) (by have := hz1.2; have := hz1.1; omega) (by decide) (by decide), ?_⟩
        refine ⟨_, _, _, _, _, ds ++ [dval l i zs[i]], rfl, sm2, ?_, ?_, ?_⟩
        · rw [upd_same, e1, List.map_append]
          rfl
        · rw [List.length_append, el]
          rfl
        · rw [← e2]
          exact ed'
      · have e : ¬ (1000000000000000000 : Int) ≤ l := fun z => e (decide_eq_true z)
        have e2 : dleft l zs[i] = l := by
          unfold dleft
          rw [if_neg e]
        have hi1000 : (i : Int) < 1000 := by omega
        have s0 : 0 ≤ l % 1000000000000000000 := Int.emod_nonneg _ (by decide)
        have s9 : l % 1000000000000000000 < 1000000000000000000 := Int.emod_lt_of_pos _ (by decide)
        refine ⟨.int l, rfl, 10, 18, rfl, rfl, ⟨by decide, by decide, by decide⟩, l, 10 ^ 18, rfl, rfl, (show (0 : Int) < 10 ^ 18 by decide), ?_⟩
        refine ⟨_, rfl, .int (i : Int), rfl, 7, i, rfl, rfl, .inl ⟨by decide, by decide⟩, _, _, rfl, rfl, _, _, rfl, rfl, .int (i : Int), rfl, 2, i, rfl, rfl, .inl ⟨by decide, by decide⟩, .int (i : Int), rfl, _, _, rfl, rfl, .inl ⟨by omega, by omega⟩, _, _, rfl, rfl, _, _, rfl, rfl,
          .inl ⟨by show -(2 ^ 64) < l % 1000000000000000000 + 7 * (i : Int) + 1; omega, by show l % 1000000000000000000 + 7 * (i : Int) + 1 < 2 ^ 64; omega⟩, _, _, rfl, rfl, (show (0 : Int) < 2147483647 by decide), ?_⟩
        refine ⟨_, rfl, _, _, rfl, rfl, ⟨by decide, by decide⟩, .int (i : Int), rfl, 11, i, rfl, rfl, .inl ⟨by decide, by decide⟩, _, _, rfl, rfl, _, _, rfl, rfl, .int (i : Int), rfl, 6, i, rfl, rfl, .inl ⟨by decide, by decide⟩, _, _, rfl, rfl, _, _, rfl, rfl,
          .inl ⟨by show -(2 ^ 64) < l % 1000000000000000000 / 3 + 11 * (i : Int) + 5; omega, by show l % 1000000000000000000 / 3 + 11 * (i : Int) + 5 < 2 ^ 64; omega⟩, _, _, rfl, rfl, (show (0 : Int) < 2147483629 by decide), ?_⟩
        have o0 := Int.emod_nonneg ((l % 1000000000000000000 + 7 * (i : Int) + 1) * (48271 + 2 * (i : Int) * (i : Int))) (show (2147483647 : Int) ≠ 0 by decide)
        have o9 := Int.emod_lt_of_pos ((l % 1000000000000000000 + 7 * (i : Int) + 1) * (48271 + 2 * (i : Int) * (i : Int))) (show (0 : Int) < 2147483647 by decide)
        refine ⟨.ref o, rfl, .inl ⟨rfl, _, SqL.of eo⟩, _, rfl, _, rfl, _, _, rfl, rfl, .inl ⟨Int.lt_of_lt_of_le (by decide) o0, Int.lt_trans o9 (by decide)⟩, _, rfl, _, _, rfl, rfl, ⟨by decide, by decide⟩, _, _, rfl, rfl, .ref a, rfl, .int (i : Int), rfl, a, _, _, _, rfl, rfl, hA, g, _, zs[i], rfl, rfl, hz1.1, o, _, _, rfl, rfl, eo, small, ?_⟩
        have e1 : dval l i zs[i] = ((l % 1000000000000000000 + 7 * (i : Int) + 1) * (48271 + 2 * (i : Int) * (i : Int)) % 2147483647 * ((l % 1000000000000000000 / 3 + 11 * (i : Int) + 5) * (39373 + 6 * (i : Int)) % 2147483629) + (l % 1000000000000000000 + 7 * (i : Int) + 1) * (48271 + 2 * (i : Int) * (i : Int)) % 2147483647 / 64) % zs[i] := by
          unfold dval
          rw [if_neg e]
        refine ⟨_, _, _, _, _, ds ++ [dval l i zs[i]], rfl, same_new no sm, ?_, ?_, ?_⟩
        · rw [upd_same, e1, List.map_append]
          rfl
        · rw [List.length_append, el]
          rfl
        · rw [e2] at ed'
          exact ed'
    · rintro σ H3 ⟨l, y4, y5, y6, y7, ds, rfl, sm, eo, el, ed⟩
      rw [List.drop_length] at ed
      have ed : ds = draws c 0 zs := by
        rw [← ed]
        show ds = ds ++ []
        rw [List.append_nil]
      subst ed
      exact ⟨.ref o, rfl, q H3 o sm no eo⟩
theorem scCell : FnScope ["_law_script", "_law_k"] ["_law_script", "_law_k"] (defScope sCellAt) := ⟨rfl, rfl, rfl, by decide +kernel, rfl, by decide +kernel, by decide +kernel⟩
theorem ok_cell {f : Addr} {fd : FuncData} {k : Nat} (F : Fun K "_law_cell_at" "_law_cell_at" sCellAt f fd) (mL : mg "len" = none) : FnOk P w K mg base CX0 (k + 1) f fd ["_law_script", "_law_k"] (spCellH K) := by
  refine F.ok scCell (fun vs H Q E h => ?_) (fun cdv A outer s H vs Q E hr h => ?_)
  · obtain ⟨a, ns, k, rfl, _⟩ := h
    rfl
  · obtain ⟨a, ns, k, rfl, hS, q⟩ := h
    refine ⟨_, pss_cons (ps_if (pt_cmpR op_lt (pv 1) (pe_callB call_len_seq (by rfl) mL PySem.boot_len (pa_cons (pv 0) pa_nil)) (nomark _)) (pss_one (ps_ret (pe_ix ix_list (pv 0) (pv 1) (fun _ _ => rfl)))) pss_nil) (pss_one (ps_ret pe_int)), ?_⟩
    refine ⟨_, rfl, .ref a, rfl, a, _, rfl, .inl hS, _, _, rfl, rfl, _, rfl, ite2 (fun e => ?_) (fun e => ?_)⟩
    · have e : (k : Int) < ((ns.map V.int).length : Int) := of_decide_eq_true e
      rw [List.length_map] at e
      have hk : k < ns.length := by omega
      exact ⟨.ref a, rfl, .int (k : Int), rfl, a, _, _, .int ns[k], rfl, rfl, hS, atI_nat (by rw [List.getElem?_map, List.getElem?_eq_getElem hk]; rfl), q _⟩
    · exact q 0
theorem scLRow : FnScope ["_law_cell", "_law_most", "_law_draws", "_law_row_here", "_law_draw"] ["_law_cell", "_law_most"] (defScope sLRow) := ⟨rfl, rfl, rfl, by decide +kernel, rfl, by decide +kernel, by decide +kernel⟩
theorem ok_lrow {f f1 : Addr} {fd fd1 : FuncData} {k : Nat} (F : Fun K "_law_row" "_law_row" sLRow f fd) (N1 : Fn K mg "_law_drawn" sDrawn ["_law_cell", "_law_sizes"] f1 fd1) (mL : mg "len" = none) (mR : mg "range" = none) (mS : mg "sorted" = none) : FnOk P w K mg base CX0 (k + 2) f fd ["_law_cell", "_law_most"] spLRow := by
  have G1 : FnOk P w K mg base CX0 (k + 1) f1 fd1 ["_law_cell", "_law_sizes"] (spDrawn K) := ok_drawn N1.F mL mR
  refine F.ok scLRow (fun vs H Q E h => ?_) (fun cdv A outer s H vs Q E hr h => ?_)
  · obtain ⟨c, M, rfl, _⟩ := h
    rfl
  · obtain ⟨c, M, rfl, hM1, hM, q⟩ := h
    have nd := scLRow.nd
    refine ⟨_, pss_cons (ps_set (i := 2) nd rfl (.inl rfl) (pe_call G1 hr (by rfl) N1.g N1.F.kp N1.b .nil pass0 (pa_cons (pv 0) (pa_cons (pe_op op_cat (pe_lst (pa_cons pe_int (pa_cons (pv 1) pa_nil))) (pe_op op_rep (pe_lst (pa_cons pe_int pa_nil)) (pv 1))) pa_nil))))
      (pss_cons (ps_set (i := 3) nd rfl (.inl rfl) (pe_join pe_str (pe_lc (own := [("_law_draw", 4)]) (g := gName 4) (tt := tYes) rfl nd (pi_list (pe_slice sl_list (pv 2) (po_some pe_int) (po_some (pe_op op_add pe_int (pe_ix ix_list (pv 2) pe_int (fun _ _ => rfl))))))
        (blkOk_by (own := [("_law_draw", 4)]) (N := ["_law_cell", "_law_most", "_law_draws", "_law_row_here", "_law_draw"]) (sc := defScope sLRow) (by decide +kernel))
        (fun _ _ _ _ _ => pg_name (i := 4) nd rfl (Or.inl rfl)) (fun _ _ _ _ _ => pts_nil) (fun _ _ _ _ _ => pe_ix ix_str pe_str (pv 4) (fun _ _ => rfl)))))
      (pss_cons (ps_if (pt_cmpR op_eq (pe_ix ix_list (pv 2) pe_int (fun _ _ => rfl)) pe_int (nomark _)) (pss_one (ps_ret (pe_join pe_str (pe_revL (pe_callB (cr_sortT rfl) (by rfl) mS (by decide +kernel) (pa_cons (pv 3) pa_nil)))))) pss_nil)
      (pss_cons (ps_if (pt_cmpR op_eq (pe_ix ix_list (pv 2) pe_int (fun _ _ => rfl)) pe_int (nomark _)) (pss_one (ps_ret (pe_slice sl_str (pe_op op_repS pe_str (pv 1)) po_none (po_some (pe_callB call_len_str (by rfl) mL PySem.boot_len (pa_cons (pv 3) pa_nil)))))) pss_nil)
      (pss_one (ps_ret (pv 3)))))), ?_⟩
    -- the sizes
    refine ⟨.int c, rfl, .int (M : Int), rfl, (by show 2 ≤ sizeLine; decide), fun l1 n1 => ⟨(by show 1 ≤ sizeLine; decide), fun l2 n2 => ?_⟩⟩
    refine ⟨.int (M : Int), rfl, l2, (M : Int), [.int 2], rfl, rfl, upd_same, by omega, by omega, (by rw [Int.toNat_natCast]; exact fit (by show 1 * M ≤ 10000; omega)), fun l3 n3 => ?_⟩
    rw [Int.toNat_natCast, flat_rep]
    have m2 := (same_upd n1).free n2
    have nl12 : l1 ≠ l2 := fun e => by
      rw [← e, upd_same] at n2
      cases n2
    have s2 : Same H (upd (upd H l1 (.lst [.int 6, .int (M : Int)])) l2 (.lst [.int 2])) := same_new m2 (same_upd n1)
    have m3 := s2.free n3
    have nl13 : l1 ≠ l3 := fun e => by
      rw [← e, upd_ne nl12, upd_same] at n3
      cases n3
    refine ⟨l1, l3, [.int 6, .int (M : Int)], _, rfl, rfl, ?_, upd_same, (by rw [List.length_replicate]; exact fit (by show 2 + M ≤ 10000; omega)), fun l4 n4 => ?_⟩
    · rw [upd_ne nl13, upd_ne nl12, upd_same]
    have s3 := same_new (o := .lst (List.replicate M (V.int 2))) m3 s2
    have m4 := s3.free n4
    have hsz : [V.int 6, .int (M : Int)] ++ List.replicate M (V.int 2) = ([6, (M : Int)] ++ List.replicate M 2).map V.int := by
      rw [List.map_append, List.map_replicate]
      rfl
    rw [hsz]
    have hsl : ([6, (M : Int)] ++ List.replicate M 2).length = M + 2 := by
      rw [List.length_append, List.length_replicate]
      show 2 + M = M + 2
      omega
    refine ⟨c, l4, [6, (M : Int)] ++ List.replicate M 2, rfl, SqL.of upd_same, ?_, by rw [hsl]; omega, fun H1 p s4 np ep => ?_⟩
    · intro z hz
      rcases List.mem_append.mp hz with h | h
      · rcases List.mem_cons.mp h with rfl | h
        · exact ⟨by decide, by decide⟩
        · rcases List.mem_cons.mp h with rfl | h
          · exact ⟨by omega, by omega⟩
          · cases h
      · rw [(List.mem_replicate.mp h).2]
        exact ⟨by decide, by decide⟩
    have sH1 : Same H H1 := (same_new m4 s3).trans s4
    generalize hds : draws c 0 ([6, (M : Int)] ++ List.replicate M 2) = ds at ep
    have hpos : ∀ z ∈ ([6, (M : Int)] ++ List.replicate M 2 : List Int), 0 < z := by
      intro z hz
      rcases List.mem_append.mp hz with h | h
      · rcases List.mem_cons.mp h with rfl | h
        · decide
        · obtain rfl := List.mem_singleton.mp h
          omega
      · rw [(List.mem_replicate.mp h).2]
        decide
    have hlen : ds.length = M + 2 := by
      rw [← hds, draws_len, hsl]
    have hok : ∀ (i : Nat) (x z : Int), ds[i]? = some x → ([6, (M : Int)] ++ List.replicate M 2 : List Int)[i]? = some z → 0 ≤ x ∧ x < z := by
      rw [← hds]
      exact draws_ok _ c 0 hpos
    obtain ⟨d0, e0⟩ : ∃ x, ds[0]? = some x := ⟨ds[0], List.getElem?_eq_getElem (by omega)⟩
    obtain ⟨d1, e1⟩ : ∃ x, ds[1]? = some x := ⟨ds[1], List.getElem?_eq_getElem (by omega)⟩
    have b1 := hok 1 d1 (M : Int) e1 rfl
    obtain ⟨m, rfl⟩ : ∃ m : Nat, d1 = (m : Int) := ⟨d1.toNat, by omega⟩
    have hcs : ∀ x ∈ (ds.drop 2).take (m + 1), 0 ≤ x ∧ x < 2 := fun x hx => by
      obtain ⟨j, hj⟩ := List.getElem?_of_mem (List.mem_of_mem_take hx)
      rw [List.getElem?_drop] at hj
      have hj2 : 2 + j < ds.length := (List.getElem?_eq_some_iff.mp hj).1
      refine hok (2 + j) x 2 hj ?_
      rw [List.getElem?_append_right (by show 2 ≤ 2 + j; omega), List.getElem?_replicate]
      show (if 2 + j - 2 < M then some (2 : Int) else none) = some 2
      rw [if_pos (by omega)]
    have hcl : ((ds.drop 2).take (m + 1)).length = m + 1 := by
      rw [List.length_take, List.length_drop, hlen]
      omega
    generalize hcd : (ds.drop 2).take (m + 1) = cs at hcs hcl
    have ecut : cutV (ds.map V.int) (some 2) (some (3 + (m : Int))) = cs.map V.int := by
      unfold cutV
      rw [show (some (2 : Int)) = some ((2 : Nat) : Int) from rfl, show (3 + (m : Int)) = ((3 + m : Nat) : Int) by omega, HT.sIx_nat, HT.sIx_nat, List.length_map, hlen, ← hcd, List.map_take, List.map_drop]
      have i1 : min 2 (M + 2) = 2 := by omega
      have i2 : min (3 + m) (M + 2) - 2 = m + 1 := by omega
      rw [i1, i2]
    have g1 : atI (ds.map V.int) 1 = some (.int (m : Int)) := atI_nat (j := 1) (by rw [List.getElem?_map, e1]; rfl)
    have g0 : atI (ds.map V.int) 0 = some (.int d0) := atI_nat (j := 0) (by rw [List.getElem?_map, e0]; rfl)
    have hbl : (bits cs).length = m + 1 := by
      unfold bits
      rw [List.length_map, hcl]
    have hRow : Row (bits cs) := by
      unfold Row
      rw [hbl]
      omega
    refine ⟨⟨_, rfl⟩, .ref p, rfl, 2, rfl, .ref p, rfl, p, _, 1, .int (m : Int), rfl, rfl, SqL.of ep, g1, 3, (m : Int), rfl, rfl, _, rfl, p, _, rfl, SqL.of ep, fun q1 nq1 => ?_⟩
    rw [ecut]
    have sq1 : Same H (upd H1 q1 (.lst (cs.map V.int))) := same_new (sH1.free nq1) sH1
    have npq : p ≠ q1 := ne_of_none ep nq1
    refine ⟨q1, rfl, ⟨_, SqL.of upd_same⟩, fun D hD => ?_⟩
    have nDq : q1 ≠ D := fun e => by
      rw [← e, upd_same] at hD
      cases hD
    have nDp : p ≠ D := fun e => by
      rw [← e, upd_ne npq, ep] at hD
      cases hD
    have hDH := sq1.free hD
    refine lc_list (K := K) (a := q1) (xs := cs.map V.int) (fun i H3 => Same H H3 ∧ H3 q1 = some (.lst (cs.map V.int)) ∧ H3 p = some (.lst (ds.map V.int)) ∧ H3 D = some (.lst (((bits (cs.take i)).map fun b => tx [b]).map V.str)))
      ⟨same_new hDH sq1, by rw [upd_ne nDq, upd_same], by rw [upd_ne nDp, upd_ne npq]; exact ep, upd_same⟩ (fun i H3 _ h => SqL.of h.2.1) ?_ ?_
    · rintro i x H3 hx ⟨sm, eq1, epp, eD⟩
      rw [List.getElem?_map] at hx
      obtain ⟨u, hu, rfl⟩ := Option.map_eq_some_iff.mp hx
      have hb := hcs u (List.mem_of_getElem? hu)
      refine ⟨rfl, .int u, rfl, ".o", u, _, rfl, rfl, (by decide), dot_o u hb.1 hb.2, _, eD, ?_, same_new hDH sm, ?_, ?_, ?_⟩
      · rw [List.length_map, List.length_map]
        unfold bits
        rw [List.length_map]
        exact small1000 (Nat.le_trans (List.length_take_le _ _) (by have := (List.getElem?_eq_some_iff.mp hu).1; omega))
      · rw [upd_ne nDq]
        exact eq1
      · rw [upd_ne nDp]
        exact epp
      · unfold bits
        rw [upd_same, List.take_add_one, hu, List.map_append, List.map_append, List.map_append]
        rfl
    · rintro H3 ⟨sm, eq1, epp, eD⟩
      rw [List.length_map, List.take_length] at eD
      refine ⟨"", D, _, rfl, rfl, .inl (SqL.of eD), join_fits (by have := hRow.2; omega), ?_⟩
      rw [join_tx]
      -- which kind
      refine ⟨.ref p, rfl, p, _, 0, _, rfl, rfl, SqL.of epp, g0, rfl, _, rfl, ite2 (fun _ => ?_) (fun _ => ?_)⟩
      · have h64 : (tx (bits cs)).length < 64 := by
          rw [tx_len]
          have := hRow.2
          omega
        refine ⟨⟨_, rfl⟩, .str (tx (bits cs)), rfl, tx (bits cs), rfl, h64, fun ys p1 hperm _ np1 => ⟨p1, _, rfl, SqL.of upd_same, fun p2 np2 => ?_⟩⟩
        rw [← List.map_reverse]
        obtain ⟨bs2, e2⟩ := signs_rows ys.reverse fun y hy => by
          have h1 := hperm.mem_iff.mp (List.mem_reverse.mp hy)
          rw [tx_sg] at h1
          obtain ⟨b, _, e⟩ := List.mem_map.mp h1
          exact ⟨b, e.symm⟩
        have hl2 : bs2.length = (bits cs).length := by
          have := congrArg List.length e2
          rw [List.length_reverse, hperm.length_eq, sg_len, tx_len, List.length_map] at this
          exact this.symm
        rw [e2]
        have hR2 : Row bs2 := by
          unfold Row
          rw [hl2]
          exact hRow
        refine ⟨"", p2, _, rfl, rfl, .inl (SqL.of upd_same), join_fits (by have := hR2.2; omega), ?_⟩
        rw [join_tx]
        have sp1 := same_new (o := .lst (ys.map V.str)) (sm.free np1) sm
        exact q _ _ (same_new (sp1.free np2) sp1) hR2.1 (by rw [hl2, hbl]; omega)
      · refine ⟨.ref p, rfl, p, _, 0, _, rfl, rfl, SqL.of epp, g0, rfl, _, rfl, ite2 (fun _ => ?_) (fun _ => ?_)⟩
        · have hrl := rep_of_len M
          refine ⟨.int (M : Int), rfl, "o.", M, rfl, rfl, (by rw [show ("o." : Str).length = 2 by decide +kernel]; omega), by omega, .str (tx (bits cs)), rfl, tx (bits cs), rfl, row_size hRow, _, rfl, _, rfl, ?_, ?_⟩
          · rw [rep_of]
            exact tx_fit (by omega)
          · rw [rep_of, cut_to, tx_len]
            refine q _ _ sm ?_ ?_
            · rw [List.length_take]
              omega
            · rw [List.length_take]
              omega
        · exact ⟨_, rfl, q _ _ sm hRow.1 (by omega)⟩
end
end Hop
namespace Hop
section
open PySem L2 HopR
open C8 (InsC call_isC)
variable {P : Program} {w : World} {K : PySem.W.Frag} {mg : Str → Option Value} {base : Heap} {C d : Addr} {es : Array DictEntry} {n : Nat}
theorem and_told {t u : TT} {σ : L2.St} {H : Hp} {Q : Bool → Hp → Prop} {a b : Bool} (h1 : ∀ R : Bool → Hp → Prop, R a H → t σ H R) (h2 : a = true → ∀ R : Bool → Hp → Prop, R b H → u σ H R) (q : Q (a && b) H) : tAnd t u σ H Q := by
  refine h1 _ ?_
  cases a with
  | true => exact h2 rfl _ q
  | false => exact q
theorem or_told {t u : TT} {σ : L2.St} {H : Hp} {Q : Bool → Hp → Prop} {a b : Bool} (h1 : ∀ R : Bool → Hp → Prop, R a H → t σ H R) (h2 : a = false → ∀ R : Bool → Hp → Prop, R b H → u σ H R) (q : Q (a || b) H) : tOr t u σ H Q := by
  refine h1 _ ?_
  cases a with
  | true => exact q
  | false => exact h2 rfl _ q
theorem sign_o (b : Bool) : decide (V.str ⟨#[cd b]⟩ = V.str "o") = b := by
  rw [tx_o]
  cases b with
  | true => exact decide_eq_true rfl
  | false => exact decide_eq_false fun q => absurd (tx_inj (as := [false]) (bs := [true]) (V.str.inj q)) (by decide)
theorem sign_f (b : Bool) : decide (V.str ⟨#[cd b]⟩ = V.str ".") = !b := by
  rw [tx_f]
  cases b with
  | false => exact decide_eq_true rfl
  | true => exact decide_eq_false fun q => absurd (tx_inj (as := [true]) (bs := [false]) (V.str.inj q)) (by decide)
theorem at_code {bs : List Bool} {i : Nat} (h : i < bs.length) : atI (tx bs).cps.toList (i : Int) = some (cd bs[i]) := atI_nat (by rw [tx_list, List.getElem?_map, List.getElem?_eq_getElem h]; rfl)
theorem scOpen : FnScope ["_law_row_here", "_law_found", "_law_shut"] ["_law_row_here"] (defScope sOpen) := ⟨rfl, rfl, rfl, by decide +kernel, rfl, by decide +kernel, by decide +kernel⟩
theorem ok_open {f : Addr} {fd : FuncData} {k : Nat} (F : Fun K "_law_open" "_law_open" sOpen f fd) (T : TxtR K w mg d es n) : FnOk P w K mg base CX0 (k + 1) f fd ["_law_row_here"] spWalls := by
  refine F.ok scOpen (fun vs H Q E h => ?_) (fun cdv A outer s H vs Q E hr h => ?_)
  · obtain ⟨bs, rfl, _⟩ := h
    rfl
  · obtain ⟨bs, rfl, hR, q⟩ := h
    have nd := scOpen.nd
    have h30 := hR.2
    have hz := row_size hR
    refine ⟨_, pss_cons (ps_set (i := 1) nd rfl (.inl rfl) (pe_lst pa_nil))
      (pss_cons (ps_for PassesOwn.never rfl (pi_range1 (by rfl) T.range (pa_cons (pe_op op_add (pe_callB call_len_str (by rfl) T.len PySem.boot_len (pa_cons (pv 0) pa_nil)) pe_int) pa_nil)) (pg_name (i := 2) nd rfl (.inl rfl))
        (pss_one (ps_if (PW.pt (pw_and (PW.pt (pw_or (pt_cmpR op_eq (pv 2) pe_int (nomark _)) (pw_or1 (pt_cmpR op_eq (pe_ix ix_str (pv 0) (pe_op op_sub (pv 2) pe_int) (fun _ _ => rfl)) pe_str (nomark _)))))
            (pw_and1 (PW.pt (pw_or (pt_cmpR op_eq (pv 2) (pe_callB call_len_str (by rfl) T.len PySem.boot_len (pa_cons (pv 0) pa_nil)) (nomark _)) (pw_or1 (pt_cmpR op_eq (pe_ix ix_str (pv 0) (pv 2) (fun _ _ => rfl)) pe_str (nomark _))))))))
          (pss_one (ps_expr (pe_bm PySem.F.plainAttrs_list PySem.F.slot_list_append PySem.F.type_list_append mt_append (pv 1) (pa_cons (pv 2) pa_nil)))) pss_nil)))
      (pss_one (ps_ret (pv 1)))), ?_⟩
    refine ⟨Nat.zero_le _, fun o no => ?_⟩
    refine ⟨.str (tx bs), rfl, tx bs, rfl, hz, _, 1, rfl, rfl, _, rfl, (by rw [tx_len]; omega), (by rw [tx_len]; omega), ?_⟩
    have en : (((tx bs).length : Int) + 1).toNat = bs.length + 1 := by
      rw [tx_len]
      omega
    rw [en]
    refine for_range (lo := 0) (n := bs.length + 1) (fun i σ H3 => ∃ y2, σ = [some (.str (tx bs)), some (.ref o), y2] ∧ Same H H3 ∧ H3 o = some (.lst (((List.range i).filter (opn bs)).map wv))) ⟨none, rfl, same_upd no, upd_same⟩ ?_ ?_
    · rintro i σ H3 hi ⟨y2, rfl, sm, eo⟩
      rw [Int.zero_add]
      have er : (List.range (i + 1)).filter (opn bs) = (List.range i).filter (opn bs) ++ (if opn bs i then [i] else []) := by
        rw [List.range_succ, List.filter_append]
        congr 1
        cases h : opn bs i with
        | true => simp [h]
        | false => simp [h]
      have hlt : (((List.range i).filter (opn bs)).map wv).length < sizeLine := by
        rw [List.length_map]
        refine small1000 (Nat.le_trans (List.length_filter_le _ _) ?_)
        rw [List.length_range]
        omega
      have hop := opn_eq (bs := bs) (k := i) (by omega)
      -- the end of a turn
      have yes : opn bs i = true → ∃ y2, [some (V.str (tx bs)), some (V.ref o), some (V.int (i : Int))] = [some (.str (tx bs)), some (.ref o), y2] ∧ Same H (upd H3 o (.lst (((List.range i).filter (opn bs)).map wv ++ [.int (i : Int)]))) ∧ (upd H3 o (.lst (((List.range i).filter (opn bs)).map wv ++ [.int (i : Int)]))) o = some (.lst (((List.range (i + 1)).filter (opn bs)).map wv)) := fun e => by
        refine ⟨_, rfl, same_new no sm, ?_⟩
        rw [upd_same, er, e, List.map_append]
        rfl
      have nay : opn bs i = false → ∃ y2, [some (V.str (tx bs)), some (V.ref o), some (V.int (i : Int))] = [some (.str (tx bs)), some (.ref o), y2] ∧ Same H H3 ∧ H3 o = some (.lst (((List.range (i + 1)).filter (opn bs)).map wv)) := fun e => by
        refine ⟨_, rfl, sm, ?_⟩
        rw [er, e, eo]
        simp
      have dz : decide (V.int (i : Int) = V.int 0) = decide (i = 0) := by
        by_cases h : i = 0
        · rw [h]; rfl
        · rw [decide_eq_false h, decide_eq_false fun z => h (by have := V.int.inj z; omega)]
      have dl : decide (V.int (i : Int) = V.int ((tx bs).length : Int)) = decide (i = bs.length) := by
        rw [tx_len]
        by_cases h : i = bs.length
        · rw [decide_eq_true h, decide_eq_true (by rw [h])]
        · rw [decide_eq_false h, decide_eq_false fun z => h (by have := V.int.inj z; omega)]
      have gone : ∀ j, j < bs.length → bs.getD j false = bs[j]! ∧ bs.getD j true = bs[j]! := fun j hj => by
        rw [List.getD_eq_getElem?_getD, List.getD_eq_getElem?_getD, List.getElem?_eq_getElem hj, getElem!_pos bs j hj]
        exact ⟨rfl, rfl⟩
      have h0 : ∀ j, j < bs.length → bs.getD j false = bs.getD j true := fun j hj => by rw [(gone j hj).1, (gone j hj).2]
      have low : ∀ j (hj : j < bs.length), bs.getD j true = bs[j] := fun j hj => by
        rw [(gone j hj).2, getElem!_pos bs j hj]
      refine and_told (a := decide (i = 0) || bs.getD (i - 1) false) (b := decide (i = bs.length) || !bs.getD i true)
        (fun R r => or_told (a := decide (i = 0)) (b := bs.getD (i - 1) false) (fun R r => ⟨.int (i : Int), rfl, rfl, _, rfl, by rw [dz]; exact r⟩) (fun e R r => ?_) r)
        (fun _ R r => or_told (a := decide (i = bs.length)) (b := !bs.getD i true) (fun R r => ⟨.int (i : Int), rfl, .str (tx bs), rfl, tx bs, rfl, hz, rfl, _, rfl, by rw [dl]; exact r⟩) (fun e R r => ?_) r) ?_
      · have e : ¬ i = 0 := of_decide_eq_false e
        have hj : i - 1 < bs.length := by omega
        have ej : (i : Int) - 1 = ((i - 1 : Nat) : Int) := by omega
        refine ⟨.str (tx bs), rfl, .int (i : Int), rfl, _, _, rfl, rfl, _, _, _, rfl, rfl, hz, (by rw [ej]; exact at_code hj), rfl, _, rfl, ?_⟩
        rw [sign_o, ← low _ hj, ← h0 _ hj]
        exact r
      · have e : ¬ i = bs.length := of_decide_eq_false e
        have hj : i < bs.length := by omega
        refine ⟨.str (tx bs), rfl, .int (i : Int), rfl, _, _, _, rfl, rfl, hz, at_code hj, rfl, _, rfl, ?_⟩
        rw [sign_f, ← low _ hj]
        exact r
      · show if (_ && _ : Bool) = true then _ else _
        rw [← hop]
        refine ite2 (fun e => ?_) (fun e => ?_)
        · exact ⟨.ref o, rfl, .inl ⟨rfl, _, SqL.of eo⟩, .int (i : Int), rfl, o, _, _, rfl, rfl, eo, hlt, yes e⟩
        · exact nay (Bool.eq_false_iff.mpr e)
    · rintro σ H3 ⟨y2, rfl, sm, eo⟩
      exact ⟨.ref o, rfl, q H3 o sm no eo⟩
theorem scBehind : FnScope ["_law_row_here", "_law_shut", "_law_signs"] ["_law_row_here", "_law_shut"] (defScope sBehind) := ⟨rfl, rfl, rfl, by decide +kernel, rfl, by decide +kernel, by decide +kernel⟩
def spBehind : Sp := fun vs H Q _ => ∃ bs k, vs = [.str (tx bs), wv k] ∧ Row bs ∧ k ≤ bs.length ∧ ∀ H', Same H H' → Q (.str (tx (chg bs k))) H'
def sl (bs : List Bool) : List V := (bs.map fun b => tx [b]).map V.str
theorem sl_len (bs : List Bool) : (sl bs).length = bs.length := by
  unfold sl
  rw [List.length_map, List.length_map]
theorem ixN_low {n j : Nat} (hj : j < n) : ixN n (j : Int) = some j := by
  unfold ixN
  rw [if_pos (by omega), if_pos (by omega)]
  simp
theorem sl_set (bs : List Bool) (k : Nat) (b : Bool) : (sl bs).set k (.str (tx [b])) = sl (bs.set k b) := by
  unfold sl
  rw [List.map_set, List.map_set]
theorem ok_behind {f : Addr} {fd : FuncData} {k : Nat} (F : Fun K "_law_behind" "_law_behind" sBehind f fd) (T : TxtR K w mg d es n) : FnOk P w K mg base CX0 (k + 1) f fd ["_law_row_here", "_law_shut"] spBehind := by
  refine F.ok scBehind (fun vs H Q E h => ?_) (fun cdv A outer s H vs Q E hr h => ?_)
  · obtain ⟨bs, k, rfl, _⟩ := h
    rfl
  · obtain ⟨bs, k, rfl, hR, hk, q⟩ := h
    have nd := scBehind.nd
    have h30 := hR.2
    have hz := row_size hR
    refine ⟨_, pss_cons (ps_set (i := 2) nd rfl (.inl rfl) (pe_callTy (cr_listT rfl) (by rfl) T.list (by decide +kernel) (pa_cons (pv 0) pa_nil)))
      (pss_cons (ps_if (pt_cmpR op_gt (pv 1) pe_int (nomark _)) (pss_one (ps_asg pe_str (pg_sub (pv 2) (pe_op op_sub (pv 1) pe_int) set_list))) pss_nil)
      (pss_cons (ps_if (pt_cmpR op_lt (pv 1) (pe_callB call_len_str (by rfl) T.len PySem.boot_len (pa_cons (pv 0) pa_nil)) (nomark _)) (pss_one (ps_asg pe_str (pg_sub (pv 2) (pv 1) set_list))) pss_nil)
      (pss_one (ps_ret (pe_join pe_str (pv 2)))))), ?_⟩
    refine ⟨.str (tx bs), rfl, tx bs, rfl, hz, fun o no => ?_⟩
    have e0 : (sg (tx bs)).map V.str = sl bs := by
      rw [tx_sg]
      rfl
    rw [e0]
    refine ⟨wv k, rfl, _, _, rfl, rfl, _, rfl, ite2 (fun e => ?_) (fun e => ?_)⟩
    · have e : 0 < k := by
        have := of_decide_eq_true e
        omega
      have ej : ixN (sl bs).length ((k : Int) - 1) = some (k - 1) := by
        rw [sl_len, show (k : Int) - 1 = ((k - 1 : Nat) : Int) by omega]
        exact ixN_low (by omega)
      refine ⟨.ref o, rfl, wv k, rfl, _, _, rfl, rfl, o, _, _, k - 1, rfl, rfl, upd_same, ej, ?_⟩
      rw [tx_f, sl_set]
      have hl : (bs.set (k - 1) false).length = bs.length := by simp
      refine ⟨wv k, rfl, .str (tx bs), rfl, tx bs, rfl, hz, _, _, rfl, rfl, _, rfl, ite2 (fun e2 => ?_) (fun e2 => ?_)⟩
      · have e2 : k < bs.length := by
          have := of_decide_eq_true e2
          rw [tx_len] at this
          omega
        refine ⟨.ref o, rfl, wv k, rfl, o, _, _, k, rfl, rfl, upd_same, (by rw [sl_len, hl]; exact ixN_low e2), ?_⟩
        rw [tx_o, sl_set]
        refine ⟨⟨_, rfl⟩, .ref o, rfl, "", o, (((bs.set (k - 1) false).set k true).map fun b => tx [b]), rfl, rfl, .inl (SqL.of upd_same), join_fits (by rw [List.length_set, hl]; omega), ?_⟩
        rw [join_tx]
        have ec : (bs.set (k - 1) false).set k true = chg bs k := by
          rw [← lbeh_eq hk]
          unfold lbeh
          rw [if_pos e2, if_pos e]
        rw [ec]
        exact q _ (same_new no (same_new no (same_upd no)))
      · have e2 : ¬ k < bs.length := fun z => e2 (decide_eq_true (by rw [tx_len]; omega))
        refine ⟨⟨_, rfl⟩, .ref o, rfl, "", o, ((bs.set (k - 1) false).map fun b => tx [b]), rfl, rfl, .inl (SqL.of upd_same), join_fits (by rw [hl]; omega), ?_⟩
        rw [join_tx]
        have ec : bs.set (k - 1) false = chg bs k := by
          rw [← lbeh_eq hk]
          unfold lbeh
          rw [if_neg e2, if_pos e]
        rw [ec]
        exact q _ (same_new no (same_upd no))
    · have e : ¬ 0 < k := fun z => e (decide_eq_true (by omega))
      have hl : (bs).length = bs.length := by simp
      refine ⟨wv k, rfl, .str (tx bs), rfl, tx bs, rfl, hz, _, _, rfl, rfl, _, rfl, ite2 (fun e2 => ?_) (fun e2 => ?_)⟩
      · have e2 : k < bs.length := by
          have := of_decide_eq_true e2
          rw [tx_len] at this
          omega
        refine ⟨.ref o, rfl, wv k, rfl, o, _, _, k, rfl, rfl, upd_same, (by rw [sl_len, hl]; exact ixN_low e2), ?_⟩
        rw [tx_o, sl_set]
        refine ⟨⟨_, rfl⟩, .ref o, rfl, "", o, (((bs).set k true).map fun b => tx [b]), rfl, rfl, .inl (SqL.of upd_same), join_fits (by rw [List.length_set, hl]; omega), ?_⟩
        rw [join_tx]
        have ec : (bs).set k true = chg bs k := by
          rw [← lbeh_eq hk]
          unfold lbeh
          rw [if_pos e2, if_neg e]
        rw [ec]
        exact q _ (same_new no (same_upd no))
      · have e2 : ¬ k < bs.length := fun z => e2 (decide_eq_true (by rw [tx_len]; omega))
        refine ⟨⟨_, rfl⟩, .ref o, rfl, "", o, ((bs).map fun b => tx [b]), rfl, rfl, .inl (SqL.of upd_same), join_fits (by rw [hl]; omega), ?_⟩
        rw [join_tx]
        have ec : bs = chg bs k := by
          rw [← lbeh_eq hk]
          unfold lbeh
          rw [if_neg e2, if_neg e]
        rw [ec]
        exact q _ (same_upd no)
theorem scLow : FnScope ["_law_top", "_law_bottom", "_law_one", "_law_other"] ["_law_top", "_law_bottom"] (defScope sLow) := ⟨rfl, rfl, rfl, by decide +kernel, rfl, by decide +kernel, by decide +kernel⟩
def spLow : Sp := fun vs H Q _ => ∃ t b : Int, vs = [.int t, .int b] ∧ b ≠ 0 ∧ b.natAbs < 2 ^ 8000 ∧ ∀ H' p, Same H H' → H p = none → H' p = some (.tup (tq (Rat.divInt t b))) → Q (.ref p) H'
theorem abs_nat (x : Int) : (if x < 0 then -x else x) = (x.natAbs : Int) := by
  split <;> omega
theorem ok_low {f : Addr} {fd : FuncData} {k : Nat} (F : Fun K "_law_low" "_law_low" sLow f fd) (T : TxtP K mg C) : FnOk P w K mg base CX0 (k + 1) f fd ["_law_top", "_law_bottom"] spLow := by
  refine F.ok scLow (fun vs H Q E h => ?_) (fun cdv A outer s H vs Q E hr h => ?_)
  · obtain ⟨a, b, rfl, _⟩ := h
    rfl
  · obtain ⟨t, b, rfl, hb, hb2, q⟩ := h
    have nd := scLow.nd
    refine ⟨_, pss_cons (ps_set (i := 2) nd rfl (.inl rfl) (pe_callB call_abs (by rfl) T.abs (by decide +kernel) (pa_cons (pv 0) pa_nil)))
      (pss_cons (ps_set (i := 3) nd rfl (.inl rfl) (pe_callB call_abs (by rfl) T.abs (by decide +kernel) (pa_cons (pv 1) pa_nil)))
      (pss_cons (ps_while PassesOwn.never (pt_cmpR op_gt (pv 3) pe_int (nomark _)) (pss_one (ps_par (by rfl) nd (i := 2) (j := 3) rfl rfl (by decide) rfl rfl (pa_cons (pv 3) (pa_cons (pe_op op_modN (pv 2) (pv 3)) pa_nil)) (by rfl))))
      (pss_cons (ps_if (pt_cmpR op_lt (pv 1) pe_int (nomark _)) (pss_one (ps_set (i := 2) nd rfl (.inl rfl) (pe_op op_sub pe_int (pv 2)))) pss_nil)
      (pss_one (ps_ret (pe_tup (pa_cons (pe_op op_fdivWN (pv 0) (pv 2)) (pa_cons (pe_op op_fdivWN (pv 1) (pv 2)) pa_nil)))))))), ?_⟩
    refine ⟨.int t, rfl, t, rfl, .int b, rfl, b, rfl, ?_⟩
    rw [abs_nat, abs_nat]
    have hg := gcd_pos (t := t) hb
    have hgl : (Int.gcd t b).log2 < 9000 := by
      have h1 : Int.gcd t b ≤ b.natAbs := Nat.le_of_dvd (by omega) (Int.gcd_dvd_natAbs_right ..)
      exact Nat.lt_of_lt_of_le (PySem.Flt.log2_lt_of (by decide) (Nat.lt_of_le_of_lt h1 hb2)) (by decide)
    have fin : ∀ g : Int, g = (if b < 0 then -(Int.gcd t b : Int) else (Int.gcd t b : Int)) → CDivWN t g ∧ CDivWN b g := fun g e => by
      have e2 : g.natAbs = Int.gcd t b := by
        rw [e]
        split <;> omega
      unfold CDivWN
      rw [e2]
      exact ⟨⟨by omega, hgl⟩, ⟨by omega, hgl⟩⟩
    have done : ∀ g : Int, g = (if b < 0 then -(Int.gcd t b : Int) else (Int.gcd t b : Int)) → ∀ p, H p = none → Q (.ref p) (upd H p (.tup [.int (t.fdiv g), .int (b.fdiv g)])) := fun g e p hp => by
      rw [e, low_num hb, low_den hb]
      exact q _ _ (same_upd hp) hp upd_same
    refine while_by (fun σ H1 => ∃ x y : Nat, σ = [some (.int t), some (.int b), some (.int (x : Int)), some (.int (y : Int))] ∧ Nat.gcd x y = Int.gcd t b ∧ H1 = H) (fun σ _ => match σ with | [_, _, _, some (.int y)] => y.natAbs | _ => 0) ⟨t.natAbs, b.natAbs, rfl, rfl, rfl⟩ ?_ ?_
    · rintro σ H1 ⟨x, y, rfl, e, rfl⟩
      refine ⟨_, rfl, _, _, rfl, rfl, _, rfl, ?_⟩
      by_cases hy : y = 0
      · subst hy
        rw [Nat.gcd_zero_right] at e
        subst e
        rw [decide_eq_false (show ¬ (((0 : Nat) : Int) > 0) by decide)]
        refine iteF ⟨.int b, rfl, _, _, rfl, rfl, _, rfl, ite2 (fun e => ?_) (fun e => ?_)⟩
        · have e : b < 0 := of_decide_eq_true e
          have eg : (0 : Int) - (Int.gcd t b : Int) = (if b < 0 then -(Int.gcd t b : Int) else (Int.gcd t b : Int)) := by
            rw [if_pos e]
            omega
          obtain ⟨c1, c2⟩ := fin _ eg
          exact ⟨_, rfl, _, _, rfl, rfl, .int t, rfl, _, rfl, t, _, rfl, rfl, c1, .int b, rfl, _, rfl, b, _, rfl, rfl, c2, (by show 2 ≤ sizeLine; decide), fun p hp => done _ eg p hp⟩
        · have e : ¬ b < 0 := fun z => e (decide_eq_true z)
          have eg : (Int.gcd t b : Int) = (if b < 0 then -(Int.gcd t b : Int) else (Int.gcd t b : Int)) := (if_neg e).symm
          obtain ⟨c1, c2⟩ := fin _ eg
          exact ⟨.int t, rfl, _, rfl, t, _, rfl, rfl, c1, .int b, rfl, _, rfl, b, _, rfl, rfl, c2, (by show 2 ≤ sizeLine; decide), fun p hp => done _ eg p hp⟩
      · have hyi : (y : Int) ≠ 0 := by omega
        have em : ((x : Int).fmod (y : Int)) = ((x % y : Nat) : Int) := by
          rw [Int.fmod_eq_emod_of_nonneg _ (by omega)]
          exact (Int.natCast_emod x y).symm
        rw [decide_eq_true (show (y : Int) > 0 by omega)]
        refine iteT ⟨_, rfl, _, rfl, _, rfl, _, _, rfl, rfl, hyi, _, _, rfl, ⟨y, x % y, (by show [some (V.int t), some (V.int b), some (V.int (y : Int)), some (V.int ((x : Int).fmod (y : Int)))] = _; rw [em]), ?_, rfl⟩, ?_⟩
        · rw [← e, Nat.gcd_comm y, ← Nat.gcd_rec, Nat.gcd_comm]
        · exact fmod_less (x : Int) hyi
    · rintro σ H1 Q1 Q2 hm h
      obtain ⟨v, e1, i1, j1, e2, e3, k2, e4, h⟩ := h
      exact ⟨v, e1, i1, j1, e2, e3, k2, e4, hm _ _ h⟩
def spLPaces (C : Addr) : Sp := fun vs H Q _ => ∃ c : Int, vs = [.int c] ∧ ∀ H' p t1 t2 (q r : Rat), Same H H' → H p = none → H' p = some (.lst [.ref t1, .ref t2]) → H' t1 = some (.tup (tq q)) → H' t2 = some (.tup (tq r)) → 0 < q → 0 < r → Sz 45 q → Sz 5 r → Q (.ref p) H'
theorem scLPaces : FnScope ["_law_cell", "_law_draws", "_law_ipace", "_law_opace"] ["_law_cell"] (defScope sLPaces) := ⟨rfl, rfl, rfl, by decide +kernel, rfl, by decide +kernel, by decide +kernel⟩
theorem frac_above {t b : Int} (ht : 0 < t) (hb : 0 < b) : 0 < Rat.divInt t b := by
  refine pos_num ?_
  rw [Rat.num_divInt, Int.sign_eq_one_of_pos hb, Int.one_mul]
  exact Int.ediv_pos_of_pos_of_dvd ht (by omega) (Int.gcd_dvd_right ..)
theorem draws6 {c z0 z1 z2 z3 z4 z5 : Int} (h : ∀ z ∈ [z0, z1, z2, z3, z4, z5], 0 < z) : ∃ d0 d1 d2 d3 d4 d5 : Int, draws c 0 [z0, z1, z2, z3, z4, z5] = [d0, d1, d2, d3, d4, d5] ∧ (0 ≤ d0 ∧ d0 < z0) ∧ (0 ≤ d1 ∧ d1 < z1) ∧ (0 ≤ d2 ∧ d2 < z2) ∧ (0 ≤ d3 ∧ d3 < z3) ∧ (0 ≤ d4 ∧ d4 < z4) ∧ (0 ≤ d5 ∧ d5 < z5) := by
  have hl := draws_len [z0, z1, z2, z3, z4, z5] c 0
  match hd : draws c 0 [z0, z1, z2, z3, z4, z5], hl with
  | [d0, d1, d2, d3, d4, d5], _ =>
    have k := draws_ok [z0, z1, z2, z3, z4, z5] c 0 h
    rw [hd] at k
    exact ⟨d0, d1, d2, d3, d4, d5, rfl, k 0 d0 z0 rfl rfl, k 1 d1 z1 rfl rfl, k 2 d2 z2 rfl rfl, k 3 d3 z3 rfl rfl, k 4 d4 z4 rfl rfl, k 5 d5 z5 rfl rfl⟩
theorem ok_lpaces {f fw fl : Addr} {fd gw gl : FuncData} {k : Nat} (F : Fun K "_law_paces" "_law_paces" sLPaces f fd) (Nw : Fn K mg "_law_drawn" sDrawn ["_law_cell", "_law_sizes"] fw gw) (Nl : Fn K mg "_law_low" sLow ["_law_top", "_law_bottom"] fl gl) (T : TxtP K mg C) : FnOk P w K mg base CX0 (k + 2) f fd ["_law_cell"] (spLPaces C) := by
  have Gd : FnOk P w K mg base CX0 (k + 1) fw gw ["_law_cell", "_law_sizes"] (spDrawn K) := ok_drawn Nw.F T.len T.range
  have Gl : FnOk P w K mg base CX0 (k + 1) fl gl ["_law_top", "_law_bottom"] spLow := ok_low Nl.F T
  refine F.ok scLPaces (fun vs H Q E h => ?_) (fun cdv A outer s H vs Q E hr h => ?_)
  · obtain ⟨c, rfl, _⟩ := h
    rfl
  · obtain ⟨c, rfl, h⟩ := h
    have nd := scLPaces.nd
    refine ⟨_, pss_cons (ps_set (i := 1) nd rfl (.inl rfl) (pe_call Gd hr (by rfl) Nw.g Nw.F.kp Nw.b .nil pass0 (pa_cons (pv 0) (pa_cons (pe_lst (pa_cons pe_int (pa_cons pe_int (pa_cons pe_int (pa_cons pe_int (pa_cons pe_int (pa_cons (pe_op op_pow pe_int pe_int) pa_nil))))))) pa_nil))))
      (pss_cons (ps_set (i := 2) nd rfl (.inl rfl) (pe_call Gl hr (by rfl) Nl.g Nl.F.kp Nl.b .nil pass0 (pa_cons (pe_op op_add pe_int (pe_ix ix_list (pv 1) pe_int (fun _ _ => rfl))) (pa_cons (pe_op op_add pe_int (pe_ix ix_list (pv 1) pe_int (fun _ _ => rfl))) pa_nil))))
      (pss_cons (ps_set (i := 3) nd rfl (.inl rfl) (pe_call Gl hr (by rfl) Nl.g Nl.F.kp Nl.b .nil pass0 (pa_cons (pe_op op_add pe_int (pe_ix ix_list (pv 1) pe_int (fun _ _ => rfl))) (pa_cons (pe_op op_add pe_int (pe_ix ix_list (pv 1) pe_int (fun _ _ => rfl))) pa_nil))))
      (pss_cons (ps_if (pt_cmpR op_eq (pe_ix ix_list (pv 1) pe_int (fun _ _ => rfl)) pe_int (nomark _)) (pss_one (ps_ret (pe_lst (pa_cons (pe_tup (pa_cons pe_int (pa_cons pe_int pa_nil))) (pa_cons (pe_tup (pa_cons pe_int (pa_cons pe_int pa_nil))) pa_nil))))) pss_nil)
      (pss_cons (ps_if (pt_cmpR op_eq (pe_ix ix_list (pv 1) pe_int (fun _ _ => rfl)) pe_int (nomark _)) (pss_one (ps_ret (pe_lst (pa_cons (pe_call Gl hr (by rfl) Nl.g Nl.F.kp Nl.b .nil pass0 (pa_cons (pe_op op_add pe_int (pe_ix ix_list (pv 1) pe_int (fun _ _ => rfl))) (pa_cons (pe_op op_add pe_int (pe_op op_fdiv (pe_ix ix_list (pv 1) pe_int (fun _ _ => rfl)) pe_int)) pa_nil))) (pa_cons (pv 3) pa_nil))))) pss_nil)
      (pss_one (ps_ret (pe_lst (pa_cons (pv 2) (pa_cons (pv 3) pa_nil))))))))), ?_⟩
    refine ⟨.int c, rfl, 10, 12, rfl, rfl, ⟨by decide, by decide, by decide⟩, (by show 6 ≤ sizeLine; decide), fun l2 n2 => ?_⟩
    refine ⟨c, l2, [3, 9, 9, 9, 9, 1000000000000], rfl, SqL.of upd_same, ?_, by decide, fun H1 p1 s1 n1 e1 => ?_⟩
    · intro z hz
      simp only [List.mem_cons, List.not_mem_nil, or_false] at hz
      rcases hz with rfl | rfl | rfl | rfl | rfl | rfl <;> exact ⟨by decide, by decide⟩
    obtain ⟨d0, d1, d2, d3, d4, d5, ed, b0, b1, b2, b3, b4, b5⟩ := draws6 (c := c) (z0 := 3) (z1 := 9) (z2 := 9) (z3 := 9) (z4 := 9) (z5 := 1000000000000) (by decide)
    rw [ed] at e1
    have sH1 : Same H H1 := (same_upd n2).trans s1
    have np : ∀ {H' : Hp} {p : Addr}, Same H1 H' → H' p = none → H p = none := fun s e => (sH1.trans s).free e
    have two : ∀ x y : Int, 0 < x → x < 4000000000000 → 0 < y → y < 4000000000000 → y ≠ 0 ∧ y.natAbs < 2 ^ 8000 ∧ 0 < Rat.divInt x y ∧ Sz 45 (Rat.divInt x y) := fun x y hx hx2 hy hy2 =>
      ⟨by omega, Nat.lt_of_lt_of_le (show y.natAbs < 2 ^ 45 by omega) (Nat.pow_le_pow_right (by decide) (by decide)), frac_above hx hy, sz_divInt (by omega) (show x.natAbs < 2 ^ 45 by omega) (show y.natAbs < 2 ^ 45 by omega)⟩
    obtain ⟨k1, k2, k3, k4⟩ := two (1 + d1) (1 + d2) (by omega) (by omega) (by omega) (by omega)
    refine ⟨.ref p1, rfl, p1, _, 1, .int d1, rfl, rfl, SqL.of e1, rfl, _, _, rfl, rfl, .ref p1, rfl, p1, _, 2, .int d2, rfl, rfl, SqL.of e1, rfl, _, _, rfl, rfl, 1 + d1, 1 + d2, rfl, k1, k2, fun H2 t1 s2 n2 et1 => ?_⟩
    obtain ⟨m1, m2, m3, _⟩ := two (1 + d3) (1 + d4) (by omega) (by omega) (by omega) (by omega)
    have m4 : Sz 5 (Rat.divInt (1 + d3) (1 + d4)) := sz_divInt (by omega) (show (1 + d3).natAbs < 2 ^ 5 by omega) (show (1 + d4).natAbs < 2 ^ 5 by omega)
    have e12 := s2 _ _ e1
    refine ⟨.ref p1, rfl, p1, _, 3, .int d3, rfl, rfl, SqL.of e12, rfl, _, _, rfl, rfl, .ref p1, rfl, p1, _, 4, .int d4, rfl, rfl, SqL.of e12, rfl, _, _, rfl, rfl, 1 + d3, 1 + d4, rfl, m1, m2, fun H3 t2 s3 n3 et2 => ?_⟩
    have e13 := s3 _ _ e12
    have et13 := s3 _ _ et1
    have s23 := s2.trans s3
    refine ⟨.ref p1, rfl, p1, _, 0, .int d0, rfl, rfl, SqL.of e13, rfl, rfl, _, rfl, ite2 (fun _ => ?_) (fun _ => ?_)⟩
    · refine ⟨(by show 2 ≤ sizeLine; decide), fun u1 nu1 => ⟨(by show 2 ≤ sizeLine; decide), fun u2 nu2 => ⟨(by show 2 ≤ sizeLine; decide), fun u3 nu3 => ?_⟩⟩⟩
      have z1 := same_upd (o := .tup [.int 1, .int 1]) nu1
      have z2 := same_upd (o := .tup [.int 1, .int 1]) nu2
      have z3 := same_upd (o := .lst [.ref u1, .ref u2]) nu3
      exact h _ u3 u1 u2 1 1 (((sH1.trans s23).trans z1).trans (z2.trans z3)) (np ((s23.trans z1).trans z2) nu3) upd_same (z3 _ _ (z2 _ _ upd_same)) (z3 _ _ upd_same) (by decide) (by decide) ⟨by decide, by decide⟩ ⟨by decide, by decide⟩
    · refine ⟨.ref p1, rfl, p1, _, 0, .int d0, rfl, rfl, SqL.of e13, rfl, rfl, _, rfl, ite2 (fun _ => ?_) (fun _ => ?_)⟩
      · obtain ⟨j1, j2, j3, j4⟩ := two (1 + d5) (1 + d5 / 7) (by omega) (by omega) (by omega) (by omega)
        refine ⟨.ref p1, rfl, p1, _, 5, .int d5, rfl, rfl, SqL.of e13, rfl, _, _, rfl, rfl, .ref p1, rfl, p1, _, 5, .int d5, rfl, rfl, SqL.of e13, rfl, d5, 7, rfl, rfl, ⟨by decide, by decide⟩, _, _, rfl, rfl, 1 + d5, 1 + d5 / 7, rfl, j1, j2, fun H4 t4 s4 n4 et4 => ?_⟩
        refine ⟨_, rfl, (by show 2 ≤ sizeLine; decide), fun u3 nu3 => ?_⟩
        have z3 := same_upd (o := .lst [.ref t4, .ref t2]) nu3
        exact h _ u3 t4 t2 _ _ ((sH1.trans s23).trans (s4.trans z3)) (np (s23.trans s4) nu3) upd_same (z3 _ _ et4) (z3 _ _ (s4 _ _ et2)) j3 m3 j4 m4
      · refine ⟨_, rfl, _, rfl, (by show 2 ≤ sizeLine; decide), fun u3 nu3 => ?_⟩
        have z3 := same_upd (o := .lst [.ref t1, .ref t2]) nu3
        exact h _ u3 t1 t2 _ _ ((sH1.trans s23).trans z3) (np s23 nu3) upd_same (z3 _ _ et13) (z3 _ _ et2) k3 m3 k4 m4
theorem scLIs : FnScope ["_law_found", "_law_due"] ["_law_found", "_law_due"] (defScope sLIs) := ⟨rfl, rfl, rfl, by decide +kernel, rfl, by decide +kernel, by decide +kernel⟩
def spLIs (K : PySem.W.Frag) (C : Addr) : Sp := fun vs H Q _ => ∃ (a dt : Addr) (t b : Int), vs = [.ref a, .ref dt] ∧ PA C H a (Rat.divInt t b) ∧ H dt = some (.tup [.int t, .int b]) ∧ b ≠ 0 ∧ b.natAbs < 2 ^ 8000 ∧ ∀ H', Same H H' → Q (.bl true) H'
theorem eqv_two (i j : Int) : PyData.eqv (.tuple [.int i, .int j]) (.tuple [.int i, .int j]) = true := by
  simp [PyData.eqv, PyData.eqvAll]
theorem ok_is {f fl : Addr} {fd gl : FuncData} {k : Nat} (F : Fun K "_law_is" "_law_is" sLIs f fd) (Nl : Fn K mg "_law_low" sLow ["_law_top", "_law_bottom"] fl gl) (T : TxtP K mg C) : FnOk P w K mg base CX0 (k + 2) f fd ["_law_found", "_law_due"] (spLIs K C) := by
  have Gl : FnOk P w K mg base CX0 (k + 1) fl gl ["_law_top", "_law_bottom"] spLow := ok_low Nl.F T
  refine F.ok scLIs (fun vs H Q E h => ?_) (fun cdv A outer s H vs Q E hr h => ?_)
  · obtain ⟨a, dt, t, b, rfl, _⟩ := h
    rfl
  · obtain ⟨a, dt, t, b, rfl, ⟨dx, ha⟩, ht, hb, hz, q⟩ := h
    have hu := hu66 hr
    refine ⟨_, pss_cons (ps_if (PW.pt (pw_or (pt_not (pt_val (pe_callB (call_isC T.ins) (by rfl) T.isi (by decide +kernel) (pa_cons (pv 0) (pa_cons (pe_glob (v := .ref C) (by rfl) T.mgC rfl) pa_nil)))))
        (pw_or (pt_val (pe_callB call_isi (by rfl) T.isi (by decide +kernel) (pa_cons (pe_fld (pv 0) rfl) (pa_cons (pe_bltn (v := .ty "bool") (by rfl) T.bool (by decide +kernel) rfl) pa_nil))))
        (pw_or1 (pt_val (pe_callB call_isi (by rfl) T.isi (by decide +kernel) (pa_cons (pe_fld (pv 0) rfl) (pa_cons (pe_bltn (v := .ty "bool") (by rfl) T.bool (by decide +kernel) rfl) pa_nil)))))))) (pss_one (ps_ret pe_bl)) pss_nil)
      (pss_cons (ps_if (PW.pt (pw_or (pt_not (pt_val (pe_callB call_isi (by rfl) T.isi (by decide +kernel) (pa_cons (pe_fld (pv 0) rfl) (pa_cons (pe_bltn (v := .ty "int") (by rfl) T.int (by decide +kernel) rfl) pa_nil)))))
        (pw_or1 (pt_not (pt_val (pe_callB call_isi (by rfl) T.isi (by decide +kernel) (pa_cons (pe_fld (pv 0) rfl) (pa_cons (pe_bltn (v := .ty "int") (by rfl) T.int (by decide +kernel) rfl) pa_nil)))))))) (pss_one (ps_ret pe_bl)) pss_nil)
      (pss_one (ps_ret (pe_cmpR (op_eqD (Nat.lt_of_le_of_lt (Nat.add_le_add_left (by decide : 64 ≤ 66) _) hu)) (pe_tup (pa_cons (pe_fld (pv 0) rfl) (pa_cons (pe_fld (pv 0) rfl) pa_nil)))
        (pe_call Gl hr (by rfl) Nl.g Nl.F.kp Nl.b .nil pass0 (pa_cons (pe_ix ix_tup (pv 1) pe_int (fun _ _ => rfl)) (pa_cons (pe_ix ix_tup (pv 1) pe_int (fun _ _ => rfl)) pa_nil))) (nomark _))))), ?_⟩
    generalize hq : Rat.divInt t b = r at ha
    refine ⟨.ref a, rfl, a, dx, _, rfl, ha, true, rfl, iteF ?_⟩
    refine ⟨.ref a, rfl, a, C, dx, _, _, rfl, ha, T.ins.cl, T.nT, pf_top r, .int r.num, .ty "bool", .type "int", .type "bool", false, rfl, .ty _, .base (.int _), kit_ty (by decide +kernel), false, rfl, iteF ?_⟩
    refine ⟨.ref a, rfl, a, C, dx, _, _, rfl, ha, T.ins.cl, T.nB, pf_bottom r, .int (r.den : Int), .ty "bool", .type "int", .type "bool", false, rfl, .ty _, .base (.int _), kit_ty (by decide +kernel), false, rfl, iteF ?_⟩
    refine ⟨.ref a, rfl, a, C, dx, _, _, rfl, ha, T.ins.cl, T.nT, pf_top r, .int r.num, .ty "int", .type "int", .type "int", true, rfl, .ty _, .base (.int _), kit_ty (by decide +kernel), true, rfl, iteF ?_⟩
    refine ⟨.ref a, rfl, a, C, dx, _, _, rfl, ha, T.ins.cl, T.nB, pf_bottom r, .int (r.den : Int), .ty "int", .type "int", .type "int", true, rfl, .ty _, .base (.int _), kit_ty (by decide +kernel), true, rfl, iteF ?_⟩
    refine ⟨.ref a, rfl, a, C, dx, _, _, rfl, ha, T.ins.cl, T.nT, pf_top r, .ref a, rfl, a, C, dx, _, _, rfl, ha, T.ins.cl, T.nB, pf_bottom r, (by show 2 ≤ sizeLine; decide), fun p hp => ?_⟩
    have s1 : Same H (upd H p (.tup [.int r.num, .int (r.den : Int)])) := same_upd hp
    have ht1 : SqT K _ dt _ := SqT.of (s1 _ _ ht)
    refine ⟨.ref dt, rfl, dt, _, 0, .int t, rfl, rfl, ht1, rfl, .ref dt, rfl, dt, _, 1, .int b, rfl, rfl, ht1, rfl, t, b, rfl, hb, hz, fun H2 p2 s2 n2 e2 => ?_⟩
    rw [hq] at e2
    refine ⟨.tuple [.int r.num, .int (r.den : Int)], .tuple [.int r.num, .int (r.den : Int)], .tup (SqT.of (s2 _ _ upd_same)) (.cons (.int _) (.cons (.int _) .nil)), .tup (SqT.of e2) (.cons (.int _) (.cons (.int _) .nil)), rfl, rfl, ?_⟩
    rw [eqv_two]
    exact q _ (s1.trans s2)
/-- at pl the list of both paces, each a tuple -/
def Pl (H : Hp) (pl : Addr) (q r : Rat) : Prop := ∃ t1 t2, H pl = some (.lst [.ref t1, .ref t2]) ∧ H t1 = some (.tup (tq q)) ∧ H t2 = some (.tup (tq r))
def spLPace : Sp := fun vs H Q _ => ∃ (bs : List Bool) (k : Nat) (pl : Addr) (q r : Rat), vs = [.str (tx bs), wv k, .ref pl] ∧ Row bs ∧ Pl H pl q r ∧ ∀ H' p, Same H H' → H' p = some (.tup (tq (paceAt bs q r k))) → Q (.ref p) H'
theorem scLPace : FnScope ["_law_row_here", "_law_shut", "_law_paces_here"] ["_law_row_here", "_law_shut", "_law_paces_here"] (defScope sLPace) := ⟨rfl, rfl, rfl, by decide +kernel, rfl, by decide +kernel, by decide +kernel⟩
theorem ok_lpace {f : Addr} {fd : FuncData} {k : Nat} (F : Fun K "_law_pace" "_law_pace" sLPace f fd) (T : TxtP K mg C) : FnOk P w K mg base CX0 (k + 1) f fd ["_law_row_here", "_law_shut", "_law_paces_here"] spLPace := by
  refine F.ok scLPace (fun vs H Q E h => ?_) (fun cdv A outer s H vs Q E hr h => ?_)
  · obtain ⟨bs, j, pl, q, r, rfl, _⟩ := h
    rfl
  · obtain ⟨bs, j, pl, q, r, rfl, hR, ⟨t1, t2, e1, e2, e3⟩, h⟩ := h
    refine ⟨_, pss_cons (ps_if (pt_cmpR op_eq (pv 1) pe_int (nomark _)) (pss_one (ps_ret (pe_ix ix_list (pv 2) pe_int (fun _ _ => rfl)))) pss_nil)
      (pss_cons (ps_if (pt_cmpR op_eq (pv 1) (pe_callB call_len_str (by rfl) T.len PySem.boot_len (pa_cons (pv 0) pa_nil)) (nomark _)) (pss_one (ps_ret (pe_ix ix_list (pv 2) pe_int (fun _ _ => rfl)))) pss_nil)
      (pss_one (ps_ret (pe_tup (pa_cons pe_int (pa_cons pe_int pa_nil)))))), ?_⟩
    refine ⟨wv j, rfl, rfl, _, rfl, ite2 (fun e => ?_) (fun e => ?_)⟩
    · have e : j = 0 := by
        have := V.int.inj (of_decide_eq_true e)
        omega
      refine ⟨.ref pl, rfl, pl, _, 0, .ref t1, rfl, rfl, SqL.of e1, rfl, h H t1 (Same.refl _) ?_⟩
      unfold paceAt
      rw [if_pos e]
      exact e2
    · have e : ¬ j = 0 := fun z => e (decide_eq_true (by rw [z]; rfl))
      refine ⟨wv j, rfl, .str (tx bs), rfl, tx bs, rfl, row_size hR, rfl, _, rfl, ite2 (fun e4 => ?_) (fun e4 => ?_)⟩
      · have e4 : j = bs.length := by
          have := V.int.inj (of_decide_eq_true e4)
          rw [tx_len] at this
          omega
        refine ⟨.ref pl, rfl, pl, _, 1, .ref t2, rfl, rfl, SqL.of e1, rfl, h H t2 (Same.refl _) ?_⟩
        unfold paceAt
        rw [if_neg e, if_pos e4]
        exact e3
      · have e4 : ¬ j = bs.length := fun z => e4 (decide_eq_true (by rw [z, tx_len]; rfl))
        refine ⟨(by show 2 ≤ sizeLine; decide), fun p np => h _ p (same_upd np) ?_⟩
        unfold paceAt
        rw [if_neg e, if_neg e4]
        exact upd_same
end
end Hop
namespace Hop
section
open PySem L2 HopR
open C8 (InsC call_isC)
variable {P : Program} {w : World} {K : PySem.W.Frag} {mg : Str → Option Value} {base : Heap} {C d : Addr} {es : Array DictEntry} {n : Nat}
variable {fi f1 f2 r1 r2 p1 p2 p3 : Addr} {gi g1 g2 s1 s2 q1 q2 q3 : FuncData} {d1 : Value}
def Pcs (C : Addr) (H : Hp) (as : List Addr) (ys : List Rat) : Prop := as.length = ys.length ∧ ∀ (j : Nat) a y, as[j]? = some a → ys[j]? = some y → PC C H a y
theorem Pcs.mono {C : Addr} {H H' : Hp} {as : List Addr} {ys : List Rat} (h : Pcs C H as ys) (k : ∀ a y, PC C H a y → PC C H' a y) : Pcs C H' as ys := ⟨h.1, fun j a y e1 e2 => k _ _ (h.2 j a y e1 e2)⟩
end
end Hop
namespace Hop
section
open PySem L2 HopR
open C8 (InsC call_isC)
def wf (i o : Addr) (bs : List Bool) (l p : Addr) : List (Str × V) := [("inn", .ref i), ("out", .ref o), ("signs", .str (tx bs)), ("steps", .ref l), ("product", .ref p)]
def Tups (H : Hp) (ts : List Addr) (st : List (Nat × List Bool)) : Prop := ts.length = st.length ∧ ∀ (j : Nat) t kb, ts[j]? = some t → st[j]? = some kb → H t = some (.tup [wv kb.1, .str (tx kb.2)])
theorem Tups.mono {H H' : Hp} {ts : List Addr} {st : List (Nat × List Bool)} (h : Tups H ts st) (k : ∀ t xs, H t = some (.tup xs) → H' t = some (.tup xs)) : Tups H' ts st := ⟨h.1, fun j t kb a b => k _ _ (h.2 j t kb a b)⟩
/-- at v a Walk: its row bs, its paces q and r, its steps st (wall, row ahead), the list of them at l, its product y -/
def WI (C W : Addr) (H : Hp) (v l : Addr) (bs : List Bool) (st : List (Nat × List Bool)) (q r y : Rat) : Prop :=
  ∃ dx i o p ts, H v = some (.ins W dx (wf i o bs l p)) ∧ H l = some (.lst (ts.map V.ref)) ∧ Tups H ts st ∧ PC C H i q ∧ PC C H o r ∧ PA C H p y
theorem WI.same {C W : Addr} {H H' : Hp} {v l : Addr} {bs : List Bool} {st : List (Nat × List Bool)} {q r y : Rat} (s : Same H H') (h : WI C W H v l bs st q r y) : WI C W H' v l bs st q r y := by
  obtain ⟨dx, i, o, p, ts, e1, e2, e3, e4, e5, e6⟩ := h
  exact ⟨dx, i, o, p, ts, s _ _ e1, s _ _ e2, e3.mono fun t xs e => s _ _ e, e4.same s, e5.same s, e6.same s⟩
end
end Hop
namespace Hop
section
open PySem L2 HopR
open C8 (InsC call_isC)
variable {P : Program} {w : World} {K : PySem.W.Frag} {mg : Str → Option Value} {base : Heap} {C W d : Addr} {es : Array DictEntry} {n : Nat}
variable {HE NN NR NP NS NW NL fI : Addr} {gI : FuncData}
variable {fi f1 f2 r1 r2 r3 r4 r6 p1 p2 p3 p4 fp ft fo fz fc : Addr} {gi g1 g2 s1 s2 s3 s4 s6 q1 q2 q3 q4 gp gt go gz gc : FuncData} {d1 : Value}
/-- the refusals over ValueError -/
structure Ev (K : PySem.W.Frag) (mg : Str → Option Value) (HE NN NR NP : Addr) : Prop where
  ve : mg "ValueError" = none
  gHE : mg "HopError" = some (.ref HE)
  gNN : mg "NoNumber" = some (.ref NN)
  gNR : mg "NoRow" = some (.ref NR)
  gNP : mg "NoPace" = some (.ref NP)
  R : Xc K NR bmV "ValueError.__new__"
  O : Xc K NP bmV "ValueError.__new__"
  mR : PySem.W.exmOne K (.ref NR) (.ref HE) = some true
  mP : PySem.W.exmOne K (.ref NP) (.ref HE) = some true
  rN : PySem.W.kitOne K (.ref NR) (.ref NN) = some false
  pN : PySem.W.kitOne K (.ref NP) (.ref NN) = some false
  rP : PySem.W.kitOne K (.ref NR) (.ref NP) = some false
  pR : PySem.W.kitOne K (.ref NP) (.ref NR) = some false
def spIsRowB (K : PySem.W.Frag) : Sp := fun vs H Q _ => ∃ x b, vs = [x] ∧ RowB K H x b ∧ ∀ H', Same H H' → Q (.bl b) H'
theorem ok_isrowB {f : Addr} {fd : FuncData} {k : Nat} (F : Fun K "is_row" "is_row" sIsRow f fd) (T : TxtR K w mg d es n) (ke : keysAre es) : FnOk P w K mg base CX0 (k + 1) f fd ["thing"] (spIsRowB K) := by
  refine F.ok scIsRow (fun vs H Q E h => ?_) (fun cdv A outer s H vs Q E hr h => ?_)
  · obtain ⟨x, b, rfl, _⟩ := h
    rfl
  · obtain ⟨x, b, rfl, hb, q⟩ := h
    have nd := scIsRow.nd
    obtain ⟨tm, gm⟩ := T.most
    refine ⟨_, pss_cons (ps_if (PW.pt (pw_or (pt_not (pt_val (pe_callB call_isi (by rfl) T.isi (by decide +kernel) (pa_cons (pv 0) (pa_cons (pe_bltn (v := .ty "str") (by rfl) T.str (by decide +kernel) rfl) pa_nil)))))
          (pw_or (pt_cmpR op_lt (pe_callB call_len_str (by rfl) T.len PySem.boot_len (pa_cons (pv 0) pa_nil)) pe_int (nomark _))
          (pw_or1 (pt_cmpR op_gt (pe_callB call_len_str (by rfl) T.len PySem.boot_len (pa_cons (pv 0) pa_nil)) (pe_glob (v := .int 30) (by rfl) gm ⟨_, rfl⟩) (nomark _))))))
        (pss_one (ps_ret pe_bl)) pss_nil)
      (pss_one (ps_ret (pe_callB (cr_all rfl) (by rfl) T.all (by decide +kernel) (pa_cons
        (pe_lc (own := [("sign", 1)]) (g := gName 1) (tt := tYes) (te := tOp (rInKd K d) (tVar 1) (tC (.ref d))) rfl nd (pi_str (pv 0)) (blkOk_by (own := [("sign", 1)]) (N := ["thing", "sign"]) (sc := defScope sIsRow) (by decide +kernel))
          (fun _ _ _ _ _ => pg_name (i := 1) nd rfl (Or.inl rfl)) (fun _ _ _ _ _ => pts_nil)
          (fun _ _ _ _ _ => pe_cmpR (op_inKd T.D) (pv 1) (pe_glob (v := .ref d) (by rfl) T.os rfl) (by rfl)))
        pa_nil)))), ?_⟩
    rcases hb with ⟨⟨t, ty, kt⟩, rfl⟩ | ⟨z, rfl, hz, rfl⟩
    · exact ⟨x, rfl, x, .ty "str", t, .type "str", false, rfl, .ty _, ty, kt, false, rfl, q H (Same.refl _)⟩
    · refine ⟨.str z, rfl, .str z, .ty "str", .type "str", .type "str", true, rfl, .ty _, .base (.str _), kit_ty (by decide +kernel), true, rfl, iteF ?_⟩
      refine ⟨.str z, rfl, z, rfl, fit hz, _, _, rfl, rfl, _, rfl, ?_⟩
      by_cases h1 : z.length < 1
      · rw [decide_eq_true (show (z.length : Int) < 1 by omega)]
        have e : isRowB z = false := by
          unfold isRowB
          rw [decide_eq_false (by omega)]
          rfl
        rw [e] at q
        exact q H (Same.refl _)
      rw [decide_eq_false (show ¬ (z.length : Int) < 1 by omega)]
      refine iteF ⟨.str z, rfl, z, rfl, fit hz, _, _, rfl, rfl, _, rfl, ?_⟩
      by_cases h2 : 30 < z.length
      · rw [decide_eq_true (show (z.length : Int) > 30 by omega)]
        have e : isRowB z = false := by
          unfold isRowB
          rw [decide_eq_false (show ¬ z.length ≤ 30 by omega)]
          simp
        rw [e] at q
        exact q H (Same.refl _)
      rw [decide_eq_false (show ¬ (z.length : Int) > 30 by omega)]
      refine iteF ⟨.str z, rfl, z, rfl, fun D hD => ?_⟩
      refine lc_it walk_str (fun i H3 => Same H H3 ∧ H3 D = some (.lst (((z.cps.toList.take i).map okc).map V.bl))) ⟨same_upd hD, upd_same⟩ (fun _ _ _ _ => trivial) ?_ ?_
      · rintro i x H3 H' hi ⟨sm, eD⟩ ⟨rfl, c, hc, rfl⟩
        obtain ⟨r, e1, e2⟩ := sign_in T.D.at_ ke c
        refine ⟨rfl, .str ⟨#[c]⟩, rfl, ⟨#[c]⟩, r, rfl, rfl, e1, _, eD, ?_, same_new hD sm, ?_⟩
        · rw [List.length_map, List.length_map]
          refine fit' (Nat.le_trans (List.length_take_le _ _) ?_)
          have : i < z.length := hi
          omega
        · rw [upd_same, e2, List.take_add_one, Array.getElem?_toList, hc, List.map_append, List.map_append]
          rfl
      · rintro H3 ⟨sm, eD⟩
        refine ⟨D, (z.cps.toList.map okc), rfl, SqL.of ?_, ?_⟩
        · rw [eD, List.take_of_length_le (by rw [Array.length_toList]; exact Nat.le_refl _)]
        · have e : (z.cps.toList.map okc).all id = isRowB z := by
            unfold isRowB
            rw [decide_eq_true (show 1 ≤ z.length by omega), decide_eq_true (show z.length ≤ 30 by omega), List.all_map]
            rfl
          rw [e]
          exact q H3 sm
def spNoRow (K : PySem.W.Frag) (NR : Addr) : Sp := fun vs H _ E => ∃ x, vs = [x] ∧ RowB K H x false ∧ ∀ H', Same H H' → E (.ref NR) none H'
theorem ok_norow {f f1 : Addr} {fd fd1 : FuncData} {k : Nat} (F : Fun K "need_row" "need_row" sNeedRow f fd) (N1 : Fn K mg "is_row" sIsRow ["thing"] f1 fd1) (T : TxtR K w mg d es n) (ke : keysAre es) (Z : Ev K mg HE NN NR NP) :
    FnOk P w K mg base (L2.CX P w) (k + 2) f fd ["thing"] (spNoRow K NR) := by
  have G1 : FnOk P w K mg base CX0 (k + 1) f1 fd1 ["thing"] (spIsRowB K) := ok_isrowB N1.F T ke
  refine F.okX scNeed (fun vs H Q E h => ?_) (fun cdv A outer s H vs Q E hr h => ?_)
  · obtain ⟨x, rfl, _⟩ := h
    rfl
  · obtain ⟨x, rfl, hb, q⟩ := h
    refine ⟨_, pss_one (ps_if (pt_not (pt_val (pe_call G1 hr (by rfl) N1.g N1.F.kp N1.b .nil pass0 (pa_cons (pv 0) pa_nil))))
      (pss_one (ps_raise rfl (takes_of rfl rfl rfl rfl) (pmk_own PySem.F.excBase_ValueError Z.R.x Z.gNR Z.R.k (raises_own Z.R.be Z.R.ty) rfl))) pss_nil), ?_⟩
    exact ⟨x, rfl, x, false, rfl, hb, fun H1 s1 => ⟨false, rfl, q H1 s1⟩⟩
def NoPart (K : PySem.W.Frag) (C : Addr) (H : Hp) (x : V) : Prop := x ≠ .non ∧ ∃ t, TyX K H x t ∧ PySem.W.kitOne K t (.ref C) = some false
/-- what is no pace -/
def NoPc (K : PySem.W.Frag) (C : Addr) (H : Hp) (x : V) : Prop := NoPart K C H x ∨ ∃ a q, x = .ref a ∧ PA C H a q ∧ q.num < 1
theorem NoPc.same {H H' : Hp} {x : V} (s : Same H H') (h : NoPc K C H x) : NoPc K C H' x := by
  rcases h with ⟨n, t, ty, k⟩ | ⟨a, q, e, p, z⟩
  · exact .inl ⟨n, t, tyx_same s ty, k⟩
  · exact .inr ⟨a, q, e, p.same s, z⟩
def spNoPace (K : PySem.W.Frag) (C NP : Addr) : Sp := fun vs H _ E => ∃ x, vs = [x] ∧ NoPc K C H x ∧ ∀ H', Same H H' → E (.ref NP) none H'
theorem ok_nopace {f : Addr} {fd : FuncData} {k : Nat} (F : Fun K "pace_from" "pace_from" sPaceFrom f fd) (M : Mks K mg C fi f1 f2 gi g1 g2 d1) (T : TxtP K mg C) (Z : Ev K mg HE NN NR NP) : FnOk P w K mg base (L2.CX P w) (k + 4) f fd ["thing"] (spNoPace K C NP) := by
  refine F.okX scPaceFrom (fun vs H Q E h => ?_) (fun cdv A outer s H vs Q E hr h => ?_)
  · obtain ⟨x, rfl, _⟩ := h
    rfl
  · obtain ⟨x, rfl, hx, q⟩ := h
    rcases hx with ⟨hn, t, ty, kt⟩ | ⟨a, z, rfl, ⟨dx, ha⟩, hz⟩
    · refine ⟨_, pss_cons (ps_if (pt_cmpR op_isN (pv 0) pe_non (nomark _)) (pss_one ps_never) pss_nil)
        (pss_cons (ps_if (PW.pt (pw_or (pt_not (pt_val (pe_callB call_isi (by rfl) T.isi (by decide +kernel) (pa_cons (pv 0) (pa_cons (pe_glob (v := .ref C) (by rfl) T.mgC rfl) pa_nil))))) (pw_or1 (pt_cmpR op_lt (pe_fld (pv 0) rfl) pe_int (nomark _)))))
          (pss_one (ps_raise rfl (takes_of rfl rfl rfl rfl) (pmk_own PySem.F.excBase_ValueError Z.O.x Z.gNP Z.O.k (raises_own Z.O.be Z.O.ty) rfl))) pss_nil)
        (pss_one ps_never)), ?_⟩
      refine ⟨x, rfl, rfl, _, rfl, ?_⟩
      rw [decide_eq_false hn]
      exact iteF ⟨x, rfl, x, .ref C, t, .ref C, false, rfl, .own _, ty, kt, false, rfl, q H (Same.refl _)⟩
    · refine ⟨_, pss_cons (ps_if (pt_cmpR op_isN (pv 0) pe_non (nomark _)) (pss_one ps_never) pss_nil)
        (pss_cons (ps_if (PW.pt (pw_or (pt_not (pt_val (pe_callB (call_isC T.ins) (by rfl) T.isi (by decide +kernel) (pa_cons (pv 0) (pa_cons (pe_glob (v := .ref C) (by rfl) T.mgC rfl) pa_nil))))) (pw_or1 (pt_cmpR op_lt (pe_fld (pv 0) rfl) pe_int (nomark _)))))
          (pss_one (ps_raise rfl (takes_of rfl rfl rfl rfl) (pmk_own PySem.F.excBase_ValueError Z.O.x Z.gNP Z.O.k (raises_own Z.O.be Z.O.ty) rfl))) pss_nil)
        (pss_one ps_never)), ?_⟩
      refine ⟨.ref a, rfl, rfl, _, rfl, ?_⟩
      rw [decide_eq_false (fun z => nomatch z)]
      refine iteF ⟨.ref a, rfl, a, dx, _, rfl, ha, true, rfl, iteF ?_⟩
      refine ⟨.ref a, rfl, a, C, dx, _, _, rfl, ha, T.ins.cl, T.nT, pf_top z, _, _, rfl, rfl, _, rfl, ?_⟩
      rw [decide_eq_true (show z.num < 1 from hz)]
      exact q H (Same.refl _)
/-- the first pace is none, or the second -/
def spNoPaces (K : PySem.W.Frag) (C NP : Addr) : Sp := fun vs H _ E => ∃ x y, vs = [x, y] ∧ (NoPc K C H x ∨ (∃ q, Pw C H x q) ∧ NoPc K C H y) ∧ ∀ H', Same H H' → E (.ref NP) none H'
theorem ok_nopaces {f p1 : Addr} {fd q1 : FuncData} {k : Nat} (F : Fun K "paces_from" "paces_from" sPacesFrom f fd) (N1 : Fn K mg "pace_from" sPaceFrom ["thing"] p1 q1) (M : Mks K mg C fi f1 f2 gi g1 g2 d1) (T : TxtP K mg C) (Z : Ev K mg HE NN NR NP) : FnOk P w K mg base (L2.CX P w) (k + 5) f fd ["inn", "out"] (spNoPaces K C NP) := by
  have G1 : FnOk P w K mg base CX0 (k + 4) p1 q1 ["thing"] (spPaceFrom C) := ok_paceFrom N1.F M T
  have G2 : FnOk P w K mg base (L2.CX P w) (k + 4) p1 q1 ["thing"] (spNoPace K C NP) := ok_nopace N1.F M T Z
  refine F.okX scPacesFrom (fun vs H Q E h => ?_) (fun cdv A outer s H vs Q E hr h => ?_)
  · obtain ⟨x, y, rfl, _⟩ := h
    rfl
  · obtain ⟨x, y, rfl, hx, q⟩ := h
    have nd := scPacesFrom.nd
    rcases hx with hx | ⟨⟨z, hx⟩, hy⟩
    · refine ⟨_, pss_cons (ps_set (i := 2) nd rfl (.inl rfl) (pe_call G2 hr (by rfl) N1.g N1.F.kp N1.b .nil (passes_call (E := E) (takes_of rfl rfl rfl rfl) (fun _ _ _ _ h => h)) (pa_cons (pv 0) pa_nil))) (pss_one ps_never), ?_⟩
      exact ⟨x, rfl, x, rfl, hx, q⟩
    · refine ⟨_, pss_cons (ps_set (i := 2) nd rfl (.inl rfl) (pe_call G1 hr (by rfl) N1.g N1.F.kp N1.b .nil pass0 (pa_cons (pv 0) pa_nil)))
        (pss_one (ps_ret (pe_tup (pa_cons (pv 2) (pa_cons (pe_call G2 hr (by rfl) N1.g N1.F.kp N1.b .nil (passes_call (E := E) (takes_of rfl rfl rfl rfl) (fun _ _ _ _ h => h)) (pa_cons (pv 1) pa_nil)) pa_nil))))), ?_⟩
      exact ⟨x, rfl, x, z, rfl, hx, fun H1 a s1 p1 => ⟨.ref a, rfl, y, rfl, y, rfl, hy.same s1, fun H2 s2 => q H2 (s1.trans s2)⟩⟩
end
end Hop

set_option Elab.async false
set_option linter.all false
set_option maxRecDepth 100000
/-! a list comprehension whose element may raise (a call that lets an exception out) -/
namespace HopR
open PySem PySem.Spec PyProof.Rows L2
/-! ### a heap without one object -/
theorem without (h : Heap) (C : Addr) : ∃ G : Heap, (∀ b, b ≠ C → G.get? b = h.get? b) ∧ G.get? C = none := by
  obtain ⟨G, h1, h2⟩ := restrict h (fun b => decide (b ≠ C))
  exact ⟨G, fun b e => h1 b (by simpa using e), h2 C (by simp)⟩
theorem funFrames_move {base base' h h' : Heap} : ∀ {l : List Env}, h.FunFrames base l → (∀ L ∈ frs l, base'.get? L = none ∧ h'.get? L = h.get? L) → h'.FunFrames base' l
  | [], x, _ => x
  | e :: l, x, k => by
    unfold Heap.FunFrames at x ⊢
    obtain ⟨h1, ⟨L, o, h2, h3, h4, h5⟩, h6⟩ := x
    have hm : L ∈ frs (e :: l) := by
      unfold frs
      rw [List.filterMap_cons, h2]
      exact .head _
    refine ⟨h1, ⟨L, o, h2, (k L hm).1, by rw [(k L hm).2]; exact h4, h5⟩, funFrames_move h6 fun L' m => k L' ?_⟩
    unfold frs at m ⊢
    rw [List.filterMap_cons, h2]
    exact .tail _ m
theorem traced_move {base base' h h' : Heap} {a : Addr} {Z : Obj → Prop} {fl : Value} {C : Addr} (t : HandSPX.TracedZ h base a Z fl) (hb : ∀ b, base.get? b = none → base'.get? b = none) (k : ∀ b, b ≠ C → h'.get? b = h.get? b) (hC : ∀ o vs, h.get? C = some o → o.data ≠ .fields vs) : HandSPX.TracedZ h' base' a Z fl := by
  obtain ⟨oe, vs, T, oT, ts, h1, h2, h3, h4, h5, h6, h7, h8, h9⟩ := t
  exact ⟨oe, vs, T, oT, ts, by rw [k a fun e => hC oe vs (e ▸ h1) h3]; exact h1, h2, h3, h4, hb T h5, h6, by rw [k T fun e => hC oT ts (e ▸ h7) h8]; exact h7, h8, h9⟩
theorem hok_move {P : Program} {w : World} {H : Hp} {h h' : Heap} {C : Addr} (x : HOk P w H h) (k : ∀ b, b ≠ C → h'.get? b = h.get? b) (hC : H C = none) : HOk P w H h' := fun a o e => by
  have hne : ∀ b, (b = a ∨ H b = some (.own a)) → b ≠ C := fun b z q => by
    subst q
    obtain z | z := z
    · subst z; rw [hC] at e; cases e
    · rw [hC] at z; cases z
  exact (x a o e).stay (fun b u z q => by rw [k b (hne b z)]; exact q) (fun _ z => z) (fun _ _ z => z)
/-- the air of a block: what a call in it let out -/
def Blown (Y : Cx) (E : XK) (e : Value) (s' : Shared) : Prop := ∃ (pins : List (Addr × Obj)) (σ : L2.St) (H : Hp) (s : Shared), L2.Inv Y pins σ H s ∧ CX Y.prog Y.w Y.stack H s E e s'
abbrev blkE (X : Cx) (s : Shared) (H : Hp) (scope : Scope) (cenv : Env) (fp : List Addr) (E : XK) : Cx := (X.blk s H scope cenv fp).wish (Blown (X.blk s H scope cenv fp) E)
theorem unwish {X : Cx} {Ex : Value → Shared → Prop} {pins : List (Addr × Obj)} {σ : L2.St} {H : Hp} {s : Shared} (I : L2.Inv (X.wish Ex) pins σ H s) : L2.Inv X pins σ H s := I.wish X.xe
theorem passes_blk {X : Cx} {s : Shared} {H : Hp} {scope : Scope} {cenv : Env} {fp : List Addr} {E : XK} : ∀ (pins : List (Addr × Obj)) (σ : L2.St) (H' : Hp) (s1 : Shared) (e : Value) (s' : Shared), L2.Inv (blkE X s H scope cenv fp E) pins σ H' s1 → CX X.prog X.w X.stack H' s1 E e s' → (blkE X s H scope cenv fp E).xe e s' :=
  fun pins σ H' s1 e s' I c => ⟨pins, σ, H', s1, unwish I, c⟩
section
variable {X : Cx} {pins : List (Addr × Obj)} {σ : L2.St} {H : Hp} {s : Shared} {E : XK} {W : WX} {cenv : Env} {scope : Scope} {fp : List Addr}
/-- an exception leaves the block -/
theorem blown_out (hs : X.stack = X.env :: X.outer) (hf : X.env.frame = some X.env.locals) (tk : Takes X W) (hW : ∀ cls d H', E cls d H' → W cls d σ H') (I : L2.Inv X pins σ H s)
    (hl : s.heap.objs.size = cenv.locals) (hfr : cenv.frame = X.env.frame) (hfp : ∀ b ∈ fp, FpOk X pins H b) {u : Value} {s4 : Shared} (x : Blown (X.blk s H scope cenv fp) E u s4) :
    notedBy (model X.prog X.w) X.A cenv (CompFails (model X.prog X.w) X.A X.xe cenv) u s4 := by
  obtain ⟨pins', σ', H1, s1, I1, a, B, H', cls, d, rfl, ⟨hst, hBa, hFF, hT⟩, hok, ub, na, hos, ag, hE⟩ := x
  have hC3 : s.heap.get? cenv.locals = none := by
    rw [← hl]
    exact Heap.get?_none_of_le (Nat.le_refl _)
  have hCf : cenv.locals ∉ frs X.stack := fun m => by
    rw [hs] at m
    unfold frs at m
    rw [List.filterMap_cons, hf] at m
    obtain m | m := List.mem_cons.mp m
    · exact absurd I.lt (by rw [← m, ← hl]; exact Nat.lt_irrefl _)
    · exact I.nofs (by rw [hl]; exact Nat.le_refl _) m
  obtain ⟨mC, nsC, _⟩ := I1.loc
  have nsC : s1.heap.Ns cenv.locals mC := nsC
  obtain ⟨oC, esC, epC, gC, dC, kC, fC⟩ := nsC
  have H1C : H1 cenv.locals = none := I1.free
  have gB : B.get? cenv.locals = some oC := ub.keep _ _ gC H1C hCf
  have g4 : s4.heap.get? cenv.locals = some oC := hst _ _ gB
  have H'C : H' cenv.locals = none := ub.free _ _ gC H1C
  obtain ⟨G1, k1, n1⟩ := without s1.heap cenv.locals
  obtain ⟨G4, k4, n4⟩ := without s4.heap cenv.locals
  obtain ⟨BC, kB, nB⟩ := without B cenv.locals
  have hdC : ∀ o vs, s4.heap.get? cenv.locals = some o → o.data ≠ .fields vs := fun o vs q z => by
    rw [g4] at q
    cases q
    rw [dC] at z
    cases z
  have subB : ∀ b, B.get? b = none → BC.get? b = none := fun b q => by
    by_cases e : b = cenv.locals
    · rw [e]; exact nB
    · rw [kB b e]; exact q
  have J1 : L2.Inv X pins σ H1 { s1 with heap := G1 } := by
    have b1 : Un (frs X.stack) fp H H1 s.heap s1.heap := I1.base
    have off : ∀ {b o}, s.heap.get? b = some o → b ≠ cenv.locals := fun q e => by rw [e, hC3] at q; cases q
    refine I.call' (s' := { s1 with heap := G1 }) I1.os ⟨fun b o q h1 h2 h3 => by rw [k1 b (off q)]; exact b1.keep b o q h1 h2 h3, fun b o q h1 h2 h3 => by rw [k1 b (off q)]; exact b1.slot b o q h1 h2 h3, b1.free, fun b o q h1 => by rw [k1 b (off q)]; exact b1.there b o q h1, b1.tups, b1.frzs, b1.tbls⟩ (hok_move I1.hok k1 H1C) I1.bare (fun b hb => ?_)
    obtain ⟨f1, f2, f3, f4, f5, f6⟩ := hfp b hb
    exact ⟨f4, f2, fun x c q => f5 x c q, f6⟩
  have hFr : ∀ L ∈ frs X.stack, L ≠ cenv.locals := fun L m e => hCf (e ▸ m)
  have c1 : CX X.prog X.w X.stack H1 { s1 with heap := G1 } E (.ref a) { s4 with heap := G4 } := by
    refine ⟨a, BC, H', cls, d, rfl, ⟨fun b o q => ?_, subB a hBa, funFrames_move hFF fun L m => ⟨subB L (hFF.mem m).1, k4 L (hFr L m)⟩, traced_move hT subB k4 hdC⟩, hok_move hok kB H'C, ⟨fun b o q h1 h2 => ?_, fun b o q h1 => ?_, fun b o q h1 => ?_, fun b o q h1 => ?_, ub.tups, ub.frzs, ub.tbls⟩, na, hos, ag, hE⟩
    · have e : b ≠ cenv.locals := fun e => by rw [e, nB] at q; cases q
      rw [k4 b e]
      rw [kB b e] at q
      exact hst b o q
    · have e : b ≠ cenv.locals := fun e => by rw [e] at q; exact absurd (q.symm.trans n1) (fun z => nomatch z)
      rw [kB b e]
      exact ub.keep b o (by rw [← k1 b e]; exact q) h1 h2
    · have e : b ≠ cenv.locals := fun e => by rw [e] at q; exact absurd (q.symm.trans n1) (fun z => nomatch z)
      show ∃ sl, G4.get? b = _
      rw [k4 b e]
      exact ub.slot b o (by rw [← k1 b e]; exact q) h1
    · have e : b ≠ cenv.locals := fun e => by rw [e] at q; exact absurd (q.symm.trans n1) (fun z => nomatch z)
      exact ub.free b o (by rw [← k1 b e]; exact q) h1
    · have e : b ≠ cenv.locals := fun e => by rw [e] at q; exact absurd (q.symm.trans n1) (fun z => nomatch z)
      rw [kB b e]
      exact ub.there b o (by rw [← k1 b e]; exact q) h1
  obtain ⟨a2, B2, sI, pins2, σ2, H2, cls2, d2, ea, I2, nb2, up2, sky2, na2, os2, ag2, w2⟩ := XE.of_call J1 hW c1
  cases ea
  have ag2 : AllBare s4.gens := ag2
  have os2 : s4.os = sI.os := os2
  have fly2 : HandSPX.FlyingZ B2 X.stack a (Zc cls2 d2) s4.heap ∧ B2.get? cenv.locals = none := by
    have nC : ∀ o vs, G4.get? cenv.locals = some o → o.data ≠ .fields vs := fun o vs q => by rw [n4] at q; cases q
    have b2 : ∀ {B3 : Heap}, B3.StaysIn G4 → B3.get? cenv.locals = none := fun {B3} q => by
      cases e : B3.get? cenv.locals with
      | none => rfl
      | some o => exact absurd ((q _ _ e).symm.trans n4) (fun z => nomatch z)
    have st : ∀ {B3 : Heap}, B3.StaysIn G4 → B3.StaysIn s4.heap := fun {B3} q b o e => by
      have e' : b ≠ cenv.locals := fun z => by rw [z, b2 q] at e; cases e
      rw [← k4 b e']
      exact q b o e
    have T4 := traced_move (base' := B) (h' := G4) hT (fun _ z => z) k4 hdC
    obtain ⟨oe, vs, T, oT, ts, h1, h2, h3, h4, h5, h6, h7, h8, h9⟩ := T4
    obtain ⟨x1, x2, x3, oe', vs', y1, y2, y3, y4⟩ | ⟨x1, x2, x3, x4⟩ | ⟨x1, x2, x3, oe', vs', T', oT', ts', y1, y2, y3, y4, y5, y6, y7, y8, y9⟩ := sky2
    · have y1 : G4.get? a = some oe' := y1
      rw [h1] at y1
      cases y1
      rw [h3] at y3
      cases y3
      rw [h4] at y4
      cases y4
    · exact ⟨⟨st x1, x2, funFrames_move x3 fun L m => ⟨(x3.mem m).1, (k4 L (hFr L m)).symm⟩, traced_move x4 (fun _ z => z) (fun b e => (k4 b e).symm) nC⟩, b2 x1⟩
    · have y1 : G4.get? a = some oe' := y1
      rw [h1] at y1
      cases y1
      rw [h3] at y3
      cases y3
      rw [h4] at y4
      cases y4
      have y7 : G4.get? T = some oT' := y7
      rw [h7] at y7
      cases y7
      rw [h8] at y8
      cases y8
      rw [h9] at y9
      cases y9
  obtain ⟨fl2, nB2⟩ := fly2
  have up4 : sI.heap.UpToSlots s4.heap := fun b o q nf => by
    obtain ⟨sl, z⟩ := up2 b o q nf
    have e : b ≠ cenv.locals := fun e => by
      have z : G4.get? b = _ := z
      rw [e, n4] at z
      cases z
    exact ⟨sl, by rw [← k4 b e]; exact z⟩
  have nI : sI.heap.get? cenv.locals = none := by
    cases e : sI.heap.get? cenv.locals with
    | none => rfl
    | some o => exact absurd ((nb2 _ _ e hCf).symm.trans nB2) (fun z => nomatch z)
  show wpAny (model X.prog X.w) X.A (noteFrame (.ref a) cenv) _ _ s4
  rw [noteFrame_env (.ref a) hfr]
  refine HandSPX.looks_onZ Zc.steady (I.ok.frames.trans (by rw [hs])) hf (by rw [← hs]; exact fl2) fun h5 hd5 up5 => ?_
  refine ⟨mC, Heap.Ns.upToSlots ⟨oC, esC, epC, g4, dC, kC, fC⟩ up5, fun h6 m6 ns6 sb6 => ?_⟩
  have hd6 : HandSPX.HeldZ B2 (X.env :: X.outer) a (Zc cls2 d2) X.env.locals h6 := by
    obtain ⟨x1, x2, x3, x4⟩ := hd5
    obtain ⟨sl, g5⟩ := up5 _ oC g4 (fun vs z => by rw [dC] at z; cases z)
    have off : ∀ L ∈ frs (X.env :: X.outer), L ≠ cenv.locals := fun L m => hFr L (by rw [hs]; exact m)
    exact ⟨fun b o q => by rw [sb6.2 b fun e => by rw [e, nB2] at q; cases q]; exact x1 b o q, x2, funFrames_move x3 fun L m => ⟨(x3.mem m).1, sb6.2 L (off L m)⟩,
      traced_move x4 (fun _ z => z) sb6.2 (fun o vs q z => by rw [g5] at q; cases q; rw [show (_ : Data) = _ from dC] at z; cases z)⟩
  have hfc : cenv.frame = some X.env.locals := hfr.trans hf
  obtain ⟨x1, x2, x3, oe, vs, T, oT, ts, y1, y2, y3, y4, y5, y6, y7, y8, y9⟩ := hd6
  have hd6 : HandSPX.HeldZ B2 (X.env :: X.outer) a (Zc cls2 d2) X.env.locals h6 := ⟨x1, x2, x3, oe, vs, T, oT, ts, y1, y2, y3, y4, y5, y6, y7, y8, y9⟩
  unfold PySem.passOn
  refine wpAny_bind (wpAny_field y1 y3 y4 ?_)
  rw [if_neg (show ¬(Value.ref T == Value.none) = true from fun z => by cases z), hfc]
  have hd6' : HandSPX.HeldZ B2 X.stack a (Zc cls2 d2) X.env.locals h6 := by rw [hs]; exact hd6
  show wpAny _ _ (setFlight (Value.ref a) (some X.env.locals) >>= fun _ => throw (Value.ref a)) _ _ _
  refine wpAny_bind ?_
  refine HandSPX.setFlight_onZ (s := { s4 with heap := h6 }) hd6' ?_
  intro h7 hd7 up7
  refine wpAny_throw (tk (.ref a) { s4 with heap := h7 } ⟨a, B2, sI, pins2, σ2, H2, cls2, d2, rfl, I2, nb2, fun b o q nf => ?_, .inr (.inr hd7), na2, os2, ag2, w2⟩)
  obtain ⟨sl, q4⟩ := up4 b o q nf
  obtain ⟨sl5, q5⟩ := up5 b _ q4 nf
  have e : b ≠ cenv.locals := fun e => by rw [e, nI] at q; cases q
  have q6 : h6.get? b = _ := (sb6.2 b e).trans q5
  obtain ⟨sl7, q7⟩ := up7 b _ q6 nf
  exact ⟨sl7, q7⟩
/-- behind a block, its names let go -/
theorem back_out (hs : X.stack = X.env :: X.outer) (I : L2.Inv X pins σ H s) (hl : s.heap.objs.size = cenv.locals) (hfp : ∀ b ∈ fp, FpOk X pins H b) {pins' : List (Addr × Obj)} {σ' : L2.St} {H1 : Hp} {s1 : Shared} {h' : Heap} (I1 : L2.Inv (X.blk s H scope cenv fp) pins' σ' H1 s1)
    (k1 : ∀ b, b ≠ cenv.locals → h'.get? b = s1.heap.get? b) : L2.Inv X pins σ H1 { s1 with heap := h' } := by
  have hC3 : s.heap.get? cenv.locals = none := by
    rw [← hl]
    exact Heap.get?_none_of_le (Nat.le_refl _)
  have H1C : H1 cenv.locals = none := I1.free
  have b1 : Un (frs X.stack) fp H H1 s.heap s1.heap := I1.base
  have off : ∀ {b o}, s.heap.get? b = some o → b ≠ cenv.locals := fun q e => by rw [e, hC3] at q; cases q
  refine I.call' (s' := { s1 with heap := h' }) I1.os ⟨fun b o q h1 h2 h3 => by rw [k1 b (off q)]; exact b1.keep b o q h1 h2 h3, fun b o q h1 h2 h3 => by rw [k1 b (off q)]; exact b1.slot b o q h1 h2 h3, b1.free, fun b o q h1 => by rw [k1 b (off q)]; exact b1.there b o q h1, b1.tups, b1.frzs, b1.tbls⟩ (hok_move I1.hok k1 H1C) I1.bare (fun b hb => ?_)
  obtain ⟨f1, f2, f3, f4, f5, f6⟩ := hfp b hb
  exact ⟨f4, f2, fun x c q => f5 x c q, f6⟩
theorem wiped (I : L2.Inv X pins σ H s) (vs : List Nat) : L2.Inv X pins (wipe σ vs) H s := by
  obtain ⟨m, ns, z⟩ := I.loc
  exact ⟨I.ok, I.os, I.bare, I.base, ⟨m, ns, fun i x v q1 q2 q3 => z i x v q1 (wipe_some q2).1 q3⟩, I.cell, I.free, I.freeC, I.pin, I.hok, by rw [wipe_length]; exact I.len⟩
end
/-! ### the rule -/
theorem pe_lcX {X : Cx} {E : XK} {W : WX} {elt tg iter : Expr} {ifs : List Expr} {scope : Scope} {own : List (Str × Nat)} {pos : Pos} {wi : TI} {g : TG} {tt : TT} {te : TE} (hc : X.calm = true) (hN : X.N.Nodup)
    (hs : X.stack = X.env :: X.outer) (hf : X.env.frame = some X.env.locals) (tk : Takes X W) (hW : ∀ cls d σ H', E cls d H' → W cls d σ H')
    (hi : PI X tg iter wi) (ok : BlkOk X.N X.env.scope scope own)
    (hg : ∀ (s : Shared) (H : Hp) (C : Addr) (cl : List (Str × Addr)) (fp : List Addr), PG (X.blk s H scope (compEnvC scope cl C X.env) fp) tg g)
    (ht : ∀ (s : Shared) (H : Hp) (C : Addr) (cl : List (Str × Addr)) (fp : List Addr), PTs (X.blk s H scope (compEnvC scope cl C X.env) fp) ifs tt)
    (he : ∀ (s : Shared) (H : Hp) (C : Addr) (cl : List (Str × Addr)) (fp : List Addr), PE (blkE X s H scope (compEnvC scope cl C X.env) fp E) elt te)
    (hfold : ∀ x, foldedSetIterable iter X.env x = pure x := by intro x; rfl) :
    PE X (.ListComp elt [⟨tg, iter, ifs, 0⟩] scope pos) (tLc wi g tt te (own.map (·.2))) := by
  refine ⟨fun pins s σ H Q I h => ?_⟩
  refine comprehension_at (g := ⟨tg, iter, ifs, 0⟩) (gs := []) (use := none) (newAcc := newList []) (first := eval iter X.env) (e := .ListComp elt [⟨tg, iter, ifs, 0⟩] scope pos) rfl hfold (closure_ok fun y hy hk => I.ok.has y.1 (ok.free y hy hk)) ok.kind (fun x hx hl => (ok.uniq x hx).trans (congrArg some hl)) ?_
  refine thn (hi.run pins s σ H _ I h) fun v s1 h1 => thn h1 fun itv s2 ⟨it, fp, tn, J, H2, eit, I2, T, t0, hfp, hR⟩ => ?_
  subst eit
  have hD : s2.heap.get? s2.heap.objs.size = none := Heap.get?_none_of_le (Nat.le_refl _)
  refine wpAny_newList ?_ (by decide)
  have kp : ∀ b u, s2.heap.get? b = some u → (s2.heap.push { cls := .type "list", data := .seq ([] : List Value).toArray }).get? b = some u := fun b u e => Heap.get?_push_of_some _ e
  have I3 : L2.Inv X pins σ (upd H2 s2.heap.objs.size (.lst [])) { s2 with heap := s2.heap.push { cls := .type "list", data := .seq ([] : List Value).toArray } } :=
    I2.laid (t' := s2.toks) kp (Nat.le_refl _) ⟨by decide, [], 0, .nil, Heap.get?_push_size _ rfl⟩
  have hfb : ∀ b ∈ fp, b < s2.heap.objs.size := fun b hb => by
    obtain ⟨o, q, _⟩ := T.obj 0 _ t0 b hb
    exact Heap.lt_size q
  have t3 := T.keep 0 _ (s2.heap.push { cls := .type "list", data := .seq ([] : List Value).toArray }) t0 fun b hb o e => kp b o e
  obtain ⟨Wv, ⟨m0, w0⟩, hturn⟩ := hR s2.heap.objs.size (I2.hok.fresh (Nat.le_refl _))
  have hfp3 : ∀ b ∈ fp, FpOk X pins (upd H2 s2.heap.objs.size (.lst [])) b := fun b hb => ⟨by rw [upd_ne (Nat.ne_of_lt (hfb b hb))]; exact (hfp b hb).1, (hfp b hb).2⟩
  have hD3 : upd H2 s2.heap.objs.size (.lst []) s2.heap.objs.size = some (.lst []) := upd_same
  have hsz : s2.heap.objs.size < (s2.heap.push { cls := .type "list", data := .seq ([] : List Value).toArray }).objs.size := Heap.lt_size (Heap.get?_push_size _ rfl)
  generalize hD0 : s2.heap.objs.size = D at *
  generalize hs3 : ({ s2 with heap := s2.heap.push { cls := .type "list", data := .seq ([] : List Value).toArray } } : Shared) = s3 at *
  have eh3 : s3.heap = s2.heap.push { cls := .type "list", data := .seq ([] : List Value).toArray } := by rw [← hs3]
  rw [← eh3] at t3 hsz
  generalize hH3 : upd H2 D (.lst []) = H3 at *
  have hf3 : ∀ b ∈ fp, FpOk X pins H3 b ∧ b < s3.heap.objs.size := fun b hb => ⟨hfp3 b hb, Nat.lt_trans (hfb b hb) hsz⟩
  refine newEnv_comp ?_
  have B0 := block_start (own := own) I3 ok hN hf3
  generalize hs4 : ({ heap := pushCells (s3.heap.push { cls := .type "dict", data := .dict #[] }) scope.names, gens := s3.gens, drawn := s3.drawn, toks := s3.toks, os := s3.os } : Shared) = s4 at *
  show codeAny (model X.prog X.w) X.A (.compStart (.ListComp elt [⟨tg, iter, ifs, 0⟩] scope pos) 0 (.ref it) (.ref D) (compEnvC scope (cellsFrom (s3.heap.objs.size + 1) scope.names (cloFrom X.env.cells scope.names [])) s3.heap.objs.size X.env))
    (compEnds (model X.prog X.w) X.A X.xe none (EP X pins σ Q) (.ref D) (compEnvC scope (cellsFrom (s3.heap.objs.size + 1) scope.names (cloFrom X.env.cells scope.names [])) s3.heap.objs.size X.env)) s4
  generalize hcl : cellsFrom (s3.heap.objs.size + 1) scope.names (cloFrom X.env.cells scope.names []) = cl at *
  have t4 : tn 0 s4.heap := T.keep 0 _ _ t3 fun b hb o e => by
    rw [← hs4]
    exact pushCells_keeps _ _ _ _ (Heap.get?_push_of_some _ e)
  have f4 : ∀ b ∈ fp, FpOk (X.blk s3 H3 scope (compEnvC scope cl s3.heap.objs.size X.env) fp) [] H3 b := fun b hb => ⟨(hf3 b hb).1.1, (B0.ok.exf b hb).1, B0.ok.exfs b hb, .inl hb, (B0.ok.exf b hb).2, fun p hp => nomatch hp⟩
  have loop : ∀ n s, (∃ i H', L2.Inv (X.blk s3 H3 scope (compEnvC scope cl s3.heap.objs.size X.env) fp) [] (wipe σ (own.map (·.2))) H' s ∧ tn i s.heap ∧ (∀ b ∈ fp, FpOk (X.blk s3 H3 scope (compEnvC scope cl s3.heap.objs.size X.env) fp) [] H' b) ∧ Wv i n H') →
      codeAny (model X.prog X.w) X.A (.compLoop (.ListComp elt [⟨tg, iter, ifs, 0⟩] scope pos) 0 (.ref it) (.ref D) (compEnvC scope cl s3.heap.objs.size X.env)) (compEnds (model X.prog X.w) X.A X.xe none (EP X pins σ Q) (.ref D) (compEnvC scope cl s3.heap.objs.size X.env)) s := by
    have hgY := hg s3 H3 s3.heap.objs.size cl fp
    have htY := ht s3 H3 s3.heap.objs.size cl fp
    have heY := he s3 H3 s3.heap.objs.size cl fp
    generalize hce : compEnvC scope cl s3.heap.objs.size X.env = ce at *
    have hl : s3.heap.objs.size = ce.locals := by rw [← hce]; rfl
    have hfr : ce.frame = X.env.frame := by rw [← hce]; rfl
    refine fun n s hh => compLoop_any (fun n s => ∃ i H', L2.Inv (X.blk s3 H3 scope ce fp) [] (wipe σ (own.map (·.2))) H' s ∧ tn i s.heap ∧ (∀ b ∈ fp, FpOk (X.blk s3 H3 scope ce fp) [] H' b) ∧ Wv i n H') ?_ n hh
    clear hh
    rintro n s ⟨i, H', Ib, tb, fb, wb⟩
    obtain ⟨hst, hq⟩ | ⟨hgo, Nx, hnx, hy⟩ := hturn i n H' wb
    · refine wpAny_mono (T.done (X.blk s3 H3 scope ce fp) rfl rfl rfl hc i [] s _ H' _ Ib fb tb hst) (fun r s1 ⟨hr, I1⟩ => ?_) fun _ _ x => x
      subst hr
      obtain ⟨mC, nsC, _⟩ := I1.loc
      exact ⟨mC, nsC, fun h' sb => ⟨.ref D, H', back_out hs I3 hl hfp3 I1 (fun b e => sb.2 b e), rfl, hq⟩⟩
    · refine wpAny_mono (T.item (X.blk s3 H3 scope ce fp) rfl rfl rfl hc i [] s _ H' _ Ib fb tb hgo) (fun r s1 ⟨u, hr, h2⟩ => ?_) fun _ _ x => x
      subst hr
      refine wpAny_mono h2 (fun _ s2 ⟨x, H2', I2', hx, hyl, tb2, nb2⟩ => ?_) fun _ _ x => x
      have fin : ∀ {σ' : L2.St} {H6 : Hp} {s6 : Shared}, L2.Inv (X.blk s3 H3 scope ce fp) ([] ++ pinsAt fp s2.heap) σ' H6 s6 → wipe σ' (own.map (·.2)) = wipe σ (own.map (·.2)) → Nx H6 →
          ∃ m, m < n ∧ ∃ i H', L2.Inv (X.blk s3 H3 scope ce fp) [] (wipe σ (own.map (·.2))) H' s6 ∧ tn i s6.heap ∧ (∀ b ∈ fp, FpOk (X.blk s3 H3 scope ce fp) [] H' b) ∧ Wv i m H' := fun {σ' H6 s6} I6 hw hx => by
        obtain ⟨m', hm, hw'⟩ := hnx _ hx
        have pk : ∀ b ∈ fp, ∀ o, s2.heap.get? b = some o → s6.heap.get? b = some o ∧ H6 b = none := fun b hb o e =>
          have z := I6.pin (b, o) (List.mem_append_right _ (List.mem_append_right _ (mem_pinsAt hb e)))
          ⟨z.1, z.2.1⟩
        refine ⟨m', hm, i + 1, H6, by rw [← hw]; exact wiped I6.unpinned _, T.keep _ _ _ tb2 (fun b hb o e => (pk b hb o e).1), fun b hb => ⟨?_, (fb b hb).2⟩, hw'⟩
        obtain ⟨o, e, _⟩ := T.obj _ _ tb2 b hb
        exact (pk b hb o e).2
      have I2p := I2'.pinned (fun b hb => ⟨nb2 b hb, (fb b hb).2⟩) (T.obj _ _ tb2)
      refine wpAny_mono (hgY.run _ s2 _ H2' x u _ I2p hx (hy x H2' hyl)) (fun _ s3' ⟨σ3, H3', I3', hw, ht'⟩ => ?_) (fun _ _ z => z.elim)
      refine wpAny_mono (htY.run _ s3' σ3 H3' _ I3' ht') (fun b s4' ⟨H4, I4, hb⟩ => ?_) (fun _ _ z => z.elim)
      cases b
      · exact fin I4 hw hb
      · refine wpAny_mono (heY.run _ s4' σ3 H4 _ (I4.wish _) hb) (fun y s5 ⟨v, H5, I5, hv, acc, hD5, hz, hN5⟩ => ?_) (fun e s' xx => blown_out hs hf tk (fun cls d H' q => hW cls d σ H' q) I3 hl hfr hfp3 xx)
        exact app_ok (X := X.blk s3 H3 scope ce fp) (unwish (X := X.blk s3 H3 scope ce fp) I5) hD5 hz hv fun s6 I6 => fin I6 hw hN5
  refine codeAny_compStart_list (loop m0 s4 ⟨0, H3, B0, t4, f4, w0⟩) (T.self X.A 0 s4 _ _ t4 (loop m0 s4 ⟨0, H3, B0, t4, f4, w0⟩))
end HopR

set_option Elab.async false
set_option linter.all false
set_option maxRecDepth 100000
set_option exponentiation.threshold 200000
namespace Hop
open PySem L2 HopR HopT HopH
open C8 (InsC call_isC)
section
variable {P : Program} {w : World} {K : PySem.W.Frag} {mg : Str → Option Value} {base : Heap} {C d : Addr} {es : Array DictEntry} {n : Nat} {HE NN NR NP : Addr}
variable {fi f1 f2 r1 r2 r3 r4 r6 p1 p2 p3 : Addr} {gi g1 g2 s1 s2 s3 s4 s6 q1 q2 q3 : FuncData} {d1 : Value}
/-! ### no row, no pace: walls_of, pace_of, changes -/
theorem ok_nowalls {f f1 f2 : Addr} {fd fd1 fd2 : FuncData} {k : Nat} (F : Fun K "walls_of" "walls_of" sWallsOf f fd) (N1 : Fn K mg "is_row" sIsRow ["thing"] f1 fd1) (N2 : Fn K mg "need_row" sNeedRow ["thing"] f2 fd2) (T : TxtR K w mg d es n) (ke : keysAre es) (Z : Ev K mg HE NN NR NP) :
    FnOk P w K mg base (L2.CX P w) (k + 3) f fd ["row"] (spNoRow K NR) := by
  have G1 : FnOk P w K mg base (L2.CX P w) (k + 2) f2 fd2 ["thing"] (spNoRow K NR) := ok_norow N2.F N1 T ke Z
  refine F.okX scWalls (fun vs H Q E h => ?_) (fun cdv A outer s H vs Q E hr h => ?_)
  · obtain ⟨x, rfl, _⟩ := h
    rfl
  · obtain ⟨x, rfl, hb, q⟩ := h
    refine ⟨_, pss_cons (ps_expr (pe_call G1 hr (by rfl) N2.g N2.F.kp N2.b .nil (passes_call (E := E) (takes_of rfl rfl rfl rfl) (fun _ _ _ _ h => h)) (pa_cons (pv 0) pa_nil))) (pss_cons ps_never (pss_one ps_never)), ?_⟩
    exact ⟨x, rfl, x, rfl, hb, q⟩
/-- what is refused: no row, or a row with a pace that is none -/
def Bent (K : PySem.W.Frag) (C NR NP : Addr) (H : Hp) (x a b : V) (E : XK) : Prop := (RowB K H x false ∧ ∀ H', Same H H' → E (.ref NR) none H') ∨
  (∃ bs, x = .str (tx bs) ∧ Row bs ∧ (NoPc K C H a ∨ (∃ q, Pw C H a q) ∧ NoPc K C H b) ∧ ∀ H', Same H H' → E (.ref NP) none H')
def spNoPcOf (K : PySem.W.Frag) (C NR NP : Addr) : Sp := fun vs H _ E => ∃ x y a b, vs = [x, y, a, b] ∧ Bent K C NR NP H x a b E
theorem ok_nopaceof {k : Nat} (N : PcDefs K mg C fi f1 f2 r1 r2 p1 p2 p3 gi g1 g2 s1 s2 q1 q2 q3 d1) (T : TxtP K mg C) (TR : TxtR K w mg d es n) (ke : keysAre es) (Z : Ev K mg HE NN NR NP) :
    FnOk P w K mg base (L2.CX P w) (k + 6) p3 q3 ["row", "wall", "inn", "out"] (spNoPcOf K C NR NP) := by
  have G1 : FnOk P w K mg base (L2.CX P w) (k + 5) r2 s2 ["thing"] (spNoRow K NR) := ok_norow N.R2.F N.R1 TR ke Z
  have G2 : FnOk P w K mg base CX0 (k + 5) r2 s2 ["thing"] spNeed := ok_need N.R2.F N.R1 TR
  have G3 : FnOk P w K mg base (L2.CX P w) (k + 5) p2 q2 ["inn", "out"] (spNoPaces K C NP) := ok_nopaces N.P2.F N.P1 N.M T Z
  refine N.F3.ok scPaceOf (fun vs H Q E h => ?_) (fun cdv A outer s H vs Q E hr h => ?_)
  · obtain ⟨x, y, a, b, rfl, _⟩ := h
    rfl
  · obtain ⟨x, y, a, b, rfl, h⟩ := h
    have nd := scPaceOf.nd
    rcases h with ⟨hb, q⟩ | ⟨bs, rfl, hR, hb, q⟩
    · refine ⟨_, pss_cons (ps_expr (pe_call G1 hr (by rfl) N.R2.g N.R2.F.kp N.R2.b .nil (passes_call (E := E) (takes_of rfl rfl rfl rfl) (fun _ _ _ _ h => h)) (pa_cons (pv 0) pa_nil))) (pss_cons ps_never (pss_cons ps_never (pss_cons ps_never (pss_one ps_never)))), ?_⟩
      exact ⟨x, rfl, x, rfl, hb, q⟩
    · refine ⟨_, pss_cons (ps_expr (pe_call G2 hr (by rfl) N.R2.g N.R2.F.kp N.R2.b .nil pass0 (pa_cons (pv 0) pa_nil)))
        (pss_cons (ps_asg (pe_call G3 hr (by rfl) N.P2.g N.P2.F.kp N.P2.b .nil (passes_call (E := E) (takes_of rfl rfl rfl rfl) (fun _ _ _ _ h => h)) (pa_cons (pv 2) (pa_cons (pv 3) pa_nil))) (pg_tup (by rfl) (pgs_cons (pg_name (i := 4) nd rfl (.inl rfl)) (pgs_cons (pg_name (i := 5) nd rfl (.inl rfl)) pgs_nil))))
        (pss_cons ps_never (pss_cons ps_never (pss_one ps_never)))), ?_⟩
      refine ⟨.str (tx bs), rfl, bs, rfl, hR, fun H1 s1 => ?_⟩
      exact ⟨a, rfl, b, rfl, a, b, rfl, hb.imp (fun z => z.same s1) (fun z => ⟨z.1.imp fun _ z => z.same s1, z.2.same s1⟩), fun H2 s2 => q H2 (s1.trans s2)⟩
def spNoChg (K : PySem.W.Frag) (C NR NP : Addr) : Sp := fun vs H _ E => ∃ x a b, vs = [x, a, b] ∧ Bent K C NR NP H x a b E
theorem ok_nochg {f : Addr} {fd : FuncData} {k : Nat} (F : FunD K "changes" "changes" (defArgs sChg) (defBody sChg) (defScope sChg) [.non, .non] [] f fd) (D : CgDefs K mg C fi f1 f2 r1 r2 r3 r4 r6 p1 p2 p3 gi g1 g2 s1 s2 s3 s4 s6 q1 q2 q3 d1) (T : TxtP K mg C) (TR : TxtR K w mg d es n) (ke : keysAre es) (Z : Ev K mg HE NN NR NP) :
    FnOk P w K mg base (L2.CX P w) (k + 7) f fd ["row", "inn", "out"] (spNoChg K C NR NP) := by
  have G1 : FnOk P w K mg base (L2.CX P w) (k + 6) r4 s4 ["row"] (spNoRow K NR) := ok_nowalls D.R4.F D.N.R1 D.N.R2 TR ke Z
  have Gw : FnOk P w K mg base CX0 (k + 6) r4 s4 ["row"] spWalls := ok_walls D.R4.F D.N.R1 D.N.R2 D.R3 TR
  have Gp : FnOk P w K mg base (L2.CX P w) (k + 6) p3 q3 ["row", "wall", "inn", "out"] (spNoPcOf K C NR NP) := ok_nopaceof D.N T TR ke Z
  have Gc : FnOk P w K mg base CX0 (k + 6) r6 s6 ["row", "wall"] spChanged := ok_changed D.R6.F D.R0 D.N.R1 D.N.R2 D.R3 D.R4 D.N.M.N1 TR T
  refine F.ok scChg (fun vs H Q E h => ?_) (fun cdv A outer s H vs Q E hr h => ?_)
  · obtain ⟨x, a, b, rfl, _⟩ := h
    rfl
  · obtain ⟨x, a, b, rfl, h⟩ := h
    have nd := scChg.nd
    rcases h with ⟨hb, q⟩ | ⟨bs, rfl, hR, hb, q⟩
    · refine ⟨_, pss_cons (ps_set (i := 3) nd rfl (.inl rfl) (pe_call G1 hr (by rfl) D.R4.g D.R4.F.kp D.R4.b .nil (passes_call (E := E) (takes_of rfl rfl rfl rfl) (fun _ _ _ _ h => h)) (pa_cons (pv 0) pa_nil))) (pss_one ps_never), ?_⟩
      exact ⟨x, rfl, x, rfl, hb, q⟩
    · refine ⟨_, pss_cons (ps_set (i := 3) nd rfl (.inl rfl) (pe_call Gw hr (by rfl) D.R4.g D.R4.F.kp D.R4.b .nil pass0 (pa_cons (pv 0) pa_nil)))
        (pss_one (ps_ret (pe_lcX (E := E) (own := [("wall", 4)]) (g := gName 4) (tt := tYes) rfl nd rfl rfl (takes_of rfl rfl rfl rfl) (fun _ _ _ _ h => h) (pi_list (pv 3)) (blkOk_by (own := [("wall", 4)]) (N := nChg) (sc := defScope sChg) (by decide +kernel))
          (fun _ _ _ _ _ => pg_name (i := 4) nd rfl (Or.inl rfl)) (fun _ _ _ _ _ => pts_nil)
          (fun _ _ _ _ _ => pe_tup (pa_cons (pv 4) (pa_cons (pe_call Gp hr (by rfl) D.N.g3 D.N.F3.kp D.N.b3 .nil passes_blk (pa_cons (pv 0) (pa_cons (pv 4) (pa_cons (pv 1) (pa_cons (pv 2) pa_nil))))) (pa_cons (pe_call Gc hr (by rfl) D.R6.g D.R6.F.kp D.R6.b .nil pass0 (pa_cons (pv 0) (pa_cons (pv 4) pa_nil))) pa_nil))))))), ?_⟩
      refine ⟨.str (tx bs), rfl, bs, rfl, hR, fun H1 pw sw nw ew => ?_⟩
      refine ⟨.ref pw, rfl, pw, rfl, ⟨_, SqL.of ew⟩, fun Da hD => ?_⟩
      refine lc_list (K := K) (a := pw) (xs := (walls bs).map wv) (fun j H3 => j = 0 ∧ Same H1 H3) ⟨rfl, same_upd hD⟩ (fun j H3 _ ⟨_, h⟩ => SqL.of (h _ _ ew)) ?_ ?_
      · rintro j x H3 hx ⟨rfl, sm⟩
        have s3 := sw.trans sm
        refine ⟨rfl, x, rfl, .str (tx bs), rfl, x, rfl, a, rfl, b, rfl, .str (tx bs), x, a, b, rfl, .inr ⟨bs, rfl, hR, hb.imp (fun z => z.same s3) (fun z => ⟨z.1.imp fun _ z => z.same s3, z.2.same s3⟩), fun H4 s4 => q H4 (s3.trans s4)⟩⟩
      · rintro H3 ⟨e, _⟩
        rw [List.length_map] at e
        have := List.length_pos_iff.mpr (walls_ne bs)
        omega
end
end Hop

set_option Elab.async false
set_option linter.all false
set_option maxRecDepth 100000
set_option exponentiation.threshold 200000
namespace Hop
open PySem L2 HopR HopT HopH
open C8 (InsC call_isC)
abbrev sAre : Stmt := top 41
section
variable {P : Program} {w : World} {K : PySem.W.Frag} {mg : Str → Option Value} {base : Heap} {C d : Addr} {es : Array DictEntry} {n : Nat} {HE NN NR NP : Addr}
structure TxtA (mg : Str → Option Value) : Prop where
  list : mg "list" = none
  tuple : mg "tuple" = none
  zip : mg "zip" = none
/-- a told list of changes -/
def Chd (C : Addr) (H : Hp) (p : Addr) (bs : List Bool) (q r : Rat) : Prop := ∃ ks ws, H p = some (.lst ws) ∧ ks.map (·.1) = walls bs ∧ TupH H (chv bs) ks ws ∧ ∀ x ∈ ks, PA C H x.2 (paceAt bs q r x.1)
theorem Chd.same {H H' : Hp} {p : Addr} {bs : List Bool} {q r : Rat} (s : Same H H') (h : Chd C H p bs q r) : Chd C H' p bs q r := by
  obtain ⟨ks, ws, e, ek, tg, pk⟩ := h
  exact ⟨ks, ws, s _ _ e, ek, tupH_same s tg, fun x hx => (pk x hx).same s⟩
theorem Pl.same {H H' : Hp} {pl : Addr} {q r : Rat} (s : Same H H') (h : Pl H pl q r) : Pl H' pl q r := by
  obtain ⟨t1, t2, e, e1, e2⟩ := h
  exact ⟨t1, t2, s _ _ e, s _ _ e1, s _ _ e2⟩
theorem paceAt_sz {bs : List Bool} {q r : Rat} {k : Nat} (zq : Sz 45 q) (zr : Sz 45 r) : Sz 45 (paceAt bs q r k) := by
  unfold paceAt
  split
  · exact zq
  · split
    · exact zr
    · exact ⟨by decide, by decide⟩
/-! ### _law_are -/
def spAre (C : Addr) : Sp := fun vs H Q _ => ∃ (bs : List Bool) (p pl : Addr) (q r : Rat), vs = [.ref p, .str (tx bs), .ref pl] ∧ Row bs ∧ Chd C H p bs q r ∧ Pl H pl q r ∧ Sz 45 q ∧ Sz 45 r ∧ ∀ H', Same H H' → Q (.bl true) H'
abbrev nAre : List Str := ["_law_found", "_law_row_here", "_law_paces_here", "_law_some", "_law_one", "_law_shut"]
theorem scAre : FnScope nAre ["_law_found", "_law_row_here", "_law_paces_here"] (defScope sAre) := ⟨rfl, rfl, rfl, by decide +kernel, rfl, by decide +kernel, by decide +kernel⟩
structure AreD (K : PySem.W.Frag) (mg : Str → Option Value) : Prop where
  op : ∃ r s, Fn K mg "_law_open" sOpen ["_law_row_here"] r s
  be : ∃ r s, Fn K mg "_law_behind" sBehind ["_law_row_here", "_law_shut"] r s
  is : ∃ r s, Fn K mg "_law_is" sLIs ["_law_found", "_law_due"] r s
  lo : ∃ r s, Fn K mg "_law_low" sLow ["_law_top", "_law_bottom"] r s
  pc : ∃ r s, Fn K mg "_law_pace" sLPace ["_law_row_here", "_law_shut", "_law_paces_here"] r s
theorem ok_are {f : Addr} {fd : FuncData} {k : Nat} (F : Fun K "_law_are" "_law_are" sAre f fd) (D : AreD K mg) (T : TxtP K mg C) (TR : TxtR K w mg d es n) (TA : TxtA mg) : FnOk P w K mg base CX0 (k + 3) f fd ["_law_found", "_law_row_here", "_law_paces_here"] (spAre C) := by
  obtain ⟨fo, go, No⟩ := D.op
  obtain ⟨fb, gb, Nb⟩ := D.be
  obtain ⟨fs, gs, Ns⟩ := D.is
  obtain ⟨fl, gl, Nl⟩ := D.lo
  obtain ⟨fp, gp, Np⟩ := D.pc
  have Go : FnOk P w K mg base CX0 (k + 2) fo go ["_law_row_here"] spWalls := ok_open No.F TR
  have Gb : FnOk P w K mg base CX0 (k + 2) fb gb ["_law_row_here", "_law_shut"] spBehind := ok_behind Nb.F TR
  have Gs : FnOk P w K mg base CX0 (k + 2) fs gs ["_law_found", "_law_due"] (spLIs K C) := ok_is Ns.F Nl T
  have Gp : FnOk P w K mg base CX0 (k + 2) fp gp ["_law_row_here", "_law_shut", "_law_paces_here"] spLPace := ok_lpace Np.F T
  refine F.ok scAre (fun vs H Q E h => ?_) (fun cdv A outer s H vs Q E hr h => ?_)
  · obtain ⟨bs, p, pl, q, r, rfl, _⟩ := h
    rfl
  · obtain ⟨bs, p, pl, q, r, rfl, hR, ⟨ks, ws, ep, ek, tg, pk⟩, hpl, zq, zr, hq⟩ := h
    have nd := scAre.nd
    refine ⟨_, pss_cons (ps_set (i := 3) nd rfl (.inl rfl) (pe_call Go hr (by rfl) No.g No.F.kp No.b .nil pass0 (pa_cons (pv 1) pa_nil)))
      (pss_cons (ps_if (PW.pt (pw_or (pt_not (pt_val (pe_callB call_isi (by rfl) T.isi (by decide +kernel) (pa_cons (pv 0) (pa_cons (pe_bltn (v := .ty "list") (by rfl) TA.list (by decide +kernel) rfl) pa_nil)))))
          (pw_or1 (pt_cmpR op_ne (pe_callB call_len_seq (by rfl) T.len PySem.boot_len (pa_cons (pv 0) pa_nil)) (pe_callB call_len_seq (by rfl) T.len PySem.boot_len (pa_cons (pv 3) pa_nil)) (nomark _))))) (pss_one (ps_ret pe_bl)) pss_nil)
      (pss_cons (ps_for PassesOwn.never rfl (pi_zip (by rfl) TA.zip (pa_cons (pv 0) (pa_cons (pv 3) pa_nil))) (pg_tup (by rfl) (pgs_cons (pg_name (i := 4) nd rfl (.inl rfl)) (pgs_cons (pg_name (i := 5) nd rfl (.inl rfl)) pgs_nil)))
        (pss_cons (ps_if (PW.pt (pw_or (pt_not (pt_val (pe_callB call_isi (by rfl) T.isi (by decide +kernel) (pa_cons (pv 4) (pa_cons (pe_bltn (v := .ty "tuple") (by rfl) TA.tuple (by decide +kernel) rfl) pa_nil)))))
            (pw_or (pt_cmpR op_ne (pe_callB call_len_seq (by rfl) T.len PySem.boot_len (pa_cons (pv 4) pa_nil)) pe_int (nomark _))
            (pw_or (pt_val (pe_callB call_isi (by rfl) T.isi (by decide +kernel) (pa_cons (pe_ix ix_tup (pv 4) pe_int (fun _ _ => rfl)) (pa_cons (pe_bltn (v := .ty "bool") (by rfl) T.bool (by decide +kernel) rfl) pa_nil))))
            (pw_or1 (pt_cmpR op_ne (pe_ix ix_tup (pv 4) pe_int (fun _ _ => rfl)) (pv 5) (nomark _))))))) (pss_one (ps_ret pe_bl)) pss_nil)
        (pss_one (ps_if (PW.pt (pw_or (pt_not (pt_val (pe_call Gs hr (by rfl) Ns.g Ns.F.kp Ns.b .nil pass0 (pa_cons (pe_ix ix_tup (pv 4) pe_int (fun _ _ => rfl)) (pa_cons (pe_call Gp hr (by rfl) Np.g Np.F.kp Np.b .nil pass0 (pa_cons (pv 1) (pa_cons (pv 5) (pa_cons (pv 2) pa_nil)))) pa_nil)))))
            (pw_or1 (pt_cmpR op_ne (pe_ix ix_tup (pv 4) pe_int (fun _ _ => rfl)) (pe_call Gb hr (by rfl) Nb.g Nb.F.kp Nb.b .nil pass0 (pa_cons (pv 1) (pa_cons (pv 5) pa_nil))) (nomark _))))) (pss_one (ps_ret pe_bl)) pss_nil))))
      (pss_one (ps_ret pe_bl)))), ?_⟩
    refine ⟨.str (tx bs), rfl, bs, rfl, hR, fun H1 p1 s1 n1 e1 => ?_⟩
    have ep1 : H1 p = some (.lst ws) := s1 _ _ ep
    have lw : ws.length = ks.length := tupH_len tg
    have lk : ((walls bs).map wv).length = ks.length := by rw [List.length_map, ← ek, List.length_map]
    refine ⟨.ref p, rfl, .ref p, .ty "list", .type "list", .type "list", true, rfl, .ty _, .base (.lst ep1), kit_ty (by decide +kernel), true, rfl, iteF ?_⟩
    refine ⟨.ref p, rfl, p, ws, rfl, .inl (SqL.of ep1), .ref p1, rfl, p1, _, rfl, .inl (SqL.of e1), rfl, _, rfl, ?_⟩
    rw [lw, lk, decide_eq_true rfl]
    refine iteF ?_
    refine ⟨.ref p, rfl, .ref p1, rfl, p, p1, _, _, rfl, SqL.of ep1, SqL.of e1, ?_⟩
    refine for_it (walk_zip (K := K) (a := p) (b := p1) (xs := ws) (ys := (walls bs).map wv) (n := ks.length) (by rw [lw, lk, Nat.min_self])) (fun i σ H2 => ∃ y4 y5, σ = [some (.ref p), some (.str (tx bs)), some (.ref pl), some (.ref p1), y4, y5] ∧ Same H1 H2)
      ⟨_, _, rfl, Same.refl _⟩ (fun i σ H2 _ ⟨_, _, _, h⟩ => ⟨SqL.of (h _ _ ep1), SqL.of (h _ _ e1)⟩) ?_ ?_
    · rintro i x σ H2 H3 hi ⟨y4, y5, rfl, s2⟩ ⟨t, x1, x2, rfl, nt, rfl, hx1, hx2⟩
      have hx1 : ws[i]? = some x1 := hx1
      have hx2 : ((walls bs).map wv)[i]? = some x2 := hx2
      obtain ⟨a0, ha0⟩ : ∃ a0, ks[i]? = some a0 := ⟨_, List.getElem?_eq_getElem hi⟩
      obtain ⟨tp, h1, h2⟩ := tupH_at tg ha0
      rw [h1] at hx1
      cases hx1
      have hwi : (walls bs)[i]? = some a0.1 := by rw [← ek, List.getElem?_map, ha0]; rfl
      rw [List.getElem?_map, hwi] at hx2
      cases hx2
      have hk : a0.1 ∈ walls bs := List.mem_of_getElem? hwi
      refine ⟨t, _, rfl, SqT.of upd_same, rfl, _, _, rfl, _, _, rfl, rfl, ?_⟩
      have s3 : Same H1 (upd H2 t (.tup [.ref tp, wv a0.1])) := same_new (s2.free nt) s2
      generalize upd H2 t (.tup [.ref tp, wv a0.1]) = H4 at s3
      have s13 := s1.trans s3
      have et : H4 tp = some (.tup (chv bs a0)) := s13 _ _ h2
      refine ⟨.ref tp, rfl, .ref tp, .ty "tuple", .type "tuple", .type "tuple", true, rfl, .ty _, .base (.tup et), kit_ty (by decide +kernel), true, rfl, iteF ?_⟩
      refine ⟨.ref tp, rfl, tp, _, rfl, .inr (SqT.of et), rfl, _, rfl, ?_⟩
      rw [decide_eq_true (show V.int ((chv bs a0).length : Int) = V.int 3 from rfl)]
      refine iteF ⟨.ref tp, rfl, tp, _, 0, wv a0.1, rfl, rfl, SqT.of et, rfl, wv a0.1, .ty "bool", .type "int", .type "bool", false, rfl, .ty _, .base (.int _), kit_ty (by decide +kernel), false, rfl, iteF ?_⟩
      refine ⟨.ref tp, rfl, tp, _, 0, wv a0.1, rfl, rfl, SqT.of et, rfl, wv a0.1, rfl, rfl, _, rfl, ?_⟩
      rw [decide_eq_true rfl]
      refine iteF ?_
      refine ⟨.ref tp, rfl, tp, _, 1, .ref a0.2, rfl, rfl, SqT.of et, rfl, .str (tx bs), rfl, wv a0.1, rfl, .ref pl, rfl, bs, a0.1, pl, q, r, rfl, hR, hpl.same s13, fun H5 dp s5 ed => ?_⟩
      refine ⟨a0.2, dp, (paceAt bs q r a0.1).num, ((paceAt bs q r a0.1).den : Int), rfl, ?_, ed, den_ne _, ?_, fun H6 s6 => ⟨true, rfl, iteF ?_⟩⟩
      · rw [Rat.num_divInt_den]
        exact (pk a0 (List.mem_of_getElem? ha0)).same (s13.trans s5)
      · exact Nat.lt_of_lt_of_le (paceAt_sz zq zr).2 (Nat.pow_le_pow_right (by decide) (by decide))
      · have s36 := s3.trans (s5.trans s6)
        have et6 : H6 tp = some (.tup (chv bs a0)) := (s5.trans s6) _ _ et
        refine ⟨.ref tp, rfl, tp, _, 2, .str (tx (chg bs a0.1)), rfl, rfl, SqT.of et6, rfl, .str (tx bs), rfl, wv a0.1, rfl, bs, a0.1, rfl, hR, (mem_walls.mp hk).1, fun H7 s7 => ⟨rfl, _, rfl, ?_⟩⟩
        rw [decide_eq_true rfl]
        exact iteF ⟨_, _, rfl, s36.trans s7⟩
    · rintro σ H3 ⟨y4, y5, rfl, s3⟩
      exact hq H3 (s1.trans s3)
end
end Hop

set_option Elab.async false
set_option linter.all false
set_option maxRecDepth 100000
set_option exponentiation.threshold 200000
namespace Hop
open PySem L2 HopR HopT HopH
open C8 (InsC call_isC)
abbrev sKind : Stmt := top 42
section
variable {P : Program} {w : World} {K : PySem.W.Frag} {mg : Str → Option Value} {base : Heap} {C d : Addr} {es : Array DictEntry} {n : Nat} {HE NN NR NP : Addr}
variable {fi f1 f2 r1 r2 r3 r4 r6 p1 p2 p3 fc : Addr} {gi g1 g2 s1 s2 s3 s4 s6 q1 q2 q3 gc : FuncData} {d1 : Value}
abbrev nPc : List Str := ["row", "wall", "inn", "out"]
abbrev nCh : List Str := ["row", "inn", "out"]
theorem kwp_two {f : Addr} {g : FuncData} (F : FunD K "pace_of" "pace_of" (defArgs sPaceOf) (defBody sPaceOf) (defScope sPaceOf) [.non, .non] [] f g) : KBn K g nPc 2 ["inn", "out"] (fun us ws => us ++ ws) (fun vs zs => vs ++ zs) := by
  obtain ⟨i0, k0⟩ := F.kbindsD (ps := nPc) 2 ["inn", "out"] (fun us its ws => us ++ ws) (by simp) (fun r1 r2 r3 => r1.append r3) (fun T kV doc pm an cdv ct us its ws h1 h2 h3 => match us, its, ws, h1, h2, h3 with | [_, _], [_, _], [_, _], _, _, _ => ⟨_, rfl, rfl⟩)
  exact k0
/-- what is refused, as data -/
def BentB (K : PySem.W.Frag) (C : Addr) (H : Hp) (x a b : V) : Bool → Prop
  | true => RowB K H x false
  | false => ∃ bs, x = .str (tx bs) ∧ Row bs ∧ (NoPc K C H a ∨ (∃ q, Pw C H a q) ∧ NoPc K C H b)
theorem bentB_same {H H' : Hp} {x a b : V} {c : Bool} (s : Same H H') (h : BentB K C H x a b c) : BentB K C H' x a b c := by
  cases c with
  | true => exact rowB_same s h
  | false =>
    obtain ⟨bs, e, hR, hb⟩ := h
    exact ⟨bs, e, hR, hb.imp (fun z => z.same s) (fun z => ⟨z.1.imp fun _ z => z.same s, z.2.same s⟩)⟩
theorem bentB_of {H : Hp} {x a b : V} {c : Bool} {E : XK} {X : Addr} (hX : (if c then NR else NP) = X) (h : BentB K C H x a b c) (q : ∀ H', Same H H' → E (.ref X) none H') : Bent K C NR NP H x a b E := by
  subst hX
  cases c with
  | true => exact .inl ⟨h, q⟩
  | false =>
    obtain ⟨bs, e, hR, hb⟩ := h
    exact .inr ⟨bs, e, hR, hb, q⟩
theorem bent_cls (Z : Ev K mg HE NN NR NP) (c : Bool) : ∃ X : Addr, (if c then NR else NP) = X ∧ PySem.W.exmOne K (.ref X) (.ref HE) = some true ∧ ExcC K X ∧ PySem.W.kitOne K (.ref X) (.ref NN) = some false ∧ PySem.W.kitOne K (.ref X) (.ref NR) = some c ∧ PySem.W.kitOne K (.ref X) (.ref NP) = some (!c) := by
  cases c with
  | true => exact ⟨NR, rfl, Z.mR, Z.R.c, Z.rN, kit_me, Z.rP⟩
  | false => exact ⟨NP, rfl, Z.mP, Z.O.c, Z.pN, Z.pR, kit_me⟩
def spKind (K : PySem.W.Frag) (C : Addr) : Sp := fun vs H Q _ => ∃ (x a b : V) (c : Bool), vs = [x, a, b] ∧ BentB K C H x a b c ∧ ∀ H' p, Same H H' → H p = none → H' p = some (.lst [.bl c, .bl (!c)]) → Q (.ref p) H'
abbrev nKind : List Str := ["_law_row_here", "_law_ipace", "_law_opace", "_law_found", "_law_door", "_law_error", "e"]
theorem scKind : FnScope nKind ["_law_row_here", "_law_ipace", "_law_opace"] (defScope sKind) := ⟨rfl, rfl, rfl, by decide +kernel, rfl, by decide +kernel, by decide +kernel⟩
/-- the lists of two truths that are told so far -/
def Two (H0 H : Hp) (c : Bool) (xs : List V) (j : Nat) : Prop := xs.length = j ∧ ∀ i < j, ∃ p, xs[i]? = some (.ref p) ∧ H p = some (.lst [.bl c, .bl (!c)]) ∧ H0 p = none
set_option maxHeartbeats 2000000 in
theorem ok_kind {f : Addr} {fd : FuncData} {k : Nat} (F : Fun K "_law_kind" "_law_kind" sKind f fd) (Fc : FunD K "changes" "changes" (defArgs sChg) (defBody sChg) (defScope sChg) [.non, .non] [] fc gc) (gC : mg "changes" = some (.ref fc)) (bC : Binds K gc nCh [])
    (D : CgDefs K mg C fi f1 f2 r1 r2 r3 r4 r6 p1 p2 p3 gi g1 g2 s1 s2 s3 s4 s6 q1 q2 q3 d1) (T : TxtP K mg C) (TR : TxtR K w mg d es n) (ke : keysAre es) (Z : Ev K mg HE NN NR NP) :
    FnOk P w K mg base CX0 (k + 8) f fd ["_law_row_here", "_law_ipace", "_law_opace"] (spKind K C) := by
  have Gc : FnOk P w K mg base (L2.CX P w) (k + 7) fc gc ["row", "inn", "out"] (spNoChg K C NR NP) := ok_nochg Fc D T TR ke Z
  have Gp : FnOk P w K mg base (L2.CX P w) (k + 7) p3 q3 ["row", "wall", "inn", "out"] (spNoPcOf K C NR NP) := ok_nopaceof D.N T TR ke Z
  refine F.ok scKind (fun vs H Q E h => ?_) (fun cdv A outer s H vs Q E hr h => ?_)
  · obtain ⟨x, a, b, c, rfl, _⟩ := h
    rfl
  · obtain ⟨x, a, b, c, rfl, hb, q⟩ := h
    have nd := scKind.nd
    have hu := hu66 hr
    have kb := kwp_two D.N.F3
    refine ⟨_, pss_cons (ps_set (i := 3) nd rfl (.inl rfl) (pe_lst pa_nil))
      (pss_cons (ps_for PassesOwn.never rfl (pi_range1 (by rfl) T.range (pa_cons pe_int pa_nil)) (pg_name (i := 4) nd rfl (.inl rfl))
        (pss_cons (ps_set (i := 5) nd rfl (.inl rfl) pe_non)
        (pss_cons (ps_try_held (i := 6) (j := 5) rfl rfl nd rfl rfl rfl rfl rfl (tests_one ⟨rfl, by decide, .inl Z.gHE⟩)
            (fun W pn xe tk _ => pss_one (ps_if (pt_cmpR op_eq (pv 4) pe_int (nomark _))
              (pss_one (ps_expr (pe_callS Gc hr (by rfl) gC Fc.kp bC (fun σ => passAt tk σ) (pa_cons (pv 0) (pa_cons (pv 1) (pa_cons (pv 2) pa_nil))))))
              (pss_one (ps_expr (pe_callT Gp hr (by rfl) D.N.g3 D.N.F3.kp kb (fun σ => passAt tk σ) (pa_cons (pv 0) (pa_cons pe_int pa_nil)) (pk_cons (pv 1) (pk_cons (pv 2) pk_nil)))))))
            (fun a oe pn => pss_one (ps_set (i := 5) nd rfl (.inl rfl) (pv 6))))
        (pss_cons (ps_if (pt_val (pe_callB call_isH (by rfl) T.isi (by decide +kernel) (pa_cons (pv 5) (pa_cons (pe_glob (v := .ref NN) (by rfl) Z.gNN rfl) pa_nil)))) (pss_one (ps_ret pe_str)) pss_nil)
        (pss_one (ps_expr (pe_bm PySem.F.plainAttrs_list PySem.F.slot_list_append PySem.F.type_list_append mt_append (pv 3) (pa_cons (pe_lst (pa_cons (pe_callB call_isH (by rfl) T.isi (by decide +kernel) (pa_cons (pv 5) (pa_cons (pe_glob (v := .ref NR) (by rfl) Z.gNR rfl) pa_nil))) (pa_cons (pe_callB call_isH (by rfl) T.isi (by decide +kernel) (pa_cons (pv 5) (pa_cons (pe_glob (v := .ref NP) (by rfl) Z.gNP rfl) pa_nil))) pa_nil))) pa_nil))))))))
      (pss_one (ps_ret (pe_ifExp (pt_cmpR (op_eqD (Nat.lt_of_le_of_lt (Nat.add_le_add_left (by decide : 64 ≤ 66) _) hu)) (pe_ix ix_list (pv 3) pe_int (fun _ _ => rfl)) (pe_ix ix_list (pv 3) pe_int (fun _ _ => rfl)) (nomark _)) (pe_ix ix_list (pv 3) pe_int (fun _ _ => rfl)) pe_str)))), ?_⟩
    obtain ⟨X, hX, m1, c1, k1, k2, k3⟩ := bent_cls Z c
    refine ⟨Nat.zero_le _, fun o no => ?_⟩
    have t1 := same_upd (o := .lst []) no
    have e1 : upd H o (.lst []) o = some (.lst []) := upd_same
    generalize upd H o (.lst []) = H1 at t1 e1
    refine ⟨2, rfl, (by decide), (by decide), ?_⟩
    refine for_range (lo := 0) (n := 2) (fun j σ H2 => ∃ y4 y5 y6 xs, σ = [some x, some a, some b, some (.ref o), y4, y5, y6] ∧ Same H H2 ∧ H2 o = some (.lst xs) ∧ Two H H2 c xs j) ⟨_, _, _, [], rfl, t1, e1, rfl, fun i hi => absurd hi (Nat.not_lt_zero _)⟩ ?_ ?_
    · rintro j σ H2 hj ⟨y4, y5, y6, xs, rfl, s2, eo, tl, tw⟩
      have hb2 : BentB K C H2 x a b c := bentB_same s2 hb
      refine ⟨.int (0 + (j : Int)), rfl, rfl, _, rfl, ite2 (fun _ => ⟨x, rfl, a, rfl, b, rfl, x, a, b, rfl, bentB_of hX hb2 fun H3 s3 => ?_⟩) (fun _ => ⟨x, rfl, a, rfl, b, rfl, rfl, rfl, x, .int 0, a, b, rfl, bentB_of hX hb2 fun H3 s3 => ?_⟩)⟩
      all_goals
        refine ⟨m1, fun ad na => ?_⟩
        have sA : Same H2 (upd H3 ad (ExH (.ref X) none ad)) := same_new (s3.free na) s3
        have eA : upd H3 ad (ExH (.ref X) none ad) ad = some (ExH (.ref X) none ad) := upd_same
        refine ⟨.ref ad, rfl, ad, X, .ref NN, .ref NN, false, rfl, eA, c1, .own _, k1, false, rfl, iteF ?_⟩
        generalize upd H3 ad (ExH (.ref X) none ad) = H4 at sA eA
        have eo4 := sA _ _ eo
        refine ⟨.ref o, rfl, .inl ⟨rfl, _, SqL.of eo4⟩, .ref ad, rfl, ad, X, .ref NR, .ref NR, c, rfl, eA, c1, .own _, k2, .ref ad, rfl, ad, X, .ref NP, .ref NP, !c, rfl, eA, c1, .own _, k3, (by show 2 ≤ sizeLine; decide), fun lp np => ?_⟩
        have fresh : H lp = none := (s2.trans sA).free np
        have s5 := sA.trans (same_upd (o := .lst [.bl c, .bl (!c)]) np)
        have eo5 := s5 _ _ eo
        have e5 : upd H4 lp (.lst [.bl c, .bl (!c)]) lp = some (.lst [.bl c, .bl (!c)]) := upd_same
        have nlo : lp ≠ o := fun z => by rw [z, eo4] at np; cases np
        generalize upd H4 lp (.lst [.bl c, .bl (!c)]) = H5 at s5 eo5 e5
        refine ⟨o, _, _, rfl, rfl, eo5, small1000 (by omega), ?_⟩
        refine ⟨_, _, _, xs ++ [.ref lp], rfl, same_new no (s2.trans s5), upd_same, by rw [List.length_append, tl]; rfl, fun i hi => ?_⟩
        rcases Nat.lt_or_ge i j with hij | hij
        · obtain ⟨p, g1, g2, g3⟩ := tw i hij
          refine ⟨p, by rw [List.getElem?_append_left (by omega)]; exact g1, ?_, g3⟩
          rw [upd_ne (fun z => by rw [z, eo] at g2; cases g2; have := List.mem_of_getElem? g1; simp at this)]
          exact s5 _ _ g2
        · obtain rfl : i = j := by omega
          refine ⟨lp, by rw [List.getElem?_append_right (by omega), tl, Nat.sub_self]; rfl, ?_, fresh⟩
          rw [upd_ne nlo]
          exact e5
    · rintro σ H2 ⟨y4, y5, y6, xs, rfl, s2, eo, tl, tw⟩
      obtain ⟨p0, g0, h0, m0⟩ := tw 0 (by decide)
      obtain ⟨p1, g1, h1, _⟩ := tw 1 (by decide)
      obtain ⟨x0, x1, rfl⟩ : ∃ x0 x1, xs = [x0, x1] := match xs, tl with | [x0, x1], _ => ⟨_, _, rfl⟩
      cases g0
      cases g1
      refine ⟨.ref o, rfl, o, _, 0, .ref p0, rfl, rfl, SqL.of eo, rfl, .ref o, rfl, o, _, 1, .ref p1, rfl, rfl, SqL.of eo, rfl, ?_⟩
      refine ⟨.list [.bool c, .bool (!c)], .list [.bool c, .bool (!c)], .lst (SqL.of h0) (.cons (.bl _) (.cons (.bl _) .nil)), .lst (SqL.of h1) (.cons (.bl _) (.cons (.bl _) .nil)), by cases c <;> rfl, by cases c <;> rfl, ?_⟩
      rw [show PyData.eqv (.list [.bool c, .bool (!c)]) (.list [.bool c, .bool (!c)]) = true from by cases c <;> rfl]
      exact ⟨true, rfl, iteT ⟨.ref o, rfl, o, _, 0, .ref p0, rfl, rfl, SqL.of eo, rfl, q H2 p0 s2 m0 h0⟩⟩
end
end Hop

set_option Elab.async false
set_option linter.all false
set_option maxRecDepth 100000
set_option exponentiation.threshold 200000
namespace Hop
open PySem L2 HopR HopT HopH
open C8 (InsC call_isC)
abbrev sAlone : Stmt := top 43
def rev2 {α : Type} : List α → List α
  | [a, b] => [b, a]
  | l => l
theorem vals_rev2 {zs : List V} {ws : List Value} (h : Vals zs ws) : Vals (rev2 zs) (rev2 ws) := by
  cases h with
  | nil => exact .nil
  | cons r1 h =>
    cases h with
    | nil => exact .cons r1 .nil
    | cons r2 h =>
      cases h with
      | nil => exact .cons r2 (.cons r1 .nil)
      | cons r3 h => exact .cons r1 (.cons r2 (.cons r3 h))
theorem vals_take1 {zs : List V} {ws : List Value} (h : Vals zs ws) : Vals (zs.take 1) (ws.take 1) := by
  cases h with
  | nil => exact .nil
  | cons r h => exact .cons r .nil
theorem vals_drop1 {zs : List V} {ws : List Value} (h : Vals zs ws) : Vals (zs.drop 1) (ws.drop 1) := by
  cases h with
  | nil => exact .nil
  | cons r h => exact h
section
variable {P : Program} {w : World} {K : PySem.W.Frag} {mg : Str → Option Value} {base : Heap} {C d : Addr} {es : Array DictEntry} {n : Nat} {HE NN NR NP : Addr}
variable {fi f1 f2 r1 r2 r3 r4 r6 p1 p2 p3 fc : Addr} {gi g1 g2 s1 s2 s3 s4 s6 q1 q2 q3 gc : FuncData} {d1 : Value}
theorem kwp_out {f : Addr} {g : FuncData} (F : FunD K "pace_of" "pace_of" (defArgs sPaceOf) (defBody sPaceOf) (defScope sPaceOf) [.non, .non] [] f g) : ∃ i2, KBn K g nPc 2 ["out"] (fun us ws => us ++ i2 ++ ws) (fun vs zs => vs ++ [.non] ++ zs) := by
  obtain ⟨i2, k2⟩ := F.kbindsD (ps := nPc) 2 ["out"] (fun us its ws => us ++ its.take 1 ++ ws) (by simp) (fun r1 r2 r3 => (r1.append (vals_take1 r2)).append r3) (fun T kV doc pm an cdv ct us its ws h1 h2 h3 => match us, its, ws, h1, h2, h3 with | [_, _], [_, _], [_], _, _, _ => ⟨_, rfl, rfl⟩)
  exact ⟨i2.take 1, k2⟩
theorem kwc_inn {f : Addr} {g : FuncData} (F : FunD K "changes" "changes" (defArgs sChg) (defBody sChg) (defScope sChg) [.non, .non] [] f g) : ∃ i2, KBn K g nCh 1 ["inn"] (fun us ws => us ++ ws ++ i2) (fun vs zs => vs ++ zs ++ [.non]) := by
  obtain ⟨i2, k2⟩ := F.kbindsD (ps := nCh) 1 ["inn"] (fun us its ws => us ++ ws ++ its.drop 1) (by simp) (fun r1 r2 r3 => (r1.append r3).append (vals_drop1 r2)) (fun T kV doc pm an cdv ct us its ws h1 h2 h3 => match us, its, ws, h1, h2, h3 with | [_], [_, _], [_], _, _, _ => ⟨_, rfl, rfl⟩)
  exact ⟨i2.drop 1, k2⟩
theorem kwc_two {f : Addr} {g : FuncData} (F : FunD K "changes" "changes" (defArgs sChg) (defBody sChg) (defScope sChg) [.non, .non] [] f g) : KBn K g nCh 1 ["out", "inn"] (fun us ws => us ++ rev2 ws) (fun vs zs => vs ++ rev2 zs) := by
  obtain ⟨i0, k0⟩ := F.kbindsD (ps := nCh) 1 ["out", "inn"] (fun us its ws => us ++ rev2 ws) (by simp) (fun r1 r2 r3 => r1.append (vals_rev2 r3)) (fun T kV doc pm an cdv ct us its ws h1 h2 h3 => match us, its, ws, h1, h2, h3 with | [_], [_, _], [_, _], _, _, _ => ⟨_, rfl, rfl⟩)
  exact k0
theorem pl_two {H : Hp} {h t1 t2 : Addr} {q r : Rat} (e : H h = some (.lst [.ref t1, .ref t2])) (e1 : H t1 = some (.tup (tq q))) (e2 : H t2 = some (.tup (tq r))) : Pl H h q r := ⟨t1, t2, e, e1, e2⟩
theorem one_one : Rat.divInt 1 1 = 1 := by decide +kernel
theorem sz_one : Sz 45 (1 : Rat) := ⟨by decide, by decide⟩
/-! ### _law_alone -/
def spAlone (C : Addr) : Sp := fun vs H Q _ => ∃ (bs : List Bool) (pl ia oa : Addr) (q r : Rat), vs = [.str (tx bs), .ref pl, .ref ia, .ref oa] ∧ Row bs ∧ Pl H pl q r ∧ PC C H ia q ∧ PC C H oa r ∧ ∀ H', Same H H' → Q (.bl true) H'
abbrev nAlone : List Str := ["_law_row_here", "_law_paces_here", "_law_ipace", "_law_opace", "_law_half"]
theorem scAlone : FnScope nAlone ["_law_row_here", "_law_paces_here", "_law_ipace", "_law_opace"] (defScope sAlone) := ⟨rfl, rfl, rfl, by decide +kernel, rfl, by decide +kernel, by decide +kernel⟩
set_option maxHeartbeats 2000000 in
theorem ok_alone {f : Addr} {fd : FuncData} {k : Nat} (F : Fun K "_law_alone" "_law_alone" sAlone f fd) (Fc : FunD K "changes" "changes" (defArgs sChg) (defBody sChg) (defScope sChg) [.non, .non] [] fc gc) (gC : mg "changes" = some (.ref fc)) (bC : Binds K gc nCh [])
    (D : CgDefs K mg C fi f1 f2 r1 r2 r3 r4 r6 p1 p2 p3 gi g1 g2 s1 s2 s3 s4 s6 q1 q2 q3 d1) (DA : AreD K mg) (na : ∃ r s, Fn K mg "_law_are" sAre ["_law_found", "_law_row_here", "_law_paces_here"] r s) (T : TxtP K mg C) (TR : TxtR K w mg d es n) (TA : TxtA mg) :
    FnOk P w K mg base CX0 (k + 8) f fd ["_law_row_here", "_law_paces_here", "_law_ipace", "_law_opace"] (spAlone C) := by
  obtain ⟨fa, ga, Na⟩ := na
  obtain ⟨fs, gs, Ns⟩ := DA.is
  obtain ⟨fl, gl, Nl⟩ := DA.lo
  have Gc : FnOk P w K mg base CX0 (k + 7) fc gc ["row", "inn", "out"] (spChgP C) := ok_chgP Fc D T TR
  have Gp : FnOk P w K mg base CX0 (k + 7) p3 q3 ["row", "wall", "inn", "out"] (spPaceOf C) := ok_paceOf D.N T TR
  have Ga : FnOk P w K mg base CX0 (k + 7) fa ga ["_law_found", "_law_row_here", "_law_paces_here"] (spAre C) := ok_are Na.F DA T TR TA
  have Gs : FnOk P w K mg base CX0 (k + 7) fs gs ["_law_found", "_law_due"] (spLIs K C) := ok_is Ns.F Nl T
  obtain ⟨d2, v2, b2⟩ := Fc.binds1 (ps := nCh) 2 1 (by simp) rfl (fun T kV doc pm an cdv ct us its hl hi => match us, its, hl, hi with | [_, _], [_, _], _, _ => ⟨_, rfl, rfl⟩)
  obtain ⟨d3, v3, b3⟩ := Fc.binds1 (ps := nCh) 1 0 (by simp) rfl (fun T kV doc pm an cdv ct us its hl hi => match us, its, hl, hi with | [_], [_, _], _, _ => ⟨_, rfl, rfl⟩)
  obtain ⟨d4, v4, b4⟩ := D.N.F3.binds1 (ps := nPc) 3 1 (by simp) rfl (fun T kV doc pm an cdv ct us its hl hi => match us, its, hl, hi with | [_, _, _], [_, _], _, _ => ⟨_, rfl, rfl⟩)
  obtain ⟨i5, kb5⟩ := kwc_inn Fc
  obtain ⟨i6, kb6⟩ := kwp_out D.N.F3
  refine F.ok scAlone (fun vs H Q E h => ?_) (fun cdv A outer s H vs Q E hr h => ?_)
  · obtain ⟨bs, pl, ia, oa, q, r, rfl, _⟩ := h
    rfl
  · obtain ⟨bs, pl, ia, oa, q, r, rfl, hR, ⟨t1, t2, el, et1, et2⟩, pi, po, hq⟩ := h
    have nd := scAlone.nd
    refine ⟨_, pss_cons (ps_set (i := 4) nd rfl (.inl rfl) (pe_lst (pa_cons (pe_ix ix_list (pv 1) pe_int (fun _ _ => rfl)) (pa_cons (pe_tup (pa_cons pe_int (pa_cons pe_int pa_nil))) pa_nil))))
      (pss_cons (ps_if (PW.pt (pw_or (pt_not (pt_val (pe_call Ga hr (by rfl) Na.g Na.F.kp Na.b .nil pass0 (pa_cons (pe_call Gc hr (by rfl) gC Fc.kp b2 v2 pass0 (pa_cons (pv 0) (pa_cons (pv 2) pa_nil))) (pa_cons (pv 0) (pa_cons (pv 4) pa_nil))))))
          (pw_or1 (pt_not (pt_val (pe_call Ga hr (by rfl) Na.g Na.F.kp Na.b .nil pass0 (pa_cons (pe_callN Gc hr (by rfl) gC Fc.kp kb5 pass0 (pa_cons (pv 0) pa_nil) (pk_cons (pv 2) pk_nil)) (pa_cons (pv 0) (pa_cons (pv 4) pa_nil))))))))) (pss_one (ps_ret pe_bl)) pss_nil)
      (pss_cons (ps_if (PW.pt (pw_or (pt_not (pt_val (pe_call Gs hr (by rfl) Ns.g Ns.F.kp Ns.b .nil pass0 (pa_cons (pe_call Gp hr (by rfl) D.N.g3 D.N.F3.kp b4 v4 pass0 (pa_cons (pv 0) (pa_cons (pe_callB call_len_str (by rfl) T.len PySem.boot_len (pa_cons (pv 0) pa_nil)) (pa_cons (pv 2) pa_nil)))) (pa_cons (pe_tup (pa_cons pe_int (pa_cons pe_int pa_nil))) pa_nil)))))
          (pw_or1 (pt_not (pt_val (pe_call Gs hr (by rfl) Ns.g Ns.F.kp Ns.b .nil pass0 (pa_cons (pe_callN Gp hr (by rfl) D.N.g3 D.N.F3.kp kb6 pass0 (pa_cons (pv 0) (pa_cons pe_int pa_nil)) (pk_cons (pv 3) pk_nil)) (pa_cons (pe_tup (pa_cons pe_int (pa_cons pe_int pa_nil))) pa_nil)))))))) (pss_one (ps_ret pe_bl)) pss_nil)
      (pss_cons (ps_set (i := 4) nd rfl (.inl rfl) (pe_lst (pa_cons (pe_tup (pa_cons pe_int (pa_cons pe_int pa_nil))) (pa_cons (pe_ix ix_list (pv 1) pe_int (fun _ _ => rfl)) pa_nil))))
      (pss_one (ps_ret (pe_and (pe_call Ga hr (by rfl) Na.g Na.F.kp Na.b .nil pass0 (pa_cons (pe_call Gc hr (by rfl) gC Fc.kp b3 v3 pass0 (pa_cons (pv 0) pa_nil)) (pa_cons (pv 0) (pa_cons (pe_lst (pa_cons (pe_tup (pa_cons pe_int (pa_cons pe_int pa_nil))) (pa_cons (pe_tup (pa_cons pe_int (pa_cons pe_int pa_nil))) pa_nil))) pa_nil))))
        (pe_one (pe_call Ga hr (by rfl) Na.g Na.F.kp Na.b .nil pass0 (pa_cons (pe_call Gc hr (by rfl) gC Fc.kp bC .nil pass0 (pa_cons (pv 0) (pa_cons pe_non (pa_cons (pv 3) pa_nil)))) (pa_cons (pv 0) (pa_cons (pv 4) pa_nil))))))))))), ?_⟩
    have b2 : (by exact (2 : Nat)) ≤ sizeLine := by decide
    have e11 : tq (1 : Rat) = [.int 1, .int 1] := rfl
    refine ⟨.ref pl, rfl, pl, _, 0, .ref t1, rfl, rfl, SqL.of el, rfl, b2, fun ta nta => ⟨b2, fun h1 nh1 => ?_⟩⟩
    have sA := (same_upd (o := .tup [.int 1, .int 1]) nta).trans (same_upd (o := .lst [.ref t1, .ref ta]) nh1)
    have ha1 : Pl (upd (upd H ta (.tup [.int 1, .int 1])) h1 (.lst [.ref t1, .ref ta])) h1 q 1 := pl_two upd_same (sA _ _ et1) ((same_upd nh1) _ _ upd_same)
    generalize upd (upd H ta (.tup [.int 1, .int 1])) h1 (.lst [.ref t1, .ref ta]) = H1 at sA ha1
    refine ⟨.str (tx bs), rfl, .ref ia, rfl, bs, .ref ia, .non, q, 1, rfl, hR, .inr ⟨ia, rfl, pi.same sA⟩, .inl ⟨rfl, rfl⟩, fun H2 pa ks ws sa na ea ek tg pk => ?_⟩
    refine ⟨.str (tx bs), rfl, .ref h1, rfl, bs, pa, h1, q, 1, rfl, hR, ⟨ks, ws, ea, ek, tg, pk⟩, ha1.same sa, pi.2.2, sz_one, fun H3 sb => ⟨true, rfl, iteF ?_⟩⟩
    have sB := sA.trans (sa.trans sb)
    have ha3 := ha1.same (sa.trans sb)
    refine ⟨.str (tx bs), rfl, .ref ia, rfl, rfl, rfl, bs, .ref ia, .non, q, 1, rfl, hR, .inr ⟨ia, rfl, pi.same sB⟩, .inl ⟨rfl, rfl⟩, fun H4 pb ks2 ws2 sc nb eb ek2 tg2 pk2 => ?_⟩
    refine ⟨.str (tx bs), rfl, .ref h1, rfl, bs, pb, h1, q, 1, rfl, hR, ⟨ks2, ws2, eb, ek2, tg2, pk2⟩, ha3.same sc, pi.2.2, sz_one, fun H5 sd => ⟨true, rfl, iteF ?_⟩⟩
    have sC := sB.trans (sc.trans sd)
    clear ha1 ha3 ea tg pk eb tg2 pk2 sA sa sb sB sc sd
    -- pace_of
    refine ⟨.str (tx bs), rfl, .str (tx bs), rfl, tx bs, rfl, row_size hR, .ref ia, rfl, bs, bs.length, .ref ia, .non, q, 1, (by rw [tx_len]; rfl), hR, .inr ⟨ia, rfl, pi.same sC⟩, .inl ⟨rfl, rfl⟩, fun H6 p6 s6 pc6 => ⟨b2, fun t6 n6 => ?_⟩⟩
    have pw6 : paceAt bs q 1 bs.length = 1 := by
      unfold paceAt
      rw [if_neg (by have := hR.1; omega), if_pos rfl]
    rw [pw6] at pc6
    refine ⟨p6, t6, 1, 1, rfl, by rw [one_one]; exact pc6.1.same (same_upd n6), upd_same, by decide, by decide, fun H7 s7 => ⟨true, rfl, iteF ?_⟩⟩
    have sD := sC.trans (s6.trans ((same_upd n6).trans s7))
    clear sC pc6 s6 s7
    refine ⟨.str (tx bs), rfl, .ref oa, rfl, rfl, rfl, bs, 0, .non, .ref oa, 1, r, rfl, hR, .inl ⟨rfl, rfl⟩, .inr ⟨oa, rfl, po.same sD⟩, fun H8 p8 s8 pc8 => ⟨b2, fun t8 n8 => ?_⟩⟩
    have pw8 : paceAt bs 1 r 0 = 1 := by
      unfold paceAt
      rw [if_pos rfl]
    rw [pw8] at pc8
    refine ⟨p8, t8, 1, 1, rfl, by rw [one_one]; exact pc8.1.same (same_upd n8), upd_same, by decide, by decide, fun H9 s9 => ⟨true, rfl, iteF ?_⟩⟩
    have sE := sD.trans (s8.trans ((same_upd n8).trans s9))
    clear sD pc8 s8 s9
    -- the other half
    refine ⟨b2, fun tb ntb => ?_⟩
    have sF := sE.trans (same_upd (o := .tup [.int 1, .int 1]) ntb)
    have etb : upd H9 tb (.tup [.int 1, .int 1]) tb = some (.tup (tq 1)) := upd_same
    generalize upd H9 tb (.tup [.int 1, .int 1]) = H10 at sF etb
    refine ⟨.ref pl, rfl, pl, _, 1, .ref t2, rfl, rfl, SqL.of (sF _ _ el), rfl, b2, fun h2 nh2 => ?_⟩
    have sG := sF.trans (same_upd (o := .lst [.ref tb, .ref t2]) nh2)
    have hb1 : Pl (upd H10 h2 (.lst [.ref tb, .ref t2])) h2 1 r := pl_two upd_same ((same_upd nh2) _ _ etb) (sG _ _ et2)
    generalize upd H10 h2 (.lst [.ref tb, .ref t2]) = H11 at sG hb1
    clear sE sF etb
    refine ⟨.str (tx bs), rfl, bs, .non, .non, 1, 1, rfl, hR, .inl ⟨rfl, rfl⟩, .inl ⟨rfl, rfl⟩, fun H12 pc ks ws sa nc ec ek tg pk => ?_⟩
    refine ⟨.str (tx bs), rfl, b2, fun u1 nu1 => ⟨b2, fun u2 nu2 => ⟨b2, fun u3 nu3 => ?_⟩⟩⟩
    have sU := ((same_upd (o := .tup [.int 1, .int 1]) nu1).trans (same_upd (o := .tup [.int 1, .int 1]) nu2)).trans (same_upd (o := .lst [.ref u1, .ref u2]) nu3)
    have e1 : upd H12 u1 (.tup [.int 1, .int 1]) u1 = some (.tup (tq 1)) := upd_same
    have hu1 : Pl (upd (upd (upd H12 u1 (.tup [.int 1, .int 1])) u2 (.tup [.int 1, .int 1])) u3 (.lst [.ref u1, .ref u2])) u3 1 1 := pl_two upd_same ((same_upd nu3) _ _ ((same_upd nu2) _ _ e1)) ((same_upd nu3) _ _ upd_same)
    generalize upd (upd (upd H12 u1 (.tup [.int 1, .int 1])) u2 (.tup [.int 1, .int 1])) u3 (.lst [.ref u1, .ref u2]) = H13 at sU hu1
    refine ⟨bs, pc, u3, 1, 1, rfl, hR, Chd.same sU ⟨ks, ws, ec, ek, tg, pk⟩, hu1, sz_one, sz_one, fun H14 sb => ⟨true, rfl, ?_⟩⟩
    have sH := sa.trans (sU.trans sb)
    refine ⟨.str (tx bs), rfl, .ref oa, rfl, bs, .non, .ref oa, 1, r, rfl, hR, .inl ⟨rfl, rfl⟩, .inr ⟨oa, rfl, po.same (sG.trans sH)⟩, fun H15 pd ks2 ws2 sc nd' ed ek2 tg2 pk2 => ?_⟩
    exact ⟨.str (tx bs), rfl, .ref h2, rfl, bs, pd, h2, 1, r, rfl, hR, ⟨ks2, ws2, ed, ek2, tg2, pk2⟩, hb1.same (sH.trans sc), sz_one, po.2.2, fun H16 sd => hq H16 (sG.trans (sH.trans (sc.trans sd)))⟩
end
end Hop

set_option Elab.async false
set_option linter.all false
set_option maxRecDepth 100000
set_option exponentiation.threshold 200000
namespace Hop
open PySem L2 HopR HopT HopH
open C8 (InsC call_isC)
abbrev sLaw : Stmt := top 44
theorem two_drawn {c z0 z1 : Int} (h0 : 0 < z0) (h1 : 0 < z1) : ∃ e0 e1 : Int, draws c 0 [z0, z1] = [e0, e1] ∧ (0 ≤ e0 ∧ e0 < z0) ∧ (0 ≤ e1 ∧ e1 < z1) := ⟨_, _, rfl, dval_ok h0, dval_ok h1⟩
theorem sign_x : ("x" : Str) = ⟨#[120]⟩ := by decide +kernel
theorem isRow_more {z : Str} {c : Nat} (h : okc c = false) : isRowB (z ++ ⟨#[c]⟩) = false := by
  unfold isRowB
  have e : (z ++ (⟨#[c]⟩ : Str)).cps.toList = z.cps.toList ++ [c] := Array.toList_append
  rw [e, List.all_append, List.all_cons, h]
  simp
theorem isRow_far {z : Str} (h : 30 < z.length) : isRowB z = false := by
  unfold isRowB
  rw [decide_eq_false (show ¬ z.length ≤ 30 by omega)]
  simp
theorem half_num : (Rat.divInt (-1) 2).num < 1 := by decide +kernel
theorem nought_num : (Rat.divInt 0 1).num < 1 := by decide +kernel
theorem bb_eqv (c e : Bool) : PyData.eqv (.list [.bool c, .bool e]) (.list [.bool c, .bool e]) = true := by cases c <;> cases e <;> rfl
theorem bb_sh (c e : Bool) : SeqAt.shaped (.list [.bool c, .bool e]) = true := by cases c <;> cases e <;> rfl
theorem bb_dp {K : PySem.W.Frag} {H : Hp} {a : Addr} {c e : Bool} (h : H a = some (.lst [.bl c, .bl e])) : Dp K H (.ref a) (.list [.bool c, .bool e]) := .lst (SqL.of h) (.cons (.bl _) (.cons (.bl _) .nil))
/-- things of these kinds are no Parts -/
structure Kp (K : PySem.W.Frag) (C : Addr) : Prop where
  int : PySem.W.kitOne K (.type "int") (.ref C) = some false
  bool : PySem.W.kitOne K (.type "bool") (.ref C) = some false
  str : PySem.W.kitOne K (.type "str") (.ref C) = some false
  tuple : PySem.W.kitOne K (.type "tuple") (.ref C) = some false
  list : PySem.W.kitOne K (.type "list") (.ref C) = some false
  dict : PySem.W.kitOne K (.type "dict") (.ref C) = some false
abbrev nLaw : List Str := ["_law_script", "_law_cell", "_law_row_here", "_law_paces_here", "_law_ipace", "_law_opace", "_law_turn", "_law_found", "_law_shut", "_law_draws", "_law_odd", "_law_bad"]
theorem scLaw : FnScope nLaw ["_law_script"] (defScope sLaw) := ⟨rfl, rfl, rfl, by decide +kernel, rfl, by decide +kernel, by decide +kernel⟩
section
variable {P : Program} {w : World} {K : PySem.W.Frag} {mg : Str → Option Value} {base : Heap} {C d : Addr} {es : Array DictEntry} {n : Nat} {HE NN NR NP : Addr}
variable {fi f1 f2 r1 r2 r3 r4 r6 p1 p2 p3 fc : Addr} {gi g1 g2 s1 s2 s3 s4 s6 q1 q2 q3 gc : FuncData} {d1 : Value}
def spLaw (K : PySem.W.Frag) : Sp := fun vs H Q _ => ∃ (a : Addr) (ns : List Int), vs = [.ref a] ∧ SqL K H a (ns.map V.int) ∧ ns.length ≤ 63 ∧ ∀ H', Q (.bl true) H'
structure LawD (K : PySem.W.Frag) (mg : Str → Option Value) : Prop where
  dr : ∃ r s, Fn K mg "_law_drawn" sDrawn ["_law_cell", "_law_sizes"] r s
  rw : ∃ r s, Fn K mg "_law_row" sLRow ["_law_cell", "_law_most"] r s
  ps : ∃ r s, Fn K mg "_law_paces" sLPaces ["_law_cell"] r s
  ar : ∃ r s, Fn K mg "_law_are" sAre ["_law_found", "_law_row_here", "_law_paces_here"] r s
  ki : ∃ r s, Fn K mg "_law_kind" sKind ["_law_row_here", "_law_ipace", "_law_opace"] r s
  al : ∃ r s, Fn K mg "_law_alone" sAlone ["_law_row_here", "_law_paces_here", "_law_ipace", "_law_opace"] r s
set_option maxHeartbeats 4000000 in
theorem ok_law {f : Addr} {fd : FuncData} (F : Fun K "law" "law" sLaw f fd) (L : LawD K mg) (DA : AreD K mg) (Fc : FunD K "changes" "changes" (defArgs sChg) (defBody sChg) (defScope sChg) [.non, .non] [] fc gc) (gC : mg "changes" = some (.ref fc)) (bC : Binds K gc nCh [])
    (D : CgDefs K mg C fi f1 f2 r1 r2 r3 r4 r6 p1 p2 p3 gi g1 g2 s1 s2 s3 s4 s6 q1 q2 q3 d1) (kpt : Kp K C) (T : TxtP K mg C) (TR : TxtR K w mg d es n) (ke : keysAre es) (TA : TxtA mg) (Z : Ev K mg HE NN NR NP) :
    FnOk P w K mg base CX0 10 f fd ["_law_script"] (spLaw K) := by
  obtain ⟨fdr, gdr, Nd⟩ := L.dr
  obtain ⟨frw, grw, Nr⟩ := L.rw
  obtain ⟨fpa, gpa, Np⟩ := L.ps
  obtain ⟨far, gar, Na⟩ := L.ar
  obtain ⟨fki, gki, Nk⟩ := L.ki
  obtain ⟨fal, gal, Nal⟩ := L.al
  obtain ⟨fs, gs, Ns⟩ := DA.is
  obtain ⟨fl, gl, Nl⟩ := DA.lo
  obtain ⟨fp, gp, Nlp⟩ := DA.pc
  have GI : FnOk P w K mg base CX0 8 fi gi ["self", "top", "bottom"] (spInit C) := ok_init D.N.M.F D.N.M.N1 D.N.M.N2 T
  have Gd : FnOk P w K mg base CX0 9 fdr gdr ["_law_cell", "_law_sizes"] (spDrawn K) := ok_drawn Nd.F T.len T.range
  have Grw : FnOk P w K mg base CX0 9 frw grw ["_law_cell", "_law_most"] spLRow := ok_lrow Nr.F Nd T.len T.range TR.sorted
  have Gpa : FnOk P w K mg base CX0 9 fpa gpa ["_law_cell"] (spLPaces C) := ok_lpaces Np.F Nd Nl T
  have Gc : FnOk P w K mg base CX0 9 fc gc ["row", "inn", "out"] (spChgP C) := ok_chgP Fc D T TR
  have Gp : FnOk P w K mg base CX0 9 p3 q3 ["row", "wall", "inn", "out"] (spPaceOf C) := ok_paceOf D.N T TR
  have Ga : FnOk P w K mg base CX0 9 far gar ["_law_found", "_law_row_here", "_law_paces_here"] (spAre C) := ok_are Na.F DA T TR TA
  have Gs : FnOk P w K mg base CX0 9 fs gs ["_law_found", "_law_due"] (spLIs K C) := ok_is Ns.F Nl T
  have Glp : FnOk P w K mg base CX0 9 fp gp ["_law_row_here", "_law_shut", "_law_paces_here"] spLPace := ok_lpace Nlp.F T
  have Gal : FnOk P w K mg base CX0 9 fal gal ["_law_row_here", "_law_paces_here", "_law_ipace", "_law_opace"] (spAlone C) := ok_alone Nal.F Fc gC bC D DA ⟨_, _, Na⟩ T TR TA
  have Gk : FnOk P w K mg base CX0 9 fki gki ["_law_row_here", "_law_ipace", "_law_opace"] (spKind K C) := ok_kind Nk.F Fc gC bC D T TR ke Z
  have kb2 := kwc_two Fc
  refine F.ok scLaw (fun vs H Q E h => ?_) (fun cdv A outer s H vs Q E hr h => ?_)
  · obtain ⟨a, ns, rfl, _⟩ := h
    rfl
  · obtain ⟨a, ns, rfl, hS, hlen, h⟩ := h
    have nd := scLaw.nd
    have hu := hu66 hr
    have hu64 := Nat.lt_of_le_of_lt (Nat.add_le_add_left (by decide : 64 ≤ 66) _) hu
    refine ⟨_, pss_cons (ps_for PassesOwn.never rfl (pi_list (pe_op op_cat (pe_slice sl_list (pv 0) po_none (po_some pe_int)) (pe_lst (pa_cons pe_int pa_nil)))) (pg_name (i := 1) nd rfl (.inl rfl))
        (pss_cons (ps_set (i := 2) nd rfl (.inl rfl) (pe_call Grw hr (by rfl) Nr.g Nr.F.kp Nr.b .nil pass0 (pa_cons (pe_op op_fdiv (pv 1) pe_int) (pa_cons pe_int pa_nil))))
        (pss_cons (ps_set (i := 3) nd rfl (.inl rfl) (pe_call Gpa hr (by rfl) Np.g Np.F.kp Np.b .nil pass0 (pa_cons (pv 1) pa_nil)))
        (pss_cons (ps_set (i := 4) nd rfl (.inl rfl) (pe_make D.N.M.M GI hr (by rfl) T.mgC D.N.M.b3 .nil pass0 (pa_cons (pe_ix ix_tup (pe_ix ix_list (pv 3) pe_int (fun _ _ => rfl)) pe_int (fun _ _ => rfl)) (pa_cons (pe_ix ix_tup (pe_ix ix_list (pv 3) pe_int (fun _ _ => rfl)) pe_int (fun _ _ => rfl)) pa_nil))))
        (pss_cons (ps_set (i := 5) nd rfl (.inl rfl) (pe_make D.N.M.M GI hr (by rfl) T.mgC D.N.M.b3 .nil pass0 (pa_cons (pe_ix ix_tup (pe_ix ix_list (pv 3) pe_int (fun _ _ => rfl)) pe_int (fun _ _ => rfl)) (pa_cons (pe_ix ix_tup (pe_ix ix_list (pv 3) pe_int (fun _ _ => rfl)) pe_int (fun _ _ => rfl)) pa_nil))))
        (pss_cons (ps_for PassesOwn.never rfl (pi_range1 (by rfl) T.range (pa_cons pe_int pa_nil)) (pg_name (i := 6) nd rfl (.inl rfl))
          (pss_cons (ps_set (i := 7) nd rfl (.inl rfl) (pe_call Gc hr (by rfl) gC Fc.kp bC .nil pass0 (pa_cons (pv 2) (pa_cons (pv 4) (pa_cons (pv 5) pa_nil)))))
          (pss_cons (ps_if (pt_not (pt_val (pe_call Ga hr (by rfl) Na.g Na.F.kp Na.b .nil pass0 (pa_cons (pv 7) (pa_cons (pv 2) (pa_cons (pv 3) pa_nil)))))) (pss_one (ps_ret pe_bl)) pss_nil)
          (pss_cons (ps_expr (pe_bm0 PySem.F.plainAttrs_list PySem.F.slot_list_clear PySem.F.type_list_clear mt_clear (pv 7)))
          (pss_one (ps_if (pt_not (pt_val (pe_call Ga hr (by rfl) Na.g Na.F.kp Na.b .nil pass0 (pa_cons (pe_callN Gc hr (by rfl) gC Fc.kp kb2 pass0 (pa_cons (pv 2) pa_nil) (pk_cons (pv 5) (pk_cons (pv 4) pk_nil))) (pa_cons (pv 2) (pa_cons (pv 3) pa_nil)))))) (pss_one (ps_ret pe_bl)) pss_nil))))))
        (pss_cons (ps_if (pt_not (pt_val (pe_call Gal hr (by rfl) Nal.g Nal.F.kp Nal.b .nil pass0 (pa_cons (pv 2) (pa_cons (pv 3) (pa_cons (pv 4) (pa_cons (pv 5) pa_nil))))))) (pss_one (ps_ret pe_bl)) pss_nil)
        (pss_cons (ps_for PassesOwn.never rfl (pi_range1 (by rfl) T.range (pa_cons (pe_op op_add (pe_callB call_len_str (by rfl) T.len PySem.boot_len (pa_cons (pv 2) pa_nil)) pe_int) pa_nil)) (pg_name (i := 8) nd rfl (.inl rfl))
          (pss_one (ps_if (pt_not (pt_val (pe_call Gs hr (by rfl) Ns.g Ns.F.kp Ns.b .nil pass0 (pa_cons (pe_call Gp hr (by rfl) D.N.g3 D.N.F3.kp D.N.b3 .nil pass0 (pa_cons (pv 2) (pa_cons (pv 8) (pa_cons (pv 4) (pa_cons (pv 5) pa_nil))))) (pa_cons (pe_call Glp hr (by rfl) Nlp.g Nlp.F.kp Nlp.b .nil pass0 (pa_cons (pv 2) (pa_cons (pv 8) (pa_cons (pv 3) pa_nil)))) pa_nil))))) (pss_one (ps_ret pe_bl)) pss_nil)))
        (pss_cons (ps_set (i := 9) nd rfl (.inl rfl) (pe_call Gd hr (by rfl) Nd.g Nd.F.kp Nd.b .nil pass0 (pa_cons (pe_op op_fdiv (pv 1) pe_int) (pa_cons (pe_lst (pa_cons pe_int (pa_cons pe_int pa_nil))) pa_nil))))
        (pss_cons (ps_set (i := 10) nd rfl (.inl rfl) (pe_ix ix_list (pe_lst (pa_cons (pe_make D.N.M.M GI hr (by rfl) T.mgC D.N.M.b2 (.cons D.N.M.r1 .nil) pass0 (pa_cons pe_int pa_nil)) (pa_cons (pe_make D.N.M.M GI hr (by rfl) T.mgC D.N.M.b3 .nil pass0 (pa_cons (pe_un un_neg pe_int) (pa_cons pe_int pa_nil)))
            (pa_cons pe_int (pa_cons pe_int (pa_cons pe_bl (pa_cons pe_str (pa_cons (pe_tup (pa_cons pe_int (pa_cons pe_int pa_nil))) (pa_cons (pe_lst (pa_cons (pv 4) pa_nil)) (pa_cons pe_dnewK pa_nil)))))))))) (pe_ix ix_list (pv 9) pe_int (fun _ _ => rfl)) (fun _ _ => rfl)))
        (pss_cons (ps_set (i := 11) nd rfl (.inl rfl) (pe_ix ix_list (pe_lst (pa_cons pe_str (pa_cons pe_non (pa_cons pe_int (pa_cons (pe_lst (pa_cons (pv 2) pa_nil)) (pa_cons (pe_tup (pa_cons (pv 2) pa_nil)) (pa_cons (pe_op op_add_str (pv 2) pe_str) (pa_cons (pe_op op_repS (pv 2) pe_int) (pa_cons pe_dnewK pa_nil))))))))) (pe_ix ix_list (pv 9) pe_int (fun _ _ => rfl)) (fun _ _ => rfl)))
        (pss_cons (ps_if (PW.pt (pw_or (pt_cmpR (op_neD hu64) (pe_call Gk hr (by rfl) Nk.g Nk.F.kp Nk.b .nil pass0 (pa_cons (pv 2) (pa_cons (pv 10) (pa_cons (pv 5) pa_nil)))) (pe_lst (pa_cons pe_bl (pa_cons pe_bl pa_nil))) (nomark _)) (pw_or1 (pt_cmpR (op_neD hu64) (pe_call Gk hr (by rfl) Nk.g Nk.F.kp Nk.b .nil pass0 (pa_cons (pv 2) (pa_cons (pv 4) (pa_cons (pv 10) pa_nil)))) (pe_lst (pa_cons pe_bl (pa_cons pe_bl pa_nil))) (nomark _))))) (pss_one (ps_ret pe_bl)) pss_nil)
        (pss_cons (ps_if (PW.pt (pw_or (pt_cmpR (op_neD hu64) (pe_call Gk hr (by rfl) Nk.g Nk.F.kp Nk.b .nil pass0 (pa_cons (pv 11) (pa_cons (pv 10) (pa_cons (pv 10) pa_nil)))) (pe_lst (pa_cons pe_bl (pa_cons pe_bl pa_nil))) (nomark _)) (pw_or1 (pt_cmpR (op_neD hu64) (pe_call Gk hr (by rfl) Nk.g Nk.F.kp Nk.b .nil pass0 (pa_cons (pv 11) (pa_cons (pv 4) (pa_cons (pv 5) pa_nil)))) (pe_lst (pa_cons pe_bl (pa_cons pe_bl pa_nil))) (nomark _))))) (pss_one (ps_ret pe_bl)) pss_nil)
        (pss_one (ps_if (PW.pt (pw_or (pt_not (pt_val (pe_call Gs hr (by rfl) Ns.g Ns.F.kp Ns.b .nil pass0 (pa_cons (pv 4) (pa_cons (pe_ix ix_list (pv 3) pe_int (fun _ _ => rfl)) pa_nil))))) (pw_or1 (pt_not (pt_val (pe_call Gs hr (by rfl) Ns.g Ns.F.kp Ns.b .nil pass0 (pa_cons (pv 5) (pa_cons (pe_ix ix_list (pv 3) pe_int (fun _ _ => rfl)) pa_nil)))))))) (pss_one (ps_ret pe_bl)) pss_nil)))))))))))))))
      (pss_one (ps_ret pe_bl)), ?_⟩
    refine ⟨.ref a, rfl, 30, rfl, a, _, rfl, hS, fun p np => ⟨(by show 1 ≤ sizeLine; decide), fun p2 np2 => ?_⟩⟩
    obtain ⟨zs, ez, hzl⟩ := cut_ints ns 30 hlen
    rw [ez] at np2 ⊢
    have s8 := same_upd (o := .lst (zs.map V.int)) np
    have e8 : upd H p (.lst (zs.map V.int)) p = some (.lst (zs.map V.int)) := upd_same
    generalize upd H p (.lst (zs.map V.int)) = H8 at s8 e8 np2
    have s9 := same_upd (o := .lst [.int 0]) np2
    have e9 : upd H8 p2 (.lst [.int 0]) p2 = some (.lst [.int 0]) := upd_same
    generalize upd H8 p2 (.lst [.int 0]) = H9 at s9 e9
    refine ⟨p, p2, zs.map V.int, [.int 0], rfl, rfl, s9 _ _ e8, e9, ?_, fun p3 np3 => ?_⟩
    · rw [List.length_map]
      exact Nat.le_trans (Nat.add_le_add_right hzl 1) (by decide)
    have ecat : zs.map V.int ++ [V.int 0] = (zs ++ [0]).map V.int := by rw [List.map_append]; rfl
    rw [ecat]
    have eX : upd H9 p3 (.lst ((zs ++ [0]).map V.int)) p3 = some (.lst ((zs ++ [0]).map V.int)) := upd_same
    generalize upd H9 p3 (.lst ((zs ++ [0]).map V.int)) = HX at eX
    clear s8 e8 s9 e9 np np2 np3 ecat ez hzl
    refine ⟨p3, rfl, ⟨_, SqL.of eX⟩, ?_⟩
    refine for_list (K := K) (a := p3) (xs := (zs ++ [0]).map V.int) (fun i σ H1 => ∃ y1 y2 y3 y4 y5 y6 y7 y8 y9 y10 y11, σ = [some (.ref a), y1, y2, y3, y4, y5, y6, y7, y8, y9, y10, y11] ∧ Same HX H1)
      ⟨_, _, _, _, _, _, _, _, _, _, _, rfl, Same.refl _⟩ (fun i σ H1 _ ⟨_, _, _, _, _, _, _, _, _, _, _, _, h⟩ => SqL.of (h _ _ eX)) ?_ (fun σ H1 _ => h H1)
    rintro i x σ H0 hx ⟨y1, y2, y3, y4, y5, y6, y7, y8, y9, y10, y11, rfl, sX0⟩
    rw [List.getElem?_map] at hx
    obtain ⟨c, hc, rfl⟩ := Option.map_eq_some_iff.mp hx
    have up : ∀ {x : Nat}, x < 2 ^ 45 → x < 2 ^ 8000 := fun h => Nat.lt_of_lt_of_le h (Nat.pow_le_pow_right (by decide) (by decide))
    -- the row, the paces
    refine ⟨.int c, rfl, c, 11, rfl, rfl, ⟨by decide, by decide⟩, c / 11, 30, rfl, by decide, by decide, fun H1 bs s1 h1 h30 => ?_⟩
    have hR : Row bs := ⟨h1, h30⟩
    refine ⟨.int c, rfl, c, rfl, fun H2 tl t1 t2 q r s2 n2 etl et1 et2 hq hrr zq zr => ?_⟩
    have zr45 : Sz 45 r := zr.mono (by decide)
    refine ⟨.ref tl, rfl, tl, _, 0, .ref t1, rfl, rfl, SqL.of etl, rfl, t1, _, 0, .int q.num, rfl, rfl, SqT.of et1, rfl, .ref tl, rfl, tl, _, 0, .ref t1, rfl, rfl, SqL.of etl, rfl, t1, _, 1, .int (q.den : Int), rfl, rfl, SqT.of et1, rfl, ?_⟩
    intro ia da nia nda nea
    refine ⟨ia, da, q.num, (q.den : Int), rfl, den_ne q, up zq.2, upd_same, rfl, ?_⟩
    rw [upd_upd]
    obtain ⟨s3, pa3⟩ := mk_facts (C := C) (q := Rat.divInt q.num (q.den : Int)) nia nda
    generalize upd (upd H2 da (.own ia)) ia (.ins C da (pf (Rat.divInt q.num (q.den : Int)))) = H3 at s3 pa3
    rw [Rat.num_divInt_den] at pa3
    refine ⟨.ref tl, rfl, tl, _, 1, .ref t2, rfl, rfl, SqL.of (s3 _ _ etl), rfl, t2, _, 0, .int r.num, rfl, rfl, SqT.of (s3 _ _ et2), rfl, .ref tl, rfl, tl, _, 1, .ref t2, rfl, rfl, SqL.of (s3 _ _ etl), rfl, t2, _, 1, .int (r.den : Int), rfl, rfl, SqT.of (s3 _ _ et2), rfl, ?_⟩
    intro oa db noa ndb neb
    refine ⟨oa, db, r.num, (r.den : Int), rfl, den_ne r, up zr45.2, upd_same, rfl, ?_⟩
    rw [upd_upd]
    obtain ⟨s4, pb4⟩ := mk_facts (C := C) (q := Rat.divInt r.num (r.den : Int)) noa ndb
    generalize upd (upd H3 db (.own oa)) oa (.ins C db (pf (Rat.divInt r.num (r.den : Int)))) = H4 at s4 pb4
    rw [Rat.num_divInt_den] at pb4
    have pi4 : PC C H4 ia q := ⟨pa3.same s4, hq, zq⟩
    have po4 : PC C H4 oa r := ⟨pb4, hrr, zr45⟩
    have s24 := s3.trans s4
    have hpl4 : Pl H4 tl q r := pl_two (s24 _ _ etl) (s24 _ _ et1) (s24 _ _ et2)
    have etl4 := s24 _ _ etl
    have et14 := s24 _ _ et1
    have et24 := s24 _ _ et2
    have sX4 := sX0.trans (s1.trans (s2.trans s24))
    clear s1 s2 s3 s4 s24 etl et1 et2 pa3 pb4 n2 nia nda nea noa ndb neb sX0
    have piS : ∀ {Hx : Hp}, Same H4 Hx → PC C Hx ia q := fun z => pi4.same z
    have poS : ∀ {Hx : Hp}, Same H4 Hx → PC C Hx oa r := fun z => po4.same z
    -- twice told
    refine ⟨2, rfl, (by decide), (by decide), ?_⟩
    refine for_range (lo := 0) (n := 2) (fun j σ H5 => ∃ y6 y7, σ = [some (.ref a), some (.int c), some (.str (tx bs)), some (.ref tl), some (.ref ia), some (.ref oa), y6, y7, y8, y9, y10, y11] ∧ Same H4 H5) ⟨_, _, rfl, Same.refl _⟩ ?_ ?_
    · rintro j σ H5 hj ⟨y6, y7, rfl, s5⟩
      refine ⟨.str (tx bs), rfl, .ref ia, rfl, .ref oa, rfl, bs, .ref ia, .ref oa, q, r, rfl, hR, .inr ⟨ia, rfl, piS s5⟩, .inr ⟨oa, rfl, poS s5⟩, fun H6 p6 ks ws s6 n6 e6 ek tg pk => ?_⟩
      refine ⟨.ref p6, rfl, .str (tx bs), rfl, .ref tl, rfl, bs, p6, tl, q, r, rfl, hR, ⟨ks, ws, e6, ek, tg, pk⟩, hpl4.same (s5.trans s6), zq, zr45, fun H7 s7 => ⟨true, rfl, iteF ?_⟩⟩
      have e7 := s7 _ _ e6
      refine ⟨.ref p6, rfl, .inl ⟨rfl, _, SqL.of e7⟩, p6, _, rfl, rfl, e7, ?_⟩
      have sc : Same H5 (upd H7 p6 (.lst [])) := same_new n6 (s6.trans s7)
      generalize upd H7 p6 (.lst []) = H8 at sc
      have s58 := s5.trans sc
      refine ⟨.str (tx bs), rfl, .ref oa, rfl, .ref ia, rfl, rfl, rfl, bs, .ref ia, .ref oa, q, r, rfl, hR, .inr ⟨ia, rfl, piS s58⟩, .inr ⟨oa, rfl, poS s58⟩, fun H9 p9 ks9 ws9 s9 n9 e9 ek9 tg9 pk9 => ?_⟩
      exact ⟨.str (tx bs), rfl, .ref tl, rfl, bs, p9, tl, q, r, rfl, hR, ⟨ks9, ws9, e9, ek9, tg9, pk9⟩, hpl4.same (s58.trans s9), zq, zr45, fun H10 s10 => ⟨true, rfl, iteF ⟨_, _, rfl, s58.trans (s9.trans s10)⟩⟩⟩
    rintro σ H5 ⟨y6, y7, rfl, s5⟩
    -- each pace alone
    refine ⟨.str (tx bs), rfl, .ref tl, rfl, .ref ia, rfl, .ref oa, rfl, bs, tl, ia, oa, q, r, rfl, hR, hpl4.same s5, piS s5, poS s5, fun H6 s6 => ⟨true, rfl, iteF ?_⟩⟩
    have s46 := s5.trans s6
    -- the pace of each wall
    have en1 : (((tx bs).length : Int) + 1).toNat = bs.length + 1 := by
      rw [tx_len]
      omega
    refine ⟨.str (tx bs), rfl, tx bs, rfl, row_size hR, _, 1, rfl, rfl, _, rfl, (by rw [tx_len]; omega), (by rw [tx_len]; omega), ?_⟩
    rw [en1]
    refine for_range (lo := 0) (n := bs.length + 1) (fun j σ H7 => ∃ y8, σ = [some (.ref a), some (.int c), some (.str (tx bs)), some (.ref tl), some (.ref ia), some (.ref oa), y6, y7, y8, y9, y10, y11] ∧ Same H4 H7) ⟨_, rfl, s46⟩ ?_ ?_
    · rintro j σ H7 hj ⟨y8, rfl, s7⟩
      rw [Int.zero_add]
      refine ⟨.str (tx bs), rfl, wv j, rfl, .ref ia, rfl, .ref oa, rfl, bs, j, .ref ia, .ref oa, q, r, rfl, hR, .inr ⟨ia, rfl, piS s7⟩, .inr ⟨oa, rfl, poS s7⟩, fun H8 p8 s8 pc8 => ?_⟩
      refine ⟨.str (tx bs), rfl, wv j, rfl, .ref tl, rfl, bs, j, tl, q, r, rfl, hR, hpl4.same (s7.trans s8), fun H9 dp s9 ed => ?_⟩
      refine ⟨p8, dp, (paceAt bs q r j).num, ((paceAt bs q r j).den : Int), rfl, ?_, ed, den_ne _, up (paceAt_sz zq zr45).2, fun H10 s10 => ⟨true, rfl, iteF ⟨_, rfl, s7.trans (s8.trans (s9.trans s10))⟩⟩⟩
      rw [Rat.num_divInt_den]
      exact pc8.1.same s9
    rintro σ H7 ⟨y8', rfl, s7⟩
    -- draws
    refine ⟨.int c, rfl, c, 13, rfl, rfl, ⟨by decide, by decide⟩, (by show 2 ≤ sizeLine; decide), fun l2 n2 => ?_⟩
    refine ⟨c / 13, l2, [9, 8], rfl, SqL.of upd_same, ?_, by decide, fun H8 pd s8 n8 e8 => ?_⟩
    · intro z hz
      simp only [List.mem_cons, List.not_mem_nil, or_false] at hz
      rcases hz with rfl | rfl <;> exact ⟨by decide, by decide⟩
    obtain ⟨g0, g1, ed, bb0, bb1⟩ := two_drawn (c := c / 13) (z0 := 9) (z1 := 8) (by decide) (by decide)
    rw [ed] at e8
    have s48 := s7.trans ((same_upd (o := .lst ([9, 8].map V.int)) n2).trans s8)
    clear s8 n2 n8 s46 s5 s6 s7 ed
    -- odd
    intro u1 v1 nu1 nv1 ne1
    refine ⟨u1, v1, 0, 1, rfl, by decide, Nat.one_lt_two_pow (by decide), upd_same, rfl, ?_⟩
    rw [upd_upd]
    obtain ⟨x1, pz⟩ := mk_facts (C := C) (q := Rat.divInt 0 1) nu1 nv1
    generalize upd (upd H8 v1 (.own u1)) u1 (.ins C v1 (pf (Rat.divInt 0 1))) = G1 at x1 pz
    refine ⟨1, rfl, ?_⟩
    intro u2 v2 nu2 nv2 ne2
    refine ⟨u2, v2, -1, 2, rfl, by decide, (by decide), upd_same, rfl, ?_⟩
    rw [upd_upd]
    obtain ⟨x2, ph⟩ := mk_facts (C := C) (q := Rat.divInt (-1) 2) nu2 nv2
    generalize upd (upd G1 v2 (.own u2)) u2 (.ins C v2 (pf (Rat.divInt (-1) 2))) = G2 at x2 ph
    refine ⟨(by show 2 ≤ sizeLine; decide), fun tC nC => ⟨.ref ia, rfl, (by show 1 ≤ sizeLine; decide), fun lC nlC => fun dF nF => ⟨(by show 9 ≤ sizeLine; decide), fun lP nP => ?_⟩⟩⟩
    have x3 := same_upd (o := .tup [.int 1, .int 1]) nC
    have eC : upd G2 tC (.tup [.int 1, .int 1]) tC = some (.tup [.int 1, .int 1]) := upd_same
    generalize upd G2 tC (.tup [.int 1, .int 1]) = G3 at x3 eC nlC nF nP
    have x4 := same_upd (o := .lst [.ref ia]) nlC
    have elC : upd G3 lC (.lst [.ref ia]) lC = some (.lst [.ref ia]) := upd_same
    generalize upd G3 lC (.lst [.ref ia]) = G4 at x4 elC nF nP
    have x5 := same_upd (o := .dK []) nF
    have eF : upd G4 dF (.dK []) dF = some (.dK []) := upd_same
    generalize upd G4 dF (.dK []) = G5 at x5 eF nP
    generalize hol : [V.ref u1, .ref u2, .int 1, .int 0, .bl true, .str "1", .ref tC, .ref lC, .ref dF] = ol at nP
    have x6 := same_upd (o := .lst ol) nP
    have eP : upd G5 lP (.lst ol) lP = some (.lst ol) := upd_same
    generalize upd G5 lP (.lst ol) = G6 at x6 eP
    have x26 := ((x3.trans x4).trans x5).trans x6
    have x86 : Same H8 G6 := (x1.trans x2).trans x26
    obtain ⟨xo, hxo, hno⟩ : ∃ b, atI ol g0 = some b ∧ NoPc K C G6 b := by
      rw [← hol]
      rcases (show g0 = 0 ∨ g0 = 1 ∨ g0 = 2 ∨ g0 = 3 ∨ g0 = 4 ∨ g0 = 5 ∨ g0 = 6 ∨ g0 = 7 ∨ g0 = 8 by omega) with rfl | rfl | rfl | rfl | rfl | rfl | rfl | rfl | rfl
      · exact ⟨_, rfl, .inr ⟨u1, _, rfl, pz.same (x2.trans x26), nought_num⟩⟩
      · exact ⟨_, rfl, .inr ⟨u2, _, rfl, ph.same x26, half_num⟩⟩
      · exact ⟨_, rfl, .inl ⟨(fun z => nomatch z), _, .base (.int _), kpt.int⟩⟩
      · exact ⟨_, rfl, .inl ⟨(fun z => nomatch z), _, .base (.int _), kpt.int⟩⟩
      · exact ⟨_, rfl, .inl ⟨(fun z => nomatch z), _, .base (.bl _), kpt.bool⟩⟩
      · exact ⟨_, rfl, .inl ⟨(fun z => nomatch z), _, .base (.str _), kpt.str⟩⟩
      · exact ⟨_, rfl, .inl ⟨(fun z => nomatch z), _, .base (.tup (((x4.trans x5).trans x6) _ _ eC)), kpt.tuple⟩⟩
      · exact ⟨_, rfl, .inl ⟨(fun z => nomatch z), _, .base (.lst ((x5.trans x6) _ _ elC)), kpt.list⟩⟩
      · exact ⟨_, rfl, .inl ⟨(fun z => nomatch z), _, .base (.dK (x6 _ _ eF)), kpt.dict⟩⟩
    have e86 := x86 _ _ e8
    refine ⟨.ref pd, rfl, pd, _, 0, .int g0, rfl, rfl, SqL.of e86, rfl, lP, _, g0, xo, rfl, rfl, SqL.of eP, hxo, ?_⟩
    have s46 := s48.trans x86
    clear x1 x2 x3 x4 x5 x6 x26 x86 pz ph eC elC eF eP nu1 nv1 ne1 nu2 nv2 ne2 nC nlC nF nP hol hxo s48
    -- bad
    have lx : ("x" : Str).length = 1 := by decide +kernel
    refine ⟨.str (tx bs), rfl, (by show 1 ≤ sizeLine; decide), fun lA nA => ⟨.str (tx bs), rfl, (by show 1 ≤ sizeLine; decide), fun tB nB => ⟨.str (tx bs), rfl, tx bs, "x", rfl, rfl, (by rw [lx, tx_len]; exact fit (by omega)), .str (tx bs), rfl, tx bs, 31, rfl, rfl, (by rw [tx_len]; omega), by decide, fun dE nE => ⟨(by show 8 ≤ sizeLine; decide), fun lO nO => ?_⟩⟩⟩⟩
    have sA := same_upd (o := .lst [.str (tx bs)]) nA
    have eA : upd G6 lA (.lst [.str (tx bs)]) lA = some (.lst [.str (tx bs)]) := upd_same
    generalize upd G6 lA (.lst [.str (tx bs)]) = HA at sA eA nB nE nO
    have sB := same_upd (o := .tup [.str (tx bs)]) nB
    have eB : upd HA tB (.tup [.str (tx bs)]) tB = some (.tup [.str (tx bs)]) := upd_same
    generalize upd HA tB (.tup [.str (tx bs)]) = HB at sB eB nE nO
    have sE := same_upd (o := .dK []) nE
    have eE : upd HB dE (.dK []) dE = some (.dK []) := upd_same
    generalize upd HB dE (.dK []) = HE1 at sE eE nO
    generalize hbl : [V.str "", .non, .int 5, .ref lA, .ref tB, .str (tx bs ++ "x"), .str (repS (tx bs) 31), .ref dE] = bl at nO
    have sO := same_upd (o := .lst bl) nO
    have eO : upd HE1 lO (.lst bl) lO = some (.lst bl) := upd_same
    generalize upd HE1 lO (.lst bl) = HO1 at sO eO
    have s6O : Same G6 HO1 := ((sA.trans sB).trans sE).trans sO
    obtain ⟨xb, hxb, hwb⟩ : ∃ b, atI bl g1 = some b ∧ RowB K HO1 b false := by
      rw [← hbl]
      rcases (show g1 = 0 ∨ g1 = 1 ∨ g1 = 2 ∨ g1 = 3 ∨ g1 = 4 ∨ g1 = 5 ∨ g1 = 6 ∨ g1 = 7 by omega) with rfl | rfl | rfl | rfl | rfl | rfl | rfl | rfl
      · exact ⟨_, rfl, .inr ⟨_, rfl, by decide +kernel, by decide +kernel⟩⟩
      · exact ⟨_, rfl, .inl ⟨notxt_non, rfl⟩⟩
      · exact ⟨_, rfl, .inl ⟨notxt_int, rfl⟩⟩
      · exact ⟨_, rfl, .inl ⟨notxt_lst (((sB.trans sE).trans sO) _ _ eA), rfl⟩⟩
      · exact ⟨_, rfl, .inl ⟨notxt_tup ((sE.trans sO) _ _ eB), rfl⟩⟩
      · exact ⟨_, rfl, .inr ⟨_, rfl, by rw [strLen_append, lx, tx_len]; omega, by rw [sign_x, isRow_more (by decide)]⟩⟩
      · have hrl := repS_len (tx bs) 31
        rw [tx_len] at hrl
        exact ⟨_, rfl, .inr ⟨_, rfl, by rw [hrl]; omega, by rw [isRow_far (by rw [hrl]; omega)]⟩⟩
      · exact ⟨_, rfl, .inl ⟨notxt_dK (sO _ _ eE), rfl⟩⟩
    refine ⟨.ref pd, rfl, pd, _, 1, .int g1, rfl, rfl, SqL.of (s6O _ _ e86), rfl, lO, _, g1, xb, rfl, rfl, SqL.of eO, hxb, ?_⟩
    have hnoO := hno.same s6O
    have s4O := s46.trans s6O
    clear sA eA sB eB sE eE sO eO nA nB nE nO hbl hxb e86 e8 hno s46 s6O
    have d2 : (by exact (2 : Nat)) ≤ sizeLine := by decide
    -- no pace
    refine ⟨.str (tx bs), rfl, xo, rfl, .ref oa, rfl, .str (tx bs), xo, .ref oa, false, rfl, ⟨bs, rfl, hR, .inl hnoO⟩, fun I1 k1 m1 nk1 ek1 => ⟨d2, fun w1 nw1 => ?_⟩⟩
    refine ⟨_, _, bb_dp (c := false) (e := true) ((same_upd nw1) _ _ ek1), bb_dp (c := false) (e := true) upd_same, bb_sh _ _, bb_sh _ _, _, rfl, ?_⟩
    rw [bb_eqv]
    have m1' := m1.trans (same_upd (o := .lst [.bl false, .bl true]) nw1)
    generalize upd I1 w1 (.lst [.bl false, .bl true]) = I1' at m1'
    refine iteF ?_
    refine ⟨.str (tx bs), rfl, .ref ia, rfl, xo, rfl, .str (tx bs), .ref ia, xo, false, rfl, ⟨bs, rfl, hR, .inr ⟨⟨q, .inr ⟨ia, rfl, piS (s4O.trans m1')⟩⟩, hnoO.same m1'⟩⟩, fun I2 k2 m2 nk2 ek2 => ⟨d2, fun w2 nw2 => ?_⟩⟩
    refine ⟨_, _, bb_dp (c := false) (e := true) ((same_upd nw2) _ _ ek2), bb_dp (c := false) (e := true) upd_same, bb_sh _ _, bb_sh _ _, _, rfl, ?_⟩
    rw [bb_eqv]
    have m2' := m1'.trans (m2.trans (same_upd (o := .lst [.bl false, .bl true]) nw2))
    generalize upd I2 w2 (.lst [.bl false, .bl true]) = I2' at m2'
    refine iteF ?_
    -- no row
    refine ⟨xb, rfl, xo, rfl, xo, rfl, xb, xo, xo, true, rfl, rowB_same m2' hwb, fun I3 k3 m3 nk3 ek3 => ⟨d2, fun w3 nw3 => ?_⟩⟩
    refine ⟨_, _, bb_dp (c := true) (e := false) ((same_upd nw3) _ _ ek3), bb_dp (c := true) (e := false) upd_same, bb_sh _ _, bb_sh _ _, _, rfl, ?_⟩
    rw [bb_eqv]
    have m3' := m2'.trans (m3.trans (same_upd (o := .lst [.bl true, .bl false]) nw3))
    generalize upd I3 w3 (.lst [.bl true, .bl false]) = I3' at m3'
    refine iteF ?_
    refine ⟨xb, rfl, .ref ia, rfl, .ref oa, rfl, xb, .ref ia, .ref oa, true, rfl, rowB_same m3' hwb, fun I4 k4 m4 nk4 ek4 => ⟨d2, fun w4 nw4 => ?_⟩⟩
    refine ⟨_, _, bb_dp (c := true) (e := false) ((same_upd nw4) _ _ ek4), bb_dp (c := true) (e := false) upd_same, bb_sh _ _, bb_sh _ _, _, rfl, ?_⟩
    rw [bb_eqv]
    have m4' := s4O.trans (m3'.trans (m4.trans (same_upd (o := .lst [.bl true, .bl false]) nw4)))
    generalize upd I4 w4 (.lst [.bl true, .bl false]) = I4' at m4'
    refine iteF ?_
    -- the paces stay
    refine ⟨.ref ia, rfl, .ref tl, rfl, tl, _, 0, .ref t1, rfl, rfl, SqL.of (m4' _ _ etl4), rfl, ia, t1, q.num, (q.den : Int), rfl, by rw [Rat.num_divInt_den]; exact (piS m4').1, m4' _ _ et14, den_ne q, up zq.2, fun J1 j1 => ⟨true, rfl, iteF ?_⟩⟩
    have m5 := m4'.trans j1
    refine ⟨.ref oa, rfl, .ref tl, rfl, tl, _, 1, .ref t2, rfl, rfl, SqL.of (m5 _ _ etl4), rfl, oa, t2, r.num, (r.den : Int), rfl, by rw [Rat.num_divInt_den]; exact (poS m5).1, m5 _ _ et24, den_ne r, up zr45.2, fun J2 j2 => ⟨true, rfl, iteF ?_⟩⟩
    exact ⟨_, _, _, _, _, _, _, _, _, _, _, rfl, sX4.trans (m5.trans j2)⟩
end
end Hop

set_option Elab.async false
set_option linter.all false
set_option maxRecDepth 100000
set_option maxHeartbeats 2000000
namespace Hop
open PySem L2 HopR HopT HopH
open C8 (InsC)
theorem kit_tyC {K : PySem.W.Frag} {C : Addr} {T : String} (hd : PySem.W.hasDictIn K C = true) (ht : PySem.W.typeIn K (.ref C) = some (.type "type")) (h : PySem.W.subIn K (.type T) (.ref C) = some false) : PySem.W.kitOne K (.type T) (.ref C) = some false := by
  obtain ⟨cd, hc, _⟩ := PySem.W.any_some hd
  have e2 : ((PySem.W.clsIn K C).isSome && PySem.W.typeIn K (.ref C) == some (.type "type")) = true := by rw [hc, ht] <;> rfl
  unfold PySem.W.kitOne
  have e1 : ¬ ((Value.type T == Value.ref C) = true) := fun z => nomatch (beq_iff_eq.mp z)
  rw [if_neg e1]
  show (if ((PySem.W.clsIn K C).isSome && PySem.W.typeIn K (.ref C) == some (.type "type")) = true then PySem.W.subIn K (.type T) (.ref C) else none) = some false
  rw [if_pos e2]
  exact h
/-! ### what the top has written -/
theorem all_mk {l : PySem.W.OpenLaw} {w : World} {K : PySem.W.Frag} {h : Heap} {mg : Str → Option Value} {fa : Addr} (X : K.In h) (G : h.Ns mainGlobals mg) (hfa : mg "law" = some (.ref fa))
    {f1 : Addr} {od1 an1 : Option Addr} {sl1 : Array (Option Value)} {oc1 kV1 dc1 pm1 cd1 ct1 : Value}
    {f2 : Addr} {od2 an2 : Option Addr} {sl2 : Array (Option Value)} {oc2 kV2 dc2 pm2 cd2 ct2 : Value}
    {fR1 : Addr} {odR1 anR1 : Option Addr} {slR1 : Array (Option Value)} {ocR1 kVR1 dcR1 pmR1 cdR1 ctR1 : Value}
    {fR2 : Addr} {odR2 anR2 : Option Addr} {slR2 : Array (Option Value)} {ocR2 kVR2 dcR2 pmR2 cdR2 ctR2 : Value}
    {fR3 : Addr} {odR3 anR3 : Option Addr} {slR3 : Array (Option Value)} {ocR3 kVR3 dcR3 pmR3 cdR3 ctR3 : Value}
    {fR4 : Addr} {odR4 anR4 : Option Addr} {slR4 : Array (Option Value)} {ocR4 kVR4 dcR4 pmR4 cdR4 ctR4 : Value}
    {fR6 : Addr} {odR6 anR6 : Option Addr} {slR6 : Array (Option Value)} {ocR6 kVR6 dcR6 pmR6 cdR6 ctR6 : Value}
    {fR0 : Addr} {odR0 anR0 : Option Addr} {slR0 : Array (Option Value)} {ocR0 kVR0 dcR0 pmR0 cdR0 ctR0 : Value}
    {fP1 : Addr} {odP1 anP1 : Option Addr} {slP1 : Array (Option Value)} {ocP1 kVP1 dcP1 pmP1 cdP1 ctP1 : Value}
    {fP2 : Addr} {odP2 anP2 : Option Addr} {slP2 : Array (Option Value)} {ocP2 kVP2 dcP2 pmP2 cdP2 ctP2 : Value}
    {fD1 : Addr} {odD1 anD1 : Option Addr} {slD1 : Array (Option Value)} {ocD1 kVD1 dcD1 pmD1 cdD1 ctD1 : Value}
    {fD2 : Addr} {odD2 anD2 : Option Addr} {slD2 : Array (Option Value)} {ocD2 kVD2 dcD2 pmD2 cdD2 ctD2 : Value}
    {fD3 : Addr} {odD3 anD3 : Option Addr} {slD3 : Array (Option Value)} {ocD3 kVD3 dcD3 pmD3 cdD3 ctD3 : Value}
    {fD4 : Addr} {odD4 anD4 : Option Addr} {slD4 : Array (Option Value)} {ocD4 kVD4 dcD4 pmD4 cdD4 ctD4 : Value}
    {fD5 : Addr} {odD5 anD5 : Option Addr} {slD5 : Array (Option Value)} {ocD5 kVD5 dcD5 pmD5 cdD5 ctD5 : Value}
    {fD6 : Addr} {odD6 anD6 : Option Addr} {slD6 : Array (Option Value)} {ocD6 kVD6 dcD6 pmD6 cdD6 ctD6 : Value}
    {fD7 : Addr} {odD7 anD7 : Option Addr} {slD7 : Array (Option Value)} {ocD7 kVD7 dcD7 pmD7 cdD7 ctD7 : Value}
    {fD8 : Addr} {odD8 anD8 : Option Addr} {slD8 : Array (Option Value)} {ocD8 kVD8 dcD8 pmD8 cdD8 ctD8 : Value}
    {fE1 : Addr} {odE1 anE1 : Option Addr} {slE1 : Array (Option Value)} {ocE1 kVE1 dcE1 pmE1 cdE1 ctE1 : Value}
    {fE2 : Addr} {odE2 anE2 : Option Addr} {slE2 : Array (Option Value)} {ocE2 kVE2 dcE2 pmE2 cdE2 ctE2 : Value}
    {fE3 : Addr} {odE3 anE3 : Option Addr} {slE3 : Array (Option Value)} {ocE3 kVE3 dcE3 pmE3 cdE3 ctE3 : Value}
    {fL : Addr} {odL anL : Option Addr} {slL : Array (Option Value)} {ocL kVL dcL pmL cdL ctL : Value}
    {tb0 : Tok}
    {tf0 : Tok}
    {tm0 : Tok}
    {d : Addr} {es : Array DictEntry} {n : Nat} {tvo tvp : Tok}
    {C : Addr}
    {fi Ti : Addr} {odi ani oTi : Option Addr} {sli sTi : Array (Option Value)} {oci kVi dci pmi cdi cti cTi : Value} {nTi : Nat}
    {tki0 : Tok}
    {fq Tq : Addr} {odq anq oTq : Option Addr} {slq sTq : Array (Option Value)} {ocq kVq dcq pmq cdq ctq cTq : Value} {nTq : Nat}
    {fg Tg : Addr} {odg ang oTg : Option Addr} {slg sTg : Array (Option Value)} {ocg kVg dcg pmg cdg ctg cTg : Value} {nTg : Nat}
    {HE NN NR NP : Addr}
    (a1 : PySem.W.nsIn K mainGlobals "is_whole" = some (some (.ref f1))) (l1 : K.lookup f1 = some ⟨oc1, od1, .func (PySem.W.fnOf "is_whole" "is_whole" (defArgs sIsWhole) (defBody sIsWhole) (defScope sIsWhole) .none kV1 dc1 pm1 an1 cd1 ct1), sl1⟩) (c1 : PySem.W.codeIn K cd1 "is_whole" = true) (k1 : PySem.W.keepIn K (.ref f1) = true)
    (a2 : PySem.W.nsIn K mainGlobals "common_divisor" = some (some (.ref f2))) (l2 : K.lookup f2 = some ⟨oc2, od2, .func (PySem.W.fnOf "common_divisor" "common_divisor" (defArgs sDivisor) (defBody sDivisor) (defScope sDivisor) .none kV2 dc2 pm2 an2 cd2 ct2), sl2⟩) (c2 : PySem.W.codeIn K cd2 "common_divisor" = true) (k2 : PySem.W.keepIn K (.ref f2) = true)
    (aR1 : PySem.W.nsIn K mainGlobals "is_row" = some (some (.ref fR1))) (lR1 : K.lookup fR1 = some ⟨ocR1, odR1, .func (PySem.W.fnOf "is_row" "is_row" (defArgs sIsRow) (defBody sIsRow) (defScope sIsRow) .none kVR1 dcR1 pmR1 anR1 cdR1 ctR1), slR1⟩) (cR1 : PySem.W.codeIn K cdR1 "is_row" = true) (kR1 : PySem.W.keepIn K (.ref fR1) = true)
    (aR2 : PySem.W.nsIn K mainGlobals "need_row" = some (some (.ref fR2))) (lR2 : K.lookup fR2 = some ⟨ocR2, odR2, .func (PySem.W.fnOf "need_row" "need_row" (defArgs sNeedRow) (defBody sNeedRow) (defScope sNeedRow) .none kVR2 dcR2 pmR2 anR2 cdR2 ctR2), slR2⟩) (cR2 : PySem.W.codeIn K cdR2 "need_row" = true) (kR2 : PySem.W.keepIn K (.ref fR2) = true)
    (aR3 : PySem.W.nsIn K mainGlobals "with_ends" = some (some (.ref fR3))) (lR3 : K.lookup fR3 = some ⟨ocR3, odR3, .func (PySem.W.fnOf "with_ends" "with_ends" (defArgs sWithEnds) (defBody sWithEnds) (defScope sWithEnds) .none kVR3 dcR3 pmR3 anR3 cdR3 ctR3), slR3⟩) (cR3 : PySem.W.codeIn K cdR3 "with_ends" = true) (kR3 : PySem.W.keepIn K (.ref fR3) = true)
    (aR4 : PySem.W.nsIn K mainGlobals "walls_of" = some (some (.ref fR4))) (lR4 : K.lookup fR4 = some ⟨ocR4, odR4, .func (PySem.W.fnOf "walls_of" "walls_of" (defArgs sWallsOf) (defBody sWallsOf) (defScope sWallsOf) .none kVR4 dcR4 pmR4 anR4 cdR4 ctR4), slR4⟩) (cR4 : PySem.W.codeIn K cdR4 "walls_of" = true) (kR4 : PySem.W.keepIn K (.ref fR4) = true)
    (aR6 : PySem.W.nsIn K mainGlobals "changed" = some (some (.ref fR6))) (lR6 : K.lookup fR6 = some ⟨ocR6, odR6, .func (PySem.W.fnOf "changed" "changed" (defArgs sChanged) (defBody sChanged) (defScope sChanged) .none kVR6 dcR6 pmR6 anR6 cdR6 ctR6), slR6⟩) (cR6 : PySem.W.codeIn K cdR6 "changed" = true) (kR6 : PySem.W.keepIn K (.ref fR6) = true)
    (aR0 : PySem.W.nsIn K mainGlobals "need_open" = some (some (.ref fR0))) (lR0 : K.lookup fR0 = some ⟨ocR0, odR0, .func (PySem.W.fnOf "need_open" "need_open" (defArgs sNeedOpen) (defBody sNeedOpen) (defScope sNeedOpen) .none kVR0 dcR0 pmR0 anR0 cdR0 ctR0), slR0⟩) (cR0 : PySem.W.codeIn K cdR0 "need_open" = true) (kR0 : PySem.W.keepIn K (.ref fR0) = true)
    (aP1 : PySem.W.nsIn K mainGlobals "pace_from" = some (some (.ref fP1))) (lP1 : K.lookup fP1 = some ⟨ocP1, odP1, .func (PySem.W.fnOf "pace_from" "pace_from" (defArgs sPaceFrom) (defBody sPaceFrom) (defScope sPaceFrom) .none kVP1 dcP1 pmP1 anP1 cdP1 ctP1), slP1⟩) (cP1 : PySem.W.codeIn K cdP1 "pace_from" = true) (kP1 : PySem.W.keepIn K (.ref fP1) = true)
    (aP2 : PySem.W.nsIn K mainGlobals "paces_from" = some (some (.ref fP2))) (lP2 : K.lookup fP2 = some ⟨ocP2, odP2, .func (PySem.W.fnOf "paces_from" "paces_from" (defArgs sPacesFrom) (defBody sPacesFrom) (defScope sPacesFrom) .none kVP2 dcP2 pmP2 anP2 cdP2 ctP2), slP2⟩) (cP2 : PySem.W.codeIn K cdP2 "paces_from" = true) (kP2 : PySem.W.keepIn K (.ref fP2) = true)
    (aD1 : PySem.W.nsIn K mainGlobals "_law_drawn" = some (some (.ref fD1))) (lD1 : K.lookup fD1 = some ⟨ocD1, odD1, .func (PySem.W.fnOf "_law_drawn" "_law_drawn" (defArgs sDrawn) (defBody sDrawn) (defScope sDrawn) .none kVD1 dcD1 pmD1 anD1 cdD1 ctD1), slD1⟩) (cD1 : PySem.W.codeIn K cdD1 "_law_drawn" = true) (kD1 : PySem.W.keepIn K (.ref fD1) = true)
    (aD2 : PySem.W.nsIn K mainGlobals "_law_low" = some (some (.ref fD2))) (lD2 : K.lookup fD2 = some ⟨ocD2, odD2, .func (PySem.W.fnOf "_law_low" "_law_low" (defArgs sLow) (defBody sLow) (defScope sLow) .none kVD2 dcD2 pmD2 anD2 cdD2 ctD2), slD2⟩) (cD2 : PySem.W.codeIn K cdD2 "_law_low" = true) (kD2 : PySem.W.keepIn K (.ref fD2) = true)
    (aD3 : PySem.W.nsIn K mainGlobals "_law_is" = some (some (.ref fD3))) (lD3 : K.lookup fD3 = some ⟨ocD3, odD3, .func (PySem.W.fnOf "_law_is" "_law_is" (defArgs sLIs) (defBody sLIs) (defScope sLIs) .none kVD3 dcD3 pmD3 anD3 cdD3 ctD3), slD3⟩) (cD3 : PySem.W.codeIn K cdD3 "_law_is" = true) (kD3 : PySem.W.keepIn K (.ref fD3) = true)
    (aD4 : PySem.W.nsIn K mainGlobals "_law_row" = some (some (.ref fD4))) (lD4 : K.lookup fD4 = some ⟨ocD4, odD4, .func (PySem.W.fnOf "_law_row" "_law_row" (defArgs sLRow) (defBody sLRow) (defScope sLRow) .none kVD4 dcD4 pmD4 anD4 cdD4 ctD4), slD4⟩) (cD4 : PySem.W.codeIn K cdD4 "_law_row" = true) (kD4 : PySem.W.keepIn K (.ref fD4) = true)
    (aD5 : PySem.W.nsIn K mainGlobals "_law_paces" = some (some (.ref fD5))) (lD5 : K.lookup fD5 = some ⟨ocD5, odD5, .func (PySem.W.fnOf "_law_paces" "_law_paces" (defArgs sLPaces) (defBody sLPaces) (defScope sLPaces) .none kVD5 dcD5 pmD5 anD5 cdD5 ctD5), slD5⟩) (cD5 : PySem.W.codeIn K cdD5 "_law_paces" = true) (kD5 : PySem.W.keepIn K (.ref fD5) = true)
    (aD6 : PySem.W.nsIn K mainGlobals "_law_open" = some (some (.ref fD6))) (lD6 : K.lookup fD6 = some ⟨ocD6, odD6, .func (PySem.W.fnOf "_law_open" "_law_open" (defArgs sOpen) (defBody sOpen) (defScope sOpen) .none kVD6 dcD6 pmD6 anD6 cdD6 ctD6), slD6⟩) (cD6 : PySem.W.codeIn K cdD6 "_law_open" = true) (kD6 : PySem.W.keepIn K (.ref fD6) = true)
    (aD7 : PySem.W.nsIn K mainGlobals "_law_behind" = some (some (.ref fD7))) (lD7 : K.lookup fD7 = some ⟨ocD7, odD7, .func (PySem.W.fnOf "_law_behind" "_law_behind" (defArgs sBehind) (defBody sBehind) (defScope sBehind) .none kVD7 dcD7 pmD7 anD7 cdD7 ctD7), slD7⟩) (cD7 : PySem.W.codeIn K cdD7 "_law_behind" = true) (kD7 : PySem.W.keepIn K (.ref fD7) = true)
    (aD8 : PySem.W.nsIn K mainGlobals "_law_pace" = some (some (.ref fD8))) (lD8 : K.lookup fD8 = some ⟨ocD8, odD8, .func (PySem.W.fnOf "_law_pace" "_law_pace" (defArgs sLPace) (defBody sLPace) (defScope sLPace) .none kVD8 dcD8 pmD8 anD8 cdD8 ctD8), slD8⟩) (cD8 : PySem.W.codeIn K cdD8 "_law_pace" = true) (kD8 : PySem.W.keepIn K (.ref fD8) = true)
    (aE1 : PySem.W.nsIn K mainGlobals "_law_are" = some (some (.ref fE1))) (lE1 : K.lookup fE1 = some ⟨ocE1, odE1, .func (PySem.W.fnOf "_law_are" "_law_are" (defArgs sAre) (defBody sAre) (defScope sAre) .none kVE1 dcE1 pmE1 anE1 cdE1 ctE1), slE1⟩) (cE1 : PySem.W.codeIn K cdE1 "_law_are" = true) (kE1 : PySem.W.keepIn K (.ref fE1) = true)
    (aE2 : PySem.W.nsIn K mainGlobals "_law_kind" = some (some (.ref fE2))) (lE2 : K.lookup fE2 = some ⟨ocE2, odE2, .func (PySem.W.fnOf "_law_kind" "_law_kind" (defArgs sKind) (defBody sKind) (defScope sKind) .none kVE2 dcE2 pmE2 anE2 cdE2 ctE2), slE2⟩) (cE2 : PySem.W.codeIn K cdE2 "_law_kind" = true) (kE2 : PySem.W.keepIn K (.ref fE2) = true)
    (aE3 : PySem.W.nsIn K mainGlobals "_law_alone" = some (some (.ref fE3))) (lE3 : K.lookup fE3 = some ⟨ocE3, odE3, .func (PySem.W.fnOf "_law_alone" "_law_alone" (defArgs sAlone) (defBody sAlone) (defScope sAlone) .none kVE3 dcE3 pmE3 anE3 cdE3 ctE3), slE3⟩) (cE3 : PySem.W.codeIn K cdE3 "_law_alone" = true) (kE3 : PySem.W.keepIn K (.ref fE3) = true)
    (aL : PySem.W.nsIn K mainGlobals "law" = some (some (.ref fL))) (lL : K.lookup fL = some ⟨ocL, odL, .func (PySem.W.fnOf "law" "law" (defArgs sLaw) (defBody sLaw) (defScope sLaw) .none kVL dcL pmL anL cdL ctL), slL⟩) (cL : PySem.W.codeIn K cdL "law" = true) (kL : PySem.W.keepIn K (.ref fL) = true)
    (z0 : PySem.W.nsIn K mainGlobals "len" = some none)
    (z1 : PySem.W.nsIn K mainGlobals "range" = some none)
    (z2 : PySem.W.nsIn K mainGlobals "abs" = some none)
    (z3 : PySem.W.nsIn K mainGlobals "isinstance" = some none)
    (z4 : PySem.W.nsIn K mainGlobals "int" = some none)
    (z5 : PySem.W.nsIn K mainGlobals "bool" = some none)
    (z6 : PySem.W.nsIn K mainGlobals "all" = some none)
    (z7 : PySem.W.nsIn K mainGlobals "str" = some none)
    (z8 : PySem.W.nsIn K mainGlobals "reversed" = some none)
    (z9 : PySem.W.nsIn K mainGlobals "sorted" = some none)
    (z10 : PySem.W.nsIn K mainGlobals "list" = some none)
    (z11 : PySem.W.nsIn K mainGlobals "repr" = some none)
    (z12 : PySem.W.nsIn K mainGlobals "tuple" = some none)
    (z13 : PySem.W.nsIn K mainGlobals "zip" = some none)
    (z14 : PySem.W.nsIn K mainGlobals "ValueError" = some none)
    (gb0 : PySem.W.nsIn K mainGlobals "BEAD" = some (some (.str "o" tb0)))
    (gf0 : PySem.W.nsIn K mainGlobals "FREE" = some (some (.str "." tf0)))
    (gm0 : PySem.W.nsIn K mainGlobals "MOST_PLACES" = some (some (.int 30 tm0)))
    (gd : PySem.W.nsIn K mainGlobals "OTHER_SIGN" = some (some (.ref d)))
    (ld : K.lookup d = some ⟨.type "dict", none, .dict es n, #[]⟩)
    (kd : PySem.W.KeysLit w.params es.toList)
    (sd : (d == sysModules) = false)
    (keysOk : keysAre es)
    (vo : PySem.W.nsIn K d "o" = some (some (.str "." tvo)))
    (vp : PySem.W.nsIn K d "." = some (some (.str "o" tvp)))
    (gC : PySem.W.nsIn K mainGlobals "Part" = some (some (.ref C)))
    (C_pg : PySem.W.plainGet K C Str.empty = true)
    (C_hd : PySem.W.hasDictIn K C = true)
    (C_po : PySem.W.plainOver K C = true)
    (C_sa : PySem.W.findIn K (.ref C) "__setattr__" = some (some (.builtin "object.__setattr__")))
    (C_mk : PySem.W.makesIn K C = true)
    (C_kc : PySem.W.keepIn K (.ref C) = true)
    (C_ha : PySem.W.findIn K (.ref C) "__class__" = some (some (.builtin "object.__class__")))
    (C_hm : PySem.W.mroIn K C (.type "object") = some true)
    (q_hn : PySem.W.specialIn K (.builtin "object.__class__") "__get__" = some (some (.builtin "getset_descriptor.__get__")))
    (q_htk : PySem.W.takesIn K (.builtin "object.__class__") = some true)
    (C_n_top : PySem.W.findIn K (.ref C) "top" = some none)
    (C_n_bottom : PySem.W.findIn K (.ref C) "bottom" = some none)
    (ai : PySem.W.findIn K (.ref C) "__init__" = some (some (.ref fi)))
    (ni : PySem.W.isFn K (.ref fi) = true)
    (li : K.lookup fi = some ⟨oci, odi, .func (PySem.W.fnOf "__init__" "Part.__init__" (defArgs sInit) (defBody sInit) (defScope sInit) (.ref Ti) kVi dci pmi ani cdi cti), sli⟩)
    (ci : PySem.W.codeIn K cdi "Part.__init__" = true)
    (ki : PySem.W.keepIn K (.ref fi) = true)
    (di : K.lookup Ti = some ⟨cTi, oTi, .seq #[.int 1 tki0] nTi, sTi⟩)
    (aq : PySem.W.nsIn K mainGlobals "pace_of" = some (some (.ref fq)))
    (nq : PySem.W.isFn K (.ref fq) = true)
    (lq : K.lookup fq = some ⟨ocq, odq, .func (PySem.W.fnOf "pace_of" "pace_of" (defArgs sPaceOf) (defBody sPaceOf) (defScope sPaceOf) (.ref Tq) kVq dcq pmq anq cdq ctq), slq⟩)
    (cq : PySem.W.codeIn K cdq "pace_of" = true)
    (kq : PySem.W.keepIn K (.ref fq) = true)
    (dq : K.lookup Tq = some ⟨cTq, oTq, .seq #[.none, .none] nTq, sTq⟩)
    (ag : PySem.W.nsIn K mainGlobals "changes" = some (some (.ref fg)))
    (ng : PySem.W.isFn K (.ref fg) = true)
    (lg : K.lookup fg = some ⟨ocg, odg, .func (PySem.W.fnOf "changes" "changes" (defArgs sChg) (defBody sChg) (defScope sChg) (.ref Tg) kVg dcg pmg ang cdg ctg), slg⟩)
    (cg : PySem.W.codeIn K cdg "changes" = true)
    (kg : PySem.W.keepIn K (.ref fg) = true)
    (dg : K.lookup Tg = some ⟨cTg, oTg, .seq #[.none, .none] nTg, sTg⟩)
    (tyC : PySem.W.typeIn K (.ref C) = some (.type "type"))
    (kt_int : PySem.W.subIn K (.type "int") (.ref C) = some false)
    (kt_bool : PySem.W.subIn K (.type "bool") (.ref C) = some false)
    (kt_str : PySem.W.subIn K (.type "str") (.ref C) = some false)
    (kt_tuple : PySem.W.subIn K (.type "tuple") (.ref C) = some false)
    (kt_list : PySem.W.subIn K (.type "list") (.ref C) = some false)
    (kt_dict : PySem.W.subIn K (.type "dict") (.ref C) = some false)
    (g_HE : PySem.W.nsIn K mainGlobals "HopError" = some (some (.ref HE)))
    (g_NN : PySem.W.nsIn K mainGlobals "NoNumber" = some (some (.ref NN)))
    (g_NR : PySem.W.nsIn K mainGlobals "NoRow" = some (some (.ref NR)))
    (g_NP : PySem.W.nsIn K mainGlobals "NoPace" = some (some (.ref NP)))
    (d_HE : PySem.W.hasDictIn K HE = true)
    (t_HE : PySem.W.typeIn K (.ref HE) = some (.type "type"))
    (d_NN : PySem.W.hasDictIn K NN = true)
    (t_NN : PySem.W.typeIn K (.ref NN) = some (.type "type"))
    (d_NR : PySem.W.hasDictIn K NR = true)
    (t_NR : PySem.W.typeIn K (.ref NR) = some (.type "type"))
    (d_NP : PySem.W.hasDictIn K NP = true)
    (t_NP : PySem.W.typeIn K (.ref NP) = some (.type "type"))
    (b_HE : PySem.W.subIn K (.ref HE) (.type "BaseException") = some true)
    (b_NP : PySem.W.subIn K (.ref NP) (.type "BaseException") = some true)
    (b_NR : PySem.W.subIn K (.ref NR) (.type "BaseException") = some true)
    (x_NR : PySem.W.excIn K NR [.type "ValueError", .type "Exception", .type "BaseException", .type "object"] "ValueError.__new__" = true)
    (k_NR : PySem.W.keepIn K (.ref NR) = true)
    (ga_NR : PySem.W.findIn K (.ref NR) "__getattribute__" = some (some (.builtin "BaseException.__getattribute__")))
    (gt_NR : PySem.W.findIn K (.ref NR) "__getattr__" = some none)
    (cl_NR : PySem.W.findIn K (.ref NR) "__class__" = some (some (.builtin "object.__class__")))
    (mo_NR : PySem.W.mroIn K NR (.type "object") = some true)
    (x_NP : PySem.W.excIn K NP [.type "ValueError", .type "Exception", .type "BaseException", .type "object"] "ValueError.__new__" = true)
    (k_NP : PySem.W.keepIn K (.ref NP) = true)
    (ga_NP : PySem.W.findIn K (.ref NP) "__getattribute__" = some (some (.builtin "BaseException.__getattribute__")))
    (gt_NP : PySem.W.findIn K (.ref NP) "__getattr__" = some none)
    (cl_NP : PySem.W.findIn K (.ref NP) "__class__" = some (some (.builtin "object.__class__")))
    (mo_NP : PySem.W.mroIn K NP (.type "object") = some true)
    (s_NR_HE : PySem.W.subIn K (.ref NR) (.ref HE) = some true)
    (s_NP_HE : PySem.W.subIn K (.ref NP) (.ref HE) = some true)
    (s_NR_NN : PySem.W.subIn K (.ref NR) (.ref NN) = some false)
    (e_NR_NN : NR ≠ NN)
    (s_NP_NN : PySem.W.subIn K (.ref NP) (.ref NN) = some false)
    (e_NP_NN : NP ≠ NN)
    (s_NR_NP : PySem.W.subIn K (.ref NR) (.ref NP) = some false)
    (e_NR_NP : NR ≠ NP)
    (s_NP_NR : PySem.W.subIn K (.ref NP) (.ref NR) = some false)
    (e_NP_NR : NP ≠ NR)
    : ∃ fd : FuncData, (∀ (s : Shared) (v : Value), BindsTo s fd ⟨[v], []⟩ [("_law_script", v)]) ∧ ∀ base : Heap, K.In base → base.Ns mainGlobals mg → FnOk l.prog w K mg base CX0 10 fa fd ["_law_script"] (spLaw K) := by
  have e := hfa.symm.trans (PySem.W.mg_of X G aL)
  cases e
  have F1 := fun_mk (st := sIsWhole) l1 c1 k1
  have b1 := F1.binds (ps := ["thing"]) fun _ _ _ _ _ _ us hl => match us, hl with | [_], _ => rfl
  have N1 := Fn.mk (ps := ["thing"]) F1 b1 (PySem.W.mg_of X G a1)
  have F2 := fun_mk (st := sDivisor) l2 c2 k2
  have b2 := F2.binds (ps := ["one", "other"]) fun _ _ _ _ _ _ us hl => match us, hl with | [_, _], _ => rfl
  have N2 := Fn.mk (ps := ["one", "other"]) F2 b2 (PySem.W.mg_of X G a2)
  have FR1 := fun_mk (st := sIsRow) lR1 cR1 kR1
  have bR1 := FR1.binds (ps := ["thing"]) fun _ _ _ _ _ _ us hl => match us, hl with | [_], _ => rfl
  have NR1 := Fn.mk (ps := ["thing"]) FR1 bR1 (PySem.W.mg_of X G aR1)
  have FR2 := fun_mk (st := sNeedRow) lR2 cR2 kR2
  have bR2 := FR2.binds (ps := ["thing"]) fun _ _ _ _ _ _ us hl => match us, hl with | [_], _ => rfl
  have NR2 := Fn.mk (ps := ["thing"]) FR2 bR2 (PySem.W.mg_of X G aR2)
  have FR3 := fun_mk (st := sWithEnds) lR3 cR3 kR3
  have bR3 := FR3.binds (ps := ["row"]) fun _ _ _ _ _ _ us hl => match us, hl with | [_], _ => rfl
  have NR3 := Fn.mk (ps := ["row"]) FR3 bR3 (PySem.W.mg_of X G aR3)
  have FR4 := fun_mk (st := sWallsOf) lR4 cR4 kR4
  have bR4 := FR4.binds (ps := ["row"]) fun _ _ _ _ _ _ us hl => match us, hl with | [_], _ => rfl
  have NR4 := Fn.mk (ps := ["row"]) FR4 bR4 (PySem.W.mg_of X G aR4)
  have FR6 := fun_mk (st := sChanged) lR6 cR6 kR6
  have bR6 := FR6.binds (ps := ["row", "wall"]) fun _ _ _ _ _ _ us hl => match us, hl with | [_, _], _ => rfl
  have NR6 := Fn.mk (ps := ["row", "wall"]) FR6 bR6 (PySem.W.mg_of X G aR6)
  have FR0 := fun_mk (st := sNeedOpen) lR0 cR0 kR0
  have bR0 := FR0.binds (ps := ["row", "wall"]) fun _ _ _ _ _ _ us hl => match us, hl with | [_, _], _ => rfl
  have NR0 := Fn.mk (ps := ["row", "wall"]) FR0 bR0 (PySem.W.mg_of X G aR0)
  have FP1 := fun_mk (st := sPaceFrom) lP1 cP1 kP1
  have bP1 := FP1.binds (ps := ["thing"]) fun _ _ _ _ _ _ us hl => match us, hl with | [_], _ => rfl
  have NP1 := Fn.mk (ps := ["thing"]) FP1 bP1 (PySem.W.mg_of X G aP1)
  have FP2 := fun_mk (st := sPacesFrom) lP2 cP2 kP2
  have bP2 := FP2.binds (ps := ["inn", "out"]) fun _ _ _ _ _ _ us hl => match us, hl with | [_, _], _ => rfl
  have NP2 := Fn.mk (ps := ["inn", "out"]) FP2 bP2 (PySem.W.mg_of X G aP2)
  have FD1 := fun_mk (st := sDrawn) lD1 cD1 kD1
  have bD1 := FD1.binds (ps := ["_law_cell", "_law_sizes"]) fun _ _ _ _ _ _ us hl => match us, hl with | [_, _], _ => rfl
  have ND1 := Fn.mk (ps := ["_law_cell", "_law_sizes"]) FD1 bD1 (PySem.W.mg_of X G aD1)
  have FD2 := fun_mk (st := sLow) lD2 cD2 kD2
  have bD2 := FD2.binds (ps := ["_law_top", "_law_bottom"]) fun _ _ _ _ _ _ us hl => match us, hl with | [_, _], _ => rfl
  have ND2 := Fn.mk (ps := ["_law_top", "_law_bottom"]) FD2 bD2 (PySem.W.mg_of X G aD2)
  have FD3 := fun_mk (st := sLIs) lD3 cD3 kD3
  have bD3 := FD3.binds (ps := ["_law_found", "_law_due"]) fun _ _ _ _ _ _ us hl => match us, hl with | [_, _], _ => rfl
  have ND3 := Fn.mk (ps := ["_law_found", "_law_due"]) FD3 bD3 (PySem.W.mg_of X G aD3)
  have FD4 := fun_mk (st := sLRow) lD4 cD4 kD4
  have bD4 := FD4.binds (ps := ["_law_cell", "_law_most"]) fun _ _ _ _ _ _ us hl => match us, hl with | [_, _], _ => rfl
  have ND4 := Fn.mk (ps := ["_law_cell", "_law_most"]) FD4 bD4 (PySem.W.mg_of X G aD4)
  have FD5 := fun_mk (st := sLPaces) lD5 cD5 kD5
  have bD5 := FD5.binds (ps := ["_law_cell"]) fun _ _ _ _ _ _ us hl => match us, hl with | [_], _ => rfl
  have ND5 := Fn.mk (ps := ["_law_cell"]) FD5 bD5 (PySem.W.mg_of X G aD5)
  have FD6 := fun_mk (st := sOpen) lD6 cD6 kD6
  have bD6 := FD6.binds (ps := ["_law_row_here"]) fun _ _ _ _ _ _ us hl => match us, hl with | [_], _ => rfl
  have ND6 := Fn.mk (ps := ["_law_row_here"]) FD6 bD6 (PySem.W.mg_of X G aD6)
  have FD7 := fun_mk (st := sBehind) lD7 cD7 kD7
  have bD7 := FD7.binds (ps := ["_law_row_here", "_law_shut"]) fun _ _ _ _ _ _ us hl => match us, hl with | [_, _], _ => rfl
  have ND7 := Fn.mk (ps := ["_law_row_here", "_law_shut"]) FD7 bD7 (PySem.W.mg_of X G aD7)
  have FD8 := fun_mk (st := sLPace) lD8 cD8 kD8
  have bD8 := FD8.binds (ps := ["_law_row_here", "_law_shut", "_law_paces_here"]) fun _ _ _ _ _ _ us hl => match us, hl with | [_, _, _], _ => rfl
  have ND8 := Fn.mk (ps := ["_law_row_here", "_law_shut", "_law_paces_here"]) FD8 bD8 (PySem.W.mg_of X G aD8)
  have FE1 := fun_mk (st := sAre) lE1 cE1 kE1
  have bE1 := FE1.binds (ps := ["_law_found", "_law_row_here", "_law_paces_here"]) fun _ _ _ _ _ _ us hl => match us, hl with | [_, _, _], _ => rfl
  have NE1 := Fn.mk (ps := ["_law_found", "_law_row_here", "_law_paces_here"]) FE1 bE1 (PySem.W.mg_of X G aE1)
  have FE2 := fun_mk (st := sKind) lE2 cE2 kE2
  have bE2 := FE2.binds (ps := ["_law_row_here", "_law_ipace", "_law_opace"]) fun _ _ _ _ _ _ us hl => match us, hl with | [_, _, _], _ => rfl
  have NE2 := Fn.mk (ps := ["_law_row_here", "_law_ipace", "_law_opace"]) FE2 bE2 (PySem.W.mg_of X G aE2)
  have FE3 := fun_mk (st := sAlone) lE3 cE3 kE3
  have bE3 := FE3.binds (ps := ["_law_row_here", "_law_paces_here", "_law_ipace", "_law_opace"]) fun _ _ _ _ _ _ us hl => match us, hl with | [_, _, _, _], _ => rfl
  have NE3 := Fn.mk (ps := ["_law_row_here", "_law_paces_here", "_law_ipace", "_law_opace"]) FE3 bE3 (PySem.W.mg_of X G aE3)
  have y0 := PySem.W.mg_none_of X G z0
  have y1 := PySem.W.mg_none_of X G z1
  have y2 := PySem.W.mg_none_of X G z2
  have y3 := PySem.W.mg_none_of X G z3
  have y4 := PySem.W.mg_none_of X G z4
  have y5 := PySem.W.mg_none_of X G z5
  have y6 := PySem.W.mg_none_of X G z6
  have y7 := PySem.W.mg_none_of X G z7
  have y8 := PySem.W.mg_none_of X G z8
  have y9 := PySem.W.mg_none_of X G z9
  have y10 := PySem.W.mg_none_of X G z10
  have y11 := PySem.W.mg_none_of X G z11
  have y12 := PySem.W.mg_none_of X G z12
  have y13 := PySem.W.mg_none_of X G z13
  have y14 := PySem.W.mg_none_of X G z14
  have wb0 := PySem.W.mg_of X G gb0
  have wf0 := PySem.W.mg_of X G gf0
  have wm0 := PySem.W.mg_of X G gm0
  have CLC : Cls K C := ⟨C_pg, C_hd, C_po, C_sa⟩
  have ICC : C8.InsC K C := ⟨CLC, C_ha, q_hn, q_htk, C_hm, kit_me⟩
  have Fi : FunD K "__init__" "Part.__init__" (defArgs sInit) (defBody sInit) (defScope sInit) [.int 1] [] fi _ := ⟨⟨oci, odi, _, _, _, _, _, _, _, sli, rfl, li, ci, .inr ⟨by simp, Ti, _, [.int 1 tki0], nTi, rfl, di, rfl, .cons (⟨_, rfl⟩) .nil⟩, .inl rfl⟩, ki⟩
  obtain ⟨dsi3, rri3, bi3⟩ := Fi.binds1 (ps := ["self", "top", "bottom"]) 3 1 (by simp) rfl (fun T kV doc pm an cdv ct us its hl hi => match us, its, hl, hi with | [_, _, _], [_], _, _ => ⟨_, rfl, rfl⟩)
  obtain rfl : dsi3 = [] := by cases rri3; rfl
  obtain ⟨dsi2, rri2, bi2⟩ := Fi.binds1 (ps := ["self", "top", "bottom"]) 2 0 (by simp) rfl (fun T kV doc pm an cdv ct us its hl hi => match us, its, hl, hi with | [_, _], [_], _, _ => ⟨_, rfl, rfl⟩)
  obtain ⟨d1i, rfl, r1i⟩ : ∃ d1, dsi2 = [d1] ∧ RelV (.int 1) d1 := by
    cases rri2 with
    | cons r rr =>
      cases rr
      exact ⟨_, rfl, r⟩
  have Fq : FunD K "pace_of" "pace_of" (defArgs sPaceOf) (defBody sPaceOf) (defScope sPaceOf) [.non, .non] [] fq _ := ⟨⟨ocq, odq, _, _, _, _, _, _, _, slq, rfl, lq, cq, .inr ⟨by simp, Tq, _, [.none, .none], nTq, rfl, dq, rfl, .cons (rfl) (.cons (rfl) .nil)⟩, .inl rfl⟩, kq⟩
  obtain ⟨dsq4, rrq4, bq4⟩ := Fq.binds1 (ps := ["row", "wall", "inn", "out"]) 4 2 (by simp) rfl (fun T kV doc pm an cdv ct us its hl hi => match us, its, hl, hi with | [_, _, _, _], [_, _], _, _ => ⟨_, rfl, rfl⟩)
  obtain rfl : dsq4 = [] := by cases rrq4; rfl
  have Fg : FunD K "changes" "changes" (defArgs sChg) (defBody sChg) (defScope sChg) [.non, .non] [] fg _ := ⟨⟨ocg, odg, _, _, _, _, _, _, _, slg, rfl, lg, cg, .inr ⟨by simp, Tg, _, [.none, .none], nTg, rfl, dg, rfl, .cons (rfl) (.cons (rfl) .nil)⟩, .inl rfl⟩, kg⟩
  obtain ⟨dsg3, rrg3, bg3⟩ := Fg.binds1 (ps := ["row", "inn", "out"]) 3 2 (by simp) rfl (fun T kV doc pm an cdv ct us its hl hi => match us, its, hl, hi with | [_, _, _], [_, _], _, _ => ⟨_, rfl, rfl⟩)
  obtain rfl : dsg3 = [] := by cases rrg3; rfl
  have TR : TxtR K w mg d es n := ⟨y0, y1, y6, y3, y7, y4, y5, y8, y9, y10, y11, ⟨_, wb0⟩, ⟨_, wf0⟩, ⟨_, wm0⟩, PySem.W.mg_of X G gd, ⟨ld, kd, sd⟩, ⟨_, vo⟩, ⟨_, vp⟩⟩
  have TA : TxtA mg := ⟨y10, y12, y13⟩
  have KP : Kp K C := ⟨kit_tyC C_hd tyC kt_int, kit_tyC C_hd tyC kt_bool, kit_tyC C_hd tyC kt_str, kit_tyC C_hd tyC kt_tuple, kit_tyC C_hd tyC kt_list, kit_tyC C_hd tyC kt_dict⟩
  have MK : Mks K mg C fi f1 f2 _ _ _ d1i := ⟨⟨C_mk, ai, ni, C_kc⟩, Fi, bi3, bi2, r1i, N1, N2⟩
  have PD : PcDefs K mg C fi f1 f2 fR1 fR2 fP1 fP2 fq _ _ _ _ _ _ _ _ d1i := ⟨MK, NR1, NR2, NP1, NP2, Fq, bq4, PySem.W.mg_of X G aq⟩
  have CD : CgDefs K mg C fi f1 f2 fR1 fR2 fR3 fR4 fR6 fP1 fP2 fq _ _ _ _ _ _ _ _ _ _ _ d1i := ⟨PD, NR3, NR4, NR6, ⟨_, _, NR0⟩⟩
  have AD : AreD K mg := ⟨⟨_, _, ND6⟩, ⟨_, _, ND7⟩, ⟨_, _, ND3⟩, ⟨_, _, ND2⟩, ⟨_, _, ND8⟩⟩
  have LW : LawD K mg := ⟨⟨_, _, ND1⟩, ⟨_, _, ND4⟩, ⟨_, _, ND5⟩, ⟨_, _, NE1⟩, ⟨_, _, NE2⟩, ⟨_, _, NE3⟩⟩
  have Z1 : Ev K mg HE NN NR NP := ⟨y14, PySem.W.mg_of X G g_HE, PySem.W.mg_of X G g_NN, PySem.W.mg_of X G g_NR, PySem.W.mg_of X G g_NP, ⟨x_NR, k_NR, b_NR, t_NR, ⟨ga_NR, gt_NR, b_NR, d_NR, cl_NR, q_hn, q_htk, mo_NR⟩⟩, ⟨x_NP, k_NP, b_NP, t_NP, ⟨ga_NP, gt_NP, b_NP, d_NP, cl_NP, q_hn, q_htk, mo_NP⟩⟩, (PySem.W.exm_ref b_HE d_HE t_HE s_NR_HE), (PySem.W.exm_ref b_HE d_HE t_HE s_NP_HE), (kit_own e_NR_NN d_NN t_NN s_NR_NN), (kit_own e_NP_NN d_NN t_NN s_NP_NN), (kit_own e_NR_NP d_NP t_NP s_NR_NP), (kit_own e_NP_NR d_NR t_NR s_NP_NR)⟩
  have T : TxtP K mg C := ⟨y0, y1, y2, y3, y4, y5, ICC, C_n_top, C_n_bottom, PySem.W.mg_of X G gC⟩
  exact ⟨PySem.W.fnOf "law" "law" (defArgs sLaw) (defBody sLaw) (defScope sLaw) .none kVL dcL pmL anL cdL ctL, fun s v => .of_eq rfl, fun base _ _ => ok_law (fun_mk (st := sLaw) lL cL kL) LW AD Fg (PySem.W.mg_of X G ag) bg3 CD KP T TR keysOk TA Z1⟩
end Hop
open PySem PySem.W PyProof.Rows in
set_option maxRecDepth 100000 in
set_option maxHeartbeats 0 in
theorem PySem.Challenge.cw_hopline_k14_changes_by_paces_holds : PySem.Challenge.rw_hopline_k14_changes_by_paces.Holds := by
  w_on; o_law; k_head; (case hw => w_witness2)
  k_fill
  refine L2.walk_of (l := PySem.Challenge.rw_hopline_k14_changes_by_paces) (n := 63) (k := 10) (x := "_law_script") (CX := fun _ => L2.CX0) (sp := fun w => Hop.spLaw _) rfl (by decide) rfl ⟨rfl, by decide, by decide⟩ (fun w h Y => PySem.W.kIn_of Y) ?F (fun _ _ a ns hl _ hS => ⟨a, ns, rfl, hS, hl, fun _ => rfl⟩) (fun _ _ _ _ _ h => h)
  case F =>
    intro w mg fa h KX G hmg
    refine' Hop.all_mk KX G hmg ?u_a1 ?u_l1 ?u_c1 ?u_k1 ?u_a2 ?u_l2 ?u_c2 ?u_k2 ?u_aR1 ?u_lR1 ?u_cR1 ?u_kR1 ?u_aR2 ?u_lR2 ?u_cR2 ?u_kR2 ?u_aR3 ?u_lR3 ?u_cR3 ?u_kR3 ?u_aR4 ?u_lR4 ?u_cR4 ?u_kR4 ?u_aR6 ?u_lR6 ?u_cR6 ?u_kR6 ?u_aR0 ?u_lR0 ?u_cR0 ?u_kR0 ?u_aP1 ?u_lP1 ?u_cP1 ?u_kP1 ?u_aP2 ?u_lP2 ?u_cP2 ?u_kP2 ?u_aD1 ?u_lD1 ?u_cD1 ?u_kD1 ?u_aD2 ?u_lD2 ?u_cD2 ?u_kD2 ?u_aD3 ?u_lD3 ?u_cD3 ?u_kD3 ?u_aD4 ?u_lD4 ?u_cD4 ?u_kD4 ?u_aD5 ?u_lD5 ?u_cD5 ?u_kD5 ?u_aD6 ?u_lD6 ?u_cD6 ?u_kD6 ?u_aD7 ?u_lD7 ?u_cD7 ?u_kD7 ?u_aD8 ?u_lD8 ?u_cD8 ?u_kD8 ?u_aE1 ?u_lE1 ?u_cE1 ?u_kE1 ?u_aE2 ?u_lE2 ?u_cE2 ?u_kE2 ?u_aE3 ?u_lE3 ?u_cE3 ?u_kE3 ?u_aL ?u_lL ?u_cL ?u_kL ?u_z0 ?u_z1 ?u_z2 ?u_z3 ?u_z4 ?u_z5 ?u_z6 ?u_z7 ?u_z8 ?u_z9 ?u_z10 ?u_z11 ?u_z12 ?u_z13 ?u_z14 ?u_gb0 ?u_gf0 ?u_gm0 ?u_gd ?u_ld ?u_kd ?u_sd ?u_keysOk ?u_vo ?u_vp ?u_gC ?u_C_pg ?u_C_hd ?u_C_po ?u_C_sa ?u_C_mk ?u_C_kc ?u_C_ha ?u_C_hm ?u_q_hn ?u_q_htk ?u_C_n_top ?u_C_n_bottom ?u_ai ?u_ni ?u_li ?u_ci ?u_ki ?u_di ?u_aq ?u_nq ?u_lq ?u_cq ?u_kq ?u_dq ?u_ag ?u_ng ?u_lg ?u_cg ?u_kg ?u_dg ?u_tyC ?u_kt_int ?u_kt_bool ?u_kt_str ?u_kt_tuple ?u_kt_list ?u_kt_dict ?u_g_HE ?u_g_NN ?u_g_NR ?u_g_NP ?u_d_HE ?u_t_HE ?u_d_NN ?u_t_NN ?u_d_NR ?u_t_NR ?u_d_NP ?u_t_NP ?u_b_HE ?u_b_NP ?u_b_NR ?u_x_NR ?u_k_NR ?u_ga_NR ?u_gt_NR ?u_cl_NR ?u_mo_NR ?u_x_NP ?u_k_NP ?u_ga_NP ?u_gt_NP ?u_cl_NP ?u_mo_NP ?u_s_NR_HE ?u_s_NP_HE ?u_s_NR_NN ?u_e_NR_NN ?u_s_NP_NN ?u_e_NP_NN ?u_s_NR_NP ?u_e_NR_NP ?u_s_NP_NR ?u_e_NP_NR
    (case u_a1 => k_is)
    (case u_l1 => k_is)
    (case u_c1 => k_is)
    (case u_k1 => k_is)
    (case u_a2 => k_is)
    (case u_l2 => k_is)
    (case u_c2 => k_is)
    (case u_k2 => k_is)
    (case u_aR1 => k_is)
    (case u_lR1 => k_is)
    (case u_cR1 => k_is)
    (case u_kR1 => k_is)
    (case u_aR2 => k_is)
    (case u_lR2 => k_is)
    (case u_cR2 => k_is)
    (case u_kR2 => k_is)
    (case u_aR3 => k_is)
    (case u_lR3 => k_is)
    (case u_cR3 => k_is)
    (case u_kR3 => k_is)
    (case u_aR4 => k_is)
    (case u_lR4 => k_is)
    (case u_cR4 => k_is)
    (case u_kR4 => k_is)
    (case u_aR6 => k_is)
    (case u_lR6 => k_is)
    (case u_cR6 => k_is)
    (case u_kR6 => k_is)
    (case u_aR0 => k_is)
    (case u_lR0 => k_is)
    (case u_cR0 => k_is)
    (case u_kR0 => k_is)
    (case u_aP1 => k_is)
    (case u_lP1 => k_is)
    (case u_cP1 => k_is)
    (case u_kP1 => k_is)
    (case u_aP2 => k_is)
    (case u_lP2 => k_is)
    (case u_cP2 => k_is)
    (case u_kP2 => k_is)
    (case u_aD1 => k_is)
    (case u_lD1 => k_is)
    (case u_cD1 => k_is)
    (case u_kD1 => k_is)
    (case u_aD2 => k_is)
    (case u_lD2 => k_is)
    (case u_cD2 => k_is)
    (case u_kD2 => k_is)
    (case u_aD3 => k_is)
    (case u_lD3 => k_is)
    (case u_cD3 => k_is)
    (case u_kD3 => k_is)
    (case u_aD4 => k_is)
    (case u_lD4 => k_is)
    (case u_cD4 => k_is)
    (case u_kD4 => k_is)
    (case u_aD5 => k_is)
    (case u_lD5 => k_is)
    (case u_cD5 => k_is)
    (case u_kD5 => k_is)
    (case u_aD6 => k_is)
    (case u_lD6 => k_is)
    (case u_cD6 => k_is)
    (case u_kD6 => k_is)
    (case u_aD7 => k_is)
    (case u_lD7 => k_is)
    (case u_cD7 => k_is)
    (case u_kD7 => k_is)
    (case u_aD8 => k_is)
    (case u_lD8 => k_is)
    (case u_cD8 => k_is)
    (case u_kD8 => k_is)
    (case u_aE1 => k_is)
    (case u_lE1 => k_is)
    (case u_cE1 => k_is)
    (case u_kE1 => k_is)
    (case u_aE2 => k_is)
    (case u_lE2 => k_is)
    (case u_cE2 => k_is)
    (case u_kE2 => k_is)
    (case u_aE3 => k_is)
    (case u_lE3 => k_is)
    (case u_cE3 => k_is)
    (case u_kE3 => k_is)
    (case u_aL => k_is)
    (case u_lL => k_is)
    (case u_cL => k_is)
    (case u_kL => k_is)
    (case u_z0 => k_is)
    (case u_z1 => k_is)
    (case u_z2 => k_is)
    (case u_z3 => k_is)
    (case u_z4 => k_is)
    (case u_z5 => k_is)
    (case u_z6 => k_is)
    (case u_z7 => k_is)
    (case u_z8 => k_is)
    (case u_z9 => k_is)
    (case u_z10 => k_is)
    (case u_z11 => k_is)
    (case u_z12 => k_is)
    (case u_z13 => k_is)
    (case u_z14 => k_is)
    (case u_gb0 => k_is)
    (case u_gf0 => k_is)
    (case u_gm0 => k_is)
    (case u_gd => k_is)
    (case u_ld => k_is)
    (case u_kd => k_keys)
    (case u_sd => decide)
    (case u_keysOk => rfl)
    (case u_vo => k_is)
    (case u_vp => k_is)
    (case u_gC => k_is)
    (case u_C_pg => k_is)
    (case u_C_hd => k_is)
    (case u_C_po => k_is)
    (case u_C_sa => k_is)
    (case u_C_mk => k_is)
    (case u_C_kc => k_is)
    (case u_C_ha => k_is)
    (case u_C_hm => k_is)
    (case u_q_hn => k_is)
    (case u_q_htk => k_is)
    (case u_C_n_top => k_is)
    (case u_C_n_bottom => k_is)
    (case u_ai => k_is)
    (case u_ni => k_is)
    (case u_li => k_is)
    (case u_ci => k_is)
    (case u_ki => k_is)
    (case u_di => k_is)
    (case u_aq => k_is)
    (case u_nq => k_is)
    (case u_lq => k_is)
    (case u_cq => k_is)
    (case u_kq => k_is)
    (case u_dq => k_is)
    (case u_ag => k_is)
    (case u_ng => k_is)
    (case u_lg => k_is)
    (case u_cg => k_is)
    (case u_kg => k_is)
    (case u_dg => k_is)
    (case u_tyC => k_is)
    (case u_kt_int => first | kx_is | k_is | kernel_rfl | decide +kernel)
    (case u_kt_bool => first | kx_is | k_is | kernel_rfl | decide +kernel)
    (case u_kt_str => first | kx_is | k_is | kernel_rfl | decide +kernel)
    (case u_kt_tuple => first | kx_is | k_is | kernel_rfl | decide +kernel)
    (case u_kt_list => first | kx_is | k_is | kernel_rfl | decide +kernel)
    (case u_kt_dict => first | kx_is | k_is | kernel_rfl | decide +kernel)
    (case u_g_HE => k_is)
    (case u_g_NN => k_is)
    (case u_g_NR => k_is)
    (case u_g_NP => k_is)
    (case u_d_HE => k_is)
    (case u_t_HE => k_is)
    (case u_d_NN => k_is)
    (case u_t_NN => k_is)
    (case u_d_NR => k_is)
    (case u_t_NR => k_is)
    (case u_d_NP => k_is)
    (case u_t_NP => k_is)
    (case u_b_HE => k_is)
    (case u_b_NP => k_is)
    (case u_b_NR => k_is)
    (case u_x_NR => k_exc)
    (case u_k_NR => k_is)
    (case u_ga_NR => k_is)
    (case u_gt_NR => k_is)
    (case u_cl_NR => k_is)
    (case u_mo_NR => k_is)
    (case u_x_NP => k_exc)
    (case u_k_NP => k_is)
    (case u_ga_NP => k_is)
    (case u_gt_NP => k_is)
    (case u_cl_NP => k_is)
    (case u_mo_NP => k_is)
    (case u_s_NR_HE => k_is)
    (case u_s_NP_HE => k_is)
    (case u_s_NR_NN => k_is)
    (case u_e_NR_NN => decide)
    (case u_s_NP_NN => k_is)
    (case u_e_NP_NN => decide)
    (case u_s_NR_NP => k_is)
    (case u_e_NR_NP => decide)
    (case u_s_NP_NR => k_is)
    (case u_e_NP_NR => decide)
