import PyProof.Rows.All
import Wide.All
import OpenK.AllK
import Wide.FinOn
import HandS.ForMost
import HandS.Wide
import HandS.Style
import HandS.RevTup
import HandS.Rev
import HandS.IsInst
import HandS.More
import HandS.Conv
import HandS.Defaults
import HandS.ForExc
import HandS.OwnEq
import HandS.Flow
import PyProof.ListStr
import HandS.Walk
import HandS.EndBits
import PyProof.ReprRoads
import PyProof.ReprLen
import HandS.Exc
import HandS.ExcIs
import HandS.TryOnly
import HandS.ExcOwn
import HandS.WordsExc
import HandS.Codes
import KE.KCallOwn
import PySem.Challenge.RW_hopline_k17_walks_alike_and_shown
import KE.KExcInit
import HandS.ExcInit
import HandS.ExcField
import KE.KExcIs
import HandS.SetFor
import HandS.FStr
import PyProof.ReprReads
import PyProof.ReprNest
import HandS.MapJoin
import HandS.WideBits
import HandS.StrMore
import PyProof.FitsStr
import PyProof.InstNe
import PyProof.EqAt
import KE.KFmtOwn
import PyProof.StrHeap
import PyProof.PureStr
import PyProof.TupleOfStr
import KE.KExcLine

set_option Elab.async false
set_option linter.all false
set_option maxRecDepth 100000
namespace HopR
open PySem PySem.Spec PyProof.Rows L2
/-! rules of my own: texts -/
/-- the signs of a text, each a text -/
def sg (z : Str) : List Str := z.cps.toList.map fun c => ⟨#[c]⟩
theorem sg_len (z : Str) : (sg z).length = z.length := by
  unfold sg
  rw [List.length_map]
  rfl
theorem sg_get {z : Str} {i : Nat} {c : Nat} (h : z.cps[i]? = some c) : (sg z)[i]? = some ⟨#[c]⟩ := by
  unfold sg
  rw [List.getElem?_map, Array.getElem?_toList, h]
  rfl
theorem strsAre_of : ∀ (vs : List Value) (ys : List Str), vs.length = ys.length → (∀ (j : Nat) (v : Value), vs[j]? = some v → ∃ y t, ys[j]? = some y ∧ v = .str y t) → StrsAre vs ys
  | [], [], _, _ => .nil
  | v :: r, y :: q, hl, h => by
    obtain ⟨y', t, e1, e2⟩ := h 0 v rfl
    have e3 : y = y' := Option.some.inj e1
    subst e3 e2
    exact .cons y t (strsAre_of r q (by simpa using hl) fun j w hw => h (j + 1) w hw)
theorem signs_are {z : Str} {acc : Array Value} (h : ItemsOf (SignAt z) acc z.cps.size) : StrsAre acc.toList (sg z) := by
  refine strsAre_of _ _ (by rw [sg_len, Array.length_toList, h.1]; rfl) fun j v hv => ?_
  obtain ⟨c, u, hc, e⟩ := h.2 j v (by rw [← Array.getElem?_toList]; exact hv)
  exact ⟨⟨#[c]⟩, u, sg_get hc, e⟩
section
variable {X : Cx}
/-- sorted(text) -/
def rSortT : List V → Hp → VK → Prop := fun vs H Q => ∃ z : Str, vs = [.str z] ∧ z.length < 64 ∧ ∀ (ys : List Str) (p : Addr), ys.Perm (sg z) → sortedS ys = true → H p = none → Q (.ref p) (upd H p (.lst (ys.map V.str)))
theorem cr_sortT (hcm : X.calm = true) : CallR X (.builtin "sorted") rSortT := by
  intro pins s σ H xs us Q I r h
  obtain ⟨z, rfl, h64, q⟩ := h
  obtain ⟨u, rfl, t, rfl⟩ := vals1 r
  refine Calls.call_function_entry kind_sorted plain_sorted entry_sorted (args_sorted1 (.str z t)) ?_
  unfold Builtin.«sorted»
  refine wpAny_bind (m := checkCount "sorted" 1 1 [Value.str z t].length) (wpAny_pure ?_)
  have hz : z.cps.size < 64 := h64
  refine wpAny_bind (wpAny_collect_str (A := X.A.in1) (show X.A.in1.handled = none from I.ok.hd hcm) z t (fun s' acc hk hg hdr hos hit => ?_) (Nat.le_trans (Nat.le_of_lt hz) (by decide)))
  have hS := signs_are hit
  have es : s' = { s with heap := s'.heap, toks := s'.toks } := by
    cases s'
    cases s
    simp only at hg hdr hos
    subst hg hdr hos
    rfl
  have hal : acc.toList.length < 64 := by rw [Array.length_toList, hit.1]; exact hz
  refine wpAny_bind (wpAny_newList ?_ (Nat.le_trans (Nat.le_of_lt hal) (by decide)))
  have hoL : (s'.heap.push (seqObj "list" acc.toList.toArray 0)).get? s'.heap.objs.size = some (seqObj "list" acc.toList.toArray 0) := Heap.get?_push_size _ rfl
  refine wpAny_bind (wpAny_holding (wpAny_call_entry slot_list_sort ⟨_, hoL, rfl⟩ entry_list_sort (list_sort_treeK strKind_oneLt hoL hS.keysOf (fun v₁ v₂ rest e => keyKind_strs (by rw [← e]; exact hS)) hal fun st' hp hs => ⟨_, rfl, ?_⟩) (args_list_sort _)))
  obtain ⟨ys, g1, g2, g3⟩ := sorted_out_str hS hp hs
  obtain ⟨ep, he'⟩ := sortedHeap_at (vs := acc.toList) (out := (arrOf st').map (·.2)) hoL
  have I1 : Inv X pins σ H s' := by
    rw [es]
    exact I.kept hk
  have hlen : (ys.map V.str).length ≤ sizeLine := by
    rw [List.length_map, g2.length_eq, sg_len]
    exact Nat.le_trans (Nat.le_of_lt h64) (by decide)
  have hne : ∀ b o, s'.heap.get? b = some o → (sortedHeap (s'.heap.push (seqObj "list" acc.toList.toArray 0)) s'.heap.objs.size acc.toList ((arrOf st').map (·.2))).get? b = some o := fun b o e => by
    rw [sortedHeap_old (Nat.ne_of_lt (Heap.lt_size e)) (by rw [size_push']; exact Nat.lt_succ_of_lt (Heap.lt_size e))]
    exact Heap.get?_push_of_some _ e
  refine wpAny_pure ⟨_, rfl, .ref _, upd H s'.heap.objs.size (.lst (ys.map V.str)), I1.laid (t' := s'.toks) hne (Nat.le_refl _) ?_, rfl, q ys _ g2 g3 (I1.hok.fresh (Nat.le_refl _))⟩
  exact ⟨hlen, ((arrOf st').map (·.2)).toList, ep, vals_of_strs g1, by rw [Array.toArray_toList]; exact he'⟩
/-- list(text) -/
def rListT : List V → Hp → VK → Prop := fun vs H Q => ∃ z : Str, vs = [.str z] ∧ z.length ≤ sizeLine ∧ ∀ p : Addr, H p = none → Q (.ref p) (upd H p (.lst ((sg z).map V.str)))
theorem cr_listT (hcm : X.calm = true) : CallR X (.type "list") rListT := by
  intro pins s σ H xs us Q I r h
  obtain ⟨z, rfl, hz, q⟩ := h
  obtain ⟨u, rfl, t, rfl⟩ := vals1 r
  refine call_list_str (I.ok.hd hcm) z t (fun h' tk acc c' hk hS' hit => ?_) hz
  refine ⟨.ref _, upd H s.heap.objs.size (.lst ((sg z).map V.str)), I.laid hk (Nat.le_refl _) ?_, rfl, q _ (I.hok.fresh (Nat.le_refl _))⟩
  exact ⟨by rw [List.length_map, sg_len]; exact hz, acc.toList, c', vals_of_strs (signs_are hit), by rw [Array.toArray_toList]; exact hS'⟩
/-- text * n -/
def repS (z : Str) (n : Nat) : Str := ⟨((List.replicate n z.cps.toList).flatten).toArray⟩
theorem foldl_app : ∀ (n : Nat) (a b : Array Nat), ((List.replicate n a).foldl (· ++ ·) b).toList = b.toList ++ (List.replicate n a.toList).flatten
  | 0, a, b => by simp
  | n + 1, a, b => by
    rw [List.replicate_succ, List.foldl_cons, foldl_app n, List.replicate_succ, List.flatten_cons, Array.toList_append, List.append_assoc]
theorem repS_len (z : Str) (k : Nat) : (repS z k).length = z.length * k := by
  show ((List.replicate k z.cps.toList).flatten).toArray.size = z.cps.size * k
  rw [List.size_toArray, List.length_flatten, List.map_replicate, List.sum_replicate_nat, Array.length_toList, Nat.mul_comm]
def rRepS : R2 := fun x y H Q => ∃ (z : Str) (k : Nat), x = .str z ∧ y = .int (k : Int) ∧ z.length * k ≤ 1000000 ∧ k ≤ 1000000 ∧ Q (.str (repS z k)) H
theorem op_repS : OpR X (binaryOp .Mult) rRepS := by
  intro pins s σ H x y v u Q I rx ry h
  obtain ⟨z, k, rfl, rfl, hz, hk, q⟩ := h
  obtain ⟨t, rfl⟩ := rx
  obtain ⟨t', rfl⟩ := ry
  refine PySem.P.mul_str ?_ ?_ ?_ ?_
  · rw [decide_eq_false (by omega), decide_eq_false (by omega)]
    rfl
  · intro h1 _
    have h0 : (0 : Int) < (k : Int) := by omega
    have h2 : ((z.length * k : Nat) : Int) ≤ 2 ^ 63 - 1 := by omega
    rw [Int.natCast_mul] at h2
    have h3 := (Int.le_ediv_iff_mul_le h0).mpr h2
    omega
  · intro _ _
    unfold Builtin.Str.tooLong
    rw [Int.toNat_natCast, sizeLine_eq]
    exact decide_eq_false (by omega)
  · by_cases h1 : (k : Int) < 1
    · rw [if_pos h1]
      have e : repS z k = Str.empty := by
        have : k = 0 := by omega
        subst this
        rfl
      rw [e] at q
      exact ⟨by decide, .str _, H, I.tok _, ⟨_, rfl⟩, q⟩
    · rw [if_neg h1]
      by_cases h2 : ((k : Int) == 1 || z.length == 0) = true
      · rw [if_pos h2]
        have e : repS z k = z := by
          rw [Bool.or_eq_true] at h2
          rcases h2 with h2 | h2
          · have h3 : (k : Int) = 1 := by simpa using h2
            have h4 : k = 1 := by omega
            subst h4
            unfold repS
            simp
          · have h3 : z.length = 0 := by simpa using h2
            have h4 : z.cps = #[] := Array.eq_empty_of_size_eq_zero h3
            unfold repS
            cases z with | mk zc =>
            simp only at h4
            subst h4
            simp
        rw [e] at q
        exact ⟨.str z, H, I, ⟨t, rfl⟩, q⟩
      · rw [if_neg h2]
        have e : (⟨(List.replicate (k : Int).toNat z.cps).foldl (· ++ ·) #[]⟩ : Str) = repS z k := by
          unfold repS
          rw [Int.toNat_natCast, ← Array.toArray_toList (xs := (List.replicate k z.cps).foldl (· ++ ·) #[]), foldl_app]
          rfl
        rw [e]
        have hl : (repS z k).length ≤ sizeLine := by
          rw [repS_len, sizeLine_eq]
          omega
        exact ⟨hl, .str _, H, I.tok _, ⟨_, rfl⟩, q⟩
/-- text[::-1] -/
def revS (z : Str) : Str := ⟨z.cps.toList.reverse.toArray⟩
theorem revS_len (z : Str) : (revS z).length = z.length := by
  show z.cps.toList.reverse.toArray.size = z.cps.size
  rw [List.size_toArray, List.length_reverse, Array.length_toList]
theorem rev_pick (z : Str) : (⟨((PySem.Builtin.Str.strSliceIndices none none (-1) z.length).filterMap (z.cps[·]?)).toArray⟩ : Str) = revS z := by
  unfold revS
  have e : PySem.Builtin.Str.strSliceIndices none none (-1) z.length = (List.range z.length).reverse := by
    rw [← PySem.W.krv_range, ← PySem.W.krv_sliceRange]
    rfl
  have e2 := PySem.W.krv_all z.cps
  rw [e, List.filterMap_reverse]
  show (⟨((List.range z.cps.size).filterMap (z.cps[·]?)).reverse.toArray⟩ : Str) = _
  rw [e2]
def tRevS (te : TE) : TE := fun σ H Q => te σ H fun x H1 => ∃ z : Str, x = .str z ∧ z.length ≤ sizeLine ∧ Q (.str (revS z)) H1
theorem pe_revS {e : Expr} {te : TE} {k : Nat} {p1 p2 p3 pos : Pos} (he : PE X e te) : PE X (.Subscript e (.Slice none none (some (.UnaryOp .USub (.Constant (.int 1) k p1) p2)) p3) pos) (tRevS te) := by
  refine ⟨fun pins s σ H Q I h => Subscript_ (thn (he.run pins s σ H _ I h) fun v s1 ⟨x, H1, I1, r1, z, ex, hz, q⟩ => ?_)⟩
  subst ex
  obtain ⟨t, rfl⟩ := r1
  have hst : PO X (some (.UnaryOp .USub (.Constant (.int 1) k p1) p2)) (tPart (tUn (rU fun i => .int (-i)) (tC (.int 1)))) := po_some (pe_un un_neg pe_int)
  refine wpAny_Slice (thn (po_none.run pins s1 σ H1 (fun o K2 => o = none ∧ K2 = H1) I1 ⟨rfl, rfl⟩) fun vl s2 ⟨l, H2, I2, pl, el, e2⟩ => ?_)
  subst el e2
  refine thn (po_none.run pins s2 σ H2 (fun o K3 => o = none ∧ K3 = H2) I2 ⟨rfl, rfl⟩) fun vu s3 ⟨u, H3, I3, pu, eu, e3⟩ => ?_
  subst eu e3
  refine thn (hst.run pins s3 σ H3 (fun o K4 => o = some (-1) ∧ K4 = H3) I3 ⟨1, rfl, -1, rfl, rfl, rfl⟩) fun vs s4 ⟨o, H4, I4, ps, eo, e4⟩ => ?_
  subst eo e4
  obtain ⟨l, rfl, hl⟩ := IsPart.raw pl
  obtain ⟨u, rfl, hu⟩ := IsPart.raw pu
  obtain ⟨st, rfl, hst'⟩ := IsPart.raw ps
  have I5 : Inv X pins σ H4 { s4 with heap := s4.heap.push { cls := .type "slice", data := .fields #[partValue l, partValue u, partValue st] } } := I4.kept (t' := s4.toks) fun b ob qq => Heap.get?_push_of_some _ qq
  show wpAny (model X.prog X.w) X.A (subscriptTail e (.Slice none none (some (.UnaryOp .USub (.Constant (.int 1) k p1) p2)) p3) (.str z t) (.ref s4.heap.objs.size)) (EP X pins σ Q) X.xe { s4 with heap := s4.heap.push { cls := .type "slice", data := .fields #[partValue l, partValue u, partValue st] } }
  refine tail_any (ops := [.ref s4.heap.objs.size, .str z t]) (T := "str") (typeIs_str _ _ _) F.slot_str_getitem.lookup ?_ (by with_unfolding_all rfl)
  refine wpAny_getItem_str_slice (l := l) (u := u) (st := st) (Heap.IsSliceOf.new ..) (by rw [hst']; decide) ?_
  have em : sliceMade z t l u st = .str (revS z) := by
    unfold sliceMade slicePicked
    rw [hst', hl, hu]
    rw [if_neg (by simp)]
    rw [← rev_pick z]
    rfl
  rw [em]
  exact ⟨by rw [revS_len]; exact hz, .str _, H4, I5.tok _, ⟨_, rfl⟩, q⟩
end
end HopR

set_option Elab.async false
set_option linter.all false
set_option maxRecDepth 100000
namespace HopR
open PySem PySem.Spec PyProof.Rows L2
/-! rows as lists of truths -/
def cd (b : Bool) : Nat := if b then 111 else 46
def tx (bs : List Bool) : Str := ⟨(bs.map cd).toArray⟩
theorem cd_inj {a b : Bool} (h : cd a = cd b) : a = b := by
  cases a <;> cases b <;> first | rfl | (exact absurd h (by decide))
theorem map_cd_inj : ∀ {as bs : List Bool}, as.map cd = bs.map cd → as = bs
  | [], [], _ => rfl
  | [], _ :: _, h => by simp at h
  | _ :: _, [], h => by simp at h
  | a :: r, b :: q, h => by
    rw [List.map_cons, List.map_cons] at h
    injection h with h1 h2
    rw [cd_inj h1, map_cd_inj h2]
theorem tx_inj {as bs : List Bool} (h : tx as = tx bs) : as = bs := by
  unfold tx at h
  injection h with h
  exact map_cd_inj (by simpa using congrArg Array.toList h)
theorem tx_len (bs : List Bool) : (tx bs).length = bs.length := by
  show (bs.map cd).toArray.size = bs.length
  rw [List.size_toArray, List.length_map]
theorem tx_list (bs : List Bool) : (tx bs).cps.toList = bs.map cd := rfl
theorem tx_get {bs : List Bool} {i : Nat} {b : Bool} (h : bs[i]? = some b) : (tx bs).cps[i]? = some (cd b) := by
  show (bs.map cd).toArray[i]? = some (cd b)
  rw [List.getElem?_toArray, List.getElem?_map, h]
  rfl
theorem ext_str {a b : Str} (h : a.cps.toList = b.cps.toList) : a = b := by
  cases a with | mk x =>
  cases b with | mk y =>
  have e : x = y := Array.toList_inj.mp h
  rw [e]
theorem tx_app (as bs : List Bool) : tx as ++ tx bs = tx (as ++ bs) := by
  apply ext_str
  show ((as.map cd).toArray ++ (bs.map cd).toArray).toList = (as ++ bs).map cd
  rw [Array.toList_append, List.map_append]
theorem tx_rev (bs : List Bool) : revS (tx bs) = tx bs.reverse := by
  unfold revS tx
  simp
theorem tx_sg (bs : List Bool) : sg (tx bs) = bs.map fun b => tx [b] := by
  unfold sg
  rw [tx_list, List.map_map]
  rfl
theorem tx_o : ("o" : Str) = tx [true] := by decide +kernel
theorem tx_f : ("." : Str) = tx [false] := by decide +kernel
/-- a row walked sign by sign: a turn's sign is the text of that place's truth -/
theorem walk_tx {bs : List Bool} : Walk (Its (tx bs)) bs.length (fun _ => True) (fun i H v H' => H' = H ∧ ∃ b, bs[i]? = some b ∧ v = .str (tx [b])) := by
  have w := walk_str (z := tx bs)
  rw [show (tx bs).cps.size = bs.length from tx_len bs] at w
  refine w.mono (fun _ g => g) fun i H x H' hi _ y => ?_
  obtain ⟨e1, c, e2, e3⟩ := y
  have hb : bs[i]? = some bs[i] := List.getElem?_eq_getElem hi
  rw [tx_get hb] at e2
  cases e2
  exact ⟨e1, _, hb, e3⟩
def for_tx {bs : List Bool} {g : TG} {tb : TS} {D : Ends} {σ : L2.St} {H : Hp} (Pv : Nat → L2.St → Hp → Prop) (h0 : Pv 0 σ H)
    (hs : ∀ i b σ H, bs[i]? = some b → Pv i σ H → g (.str (tx [b])) σ H fun σ2 H2 => tb { D with nx := Pv (i + 1), ct := Pv (i + 1), bk := D.nx } σ2 H2) (hd : ∀ σ H, Pv bs.length σ H → D.nx σ H) :=
  for_it (walk_tx (bs := bs)) (g := g) (tb := tb) (D := D) (σ := σ) (H := H) Pv h0 (fun _ _ _ _ _ => trivial)
    (fun i x σ H H' _ p y => by
      obtain ⟨e1, b, hb, e2⟩ := y
      subst e1 e2
      exact hs i b σ _ hb p) hd
def lc_tx {bs : List Bool} {g : TG} {tt : TT} {te : TE} {vs : List Nat} {σ : L2.St} {H1 : Hp} {D : Addr} {Qd : Hp → Prop} (Pv : Nat → Hp → Prop) (h0 : Pv 0 (upd H1 D (.lst [])))
    (hs : ∀ i b H, bs[i]? = some b → Pv i H → g (.str (tx [b])) (wipe σ vs) H fun σ2 H2 => wipe σ2 vs = wipe σ vs ∧ tt σ2 H2 fun kept H3 =>
      if kept = true then (te σ2 H3 fun y H4 => ∃ acc, H4 D = some (.lst acc) ∧ acc.length < sizeLine ∧ Pv (i + 1) (upd H4 D (.lst (acc ++ [y])))) else Pv (i + 1) H3)
    (hd : ∀ H, Pv bs.length H → Qd H) :=
  lc_it (walk_tx (bs := bs)) (g := g) (tt := tt) (te := te) (vs := vs) (σ := σ) (H1 := H1) (D := D) (Qd := Qd) Pv h0 (fun _ _ _ _ => trivial)
    (fun i x H H' _ p y => by
      obtain ⟨e1, b, hb, e2⟩ := y
      subst e1 e2
      exact hs i b _ hb p) hd
end HopR

set_option Elab.async false
set_option linter.all false
set_option maxRecDepth 100000
namespace HopR
open PySem PySem.Spec PyProof.Rows L2 TL
theorem joinL_nil : ∀ ps : List (List Nat), joinL [] ps = ps.flatten
  | [] => rfl
  | [p] => by
    show p = p ++ []
    rw [List.append_nil]
  | p :: q :: r => by
    show p ++ ([] ++ joinL [] (q :: r)) = p ++ (q :: r).flatten
    rw [List.nil_append, joinL_nil (q :: r)]
theorem join0_list (ys : List Str) : (Txt.join "" ys).cps.toList = (ys.map fun y => y.cps.toList).flatten := by
  have e : Txt.join "" ys = Str.join "" ys := PySem.StrLaws.glued_eq_join "" ys
  rw [e]
  have h := tl_join "" ys
  have h2 : tl ("" : Str) = [] := by decide +kernel
  rw [h2, joinL_nil] at h
  exact h
theorem join_tx (bs : List Bool) : Txt.join "" (bs.map fun b => tx [b]) = tx bs := by
  apply ext_str
  rw [join0_list, List.map_map, tx_list]
  induction bs with
  | nil => rfl
  | cons b r ih =>
    rw [List.map_cons, List.flatten_cons, ih]
    rfl
theorem sum_ones : ∀ bs : List Bool, ((bs.map fun b => tx [b]).map (·.length)).sum = bs.length
  | [] => rfl
  | b :: r => by
    rw [List.map_cons, List.map_cons, List.sum_cons, sum_ones r, tx_len]
    show 1 + r.length = r.length + 1
    omega
theorem join_fits {bs : List Bool} (h : bs.length ≤ 1000) : ((bs.map fun b => tx [b]).map (·.length)).sum + (bs.map fun b => tx [b]).length * ("" : Str).length ≤ 16777216 := by
  have e : ("" : Str).length = 0 := by decide +kernel
  rw [sum_ones, e, Nat.mul_zero]
  omega
theorem cut_tx (bs : List Bool) (lo hi : Option Int) : cutS (tx bs) lo hi = tx ((bs.drop (HT.sIx bs.length 0 lo)).take (HT.sIx bs.length bs.length hi - HT.sIx bs.length 0 lo)) := by
  apply ext_str
  unfold cutS
  rw [tx_len, tx_list, tx_list, List.map_take, List.map_drop]
theorem cut_to (bs : List Bool) (k : Nat) : cutS (tx bs) none (some (k : Int)) = tx (bs.take k) := by
  rw [cut_tx, HT.sIx_none, HT.sIx_nat, List.drop_zero, Nat.sub_zero]
  by_cases h : k ≤ bs.length
  · rw [Nat.min_eq_left h]
  · rw [Nat.min_eq_right (by omega), List.take_length, List.take_of_length_le (by omega)]
theorem cut_from (bs : List Bool) (k : Nat) : cutS (tx bs) (some (k : Int)) none = tx (bs.drop k) := by
  rw [cut_tx, HT.sIx_none, HT.sIx_nat]
  by_cases h : k ≤ bs.length
  · rw [Nat.min_eq_left h, List.take_of_length_le (by rw [List.length_drop]; exact Nat.le_refl _)]
  · rw [Nat.min_eq_right (by omega), List.drop_length, List.drop_of_length_le (by omega), List.take_nil]
theorem cut_at (bs : List Bool) (k m : Nat) : cutS (tx bs) (some (k : Int)) (some ((k : Int) + (m : Int))) = tx ((bs.drop k).take m) := by
  have e : ((k : Int) + (m : Int)) = ((k + m : Nat) : Int) := by omega
  rw [e, cut_tx, HT.sIx_nat, HT.sIx_nat]
  by_cases h : k ≤ bs.length
  · rw [Nat.min_eq_left h]
    by_cases h2 : k + m ≤ bs.length
    · rw [Nat.min_eq_left h2, Nat.add_sub_cancel_left]
    · rw [Nat.min_eq_right (by omega), List.take_of_length_le (by rw [List.length_drop]; exact Nat.le_refl _), List.take_of_length_le (by rw [List.length_drop]; omega)]
  · rw [Nat.min_eq_right (by omega), Nat.min_eq_right (by omega), List.drop_length, List.drop_of_length_le (by omega), List.take_nil, List.take_nil]
theorem cut_mid (bs : List Bool) (h : 2 ≤ bs.length) : cutS (tx bs) (some 1) (some (-1)) = tx ((bs.drop 1).take (bs.length - 2)) := by
  rw [cut_tx]
  have e1 : HT.sIx bs.length 0 (some 1) = 1 := by
    rw [show (some (1 : Int)) = some ((1 : Nat) : Int) from rfl, HT.sIx_nat]
    omega
  have e2 : HT.sIx bs.length bs.length (some (-1)) = bs.length - 1 := by
    show (if (-1 : Int) < 0 then ((-1 : Int) + (bs.length : Int)).toNat else min (-1 : Int).toNat bs.length) = bs.length - 1
    rw [if_pos (by decide)]
    omega
  rw [e1, e2]
  congr 2
/-! ### rows: walls, changes, the mirror -/
def ends (bs : List Bool) : List Bool := true :: (bs ++ [false])
theorem ends_len (bs : List Bool) : (ends bs).length = bs.length + 2 := by
  unfold ends
  rw [List.length_cons, List.length_append]
  rfl
def opn (bs : List Bool) (k : Nat) : Bool := decide (((ends bs).drop k).take 2 = [true, false])
def walls (bs : List Bool) : List Nat := (List.range (bs.length + 1)).filter (opn bs)
def bhd (bs : List Bool) (k : Nat) : List Bool := (ends bs).take k ++ [false] ++ [true] ++ (ends bs).drop (k + 2)
def chg (bs : List Bool) (k : Nat) : List Bool := ((bhd bs k).drop 1).take ((bhd bs k).length - 2)
def mir (bs : List Bool) : List Bool := bs.reverse.map (!·)
def num (bs : List Bool) : Int := bs.foldl (fun n b => n * 2 + (if b then 1 else 0)) 0
theorem mem_walls {bs : List Bool} {k : Nat} : k ∈ walls bs ↔ k ≤ bs.length ∧ opn bs k = true := by
  unfold walls
  rw [List.mem_filter, List.mem_range, Nat.lt_succ_iff]
theorem mir_len (bs : List Bool) : (mir bs).length = bs.length := by
  unfold mir
  rw [List.length_map, List.length_reverse]
theorem walls_len (bs : List Bool) : (walls bs).length ≤ bs.length + 1 := by
  unfold walls
  exact Nat.le_trans (List.length_filter_le _ _) (by rw [List.length_range]; exact Nat.le_refl _)
theorem bhd_len {bs : List Bool} {k : Nat} (h : k ≤ bs.length) : (bhd bs k).length = bs.length + 2 := by
  unfold bhd
  rw [List.length_append, List.length_append, List.length_append, List.length_take, List.length_drop, ends_len]
  show min k (bs.length + 2) + 1 + 1 + (bs.length + 2 - (k + 2)) = bs.length + 2
  omega
theorem chg_len {bs : List Bool} {k : Nat} (h : k ≤ bs.length) : (chg bs k).length = bs.length := by
  unfold chg
  rw [List.length_take, List.length_drop, bhd_len h]
  omega
end HopR

set_option Elab.async false
set_option linter.all false
set_option maxRecDepth 100000
namespace HopR
open PySem PySem.Spec PyProof.Rows L2
/-! ### defs that are called where no repr is under way -/
/-- the promise sp of the def at f, kept wherever it is called while no repr is under way -/
structure FnOkG (P : Program) (w : World) (K : PySem.W.Frag) (mg : Str → Option Value) (base : Heap) (CX : CXT) (k : Nat) (f : Addr) (fd : FuncData) (ps : List Str) (sp : Sp) : Prop where
  arity : ∀ {vs H Q E}, sp vs H Q E → vs.length = ps.length
  calls : ∀ {A : Around} {outer : List Env} {s : Shared} {H : Hp} {args : Args} {us : List Value} {vs : List V} {Q : VK} {E : XK}, A.guards = some [] → Room k A → Env0 P w K mg base A outer s H →
    BindsTo s fd args (ps.zip us) → Vals vs us → sp vs H Q E → codeAny (model P w) A (.call (.ref f) args) (CR CX outer P w H s Q E) s
section
variable {P : Program} {w : World} {K : PySem.W.Frag} {mg : Str → Option Value} {base : Heap}
theorem FnOkG.of {CX : CXT} {k : Nat} {f : Addr} {fd : FuncData} {ps : List Str} {sp : Sp} (F : FnOk P w K mg base CX k f fd ps sp) : FnOkG P w K mg base CX k f fd ps sp where
  arity h := F.len _ _ _ _ h
  calls _ room e0 bind vals prom := F.run _ _ _ _ _ _ _ _ _ room e0 bind vals prom
/-- what the body's end says to the caller -/
theorem ends_say {CX : CXT} {N : List Str} {qual : Str} {scope : Scope} {f : Addr} {cdv : Value} {A : Around} {outer : List Env} {s : Shared} {H : Hp} {Q : VK} {E : XK} {fl : Flow} {s' : Shared}
    (h : SP (cxOf CX P w K mg base N qual scope f cdv A outer s H E) [] { nx := fun _ H' => Q .non H', rt := Q } fl s') :
    match fl with | .ret u => CE outer P w H s Q u s' | .next => CE outer P w H s Q Value.none s' | _ => False := by
  match fl, h with
  | .ret u, ⟨v, σ', H', J, rv, g⟩ => exact ⟨v, H', J.os, J.bare, J.base, J.hok, rv, g⟩
  | .next, ⟨σ', H', J, g⟩ => exact ⟨V.non, H', J.os, J.bare, J.base, J.hok, rfl, g⟩
  | .brk, ⟨_, _, _, g⟩ => exact g
  | .cont, ⟨_, _, _, g⟩ => exact g
theorem okG {x qual : Str} {st : Stmt} {f : Addr} {fd : FuncData} {N ps : List Str} {k : Nat} {sp : Sp} (F : Fun K x qual st f fd) (S : FnScope N ps (defScope st)) (len : ∀ vs H Q E, sp vs H Q E → vs.length = ps.length)
    (body : ∀ (cdv : Value) (A : Around) (outer : List Env) (s : Shared) (H : Hp) (vs : List V) (Q : VK) (E : XK), A.guards = some [] → Room k (A.deeper (envOfC qual (defScope st) s.heap.objs.size f cdv)) → sp vs H Q E →
      ∃ t, PSs (cxOf CX0 P w K mg base N qual (defScope st) f cdv A outer s H E).nox (defBody st) t ∧ t { nx := fun _ H' => Q .non H', rt := Q } (start N vs) H) : FnOkG P w K mg base CX0 (k + 1) f fd ps sp where
  arity h := len _ _ _ _ h
  calls {A outer s H args us vs Q E} free room e0 bind vals prom := by
    obtain ⟨_, _, _, _, _, _, cdv, _, _, rfl, lk, code⟩ := F.ex
    have old : ∀ b o, base.get? b = some o → s.heap.get? b = some o := fun b o e => (e0.bs b o e).1
    have here := e0.mod.kin.keeps old
    obtain ⟨t, pr, rd⟩ := body cdv A outer s H vs Q E free (room.deeper _) prom
    have kinds : ∀ y ∈ ps.zip us, (defScope st).names.lookup y.1 = some .local ∨ ((defScope st).names.lookup y.1 = some .cell ∧ ((cellsFrom (s.heap.objs.size + 1) (defScope st).names []).lookup y.1).isSome = true) := by
      intro y hy
      have hp : y.1 ∈ ps := by
        obtain ⟨y1, y2⟩ := y
        exact (List.of_mem_zip hy).1
      exact (S.par _ hp).imp id fun g => ⟨g, PySem.W.cellsFrom_some _ _ _ (.inl g)⟩
    refine codeAny_call_function room.depth (here _ _ lk) rfl S.co S.gen rfl (PySem.W.codeRec_of here code) (bind _ _ _ _ ?_)
    refine wpAny_newFunctionEnv_cells S.kind kinds fun _ e s1 x => ?_
    cases e
    refine ⟨(e0.mod.nolimit.keeps old).keeps x.toInCall.keep, codeAny_func ?_⟩
    have run := pr.nox.run [] s1 _ H _ (inv_start S room.hd e0 (len _ _ _ _ prom) vals x) rd
    refine wpAny_mono run (fun fl s' h => ?_) fun _ _ z => z
    have said := ends_say h
    cases fl with
    | ret _ => exact said
    | next => exact said
    | brk => exact said.elim
    | cont => exact said.elim
end
section
variable {X : Cx} {CX : CXT} {k : Nat} {f : Addr} {fd : FuncData} {ps : List Str} {sp : Sp} {ds : List Value} {dvs : List V} {E : XK}
theorem after_call {pins : List (Addr × Obj)} {σ : L2.St} {H : Hp} {s : Shared} {Q : VK} (hx : Passes CX X E) (I : Inv X pins σ H s) {r : Except Value Flow} {s' : Shared} (h : CR CX X.stack X.prog X.w H s Q E r s') :
    match r with | .ok (.ret u) => EP X pins σ Q u s' | .ok _ => False | .error e => X.xe e s' := by
  match r, h with
  | .error e, h => exact hx pins σ H s e s' I h
  | .ok (.ret u), h => exact I.after h
  | .ok .next, h => exact h
  | .ok .brk, h => exact h
  | .ok .cont, h => exact h
variable {x : Str} {p pos : Pos} {e : Expr} {es : List Expr} {t : TA}
/-- f(e, ..) at a place where no repr is under way -/
theorem pe_callG (F : FnOkG X.prog X.w X.K X.mg X.base CX k f fd ps sp) (hG : X.A.guards = some []) (hr : Room k X.A) (hg : Gl X x) (hm : X.mg x = some (.ref f)) (hk : PySem.W.keepIn X.K (.ref f) = true) (hb : Binds X.K fd ps ds) (hd : Vals dvs ds) (hx : Passes CX X E)
    (ha : PA X (e :: es) t) (hdb : (x == ("__debug__" : Str)) = false := by decide)
    (he : starEach (e :: es) X.env = (false, eval e X.env) :: starEach es X.env := by rfl) (hpl : (backTo pos (starEach es X.env)).any (·.1) = false := by rfl) :
    PE X (.Call (.Name x p) (e :: es) [] pos) (tCall sp dvs E t) := by
  constructor
  intro pins s σ H Q I h
  refine wpAny_Call_Name_kw (ld_glob I hg hm (PySem.W.callWith_K (h₀ := X.base) I.ok.mod.kin hk (thn (ha.run pos pins s σ H _ I h) ?_) he hpl) hdb)
  rintro us s1 ⟨vs, H1, I1, vals, prom⟩
  have all := vals.append hd
  have size : (us ++ ds).length = ps.length := all.length.symm.trans (F.arity prom)
  refine ⟨I1.kIn, wpAny_call (codeAny_mono (F.calls hG hr I1.env0 (hb s1 us I1.kIn size) all prom) fun r s' h => ?_)⟩
  have := after_call hx I1 h
  cases r with
  | error e => exact this
  | ok fl => cases fl <;> exact this
/-! ### repr of data -/
def rReprD (K : PySem.W.Frag) : List V → Hp → VK → Prop := fun vs H Q => ∃ (v : V) (d : PyData), vs = [v] ∧ Dp K H v d ∧ d.showable = true ∧ d.hasDict = false ∧ d.depth ≤ 64 ∧ d.shown.length ≤ sizeLine ∧ Q (.str d.shown) H
theorem cr_reprD (hG : X.A.guards = some []) (hu : X.A.units + 66 < cLine) : CallR X (.builtin "repr") (rReprD X.K) := by
  rintro pins s σ H _ us Q I r ⟨v, d, rfl, hd, hs, hn, hdep, hz, q⟩
  obtain ⟨u, rfl, rv⟩ := vals1 r
  obtain ⟨as, rd⟩ := Dp.reads I d v u hd rv
  cases hd with
  | non =>
    cases rv
    exact P.repr_of_none ⟨.str _, H, I.tok _, ⟨_, rfl⟩, q⟩
  | bl b =>
    cases rv
    exact P.repr_of_bool ⟨.str _, H, I.tok _, ⟨_, rfl⟩, q⟩
  | int i =>
    obtain ⟨t, rfl⟩ := rv
    have hb : i.natAbs.log2 < 1920 := of_decide_eq_true (by simpa only [PyData.showable] using hs)
    exact P.repr_of_int hb ⟨.str _, H, I.tok _, ⟨_, rfl⟩, by simpa only [PyData.shown] using q⟩
  | str x =>
    obtain ⟨t, rfl⟩ := rv
    exact P.repr_of_str ⟨.str _, H, I.tok _, ⟨_, rfl⟩, by simpa only [PyData.shown] using q⟩ (by simpa only [PyData.shown] using hz)
  | lst h1 h2 =>
    cases rv
    exact repr_of_reads' rd hs (fun e => absurd (hn.symm.trans e) (by decide)) hG (by omega) (fun _ _ e => e) (fun h' t tk hk => ⟨.str _, H, I.kept hk, ⟨_, rfl⟩, q⟩) hz
  | tup h1 h2 =>
    cases rv
    exact repr_of_reads' rd hs (fun e => absurd (hn.symm.trans e) (by decide)) hG (by omega) (fun _ _ e => e) (fun h' t tk hk => ⟨.str _, H, I.kept hk, ⟨_, rfl⟩, q⟩) hz
end
/-! ### the end -/
section
variable (K : PySem.W.Frag) (a : Addr) (vs : List Value) (ns : List Int)
/-- the script as the heap has it -/
abbrev scrO : Obj := { cls := .type "list", data := .seq vs.toArray }
/-- tracked is the script alone, locked, and not even that where the top wrote it -/
def scrH : Hp := fun b => if b = a ∧ K.lookup a = none then some (.frz (scrO vs) (.lst (ns.map V.int))) else none
theorem scrH_or (b : Addr) : scrH K a vs ns b = none ∨ (b = a ∧ K.lookup a = none ∧ scrH K a vs ns b = some (.frz (scrO vs) (.lst (ns.map V.int)))) := by
  unfold scrH
  by_cases h : b = a ∧ K.lookup a = none
  · exact .inr ⟨h.1, h.2, if_pos h⟩
  · exact .inl (if_neg h)
theorem scrH_only : Only (scrH K a vs ns) := fun b => (scrH_or K a vs ns b).imp id fun ⟨_, _, e⟩ => ⟨_, _, e⟩
end
section
variable {P : Program} {w : World} {K : PySem.W.Frag} {a : Addr} {vs : List Value} {ns : List Int} {h : Heap}
theorem scrH_sq (kin : K.In h) (at_ : h.get? a = some (scrO vs)) (hi : IntsAre vs ns) (few : ns.length ≤ sizeLine) : SqL K (scrH K a vs ns) a (ns.map V.int) := by
  cases hk : K.lookup a with
  | none => exact .inl (.inr ⟨scrO vs, if_pos ⟨rfl, hk⟩⟩)
  | some o =>
    obtain rfl : o = scrO vs := Option.some.inj ((kin a o hk).symm.trans at_)
    exact .inr ⟨_, vs.toArray, _, hk, rfl, rfl, rfl, by rw [List.size_toArray, hi.length]; exact few, by simpa using vals_ints hi⟩
theorem scrH_ok (at_ : h.get? a = some (scrO vs)) (hi : IntsAre vs ns) (few : ns.length ≤ sizeLine) : HOk P w (scrH K a vs ns) h := by
  intro b u e
  rcases scrH_or K a vs ns b with n | ⟨rfl, _, y⟩
  · exact absurd (n.symm.trans e) (by simp)
  · cases y.symm.trans e
    refine ⟨at_, ?_, vs, _, vals_ints hi, at_⟩
    rw [List.length_map]
    exact few
/-- what isn't the script, and what the top wrote, stands also where the tracked is hidden -/
theorem scrH_base (at_ : h.get? a = some (scrO vs)) {b : Addr} {o : Obj} (e : h.get? b = some o) (q : o ≠ scrO vs ∨ K.lookup b ≠ none) : (hidT h (scrH K a vs ns)).get? b = some o := by
  refine hidT_get e ((scrH_or K a vs ns b).resolve_right ?_)
  rintro ⟨rfl, n, _⟩
  exact q.elim (fun z => z (Option.some.inj (e.symm.trans at_))) fun z => z n
theorem scrH_ns (at_ : h.get? a = some (scrO vs)) {b : Addr} {m : Str → Option Value} : h.Ns b m → (hidT h (scrH K a vs ns)).Ns b m := by
  rintro ⟨o, es, ep, e, dd, r⟩
  refine ⟨o, es, ep, scrH_base at_ e (.inl ?_), dd, r⟩
  rintro rfl
  exact absurd dd (by simp)
end
/-- a law whose promise holds where no repr is under way: nothing is, where it is called -/
theorem walk_ofG {l : PySem.W.OpenLaw} {n k : Nat} {q : Program} {loose : List Str} {XP : (Str → Option Value) → Heap → Prop} {YP : World → Heap → Prop} {d : DefRec} {K : Params → PySem.W.Frag} {sp : World → Sp} {x : Str}
    (most : l.most = some n) (few : n ≤ sizeLine) (plain : d.params.defaults = []) (room : Room k callerA) (top : ∀ (w : World) (h : Heap), YP w h → (K w.params).In h)
    (F : ∀ (w : World) (mg : Str → Option Value) (fa : Addr) (h : Heap), (K w.params).In h → h.Ns mainGlobals mg → mg d.name = some (.ref fa) →
      ∃ fd : FuncData, (∀ (s : Shared) (u : Value), BindsTo s fd ⟨[u], []⟩ [(x, u)]) ∧ ∀ base : Heap, (K w.params).In base → base.Ns mainGlobals mg → FnOkG l.prog w (K w.params) mg base CX0 k fa fd [x] (sp w))
    (prom : ∀ (w : World) (H : Hp) (a : Addr) (ns : List Int), ns.length ≤ n → (∀ z ∈ ns, Builtin.Int.intBits z ≤ 1048576) → Only H → SqL (K w.params) H a (ns.map V.int) → sp w [.ref a] H (fun v _ => v = .bl true) fun _ _ _ => False) :
    PySem.W.WalkO q loose XP YP l.row.toRowW d [] (fun f vs => PySem.call f vs) := by
  apply Att.attach_callB most plain
  intro w s₀ s₁ mg mb fa o pm cd doc a vs ns G Y _ _ _ hmg at_ isI size bits gens
  have kin := top w _ Y
  obtain ⟨fd, bind, hF⟩ := F w mg fa _ kin G.T.g hmg
  have few' := Nat.le_trans size few
  have ok : HOk l.prog w (scrH (K w.params) a vs ns) s₁.heap := scrH_ok at_ isI few'
  have kin' : (K w.params).In (hidT s₁.heap (scrH (K w.params) a vs ns)) := fun b o e => scrH_base at_ (kin b o e) (.inr (by rw [e]; simp))
  have g' := scrH_ns (K := K w.params) (ns := ns) at_ G.T.g
  obtain ⟨mc, lim1, lim2⟩ := G.T.nolimit
  have e0 : Env0 l.prog w (K w.params) mg (hidT s₁.heap (scrH (K w.params) a vs ns)) callerA [] s₁ (scrH (K w.params) a vs ns) :=
    ⟨rfl, ⟨kin', g', ⟨mb, scrH_ns at_ G.T.b, G.T.builtins⟩, ⟨mc, scrH_ns at_ lim1, lim2⟩⟩, fun _ _ => of_hidT, Nat.le_of_eq (hidT_size _ _), trivial, (by intro _ z; cases z), ok, AllBare.of_eq gens⟩
  refine codeAny_mono ((hF _ kin' g').calls (us := [.ref a]) (vs := [.ref a]) rfl room e0 (bind s₁ (.ref a)) (.cons rfl .nil) (prom w _ a ns size bits (scrH_only (K w.params) a vs ns) (scrH_sq kin at_ isI few'))) fun r s' h => ?_
  match r, h with
  | .error e, h => exact h.elim
  | .ok .next, h => exact h.elim
  | .ok .brk, h => exact h.elim
  | .ok .cont, h => exact h.elim
  | .ok (.ret u), ⟨v, H', os, bare, un, ok', rel, is⟩ =>
    have is : v = .bl true := is
    subst is
    cases (show u = Value.bool true from rel)
    refine ⟨rfl, OldK.of_keep ?_, os, bare⟩
    intro b o e
    rcases scrH_or (K w.params) a vs ns b with z | ⟨rfl, _, z⟩
    · exact un.keep b o e z (fun m => nomatch m) (by simp)
    · cases at_.symm.trans e
      exact (ok' _ _ (un.frzs _ _ _ z)).1
end HopR

set_option Elab.async false
set_option linter.all false
set_option maxRecDepth 100000
namespace HopR
open PySem PySem.Spec PyProof.Rows L2
theorem hu66 {A : Around} {k : Nat} (hr : Room k A) : A.units + 66 < cLine := by
  have := hr.un
  omega
/-! ### f(k = v, ..), no value by its place -/
section
variable {X : Cx} {CX : CXT} {k : Nat} {f : Addr} {fd : FuncData} {ps ks : List Str} {sp : Sp} {E : XK} {x : Str} {p pos : Pos} {kws : List Keyword} {tk : TA}
def tCallKw (m : Nat) (sp : Sp) (gV : List V → List V) (E : XK) (tk : TA) : TE := fun σ H Q => tk σ H fun zs H2 => zs.length = m ∧ sp (gV zs) H2 Q E
theorem pe_callKw {g : List Value → List Value} {gV : List V → List V} (F : FnOk X.prog X.w X.K X.mg X.base CX k f fd ps sp) (hr : Room k X.A) (hg : Gl X x) (hm : X.mg x = some (.ref f)) (hk : PySem.W.keepIn X.K (.ref f) = true)
    (hb : ∀ (s : Shared) (ws : List Value), X.K.In s.heap → ws.length = ks.length → BindsTo s fd ⟨[], ks.zip ws⟩ (ps.zip (g ws))) (hrel : ∀ {zs : List V} {ws : List Value}, Vals zs ws → Vals (gV zs) (g ws)) (hx : Passes CX X E) (hkw : PK X kws tk)
    (hall : (backToKw pos (keywordEach kws X.env)).all (·.1.isSome) = true := by rfl) (hks : (backToKw pos (keywordEach kws X.env)).filterMap (·.1) = ks := by rfl) (hdb : (x == ("__debug__" : Str)) = false := by decide)
    (hpl : ((backTo pos (starEach [] X.env)).any (·.1) || (backToKw pos (keywordEach kws X.env)).any (·.1.isNone)) = false := by rfl) :
    PE X (.Call (.Name x p) [] kws pos) (tCallKw ks.length sp gV E tk) := by
  refine ⟨fun pins s σ H Q I h => wpAny_Call_Name_kw (ld_glob I hg hm ?_ hdb)⟩
  refine PySem.W.callWith_KW0 (h₀ := X.base) I.ok.mod.kin hk hall (thn (hkw.run pos pins s σ H _ I h) fun ws s2 ⟨zs, H2, I2, rz, l2, q2⟩ => ⟨I2.kIn, ?_⟩) hpl
  rw [hks]
  refine wpAny_call (codeAny_mono (F.run X.A X.stack s2 H2 ⟨[], ks.zip ws⟩ (g ws) (gV zs) Q E hr I2.env0 (hb s2 ws I2.kIn (rz.length.symm.trans l2)) (hrel rz) q2) fun r s' hq => ?_)
  match r, hq with
  | .error e, hq => exact hx pins σ H2 s2 e s' I2 hq
  | .ok (.ret u), hq => exact I2.after hq
  | .ok .next, hq => exact hq.elim
  | .ok .brk, hq => exact hq.elim
  | .ok .cont, hq => exact hq.elim
end
/-! ### lists of small numbers as data -/
def wv (k : Nat) : V := .int (k : Int)
def dw (k : Nat) : PyData := PyData.int (k : Int)
theorem dp_walls {K : PySem.W.Frag} {H : Hp} : ∀ ks : List Nat, DpAll K H (ks.map wv) (ks.map dw)
  | [] => .nil
  | k :: r => .cons (.int _) (dp_walls r)
theorem lay_dw : ∀ ks : List Nat, PyData.canLayAll0 (ks.map dw) = true
  | [] => rfl
  | k :: r => by
    rw [List.map_cons]
    simp only [PyData.canLayAll0, lay_dw r, Bool.and_true]
    rfl
theorem deep_dw : ∀ ks : List Nat, PyData.depthAll (ks.map dw) = 0
  | [] => rfl
  | k :: r => by
    rw [List.map_cons]
    simp only [PyData.depthAll, deep_dw r]
    rfl
theorem shaped_ints (ks : List Nat) : SeqAt.shaped (.list (ks.map dw)) = true := by
  unfold SeqAt.shaped
  rw [Bool.and_eq_true]
  refine ⟨?_, decide_eq_true ?_⟩
  · simp only [PyData.canLay0, lay_dw]
  · simp only [PyData.depth, deep_dw]
    decide
theorem show_dw : ∀ ks : List Nat, (∀ k ∈ ks, k ≤ 30) → PyData.showableAll (ks.map dw) = true
  | [], _ => rfl
  | k :: r, h => by
    have hk := h k (List.mem_cons_self ..)
    have e : PyData.showable (dw k) = true := by
      show decide ((k : Int).natAbs.log2 < 1920) = true
      refine decide_eq_true (Nat.lt_of_le_of_lt (Nat.log2_le_self _) ?_)
      show k < 1920
      omega
    rw [List.map_cons]
    simp only [PyData.showableAll, e, show_dw r fun q hq => h q (List.mem_cons_of_mem _ hq), Bool.and_true]
theorem nodict_dw : ∀ ks : List Nat, PyData.hasDictAll (ks.map dw) = false
  | [] => rfl
  | k :: r => by
    rw [List.map_cons]
    simp only [PyData.hasDictAll, nodict_dw r, Bool.or_false]
    rfl
theorem text30 : ∀ k < 31, (PyData.shown (dw k)).length ≤ 2 := by decide +kernel
theorem shown_len : ∀ ks : List Nat, (∀ k ∈ ks, k ≤ 30) → ((PyData.shownAll (ks.map dw)).map (·.length)).sum ≤ 2 * ks.length ∧ (PyData.shownAll (ks.map dw)).length = ks.length
  | [], _ => ⟨Nat.le_refl _, rfl⟩
  | k :: r, h => by
    obtain ⟨h1, h2⟩ := shown_len r fun q hq => h q (List.mem_cons_of_mem _ hq)
    have hk := text30 k (by have := h k (List.mem_cons_self ..); omega)
    rw [List.map_cons]
    simp only [PyData.shownAll, List.map_cons, List.sum_cons, List.length_cons]
    omega
theorem ints_show {ks : List Nat} (h : ∀ k ∈ ks, k ≤ 30) (hl : ks.length ≤ 1000) : (PyData.list (ks.map dw)).showable = true ∧ (PyData.list (ks.map dw)).hasDict = false ∧ (PyData.list (ks.map dw)).depth ≤ 64 ∧ (PyData.list (ks.map dw)).shown.length ≤ sizeLine := by
  obtain ⟨h1, h2⟩ := shown_len ks h
  refine ⟨?_, ?_, ?_, ?_⟩
  · simp only [PyData.showable, show_dw ks h]
  · simp only [PyData.hasDict, nodict_dw]
  · simp only [PyData.depth, deep_dw]
    decide
  · simp only [PyData.shown]
    have h3 := listText_len_le (PyData.shownAll (ks.map dw))
    rw [sizeLine_eq]
    omega
/-! ### the law's own words of walls and changes -/
theorem opn_eq {bs : List Bool} {k : Nat} (h : k ≤ bs.length) : opn bs k = ((decide (k = 0) || bs.getD (k - 1) false) && (decide (k = bs.length) || !bs.getD k true)) := by
  have hl := ends_len bs
  have e1 : (ends bs)[k]?.getD false = (decide (k = 0) || bs.getD (k - 1) false) := by
    unfold ends
    cases k with
    | zero => rfl
    | succ j =>
      rw [List.getElem?_cons_succ, List.getElem?_append_left (by omega), List.getD_eq_getElem?_getD]
      simp
  have e2 : (ends bs)[k + 1]?.getD true = (decide (k ≠ bs.length) && bs.getD k true) := by
    unfold ends
    rw [List.getElem?_cons_succ]
    by_cases hk : k = bs.length
    · subst hk
      rw [List.getElem?_append_right (Nat.le_refl _)]
      simp
    · rw [List.getElem?_append_left (by omega), List.getD_eq_getElem?_getD, decide_eq_true hk]
      rfl
  have e3 : opn bs k = (((ends bs)[k]?.getD false) && !((ends bs)[k + 1]?.getD true)) := by
    have g1 : (ends bs)[k]? = some (ends bs)[k] := List.getElem?_eq_getElem (by omega)
    have g2 : (ends bs)[k + 1]? = some (ends bs)[k + 1] := List.getElem?_eq_getElem (by omega)
    have g3 : ((ends bs).drop k).take 2 = [(ends bs)[k], (ends bs)[k + 1]] := by
      rw [List.drop_eq_getElem_cons (by omega), List.drop_eq_getElem_cons (by omega)]
      rfl
    unfold opn
    rw [g3, g1, g2]
    show decide ([(ends bs)[k], (ends bs)[k + 1]] = [true, false]) = ((ends bs)[k] && !(ends bs)[k + 1])
    cases (ends bs)[k] <;> cases (ends bs)[k + 1] <;> rfl
  rw [e3, e1, e2]
  by_cases hk : k = bs.length
  · simp [hk]
  · simp [hk]
def lbeh (bs : List Bool) (k : Nat) : List Bool := if k < bs.length then (if 0 < k then bs.set (k - 1) false else bs).set k true else (if 0 < k then bs.set (k - 1) false else bs)
theorem lbeh_len (bs : List Bool) (k : Nat) : (lbeh bs k).length = bs.length := by
  unfold lbeh
  split <;> split <;> simp
theorem chg_get {bs : List Bool} {k i : Nat} (h : k ≤ bs.length) (hi : i < bs.length) : (chg bs k)[i]? = some (if i + 1 = k then false else if i = k then true else bs[i]) := by
  have hl := ends_len bs
  have hb := bhd_len h
  have he : (ends bs)[i + 1]? = some bs[i] := by
    unfold ends
    rw [List.getElem?_cons_succ, List.getElem?_append_left hi, List.getElem?_eq_getElem hi]
  unfold chg
  rw [List.getElem?_take_of_lt (by rw [hb]; omega), List.getElem?_drop, Nat.add_comm 1 i]
  unfold bhd
  rw [List.append_assoc, List.append_assoc]
  by_cases h1 : i + 1 < k
  · rw [List.getElem?_append_left (by rw [List.length_take]; omega), List.getElem?_take_of_lt h1, he, if_neg (by omega), if_neg (by omega)]
  · rw [List.getElem?_append_right (by rw [List.length_take]; omega), List.length_take, Nat.min_eq_left (by omega)]
    by_cases h2 : i + 1 = k
    · rw [if_pos h2, h2, Nat.sub_self]
      rfl
    · rw [if_neg h2]
      by_cases h3 : i = k
      · rw [if_pos h3, show i + 1 - k = 1 by omega]
        rfl
      · rw [if_neg h3]
        obtain ⟨m, hm⟩ : ∃ m, i + 1 - k = m + 2 := ⟨i + 1 - k - 2, by omega⟩
        rw [hm]
        show ((ends bs).drop (k + 2))[m]? = some bs[i]
        rw [List.getElem?_drop, show k + 2 + m = i + 1 by omega, he]
theorem lbeh_eq {bs : List Bool} {k : Nat} (h : k ≤ bs.length) : lbeh bs k = chg bs k := by
  apply List.ext_getElem?
  intro i
  by_cases hi : i < bs.length
  · rw [chg_get h hi]
    unfold lbeh
    have g : bs[i]? = some bs[i] := List.getElem?_eq_getElem hi
    have inner : (if 0 < k then bs.set (k - 1) false else bs)[i]? = some (if i + 1 = k then false else bs[i]) := by
      by_cases hk : 0 < k
      · rw [if_pos hk, List.getElem?_set]
        by_cases e : k - 1 = i
        · rw [if_pos e, if_pos (by omega), if_pos (by omega)]
        · rw [if_neg e, if_neg (by omega), g]
      · rw [if_neg hk, if_neg (by omega), g]
    have il : (if 0 < k then bs.set (k - 1) false else bs).length = bs.length := by
      split <;> simp
    by_cases hk : k < bs.length
    · rw [if_pos hk, List.getElem?_set]
      by_cases e : k = i
      · rw [if_pos e, if_pos (by rw [il]; exact hk), if_neg (by omega), if_pos e.symm]
      · rw [if_neg e, inner]
        by_cases e2 : i + 1 = k
        · rw [if_pos e2, if_pos e2]
        · rw [if_neg e2, if_neg e2, if_neg (fun z => e z.symm)]
    · rw [if_neg hk, inner]
      by_cases e2 : i + 1 = k
      · rw [if_pos e2, if_pos e2]
      · rw [if_neg e2, if_neg e2, if_neg (by omega)]
  · rw [List.getElem?_eq_none (by rw [lbeh_len]; omega), List.getElem?_eq_none (by rw [chg_len h]; omega)]
end HopR

set_option Elab.async false
set_option linter.all false
set_option maxRecDepth 100000
namespace HopR
open PySem PySem.Spec PyProof.Rows L2
/-! ### an exception that is kept behind its suite -/
/-- the exception at a, of the class cls, its dict d, kept as a value -/
def ExH (cls : Value) (d : Option Addr) (a : Addr) : HO := .ext fun h => ∃ (oe : Obj) (vs : Array Value), h.get? a = some oe ∧ Zc cls d oe ∧ oe.data = .fields vs
theorem exH_ok {P : Program} {w : World} {H : Hp} {h : Heap} {a : Addr} {cls : Value} {d : Option Addr} {oe : Obj} {vs : Array Value} (e : h.get? a = some oe) (z : Zc cls d oe) (q : oe.data = .fields vs) : ObjOk P w H h a (ExH cls d a) :=
  ⟨⟨oe, vs, e, z, q⟩, ⟨oe, e⟩, fun _ _ ⟨o, v, q, r⟩ k => ⟨o, v, k o q, r⟩⟩
section
variable {X : Cx} {pins : List (Addr × Obj)} {σ σ0 : L2.St} {H H0 : Hp} {s sI : Shared} {a : Addr} {oe : Obj} {vs : Array Value} {o : HO}
/-- an object that came behind the entry is tracked from now on -/
theorem track (I : Inv X pins σ H s) (J : Inv X pins σ0 H0 sI) (hI : sI.heap.get? a = none) (hx : X.ex = []) (na : H a = none) (nL : a ≠ X.env.locals) (ha : s.heap.get? a = some oe) (hd : oe.data = .fields vs) (new : ObjOk X.prog X.w (upd H a o) s.heap a o) : Inv X pins σ (upd H a o) s := by
  have n0 : ∀ b u, X.s_0.heap.get? b = some u → b ≠ a := by
    intro b u e z
    subst z
    obtain ⟨u2, q⟩ := J.base.there b u e (by rw [hx]; exact fun z => nomatch z)
    rw [hI] at q
    cases q
  have nN : ∀ {b : Addr} {u : HO}, H b = some u → b ≠ a := fun e => ne_of_none e na
  have bs := I.base
  refine ⟨I.ok, I.os, I.bare, ⟨bs.keep, bs.slot, ?_, bs.there, ?_, ?_, ?_⟩, I.loc, I.cell, ?_, ?_, ?_, ?_, I.len⟩
  · intro b u e n q
    rw [upd_ne (n0 b u e)]
    exact bs.free b u e n q
  · intro b xs e
    have q := bs.tups b xs e
    rw [upd_ne (nN q)]
    exact q
  · intro b ob u e
    have q := bs.frzs b ob u e
    rw [upd_ne (nN q)]
    exact q
  · intro b ps e
    obtain ⟨m, q⟩ := bs.tbls b ps e
    exact ⟨m, by rw [upd_ne (nN q)]; exact q⟩
  · rw [upd_ne nL.symm]
    exact I.free
  · intro x c e
    have nc : c ≠ a := by
      intro z
      subst z
      obtain ⟨v, oc, e1, e2⟩ := I.cell x c e
      rw [ha] at e1
      cases e1
      rw [hd] at e2
      cases e2
    rw [upd_ne nc]
    exact I.freeC x c e
  · intro p hp
    have np : p.1 ≠ a := by
      intro z
      have q := (J.pin p hp).1
      rw [z, hI] at q
      cases q
    obtain ⟨e, n, r⟩ := I.pin p hp
    exact ⟨e, by rw [upd_ne np]; exact n, r⟩
  · intro b u e
    by_cases hb : b = a
    · subst hb
      rw [upd_same] at e
      cases e
      exact new
    · rw [upd_ne hb] at e
      refine (I.hok b u e).stay (fun c v _ q => q) (fun c q => ?_) (fun c xs q => ?_)
      · rw [upd_ne (nN q)]
        exact q
      · rw [upd_ne (nN q)]
        exact q
end
theorem fly_keeps {B h h' : Heap} {l : List Env} {a : Addr} {Z : Obj → Prop} (x : HandSPX.FlyingZ B l a Z h) (k : ∀ b o, h.get? b = some o → h'.get? b = some o) : HandSPX.FlyingZ B l a Z h' := by
  obtain ⟨x1, x2, x3, oe, vs, T, oT, ts, e1, e2, e3, e4, e5, e6, e7, e8, e9⟩ := x
  exact ⟨fun b o e => k b o (x1 b o e), x2, x3.of_keeps (fun b o e _ => ⟨o, k b o e, rfl⟩), oe, vs, T, oT, ts, k _ _ e1, e2, e3, e4, e5, e6, k _ _ e7, e8, e9⟩
/-- the clause's test takes the exceptions whose class has m -/
def Tests (X : Cx) (t : Expr) (m : Value → Prop) : Prop :=
  ∀ (a : Addr) (oe : Obj) (pn pins : List (Addr × Obj)) (σ : L2.St) (H : Hp) (s : Shared) (cls : Value) (Q : Value → Shared → Prop) (E : Value → Shared → Prop), Inv (X.suite a ((a, oe) :: pn)) pins σ H s → s.heap.get? a = some oe → oe.cls = cls → m cls →
    (∀ (c : Value) (h' : Heap), (∀ b o, s.heap.get? b = some o → h'.get? b = some o) → PySem.W.Looks (model X.prog X.w) h' (excMatches (.ref a) c) true → Q c { s with heap := h' }) → wpAny (model X.prog X.w) (X.A.mark (some (.ref a))) (eval t X.env) Q E s
theorem ld_nm {X : Cx} {x : Str} {c : Value} {pins : List (Addr × Obj)} {σ : L2.St} {H : Hp} {s : Shared} {Q : Value → Shared → Prop} {E : Value → Shared → Prop} {p : Pos} (I : Inv X pins σ H s) (hc : Names X x c) (q : Q c s) : wpAny (model X.prog X.w) X.A (eval (.Name x p) X.env) Q E s := by
  obtain ⟨g, nd, h | ⟨h1, h2, h3⟩⟩ := hc
  · exact ld_glob I g h q nd
  · exact ld_blt I g h1 h2 q h3 nd
theorem ty_looks {P : Program} {w : World} {h : Heap} {a : Addr} {oe : Obj} {cls : Value} (e : h.get? a = some oe) (c : oe.cls = cls) : PySem.W.Looks (model P w) h (typeOf (.ref a)) cls := by
  intro A Q E s k q
  exact wpAny_typeOf_ref (k _ _ e) (by rw [c]; exact q)
theorem tests_one {X : Cx} {x : Str} {c : Value} {p : Pos} (hc : Names X x c) : Tests X (.Name x p) fun cls => PySem.W.exmOne X.K cls c = some true := by
  intro a oe pn pins σ H s cls Q E I ha hcl hm k
  exact ld_nm (X := X.suite a ((a, oe) :: pn)) I hc (k c s.heap (fun _ _ z => z) (PySem.W.exm_one I.kIn (ty_looks ha hcl) hm))
theorem tests_two {X : Cx} {x1 x2 : Str} {c1 c2 : Value} {p1 p2 pos : Pos} {u} (h1 : Names X x1 c1) (h2 : Names X x2 c2) : Tests X (.Tuple [.Name x1 p1, .Name x2 p2] u pos) fun cls => PySem.W.exmAny X.K cls [c1, c2] = some true := by
  intro a oe pn pins σ H s cls Q E I ha hcl hm k
  refine wpAny_Tuple_spliced ?_
  refine Calls.spliced_cons (ld_nm (X := X.suite a ((a, oe) :: pn)) I h1 ?_)
  refine Calls.spliced_cons (ld_nm (X := X.suite a ((a, oe) :: pn)) I h2 (Calls.spliced_nil ⟨by show 2 ≤ sizeLine; decide, ?_⟩))
  have hk : ∀ b o, s.heap.get? b = some o → (s.heap.push { cls := .type "tuple", data := .seq [c1, c2].toArray }).get? b = some o := fun b o e => Heap.get?_push_of_some _ e
  refine k (.ref s.heap.objs.size) _ hk ?_
  exact PySem.W.exm_tup2 (fun b o e => hk b o (I.kIn b o e)) (ty_looks (hk _ _ ha) hcl) (Heap.get?_push_size _ rfl) hm
/-- what 'except .. as n: v = n' wishes of an exception of the body: it is taken, and kept in slot j; slot i, n's, is empty behind it -/
def wHeld (m : Value → Prop) (i j : Nat) (D : Ends) : WX := fun cls d σ H => m cls ∧ ∀ a, H a = none → D.nx (((σ.set i (some (.ref a))).set j (some (.ref a))).set i none) (upd H a (ExH cls d a))
section
variable {X : Cx} {n v : Str} {i j : Nat} {t : Expr} {m : Value → Prop} {body : List Stmt} {pos pos' p1 p2 p3 : Pos} {tb : WX → TS}
theorem ps_try_held (hs : X.stack = X.env :: X.outer) (hf : X.env.frame = some X.env.locals) (hN : X.N.Nodup) (hi : X.N[i]? = some n) (hj : X.N[j]? = some v) (hln : X.env.kindOf n = some .local) (hlv : X.env.kindOf v = some .local) (hx : X.ex = []) (ht : Tests X t m)
    (hb : ∀ (W : WX) (pn : List (Addr × Obj)) (xe : Value → Shared → Prop), Takes (X.tr pn xe) W → PassesOwn (model X.prog X.w) X.A X.env xe → PSs (X.tr pn xe) body (tb W))
    (hsu : ∀ (a : Addr) (oe : Obj) (pn : List (Addr × Obj)), PSs (X.suite a ((a, oe) :: pn)) [.Assign [.Name v p1] (.Name n p2) p3] (tAsg (tVar i) (gName j))) :
    PS X (.Try body [.ExceptHandler (some t) (some n) [.Assign [.Name v p1] (.Name n p2) p3] pos'] [] [] pos) (fun D σ H => tb (wHeld m i j D) D σ H) := by
  constructor
  intro pins s σ H D I h
  have ok := I.ok
  have frm : X.A.frames = some (X.env :: X.outer) := ok.frames.trans (congrArg some hs)
  have body_ := hb (wHeld m i j D) (X.pn ++ pins) (fun e s₁ => wpAny (model X.prog X.w) X.A (noteFrame e X.env) (fun _ s₂ => wpAny (model X.prog X.w) X.A (setFlight e none) (fun _ s₃ => wpAny (model X.prog X.w) X.A (handleBy e X.env [.ExceptHandler (some t) (some n) [.Assign [.Name v p1] (.Name n p2) p3] pos']) (SP X pins D) X.xe s₃) X.xe s₂) X.xe s₁) ?caught PassesOwn.looking
  · refine wpAny_Try_except (wpAny_mono (body_.run [] s σ H D (I.toTry _) h) ?_ fun _ _ z => z)
    intro f s1 hsp
    match f, hsp with
    | .next, ⟨σ', H', J', q⟩ => exact wpAny_execs_nil ⟨σ', H', J'.ofTry ok, q⟩
    | .brk, ⟨σ', H', J', q⟩ => exact ⟨σ', H', J'.ofTry ok, q⟩
    | .cont, ⟨σ', H', J', q⟩ => exact ⟨σ', H', J'.ofTry ok, q⟩
    | .ret u, ⟨v, σ', H', J', r, q⟩ => exact ⟨v, σ', H', J'.ofTry ok, r, q⟩
  case caught =>
    rintro u s' ⟨a, B, sI, pins', σ', H', cls, d, rfl, J', nb, up, sky, na, os, ag, hm, hk⟩
    have J : Inv X pins σ' H' sI := J'.ofTry ok
    have sk2 : Sky B (X.env :: X.outer) a (Zc cls d) X.env.locals s'.heap := hs ▸ sky
    show wpAny (model X.prog X.w) X.A (noteFrame (.ref a) X.env) _ _ _
    refine Sky.land Zc.steady frm hf sk2 fun h3 fl3 up3 => ?_
    have notF : ∀ {g : Heap}, HandSPX.FlyingZ B (X.env :: X.outer) a (Zc cls d) g → a ∉ frs (X.env :: X.outer) := by
      intro g fl hmem
      obtain ⟨o1, v1, e1, _, e3⟩ := fl.there
      obtain ⟨_, o2, e2, hn2⟩ := fl.2.2.1.mem hmem
      rw [e1] at e2
      cases e2
      exact hn2 _ e3
    have nfr := notF fl3
    have nL : a ≠ X.env.locals := by
      intro z
      exact nfr (List.mem_filterMap.mpr ⟨X.env, List.mem_cons_self, hf.trans (congrArg some z.symm)⟩)
    have nF : a ∉ X.fs := by
      intro z
      obtain ⟨e, he, q⟩ := List.mem_filterMap.mp z
      exact nfr (List.mem_filterMap.mpr ⟨e, List.mem_cons_of_mem _ he, q⟩)
    have nI : sI.heap.get? a = none := by
      cases e : sI.heap.get? a with
      | none => rfl
      | some o =>
        have q := nb a o e (by rw [hs]; exact nfr)
        rw [fl3.2.1] at q
        cases q
    obtain ⟨oe3, vs3, he3, hz3, hd3⟩ := fl3.there
    have J3 : Inv X pins σ' H' { s' with heap := h3 } := J.landed nb fl3.1 (up.trans up3) os ag
    refine wpAny_handleBy_cons (codeAny_handlers_test ?_) (fun q => nomatch q)
    refine ht a oe3 _ _ _ _ _ cls _ _ (J3.suite he3 hd3 na nL nF) he3 hz3.1 hm fun c h' kp lk => lk.here ?_
    refine codeAny_handlers_suite_as (HandSPX.lands_againZ (fly_keeps fl3 kp) fun h4 fl4 up4 => ?_)
    have upA : sI.heap.UpToSlots h4 := ((up.trans up3).trans (Heap.UpToSlots.of_keeps kp)).trans up4
    have J4 : Inv X pins σ' H' { s' with heap := h4 } := J.landed nb fl4.1 upA os ag
    obtain ⟨oe4, vs4, he4, hz4, hd4⟩ := fl4.there
    refine store_ok (X := X.suite a ((a, oe4) :: (X.pn ++ pins))) (v := .ref a) (J4.suite he4 hd4 na nL nF) hN hi (.inl hln) rfl (fun s5 S5 => ?_) (.inr hln)
    have hlen : i < σ'.length := by
      rw [J.len]
      exact (List.getElem?_eq_some_iff.mp hi).1
    refine wpAny_mono ((hsu a oe4 (X.pn ++ pins)).run [] s5 _ H' { nx := fun σ6 H6 => σ6 = (σ'.set i (some (.ref a))).set j (some (.ref a)) ∧ H6 = H', rt := fun _ _ => False } S5 ?_) (fun f s6 hsp => ?_) (fun _ _ z => False.elim z)
    · exact ⟨.ref a, by simp [hlen], rfl, rfl⟩
    match f, hsp with
    | .next, ⟨σ6, H6, S6, e6, e7⟩ =>
      subst e6 e7
      refine gone_ok (X := X.suite a ((a, oe4) :: (X.pn ++ pins))) S6 hN hi hln fun s7 S7 => ?_
      have ha7 := (S7.pin (a, oe4) (List.mem_append_left _ List.mem_cons_self)).1
      exact ⟨_, _, track (S7.unsuite ok) J nI hx na nL ha7 hd4 (exH_ok ha7 hz4 hd4), hk a na⟩
    | .brk, ⟨_, _, _, z⟩ => exact z.elim
    | .cont, ⟨_, _, _, z⟩ => exact z.elim
    | .ret u, ⟨_, _, _, _, _, z⟩ => exact z.elim
end
end HopR

set_option Elab.async false
set_option linter.all false
set_option maxRecDepth 100000
namespace HopR
open PySem PySem.Spec PyProof.Rows L2
/-! ### isinstance of a kept exception without a dict -/
section
variable {X : Cx}
theorem held_at {pins : List (Addr × Obj)} {σ : L2.St} {H : Hp} {s : Shared} {a D : Addr} (I : Inv X pins σ H s) (ha : H a = some (ExH (.ref D) none a)) : ∃ oe, PySem.W.InstAt s.heap a oe D none := by
  obtain ⟨⟨oe, vs, e, ⟨z1, z2⟩, q⟩, _, _⟩ := I.hok a _ ha
  obtain ⟨oc, od, oda, osl⟩ := oe
  dsimp only at z1 z2 q
  subst z1 z2 q
  exact ⟨_, e, rfl, rfl, trivial⟩
/-- isinstance(kept, c) -/
def rIsH (K : PySem.W.Frag) : List V → Hp → VK → Prop := fun xs H Q => ∃ (a D : Addr) (c : V) (cv : Value) (b : Bool), xs = [.ref a, c] ∧ H a = some (ExH (.ref D) none a) ∧ ExcC K D ∧ ClsV c cv ∧ PySem.W.kitOne K (.ref D) cv = some b ∧ Q (.bl b) H
theorem call_isH : CallR X (.builtin "isinstance") (rIsH X.K) := by
  rintro pins s σ H xs us Q I r ⟨a, D, c, cv, b, rfl, ha, C, kc, e, q⟩
  obtain ⟨u1, u2, rfl, r1, r2⟩ := vals2 r
  obtain rfl := kc.eq r2
  cases (show u1 = Value.ref a from r1)
  obtain ⟨oe, J⟩ := held_at I ha
  exact PySem.W.kia_one (PySem.W.handS_kitx_exc C.hg C.hk C.hs C.hd C.ha C.hn C.ht C.hm) I.kIn J e (fun z => nomatch z) fun tk => ⟨.bl b, H, I.tok tk, rfl, q⟩
/-- isinstance(kept, (c1, c2, ..)) -/
def rIsHT (K : PySem.W.Frag) : List V → Hp → VK → Prop := fun xs H Q => ∃ (a D tp : Addr) (cs : List V) (ws : List Value) (b : Bool), xs = [.ref a, .ref tp] ∧ H a = some (ExH (.ref D) none a) ∧ ExcC K D ∧ H tp = some (.tup cs) ∧ Paired ClsV cs ws ∧ PySem.W.kitAny K (.ref D) ws = some b ∧ Q (.bl b) H
theorem call_isHT : CallR X (.builtin "isinstance") (rIsHT X.K) := by
  rintro pins s σ H xs us Q I r ⟨a, D, tp, cs, ws, b, rfl, ha, C, ht, kc, e, q⟩
  obtain ⟨u1, u2, rfl, r1, r2⟩ := vals2 r
  cases (show u1 = Value.ref a from r1)
  cases (show u2 = Value.ref tp from r2)
  obtain ⟨oe, J⟩ := held_at I ha
  have hT : ObjOk X.prog X.w H s.heap tp (.tup cs) := I.hok tp _ ht
  obtain ⟨_, its, rv, ⟨oc, od, dt, osl⟩, g1, g2, n, g3⟩ := hT
  obtain rfl := ClsV.all kc rv
  simp only at g2 g3
  subst g2 g3
  exact PySem.W.kia_tup (PySem.W.handS_kitx_exc C.hg C.hk C.hs C.hd C.ha C.hn C.ht C.hm) I.kIn J g1 e (fun z => nomatch z) fun tk => ⟨.bl b, H, I.tok tk, rfl, q⟩
end
/-! ### things that are whole numbers or not -/
/-- x is of a built-in type that is no whole number's -/
def Odd (K : PySem.W.Frag) (H : Hp) (x : V) : Prop := ∃ t bI, TyX K H x t ∧ PySem.W.kitOne K t (.type "int") = some bI ∧ (bI = true → PySem.W.kitOne K t (.type "bool") = some true)
theorem odd_non {K : PySem.W.Frag} {H : Hp} : Odd K H .non := ⟨_, false, .base .non, kit_ty (by decide +kernel), fun z => nomatch z⟩
theorem odd_bl {K : PySem.W.Frag} {H : Hp} {b : Bool} : Odd K H (.bl b) := ⟨_, true, .base (.bl b), kit_ty (by decide +kernel), fun _ => kit_ty (by decide +kernel)⟩
theorem odd_str {K : PySem.W.Frag} {H : Hp} {z : Str} : Odd K H (.str z) := ⟨_, false, .base (.str z), kit_ty (by decide +kernel), fun z => nomatch z⟩
theorem odd_lst {K : PySem.W.Frag} {H : Hp} {a : Addr} {xs : List V} (e : H a = some (.lst xs)) : Odd K H (.ref a) := ⟨_, false, .base (.lst e), kit_ty (by decide +kernel), fun z => nomatch z⟩
theorem odd_tup {K : PySem.W.Frag} {H : Hp} {a : Addr} {xs : List V} (e : H a = some (.tup xs)) : Odd K H (.ref a) := ⟨_, false, .base (.tup e), kit_ty (by decide +kernel), fun z => nomatch z⟩
theorem odd_dK {K : PySem.W.Frag} {H : Hp} {a : Addr} {xs : List (Key × V)} (e : H a = some (.dK xs)) : Odd K H (.ref a) := ⟨_, false, .base (.dK e), kit_ty (by decide +kernel), fun z => nomatch z⟩
end HopR

set_option Elab.async false
set_option linter.all false
set_option maxRecDepth 100000
namespace HopR
open PySem L2
theorem same_upd {H : Hp} {p : Addr} {o : HO} (h : H p = none) : Same H (upd H p o) := fun b x e => by
  rw [upd_ne (ne_of_none e h)]
  exact e
theorem same_new {H H1 : Hp} {p : Addr} {o : HO} (h : H p = none) (s : Same H H1) : Same H (upd H1 p o) := fun b x e => by
  rw [upd_ne (ne_of_none e h)]
  exact s _ _ e
/-- a def of the text, its binding, where its name leads -/
structure Fn (K : PySem.W.Frag) (mg : Str → Option Value) (x : Str) (st : Stmt) (ps : List Str) (f : Addr) (fd : FuncData) : Prop where
  F : Fun K x x st f fd
  b : Binds K fd ps []
  g : mg x = some (.ref f)
end HopR

set_option Elab.async false
set_option linter.all false
set_option maxRecDepth 100000
namespace HopR
open PySem L2
/-! ### classes of refusals -/
theorem kit_own {K : PySem.W.Frag} {D C : Addr} {b : Bool} (ne : D ≠ C) (hd : PySem.W.hasDictIn K C = true) (ht : PySem.W.typeIn K (.ref C) = some (.type "type")) (h : PySem.W.subIn K (.ref D) (.ref C) = some b) : PySem.W.kitOne K (.ref D) (.ref C) = some b := by
  obtain ⟨cd, hc, _⟩ := PySem.W.any_some hd
  have e1 : ((Value.ref D == Value.ref C) = true) = False := by
    rw [eq_iff_iff]
    exact ⟨fun z => ne (Value.ref.inj (beq_iff_eq.mp z)), False.elim⟩
  have e2 : ((PySem.W.clsIn K C).isSome && PySem.W.typeIn K (.ref C) == some (.type "type")) = true := by rw [hc, ht] <;> rfl
  unfold PySem.W.kitOne
  rw [if_neg (by rw [e1]; exact id)]
  show (if ((PySem.W.clsIn K C).isSome && PySem.W.typeIn K (.ref C) == some (.type "type")) = true then PySem.W.subIn K (.ref D) (.ref C) else none) = some b
  rw [if_pos e2]
  exact h
theorem kit_me {K : PySem.W.Frag} {D : Addr} : PySem.W.kitOne K (.ref D) (.ref D) = some true := by
  unfold PySem.W.kitOne
  rw [if_pos (by simp)]
theorem kit_blt {K : PySem.W.Frag} {D : Addr} {T : String} {b : Bool} (m : PySem.W.kitMeta T = true) (h : PySem.W.subIn K (.ref D) (.type T) = some b) : PySem.W.kitOne K (.ref D) (.type T) = some b := by
  have e1 : ¬ ((Value.ref D == Value.type T) = true) := fun z => nomatch (beq_iff_eq.mp z)
  unfold PySem.W.kitOne
  rw [if_neg e1]
  show (if PySem.W.kitMeta T = true then PySem.W.subIn K (.ref D) (.type T) else none) = some b
  rw [if_pos m]
  exact h
theorem kitAny_cons {K : PySem.W.Frag} {t c : Value} {r : List Value} (h : PySem.W.kitOne K t c = some false) (q : PySem.W.kitAny K t r = some false) : PySem.W.kitAny K t (c :: r) = some false := by
  simp only [PySem.W.kitAny, h, q]
theorem kitAny_nil {K : PySem.W.Frag} {t : Value} : PySem.W.kitAny K t [] = some false := by simp only [PySem.W.kitAny]
theorem exmAny2 {K : PySem.W.Frag} {t c1 c2 : Value} {b1 b2 : Bool} (h1 : PySem.W.exmOne K t c1 = some b1) (h2 : PySem.W.exmOne K t c2 = some b2) : PySem.W.exmAny K t [c1, c2] = some (b1 || b2) := by
  simp only [PySem.W.exmAny, h1, h2, Bool.or_false]
/-- an own exception class, as its instances are made and asked -/
structure Xc (K : PySem.W.Frag) (D : Addr) (bm : List Value) (nw : String) : Prop where
  x : PySem.W.excIn K D bm nw = true
  k : PySem.W.keepIn K (.ref D) = true
  be : PySem.W.subIn K (.ref D) (.type "BaseException") = some true
  ty : PySem.W.typeIn K (.ref D) = some (.type "type")
  c : ExcC K D
abbrev bmV : List Value := [.type "ValueError", .type "Exception", .type "BaseException", .type "object"]
abbrev bmZ : List Value := [.type "ZeroDivisionError", .type "ArithmeticError", .type "Exception", .type "BaseException", .type "object"]
/-! ### things by their kind -/
theorem tyx_same {K : PySem.W.Frag} {H H' : Hp} {x : V} {t : Value} (s : Same H H') (ty : TyX K H x t) : TyX K H' x t := by
  cases ty with
  | base h =>
    cases h with
    | non => exact .base .non
    | bl x => exact .base (.bl x)
    | int i => exact .base (.int i)
    | str x => exact .base (.str x)
    | flt x => exact .base (.flt x)
    | lst e => exact .base (.lst (s _ _ e))
    | frz e => exact .base (.frz (s _ _ e))
    | tup e => exact .base (.tup (s _ _ e))
    | dK e => exact .base (.dK (s _ _ e))
    | dT e => exact .base (.dT (s _ _ e))
    | ins e a b c d f => exact .base (.ins (s _ _ e) a b c d f)
  | byt b => exact .byt b
  | set e => exact .set (s _ _ e)
  | kList e c => exact .kList e c
  | kTuple e c => exact .kTuple e c
  | kDict e c => exact .kDict e c
  | fTuple e => exact .fTuple (s _ _ e)
  | fDict e => exact .fDict (s _ _ e)
theorem odd_same {K : PySem.W.Frag} {H H' : Hp} {x : V} (s : Same H H') (h : Odd K H x) : Odd K H' x := by
  obtain ⟨t, b, ty, k⟩ := h
  exact ⟨t, b, tyx_same s ty, k⟩
/-- x is no text -/
def NoTxt (K : PySem.W.Frag) (H : Hp) (x : V) : Prop := ∃ t, TyX K H x t ∧ PySem.W.kitOne K t (.type "str") = some false
theorem notxt_non {K : PySem.W.Frag} {H : Hp} : NoTxt K H .non := ⟨_, .base .non, kit_ty (by decide +kernel)⟩
theorem notxt_bl {K : PySem.W.Frag} {H : Hp} {b : Bool} : NoTxt K H (.bl b) := ⟨_, .base (.bl b), kit_ty (by decide +kernel)⟩
theorem notxt_int {K : PySem.W.Frag} {H : Hp} {i : Int} : NoTxt K H (.int i) := ⟨_, .base (.int i), kit_ty (by decide +kernel)⟩
theorem notxt_lst {K : PySem.W.Frag} {H : Hp} {a : Addr} {xs : List V} (e : H a = some (.lst xs)) : NoTxt K H (.ref a) := ⟨_, .base (.lst e), kit_ty (by decide +kernel)⟩
theorem notxt_tup {K : PySem.W.Frag} {H : Hp} {a : Addr} {xs : List V} (e : H a = some (.tup xs)) : NoTxt K H (.ref a) := ⟨_, .base (.tup e), kit_ty (by decide +kernel)⟩
theorem notxt_dK {K : PySem.W.Frag} {H : Hp} {a : Addr} {xs : List (Key × V)} (e : H a = some (.dK xs)) : NoTxt K H (.ref a) := ⟨_, .base (.dK e), kit_ty (by decide +kernel)⟩
theorem notxt_same {K : PySem.W.Frag} {H H' : Hp} {x : V} (s : Same H H') (h : NoTxt K H x) : NoTxt K H' x := by
  obtain ⟨t, ty, k⟩ := h
  exact ⟨t, tyx_same s ty, k⟩
/-! ### signs in the written dict of both signs -/
/-- the sign is a bead or a free place -/
def okc (c : Nat) : Bool := decide (c = 111) || decide (c = 46)
theorem okc_cd (b : Bool) : okc (cd b) = true := by cases b <;> rfl
def keyText : Value → Option Str
  | .str s _ => some s
  | _ => none
theorem keyText_str {v : Value} {s : Str} (h : keyText v = some s) : ∃ t, v = .str s t := by
  cases v <;> simp [keyText] at h
  exact ⟨_, by rw [h]⟩
def keysAre (es : Array DictEntry) : Prop := es.toList.map (fun e => keyText e.key) = [some ("o" : Str), some ("." : Str)]
theorem sign_in {K : PySem.W.Frag} {d : Addr} {es : Array DictEntry} {n : Nat} (l : K.lookup d = some ⟨.type "dict", none, .dict es n, #[]⟩) (hk : keysAre es) (c : Nat) : ∃ r, PySem.W.nsIn K d ⟨#[c]⟩ = some r ∧ r.isSome = okc c := by
  unfold keysAre at hk
  obtain ⟨e1, e2, hes⟩ : ∃ e1 e2, es.toList = [e1, e2] := by
    have hl := congrArg List.length hk
    rw [List.length_map] at hl
    match h : es.toList, hl with
    | [e1, e2], _ => exact ⟨e1, e2, rfl⟩
  rw [hes] at hk
  obtain ⟨t1, k1⟩ := keyText_str (List.cons.inj hk).1
  obtain ⟨t2, k2⟩ := keyText_str (List.cons.inj (List.cons.inj hk).2).1
  have i1 : e1.key.isStr ⟨#[c]⟩ = decide (c = 111) := by
    rw [k1]
    by_cases h : c = 111
    · subst h
      show (("o" : Str) == ⟨#[111]⟩) = true
      decide +kernel
    · rw [decide_eq_false h]
      have : ¬ (("o" : Str) = ⟨#[c]⟩) := fun z => by
        have z2 := congrArg (fun q : Str => q.cps.toList) z
        have z3 : [111] = [c] := z2
        exact h (List.cons.inj z3).1.symm
      simp [Value.isStr, this]
  have i2 : e2.key.isStr ⟨#[c]⟩ = decide (c = 46) := by
    rw [k2]
    by_cases h : c = 46
    · subst h
      show (("." : Str) == ⟨#[46]⟩) = true
      decide +kernel
    · rw [decide_eq_false h]
      have : ¬ (("." : Str) = ⟨#[c]⟩) := fun z => by
        have z2 := congrArg (fun q : Str => q.cps.toList) z
        have z3 : [46] = [c] := z2
        exact h (List.cons.inj z3).1.symm
      simp [Value.isStr, this]
  have r1 : e1.refKey = false := by unfold DictEntry.refKey; rw [k1]
  have r2 : e2.refKey = false := by unfold DictEntry.refKey; rw [k2]
  unfold PySem.W.nsIn
  rw [l]
  simp only [hes, List.find?, i1, i2, List.any_cons, r1, r2, List.any_nil, Bool.or_false]
  unfold okc
  by_cases h1 : c = 111
  · simp [h1]
  · by_cases h2 : c = 46
    · simp [h2]
    · simp [h1, h2]
/-- x is no row: no text, or one that is too short, too long, or has another sign -/
def NotRow (K : PySem.W.Frag) (H : Hp) (x : V) : Prop := NoTxt K H x ∨ ∃ z : Str, x = .str z ∧ z.length ≤ 10000 ∧ (z.length = 0 ∨ 30 < z.length ∨ ∃ c ∈ z.cps.toList, okc c = false)
def NotWord (K : PySem.W.Frag) (H : Hp) (x : V) : Prop := NoTxt K H x ∨ ∃ z : Str, x = .str z ∧ z.length ≤ 10000 ∧ (30 < z.length ∨ ∃ c ∈ z.cps.toList, okc c = false)
theorem notrow_same {K : PySem.W.Frag} {H H' : Hp} {x : V} (s : Same H H') (h : NotRow K H x) : NotRow K H' x := h.imp (notxt_same s) id
theorem notword_same {K : PySem.W.Frag} {H H' : Hp} {x : V} (s : Same H H') (h : NotWord K H x) : NotWord K H' x := h.imp (notxt_same s) id
theorem notword_row {K : PySem.W.Frag} {H : Hp} {x : V} (h : NotWord K H x) : NotRow K H x := h.imp id fun ⟨z, e, l, q⟩ => ⟨z, e, l, .inr q⟩
end HopR

set_option Elab.async false
set_option linter.all false
set_option maxRecDepth 100000
namespace HopR
open PySem L2
/-! ### words: where they can be shortened, and to what -/
def shp (bs : List Bool) (i : Nat) : Bool := decide ((bs.drop i).take 2 = [true, false])
def plc (bs : List Bool) : List Nat := (List.range bs.length).filter (shp bs)
def shA (bs : List Bool) (k : Nat) : List Bool := bs.take (k + 1) ++ bs.drop (k + 2)
def shB (bs : List Bool) (k : Nat) : List Bool := bs.take k ++ bs.drop (k + 1)
theorem shp_split {bs : List Bool} {i : Nat} (h : shp bs i = true) : bs = bs.take i ++ true :: false :: bs.drop (i + 2) ∧ i + 2 ≤ bs.length := by
  have h := of_decide_eq_true h
  have e : bs.drop i = [true, false] ++ (bs.drop i).drop 2 := by
    conv => lhs; rw [← List.take_append_drop 2 (bs.drop i), h]
  rw [List.drop_drop] at e
  have hl := congrArg List.length e
  rw [List.length_drop, List.length_append, List.length_drop] at hl
  have hl2 : bs.length - i = 2 + (bs.length - (i + 2)) := hl
  refine ⟨?_, by omega⟩
  conv => lhs; rw [← List.take_append_drop i bs, e]
  rfl
theorem plc_shp {bs : List Bool} {k : Nat} (h : k ∈ plc bs) : shp bs k = true ∧ k < bs.length := ⟨(List.mem_filter.mp h).2, List.mem_range.mp (List.mem_filter.mp h).1⟩
theorem plc_few (bs : List Bool) : (plc bs).length ≤ bs.length := by
  refine Nat.le_trans (List.length_filter_le _ _) ?_
  rw [List.length_range]
  exact Nat.le_refl _
theorem shA_len {bs : List Bool} {k : Nat} (h : k + 2 ≤ bs.length) : (shA bs k).length + 1 = bs.length := by
  unfold shA
  rw [List.length_append, List.length_take, List.length_drop]
  omega
theorem shB_len {bs : List Bool} {k : Nat} (h : k + 2 ≤ bs.length) : (shB bs k).length + 1 = bs.length := by
  unfold shB
  rw [List.length_append, List.length_take, List.length_drop]
  omega
theorem shA_eq {bs : List Bool} {k : Nat} (h : k ∈ plc bs) : shA bs k = bs.take k ++ [true] ++ bs.drop (k + 2) := by
  obtain ⟨e, hl⟩ := shp_split (plc_shp h).1
  unfold shA
  have e2 : bs.take (k + 1) = bs.take k ++ [true] := by
    rw [List.take_add_one]
    congr 1
    rw [e, List.getElem?_append_right (by rw [List.length_take]; omega), List.length_take, show k - min k bs.length = 0 by omega]
    rfl
  rw [e2]
theorem shB_eq {bs : List Bool} {k : Nat} (h : k ∈ plc bs) : shB bs k = bs.take k ++ [false] ++ bs.drop (k + 2) := by
  obtain ⟨e, hl⟩ := shp_split (plc_shp h).1
  unfold shB
  rw [List.append_assoc]
  congr 1
  have e3 : bs.drop (k + 1) = false :: bs.drop (k + 2) := by
    have h1 : k + 1 < bs.length := by omega
    rw [List.drop_eq_getElem_cons h1]
    congr 1
    have h2 : bs[k + 1]? = some false := by
      rw [e, List.getElem?_append_right (by rw [List.length_take]; omega), List.length_take, show k + 1 - min k bs.length = 1 by omega]
      rfl
    rw [List.getElem?_eq_getElem h1] at h2
    exact Option.some.inj h2
  rw [e3]
  rfl
/-! ### words and other things -/
def isRowB (z : Str) : Bool := decide (1 ≤ z.length) && (decide (z.length ≤ 30) && z.cps.toList.all okc)
def isWordB (z : Str) : Bool := decide (z.length ≤ 30) && z.cps.toList.all okc
/-- whether x is a row -/
def RowB (K : PySem.W.Frag) (H : Hp) (x : V) (b : Bool) : Prop := (NoTxt K H x ∧ b = false) ∨ ∃ z : Str, x = .str z ∧ z.length ≤ 10000 ∧ b = isRowB z
/-- whether x is a word -/
def WordB (K : PySem.W.Frag) (H : Hp) (x : V) (b : Bool) : Prop := (NoTxt K H x ∧ b = false) ∨ ∃ z : Str, x = .str z ∧ z.length ≤ 10000 ∧ b = isWordB z
theorem wordB_same {K : PySem.W.Frag} {H H' : Hp} {x : V} {b : Bool} (s : Same H H') (h : WordB K H x b) : WordB K H' x b := h.imp (fun ⟨q, e⟩ => ⟨notxt_same s q, e⟩) id
theorem rowB_same {K : PySem.W.Frag} {H H' : Hp} {x : V} {b : Bool} (s : Same H H') (h : RowB K H x b) : RowB K H' x b := h.imp (fun ⟨q, e⟩ => ⟨notxt_same s q, e⟩) id
theorem okc_tx (bs : List Bool) : (tx bs).cps.toList.all okc = true := by
  rw [tx_list, List.all_map, List.all_eq_true]
  exact fun b _ => okc_cd b
theorem isWord_tx {bs : List Bool} (h : bs.length ≤ 30) : isWordB (tx bs) = true := by
  unfold isWordB
  rw [okc_tx, tx_len, decide_eq_true h]
  rfl
theorem isRow_tx {bs : List Bool} (h1 : 1 ≤ bs.length) (h : bs.length ≤ 30) : isRowB (tx bs) = true := by
  unfold isRowB
  rw [okc_tx, tx_len, decide_eq_true h, decide_eq_true h1]
  rfl
theorem len0 {z : Str} (h : z.length = 0) : z = "" := by
  apply ext_str
  have : z.cps = #[] := Array.eq_empty_of_size_eq_zero h
  rw [this]
  rfl
/-- as the program tells it: a row, or the text without signs -/
theorem isWord_or (z : Str) : isWordB z = (isRowB z || decide (z = "")) := by
  unfold isWordB isRowB
  by_cases h : z.length = 0
  · rw [len0 h]
    decide +kernel
  · have ne : ¬ z = "" := fun e => h (by rw [e]; decide +kernel)
    rw [decide_eq_false ne, decide_eq_true (show 1 ≤ z.length by omega)]
    simp
/-- a spot at which the word of bs can't be shortened -/
def BadSpot (K : PySem.W.Frag) (H : Hp) (y : V) (ks : List Nat) : Prop := Odd K H y ∨ ∃ i : Int, y = .int i ∧ ∀ k ∈ ks, i ≠ (k : Int)
theorem badspot_same {K : PySem.W.Frag} {H H' : Hp} {y : V} {ks : List Nat} (s : Same H H') (h : BadSpot K H y ks) : BadSpot K H' y ks := h.imp (odd_same s) id
theorem inV_in {ks : List Nat} {k : Nat} (h : k ∈ ks) : inV (wv k) (ks.map wv) = true := by
  unfold inV
  rw [List.any_eq_true]
  exact ⟨wv k, List.mem_map_of_mem h, by unfold wv eqV; simp⟩
theorem inV_no {ks : List Nat} {i : Int} (h : ∀ k ∈ ks, i ≠ (k : Int)) : inV (.int i) (ks.map wv) = false := by
  unfold inV
  rw [List.any_eq_false]
  intro x hx
  obtain ⟨k, hk, rfl⟩ := List.mem_map.mp hx
  unfold wv eqV
  simp
  have := h k hk
  omega
theorem flat_ks (ks : List Nat) : (ks.map wv).all flatV = true := by
  rw [List.all_eq_true]
  intro x hx
  obtain ⟨k, _, rfl⟩ := List.mem_map.mp hx
  rfl
theorem fit {m : Nat} (h : m ≤ 10000) : m ≤ sizeLine := Nat.le_trans h (by decide)
theorem fit' {m : Nat} (h : m ≤ 10000) : m < sizeLine := Nat.lt_of_le_of_lt h (by decide)
theorem tx_fit {bs : List Bool} (h : bs.length ≤ 10000) : (tx bs).length ≤ sizeLine := by
  rw [tx_len]
  exact fit h
theorem tx_nil : ("" : Str) = tx [] := by decide +kernel
theorem dec_str {a b : Str} {p : Prop} [Decidable p] (h : a = b ↔ p) : decide (V.str a = V.str b) = decide p := by
  by_cases q : p
  · rw [decide_eq_true q, decide_eq_true (by rw [h.mpr q])]
  · rw [decide_eq_false q, decide_eq_false fun z => q (h.mp (V.str.inj z))]
end HopR

set_option Elab.async false
set_option linter.all false
set_option maxRecDepth 100000
namespace HopR
open PySem L2
/-! ### the draws -/
def dval (left : Int) (k : Nat) (z : Int) : Int :=
  if (1000000000000000000 : Int) ≤ left then left % z
  else
    let small := left % 1000000000000000000
    let one := (small + 7 * (k : Int) + 1) * (48271 + 2 * (k : Int) * (k : Int)) % 2147483647
    let two := (small / 3 + 11 * (k : Int) + 5) * (39373 + 6 * (k : Int)) % 2147483629
    (one * two + one / 64) % z
def dleft (left : Int) (z : Int) : Int := if (1000000000000000000 : Int) ≤ left then left / z else left
def draws : Int → Nat → List Int → List Int
  | _, _, [] => []
  | left, k, z :: r => dval left k z :: draws (dleft left z) (k + 1) r
theorem draws_len : ∀ (zs : List Int) (c : Int) (k : Nat), (draws c k zs).length = zs.length
  | [], _, _ => rfl
  | z :: r, c, k => by
    show (draws (dleft c z) (k + 1) r).length + 1 = r.length + 1
    rw [draws_len r]
theorem dval_ok {c : Int} {k : Nat} {z : Int} (h : 0 < z) : 0 ≤ dval c k z ∧ dval c k z < z := by
  unfold dval
  split
  · exact ⟨Int.emod_nonneg _ (by omega), Int.emod_lt_of_pos _ h⟩
  · exact ⟨Int.emod_nonneg _ (by omega), Int.emod_lt_of_pos _ h⟩
theorem draws_ok : ∀ (zs : List Int) (c : Int) (k : Nat), (∀ z ∈ zs, 0 < z) → ∀ (i : Nat) (d z : Int), (draws c k zs)[i]? = some d → zs[i]? = some z → 0 ≤ d ∧ d < z
  | [], _, _, _, i, d, z, _, h => by simp at h
  | y :: r, c, k, hp, 0, d, z, h1, h2 => by
    have e1 : dval c k y = d := Option.some.inj h1
    have e2 : y = z := Option.some.inj h2
    subst e1 e2
    exact dval_ok (hp y (List.mem_cons_self ..))
  | y :: r, c, k, hp, i + 1, d, z, h1, h2 => draws_ok r _ _ (fun q hq => hp q (List.mem_cons_of_mem _ hq)) i d z h1 h2
/-- the size of a draw is one that is reckoned with -/
def SizeOk (z : Int) : Prop := 0 < z ∧ z < 18446744073709551616
def bits (cs : List Int) : List Bool := cs.map fun c => decide (c = 1)
theorem signs_rows : ∀ (ys : List Str), (∀ y ∈ ys, ∃ b, y = tx [b]) → ∃ bs : List Bool, ys = bs.map fun b => tx [b]
  | [], _ => ⟨[], rfl⟩
  | y :: r, h => by
    obtain ⟨b, e⟩ := h y (List.mem_cons_self ..)
    obtain ⟨bs, e2⟩ := signs_rows r fun z hz => h z (List.mem_cons_of_mem _ hz)
    exact ⟨b :: bs, by rw [e, e2]; rfl⟩
theorem dot_o (c : Int) (h0 : 0 ≤ c) (h2 : c < 2) : atI (".o" : Str).cps.toList c = some (cd (decide (c = 1))) := by
  have e : (".o" : Str).cps.toList = [46, 111] := by decide +kernel
  rw [e]
  rcases (show c = 0 ∨ c = 1 by omega) with rfl | rfl
  · decide
  · decide
/-- a row -/
def Row (bs : List Bool) : Prop := 1 ≤ bs.length ∧ bs.length ≤ 30
theorem row_size {bs : List Bool} (h : Row bs) : (tx bs).length ≤ sizeLine := tx_fit (Nat.le_trans h.2 (by decide))
theorem flat_rep {α : Type} (x : α) : ∀ m : Nat, (List.replicate m [x]).flatten = List.replicate m x
  | 0 => rfl
  | m + 1 => by
    rw [List.replicate_succ, List.flatten_cons, flat_rep x m]
    rfl
theorem rep_of (m : Nat) : repS "o." m = tx (List.replicate m [true, false]).flatten := by
  unfold repS tx
  have e : ("o." : Str).cps.toList = [true, false].map cd := by decide +kernel
  rw [e, List.map_flatten, List.map_replicate]
theorem rep_of_len (m : Nat) : (List.replicate m [true, false]).flatten.length = 2 * m := by
  rw [List.length_flatten, List.map_replicate, List.sum_replicate_nat]
  show m * 2 = 2 * m
  omega
def spDrawn (K : PySem.W.Frag) : Sp := fun vs H Q _ => ∃ (c : Int) (a : Addr) (zs : List Int), vs = [.int c, .ref a] ∧ SqL K H a (zs.map V.int) ∧ (∀ z ∈ zs, SizeOk z) ∧ zs.length ≤ 1000 ∧
  ∀ H' p, Same H H' → H p = none → H' p = some (.lst ((draws c 0 zs).map V.int)) → Q (.ref p) H'
def spCellH (K : PySem.W.Frag) : Sp := fun vs H Q _ => ∃ (a : Addr) (ns : List Int) (k : Nat), vs = [.ref a, .int (k : Int)] ∧ SqL K H a (ns.map V.int) ∧ ∀ c : Int, Q (.int c) H
def spLRow : Sp := fun vs H Q _ => ∃ (c : Int) (M : Nat), vs = [.int c, .int (M : Int)] ∧ 1 ≤ M ∧ M ≤ 30 ∧ ∀ H' bs, Same H H' → 1 ≤ bs.length → bs.length ≤ M → Q (.str (tx bs)) H'
end HopR

set_option Elab.async false
set_option linter.all false
set_option maxRecDepth 100000
namespace HopR
open PySem PySem.Spec PyProof.Rows L2
/-! ### numbers: // by any number but 0 -/
def CDivWN (_ j : Int) : Prop := j ≠ 0 ∧ j.natAbs.log2 < 9000
theorem op_fdivWN {X : Cx} : OpR X (binaryOp .FloorDiv) (rI CDivWN fun i j => .int (i.fdiv j)) := opI fun i j _ _ _ _ _ hc q => floordiv_int hc.1 q (.inl (PyProof.noPylong_of_log2 hc.2))
theorem gcd_fmod (a b : Int) : Int.gcd b (a.fmod b) = Int.gcd a b := by
  rw [Int.fmod_def, Int.mul_comm, Int.gcd_sub_mul_right_right, Int.gcd_comm]
theorem fmod_less (a : Int) {b : Int} (h : b ≠ 0) : (a.fmod b).natAbs < b.natAbs := by
  have h1 := Int.emod_nonneg a h
  have h2 := Int.emod_lt a h
  rw [Int.fmod_eq_emod]
  by_cases h3 : 0 ≤ b ∨ b ∣ a
  · rw [if_pos h3]
    omega
  · rw [if_neg h3]
    have h4 : a % b ≠ 0 := fun e => h3 (.inr (Int.dvd_of_emod_eq_zero e))
    have h5 : b < 0 := by
      refine Int.not_le.mp fun e => h3 (.inl e)
    omega
/-! ### fractions -/
theorem low_num {t b : Int} (h : b ≠ 0) : (t.fdiv (if b < 0 then -(Int.gcd t b : Int) else (Int.gcd t b : Int))) = (Rat.divInt t b).num := by
  have hd : ((Int.gcd t b : Nat) : Int) ∣ t := Int.gcd_dvd_left ..
  rw [Rat.num_divInt, Int.gcd_comm b t]
  by_cases hb : b < 0
  · rw [if_pos hb, Int.fdiv_eq_ediv_of_dvd (by rw [Int.neg_dvd]; exact hd), Int.ediv_neg, Int.sign_eq_neg_one_of_neg hb, Int.neg_one_mul, Int.neg_ediv_of_dvd hd]
  · have hb2 : 0 < b := by omega
    rw [if_neg hb, Int.fdiv_eq_ediv_of_dvd hd, Int.sign_eq_one_of_pos hb2, Int.one_mul]
theorem low_den {t b : Int} (h : b ≠ 0) : (b.fdiv (if b < 0 then -(Int.gcd t b : Int) else (Int.gcd t b : Int))) = ((Rat.divInt t b).den : Int) := by
  have hd : ((Int.gcd t b : Nat) : Int) ∣ b := Int.gcd_dvd_right ..
  rw [Rat.den_divInt, if_neg h, Int.gcd_comm b t]
  rw [Int.natCast_ediv]
  by_cases hb : b < 0
  · rw [if_pos hb, Int.fdiv_eq_ediv_of_dvd (by rw [Int.neg_dvd]; exact hd), Int.ediv_neg, Int.ofNat_natAbs_of_nonpos (by omega), Int.neg_ediv_of_dvd hd]
  · rw [if_neg hb, Int.fdiv_eq_ediv_of_dvd hd, Int.natAbs_of_nonneg (by omega)]
theorem gcd_pos {t b : Int} (h : b ≠ 0) : 0 < Int.gcd t b := Int.gcd_pos_of_ne_zero_right _ h
/-- both numbers of the fraction are below 2 ^ n -/
def Sz (n : Nat) (q : Rat) : Prop := q.num.natAbs < 2 ^ n ∧ q.den < 2 ^ n
theorem Sz.mono {n m : Nat} {q : Rat} (h : Sz n q) (hm : n ≤ m) : Sz m q := ⟨Nat.lt_of_lt_of_le h.1 (Nat.pow_le_pow_right (by decide) hm), Nat.lt_of_lt_of_le h.2 (Nat.pow_le_pow_right (by decide) hm)⟩
theorem sz_divInt {t b : Int} {n : Nat} (h : b ≠ 0) (ht : t.natAbs < 2 ^ n) (hb : b.natAbs < 2 ^ n) : Sz n (Rat.divInt t b) := by
  have g := gcd_pos (t := t) h
  constructor
  · rw [Rat.num_divInt]
    refine Nat.lt_of_le_of_lt (Int.natAbs_ediv_le_natAbs _ _) ?_
    rw [Int.natAbs_mul]
    rcases Int.lt_or_gt_of_ne h with h | h
    · rw [Int.sign_eq_neg_one_of_neg h]; simpa using ht
    · rw [Int.sign_eq_one_of_pos h]; simpa using ht
  · rw [Rat.den_divInt, if_neg h]
    exact Nat.lt_of_le_of_lt (Nat.div_le_self _ _) hb
theorem den_ne (q : Rat) : ((q.den : Nat) : Int) ≠ 0 := by
  have := q.den_nz
  omega
theorem pos_two (n : Nat) : 0 < 2 ^ n := Nat.pow_pos (by decide)
theorem two_lt {a b : Nat} {n : Nat} (ha : a < 2 ^ n) (hb : b < 2 ^ n) : a + b < 2 ^ (n + 1) := by
  rw [Nat.pow_succ]
  omega
theorem add_eq (q r : Rat) : q + r = Rat.divInt (q.num * r.den + r.num * q.den) ((q.den : Int) * (r.den : Int)) := by
  conv => lhs; rw [← Rat.num_divInt_den q, ← Rat.num_divInt_den r]
  exact Rat.divInt_add_divInt _ _ (den_ne q) (den_ne r)
theorem sub_eq (q r : Rat) : q - r = Rat.divInt (q.num * r.den - r.num * q.den) ((q.den : Int) * (r.den : Int)) := by
  conv => lhs; rw [← Rat.num_divInt_den q, ← Rat.num_divInt_den r]
  exact Rat.divInt_sub_divInt _ _ (den_ne q) (den_ne r)
theorem mul_eq (q r : Rat) : q * r = Rat.divInt (q.num * r.num) ((q.den : Int) * (r.den : Int)) := by
  conv => lhs; rw [← Rat.num_divInt_den q, ← Rat.num_divInt_den r]
  exact Rat.divInt_mul_divInt _ _
theorem div_eq (q r : Rat) : q / r = Rat.divInt (q.num * r.den) ((q.den : Int) * r.num) := by
  rw [Rat.div_def]
  conv => lhs; rw [← Rat.num_divInt_den q, ← Rat.num_divInt_den r]
  rw [Rat.inv_divInt]
  exact Rat.divInt_mul_divInt _ _
end HopR

set_option Elab.async false
set_option linter.all false
set_option maxRecDepth 100000
namespace HopR
open PySem PySem.Spec PyProof.Rows L2
/-! ### products, divided out crosswise -/
theorem mul_num (q r : Rat) : (q.num.fdiv (Int.gcd q.num (r.den : Int) : Int)) * (r.num.fdiv (Int.gcd r.num (q.den : Int) : Int)) = (q * r).num := by
  have h1 : ((Int.gcd q.num (r.den : Int) : Nat) : Int) ∣ q.num := Int.gcd_dvd_left ..
  have h2 : ((Int.gcd r.num (q.den : Int) : Nat) : Int) ∣ r.num := Int.gcd_dvd_left ..
  rw [Int.fdiv_eq_ediv_of_dvd h1, Int.fdiv_eq_ediv_of_dvd h2]
  show _ = (Rat.mul q r).num
  unfold Rat.mul
  rfl
theorem mul_den (q r : Rat) : ((q.den : Int).fdiv (Int.gcd r.num (q.den : Int) : Int)) * ((r.den : Int).fdiv (Int.gcd q.num (r.den : Int) : Int)) = ((q * r).den : Int) := by
  have h1 : ((Int.gcd q.num (r.den : Int) : Nat) : Int) ∣ (r.den : Int) := Int.gcd_dvd_right ..
  have h2 : ((Int.gcd r.num (q.den : Int) : Nat) : Int) ∣ (q.den : Int) := Int.gcd_dvd_right ..
  rw [Int.fdiv_eq_ediv_of_dvd h1, Int.fdiv_eq_ediv_of_dvd h2]
  show _ = ((Rat.mul q r).den : Int)
  unfold Rat.mul
  rfl
end HopR

set_option Elab.async false
set_option linter.all false
set_option maxRecDepth 100000
namespace HopR
open PySem PySem.Spec PyProof.Rows L2
/-! ### len, str and repr of objects of an own class; an attribute as a target -/
section
variable {X : Cx} {CX : CXT} {n : Nat} {C f : Addr} {fd : FuncData} {ps : List Str} {sp : Sp} {E : XK}
/-- a def called by a built-in that runs in the same frames -/
theorem call_at {A : Around} {pins : List (Addr × Obj)} {σ : L2.St} {H : Hp} {s : Shared} {Q : VK} {us : List Value} {vs : List V} (F : FnOk X.prog X.w X.K X.mg X.base CX n f fd ps sp) (room : Room n A) (frames : A.frames = X.A.frames) (bind : Binds X.K fd ps []) (lets : Passes CX X E)
    (I : Inv X pins σ H s) (vals : Vals vs us) (prom : sp vs H Q E) : wpAny (model X.prog X.w) A (call (.ref f) us) (EP X pins σ Q) X.xe s := by
  have I0 := I.env0
  have here : Env0 X.prog X.w X.K X.mg X.base A X.stack s H := { frames := frames.trans I0.frames, mod := I0.mod, bs := I0.bs, bsz := I0.bsz, funs := I0.funs, frf := I0.frf, hok := I0.hok, bare := I0.bare }
  have size := vals.length.symm.trans (F.len _ _ _ _ prom)
  have bound := bind s us I.kIn (by rw [List.append_nil]; exact size)
  rw [List.append_nil] at bound
  refine wpAny_call (codeAny_mono (F.run A X.stack s H ⟨us, []⟩ us vs Q E room here bound vals prom) fun r s' h => ?_)
  have said := after_call lets I h
  cases r with
  | error e => exact said
  | ok fl => cases fl <;> exact said
/-- one object of the class, and what its method promises of it -/
def rOwn1 (C : Addr) (sp : Sp) (E : XK) (R : V → Hp → VK → Prop) : List V → Hp → VK → Prop := fun xs H Q => ∃ a dx fs, xs = [.ref a] ∧ H a = some (.ins C dx fs) ∧ sp [.ref a] H (fun v H' => R v H' Q) E
def isLen : V → Hp → VK → Prop := fun v H Q => ∃ i : Int, v = .int i ∧ (0 ≤ i ∧ i < 2 ^ 63) ∧ Q (.int i) H
def isTxt : V → Hp → VK → Prop := fun v H Q => ∃ z : Str, v = .str z ∧ Q (.str z) H
/-- len(o) -/
theorem cr_lenOwn (len : PySem.W.findIn X.K (.ref C) "__len__" = some (some (.ref f))) (fn : PySem.W.isFn X.K (.ref f) = true) (F : FnOk X.prog X.w X.K X.mg X.base CX n f fd ps sp) (room : Room (n + 1) X.A) (bind : Binds X.K fd ps []) (lets : Passes CX X E) :
    CallR X (.builtin "len") (rOwn1 C sp E isLen) := by
  rintro pins s σ H _ us Q I r ⟨a, dx, fs, rfl, ha, prom⟩
  obtain ⟨u, rfl, rv⟩ := vals1 r
  cases rv
  obtain ⟨_, J, _⟩ := ins_get I.hok ha
  obtain ⟨od, J, _⟩ := J.look
  obtain ⟨m, F0⟩ := I.fr
  refine PySem.W.len_K F0 I.ok.mod.kin J len fn (thn (call_at F room.in1 rfl bind lets I (us := [.ref a]) (vs := [.ref a]) (.cons rfl .nil) prom) ?_)
  rintro w s' ⟨z, H', I', rz, i, rfl, hi, q⟩
  obtain ⟨t, rfl⟩ := rz
  exact ⟨hi, .int i, H', I'.tok _, ⟨_, rfl⟩, q⟩
/-- str(o) -/
theorem cr_strOwn (str : PySem.W.findIn X.K (.ref C) "__str__" = some (some (.ref f))) (fn : PySem.W.isFn X.K (.ref f) = true) (F : FnOk X.prog X.w X.K X.mg X.base CX n f fd ps sp) (room : Room (n + 2) X.A) (bind : Binds X.K fd ps []) (lets : Passes CX X E) :
    CallR X (.type "str") (rOwn1 C sp E isTxt) := by
  rintro pins s σ H _ us Q I r ⟨a, dx, fs, rfl, ha, prom⟩
  obtain ⟨u, rfl, rv⟩ := vals1 r
  cases rv
  obtain ⟨_, J, _⟩ := ins_get I.hok ha
  obtain ⟨od, J, _⟩ := J.look
  have un := room.un
  refine PySem.W.kso_call (by show X.A.units + 1 + 1 < cLine; omega) I.kIn J str fn (thn (call_at F room.in1.in1 rfl bind lets I (us := [.ref a]) (vs := [.ref a]) (.cons rfl .nil) prom) ?_)
  rintro w s' ⟨z, H', I', rz, y, rfl, q⟩
  obtain ⟨t, rfl⟩ := rz
  exact ⟨.str y, H', I', ⟨_, rfl⟩, q⟩
/-- repr(o) -/
theorem cr_reprOwn (rep : PySem.W.findIn X.K (.ref C) "__repr__" = some (some (.ref f))) (fn : PySem.W.isFn X.K (.ref f) = true) (F : FnOk X.prog X.w X.K X.mg X.base CX n f fd ps sp) (room : Room (n + 1) X.A) (bind : Binds X.K fd ps []) (lets : Passes CX X E) :
    CallR X (.builtin "repr") (rOwn1 C sp E isTxt) := by
  rintro pins s σ H _ us Q I r ⟨a, dx, fs, rfl, ha, prom⟩
  obtain ⟨u, rfl, rv⟩ := vals1 r
  cases rv
  obtain ⟨_, J, _⟩ := ins_get I.hok ha
  obtain ⟨od, J, _⟩ := J.look
  obtain ⟨m, F0⟩ := I.fr
  have un := room.un
  refine PySem.W.repr_K (by show X.A.units + 1 < cLine; omega) F0 I.ok.mod.kin J rep fn (thn (call_at F room.in1 rfl bind lets I (us := [.ref a]) (vs := [.ref a]) (.cons rfl .nil) prom) ?_)
  rintro w s' ⟨z, H', I', rz, y, rfl, q⟩
  obtain ⟨t, rfl⟩ := rz
  exact ⟨.str y, H', I', ⟨_, rfl⟩, q⟩
end
section
variable {X : Cx}
/-- o.f as a target: the field is put -/
def gFld (K : PySem.W.Frag) (to : TE) (f : Str) : TG := fun v σ H Q => to σ H fun o H1 => ∃ a C dx fs, o = .ref a ∧ H1 a = some (.ins C dx fs) ∧ Cls K C ∧ NoAttr K C f ∧ fs.length < 1000 ∧ Q σ (upd H1 a (.ins C dx (putF f v fs)))
theorem pg_fld {o : Expr} {to : TE} {f : Str} {pos : Pos} (ho : PE X o to) : PG X (.Attribute o f pos) (gFld X.K to f) := by
  constructor
  intro pins s σ H v u Q I r h
  rw [assign_Attribute]
  refine wpAny_bind (wpAny_holding (thn (ho.run pins s σ H _ I h) ?_))
  rintro ov s1 ⟨x, H1, I1, rx, a, C, dx, fs, rfl, ea, c, na, few, q⟩
  cases rx
  refine wpAny_bind (wpAny_standAt (wpAny_bind (wpAny_holding (setattr_ok I1 ea c na few r fun s2 I2 => ?_))))
  exact wpAny_release ⟨σ, _, I2, q⟩
end
end HopR

set_option Elab.async false
set_option linter.all false
set_option maxRecDepth 100000
set_option exponentiation.threshold 200000
namespace Hop
open PySem L2 HopR
open C8 (InsC call_isC)
def top (i : Nat) : Stmt := PySem.Challenge.pw_hopline_k17_walks_alike_and_shown.main.body.getD i (.Pass ⟨0, 0, 0, 0⟩)
abbrev sIsWhole : Stmt := top 12
abbrev sDivisor : Stmt := top 13
abbrev sInit : Stmt := inClass (top 15) 0
abbrev sPlus : Stmt := inClass (top 15) 1
abbrev sTimes : Stmt := inClass (top 15) 3
abbrev sOver : Stmt := inClass (top 15) 4
abbrev sLowest : Stmt := top 16
abbrev sIsRow : Stmt := top 22
abbrev sNeedRow : Stmt := top 23
abbrev sWithEnds : Stmt := top 24
abbrev sWallsOf : Stmt := top 25
abbrev sNeedOpen : Stmt := top 26
abbrev sChanged : Stmt := top 27
/-! ### a Part -/
theorem tb_ : ¬ (("top" : Str) = "bottom") := by decide +kernel
def pf (q : Rat) : List (Str × V) := putF "bottom" (.int (q.den : Int)) (putF "top" (.int q.num) [])
theorem pf_top (q : Rat) : (pf q).lookup ("top" : Str) = some (.int q.num) := by
  unfold pf
  rw [lookup_putF, if_neg tb_, lookup_putF, if_pos rfl]
theorem pf_bottom (q : Rat) : (pf q).lookup ("bottom" : Str) = some (.int (q.den : Int)) := by
  unfold pf
  rw [lookup_putF, if_pos rfl]
theorem pf_no (q : Rat) {m : Str} (h1 : ¬ m = "bottom") (h2 : ¬ m = "top") : (pf q).lookup m = none := by
  unfold pf
  rw [lookup_putF, if_neg h1, lookup_putF, if_neg h2]
  rfl
/-- at a a Part of q -/
def PA (C : Addr) (H : Hp) (a : Addr) (q : Rat) : Prop := ∃ dx, H a = some (.ins C dx (pf q))
theorem PA.same {C : Addr} {H H' : Hp} {a : Addr} {q : Rat} (s : Same H H') (h : PA C H a q) : PA C H' a q := let ⟨dx, e⟩ := h; ⟨dx, s _ _ e⟩
/-- what is known of the class and of the built-ins -/
structure TxtP (K : PySem.W.Frag) (mg : Str → Option Value) (C : Addr) : Prop where
  len : mg "len" = none
  range : mg "range" = none
  abs : mg "abs" = none
  isi : mg "isinstance" = none
  int : mg "int" = none
  bool : mg "bool" = none
  ins : InsC K C
  nT : NoAttr K C "top"
  nB : NoAttr K C "bottom"
  mgC : mg "Part" = some (.ref C)
section
variable {P : Program} {w : World} {K : PySem.W.Frag} {mg : Str → Option Value} {base : Heap} {C : Addr}
def spWhole : Sp := fun vs H Q _ => ∃ i : Int, vs = [.int i] ∧ Q (.bl true) H
theorem scWhole : FnScope ["thing"] ["thing"] (defScope sIsWhole) := ⟨rfl, rfl, rfl, by decide +kernel, rfl, by decide +kernel, by decide +kernel⟩
theorem ok_whole {f : Addr} {fd : FuncData} {k : Nat} (F : Fun K "is_whole" "is_whole" sIsWhole f fd) (T : TxtP K mg C) : FnOk P w K mg base CX0 (k + 1) f fd ["thing"] spWhole := by
  refine F.ok scWhole (fun vs H Q E h => ?_) (fun cdv A outer s H vs Q E hr h => ?_)
  · obtain ⟨i, rfl, _⟩ := h
    rfl
  · obtain ⟨i, rfl, q⟩ := h
    refine ⟨_, pss_one (ps_ret (pe_and (pe_callB call_isi (by rfl) T.isi (by decide +kernel) (pa_cons (pv 0) (pa_cons (pe_bltn (v := .ty "int") (by rfl) T.int (by decide +kernel) rfl) pa_nil)))
      (pe_one (pe_not (pe_callB call_isi (by rfl) T.isi (by decide +kernel) (pa_cons (pv 0) (pa_cons (pe_bltn (v := .ty "bool") (by rfl) T.bool (by decide +kernel) rfl) pa_nil))))))), ?_⟩
    refine ⟨.int i, rfl, .int i, .ty "int", .type "int", .type "int", true, rfl, .ty _, .base (.int _), kit_ty (by decide +kernel), true, rfl, ?_⟩
    exact ⟨.int i, rfl, .int i, .ty "bool", .type "int", .type "bool", false, rfl, .ty _, .base (.int _), kit_ty (by decide +kernel), false, rfl, q⟩
def spDivisor : Sp := fun vs H Q _ => ∃ a b : Int, vs = [.int a, .int b] ∧ Q (.int (Int.gcd a b : Int)) H
theorem scDivisor : FnScope ["one", "other"] ["one", "other"] (defScope sDivisor) := ⟨rfl, rfl, rfl, by decide +kernel, rfl, by decide +kernel, by decide +kernel⟩
theorem ok_divisor {f : Addr} {fd : FuncData} {k : Nat} (F : Fun K "common_divisor" "common_divisor" sDivisor f fd) (T : TxtP K mg C) : FnOk P w K mg base CX0 (k + 1) f fd ["one", "other"] spDivisor := by
  refine F.ok scDivisor (fun vs H Q E h => ?_) (fun cdv A outer s H vs Q E hr h => ?_)
  · obtain ⟨a, b, rfl, _⟩ := h
    rfl
  · obtain ⟨a, b, rfl, q⟩ := h
    have nd := scDivisor.nd
    refine ⟨_, pss_cons (ps_while PassesOwn.never (pt_cmpR op_ne (pv 1) pe_int (nomark _)) (pss_one (ps_par (by rfl) nd (i := 0) (j := 1) rfl rfl (by decide) rfl rfl (pa_cons (pv 1) (pa_cons (pe_op op_modN (pv 0) (pv 1)) pa_nil)) (by rfl))))
      (pss_one (ps_ret (pe_callB call_abs (by rfl) T.abs (by decide +kernel) (pa_cons (pv 0) pa_nil)))), ?_⟩
    refine while_by (fun σ H1 => ∃ x y : Int, σ = [some (.int x), some (.int y)] ∧ Int.gcd x y = Int.gcd a b ∧ H1 = H) (fun σ _ => match σ with | [_, some (.int y)] => y.natAbs | _ => 0) ⟨a, b, rfl, rfl, rfl⟩ ?_ ?_
    · rintro σ H1 ⟨x, y, rfl, e, rfl⟩
      refine ⟨.int y, rfl, rfl, _, rfl, ?_⟩
      by_cases hy : y = 0
      · subst hy
        refine iteNS rfl ⟨.int x, rfl, x, rfl, ?_⟩
        have e2 : (if x < 0 then -x else x) = (Int.gcd a b : Int) := by
          rw [← e, Int.gcd_zero_right]
          split <;> omega
        show Q (.int (if x < 0 then -x else x)) H1
        rw [e2]
        exact q
      · rw [decide_eq_false (fun z => hy (V.int.inj z))]
        refine iteT ⟨.int y, rfl, .int x, rfl, .int y, rfl, x, y, rfl, rfl, hy, _, _, rfl, ⟨y, x.fmod y, rfl, (gcd_fmod x y).trans e, rfl⟩, fmod_less x hy⟩
    · rintro σ H1 Q1 Q2 hm h
      obtain ⟨v, e1, e2, k2, e3, h⟩ := h
      exact ⟨v, e1, e2, k2, e3, hm _ _ h⟩
/-! ### Part.__init__ -/
theorem scInit : FnScope ["self", "top", "bottom", "divisor"] ["self", "top", "bottom"] (defScope sInit) := ⟨rfl, rfl, rfl, by decide +kernel, rfl, by decide +kernel, by decide +kernel⟩
def spInit (C : Addr) : Sp := fun vs H Q _ => ∃ (p dx : Addr) (t b : Int), vs = [.ref p, .int t, .int b] ∧ b ≠ 0 ∧ b.natAbs < 2 ^ 8000 ∧ H p = some (.ins C dx []) ∧ Q .non (upd H p (.ins C dx (pf (Rat.divInt t b))))
theorem ok_init {f f1 f2 : Addr} {fd fd1 fd2 : FuncData} {k : Nat} (F : FunD K "__init__" "Part.__init__" (defArgs sInit) (defBody sInit) (defScope sInit) [.int 1] [] f fd) (N1 : Fn K mg "is_whole" sIsWhole ["thing"] f1 fd1) (N2 : Fn K mg "common_divisor" sDivisor ["one", "other"] f2 fd2) (T : TxtP K mg C) :
    FnOk P w K mg base CX0 (k + 2) f fd ["self", "top", "bottom"] (spInit C) := by
  have G1 : FnOk P w K mg base CX0 (k + 1) f1 fd1 ["thing"] spWhole := ok_whole N1.F T
  have G2 : FnOk P w K mg base CX0 (k + 1) f2 fd2 ["one", "other"] spDivisor := ok_divisor N2.F T
  refine F.ok scInit (fun vs H Q E h => ?_) (fun cdv A outer s H vs Q E hr h => ?_)
  · obtain ⟨p, dx, t, b, rfl, _⟩ := h
    rfl
  · obtain ⟨p, dx, t, b, rfl, hb, hb2, hp, q⟩ := h
    have nd := scInit.nd
    refine ⟨_, PSs.nox (pss_cons (ps_if (pt_not (pt_val (pe_call G1 hr (by rfl) N1.g N1.F.kp N1.b .nil pass0 (pa_cons (pv 1) pa_nil)))) (pss_one ps_never) pss_nil)
      (pss_cons (ps_if (pt_not (pt_val (pe_call G1 hr (by rfl) N1.g N1.F.kp N1.b .nil pass0 (pa_cons (pv 2) pa_nil)))) (pss_one ps_never) pss_nil)
      (pss_cons (ps_if (pt_cmpR op_eq (pv 2) pe_int (nomark _)) (pss_one ps_never) pss_nil)
      (pss_cons (ps_set (i := 3) nd rfl (.inl rfl) (pe_call G2 hr (by rfl) N2.g N2.F.kp N2.b .nil pass0 (pa_cons (pv 1) (pa_cons (pv 2) pa_nil))))
      (pss_cons (ps_if (pt_cmpR op_lt (pv 2) pe_int (nomark _)) (pss_one (ps_set (i := 3) nd rfl (.inl rfl) (pe_un un_neg (pv 3)))) pss_nil)
      (pss_cons (ps_fld (pv 0) (pe_op op_fdivWN (pv 1) (pv 3)) rfl)
      (pss_one (ps_fld (pv 0) (pe_op op_fdivWN (pv 2) (pv 3)) rfl)))))))), ?_⟩
    refine ⟨.int t, rfl, t, rfl, true, rfl, iteF ⟨.int b, rfl, b, rfl, true, rfl, iteF ⟨.int b, rfl, rfl, _, rfl, ?_⟩⟩⟩
    rw [decide_eq_false (fun z => hb (V.int.inj z))]
    refine iteF ⟨.int t, rfl, .int b, rfl, t, b, rfl, ?_⟩
    have hg := gcd_pos (t := t) hb
    have hgl : (Int.gcd t b).log2 < 9000 := by
      have h1 : Int.gcd t b ≤ b.natAbs := Nat.le_of_dvd (by omega) (Int.gcd_dvd_natAbs_right ..)
      exact Nat.lt_of_lt_of_le (PySem.Flt.log2_lt_of (by decide) (Nat.lt_of_le_of_lt h1 hb2)) (by decide)
    have fin : ∀ g : Int, g = (if b < 0 then -(Int.gcd t b : Int) else (Int.gcd t b : Int)) → CDivWN t g ∧ CDivWN b g := fun g e => by
      have e2 : g.natAbs = Int.gcd t b := by
        rw [e]
        split <;> omega
      unfold CDivWN
      rw [e2]
      exact ⟨⟨by omega, hgl⟩, ⟨by omega, hgl⟩⟩
    have done : ∀ g : Int, g = (if b < 0 then -(Int.gcd t b : Int) else (Int.gcd t b : Int)) → Q .non (upd (upd H p (.ins C dx (putF "top" (.int (t.fdiv g)) []))) p (.ins C dx (putF "bottom" (.int (b.fdiv g)) (putF "top" (.int (t.fdiv g)) [])))) := fun g e => by
      rw [upd_upd, e, low_num hb, low_den hb]
      exact q
    refine ⟨.int b, rfl, _, _, rfl, rfl, _, rfl, ite2 (fun e => ?_) (fun e => ?_)⟩
    · have e : b < 0 := of_decide_eq_true e
      have eg : -(Int.gcd t b : Int) = (if b < 0 then -(Int.gcd t b : Int) else (Int.gcd t b : Int)) := (if_pos e).symm
      obtain ⟨c1, c2⟩ := fin _ eg
      refine ⟨_, rfl, _, rfl, ?_⟩
      refine ⟨.int t, rfl, _, rfl, t, _, rfl, rfl, c1, .ref p, rfl, p, C, dx, _, rfl, hp, T.ins.cl, T.nT, (by show 0 < 1000; decide), ?_⟩
      exact ⟨.int b, rfl, _, rfl, b, _, rfl, rfl, c2, .ref p, rfl, p, C, dx, _, rfl, upd_same, T.ins.cl, T.nB, (by show 1 < 1000; decide), done _ eg⟩
    · have e : ¬ b < 0 := fun z => e (decide_eq_true z)
      have eg : (Int.gcd t b : Int) = (if b < 0 then -(Int.gcd t b : Int) else (Int.gcd t b : Int)) := (if_neg e).symm
      obtain ⟨c1, c2⟩ := fin _ eg
      refine ⟨.int t, rfl, _, rfl, t, _, rfl, rfl, c1, .ref p, rfl, p, C, dx, _, rfl, hp, T.ins.cl, T.nT, (by show 0 < 1000; decide), ?_⟩
      exact ⟨.int b, rfl, _, rfl, b, _, rfl, rfl, c2, .ref p, rfl, p, C, dx, _, rfl, upd_same, T.ins.cl, T.nB, (by show 1 < 1000; decide), done _ eg⟩
/-! ### the methods -/
/-- what a Part is made with: its class, its __init__ and how that binds -/
structure Mks (K : PySem.W.Frag) (mg : Str → Option Value) (C fi f1 f2 : Addr) (gi g1 g2 : FuncData) (d1 : Value) : Prop where
  M : Mk K C fi
  F : FunD K "__init__" "Part.__init__" (defArgs sInit) (defBody sInit) (defScope sInit) [.int 1] [] fi gi
  b3 : Binds K gi ["self", "top", "bottom"] []
  b2 : Binds K gi ["self", "top", "bottom"] [d1]
  r1 : RelV (.int 1) d1
  N1 : Fn K mg "is_whole" sIsWhole ["thing"] f1 g1
  N2 : Fn K mg "common_divisor" sDivisor ["one", "other"] f2 g2
/-- a new Part, behind H -/
def New (C : Addr) (H : Hp) (q : Rat) (Q : VK) : Prop := ∀ H' p, Same H H' → H p = none → PA C H' p q → Q (.ref p) H'
theorem made {C : Addr} {H : Hp} {t b : Int} {Q : VK} {E : XK} (hb : b ≠ 0) (hz : b.natAbs < 2 ^ 8000) (h : New C H (Rat.divInt t b) Q) :
    ∀ x dx, H x = none → H dx = none → dx ≠ x → spInit C (.ref x :: ([.int t, .int b] ++ [])) (upd (upd H dx (.own x)) x (.ins C dx [])) (fun v H2 => v = .non ∧ Q (.ref x) H2) E := by
  intro x dx hx hdx ne
  refine ⟨x, dx, t, b, rfl, hb, hz, upd_same, rfl, ?_⟩
  rw [upd_upd]
  refine h _ _ (fun c o e => ?_) hx ⟨dx, upd_same⟩
  rw [upd_ne (ne_of_none e hx), upd_ne (ne_of_none e hdx)]
  exact e
theorem made1 {C : Addr} {H : Hp} {t : Int} {Q : VK} {E : XK} (h : New C H (Rat.divInt t 1) Q) :
    ∀ x dx, H x = none → H dx = none → dx ≠ x → spInit C (.ref x :: ([.int t] ++ [.int 1])) (upd (upd H dx (.own x)) x (.ins C dx [])) (fun v H2 => v = .non ∧ Q (.ref x) H2) E :=
  made (t := t) (b := 1) (by decide) (Nat.one_lt_two_pow (by decide)) h
def spOp (C : Addr) (ok : Rat → Rat → Prop) (g : Rat → Rat → Rat) : Sp := fun vs H Q _ => ∃ a b q r, vs = [.ref a, .ref b] ∧ PA C H a q ∧ PA C H b r ∧ Sz 4000 q ∧ Sz 3900 r ∧ ok q r ∧ New C H (g q r) Q
theorem den_pos (q : Rat) : 0 < q.den := Nat.pos_of_ne_zero q.den_nz
theorem sz_den {q r : Rat} (h1 : Sz 4000 q) (h2 : Sz 3900 r) : ((q.den : Int) * (r.den : Int)).natAbs < 2 ^ 8000 := by
  have h := wide_lt (i := (q.den : Int)) (j := (r.den : Int)) (a := 4000) (b := 3900) (by simpa using h1.2) (by simpa using h2.2)
  exact Nat.lt_of_lt_of_le h (Nat.pow_le_pow_right (by decide) (by decide))
theorem mulW {i j : Int} (h1 : i.natAbs < 2 ^ 4000) (h2 : j.natAbs < 2 ^ 4000) : CMulW i j := wide_mul h1 h2 (by decide) (by decide) (by decide)
theorem up39 {n : Nat} (h : n < 2 ^ 3900) : n < 2 ^ 4000 := Nat.lt_of_lt_of_le h (Nat.pow_le_pow_right (by decide) (by decide))
theorem scPlus : FnScope ["self", "other"] ["self", "other"] (defScope sPlus) := ⟨rfl, rfl, rfl, by decide +kernel, rfl, by decide +kernel, by decide +kernel⟩
theorem ok_plus {f fi f1 f2 : Addr} {fd gi g1 g2 : FuncData} {d1 : Value} {k : Nat} (F : Fun K "plus" "Part.plus" sPlus f fd) (N : Mks K mg C fi f1 f2 gi g1 g2 d1) (T : TxtP K mg C) : FnOk P w K mg base CX0 (k + 4) f fd ["self", "other"] (spOp C (fun _ _ => True) (fun q r => q + r)) := by
  have GI : FnOk P w K mg base CX0 (k + 2) fi gi ["self", "top", "bottom"] (spInit C) := ok_init N.F N.N1 N.N2 T
  refine F.ok scPlus (fun vs H Q E h => ?_) (fun cdv A outer s H vs Q E hr h => ?_)
  · obtain ⟨a, b, q, r, rfl, _⟩ := h
    rfl
  · obtain ⟨a, b, q, r, rfl, ⟨dx, ha⟩, ⟨dy, hb⟩, zq, zr, _, h⟩ := h
    refine ⟨_, pss_one (ps_ret (pe_make N.M GI hr (by rfl) T.mgC N.b3 .nil pass0 (pa_cons (pe_op op_add (pe_op op_mulW (pe_fld (pv 0) rfl) (pe_fld (pv 1) rfl)) (pe_op op_mulW (pe_fld (pv 1) rfl) (pe_fld (pv 0) rfl))) (pa_cons (pe_op op_mulW (pe_fld (pv 0) rfl) (pe_fld (pv 1) rfl)) pa_nil)))), ?_⟩
    refine ⟨.ref a, rfl, a, C, dx, _, _, rfl, ha, T.ins.cl, T.nT, pf_top q, .ref b, rfl, b, C, dy, _, _, rfl, hb, T.ins.cl, T.nB, pf_bottom r, _, _, rfl, rfl, mulW zq.1 (by simpa using up39 zr.2), ?_⟩
    refine ⟨.ref b, rfl, b, C, dy, _, _, rfl, hb, T.ins.cl, T.nT, pf_top r, .ref a, rfl, a, C, dx, _, _, rfl, ha, T.ins.cl, T.nB, pf_bottom q, _, _, rfl, rfl, mulW (up39 zr.1) (by simpa using zq.2), _, _, rfl, rfl, ?_⟩
    refine ⟨.ref a, rfl, a, C, dx, _, _, rfl, ha, T.ins.cl, T.nB, pf_bottom q, .ref b, rfl, b, C, dy, _, _, rfl, hb, T.ins.cl, T.nB, pf_bottom r, _, _, rfl, rfl, mulW (by simpa using zq.2) (by simpa using up39 zr.2), ?_⟩
    refine made (Int.mul_ne_zero (den_ne q) (den_ne r)) (sz_den zq zr) ?_
    rw [← add_eq]
    exact h
/-! ### lowest, times, over -/
theorem mk_facts {H : Hp} {x dx : Addr} {q : Rat} (hx : H x = none) (hdx : H dx = none) : Same H (upd (upd H dx (.own x)) x (.ins C dx (pf q))) ∧ PA C (upd (upd H dx (.own x)) x (.ins C dx (pf q))) x q := by
  refine ⟨fun c o e => ?_, dx, upd_same⟩
  rw [upd_ne (ne_of_none e hx), upd_ne (ne_of_none e hdx)]
  exact e
/-! ### _law_together -/
theorem pf_set (q r : Rat) : putF "bottom" (.int (q.den : Int)) (putF "top" (.int q.num) (pf r)) = pf q := by
  unfold pf
  simp [putF, tb_]
theorem few_pf (q : Rat) : (pf q).length < 1000 := by
  unfold pf
  simp [putF, tb_]
theorem few_pf1 (q : Rat) (x : V) : (putF "top" x (pf q)).length < 1000 := by
  unfold pf
  simp [putF, tb_]
theorem scLowest : FnScope ["top", "bottom", "result"] ["top", "bottom"] (defScope sLowest) := ⟨rfl, rfl, rfl, by decide +kernel, rfl, by decide +kernel, by decide +kernel⟩
def spLowest (C : Addr) : Sp := fun vs H Q _ => ∃ q : Rat, vs = [.int q.num, .int (q.den : Int)] ∧ New C H q Q
theorem ok_lowest {f fi f1 f2 : Addr} {fd gi g1 g2 : FuncData} {d1 : Value} {k : Nat} (F : Fun K "lowest" "lowest" sLowest f fd) (N : Mks K mg C fi f1 f2 gi g1 g2 d1) (T : TxtP K mg C) : FnOk P w K mg base CX0 (k + 4) f fd ["top", "bottom"] (spLowest C) := by
  have GI : FnOk P w K mg base CX0 (k + 2) fi gi ["self", "top", "bottom"] (spInit C) := ok_init N.F N.N1 N.N2 T
  refine F.ok scLowest (fun vs H Q E h => ?_) (fun cdv A outer s H vs Q E hr h => ?_)
  · obtain ⟨q, rfl, _⟩ := h
    rfl
  · obtain ⟨q, rfl, h⟩ := h
    have nd := scLowest.nd
    refine ⟨_, pss_cons (ps_set (i := 2) nd rfl (.inl rfl) (pe_make N.M GI hr (by rfl) T.mgC N.b2 (.cons N.r1 .nil) pass0 (pa_cons pe_int pa_nil)))
      (pss_cons (ps_fld (pv 2) (pv 0) rfl) (pss_cons (ps_fld (pv 2) (pv 1) rfl) (pss_one (ps_ret (pv 2))))), ?_⟩
    intro p dx np hdx ne
    refine ⟨p, dx, 1, 1, rfl, by decide, Nat.one_lt_two_pow (by decide), upd_same, rfl, ?_⟩
    rw [upd_upd]
    refine ⟨.int q.num, rfl, .ref p, rfl, p, C, dx, _, rfl, upd_same, T.ins.cl, T.nT, few_pf _, ?_⟩
    refine ⟨.int (q.den : Int), rfl, .ref p, rfl, p, C, dx, _, rfl, upd_same, T.ins.cl, T.nB, few_pf1 _ _, ?_⟩
    refine ⟨.ref p, rfl, ?_⟩
    rw [upd_upd, upd_upd, pf_set]
    refine h _ p (fun c o e => ?_) np ⟨dx, upd_same⟩
    rw [upd_ne (ne_of_none e np), upd_ne (ne_of_none e hdx)]
    exact e
def spMul (C : Addr) : Sp := fun vs H Q _ => ∃ a b q r, vs = [.ref a, .ref b] ∧ PA C H a q ∧ PA C H b r ∧ Sz 100000 q ∧ Sz 3900 r ∧ (r ≠ 0 ∨ Sz 8000 q) ∧ New C H (q * r) Q
theorem fdiv_le {t : Int} {g n : Nat} (h : t.natAbs < 2 ^ n) (d : (g : Int) ∣ t) : (t.fdiv (g : Int)).natAbs < 2 ^ n := by
  rw [Int.fdiv_eq_ediv_of_dvd d]
  exact Nat.lt_of_le_of_lt (Int.natAbs_ediv_le_natAbs _ _) h
theorem scTimes : FnScope ["self", "other", "first", "second"] ["self", "other"] (defScope sTimes) := ⟨rfl, rfl, rfl, by decide +kernel, rfl, by decide +kernel, by decide +kernel⟩
theorem ok_mul {f fi f1 f2 fz : Addr} {fd gi g1 g2 gz : FuncData} {d1 : Value} {k : Nat} (F : Fun K "times" "Part.times" sTimes f fd) (N : Mks K mg C fi f1 f2 gi g1 g2 d1) (Nz : Fn K mg "lowest" sLowest ["top", "bottom"] fz gz) (T : TxtP K mg C) :
    FnOk P w K mg base CX0 (k + 5) f fd ["self", "other"] (spMul C) := by
  have G2 : FnOk P w K mg base CX0 (k + 4) f2 g2 ["one", "other"] spDivisor := ok_divisor N.N2.F T
  have GZ : FnOk P w K mg base CX0 (k + 4) fz gz ["top", "bottom"] (spLowest C) := ok_lowest Nz.F N T
  refine F.ok scTimes (fun vs H Q E h => ?_) (fun cdv A outer s H vs Q E hr h => ?_)
  · obtain ⟨a, b, q, r, rfl, _⟩ := h
    rfl
  · obtain ⟨a, b, q, r, rfl, ⟨dx, ha⟩, ⟨dy, hb⟩, zq, zr, hs, h⟩ := h
    have nd := scTimes.nd
    refine ⟨_, pss_cons (ps_set (i := 2) nd rfl (.inl rfl) (pe_call G2 hr (by rfl) N.N2.g N.N2.F.kp N.N2.b .nil pass0 (pa_cons (pe_fld (pv 0) rfl) (pa_cons (pe_fld (pv 1) rfl) pa_nil))))
      (pss_cons (ps_set (i := 3) nd rfl (.inl rfl) (pe_call G2 hr (by rfl) N.N2.g N.N2.F.kp N.N2.b .nil pass0 (pa_cons (pe_fld (pv 1) rfl) (pa_cons (pe_fld (pv 0) rfl) pa_nil))))
      (pss_one (ps_ret (pe_call GZ hr (by rfl) Nz.g Nz.F.kp Nz.b .nil pass0 (pa_cons (pe_op op_mulW (pe_op op_fdivWN (pe_fld (pv 0) rfl) (pv 2)) (pe_op op_fdivWN (pe_fld (pv 1) rfl) (pv 3)))
        (pa_cons (pe_op op_mulW (pe_op op_fdivWN (pe_fld (pv 0) rfl) (pv 3)) (pe_op op_fdivWN (pe_fld (pv 1) rfl) (pv 2))) pa_nil)))))), ?_⟩
    have p1 := gcd_pos (t := q.num) (den_ne r)
    have p2 := gcd_pos (t := r.num) (den_ne q)
    have l1 : (Int.gcd q.num (r.den : Int)).log2 < 9000 := by
      have h1 : Int.gcd q.num (r.den : Int) ≤ r.den := Nat.le_of_dvd (Nat.pos_of_ne_zero r.den_nz) (Int.gcd_dvd_natAbs_right ..)
      exact Nat.lt_of_lt_of_le (PySem.Flt.log2_lt_of (by decide) (Nat.lt_of_le_of_lt h1 zr.2)) (by decide)
    have l2 : (Int.gcd r.num (q.den : Int)).log2 < 9000 := by
      rcases hs with h0 | h0
      · have h1 : Int.gcd r.num (q.den : Int) ≤ r.num.natAbs := Nat.le_of_dvd (Int.natAbs_pos.mpr fun e => h0 (Rat.num_eq_zero.mp e)) (Int.gcd_dvd_natAbs_left ..)
        exact Nat.lt_of_lt_of_le (PySem.Flt.log2_lt_of (by decide) (Nat.lt_of_le_of_lt h1 zr.1)) (by decide)
      · have h1 : Int.gcd r.num (q.den : Int) ≤ q.den := Nat.le_of_dvd (Nat.pos_of_ne_zero q.den_nz) (Int.gcd_dvd_natAbs_right ..)
        exact Nat.lt_of_lt_of_le (PySem.Flt.log2_lt_of (by decide) (Nat.lt_of_le_of_lt h1 h0.2)) (by decide)
    have c1 : ∀ t : Int, CDivWN t (Int.gcd q.num (r.den : Int) : Int) := fun t => ⟨by omega, l1⟩
    have c2 : ∀ t : Int, CDivWN t (Int.gcd r.num (q.den : Int) : Int) := fun t => ⟨by omega, l2⟩
    refine ⟨.ref a, rfl, a, C, dx, _, _, rfl, ha, T.ins.cl, T.nT, pf_top q, .ref b, rfl, b, C, dy, _, _, rfl, hb, T.ins.cl, T.nB, pf_bottom r, q.num, (r.den : Int), rfl, ?_⟩
    refine ⟨.ref b, rfl, b, C, dy, _, _, rfl, hb, T.ins.cl, T.nT, pf_top r, .ref a, rfl, a, C, dx, _, _, rfl, ha, T.ins.cl, T.nB, pf_bottom q, r.num, (q.den : Int), rfl, ?_⟩
    refine ⟨.ref a, rfl, a, C, dx, _, _, rfl, ha, T.ins.cl, T.nT, pf_top q, _, rfl, _, _, rfl, rfl, c1 _, .ref b, rfl, b, C, dy, _, _, rfl, hb, T.ins.cl, T.nT, pf_top r, _, rfl, _, _, rfl, rfl, c2 _, _, _, rfl, rfl, ?_, ?_⟩
    · exact wide_mul (fdiv_le zq.1 (Int.gcd_dvd_left ..)) (fdiv_le zr.1 (Int.gcd_dvd_left ..)) (by decide) (by decide) (by decide)
    refine ⟨.ref a, rfl, a, C, dx, _, _, rfl, ha, T.ins.cl, T.nB, pf_bottom q, _, rfl, _, _, rfl, rfl, c2 _, .ref b, rfl, b, C, dy, _, _, rfl, hb, T.ins.cl, T.nB, pf_bottom r, _, rfl, _, _, rfl, rfl, c1 _, _, _, rfl, rfl, ?_, ?_⟩
    · exact wide_mul (fdiv_le (t := (q.den : Int)) zq.2 (Int.gcd_dvd_right ..)) (fdiv_le (t := (r.den : Int)) zr.2 (Int.gcd_dvd_right ..)) (by decide) (by decide) (by decide)
    refine ⟨q * r, ?_, h⟩
    show [V.int (_ * _), V.int (_ * _)] = _
    rw [mul_num, mul_den]
theorem ok_times {f fi f1 f2 fz : Addr} {fd gi g1 g2 gz : FuncData} {d1 : Value} {k : Nat} (F : Fun K "times" "Part.times" sTimes f fd) (N : Mks K mg C fi f1 f2 gi g1 g2 d1) (Nz : Fn K mg "lowest" sLowest ["top", "bottom"] fz gz) (T : TxtP K mg C) :
    FnOk P w K mg base CX0 (k + 5) f fd ["self", "other"] (spOp C (fun _ _ => True) (fun q r => q * r)) :=
  (ok_mul F N Nz T).imp fun vs H Q E ⟨a, b, q, r, e, ha, hb, zq, zr, _, h⟩ => ⟨a, b, q, r, e, ha, hb, zq.mono (by decide), zr, .inr (zq.mono (by decide)), h⟩
def spDiv (C : Addr) : Sp := fun vs H Q _ => ∃ a b q r, vs = [.ref a, .ref b] ∧ PA C H a q ∧ PA C H b r ∧ Sz 100000 q ∧ Sz 3900 r ∧ r ≠ 0 ∧ New C H (q / r) Q
theorem scOver : FnScope ["self", "other"] ["self", "other"] (defScope sOver) := ⟨rfl, rfl, rfl, by decide +kernel, rfl, by decide +kernel, by decide +kernel⟩
theorem no_times (q : Rat) : (pf q).lookup ("times" : Str) = none := pf_no q (by decide +kernel) (by decide +kernel)
theorem ok_div {f fi f1 f2 fz ft : Addr} {fd gi g1 g2 gz gt : FuncData} {d1 : Value} {k : Nat} (F : Fun K "over" "Part.over" sOver f fd) (N : Mks K mg C fi f1 f2 gi g1 g2 d1) (Nz : Fn K mg "lowest" sLowest ["top", "bottom"] fz gz) (Ft : Fun K "times" "Part.times" sTimes ft gt) (bt : Binds K gt ["self", "other"] []) (mt : Meth K C "times" ft) (T : TxtP K mg C) :
    FnOk P w K mg base CX0 (k + 6) f fd ["self", "other"] (spDiv C) := by
  have GI : FnOk P w K mg base CX0 (k + 4) fi gi ["self", "top", "bottom"] (spInit C) := ok_init N.F N.N1 N.N2 T
  have GT : FnOk P w K mg base CX0 (k + 5) ft gt ["self", "other"] (spMul C) := ok_mul Ft N Nz T
  refine F.ok scOver (fun vs H Q E h => ?_) (fun cdv A outer s H vs Q E hr h => ?_)
  · obtain ⟨a, b, q, r, rfl, _⟩ := h
    rfl
  · obtain ⟨a, b, q, r, rfl, ⟨dx, ha⟩, ⟨dy, hb⟩, zq, zr, hr0, h⟩ := h
    have hn0 : r.num ≠ 0 := fun e => hr0 (Rat.num_eq_zero.mp e)
    have up : ∀ {n : Nat}, n < 2 ^ 3900 → n < 2 ^ 8000 := fun h => Nat.lt_of_lt_of_le h (Nat.pow_le_pow_right (by decide) (by decide))
    refine ⟨_, pss_one (ps_ret (pe_meth (pv 0) T.ins.cl mt GT hr bt .nil pass0 (pa_cons (pe_make N.M GI hr (by rfl) T.mgC N.b3 .nil pass0 (pa_cons (pe_fld (pv 1) rfl) (pa_cons (pe_fld (pv 1) rfl) pa_nil))) pa_nil))), ?_⟩
    refine ⟨.ref a, rfl, a, dx, _, rfl, ha, no_times q, ?_⟩
    refine ⟨.ref b, rfl, b, C, dy, _, _, rfl, hb, T.ins.cl, T.nB, pf_bottom r, .ref b, rfl, b, C, dy, _, _, rfl, hb, T.ins.cl, T.nT, pf_top r, ?_⟩
    intro p dz np hdz ne
    refine ⟨p, dz, (r.den : Int), r.num, rfl, hn0, up zr.1, upd_same, rfl, ?_⟩
    rw [upd_upd]
    obtain ⟨s1, pa⟩ := mk_facts (C := C) (q := Rat.divInt (r.den : Int) r.num) np hdz
    generalize upd (upd H dz (.own p)) p (.ins C dz (pf (Rat.divInt (r.den : Int) r.num))) = H1 at s1 pa
    have er : Rat.divInt (r.den : Int) r.num = r⁻¹ := (Rat.inv_def r).symm
    have z1 : Sz 3900 (Rat.divInt (r.den : Int) r.num) := sz_divInt hn0 zr.2 zr.1
    rw [er] at pa z1
    refine ⟨a, p, q, r⁻¹, rfl, PA.same s1 ⟨dx, ha⟩, pa, zq, z1, .inl ?_, fun H2 p2 s2 n2 pa2 => ?_⟩
    · intro e
      refine hr0 ?_
      rw [← Rat.inv_inv r, e]
      exact Rat.inv_zero
    · refine h H2 p2 (s1.trans s2) (s1.free n2) ?_
      rw [Rat.div_def]
      exact pa2
theorem ok_over {f fi f1 f2 fz ft : Addr} {fd gi g1 g2 gz gt : FuncData} {d1 : Value} {k : Nat} (F : Fun K "over" "Part.over" sOver f fd) (N : Mks K mg C fi f1 f2 gi g1 g2 d1) (Nz : Fn K mg "lowest" sLowest ["top", "bottom"] fz gz) (Ft : Fun K "times" "Part.times" sTimes ft gt) (bt : Binds K gt ["self", "other"] []) (mt : Meth K C "times" ft) (T : TxtP K mg C) :
    FnOk P w K mg base CX0 (k + 6) f fd ["self", "other"] (spOp C (fun _ r => r ≠ 0) (fun q r => q / r)) :=
  (ok_div F N Nz Ft bt mt T).imp fun vs H Q E ⟨a, b, q, r, e, ha, hb, zq, zr, h0, h⟩ => ⟨a, b, q, r, e, ha, hb, zq.mono (by decide), zr, h0, h⟩
end
/-! ### what stands at the top -/
structure TxtR (K : PySem.W.Frag) (w : World) (mg : Str → Option Value) (d : Addr) (es : Array DictEntry) (n : Nat) : Prop where
  len : mg "len" = none
  range : mg "range" = none
  all : mg "all" = none
  isi : mg "isinstance" = none
  str : mg "str" = none
  int : mg "int" = none
  bool : mg "bool" = none
  reversed : mg "reversed" = none
  sorted : mg "sorted" = none
  list : mg "list" = none
  repr : mg "repr" = none
  bead : ∃ t, mg "BEAD" = some (.str "o" t)
  free : ∃ t, mg "FREE" = some (.str "." t)
  most : ∃ t, mg "MOST_PLACES" = some (.int 30 t)
  os : mg "OTHER_SIGN" = some (.ref d)
  D : KDict K w d es n
  osO : ∃ t, PySem.W.nsIn K d "o" = some (some (.str "." t))
  osF : ∃ t, PySem.W.nsIn K d "." = some (some (.str "o" t))
/-- a text in a written dict -/
def rInKd (K : PySem.W.Frag) (d : Addr) : R2 := fun x y H Q => ∃ (z : Str) (r : Option Value), x = .str z ∧ y = .ref d ∧ PySem.W.nsIn K d z = some r ∧ Q (.bl r.isSome) H
theorem op_inKd {X : Cx} {d : Addr} {es : Array DictEntry} {n : Nat} (D : KDict X.K X.w d es n) : OpR X (compareOp .In) (rInKd X.K d) := op_in_kd D
def spIsRow : Sp := fun vs H Q _ => ∃ bs, vs = [.str (tx bs)] ∧ Row bs ∧ ∀ H', Same H H' → Q (.bl true) H'
theorem scIsRow : FnScope ["thing", "sign"] ["thing"] (defScope sIsRow) := ⟨rfl, rfl, rfl, by decide +kernel, rfl, by decide +kernel, by decide +kernel⟩
section
variable {P : Program} {w : World} {K : PySem.W.Frag} {mg : Str → Option Value} {base : Heap} {d : Addr} {es : Array DictEntry} {n : Nat}
theorem in_os (T : TxtR K w mg d es n) (b : Bool) : ∃ r, PySem.W.nsIn K d (tx [b]) = some (some r) ∧ ∃ t, r = .str (tx [!b]) t := by
  cases b with
  | true =>
    obtain ⟨t, e⟩ := T.osO
    rw [tx_o] at e
    exact ⟨_, e, t, by rw [tx_f]; rfl⟩
  | false =>
    obtain ⟨t, e⟩ := T.osF
    rw [tx_f] at e
    exact ⟨_, e, t, by rw [tx_o]; rfl⟩
theorem ok_isrow {f : Addr} {fd : FuncData} {k : Nat} (F : Fun K "is_row" "is_row" sIsRow f fd) (T : TxtR K w mg d es n) : FnOk P w K mg base CX0 (k + 1) f fd ["thing"] spIsRow := by
  refine F.ok scIsRow (fun vs H Q E h => ?_) (fun cdv A outer s H vs Q E hr h => ?_)
  · obtain ⟨bs, rfl, _⟩ := h
    rfl
  · obtain ⟨bs, rfl, hR, q⟩ := h
    have nd := scIsRow.nd
    obtain ⟨tm, gm⟩ := T.most
    refine ⟨_, pss_cons (ps_if (PW.pt (pw_or (pt_not (pt_val (pe_callB call_isi (by rfl) T.isi (by decide +kernel) (pa_cons (pv 0) (pa_cons (pe_bltn (v := .ty "str") (by rfl) T.str (by decide +kernel) rfl) pa_nil)))))
          (pw_or (pt_cmpR op_lt (pe_callB call_len_str (by rfl) T.len PySem.boot_len (pa_cons (pv 0) pa_nil)) pe_int (nomark _))
          (pw_or1 (pt_cmpR op_gt (pe_callB call_len_str (by rfl) T.len PySem.boot_len (pa_cons (pv 0) pa_nil)) (pe_glob (v := .int 30) (by rfl) gm ⟨_, rfl⟩) (nomark _))))))
        (pss_one (ps_ret pe_bl)) pss_nil)
      (pss_one (ps_ret (pe_callB (cr_all rfl) (by rfl) T.all (by decide +kernel) (pa_cons
        (pe_lc (own := [("sign", 1)]) (g := gName 1) (tt := tYes) (te := tOp (rInKd K d) (tVar 1) (tC (.ref d))) rfl nd (pi_str (pv 0)) (blkOk_by (own := [("sign", 1)]) (N := ["thing", "sign"]) (sc := defScope sIsRow) (by decide +kernel))
          (fun _ _ _ _ _ => pg_name (i := 1) nd rfl (Or.inl rfl)) (fun _ _ _ _ _ => pts_nil)
          (fun _ _ _ _ _ => pe_cmpR (op_inKd T.D) (pv 1) (pe_glob (v := .ref d) (by rfl) T.os rfl) (by rfl)))
        pa_nil)))), ?_⟩
    have hz := row_size hR
    refine ⟨.str (tx bs), rfl, .str (tx bs), .ty "str", .type "str", .type "str", true, rfl, .ty _, .base (.str _), kit_ty (by decide +kernel), true, rfl, iteF ?_⟩
    refine ⟨.str (tx bs), rfl, tx bs, rfl, hz, _, _, rfl, rfl, _, rfl, ?_⟩
    rw [tx_len, decide_eq_false (by have := hR.1; omega)]
    refine iteF ⟨.str (tx bs), rfl, tx bs, rfl, hz, _, _, rfl, rfl, _, rfl, ?_⟩
    rw [tx_len, decide_eq_false (by have := hR.2; omega)]
    refine iteF ⟨.str (tx bs), rfl, tx bs, rfl, fun D hD => ?_⟩
    refine lc_tx (bs := bs) (fun i H3 => Same H H3 ∧ H3 D = some (.lst ((List.replicate i true).map V.bl)) ∧ i ≤ 30) ⟨same_upd hD, upd_same, by decide⟩ ?_ ?_
    · rintro i b H3 hb ⟨sm, eD, hi⟩
      obtain ⟨r, e1, t, e2⟩ := in_os T b
      have hi2 : i < bs.length := (List.getElem?_eq_some_iff.mp hb).1
      refine ⟨rfl, .str (tx [b]), rfl, tx [b], some r, rfl, rfl, e1, _, eD, ?_, same_new hD sm, ?_, ?_⟩
      · rw [List.length_map, List.length_replicate]
        exact small1000 (by omega)
      · rw [upd_same, List.replicate_succ', List.map_append]
        rfl
      · have := hR.2
        omega
    · rintro H3 ⟨sm, eD, hi⟩
      refine ⟨D, List.replicate bs.length true, rfl, SqL.of eD, ?_⟩
      have e : (List.replicate bs.length true).all id = true := by simp
      rw [e]
      exact q H3 sm
def spNeed : Sp := fun vs H Q _ => ∃ bs, vs = [.str (tx bs)] ∧ Row bs ∧ ∀ H', Same H H' → Q .non H'
theorem scNeed : FnScope ["thing"] ["thing"] (defScope sNeedRow) := ⟨rfl, rfl, rfl, by decide +kernel, rfl, by decide +kernel, by decide +kernel⟩
theorem ok_need {f f1 : Addr} {fd fd1 : FuncData} {k : Nat} (F : Fun K "need_row" "need_row" sNeedRow f fd) (N1 : Fn K mg "is_row" sIsRow ["thing"] f1 fd1) (T : TxtR K w mg d es n) : FnOk P w K mg base CX0 (k + 2) f fd ["thing"] spNeed := by
  have G1 : FnOk P w K mg base CX0 (k + 1) f1 fd1 ["thing"] spIsRow := ok_isrow N1.F T
  refine F.ok scNeed (fun vs H Q E h => ?_) (fun cdv A outer s H vs Q E hr h => ?_)
  · obtain ⟨bs, rfl, _⟩ := h
    rfl
  · obtain ⟨bs, rfl, hR, q⟩ := h
    refine ⟨_, pss_one (ps_if (pt_not (pt_val (pe_call G1 hr (by rfl) N1.g N1.F.kp N1.b .nil pass0 (pa_cons (pv 0) pa_nil)))) (pss_one ps_never) pss_nil), ?_⟩
    exact ⟨.str (tx bs), rfl, bs, rfl, hR, fun H1 s1 => ⟨true, rfl, iteF (q H1 s1)⟩⟩
def spEnds : Sp := fun vs H Q _ => ∃ bs, vs = [.str (tx bs)] ∧ Row bs ∧ Q (.str (tx (ends bs))) H
theorem scEnds : FnScope ["row"] ["row"] (defScope sWithEnds) := ⟨rfl, rfl, rfl, by decide +kernel, rfl, by decide +kernel, by decide +kernel⟩
theorem ok_ends {f : Addr} {fd : FuncData} {k : Nat} (F : Fun K "with_ends" "with_ends" sWithEnds f fd) (T : TxtR K w mg d es n) : FnOk P w K mg base CX0 (k + 1) f fd ["row"] spEnds := by
  refine F.ok scEnds (fun vs H Q E h => ?_) (fun cdv A outer s H vs Q E hr h => ?_)
  · obtain ⟨bs, rfl, _⟩ := h
    rfl
  · obtain ⟨bs, rfl, hR, q⟩ := h
    obtain ⟨tb, gb⟩ := T.bead
    obtain ⟨tf, gf⟩ := T.free
    have h30 := hR.2
    have l1 : ("o" : Str).length = 1 := by decide +kernel
    have l2 : ("." : Str).length = 1 := by decide +kernel
    refine ⟨_, pss_one (ps_ret (pe_op op_add_str (pe_op op_add_str (pe_glob (v := .str "o") (by rfl) gb ⟨_, rfl⟩) (pv 0)) (pe_glob (v := .str ".") (by rfl) gf ⟨_, rfl⟩))), ?_⟩
    refine ⟨.str (tx bs), rfl, "o", tx bs, rfl, rfl, ?_, "o" ++ tx bs, ".", rfl, rfl, ?_, ?_⟩
    · rw [l1, tx_len, sizeLine_eq]
      omega
    · rw [tx_o, tx_f, tx_app, tx_len, tx_len, sizeLine_eq]
      show ([true] ++ bs).length + 1 ≤ 16777216
      rw [List.length_append]
      show 1 + bs.length + 1 ≤ 16777216
      omega
    · rw [tx_o, tx_f, tx_app, tx_app]
      exact q
def spWalls : Sp := fun vs H Q _ => ∃ bs, vs = [.str (tx bs)] ∧ Row bs ∧ ∀ H' p, Same H H' → H p = none → H' p = some (.lst ((walls bs).map wv)) → Q (.ref p) H'
theorem scWalls : FnScope ["row", "signs", "wall"] ["row"] (defScope sWallsOf) := ⟨rfl, rfl, rfl, by decide +kernel, rfl, by decide +kernel, by decide +kernel⟩
theorem ok_walls {f f1 f2 f3 : Addr} {fd fd1 fd2 fd3 : FuncData} {k : Nat} (F : Fun K "walls_of" "walls_of" sWallsOf f fd) (N1 : Fn K mg "is_row" sIsRow ["thing"] f1 fd1) (N2 : Fn K mg "need_row" sNeedRow ["thing"] f2 fd2) (N3 : Fn K mg "with_ends" sWithEnds ["row"] f3 fd3) (T : TxtR K w mg d es n) :
    FnOk P w K mg base CX0 (k + 3) f fd ["row"] spWalls := by
  have G2 : FnOk P w K mg base CX0 (k + 2) f2 fd2 ["thing"] spNeed := ok_need N2.F N1 T
  have G3 : FnOk P w K mg base CX0 (k + 2) f3 fd3 ["row"] spEnds := ok_ends N3.F T
  refine F.ok scWalls (fun vs H Q E h => ?_) (fun cdv A outer s H vs Q E hr h => ?_)
  · obtain ⟨bs, rfl, _⟩ := h
    rfl
  · obtain ⟨bs, rfl, hR, q⟩ := h
    have nd := scWalls.nd
    obtain ⟨tb, gb⟩ := T.bead
    obtain ⟨tf, gf⟩ := T.free
    refine ⟨_, pss_cons (ps_expr (pe_call G2 hr (by rfl) N2.g N2.F.kp N2.b .nil pass0 (pa_cons (pv 0) pa_nil)))
      (pss_cons (ps_set (i := 1) nd rfl (.inr rfl) (pe_call G3 hr (by rfl) N3.g N3.F.kp N3.b .nil pass0 (pa_cons (pv 0) pa_nil)))
      (pss_one (ps_ret (pe_lc (own := [("wall", 2)]) (g := gName 2) rfl nd (pi_range1 (by rfl) T.range (pa_cons (pe_op op_add (pe_callB call_len_str (by rfl) T.len PySem.boot_len (pa_cons (pv 0) pa_nil)) pe_int) pa_nil))
        (blkOk_by (own := [("wall", 2)]) (N := ["row", "signs", "wall"]) (sc := defScope sWallsOf) (by decide +kernel))
        (fun _ _ _ _ _ => pg_name (i := 2) nd rfl (Or.inl rfl))
        (fun _ _ _ _ _ => pts_one (pt_cmpR op_eq (pe_slice sl_str (pv 1) (po_some (pv 2)) (po_some (pe_op op_add (pv 2) pe_int))) (pe_op op_add_str (pe_glob (v := .str "o") (by rfl) gb ⟨_, rfl⟩) (pe_glob (v := .str ".") (by rfl) gf ⟨_, rfl⟩)) (nomark _)))
        (fun _ _ _ _ _ => pv 2))))), ?_⟩
    have hz := row_size hR
    refine ⟨.str (tx bs), rfl, bs, rfl, hR, fun H1 s1 => ⟨.str (tx bs), rfl, bs, rfl, hR, ?_⟩⟩
    refine ⟨.str (tx bs), rfl, tx bs, rfl, hz, _, 1, rfl, rfl, _, rfl, ?_, ?_, fun D hD => ?_⟩
    · rw [tx_len]; omega
    · rw [tx_len]; have := hR.2; omega
    · have en : (((tx bs).length : Int) + 1).toNat = bs.length + 1 := by
        rw [tx_len]
        omega
      rw [en]
      refine lc_range (lo := 0) (n := bs.length + 1) (fun i H3 => Same H H3 ∧ H3 D = some (.lst (((List.range i).filter (opn bs)).map wv))) ⟨same_new (s1.free hD) s1, upd_same⟩ ?_ ?_
      · rintro i H3 hi ⟨sm, eD⟩
        rw [Int.zero_add]
        have h30 := hR.2
        have hze : (tx (ends bs)).length ≤ sizeLine := by
          rw [tx_len, ends_len, sizeLine_eq]
          omega
        have hlt : (((List.range i).filter (opn bs)).map wv).length < sizeLine := by
          rw [List.length_map]
          refine small1000 (Nat.le_trans (List.length_filter_le _ _) ?_)
          rw [List.length_range]
          omega
        refine ⟨rfl, .str (tx (ends bs)), rfl, .int (i : Int), rfl, _, rfl, .int (i : Int), rfl, _, _, rfl, rfl, _, rfl, tx (ends bs), rfl, hze, "o", ".", rfl, rfl, by decide, rfl, _, rfl, ?_⟩
        have e : decide (V.str (cutS (tx (ends bs)) (some (i : Int)) (some ((i : Int) + 2))) = V.str ("o" ++ ".")) = opn bs i := by
          have e1 := cut_at (ends bs) i 2
          rw [show (((2 : Nat) : Int)) = 2 from rfl] at e1
          rw [e1, tx_o, tx_f, tx_app]
          show decide (V.str (tx (((ends bs).drop i).take 2)) = V.str (tx [true, false])) = opn bs i
          unfold opn
          by_cases h : ((ends bs).drop i).take 2 = [true, false]
          · rw [h, decide_eq_true rfl, decide_eq_true rfl]
          · rw [decide_eq_false h, decide_eq_false fun q => h (tx_inj (V.str.inj q))]
        rw [e]
        have er : (List.range (i + 1)).filter (opn bs) = (List.range i).filter (opn bs) ++ (if opn bs i then [i] else []) := by
          rw [List.range_succ, List.filter_append]
          congr 1
          cases h : opn bs i with
          | true => simp [h]
          | false => simp [h]
        cases h : opn bs i with
        | true =>
          rw [h] at er
          refine ⟨.int (i : Int), rfl, _, eD, hlt, same_new (s1.free hD) sm, ?_⟩
          rw [upd_same, er, List.map_append]
          rfl
        | false =>
          rw [h] at er
          refine ⟨sm, ?_⟩
          rw [er, eD]
          simp
      · rintro H3 ⟨sm, eD⟩
        exact q H3 D sm (s1.free hD) eD
theorem scChanged : FnScope ["row", "wall", "signs", "behind"] ["row", "wall"] (defScope sChanged) := ⟨rfl, rfl, rfl, by decide +kernel, rfl, by decide +kernel, by decide +kernel⟩
def spChanged : Sp := fun vs H Q _ => ∃ bs k, vs = [.str (tx bs), wv k] ∧ Row bs ∧ k ∈ walls bs ∧ ∀ H', Same H H' → Q (.str (tx (chg bs k))) H'
theorem inV_walls {bs : List Bool} {k : Nat} (h : k ∈ walls bs) : inV (wv k) ((walls bs).map wv) = true := by
  unfold inV
  rw [List.any_eq_true]
  exact ⟨wv k, List.mem_map_of_mem h, by unfold wv eqV; simp⟩
theorem flat_walls (ks : List Nat) : (ks.map wv).all flatV = true := by
  rw [List.all_eq_true]
  intro x hx
  obtain ⟨k, _, rfl⟩ := List.mem_map.mp hx
  rfl
def spOpenOk : Sp := fun vs H Q _ => ∃ bs k, vs = [.str (tx bs), wv k] ∧ Row bs ∧ k ∈ walls bs ∧ ∀ H', Same H H' → Q .non H'
theorem scNeedOpen : FnScope ["row", "wall", "walls"] ["row", "wall"] (defScope sNeedOpen) := ⟨rfl, rfl, rfl, by decide +kernel, rfl, by decide +kernel, by decide +kernel⟩
theorem ok_needopen {C f f1 f2 f3 f4 f5 : Addr} {fd fd1 fd2 fd3 fd4 fd5 : FuncData} {k : Nat} (F : Fun K "need_open" "need_open" sNeedOpen f fd) (N1 : Fn K mg "is_row" sIsRow ["thing"] f1 fd1) (N2 : Fn K mg "need_row" sNeedRow ["thing"] f2 fd2) (N3 : Fn K mg "with_ends" sWithEnds ["row"] f3 fd3)
    (N4 : Fn K mg "walls_of" sWallsOf ["row"] f4 fd4) (N5 : Fn K mg "is_whole" sIsWhole ["thing"] f5 fd5) (T : TxtR K w mg d es n) (TP : TxtP K mg C) : FnOk P w K mg base CX0 (k + 4) f fd ["row", "wall"] spOpenOk := by
  have G4 : FnOk P w K mg base CX0 (k + 3) f4 fd4 ["row"] spWalls := ok_walls N4.F N1 N2 N3 T
  have G5 : FnOk P w K mg base CX0 (k + 3) f5 fd5 ["thing"] spWhole := ok_whole N5.F TP
  refine F.ok scNeedOpen (fun vs H Q E h => ?_) (fun cdv A outer s H vs Q E hr h => ?_)
  · obtain ⟨bs, k, rfl, _⟩ := h
    rfl
  · obtain ⟨bs, j, rfl, hR, hj, q⟩ := h
    have nd := scNeedOpen.nd
    refine ⟨_, pss_cons (ps_set (i := 2) nd rfl (.inl rfl) (pe_call G4 hr (by rfl) N4.g N4.F.kp N4.b .nil pass0 (pa_cons (pv 0) pa_nil)))
      (pss_one (ps_if (PW.pt (pw_or (pt_not (pt_val (pe_call G5 hr (by rfl) N5.g N5.F.kp N5.b .nil pass0 (pa_cons (pv 1) pa_nil)))) (pw_or1 (pt_cmpR op_notIn_seq (pv 1) (pv 2) (by rfl))))) (pss_one ps_never) pss_nil)), ?_⟩
    refine ⟨.str (tx bs), rfl, bs, rfl, hR, fun H1 p s1 np ep => ?_⟩
    refine ⟨wv j, rfl, (j : Int), rfl, true, rfl, iteF ⟨wv j, rfl, .ref p, rfl, p, _, rfl, .inl (SqL.of ep), rfl, flat_walls _, _, rfl, ?_⟩⟩
    rw [inV_walls hj]
    exact iteF (q H1 s1)
theorem ok_changed {C f f1 f2 f3 f4 f5 : Addr} {fd fd1 fd2 fd3 fd4 fd5 : FuncData} {k : Nat} (F : Fun K "changed" "changed" sChanged f fd) (N0 : ∃ r s, Fn K mg "need_open" sNeedOpen ["row", "wall"] r s) (N1 : Fn K mg "is_row" sIsRow ["thing"] f1 fd1) (N2 : Fn K mg "need_row" sNeedRow ["thing"] f2 fd2) (N3 : Fn K mg "with_ends" sWithEnds ["row"] f3 fd3)
    (N4 : Fn K mg "walls_of" sWallsOf ["row"] f4 fd4) (N5 : Fn K mg "is_whole" sIsWhole ["thing"] f5 fd5) (T : TxtR K w mg d es n) (TP : TxtP K mg C) : FnOk P w K mg base CX0 (k + 5) f fd ["row", "wall"] spChanged := by
  have G3 : FnOk P w K mg base CX0 (k + 4) f3 fd3 ["row"] spEnds := ok_ends N3.F T
  obtain ⟨f0, fd0, N0⟩ := N0
  have G0 : FnOk P w K mg base CX0 (k + 4) f0 fd0 ["row", "wall"] spOpenOk := ok_needopen N0.F N1 N2 N3 N4 N5 T TP
  refine F.ok scChanged (fun vs H Q E h => ?_) (fun cdv A outer s H vs Q E hr h => ?_)
  · obtain ⟨bs, k, rfl, _⟩ := h
    rfl
  · obtain ⟨bs, j, rfl, hR, hj, q⟩ := h
    have nd := scChanged.nd
    obtain ⟨tb, gb⟩ := T.bead
    obtain ⟨tf, gf⟩ := T.free
    have h30 := hR.2
    have hj1 := (mem_walls.mp hj).1
    refine ⟨_, pss_cons (ps_expr (pe_call G0 hr (by rfl) N0.g N0.F.kp N0.b .nil pass0 (pa_cons (pv 0) (pa_cons (pv 1) pa_nil))))
      (pss_cons (ps_set (i := 2) nd rfl (.inl rfl) (pe_call G3 hr (by rfl) N3.g N3.F.kp N3.b .nil pass0 (pa_cons (pv 0) pa_nil)))
      (pss_cons (ps_set (i := 3) nd rfl (.inl rfl) (pe_op op_add_str (pe_op op_add_str (pe_op op_add_str (pe_slice sl_str (pv 2) po_none (po_some (pv 1))) (pe_glob (v := .str ".") (by rfl) gf ⟨_, rfl⟩)) (pe_glob (v := .str "o") (by rfl) gb ⟨_, rfl⟩))
        (pe_slice sl_str (pv 2) (po_some (pe_op op_add (pv 1) pe_int)) po_none)))
      (pss_one (ps_ret (pe_slice sl_str (pv 3) (po_some pe_int) (po_some (pe_un un_neg pe_int))))))), ?_⟩
    refine ⟨.str (tx bs), rfl, wv j, rfl, bs, j, rfl, hR, hj, fun H1 s1 => ?_⟩
    refine ⟨.str (tx bs), rfl, bs, rfl, hR, ?_⟩
    have hze : (tx (ends bs)).length ≤ sizeLine := by
      rw [tx_len, ends_len, sizeLine_eq]
      omega
    refine ⟨.str (tx (ends bs)), rfl, wv j, rfl, (j : Int), rfl, tx (ends bs), rfl, hze, _, ".", rfl, rfl, ?_, _, "o", rfl, rfl, ?_, .str (tx (ends bs)), rfl, wv j, rfl, (j : Int), 2, rfl, rfl, (j : Int) + 2, rfl, tx (ends bs), rfl, hze, _, _, rfl, rfl, ?_, ?_⟩
    · rw [cut_to, tx_f, tx_len, tx_len, List.length_take, ends_len, sizeLine_eq]
      show min j (bs.length + 2) + 1 ≤ 16777216
      omega
    · rw [cut_to, tx_f, tx_o, tx_app, tx_len, tx_len, List.length_append, List.length_take, ends_len, sizeLine_eq]
      show min j (bs.length + 2) + 1 + 1 ≤ 16777216
      omega
    · rw [show (j : Int) + 2 = ((j + 2 : Nat) : Int) by omega, cut_from, cut_to, tx_f, tx_o, tx_app, tx_app, tx_len, tx_len, List.length_append, List.length_append, List.length_take, List.length_drop, ends_len, sizeLine_eq]
      show min j (bs.length + 2) + 1 + 1 + (bs.length + 2 - (j + 2)) ≤ 16777216
      omega
    · rw [show (j : Int) + 2 = ((j + 2 : Nat) : Int) by omega, cut_from, cut_to, tx_f, tx_o, tx_app, tx_app, tx_app]
      have hb := bhd_len hj1
      refine ⟨.str (tx (bhd bs j)), rfl, 1, rfl, 1, rfl, -1, rfl, tx (bhd bs j), rfl, ?_, ?_⟩
      · rw [tx_len, hb, sizeLine_eq]
        omega
      · rw [cut_mid _ (by rw [hb]; omega)]
        exact q H1 s1
end
end Hop

set_option Elab.async false
set_option linter.all false
set_option maxRecDepth 100000
namespace HopR
open PySem L2
/-! ### fractions above nought -/
theorem num_pos {q : Rat} (h : 0 < q) : 0 < q.num := by
  have h1 : 0 ≤ q.num := Rat.num_nonneg.mpr (by grind)
  have h2 : q.num ≠ 0 := fun e => by
    have : q = 0 := Rat.num_eq_zero.mp e
    rw [this] at h
    exact absurd h (by decide)
  omega
theorem pos_num {q : Rat} (h : 0 < q.num) : 0 < q := by
  have h1 : 0 ≤ q := Rat.num_nonneg.mp (by omega)
  have h2 : q ≠ 0 := fun e => by
    rw [e] at h
    exact absurd h (by decide)
  grind
theorem add_above {x y : Rat} (h : 0 ≤ y) (h2 : 0 < x) : 0 < y + x := by grind
theorem le_above {x : Rat} (h : 0 < x) : 0 ≤ x := by grind
theorem div_ne {q r : Rat} (h : 0 < q) (h2 : 0 < r) : q / r ≠ 0 := by
  rw [Rat.div_def]
  intro e
  rcases Rat.mul_eq_zero.mp e with e | e
  · rw [e] at h
    exact absurd h (by decide)
  · have h3 : r = 0 := by rw [← Rat.inv_inv r, e, Rat.inv_zero]
    rw [h3] at h2
    exact absurd h2 (by decide)
theorem ne_above {x : Rat} (h : 0 < x) : x ≠ 0 := fun e => by
  rw [e] at h
  exact absurd h (by decide)
theorem nat_low (n : Nat) : (0 : Rat) ≤ ((n : Int) : Rat) := by exact_mod_cast Nat.zero_le n
theorem nat_above {n : Nat} (h : 0 < n) : (0 : Rat) < ((n : Int) : Rat) := by exact_mod_cast h
theorem rat_int (t : Int) : Rat.divInt t 1 = (t : Rat) := by
  rw [Rat.divInt_eq_div]
  show (t : Rat) / ((1 : Int) : Rat) = (t : Rat)
  rw [Rat.div_def]
  have e : ((1 : Int) : Rat)⁻¹ = 1 := by decide +kernel
  rw [e, Rat.mul_one]
theorem sz_int {n k : Nat} (h : n < 2 ^ k) (hk : 1 ≤ k) : Sz k ((n : Int) : Rat) := by
  refine ⟨h, ?_⟩
  show 1 < 2 ^ k
  exact Nat.one_lt_two_pow (by omega)
theorem sz_add {n m : Nat} {q r : Rat} (h1 : Sz n q) (h2 : Sz m r) : Sz (n + m + 1) (q + r) := by
  rw [add_eq]
  have b1 : (q.num * r.den).natAbs < 2 ^ (n + m) := by
    rw [Int.natAbs_mul, Nat.pow_add]
    exact Nat.mul_lt_mul'' h1.1 h2.2
  have b2 : (r.num * q.den).natAbs < 2 ^ (n + m) := by
    rw [Int.natAbs_mul, Nat.add_comm, Nat.pow_add]
    exact Nat.mul_lt_mul'' h2.1 h1.2
  refine sz_divInt (Int.mul_ne_zero (den_ne q) (den_ne r)) ?_ ?_
  · exact Nat.lt_of_le_of_lt (Int.natAbs_add_le _ _) (two_lt b1 b2)
  · rw [Int.natAbs_mul]
    have h3 : q.den * r.den < 2 ^ (n + m) := by
      rw [Nat.pow_add]
      exact Nat.mul_lt_mul'' h1.2 h2.2
    exact Nat.lt_of_lt_of_le h3 (Nat.pow_le_pow_right (by decide) (by omega))
theorem sz_mul {n m : Nat} {q r : Rat} (h1 : Sz n q) (h2 : Sz m r) : Sz (n + m) (q * r) := by
  rw [mul_eq]
  refine sz_divInt (Int.mul_ne_zero (den_ne q) (den_ne r)) ?_ ?_
  · rw [Int.natAbs_mul, Nat.pow_add]
    exact Nat.mul_lt_mul'' h1.1 h2.1
  · rw [Int.natAbs_mul, Nat.pow_add]
    exact Nat.mul_lt_mul'' h1.2 h2.2
theorem sz_inv {n : Nat} {r : Rat} (h : Sz n r) (h0 : r ≠ 0) : Sz n r⁻¹ := by
  rw [Rat.inv_def]
  exact sz_divInt (fun e => h0 (Rat.num_eq_zero.mp e)) h.2 h.1
theorem sz_div {n m : Nat} {q r : Rat} (h1 : Sz n q) (h2 : Sz m r) (h0 : r ≠ 0) : Sz (n + m) (q / r) := by
  rw [Rat.div_def]
  exact sz_mul h1 (sz_inv h2 h0)
/-! ### walls -/
theorem two_in {l : List Nat} {a b : Nat} (ha : a ∈ l) (hb : b ∈ l) (h : a ≠ b) : 2 ≤ l.length := by
  match l, ha, hb with
  | [x], ha, hb =>
    have h1 := List.mem_singleton.mp ha
    have h2 := List.mem_singleton.mp hb
    omega
  | _ :: _ :: _, _, _ => simp
theorem one_in {l : List Nat} {a : Nat} (ha : a ∈ l) : 1 ≤ l.length := by
  match l, ha with
  | _ :: _, _ => simp
end HopR

set_option Elab.async false
set_option linter.all false
set_option maxRecDepth 100000
set_option exponentiation.threshold 200000
namespace Hop
open PySem L2 HopR
open C8 (InsC call_isC)
abbrev sPaceFrom : Stmt := top 29
abbrev sPacesFrom : Stmt := top 30
abbrev sPaceOf : Stmt := top 31
abbrev sPaceAll : Stmt := top 32
section
variable {P : Program} {w : World} {K : PySem.W.Frag} {mg : Str → Option Value} {base : Heap} {C d : Addr} {es : Array DictEntry} {n : Nat}
/-- at a a pace -/
def PC (C : Addr) (H : Hp) (a : Addr) (q : Rat) : Prop := PA C H a q ∧ 0 < q ∧ Sz 45 q
theorem PC.same {H H' : Hp} {a : Addr} {q : Rat} (s : Same H H') (h : PC C H a q) : PC C H' a q := ⟨h.1.same s, h.2⟩
/-- what is handed in as a pace, and the pace that it is -/
def Pw (C : Addr) (H : Hp) (x : V) (q : Rat) : Prop := (x = .non ∧ q = 1) ∨ ∃ a, x = .ref a ∧ PC C H a q
theorem Pw.same {H H' : Hp} {x : V} {q : Rat} (s : Same H H') (h : Pw C H x q) : Pw C H' x q := h.imp id fun ⟨a, e, p⟩ => ⟨a, e, p.same s⟩
theorem Pw.pos {H : Hp} {x : V} {q : Rat} (h : Pw C H x q) : 0 < q := by
  rcases h with ⟨_, rfl⟩ | ⟨_, _, p⟩
  · decide
  · exact p.2.1
theorem pc_one {H : Hp} {p : Addr} (h : PA C H p (Rat.divInt 1 1)) : PC C H p 1 := by
  have e : Rat.divInt 1 1 = 1 := by decide +kernel
  rw [e] at h
  exact ⟨h, by decide, ⟨by decide, by decide⟩⟩
variable {fi f1 f2 : Addr} {gi g1 g2 : FuncData} {d1 : Value}
/-! ### pace_from, paces_from -/
def spPaceFrom (C : Addr) : Sp := fun vs H Q _ => ∃ x q, vs = [x] ∧ Pw C H x q ∧ ∀ H' a, Same H H' → PC C H' a q → Q (.ref a) H'
theorem scPaceFrom : FnScope ["thing"] ["thing"] (defScope sPaceFrom) := ⟨rfl, rfl, rfl, by decide +kernel, rfl, by decide +kernel, by decide +kernel⟩
theorem ok_paceFrom {f : Addr} {fd : FuncData} {k : Nat} (F : Fun K "pace_from" "pace_from" sPaceFrom f fd) (M : Mks K mg C fi f1 f2 gi g1 g2 d1) (T : TxtP K mg C) : FnOk P w K mg base CX0 (k + 4) f fd ["thing"] (spPaceFrom C) := by
  have GI : FnOk P w K mg base CX0 (k + 2) fi gi ["self", "top", "bottom"] (spInit C) := ok_init M.F M.N1 M.N2 T
  refine F.ok scPaceFrom (fun vs H Q E h => ?_) (fun cdv A outer s H vs Q E hr h => ?_)
  · obtain ⟨x, q, rfl, _⟩ := h
    rfl
  · obtain ⟨x, q, rfl, hx, h⟩ := h
    refine ⟨_, PSs.nox (pss_cons (ps_if (pt_cmpR op_isN (pv 0) pe_non (nomark _)) (pss_one (ps_ret (pe_make M.M GI hr (by rfl) T.mgC M.b2 (.cons M.r1 .nil) pass0 (pa_cons pe_int pa_nil)))) pss_nil)
      (pss_cons (ps_if (PW.pt (pw_or (pt_not (pt_val (pe_callB (call_isC T.ins) (by rfl) T.isi (by decide +kernel) (pa_cons (pv 0) (pa_cons (pe_glob (v := .ref C) (by rfl) T.mgC rfl) pa_nil))))) (pw_or1 (pt_cmpR op_lt (pe_fld (pv 0) rfl) pe_int (nomark _))))) (pss_one ps_never) pss_nil)
      (pss_one (ps_ret (pv 0))))), ?_⟩
    rcases hx with ⟨rfl, rfl⟩ | ⟨a, rfl, ⟨⟨dx, ha⟩, h0, hz⟩⟩
    · refine ⟨.non, rfl, rfl, _, rfl, ?_⟩
      rw [decide_eq_true rfl]
      refine iteT ?_
      intro p dx np hdx ne
      refine ⟨p, dx, 1, 1, rfl, by decide, Nat.one_lt_two_pow (by decide), upd_same, rfl, ?_⟩
      rw [upd_upd]
      obtain ⟨s3, pa3⟩ := mk_facts (C := C) (q := Rat.divInt 1 1) np hdx
      exact h _ p s3 (pc_one pa3)
    · refine ⟨.ref a, rfl, rfl, _, rfl, ?_⟩
      rw [decide_eq_false (fun z => nomatch z)]
      refine iteF ⟨.ref a, rfl, a, dx, _, rfl, ha, true, rfl, iteF ?_⟩
      refine ⟨.ref a, rfl, a, C, dx, _, _, rfl, ha, T.ins.cl, T.nT, pf_top q, _, _, rfl, rfl, _, rfl, ?_⟩
      have hp := num_pos h0
      rw [decide_eq_false (show ¬ q.num < 1 by omega)]
      exact iteF ⟨.ref a, rfl, h _ _ (Same.refl _) ⟨⟨dx, ha⟩, h0, hz⟩⟩
def spPacesFrom (C : Addr) : Sp := fun vs H Q _ => ∃ x y q r, vs = [x, y] ∧ Pw C H x q ∧ Pw C H y r ∧ ∀ H' p a b, Same H H' → H p = none → H' p = some (.tup [.ref a, .ref b]) → PC C H' a q → PC C H' b r → Q (.ref p) H'
theorem scPacesFrom : FnScope ["inn", "out", "first"] ["inn", "out"] (defScope sPacesFrom) := ⟨rfl, rfl, rfl, by decide +kernel, rfl, by decide +kernel, by decide +kernel⟩
theorem ok_pacesFrom {f p1 : Addr} {fd q1 : FuncData} {k : Nat} (F : Fun K "paces_from" "paces_from" sPacesFrom f fd) (N1 : Fn K mg "pace_from" sPaceFrom ["thing"] p1 q1) (M : Mks K mg C fi f1 f2 gi g1 g2 d1) (T : TxtP K mg C) : FnOk P w K mg base CX0 (k + 5) f fd ["inn", "out"] (spPacesFrom C) := by
  have G1 : FnOk P w K mg base CX0 (k + 4) p1 q1 ["thing"] (spPaceFrom C) := ok_paceFrom N1.F M T
  refine F.ok scPacesFrom (fun vs H Q E h => ?_) (fun cdv A outer s H vs Q E hr h => ?_)
  · obtain ⟨x, y, q, r, rfl, _⟩ := h
    rfl
  · obtain ⟨x, y, q, r, rfl, pa, pb, h⟩ := h
    have nd := scPacesFrom.nd
    refine ⟨_, pss_cons (ps_set (i := 2) nd rfl (.inl rfl) (pe_call G1 hr (by rfl) N1.g N1.F.kp N1.b .nil pass0 (pa_cons (pv 0) pa_nil)))
      (pss_one (ps_ret (pe_tup (pa_cons (pv 2) (pa_cons (pe_call G1 hr (by rfl) N1.g N1.F.kp N1.b .nil pass0 (pa_cons (pv 1) pa_nil)) pa_nil))))), ?_⟩
    refine ⟨x, rfl, x, q, rfl, pa, fun H1 a s1 p1 => ⟨.ref a, rfl, y, rfl, y, r, rfl, pb.same s1, fun H2 b s2 p2 => ⟨(by show 2 ≤ sizeLine; decide), fun p np => ?_⟩⟩⟩
    have s12 := s1.trans s2
    exact h _ p a b (s12.trans (same_upd np)) (s12.free np) upd_same (p1.same (s2.trans (same_upd np))) (p2.same (same_upd np))
/-! ### pace_of -/
def paceAt (bs : List Bool) (q r : Rat) (k : Nat) : Rat := if k = 0 then q else if k = bs.length then r else 1
def spPaceOf (C : Addr) : Sp := fun vs H Q _ => ∃ (bs : List Bool) (k : Nat) (a b : Addr) (q r : Rat), vs = [.str (tx bs), wv k, .ref a, .ref b] ∧ Row bs ∧ PC C H a q ∧ PC C H b r ∧ ∀ H' p, Same H H' → PC C H' p (paceAt bs q r k) → Q (.ref p) H'
theorem scPaceOf : FnScope ["row", "wall", "inn", "out", "first", "last"] ["row", "wall", "inn", "out"] (defScope sPaceOf) := ⟨rfl, rfl, rfl, by decide +kernel, rfl, by decide +kernel, by decide +kernel⟩
structure PcDefs (K : PySem.W.Frag) (mg : Str → Option Value) (C fi f1 f2 r1 r2 p1 p2 p3 : Addr) (gi g1 g2 s1 s2 q1 q2 q3 : FuncData) (d1 : Value) : Prop where
  M : Mks K mg C fi f1 f2 gi g1 g2 d1
  R1 : Fn K mg "is_row" sIsRow ["thing"] r1 s1
  R2 : Fn K mg "need_row" sNeedRow ["thing"] r2 s2
  P1 : Fn K mg "pace_from" sPaceFrom ["thing"] p1 q1
  P2 : Fn K mg "paces_from" sPacesFrom ["inn", "out"] p2 q2
  F3 : FunD K "pace_of" "pace_of" (defArgs sPaceOf) (defBody sPaceOf) (defScope sPaceOf) [.non, .non] [] p3 q3
  b3 : Binds K q3 ["row", "wall", "inn", "out"] []
  g3 : mg "pace_of" = some (.ref p3)
variable {r1 r2 p1 p2 p3 : Addr} {s1 s2 q1 q2 q3 : FuncData}
theorem ok_paceOf {k : Nat} (N : PcDefs K mg C fi f1 f2 r1 r2 p1 p2 p3 gi g1 g2 s1 s2 q1 q2 q3 d1) (T : TxtP K mg C) (TR : TxtR K w mg d es n) : FnOk P w K mg base CX0 (k + 6) p3 q3 ["row", "wall", "inn", "out"] (spPaceOf C) := by
  have GI : FnOk P w K mg base CX0 (k + 4) fi gi ["self", "top", "bottom"] (spInit C) := ok_init N.M.F N.M.N1 N.M.N2 T
  have G2 : FnOk P w K mg base CX0 (k + 5) r2 s2 ["thing"] spNeed := ok_need N.R2.F N.R1 TR
  have G3 : FnOk P w K mg base CX0 (k + 5) p2 q2 ["inn", "out"] (spPacesFrom C) := ok_pacesFrom N.P2.F N.P1 N.M T
  refine N.F3.ok scPaceOf (fun vs H Q E h => ?_) (fun cdv A outer s H vs Q E hr h => ?_)
  · obtain ⟨bs, j, a, b, q, r, rfl, _⟩ := h
    rfl
  · obtain ⟨bs, j, a, b, q, r, rfl, hR, pa, pb, h⟩ := h
    have nd := scPaceOf.nd
    refine ⟨_, PSs.nox (pss_cons (ps_expr (pe_call G2 hr (by rfl) N.R2.g N.R2.F.kp N.R2.b .nil pass0 (pa_cons (pv 0) pa_nil)))
      (pss_cons (ps_asg (pe_call G3 hr (by rfl) N.P2.g N.P2.F.kp N.P2.b .nil pass0 (pa_cons (pv 2) (pa_cons (pv 3) pa_nil))) (pg_tup (by rfl) (pgs_cons (pg_name (i := 4) nd rfl (.inl rfl)) (pgs_cons (pg_name (i := 5) nd rfl (.inl rfl)) pgs_nil))))
      (pss_cons (ps_if (pt_cmpR op_eq (pv 1) pe_int (nomark _)) (pss_one (ps_ret (pv 4))) pss_nil)
      (pss_cons (ps_if (pt_cmpR op_eq (pv 1) (pe_callB call_len_str (by rfl) T.len PySem.boot_len (pa_cons (pv 0) pa_nil)) (nomark _)) (pss_one (ps_ret (pv 5))) pss_nil)
      (pss_one (ps_ret (pe_make N.M.M GI hr (by rfl) T.mgC N.M.b2 (.cons N.M.r1 .nil) pass0 (pa_cons pe_int pa_nil)))))))), ?_⟩
    refine ⟨.str (tx bs), rfl, bs, rfl, hR, fun H1 s1 => ?_⟩
    refine ⟨.ref a, rfl, .ref b, rfl, .ref a, .ref b, q, r, rfl, .inr ⟨a, rfl, pa.same s1⟩, .inr ⟨b, rfl, pb.same s1⟩, fun H2 p2 a2 b2 s2 n2 e2 pa2 pb2 => ?_⟩
    have s12 := s1.trans s2
    refine ⟨p2, _, rfl, SqT.of e2, rfl, _, _, rfl, _, _, rfl, rfl, ?_⟩
    refine ⟨wv j, rfl, rfl, _, rfl, ite2 (fun e => ?_) (fun e => ?_)⟩
    · have e : j = 0 := by
        have := V.int.inj (of_decide_eq_true e)
        omega
      refine ⟨.ref a2, rfl, h H2 a2 s12 ?_⟩
      unfold paceAt
      rw [if_pos e]
      exact pa2
    · have e : ¬ j = 0 := fun z => e (decide_eq_true (by rw [z]; rfl))
      refine ⟨wv j, rfl, .str (tx bs), rfl, tx bs, rfl, row_size hR, rfl, _, rfl, ite2 (fun e2 => ?_) (fun e2 => ?_)⟩
      · have e2 : j = bs.length := by
          have := V.int.inj (of_decide_eq_true e2)
          rw [tx_len] at this
          omega
        refine ⟨.ref b2, rfl, h H2 b2 s12 ?_⟩
        unfold paceAt
        rw [if_neg e, if_pos e2]
        exact pb2
      · have e2 : ¬ j = bs.length := fun z => e2 (decide_eq_true (by rw [z, tx_len]; rfl))
        intro p dx np hdx ne
        refine ⟨p, dx, 1, 1, rfl, by decide, Nat.one_lt_two_pow (by decide), upd_same, rfl, ?_⟩
        rw [upd_upd]
        obtain ⟨s3, pa3⟩ := mk_facts (C := C) (q := Rat.divInt 1 1) np hdx
        refine h _ p (s12.trans s3) ?_
        unfold paceAt
        rw [if_neg e, if_neg e2]
        exact pc_one pa3
theorem paceAt_ok {bs : List Bool} {q r : Rat} {k : Nat} (hq : 0 < q) (hr : 0 < r) : 0 < paceAt bs q r k := by
  unfold paceAt
  split
  · exact hq
  · split
    · exact hr
    · decide
end
end Hop

set_option linter.all false
namespace HopR
open PySem L2
theorem mir_mir (bs : List Bool) : mir (mir bs) = bs := by
  unfold mir
  rw [← List.map_reverse, List.reverse_reverse, List.map_map]
  have e : ((fun x => !x) ∘ fun x => !x) = (id : Bool → Bool) := by
    funext b
    cases b <;> rfl
  rw [e, List.map_id]
theorem ends_get (bs : List Bool) (k : Nat) (h : k ≤ bs.length) : opn bs k = (((ends bs)[k]?.getD false) && !((ends bs)[k + 1]?.getD true)) := by
  have hl := ends_len bs
  have e1 : (ends bs)[k]? = some (ends bs)[k] := List.getElem?_eq_getElem (by omega)
  have e2 : (ends bs)[k + 1]? = some (ends bs)[k + 1] := List.getElem?_eq_getElem (by omega)
  have e3 : ((ends bs).drop k).take 2 = [(ends bs)[k], (ends bs)[k + 1]] := by
    rw [List.drop_eq_getElem_cons (by omega), List.drop_eq_getElem_cons (by omega)]
    rfl
  unfold opn
  rw [e3, e1, e2]
  show decide ([(ends bs)[k], (ends bs)[k + 1]] = [true, false]) = ((ends bs)[k] && !(ends bs)[k + 1])
  cases (ends bs)[k] <;> cases (ends bs)[k + 1] <;> rfl
theorem ends_mir (bs : List Bool) : ends (mir bs) = mir (ends bs) := by
  unfold ends mir
  simp
theorem mir_get {l : List Bool} {k : Nat} (h : k < l.length) : (mir l)[k]? = some (!(l[l.length - 1 - k]'(by omega))) := by
  unfold mir
  rw [List.getElem?_map, List.getElem?_reverse h, List.getElem?_eq_getElem (by omega)]
  rfl
theorem opn_mir {bs : List Bool} {k : Nat} (h : k ≤ bs.length) : opn (mir bs) k = opn bs (bs.length - k) := by
  have hl := ends_len bs
  rw [ends_get (mir bs) k (by rw [mir_len]; exact h), ends_get bs (bs.length - k) (by omega), ends_mir, mir_get (by omega), mir_get (by omega)]
  have e1 : (ends bs)[bs.length - k]? = some ((ends bs)[bs.length - k]'(by omega)) := List.getElem?_eq_getElem (by omega)
  have e2 : (ends bs)[bs.length - k + 1]? = some ((ends bs)[bs.length - k + 1]'(by omega)) := List.getElem?_eq_getElem (by omega)
  rw [e1, e2]
  have i1 : (ends bs).length - 1 - k = bs.length - k + 1 := by omega
  have i2 : (ends bs).length - 1 - (k + 1) = bs.length - k := by omega
  simp only [i1, i2, Option.getD_some]
  cases (ends bs)[bs.length - k]'(by omega) <;> cases (ends bs)[bs.length - k + 1]'(by omega) <;> rfl
theorem range_rev (n : Nat) : (List.range (n + 1)).map (fun k => n - k) = (List.range (n + 1)).reverse := by
  apply List.ext_getElem
  · simp
  · intro i h1 h2
    rw [List.getElem_map, List.getElem_reverse, List.getElem_range, List.getElem_range, List.length_range]
    omega
theorem walls_mir (bs : List Bool) : walls (mir bs) = ((walls bs).map (fun k => bs.length - k)).reverse := by
  unfold walls
  rw [mir_len]
  have e : (List.range (bs.length + 1)).filter (opn (mir bs)) = (List.range (bs.length + 1)).filter (fun k => opn bs (bs.length - k)) := by
    apply List.filter_congr
    intro k hk
    exact opn_mir (by have := List.mem_range.mp hk; omega)
  rw [e, ← List.map_reverse, ← List.filter_reverse, ← range_rev, List.filter_map, List.map_map]
  have e2 : (List.range (bs.length + 1)).filter (opn bs ∘ fun k => bs.length - k) = (List.range (bs.length + 1)).filter (fun k => opn bs (bs.length - k)) := rfl
  rw [e2]
  conv => lhs; rw [← List.map_id ((List.range (bs.length + 1)).filter fun k => opn bs (bs.length - k))]
  apply List.map_congr_left
  intro k hk
  have := List.mem_range.mp (List.mem_filter.mp hk).1
  show k = bs.length - (bs.length - k)
  omega
theorem mir_app (as bs : List Bool) : mir (as ++ bs) = mir bs ++ mir as := by
  unfold mir
  rw [List.reverse_append, List.map_append]
theorem mir_take (l : List Bool) (k : Nat) (h : k ≤ l.length) : mir (l.take k) = (mir l).drop (l.length - k) := by
  have e := mir_app (l.take k) (l.drop k)
  rw [List.take_append_drop] at e
  rw [e, List.drop_append_of_le_length (by rw [mir_len, List.length_drop]; exact Nat.le_refl _), List.drop_of_length_le (by rw [mir_len, List.length_drop]; exact Nat.le_refl _), List.nil_append]
theorem mir_drop (l : List Bool) (k : Nat) (h : k ≤ l.length) : mir (l.drop k) = (mir l).take (l.length - k) := by
  have e := mir_app (l.take k) (l.drop k)
  rw [List.take_append_drop] at e
  rw [e, List.take_append_of_le_length (by rw [mir_len, List.length_drop]; exact Nat.le_refl _), List.take_of_length_le (by rw [mir_len, List.length_drop]; exact Nat.le_refl _)]
theorem bhd_mir {bs : List Bool} {k : Nat} (h : k ≤ bs.length) : mir (bhd bs k) = bhd (mir bs) (bs.length - k) := by
  have hl := ends_len bs
  unfold bhd
  rw [mir_app, mir_app, mir_app, mir_drop _ _ (by omega), mir_take _ _ (by omega), ends_mir, hl]
  have e1 : bs.length + 2 - (k + 2) = bs.length - k := by omega
  have e2 : bs.length + 2 - k = bs.length - k + 2 := by omega
  rw [e1, e2]
  show (mir (ends bs)).take (bs.length - k) ++ ([false] ++ ([true] ++ (mir (ends bs)).drop (bs.length - k + 2))) = _
  rw [List.append_assoc, List.append_assoc]
theorem chg_mir {bs : List Bool} {k : Nat} (h : k ≤ bs.length) : mir (chg bs k) = chg (mir bs) (bs.length - k) := by
  have hb := bhd_len h
  have hb2 : (bhd (mir bs) (bs.length - k)).length = bs.length + 2 := by
    rw [← bhd_mir h, mir_len, hb]
  unfold chg
  rw [mir_take _ _ (by rw [List.length_drop]; omega), mir_drop _ _ (by omega), List.length_drop, hb, hb2, bhd_mir h]
  have e1 : bs.length + 2 - 1 - (bs.length + 2 - 2) = 1 := by omega
  have e2 : bs.length + 2 - 1 = bs.length + 1 := by omega
  rw [e1, e2, List.drop_take]
  rfl
theorem num_snoc (bs : List Bool) (b : Bool) : num (bs ++ [b]) = num bs * 2 + (if b then 1 else 0) := by
  unfold num
  rw [List.foldl_append]
  rfl
theorem num_not (n : Nat) : ∀ bs : List Bool, bs.length = n → num bs + num (bs.map (!·)) = 2 ^ bs.length - 1 := by
  induction n with
  | zero =>
    intro bs h
    have : bs = [] := List.length_eq_zero_iff.mp h
    subst this
    rfl
  | succ n ih =>
    intro bs h
    have hne : bs ≠ [] := by
      intro e
      rw [e] at h
      cases h
    obtain ⟨as, b, rfl⟩ : ∃ as b, bs = as ++ [b] := ⟨bs.dropLast, bs.getLast hne, (List.dropLast_concat_getLast hne).symm⟩
    have hl : as.length = n := by
      rw [List.length_append] at h
      simpa using h
    have := ih as hl
    rw [List.map_append, List.map_cons, List.map_nil, num_snoc, num_snoc, List.length_append]
    show num as * 2 + _ + (num (as.map (!·)) * 2 + _) = 2 ^ (as.length + 1) - 1
    rw [Int.pow_succ]
    cases b with
    | true =>
      show num as * 2 + 1 + (num (as.map (!·)) * 2 + 0) = 2 ^ as.length * 2 - 1
      omega
    | false =>
      show num as * 2 + 0 + (num (as.map (!·)) * 2 + 1) = 2 ^ as.length * 2 - 1
      omega
theorem num_mir (bs : List Bool) : num bs + num (mir bs).reverse = 2 ^ bs.length - 1 := by
  have e : (mir bs).reverse = bs.map (!·) := by
    unfold mir
    rw [← List.map_reverse, List.reverse_reverse]
  rw [e]
  exact num_not _ bs rfl
theorem walls_ne (bs : List Bool) : walls bs ≠ [] := by
  -- the first place of a free one, or the last wall
  have key : ∃ k, k ≤ bs.length ∧ opn bs k = true := by
    have h : ∀ (l : List Bool), l ≠ [] → l.head? = some true → l.getLast? = some false → ∃ k, k + 1 < l.length ∧ l[k]? = some true ∧ l[k + 1]? = some false := by
      intro l
      induction l with
      | nil => intro h; exact absurd rfl h
      | cons a r ih =>
        intro _ h1 h2
        have ea : a = true := Option.some.inj h1
        subst ea
        cases r with
        | nil =>
          have : true = false := Option.some.inj h2
          cases this
        | cons b q =>
          cases b with
          | false => exact ⟨0, by simp, rfl, rfl⟩
          | true =>
            obtain ⟨k, g1, g2, g3⟩ := ih (by simp) rfl (by rw [List.getLast?_cons_cons] at h2; exact h2)
            exact ⟨k + 1, by simpa using g1, by simpa using g2, by simpa using g3⟩
    obtain ⟨k, g1, g2, g3⟩ := h (ends bs) (by unfold ends; simp) rfl (by unfold ends; rw [List.getLast?_cons]; simp)
    have hl := ends_len bs
    refine ⟨k, by omega, ?_⟩
    rw [ends_get bs k (by omega), g2, g3]
    rfl
  obtain ⟨k, h1, h2⟩ := key
  exact List.ne_nil_of_mem (mem_walls.mpr ⟨h1, h2⟩)
end HopR

set_option Elab.async false
set_option linter.all false
set_option maxRecDepth 100000
set_option exponentiation.threshold 200000
namespace Hop
open PySem L2 HopR
open C8 (InsC call_isC)
section
variable {P : Program} {w : World} {K : PySem.W.Frag} {mg : Str → Option Value} {base : Heap} {C d : Addr} {es : Array DictEntry} {n : Nat}
variable {fi f1 f2 r1 r2 p1 p2 p3 : Addr} {gi g1 g2 s1 s2 q1 q2 q3 : FuncData} {d1 : Value}
theorem PC.put {H : Hp} {a l : Addr} {q : Rat} {xs : List V} {o : HO} (hl : H l = some (.lst xs)) (h : PC C H a q) : PC C (upd H l o) a q := by
  obtain ⟨⟨dx, e⟩, h2⟩ := h
  have ne : a ≠ l := fun z => by
    rw [z, hl] at e
    cases e
  exact ⟨⟨dx, by rw [upd_ne ne]; exact e⟩, h2⟩
/-- how many of both outer walls are open -/
def outs (bs : List Bool) : List Nat := [0, bs.length].filter fun k => inV (wv k) ((walls bs).map wv)
theorem inV_iff {ks : List Nat} {k : Nat} : inV (wv k) (ks.map wv) = true ↔ k ∈ ks := by
  constructor
  · intro h
    by_cases hk : k ∈ ks
    · exact hk
    · have := inV_no (ks := ks) (i := (k : Int)) fun j hj e => hk (by
        have : k = j := by omega
        rw [this]
        exact hj)
      have h2 : inV (V.int (k : Int)) (ks.map wv) = true := h
      rw [this] at h2
      exact nomatch h2
  · exact inV_in
theorem outs_few {bs : List Bool} (h1 : 1 ≤ bs.length) : (outs bs).length ≤ (walls bs).length ∧ (outs bs).length ≤ 2 := by
  unfold outs
  simp only [List.filter]
  cases ha : inV (wv 0) ((walls bs).map wv) with
  | true =>
    have m0 := inV_iff.mp ha
    cases hb : inV (wv bs.length) ((walls bs).map wv) with
    | true => exact ⟨two_in m0 (inV_iff.mp hb) (by omega), by simp⟩
    | false => exact ⟨one_in m0, by simp⟩
  | false =>
    cases hb : inV (wv bs.length) ((walls bs).map wv) with
    | true => exact ⟨one_in (inV_iff.mp hb), by simp⟩
    | false => exact ⟨Nat.zero_le _, by simp⟩
theorem walls_one (bs : List Bool) : 1 ≤ (walls bs).length := by
  have := walls_ne bs
  cases h : walls bs with
  | nil => exact absurd h this
  | cons a r => simp
/-! ### sums of fractions -/
def sumR : List Rat → Rat
  | [] => 0
  | a :: l => a + sumR l
theorem sumR_app (xs ys : List Rat) : sumR (xs ++ ys) = sumR xs + sumR ys := by
  induction xs with
  | nil => simp [sumR]; grind
  | cons a l ih =>
    show a + sumR (l ++ ys) = (a + sumR l) + sumR ys
    rw [ih]
    grind
theorem sumR_take {ys : List Rat} {i : Nat} {y : Rat} (h : ys[i]? = some y) : sumR (ys.take (i + 1)) = sumR (ys.take i) + y := by
  rw [List.take_add_one, h, sumR_app]
  show sumR (ys.take i) + (y + 0) = _
  grind
theorem sumR_ones {l : List Nat} {f : Nat → Rat} (h : ∀ k ∈ l, f k = 1) : sumR (l.map f) = ((l.length : Int) : Rat) := by
  induction l with
  | nil => rfl
  | cons a l ih =>
    show f a + sumR (l.map f) = (((l.length + 1 : Nat) : Int) : Rat)
    rw [h a (List.mem_cons_self ..), ih fun k hk => h k (List.mem_cons_of_mem _ hk)]
    have e : (((l.length + 1 : Nat) : Int) : Rat) = ((l.length : Int) : Rat) + 1 := by push_cast; rfl
    rw [e]
    grind
theorem tot_split {n : Nat} (hn : 1 ≤ n) (p : Nat → Bool) (f : Nat → Rat) (h1 : ∀ k, 0 < k → k < n → f k = 1) :
    ([0, n].filter p).length ≤ ((List.range (n + 1)).filter p).length ∧ sumR (((List.range (n + 1)).filter p).map f) = ((((List.range (n + 1)).filter p).length - ([0, n].filter p).length : Nat) : Int) + sumR (([0, n].filter p).map f) := by
  obtain ⟨m, rfl⟩ : ∃ m, n = m + 1 := ⟨n - 1, by omega⟩
  have e : List.range (m + 1 + 1) = [0] ++ (List.range m).map Nat.succ ++ [m + 1] := by
    rw [List.range_succ, List.range_succ_eq_map]
    rfl
  have ones : ∀ k ∈ ((List.range m).map Nat.succ).filter p, f k = 1 := fun k hk => by
    obtain ⟨j, hj, rfl⟩ := List.mem_map.mp (List.mem_filter.mp hk).1
    have := List.mem_range.mp hj
    exact h1 _ (Nat.succ_pos _) (Nat.succ_lt_succ this)
  have hs := sumR_ones ones
  rw [e, List.filter_append, List.filter_append]
  generalize ((List.range m).map Nat.succ).filter p = L at hs
  have e2 : [0, m + 1].filter p = [0].filter p ++ [m + 1].filter p := List.filter_append (l₁ := [0]) (l₂ := [m + 1]) ..
  rw [e2]
  generalize [0].filter p = A
  generalize [m + 1].filter p = B
  refine ⟨by simp only [List.length_append]; omega, ?_⟩
  have e3 : (A ++ L ++ B).length - (A ++ B).length = L.length := by
    simp only [List.length_append]
    omega
  rw [e3, List.map_append, List.map_append, List.map_append, sumR_app, sumR_app, sumR_app, hs]
  grind
/-- the sum of the paces of all open walls -/
def tot (bs : List Bool) (q r : Rat) : Rat := sumR ((walls bs).map (paceAt bs q r))
theorem outs_opn (bs : List Bool) : outs bs = [0, bs.length].filter (opn bs) := by
  unfold outs
  refine List.filter_congr fun k hk => ?_
  have hk : k ≤ bs.length := by
    simp only [List.mem_cons, List.not_mem_nil, or_false] at hk
    omega
  have h : inV (wv k) ((walls bs).map wv) = true ↔ opn bs k = true := inV_iff.trans (mem_walls.trans ⟨fun h => h.2, fun h => ⟨hk, h⟩⟩)
  exact Bool.eq_iff_iff.mpr h
theorem tot_outs {bs : List Bool} {q r : Rat} (h : 1 ≤ bs.length) : tot bs q r = ((((walls bs).length - (outs bs).length : Nat) : Int) : Rat) + sumR ((outs bs).map (paceAt bs q r)) := by
  rw [outs_opn]
  unfold tot walls
  refine (tot_split h (opn bs) (paceAt bs q r) fun k h1 h2 => ?_).2
  unfold paceAt
  rw [if_neg (by omega), if_neg (by omega)]
def Pcs (C : Addr) (H : Hp) (as : List Addr) (ys : List Rat) : Prop := as.length = ys.length ∧ ∀ (j : Nat) a y, as[j]? = some a → ys[j]? = some y → PC C H a y
theorem Pcs.mono {C : Addr} {H H' : Hp} {as : List Addr} {ys : List Rat} (h : Pcs C H as ys) (k : ∀ a y, PC C H a y → PC C H' a y) : Pcs C H' as ys := ⟨h.1, fun j a y e1 e2 => k _ _ (h.2 j a y e1 e2)⟩
theorem Pcs.snoc {C : Addr} {H : Hp} {as : List Addr} {ys : List Rat} {a : Addr} {y : Rat} (h : Pcs C H as ys) (e : PC C H a y) : Pcs C H (as ++ [a]) (ys ++ [y]) := by
  refine ⟨by simp [h.1], fun j b z e1 e2 => ?_⟩
  by_cases hj : j < as.length
  · rw [List.getElem?_append_left hj] at e1
    rw [List.getElem?_append_left (by rw [← h.1]; exact hj)] at e2
    exact h.2 j b z e1 e2
  · rw [List.getElem?_append_right (by omega)] at e1
    rw [List.getElem?_append_right (by rw [← h.1]; omega), ← h.1] at e2
    cases hk : j - as.length with
    | zero =>
      rw [hk] at e1 e2
      cases e1
      cases e2
      exact e
    | succ x =>
      rw [hk] at e1
      simp at e1
def spPaceAll (C : Addr) : Sp := fun vs H Q _ => ∃ (bs : List Bool) (a b : Addr) (q r : Rat), vs = [.str (tx bs), .ref a, .ref b] ∧ Row bs ∧ PC C H a q ∧ PC C H b r ∧ ∀ H' p, Same H H' → PA C H' p (tot bs q r) → Q (.ref p) H'
abbrev nAll : List Str := ["row", "inn", "out", "walls", "outer", "result", "pace", "wall"]
theorem scPaceAll : FnScope nAll ["row", "inn", "out"] (defScope sPaceAll) := ⟨rfl, rfl, rfl, by decide +kernel, rfl, by decide +kernel, by decide +kernel⟩
theorem no_plus (q : Rat) : (pf q).lookup ("plus" : Str) = none := pf_no q (by decide +kernel) (by decide +kernel)
theorem ok_paceAll {f r3 r4 fp : Addr} {fd s3 s4 gp : FuncData} {k : Nat} (F : Fun K "pace_of_all" "pace_of_all" sPaceAll f fd) (N : PcDefs K mg C fi f1 f2 r1 r2 p1 p2 p3 gi g1 g2 s1 s2 q1 q2 q3 d1) (R3 : Fn K mg "with_ends" sWithEnds ["row"] r3 s3) (R4 : Fn K mg "walls_of" sWallsOf ["row"] r4 s4)
    (Fp : Fun K "plus" "Part.plus" sPlus fp gp) (bp : Binds K gp ["self", "other"] []) (mp : Meth K C "plus" fp) (T : TxtP K mg C) (TR : TxtR K w mg d es n) : FnOk P w K mg base CX0 (k + 7) f fd ["row", "inn", "out"] (spPaceAll C) := by
  have GI : FnOk P w K mg base CX0 (k + 5) fi gi ["self", "top", "bottom"] (spInit C) := ok_init N.M.F N.M.N1 N.M.N2 T
  have Gw : FnOk P w K mg base CX0 (k + 6) r4 s4 ["row"] spWalls := ok_walls R4.F N.R1 N.R2 R3 TR
  have Gp : FnOk P w K mg base CX0 (k + 6) p3 q3 ["row", "wall", "inn", "out"] (spPaceOf C) := ok_paceOf N T TR
  have Ga : FnOk P w K mg base CX0 (k + 6) fp gp ["self", "other"] (spOp C (fun _ _ => True) (fun q r => q + r)) := ok_plus Fp N.M T
  refine F.ok scPaceAll (fun vs H Q E h => ?_) (fun cdv A outer s H vs Q E hr h => ?_)
  · obtain ⟨bs, a, b, q, r, rfl, _⟩ := h
    rfl
  · obtain ⟨bs, a, b, q, r, rfl, hR, pa, pb, h⟩ := h
    have nd := scPaceAll.nd
    refine ⟨_, pss_cons (ps_set (i := 3) nd rfl (.inr rfl) (pe_call Gw hr (by rfl) R4.g R4.F.kp R4.b .nil pass0 (pa_cons (pv 0) pa_nil)))
      (pss_cons (ps_setLc (i := 4) (own := [("wall", 7)]) (g := gName 7) (by rfl) nd rfl rfl (sw_true rfl rfl rfl (by decide +kernel)) (pi_tup (pe_tup (pa_cons pe_int (pa_cons (pe_callB call_len_str (by rfl) T.len PySem.boot_len (pa_cons (pv 0) pa_nil)) pa_nil))))
          (blkOk_by (own := [("wall", 7)]) (N := nAll) (sc := defScope sPaceAll) (by decide +kernel))
          (fun _ _ _ _ _ => pg_name (i := 7) nd rfl (Or.inl rfl))
          (fun _ _ _ _ _ => pts_one (pt_cmpR (show OpR _ (compareOp .In) (rIn K false) from op_in_seq) (pv 7) (pv 3) (by rfl)))
          (fun _ _ _ _ _ => pe_call Gp hr (by rfl) N.g3 N.F3.kp N.b3 .nil pass0 (pa_cons (pv 0) (pa_cons (pv 7) (pa_cons (pv 1) (pa_cons (pv 2) pa_nil))))))
      (pss_cons (ps_set (i := 5) nd rfl (.inl rfl) (pe_make N.M.M GI hr (by rfl) T.mgC N.M.b2 (.cons N.M.r1 .nil) pass0 (pa_cons (pe_op op_sub (pe_callB call_len_seq (by rfl) T.len PySem.boot_len (pa_cons (pv 3) pa_nil)) (pe_callB call_len_seq (by rfl) T.len PySem.boot_len (pa_cons (pv 4) pa_nil))) pa_nil)))
      (pss_cons (ps_for PassesOwn.never rfl (pi_list (pv 4)) (pg_name (i := 6) nd rfl (.inl rfl))
        (pss_one (ps_set (i := 5) nd rfl (.inl rfl) (pe_meth (pv 5) T.ins.cl mp Ga hr bp .nil pass0 (pa_cons (pv 6) pa_nil)))))
      (pss_one (ps_ret (pv 5)))))), ?_⟩
    have hz := row_size hR
    refine ⟨.str (tx bs), rfl, bs, rfl, hR, fun H1 pw sw nw ew => ?_⟩
    refine ⟨.str (tx bs), rfl, tx bs, rfl, hz, (by show 2 ≤ sizeLine; decide), fun t nt => ⟨t, rfl, ⟨_, SqT.of upd_same⟩, fun D hD => ?_⟩⟩
    have s2 := same_new (o := .tup [.int 0, .int ((tx bs).length : Int)]) (sw.free nt) sw
    have et : upd H1 t (.tup [.int 0, .int ((tx bs).length : Int)]) t = some (.tup [.int 0, .int ((tx bs).length : Int)]) := upd_same
    have ew2 : upd H1 t (.tup [.int 0, .int ((tx bs).length : Int)]) pw = some (.lst ((walls bs).map wv)) := same_upd nt _ _ ew
    generalize hH2 : upd H1 t (.tup [.int 0, .int ((tx bs).length : Int)]) = H2 at s2 et ew2 hD
    have eit : [V.int 0, V.int ((tx bs).length : Int)] = [0, bs.length].map wv := by rw [tx_len]; rfl
    rw [eit] at et
    refine lc_tup (K := K) (a := t) (xs := [0, bs.length].map wv) (fun i H3 => Same H2 H3 ∧ ∃ as : List Addr, H3 D = some (.lst (as.map V.ref)) ∧ Pcs C H3 as ((([0, bs.length].take i).filter fun k => inV (wv k) ((walls bs).map wv)).map (paceAt bs q r)))
      ⟨same_upd hD, [], upd_same, rfl, fun j a y e => by simp at e⟩ (fun i H3 _ h => SqT.of (h.1 _ _ et)) ?_ ?_
    · rintro i x H3 hx ⟨sm, as, eD, has⟩
      rw [List.getElem?_map] at hx
      obtain ⟨j, hj, rfl⟩ := Option.map_eq_some_iff.mp hx
      have htake : [0, bs.length].take (i + 1) = [0, bs.length].take i ++ [j] := by rw [List.take_add_one, hj]; rfl
      have hlen2 : as.length ≤ 2 := by
        rw [has.1, List.length_map]
        exact Nat.le_trans (List.length_filter_le _ _) (Nat.le_trans (List.length_take_le' _ _) (by simp))
      refine ⟨rfl, wv j, rfl, .ref pw, rfl, pw, _, rfl, .inl (SqL.of (sm _ _ ew2)), rfl, flat_ks _, _, rfl, ?_⟩
      show if inV (wv j) ((walls bs).map wv) = true then _ else _
      cases hin : inV (wv j) ((walls bs).map wv) with
      | true =>
        refine iteT ⟨.str (tx bs), rfl, wv j, rfl, .ref a, rfl, .ref b, rfl, bs, j, a, b, q, r, rfl, hR, pa.same (s2.trans sm), pb.same (s2.trans sm), fun H4 p4 s4 pc => ?_⟩
        have eD4 := s4 _ _ eD
        refine ⟨_, eD4, fit' (by rw [List.length_map]; omega), same_new hD (sm.trans s4), as ++ [p4], ?_, ?_⟩
        · rw [upd_same, List.map_append]
          rfl
        · have := (has.mono (H' := upd H4 D (.lst (as.map V.ref ++ [.ref p4]))) fun a y p => (p.same s4).put eD4).snoc (pc.put eD4)
          rw [htake, List.filter_append, List.map_append]
          have e1 : ([j].filter fun k => inV (wv k) ((walls bs).map wv)) = [j] := by simp [hin]
          rw [e1]
          exact this
      | false =>
        refine iteF ⟨sm, as, eD, ?_⟩
        rw [htake, List.filter_append]
        have e1 : ([j].filter fun k => inV (wv k) ((walls bs).map wv)) = [] := by simp [hin]
        rw [e1, List.append_nil]
        exact has
    rintro H3 ⟨sm, as, eD, has⟩
    have has : Pcs C H3 as ((outs bs).map (paceAt bs q r)) := has
    have hal : as.length = (outs bs).length := by rw [has.1, List.length_map]
    obtain ⟨hle, h2⟩ := outs_few hR.1
    have hw1 := walls_one bs
    have hwf := walls_len bs
    have h30 := hR.2
    have s3 := s2.trans sm
    refine ⟨.ref pw, rfl, pw, _, rfl, .inl (SqL.of (sm _ _ ew2)), .ref D, rfl, D, _, rfl, .inl (SqL.of eD), _, _, rfl, rfl, ?_⟩
    have en : (((walls bs).map wv).length : Int) - ((as.map V.ref).length : Int) = (((walls bs).length - as.length : Nat) : Int) := by
      rw [List.length_map, List.length_map]
      omega
    generalize hm : (walls bs).length - as.length = m at en
    intro p dx np hdx ne
    refine ⟨p, dx, _, 1, rfl, by decide, Nat.one_lt_two_pow (by decide), upd_same, rfl, ?_⟩
    rw [upd_upd, en]
    obtain ⟨s4, pa4⟩ := mk_facts (C := C) (q := Rat.divInt (m : Int) 1) np hdx
    generalize upd (upd H3 dx (.own p)) p (.ins C dx (pf (Rat.divInt (m : Int) 1))) = H4 at s4 pa4
    rw [rat_int] at pa4
    have eD4 := s4 _ _ eD
    refine ⟨.ref D, rfl, D, rfl, ⟨_, SqL.of eD4⟩, ?_⟩
    refine for_list (K := K) (a := D) (xs := as.map V.ref) (fun i σ H5 => ∃ p5 y y6, σ = [some (.str (tx bs)), some (.ref a), some (.ref b), some (.ref pw), some (.ref D), some (.ref p5), y6, none] ∧ Same H4 H5 ∧ PA C H5 p5 y ∧ Sz (10 + 46 * i) y ∧ y = ((m : Int) : Rat) + sumR (((outs bs).map (paceAt bs q r)).take i) ∧ i ≤ as.length)
      ⟨p, _, _, rfl, Same.refl _, pa4, sz_int (k := 10) (by omega) (by decide), (by show ((m : Int) : Rat) = ((m : Int) : Rat) + 0; grind), Nat.zero_le _⟩ (fun i σ H5 _ ⟨_, _, _, _, h, _⟩ => SqL.of (h _ _ eD4)) ?_ ?_
    · rintro i x σ H5 hx ⟨p5, y, y6, rfl, s5, pa5, z5, hy, hi⟩
      rw [List.getElem?_map] at hx
      obtain ⟨a6, ha6, rfl⟩ := Option.map_eq_some_iff.mp hx
      have hil : i < as.length := (List.getElem?_eq_some_iff.mp ha6).1
      obtain ⟨x6, hx6⟩ : ∃ x6, ((outs bs).map (paceAt bs q r))[i]? = some x6 := ⟨_, List.getElem?_eq_getElem (by rw [← has.1]; exact hil)⟩
      have pc6 := has.2 i a6 x6 ha6 hx6
      have pc6 := pc6.same (s4.trans s5)
      have pa5' := pa5
      obtain ⟨dx5, e5⟩ := pa5
      refine ⟨.ref p5, rfl, p5, dx5, _, rfl, e5, no_plus y, .ref a6, rfl, p5, a6, y, x6, rfl, pa5', pc6.1, z5.mono (by omega), pc6.2.2.mono (by decide), trivial, fun H6 p6 s6 n6 pa6 => ?_⟩
      refine ⟨p6, _, _, rfl, s5.trans s6, pa6, (sz_add z5 pc6.2.2).mono (by omega), (by rw [sumR_take hx6, hy]; grind), hil⟩
    · rintro σ H5 ⟨p5, y, y6, rfl, s5, pa5, z5, hy, hi⟩
      rw [List.length_map, hal, List.take_of_length_le (by rw [List.length_map]; exact Nat.le_refl _), ← hm, hal, ← tot_outs hR.1] at hy
      rw [hy] at pa5
      exact ⟨.ref p5, rfl, h H5 p5 ((s3.trans s4).trans s5) pa5⟩
end
end Hop

set_option Elab.async false
set_option linter.all false
set_option maxRecDepth 100000
set_option maxHeartbeats 4000000
namespace HopR
open PySem PySem.Spec PyProof.Rows L2
/-! ### a refusal over IndexError that keeps what was handed in: class N(IndexError), its __init__ says IndexError.__init__(self, text), then self.f = x -/
abbrev bmI : List Value := [.type "IndexError", .type "LookupError", .type "Exception", .type "BaseException", .type "object"]
/-- what is written of the class at C, whose __init__ is at fI, its field f -/
structure Kept (K : PySem.W.Frag) (C fI : Addr) (f : Str) : Prop where
  new : PySem.W.excInitIn K C bmI "IndexError.__new__" = true
  over : PySem.W.excOver K C bmI = true
  ini : PySem.W.findIn K (.ref C) "__init__" = some (some (.ref fI))
  fn : PySem.W.typeIn K (.ref fI) = some (.type "function")
  sa : PySem.W.findIn K (.ref C) "__setattr__" = some (some (.builtin "object.__setattr__"))
  taker : PySem.W.takerIn K C f = some none
  none_ : PySem.W.findIn K (.ref C) f = some none
  keep : PySem.W.keepIn K (.ref C) = true
  ty : PySem.W.typeIn K (.ref C) = some (.type "type")
  xf : XfC K C
theorem type_ie : typeOf (.type "IndexError") = pure (.type "type") := by kernel_rfl
/-- a dict laid for an exception, then named in it, then filled -/
theorem laid_dict {H : Hp} {a d : Addr} {o1 o2 o3 : HO} (n : d ≠ a) : upd (upd (upd H d o1) a o2) d o3 = upd (upd H d o3) a o2 := by
  funext b
  by_cases h1 : b = d
  · subst h1
    rw [upd_same, upd_ne n, upd_same]
  · rw [upd_ne h1]
    by_cases h2 : b = a
    · subst h2
      rw [upd_same, upd_same]
    · rw [upd_ne h2, upd_ne h2, upd_ne h1, upd_ne h1]
theorem gone_dict {H : Hp} {a d : Addr} {o1 o2 o3 o4 : HO} (n : d ≠ a) (na : H a = none) : upd (del (upd (upd (upd H a o1) d o2) a o3) a) d o4 = upd H d o4 := by
  funext b
  by_cases h1 : b = d
  · subst h1
    rw [upd_same, upd_same]
  · rw [upd_ne h1, upd_ne h1]
    by_cases h2 : b = a
    · subst h2
      rw [del_same, na]
    · rw [del_ne h2, upd_ne h2, upd_ne h1, upd_ne h2]
section
variable {X : Cx} {C fI a : Addr} {f : Str}
/-- self.f = y, on an exception without a dict -/
theorem keep_it {pins : List (Addr × Obj)} {σ : L2.St} {H : Hp} {s : Shared} {A : Around} {y : V} {u : Value} {Q : Unit → Shared → Prop} {E : Value → Shared → Prop} (T : Kept X.K C fI f) (I : Inv X pins σ H s) (ha : H a = some (exo a C none)) (r : RelV y u)
    (k : ∀ d s', H d = none → d ≠ a → Inv X pins σ (upd (upd H d (exd d [(f, y)])) a (exo a C (some d))) s' → Q () s') : wpAny (model X.prog X.w) A (setAttr (.ref a) f u) Q E s := by
  obtain ⟨t0, at0⟩ := exo_at I.hok ha
  obtain ⟨cd, c1, c2⟩ := PySem.W.any_some T.xf.hdC
  obtain ⟨hp, g, dr, tk, os⟩ := s
  have lt : a < hp.objs.size := Heap.lt_size at0
  have ne : hp.objs.size ≠ a := Nat.ne_of_gt lt
  refine PySem.W.set_plain (od := none) I.kIn ⟨at0, rfl, rfl, trivial⟩ T.sa ?_
  refine PySem.W.osa_openX (od := none) PySem.F.store_IndexError I.kIn ⟨at0, rfl, rfl, trivial⟩ T.over T.taker fun _ => ?_
  refine wpAny_bind (wpAny_pure (wpAny_bind (PySem.W.instanceDict_exc at0 (PySem.W.looks_clsIn I.kIn c1) c2 ?_)))
  refine HandSPX.store_in_new ?_ ?_
  · exact ⟨_, #[], _, (Heap.get?_update_other _ _ ne.symm).trans (Heap.get?_push_size _ rfl), rfl, fun e he => absurd he (by simp), fun _ => rfl⟩
  · intro h' tk' ns sb
    have I1 : Inv X pins σ (upd H hp.objs.size (exd hp.objs.size [])) ⟨hp.push (PySem.W.dictOf [] 0), g, dr, tk, os⟩ :=
      I.laid (a := hp.objs.size) (o := exd hp.objs.size []) (t' := tk) (fun b o q => Heap.get?_push_of_some _ q) (Nat.le_refl _) (exd_ok (mA := fun _ => none) (Heap.Ns1.of_empty ⟨_, #[], _, Heap.get?_push_size _ rfl, rfl, fun e he => absurd he (by simp), fun _ => rfl⟩) fun _ => True.intro)
    have a1 : (hp.push (PySem.W.dictOf [] 0)).get? a = some _ := Heap.get?_push_of_some _ at0
    have a2 := Heap.get?_update_self (fun o : Obj => { o with dict := some hp.objs.size }) a1 rfl
    have I2 := I1.write (x := a) (e := a) (o := exo a C (some hp.objs.size)) (t' := tk) (h' := (hp.push (PySem.W.dictOf [] 0)).update a fun o => { o with dict := some hp.objs.size }) (by rw [upd_ne ne.symm, ha]; exact True.intro) (.inl rfl)
      (fun b o hb q => (Heap.get?_update_other _ _ (Ne.symm hb)).trans q) ⟨_, a2⟩ (exo_ok a2)
    have d3 : ∃ o, h'.get? hp.objs.size = some o := by
      obtain ⟨o, _, _, q, _⟩ := ns
      exact ⟨o, q⟩
    have I3 := I2.write (x := hp.objs.size) (e := hp.objs.size) (o := exd hp.objs.size [(f, y)]) (t' := tk') (h' := h') (by rw [upd_ne ne, upd_same]; exact True.intro) (.inl rfl)
      (fun b o hb q => (sb.2 b hb).trans q) d3 (exd_ok ns (relO_put (fs := []) r fun g => True.intro))
    rw [laid_dict ne] at I3
    exact k _ _ (I.hok.fresh (Nat.le_refl _)) ne I3
/-- IndexError.__init__(self, ..): nothing of it is told -/
theorem init_ie {pins : List (Addr × Obj)} {σ : L2.St} {H : Hp} {s : Shared} {A : Around} {us : List Value} {Q : Value → Shared → Prop} {E : Value → Shared → Prop} (T : Kept X.K C fI f) (I : Inv X pins σ H s) (ha : H a = some (exo a C none)) (hl : us.length ≤ sizeLine)
    (k : ∀ s', Inv X pins σ H s' → Q .none s') : wpAny (model X.prog X.w) A (call (.builtin "IndexError.__init__") (.ref a :: us)) Q E s := by
  obtain ⟨nm, N, qn, bs, bm, hdct, sn, sub, ab, col, dd, k0, k1, k2, k3, k5, at1, cont⟩ := PySem.W.excInit_of I.kIn T.new
  obtain ⟨t0, at0⟩ := exo_at I.hok ha
  obtain ⟨hp, g, dr, tk, os⟩ := s
  refine wpAny_call (HandSPX.init_base PySem.F.excBase_IndexError cont at1 at0 hl ?_)
  intro h' t1 kp at2
  have same : upd H a (exo a C none) = H := by
    funext b
    by_cases hb : b = a
    · rw [hb, upd_same, ha]
    · rw [upd_ne hb]
  have J := I.write (x := a) (e := a) (o := exo a C none) (t' := tk) (h' := h') (by rw [ha]; exact True.intro) (.inl rfl) kp ⟨_, at2⟩ (exo_ok at2)
  rw [same] at J
  exact k _ J
variable {e o : Expr} {es : List Expr} {te to : TE} {ta : TA} {p p1 p2 p' pos : Pos}
/-- what is asked of IndexError.__init__(self, ..) -/
def tIeI (K : PySem.W.Frag) (f : Str) (ta : TA) : TE := fun σ H Q => ta σ H fun vs H1 => ∃ (a C fI : Addr) (ws : List V), vs = .ref a :: ws ∧ ws.length ≤ 1000 ∧ Kept K C fI f ∧ H1 a = some (exo a C none) ∧ Q .non H1
theorem pe_ieinit {pl : Sem Bool} (f : Str) (hg : Gl X "IndexError") (hm : X.mg "IndexError" = none) (vV : PySem.W.findCls X.K (.type "IndexError") (.type "type") "__init__" = some (.val (.builtin "IndexError.__init__"))) (ha : PA X (e :: es) ta)
    (hc : eval (.Call (.Attribute (.Name "IndexError" p1) "__init__" p2) (e :: es) [] pos) X.env = (do
      let ov ← eval (.Name "IndexError" p1) X.env
      standAt p2.atName
      let (m, first) ← holding [ov] (getMethod ov "__init__" pl)
      callWith pos m first (backTo pos (starEach (e :: es) X.env)) (backToKw pos (keywordEach [] X.env))) := by rfl)
    (he : starEach (e :: es) X.env = (false, eval e X.env) :: starEach es X.env := by rfl) (hpl : (backTo pos (starEach es X.env)).any (·.1) = false := by rfl) :
    PE X (.Call (.Attribute (.Name "IndexError" p1) "__init__" p2) (e :: es) [] pos) (tIeI X.K f ta) := by
  constructor
  intro pins s σ H Q I h
  obtain ⟨m, fr⟩ := I.fr
  refine PySem.W.methodCall_KW (ld_blt I hg hm PyProof.Rows.Boot.«IndexError» (PySem.W.method_type fr I.ok.mod.kin type_ie (by decide +kernel) vV (by decide +kernel) ?_) (by decide) (by decide)) hc
  show wpAny (model X.prog X.w) X.A (callWith pos (Value.builtin "IndexError.__init__") [] (backTo pos (starEach (e :: es) X.env)) []) _ _ _
  refine PyProof.Rows.callWith_method1 (thn (ha.run pos pins _ σ H _ (I.tok _) h) ?_) he hpl
  rintro us s1 ⟨vs, H1, J, r, a, C, fI, ws, rfl, hl, T, at1, q⟩
  cases r with
  | cons ra rr =>
    cases (show _ = Value.ref a from ra)
    refine init_ie T J at1 ?_ fun s' J' => ⟨.non, H1, J', rfl, q⟩
    have := Paired.length rr
    rw [sizeLine_eq]
    omega
/-- self.f = e -/
def tKeep (K : PySem.W.Frag) (f : Str) (to te : TE) : TS := fun D σ H => te σ H fun y H1 => to σ H1 fun x H2 => ∃ a C fI : Addr, x = .ref a ∧ Kept K C fI f ∧ H2 a = some (exo a C none) ∧ ∀ d, H2 d = none → d ≠ a → D.nx σ (upd (upd H2 d (exd d [(f, y)])) a (exo a C (some d)))
theorem ps_keep (ho : PE X o to) (he : PE X e te) (hs : swapsWith e (some (.Attribute o f p')) pos.line X.env = pure false := by rfl) : PS X (.Assign [.Attribute o f p'] e pos) (tKeep X.K f to te) := by
  constructor
  intro pins s σ H D I h
  refine plainObj_wpAny_Assign_Attribute (thn (he.run pins s σ H _ I h) ?_) hs
  rintro v s1 ⟨y, H1, I1, r1, q1⟩
  refine thn (ho.run pins s1 σ H1 _ I1 q1) ?_
  rintro u s2 ⟨x, H2, I2, r2, a, C, fI, rfl, T, ha, q⟩
  cases (show u = Value.ref a from r2)
  exact keep_it T I2 ha r1 fun d s' n ne J => ⟨σ, _, J, q d n ne⟩
/-- what __init__ does -/
def spKeepI (C : Addr) (f : Str) : Sp := fun vs H Q _ => ∃ (a : Addr) (y : V), vs = [.ref a, y] ∧ H a = some (exo a C none) ∧ ∀ d, H d = none → d ≠ a → Q .non (upd (upd H d (exd d [(f, y)])) a (exo a C (some d)))
/-- N(e): the refusal with its field, the dict at d new -/
def tMkK (C : Addr) (f : Str) (ta : TA) : L2.St → Hp → XK → Prop := fun σ H Q => ta σ H fun vs H1 => ∃ y, vs = [y] ∧ ∀ d, H1 d = none → Q (.ref C) (some d) (upd H1 d (.xd [(f, y)]))
theorem pmk_keep {x : Str} {k : Nat} {fd : FuncData} {ps : List Str} (T : Kept X.K C fI f) (F1 : FnOk X.prog X.w X.K X.mg X.base CX0 k fI fd ps (spKeepI C f)) (hr : Room (k + 1) X.A) (hb : Binds X.K fd ps []) (hg : Gl X x) (hm : X.mg x = some (.ref C)) (ha : PA X [e] ta)
    (hdb : (x == ("__debug__" : Str)) = false := by decide) (he : starEach (e :: []) X.env = (false, eval e X.env) :: starEach [] X.env := by rfl) (hpl : (backTo pos (starEach [] X.env)).any (·.1) = false := by rfl) :
    PMk X (.Call (.Name x p) [e] [] pos) (tMkK C f ta) := by
  intro pins s0 σ H0 Q I0 h0
  refine wpAny_Call_Name_kw (ld_glob I0 hg hm ?_ hdb)
  refine PySem.W.callWith_K (h₀ := X.base) I0.ok.mod.kin T.keep (thn (ha.run pos pins s0 σ H0 _ I0 h0) ?_) he hpl
  rintro us s ⟨vs, H, I, r, y, rfl, q⟩
  refine ⟨I.kIn, ?_⟩
  obtain ⟨nm, N, qn, bs, bm, hdct, sn, sub, ab, col, dd, k0, k1, k2, k3, k5, at1, cont⟩ := PySem.W.excInit_of I.kIn T.new
  obtain ⟨hp, g, dr, tk, os⟩ := s
  have na : H (hp.objs.size + 1) = none := I.hok.fresh (Nat.le_succ _)
  have old : ∀ b u, hp.get? b = some u → ((hp.push (PySem.W.kdv_tup us)).push (HandSPX.excO C hp.objs.size)).get? b = some u := fun b u q => Heap.get?_push_of_some _ (Heap.get?_push_of_some _ q)
  have at2 : ((hp.push (PySem.W.kdv_tup us)).push (HandSPX.excO C hp.objs.size)).get? (hp.objs.size + 1) = some (HandSPX.excO C hp.objs.size) := by heap_get
  have J : Inv X pins σ (upd H (hp.objs.size + 1) (exo (hp.objs.size + 1) C none)) ⟨(hp.push (PySem.W.kdv_tup us)).push (HandSPX.excO C hp.objs.size), g, dr, tk, os⟩ := I.laid (t' := tk) old (Nat.le_succ _) (exo_ok at2)
  have rr : Vals [V.ref (hp.objs.size + 1), y] (Value.ref (hp.objs.size + 1) :: us) := .cons rfl r
  have sp : spKeepI C f [V.ref (hp.objs.size + 1), y] (upd H (hp.objs.size + 1) (exo (hp.objs.size + 1) C none)) (fun v H2 => v = .non ∧ ∃ d, H d = none ∧ d ≠ hp.objs.size + 1 ∧ H2 = upd (upd (upd H (hp.objs.size + 1) (exo (hp.objs.size + 1) C none)) d (exd d [(f, y)])) (hp.objs.size + 1) (exo (hp.objs.size + 1) C (some d))) (fun _ _ _ => False) :=
    ⟨_, y, rfl, upd_same, fun d nd ne => ⟨rfl, d, by rw [upd_ne ne] at nd; exact nd, ne, rfl⟩⟩
  have hl : (Value.ref (hp.objs.size + 1) :: us).length = ps.length := rr.length.symm.trans (F1.len _ _ _ _ sp)
  have bi := hb _ (Value.ref (hp.objs.size + 1) :: us) J.kIn (by rw [List.append_nil]; exact hl)
  rw [List.append_nil] at bi
  have lu : us.length ≤ sizeLine := by
    rw [← Paired.length r]
    show 1 ≤ sizeLine
    decide
  refine wpAny_call (HandSPX.call_own PySem.F.excBase_IndexError cont at1 (PySem.W.looks_findIn I.kIn T.ini) (fun self => PySem.W.bind_fn I.kIn self T.fn) lu
    (codeAny_mono (F1.run _ X.stack _ _ ⟨Value.ref (hp.objs.size + 1) :: us, []⟩ _ _ _ _ (hr.make C us []) (J.env0.make C us []) bi rr sp) ?_))
  intro res s' z
  match res, z with
  | .error er, z =>
    have no : Passes CX0 X (fun _ _ _ => False) := fun _ _ _ _ _ _ _ h => h.elim
    exact no pins σ _ _ er s' J z
  | .ok (.ret u), z =>
    obtain ⟨v, H2, os2, bare2, un2, hok2, rv, rfl, d, nd, ne, rfl⟩ := z
    obtain ⟨hz, gz, dz, tz, oz⟩ := s'
    refine ⟨rv, mk_end (d := d) (fs := [(f, y)]) (raises_own T.xf.exC T.ty) I (Nat.le_succ _) old un2 hok2 os2 bare2 upd_same (by rw [upd_ne ne, upd_same]) nd ?_⟩
    rw [gone_dict ne na]
    exact q d nd
  | .ok .next, z => exact z.elim
  | .ok .brk, z => exact z.elim
  | .ok .cont, z => exact z.elim
end
end HopR

set_option Elab.async false
set_option linter.all false
set_option maxRecDepth 100000
set_option maxHeartbeats 4000000
namespace HopR
open PySem PySem.Spec PyProof.Rows L2
/-! ### a kept refusal that has a field -/
section
variable {X : Cx}
/-- what H says of a kept exception of the class at D with the fields fs -/
def Fld (H : Hp) (a D : Addr) (fs : List (Str × V)) : Prop := ∃ d, H a = some (ExH (.ref D) (some d) a) ∧ H d = some (.xd fs)
theorem fld_at {pins : List (Addr × Obj)} {σ : L2.St} {H : Hp} {s : Shared} {a D : Addr} {fs : List (Str × V)} (I : Inv X pins σ H s) (hf : Fld H a D fs) : ∃ oe od, PySem.W.InstAt s.heap a oe D (some od) ∧ ∀ n v, fs.lookup n = some v → ∃ u, PySem.W.lookIn n od = some (some u) ∧ RelV v u := by
  obtain ⟨d, h1, h2⟩ := hf
  obtain ⟨⟨oe, vs, e, ⟨z1, z2⟩, q⟩, _, _⟩ := I.hok a _ h1
  have ok : ObjOk X.prog X.w H s.heap d (.xd fs) := I.hok d _ h2
  obtain ⟨mA, ns, rel⟩ := ok
  obtain ⟨od, at2, look⟩ := lookIn_ns ns
  refine ⟨oe, od, ⟨e, z1, ?_, by rw [z2]; exact at2⟩, fun n v l => ?_⟩
  · unfold PySem.W.notCls
    rw [q]
  · have r := rel n
    rw [l] at r
    obtain ⟨u, hu, ru⟩ := RelO.some_of r
    exact ⟨u, by rw [look, hu], ru⟩
theorem kit_fld {K : PySem.W.Frag} {a D : Addr} {oe : Obj} {od : Option Obj} (C : ExcC K D) : PySem.W.KitX K (.ref a) (.ref D) (fun h => PySem.W.InstAt h a oe D od) :=
  PySem.W.kitx_exc (by obtain ⟨cd, hc, _⟩ := PySem.W.any_some C.hd; rw [hc]; rfl) C.hg C.hk C.hs C.ha C.hn C.ht C.hm
/-- isinstance(kept, c) -/
def rIsF (K : PySem.W.Frag) : List V → Hp → VK → Prop := fun xs H Q => ∃ (a D : Addr) (fs : List (Str × V)) (c : V) (cv : Value) (b : Bool), xs = [.ref a, c] ∧ Fld H a D fs ∧ ExcC K D ∧ ClsV c cv ∧ PySem.W.kitOne K (.ref D) cv = some b ∧ Q (.bl b) H
theorem call_isF : CallR X (.builtin "isinstance") (rIsF X.K) := by
  rintro pins s σ H xs us Q I r ⟨a, D, fs, c, cv, b, rfl, hf, C, kc, e, q⟩
  obtain ⟨u1, u2, rfl, r1, r2⟩ := vals2 r
  obtain rfl := kc.eq r2
  cases (show u1 = Value.ref a from r1)
  obtain ⟨oe, od, J, _⟩ := fld_at I hf
  exact PySem.W.kia_one (kit_fld C) I.kIn J e (fun z => nomatch z) fun tk => ⟨.bl b, H, I.tok tk, rfl, q⟩
/-- isinstance(kept, (c1, c2, ..)) -/
def rIsFT (K : PySem.W.Frag) : List V → Hp → VK → Prop := fun xs H Q => ∃ (a D tp : Addr) (fs : List (Str × V)) (cs : List V) (ws : List Value) (b : Bool), xs = [.ref a, .ref tp] ∧ Fld H a D fs ∧ ExcC K D ∧ H tp = some (.tup cs) ∧ Paired ClsV cs ws ∧ PySem.W.kitAny K (.ref D) ws = some b ∧ Q (.bl b) H
theorem call_isFT : CallR X (.builtin "isinstance") (rIsFT X.K) := by
  rintro pins s σ H xs us Q I r ⟨a, D, tp, fs, cs, ws, b, rfl, hf, C, ht, kc, e, q⟩
  obtain ⟨u1, u2, rfl, r1, r2⟩ := vals2 r
  cases (show u1 = Value.ref a from r1)
  cases (show u2 = Value.ref tp from r2)
  obtain ⟨oe, od, J, _⟩ := fld_at I hf
  have hT : ObjOk X.prog X.w H s.heap tp (.tup cs) := I.hok tp _ ht
  obtain ⟨_, its, rv, ⟨oc, odd, dt, osl⟩, g1, g2, n, g3⟩ := hT
  obtain rfl := ClsV.all kc rv
  simp only at g2 g3
  subst g2 g3
  exact PySem.W.kia_tup (kit_fld C) I.kIn J g1 e (fun z => nomatch z) fun tk => ⟨.bl b, H, I.tok tk, rfl, q⟩
/-- kept.n -/
def tFldH (K : PySem.W.Frag) (n : Str) (te : TE) : TE := fun σ H Q => te σ H fun x H1 => ∃ (a D : Addr) (fs : List (Str × V)) (v : V), x = .ref a ∧ Fld H1 a D fs ∧ XfC K D ∧ PySem.W.findIn K (.ref D) n = some none ∧ fs.lookup n = some v ∧ Q v H1
theorem pe_fldH {e : Expr} {te : TE} {pos : Pos} {n : Str} (he : PE X e te) (hb : attributeBase e n X.env (eval e X.env) = eval e X.env := by rfl) : PE X (.Attribute e n pos) (tFldH X.K n te) := by
  constructor
  intro pins s σ H Q I h
  refine attr_of hb (thn (he.run pins s σ H _ I h) ?_)
  rintro u s1 ⟨x, H1, I1, rx, a, D, fs, v, rfl, hf, T, no, l, q⟩
  cases (show u = Value.ref a from rx)
  obtain ⟨oe, od, J, look⟩ := fld_at I1 hf
  obtain ⟨w, e1, e2⟩ := look n v l
  exact HandSPX.exc_get I1.kIn J T.ga T.gg T.exC (PySem.W.findObj_own T.hdC no rfl e1) (handed_of e2) ⟨v, H1, I1.tok _, e2, q⟩
end
end HopR

set_option Elab.async false
set_option linter.all false
set_option maxRecDepth 100000
set_option exponentiation.threshold 200000
namespace Hop
open PySem L2 HopR
open C8 (InsC call_isC)
abbrev sNLInit : Stmt := inClass (top 8) 0
abbrev sWInit : Stmt := inClass (top 34) 0
abbrev sStep : Stmt := inClass (top 34) 1
abbrev sUndo : Stmt := inClass (top 34) 2
abbrev sChance : Stmt := inClass (top 34) 7
abbrev sChances : Stmt := inClass (top 34) 8
/-! ### chances and their sizes -/
def ch (bs : List Bool) (q r : Rat) (k : Nat) : Rat := if k ∈ walls bs then paceAt bs q r k / tot bs q r else 0
theorem sumR_low {ys : List Rat} (h : ∀ y ∈ ys, 0 < y) : 0 ≤ sumR ys := by
  induction ys with
  | nil => exact Rat.le_refl
  | cons a l ih =>
    have h1 := h a (List.mem_cons_self ..)
    have h2 := ih fun y hy => h y (List.mem_cons_of_mem _ hy)
    show 0 ≤ a + sumR l
    grind
theorem tot_pos {bs : List Bool} {q r : Rat} (hq : 0 < q) (hr : 0 < r) : 0 < tot bs q r := by
  unfold tot
  cases h : walls bs with
  | nil => exact absurd h (walls_ne bs)
  | cons a l =>
    have h1 : 0 < paceAt bs q r a := paceAt_ok hq hr
    have h2 : 0 ≤ sumR (l.map (paceAt bs q r)) := sumR_low fun y hy => by
      obtain ⟨k, _, rfl⟩ := List.mem_map.mp hy
      exact paceAt_ok hq hr
    show 0 < paceAt bs q r a + sumR (l.map (paceAt bs q r))
    grind
theorem sz_pace {bs : List Bool} {q r : Rat} {a b k : Nat} (hq : Sz a q) (hr : Sz b r) (hb : b ≤ a) (h1 : 1 ≤ b) : Sz a (paceAt bs q r k) := by
  unfold paceAt
  split
  · exact hq
  · split
    · exact hr.mono hb
    · exact Sz.mono (n := 1) ⟨by decide, by decide⟩ (Nat.le_trans h1 hb)
theorem sz_tot {bs : List Bool} {q r : Rat} {a b : Nat} (hR : Row bs) (hq : Sz a q) (hr : Sz b r) : Sz (a + b + 15) (tot bs q r) := by
  rw [tot_outs hR.1, outs_opn]
  have hl := walls_len bs
  have h30 := hR.2
  have hm : (walls bs).length - ([0, bs.length].filter (opn bs)).length < 2 ^ 6 := by
    show _ < 64
    omega
  have z := sz_int hm (by decide)
  generalize ((((walls bs).length - ([0, bs.length].filter (opn bs)).length : Nat) : Int) : Rat) = m at z
  have p0 : paceAt bs q r 0 = q := by
    unfold paceAt
    rw [if_pos rfl]
  have pn : paceAt bs q r bs.length = r := by
    have := hR.1
    unfold paceAt
    rw [if_neg (by omega), if_pos rfl]
  have e1 : m + 0 = m := by grind
  have e2 : m + (q + 0) = m + q := by grind
  have e3 : m + (r + 0) = m + r := by grind
  have e4 : m + (q + (r + 0)) = (m + q) + r := by grind
  cases h0 : opn bs 0 with
  | true =>
    cases hn : opn bs bs.length with
    | true =>
      have e : [0, bs.length].filter (opn bs) = [0, bs.length] := by simp [h0, hn]
      rw [e]
      show Sz _ (m + (paceAt bs q r 0 + (paceAt bs q r bs.length + 0)))
      rw [p0, pn, e4]
      exact (sz_add (sz_add z hq) hr).mono (by omega)
    | false =>
      have e : [0, bs.length].filter (opn bs) = [0] := by simp [h0, hn]
      rw [e]
      show Sz _ (m + (paceAt bs q r 0 + 0))
      rw [p0, e2]
      exact (sz_add z hq).mono (by omega)
  | false =>
    cases hn : opn bs bs.length with
    | true =>
      have e : [0, bs.length].filter (opn bs) = [bs.length] := by simp [h0, hn]
      rw [e]
      show Sz _ (m + (paceAt bs q r bs.length + 0))
      rw [pn, e3]
      exact (sz_add z hr).mono (by omega)
    | false =>
      have e : [0, bs.length].filter (opn bs) = [] := by simp [h0, hn]
      rw [e]
      show Sz _ (m + 0)
      rw [e1]
      exact z.mono (by omega)
theorem sz_ch {bs : List Bool} {q r : Rat} {a b k : Nat} (hR : Row bs) (q0 : 0 < q) (r0 : 0 < r) (hq : Sz a q) (hr : Sz b r) (hb : b ≤ a) (h1 : 1 ≤ b) : Sz (2 * a + b + 15) (ch bs q r k) := by
  unfold ch
  split
  · exact (sz_div (sz_pace hq hr hb h1) (sz_tot hR hq hr) (ne_above (tot_pos q0 r0))).mono (by omega)
  · exact Sz.mono (n := 1) ⟨by decide, by decide⟩ (by omega)
theorem ch_ne {bs : List Bool} {q r : Rat} {k : Nat} (q0 : 0 < q) (r0 : 0 < r) (h : k ∈ walls bs) : ch bs q r k ≠ 0 := by
  unfold ch
  rw [if_pos h]
  exact div_ne (paceAt_ok q0 r0) (tot_pos q0 r0)
def prd (q r : Rat) (st : List (Nat × List Bool)) : Rat := st.foldl (fun y kb => y * ch kb.2 q r kb.1) 1
theorem prd_snoc (q r : Rat) (st : List (Nat × List Bool)) (k : Nat) (bs : List Bool) : prd q r (st ++ [(k, bs)]) = prd q r st * ch bs q r k := by
  unfold prd
  rw [List.foldl_append]
  rfl
/-! ### a Walk -/
def wf (i o : Addr) (bs : List Bool) (l p : Addr) : List (Str × V) := [("inn", .ref i), ("out", .ref o), ("signs", .str (tx bs)), ("steps", .ref l), ("product", .ref p)]
section
variable {i o l p p' : Addr} {bs cs : List Bool}
theorem wf_inn : (wf i o bs l p).lookup ("inn" : Str) = some (.ref i) := rfl
theorem wf_out : (wf i o bs l p).lookup ("out" : Str) = some (.ref o) := rfl
theorem wf_signs : (wf i o bs l p).lookup ("signs" : Str) = some (.str (tx bs)) := rfl
theorem wf_steps : (wf i o bs l p).lookup ("steps" : Str) = some (.ref l) := rfl
theorem wf_product : (wf i o bs l p).lookup ("product" : Str) = some (.ref p) := rfl
theorem wf_put_product : putF "product" (.ref p') (wf i o bs l p) = wf i o bs l p' := rfl
theorem wf_put_signs : putF "signs" (.str (tx cs)) (wf i o bs l p) = wf i o cs l p := rfl
theorem wf_no_chance : (wf i o bs l p).lookup ("chance" : Str) = none := rfl
theorem wf_few : (wf i o bs l p).length < 1000 := by show 5 < 1000; decide
end
def Tups (H : Hp) (ts : List Addr) (st : List (Nat × List Bool)) : Prop := ts.length = st.length ∧ ∀ (j : Nat) t kb, ts[j]? = some t → st[j]? = some kb → H t = some (.tup [wv kb.1, .str (tx kb.2)])
theorem Tups.mono {H H' : Hp} {ts : List Addr} {st : List (Nat × List Bool)} (h : Tups H ts st) (k : ∀ t xs, H t = some (.tup xs) → H' t = some (.tup xs)) : Tups H' ts st := ⟨h.1, fun j t kb a b => k _ _ (h.2 j t kb a b)⟩
theorem Tups.snoc {H : Hp} {ts : List Addr} {st : List (Nat × List Bool)} {t : Addr} {kb : Nat × List Bool} (h : Tups H ts st) (e : H t = some (.tup [wv kb.1, .str (tx kb.2)])) : Tups H (ts ++ [t]) (st ++ [kb]) := by
  refine ⟨by simp [h.1], fun j t' kb' a b => ?_⟩
  by_cases hj : j < ts.length
  · rw [List.getElem?_append_left hj] at a
    rw [List.getElem?_append_left (by rw [← h.1]; exact hj)] at b
    exact h.2 j _ _ a b
  · rw [List.getElem?_append_right (by omega)] at a
    rw [List.getElem?_append_right (by rw [← h.1]; omega), ← h.1] at b
    cases hk : j - ts.length with
    | zero =>
      rw [hk] at a b
      cases a
      cases b
      exact e
    | succ x =>
      rw [hk] at a
      simp at a
/-- at v a Walk: its row bs, its paces q and r, its steps st (wall, row ahead), the list of them at l, its product y -/
def WI (C W : Addr) (H : Hp) (v l : Addr) (bs : List Bool) (st : List (Nat × List Bool)) (q r y : Rat) : Prop :=
  ∃ dx i o p ts, H v = some (.ins W dx (wf i o bs l p)) ∧ H l = some (.lst (ts.map V.ref)) ∧ Tups H ts st ∧ PC C H i q ∧ PC C H o r ∧ PA C H p y
theorem WI.same {C W : Addr} {H H' : Hp} {v l : Addr} {bs : List Bool} {st : List (Nat × List Bool)} {q r y : Rat} (s : Same H H') (h : WI C W H v l bs st q r y) : WI C W H' v l bs st q r y := by
  obtain ⟨dx, i, o, p, ts, e1, e2, e3, e4, e5, e6⟩ := h
  exact ⟨dx, i, o, p, ts, s _ _ e1, s _ _ e2, e3.mono fun t xs e => s _ _ e, e4.same s, e5.same s, e6.same s⟩
/-- between two deeds -/
abbrev WK (C W : Addr) (H : Hp) (v l : Addr) (bs : List Bool) (st : List (Nat × List Bool)) (q r : Rat) : Prop := WI C W H v l bs st q r (prd q r st)
/-- all but what stands at v and l stays -/
def Keeps (v l : Addr) (H H' : Hp) : Prop := ∀ b o, b ≠ v → b ≠ l → H b = some o → H' b = some o
theorem Keeps.of_same {v l : Addr} {H H' : Hp} (s : Same H H') : Keeps v l H H' := fun b o _ _ e => s b o e
theorem Keeps.trans {v l : Addr} {H H1 H2 : Hp} (a : Keeps v l H H1) (b : Keeps v l H1 H2) : Keeps v l H H2 := fun c o n1 n2 e => b c o n1 n2 (a c o n1 n2 e)
theorem Keeps.v {v l : Addr} {H : Hp} {o : HO} : Keeps v l H (upd H v o) := fun b u n1 _ e => by rw [upd_ne n1]; exact e
theorem Keeps.l {v l : Addr} {H : Hp} {o : HO} : Keeps v l H (upd H l o) := fun b u _ n2 e => by rw [upd_ne n2]; exact e
structure TxtW (K : PySem.W.Frag) (mg : Str → Option Value) (W : Addr) : Prop where
  cl : Cls K W
  ni : NoAttr K W "inn"
  no : NoAttr K W "out"
  ns : NoAttr K W "signs"
  nt : NoAttr K W "steps"
  np : NoAttr K W "product"
theorem odd_no_int {K : PySem.W.Frag} {H : Hp} (i : Int) : ¬ Odd K H (.int i) := by
  rintro ⟨t, b, ty, k1, k2⟩
  cases ty with
  | base h =>
    cases h
    have h1 : PySem.W.kitOne K (.type "int") (.type "int") = some true := kit_ty (by decide +kernel)
    rw [h1] at k1
    cases k1
    have h2 : PySem.W.kitOne K (.type "int") (.type "bool") = some false := kit_ty (by decide +kernel)
    have h3 := k2 rfl
    rw [h2] at h3
    cases h3
section
variable {P : Program} {w : World} {K : PySem.W.Frag} {mg : Str → Option Value} {base : Heap} {C W d : Addr} {es : Array DictEntry} {n : Nat}
variable {fi f1 f2 r1 r2 r3 r4 r6 p1 p2 p3 p4 fp ft fo fz : Addr} {gi g1 g2 s1 s2 s3 s4 s6 q1 q2 q3 q4 gp gt go gz : FuncData} {d1 : Value}
/-- the defs that a Walk calls -/
structure WDefs (K : PySem.W.Frag) (mg : Str → Option Value) (C fi f1 f2 r1 r2 r3 r4 r6 p1 p2 p3 p4 fp ft fo fz : Addr) (gi g1 g2 s1 s2 s3 s4 s6 q1 q2 q3 q4 gp gt go gz : FuncData) (d1 : Value) : Prop where
  N : PcDefs K mg C fi f1 f2 r1 r2 p1 p2 p3 gi g1 g2 s1 s2 q1 q2 q3 d1
  R3 : Fn K mg "with_ends" sWithEnds ["row"] r3 s3
  R4 : Fn K mg "walls_of" sWallsOf ["row"] r4 s4
  R6 : Fn K mg "changed" sChanged ["row", "wall"] r6 s6
  R0 : ∃ r s, Fn K mg "need_open" sNeedOpen ["row", "wall"] r s
  P4 : Fn K mg "pace_of_all" sPaceAll ["row", "inn", "out"] p4 q4
  Nz : Fn K mg "lowest" sLowest ["top", "bottom"] fz gz
  Fp : Fun K "plus" "Part.plus" sPlus fp gp
  bp : Binds K gp ["self", "other"] []
  mp : Meth K C "plus" fp
  Ft : Fun K "times" "Part.times" sTimes ft gt
  bt : Binds K gt ["self", "other"] []
  mt : Meth K C "times" ft
  Fo : Fun K "over" "Part.over" sOver fo go
  bo : Binds K go ["self", "other"] []
  mo : Meth K C "over" fo
theorem no_over (q : Rat) : (pf q).lookup ("over" : Str) = none := pf_no q (by decide +kernel) (by decide +kernel)
structure Er (K : PySem.W.Frag) (mg : Str → Option Value) (HE NL fI : Addr) (gI : FuncData) : Prop where
  gHE : mg "HopError" = some (.ref HE)
  gNL : mg "NoWall" = some (.ref NL)
  ie : mg "IndexError" = none
  W : Kept K NL fI "wall"
  F : Fun K "__init__" "NoWall.__init__" sNLInit fI gI
  b : Binds K gI ["self", "wall"] []
  c : ExcC K NL
  m : PySem.W.exmOne K (.ref NL) (.ref NL) = some true
  h : PySem.W.kitOne K (.ref NL) (.ref HE) = some false
  v : PySem.W.findCls K (.type "IndexError") (.type "type") "__init__" = some (.val (.builtin "IndexError.__init__"))
variable {HE NL fI : Addr} {gI : FuncData}
theorem scNLInit : FnScope ["self", "wall"] ["self", "wall"] (defScope sNLInit) := ⟨rfl, rfl, rfl, by decide +kernel, rfl, by decide +kernel, by decide +kernel⟩
theorem ok_nlinit {k : Nat} (Z : Er K mg HE NL fI gI) : FnOk P w K mg base CX0 (k + 1) fI gI ["self", "wall"] (spKeepI NL "wall") := by
  refine Z.F.ok scNLInit (fun vs H Q E h => ?_) (fun cdv A outer s H vs Q E hr h => ?_)
  · obtain ⟨a, y, rfl, _⟩ := h
    rfl
  · obtain ⟨a, y, rfl, ha, q⟩ := h
    refine ⟨_, pss_cons (ps_expr (pe_ieinit "wall" (by rfl) Z.ie Z.v (pa_cons (pv 0) (pa_cons pe_str pa_nil)))) (pss_one (ps_keep (pv 0) (pv 1))), ?_⟩
    refine ⟨.ref a, rfl, a, NL, fI, [.str "no such wall, or it is shut"], rfl, by decide, Z.W, ha, ?_⟩
    exact ⟨y, rfl, .ref a, rfl, a, NL, fI, rfl, Z.W, ha, fun d nd ne => q d nd ne⟩
def spOdd (K : PySem.W.Frag) : Sp := fun vs H Q _ => ∃ x, vs = [x] ∧ Odd K H x ∧ Q (.bl false) H
theorem ok_odd {f : Addr} {fd : FuncData} {k : Nat} (F : Fun K "is_whole" "is_whole" sIsWhole f fd) (T : TxtP K mg C) : FnOk P w K mg base CX0 (k + 1) f fd ["thing"] (spOdd K) := by
  refine F.ok scWhole (fun vs H Q E h => ?_) (fun cdv A outer s H vs Q E hr h => ?_)
  · obtain ⟨x, rfl, _⟩ := h
    rfl
  · obtain ⟨x, rfl, ⟨t, bI, ty, k1, k2⟩, q⟩ := h
    refine ⟨_, pss_one (ps_ret (pe_and (pe_callB call_isi (by rfl) T.isi (by decide +kernel) (pa_cons (pv 0) (pa_cons (pe_bltn (v := .ty "int") (by rfl) T.int (by decide +kernel) rfl) pa_nil)))
      (pe_one (pe_not (pe_callB call_isi (by rfl) T.isi (by decide +kernel) (pa_cons (pv 0) (pa_cons (pe_bltn (v := .ty "bool") (by rfl) T.bool (by decide +kernel) rfl) pa_nil))))))), ?_⟩
    refine ⟨x, rfl, x, .ty "int", t, .type "int", bI, rfl, .ty _, ty, k1, bI, rfl, ?_⟩
    cases bI with
    | false => exact q
    | true => exact ⟨x, rfl, x, .ty "bool", t, .type "bool", true, rfl, .ty _, ty, k2 rfl, true, rfl, q⟩
/-! ### chance -/
/-- what is no wall of a row of n places -/
def NoW (K : PySem.W.Frag) (H : Hp) (x : V) (n : Nat) : Prop := Odd K H x ∨ ∃ i : Int, x = .int i ∧ (i < 0 ∨ (n : Int) < i)
def spChance (K : PySem.W.Frag) (C W NL : Addr) : Sp := fun vs H Q E => ∃ (v l : Addr) (bs : List Bool) (st : List (Nat × List Bool)) (q r y : Rat) (x : V), vs = [.ref v, x] ∧ WI C W H v l bs st q r y ∧ Row bs ∧
  ((∃ k, x = wv k ∧ k ≤ bs.length ∧ ∀ H' p, Same H H' → PA C H' p (ch bs q r k) → Q (.ref p) H') ∨ (NoW K H x bs.length ∧ ∀ H' e, Same H H' → H e = none → H' e = some (.xd [(("wall" : Str), x)]) → E (.ref NL) (some e) H'))
theorem scChance : FnScope ["self", "wall"] ["self", "wall"] (defScope sChance) := ⟨rfl, rfl, rfl, by decide +kernel, rfl, by decide +kernel, by decide +kernel⟩
theorem ok_chance {f : Addr} {fd : FuncData} {k : Nat} (F : Fun K "chance" "Walk.chance" sChance f fd) (D : WDefs K mg C fi f1 f2 r1 r2 r3 r4 r6 p1 p2 p3 p4 fp ft fo fz gi g1 g2 s1 s2 s3 s4 s6 q1 q2 q3 q4 gp gt go gz d1) (T : TxtP K mg C) (TR : TxtR K w mg d es n) (TW : TxtW K mg W) (Z : Er K mg HE NL fI gI) :
    FnOk P w K mg base (L2.CX P w) (k + 9) f fd ["self", "wall"] (spChance K C W NL) := by
  have G1 : FnOk P w K mg base CX0 (k + 8) f1 g1 ["thing"] spWhole := ok_whole D.N.M.N1.F T
  have G0 : FnOk P w K mg base CX0 (k + 8) f1 g1 ["thing"] (spOdd K) := ok_odd D.N.M.N1.F T
  have GL : FnOk P w K mg base CX0 (k + 7) fI gI ["self", "wall"] (spKeepI NL "wall") := ok_nlinit Z
  have GI : FnOk P w K mg base CX0 (k + 7) fi gi ["self", "top", "bottom"] (spInit C) := ok_init D.N.M.F D.N.M.N1 D.N.M.N2 T
  have Gw : FnOk P w K mg base CX0 (k + 8) r4 s4 ["row"] spWalls := ok_walls D.R4.F D.N.R1 D.N.R2 D.R3 TR
  have Gp : FnOk P w K mg base CX0 (k + 8) p3 q3 ["row", "wall", "inn", "out"] (spPaceOf C) := ok_paceOf D.N T TR
  have Ga : FnOk P w K mg base CX0 (k + 8) p4 q4 ["row", "inn", "out"] (spPaceAll C) := ok_paceAll D.P4.F D.N D.R3 D.R4 D.Fp D.bp D.mp T TR
  have Go : FnOk P w K mg base CX0 (k + 8) fo go ["self", "other"] (spDiv C) := ok_div D.Fo D.N.M D.Nz D.Ft D.bt D.mt T
  refine F.okX scChance (fun vs H Q E h => ?_) (fun cdv A outer s H vs Q E hr h => ?_)
  · obtain ⟨v, l, bs, st, q, r, y, x, rfl, _⟩ := h
    rfl
  · obtain ⟨v, l, bs, st, q, r, y, x, rfl, ⟨dx, i, o, p, ts, e1, e2, e3, e4, e5, e6⟩, hR, h⟩ := h
    have hz := row_size hR
    have h30 := hR.2
    by_cases hodd : Odd K H x
    · refine ⟨_, pss_cons (ps_if (PW.pt (pw_or (pt_not (pt_val (pe_call G0 hr (by rfl) D.N.M.N1.g D.N.M.N1.F.kp D.N.M.N1.b .nil pass0 (pa_cons (pv 1) pa_nil)))) (pw_or (pt_cmpR op_lt (pv 1) pe_int (nomark _))
          (pw_or1 (pt_cmpR op_gt (pv 1) (pe_callB call_len_str (by rfl) T.len PySem.boot_len (pa_cons (pe_fld (pv 0) rfl) pa_nil)) (nomark _)))))) (pss_one (ps_raise rfl (takes_of rfl rfl rfl rfl) (pmk_keep Z.W GL hr Z.b (by rfl) Z.gNL (pa_cons (pv 1) pa_nil)))) pss_nil)
        (pss_cons ps_never (pss_one ps_never)), ?_⟩
      rcases h with ⟨j, rfl, _, _⟩ | ⟨_, h⟩
      · exact absurd hodd (odd_no_int _)
      · exact ⟨x, rfl, x, rfl, hodd, false, rfl, iteT ⟨x, rfl, x, rfl, fun e ne => h _ e (same_upd ne) ne upd_same⟩⟩
    · refine ⟨_, pss_cons (ps_if (PW.pt (pw_or (pt_not (pt_val (pe_call G1 hr (by rfl) D.N.M.N1.g D.N.M.N1.F.kp D.N.M.N1.b .nil pass0 (pa_cons (pv 1) pa_nil)))) (pw_or (pt_cmpR op_lt (pv 1) pe_int (nomark _))
          (pw_or1 (pt_cmpR op_gt (pv 1) (pe_callB call_len_str (by rfl) T.len PySem.boot_len (pa_cons (pe_fld (pv 0) rfl) pa_nil)) (nomark _)))))) (pss_one (ps_raise rfl (takes_of rfl rfl rfl rfl) (pmk_keep Z.W GL hr Z.b (by rfl) Z.gNL (pa_cons (pv 1) pa_nil)))) pss_nil)
        (pss_cons (ps_if (pt_cmpR op_notIn_seq (pv 1) (pe_call Gw hr (by rfl) D.R4.g D.R4.F.kp D.R4.b .nil pass0 (pa_cons (pe_fld (pv 0) rfl) pa_nil)) (by rfl)) (pss_one (ps_ret (pe_make D.N.M.M GI hr (by rfl) T.mgC D.N.M.b2 (.cons D.N.M.r1 .nil) pass0 (pa_cons pe_int pa_nil)))) pss_nil)
        (pss_one (ps_ret (pe_meth (pe_call Gp hr (by rfl) D.N.g3 D.N.F3.kp D.N.b3 .nil pass0 (pa_cons (pe_fld (pv 0) rfl) (pa_cons (pv 1) (pa_cons (pe_fld (pv 0) rfl) (pa_cons (pe_fld (pv 0) rfl) pa_nil))))) T.ins.cl D.mo Go hr D.bo .nil pass0
          (pa_cons (pe_call Ga hr (by rfl) D.P4.g D.P4.F.kp D.P4.b .nil pass0 (pa_cons (pe_fld (pv 0) rfl) (pa_cons (pe_fld (pv 0) rfl) (pa_cons (pe_fld (pv 0) rfl) pa_nil)))) pa_nil))))), ?_⟩
      rcases h with ⟨j, rfl, hjl, h⟩ | ⟨ho | ⟨j, rfl, hj⟩, h⟩
      · refine ⟨wv j, rfl, (j : Int), rfl, true, rfl, iteF ⟨wv j, rfl, _, _, rfl, rfl, _, rfl, ?_⟩⟩
        rw [decide_eq_false (show ¬ (j : Int) < 0 by omega)]
        refine iteF ⟨wv j, rfl, .ref v, rfl, v, W, dx, _, _, rfl, e1, TW.cl, TW.ns, wf_signs, tx bs, rfl, hz, _, _, rfl, rfl, _, rfl, ?_⟩
        rw [tx_len, decide_eq_false (show ¬ (j : Int) > (bs.length : Int) by omega)]
        refine iteF ⟨wv j, rfl, .ref v, rfl, v, W, dx, _, _, rfl, e1, TW.cl, TW.ns, wf_signs, bs, rfl, hR, fun H1 pw s1 nw ew => ?_⟩
        refine ⟨pw, _, rfl, .inl (SqL.of ew), rfl, flat_ks _, _, rfl, ?_⟩
        by_cases hj : j ∈ walls bs
        · rw [inV_in hj]
          have e11 := s1 _ _ e1
          refine iteF ⟨.ref v, rfl, v, W, dx, _, _, rfl, e11, TW.cl, TW.ns, wf_signs, wv j, rfl, .ref v, rfl, v, W, dx, _, _, rfl, e11, TW.cl, TW.ni, wf_inn, .ref v, rfl, v, W, dx, _, _, rfl, e11, TW.cl, TW.no, wf_out, ?_⟩
          refine ⟨bs, j, i, o, q, r, rfl, hR, e4.same s1, e5.same s1, fun H2 p2 s2 pc2 => ?_⟩
          have e12 := s2 _ _ e11
          obtain ⟨pa2, c2, z2⟩ := pc2
          have pa2' := pa2
          obtain ⟨dx2, ep2⟩ := pa2
          refine ⟨p2, dx2, _, rfl, ep2, no_over _, ?_⟩
          refine ⟨.ref v, rfl, v, W, dx, _, _, rfl, e12, TW.cl, TW.ns, wf_signs, .ref v, rfl, v, W, dx, _, _, rfl, e12, TW.cl, TW.ni, wf_inn, .ref v, rfl, v, W, dx, _, _, rfl, e12, TW.cl, TW.no, wf_out, ?_⟩
          refine ⟨bs, i, o, q, r, rfl, hR, e4.same (s1.trans s2), e5.same (s1.trans s2), fun H3 p3 s3 pa3 => ?_⟩
          refine ⟨p2, p3, _, _, rfl, pa2'.same s3, pa3, z2.mono (by decide), (sz_tot hR e4.2.2 e5.2.2).mono (by decide), ne_above (tot_pos e4.2.1 e5.2.1), fun H4 p4 s4 n4 pa4 => ?_⟩
          refine h H4 p4 (((s1.trans s2).trans s3).trans s4) ?_
          unfold ch
          rw [if_pos hj]
          exact pa4
        · have hno : inV (wv j) ((walls bs).map wv) = false := inV_no (ks := walls bs) (i := (j : Int)) fun k hk e => hj (by rw [show j = k by omega]; exact hk)
          rw [hno]
          refine iteT ?_
          intro p5 d5 np hd5 ne
          refine ⟨p5, d5, 0, 1, rfl, by decide, Nat.one_lt_two_pow (by decide), upd_same, rfl, ?_⟩
          rw [upd_upd]
          obtain ⟨s3, pa3⟩ := mk_facts (C := C) (q := Rat.divInt 0 1) np hd5
          refine h _ p5 (s1.trans s3) ?_
          unfold ch
          rw [if_neg hj]
          exact pa3
      · exact absurd ho hodd
      · refine ⟨.int j, rfl, j, rfl, true, rfl, iteF ⟨.int j, rfl, _, _, rfl, rfl, _, rfl, ?_⟩⟩
        by_cases h0 : j < 0
        · rw [decide_eq_true h0]
          exact iteT ⟨.int j, rfl, .int j, rfl, fun e ne => h _ e (same_upd ne) ne upd_same⟩
        · rw [decide_eq_false h0]
          refine iteF ⟨.int j, rfl, .ref v, rfl, v, W, dx, _, _, rfl, e1, TW.cl, TW.ns, wf_signs, tx bs, rfl, hz, _, _, rfl, rfl, _, rfl, ?_⟩
          rw [tx_len, decide_eq_true (show j > (bs.length : Int) by omega)]
          exact iteT ⟨.int j, rfl, .int j, rfl, fun e ne => h _ e (same_upd ne) ne upd_same⟩
end
end Hop

set_option Elab.async false
set_option linter.all false
set_option maxRecDepth 100000
set_option exponentiation.threshold 200000
namespace Hop
open PySem L2 HopR
open C8 (InsC call_isC)
section
variable {P : Program} {w : World} {K : PySem.W.Frag} {mg : Str → Option Value} {base : Heap} {C W d : Addr} {es : Array DictEntry} {n : Nat}
variable {HE NL fI : Addr} {gI : FuncData}
variable {fi f1 f2 r1 r2 r3 r4 r6 p1 p2 p3 p4 fp ft fo fz fc : Addr} {gi g1 g2 s1 s2 s3 s4 s6 q1 q2 q3 q4 gp gt go gz gc : FuncData} {d1 : Value}
/-- two addresses of unlike things -/
theorem ne_lst_ins {H : Hp} {a b : Addr} {xs : List V} {C' dx : Addr} {fs : List (Str × V)} (ha : H a = some (.lst xs)) (hb : H b = some (.ins C' dx fs)) : a ≠ b := fun z => by
  rw [z, hb] at ha
  cases ha
theorem ne_tup_lst {H : Hp} {a b : Addr} {xs ys : List V} (ha : H a = some (.tup xs)) (hb : H b = some (.lst ys)) : a ≠ b := fun z => by
  rw [z, hb] at ha
  cases ha
theorem ne_tup_ins {H : Hp} {a b : Addr} {xs : List V} {C' dx : Addr} {fs : List (Str × V)} (ha : H a = some (.tup xs)) (hb : H b = some (.ins C' dx fs)) : a ≠ b := fun z => by
  rw [z, hb] at ha
  cases ha
/-- a Part isn't a Walk -/
theorem pa_ne {H : Hp} {a v : Addr} {q : Rat} {dx : Addr} {fs : List (Str × V)} (cw : C ≠ W) (ha : PA C H a q) (hv : H v = some (.ins W dx fs)) : a ≠ v := fun z => by
  obtain ⟨dy, e⟩ := ha
  rw [z, hv] at e
  injection e with e
  injection e with e1
  exact cw e1.symm
theorem pa_ne_l {H : Hp} {a l : Addr} {q : Rat} {xs : List V} (ha : PA C H a q) (hl : H l = some (.lst xs)) : a ≠ l := fun z => by
  obtain ⟨dy, e⟩ := ha
  rw [z, hl] at e
  cases e
theorem PA.upd {H : Hp} {a b : Addr} {q : Rat} {o : HO} (h : PA C H a q) (ne : a ≠ b) : PA C (upd H b o) a q := by
  obtain ⟨dx, e⟩ := h
  exact ⟨dx, by rw [upd_ne ne]; exact e⟩
theorem PC.upd {H : Hp} {a b : Addr} {q : Rat} {o : HO} (h : PC C H a q) (ne : a ≠ b) : PC C (L2.upd H b o) a q := ⟨h.1.upd ne, h.2⟩
/-- a Walk's own fields put anew -/
theorem WI.putV {H : Hp} {v l dx i o p p' : Addr} {bs cs : List Bool} {st : List (Nat × List Bool)} {ts : List Addr} {q r y : Rat} (cw : C ≠ W) (e1 : H v = some (.ins W dx (wf i o bs l p))) (e2 : H l = some (.lst (ts.map V.ref))) (e3 : Tups H ts st) (e4 : PC C H i q) (e5 : PC C H o r) (e6 : PA C H p' y) :
    WI C W (upd H v (.ins W dx (wf i o cs l p'))) v l cs st q r y := by
  refine ⟨dx, i, o, p', ts, upd_same, ?_, e3.mono fun t xs e => ?_, e4.upd (pa_ne cw e4.1 e1), e5.upd (pa_ne cw e5.1 e1), e6.upd (pa_ne cw e6 e1)⟩
  · rw [upd_ne (ne_lst_ins e2 e1)]
    exact e2
  · rw [upd_ne (ne_tup_ins e e1)]
    exact e
theorem WI.putL {H : Hp} {v l dx i o p : Addr} {bs : List Bool} {st' : List (Nat × List Bool)} {ts ts' : List Addr} {q r y : Rat} (e1 : H v = some (.ins W dx (wf i o bs l p))) (e2 : H l = some (.lst (ts.map V.ref))) (e3 : Tups H ts' st') (e4 : PC C H i q) (e5 : PC C H o r) (e6 : PA C H p y) :
    WI C W (upd H l (.lst (ts'.map V.ref))) v l bs st' q r y := by
  refine ⟨dx, i, o, p, ts', ?_, upd_same, e3.mono fun t xs e => ?_, e4.upd (pa_ne_l e4.1 e2), e5.upd (pa_ne_l e5.1 e2), e6.upd (pa_ne_l e6 e2)⟩
  · rw [upd_ne (ne_lst_ins e2 e1).symm]
    exact e1
  · rw [upd_ne (ne_tup_lst e e2)]
    exact e
theorem mul_over {y c : Rat} (h : c ≠ 0) : y * c / c = y := by
  rw [Rat.div_def, Rat.mul_assoc, Rat.mul_inv_cancel c h, Rat.mul_one]
/-! ### step -/
def spStep (C W : Addr) : Sp := fun vs H Q _ => ∃ (v l : Addr) (bs : List Bool) (st : List (Nat × List Bool)) (q r : Rat) (k : Nat), vs = [.ref v, wv k] ∧ WK C W H v l bs st q r ∧ Row bs ∧ k ∈ walls bs ∧ Sz 90000 (prd q r st) ∧ st.length ≤ 1000 ∧
  ∀ H', Keeps v l H H' → WK C W H' v l (chg bs k) (st ++ [(k, bs)]) q r → Q (.str (tx (chg bs k))) H'
theorem scStep : FnScope ["self", "wall", "behind"] ["self", "wall"] (defScope sStep) := ⟨rfl, rfl, rfl, by decide +kernel, rfl, by decide +kernel, by decide +kernel⟩
theorem ok_step {f : Addr} {fd : FuncData} {k : Nat} (F : Fun K "step" "Walk.step" sStep f fd) (Fc : Fun K "chance" "Walk.chance" sChance fc gc) (bc : Binds K gc ["self", "wall"] []) (mc : Meth K W "chance" fc) (cw : C ≠ W)
    (D : WDefs K mg C fi f1 f2 r1 r2 r3 r4 r6 p1 p2 p3 p4 fp ft fo fz gi g1 g2 s1 s2 s3 s4 s6 q1 q2 q3 q4 gp gt go gz d1) (T : TxtP K mg C) (TR : TxtR K w mg d es n) (TW : TxtW K mg W) (Z : Er K mg HE NL fI gI) : FnOk P w K mg base CX0 (k + 10) f fd ["self", "wall"] (spStep C W) := by
  have Gc : FnOk P w K mg base CX0 (k + 9) r6 s6 ["row", "wall"] spChanged := ok_changed D.R6.F D.R0 D.N.R1 D.N.R2 D.R3 D.R4 D.N.M.N1 TR T
  have Gh : FnOk P w K mg base (L2.CX P w) (k + 9) fc gc ["self", "wall"] (spChance K C W NL) := ok_chance Fc D T TR TW Z
  have Gt : FnOk P w K mg base CX0 (k + 9) ft gt ["self", "other"] (spMul C) := ok_mul D.Ft D.N.M D.Nz T
  refine F.ok scStep (fun vs H Q E h => ?_) (fun cdv A outer s H vs Q E hr h => ?_)
  · obtain ⟨v, l, bs, st, q, r, j, rfl, _⟩ := h
    rfl
  · obtain ⟨v, l, bs, st, q, r, j, rfl, wk, hR, hj, hm, hst, h⟩ := h
    have nd := scStep.nd
    have wk' := wk
    obtain ⟨dx, i, o, p, ts, e1, e2, e3, e4, e5, e6⟩ := wk
    have hjl := (mem_walls.mp hj).1
    have zc := sz_ch (k := j) hR e4.2.1 e5.2.1 e4.2.2 e5.2.2 (Nat.le_refl _) (by decide)
    refine ⟨_, pss_cons (ps_set (i := 2) nd rfl (.inl rfl) (pe_call Gc hr (by rfl) D.R6.g D.R6.F.kp D.R6.b .nil pass0 (pa_cons (pe_fld (pv 0) rfl) (pa_cons (pv 1) pa_nil))))
      (pss_cons (ps_fld (pv 0) (pe_meth (pe_fld (pv 0) rfl) T.ins.cl D.mt Gt hr D.bt .nil pass0 (pa_cons (pe_meth (pv 0) TW.cl mc Gh hr bc .nil passL (pa_cons (pv 1) pa_nil)) pa_nil)) rfl)
      (pss_cons (ps_expr (pe_bm PySem.F.plainAttrs_list PySem.F.slot_list_append PySem.F.type_list_append mt_append (pe_fld (pv 0) rfl) (pa_cons (pe_tup (pa_cons (pv 1) (pa_cons (pe_fld (pv 0) rfl) pa_nil))) pa_nil)))
      (pss_cons (ps_fld (pv 0) (pv 2) rfl)
      (pss_one (ps_ret (pv 2)))))), ?_⟩
    refine ⟨.ref v, rfl, v, W, dx, _, _, rfl, e1, TW.cl, TW.ns, wf_signs, wv j, rfl, bs, j, rfl, hR, hj, fun H1 s1 => ?_⟩
    have e11 := s1 _ _ e1
    refine ⟨.ref v, rfl, v, W, dx, _, _, rfl, e11, TW.cl, TW.np, wf_product, ?_⟩
    have pa1 := e6.same s1
    have pa1' := pa1
    obtain ⟨dxp, ep⟩ := pa1
    refine ⟨p, dxp, _, rfl, ep, no_times _, .ref v, rfl, v, dx, _, rfl, e11, wf_no_chance, wv j, rfl, v, l, bs, st, q, r, _, wv j, rfl, wk'.same s1, hR, .inl ⟨j, rfl, hjl, fun H2 pc s2 pac => ?_⟩⟩
    refine ⟨p, pc, _, _, rfl, pa1'.same s2, pac, hm.mono (by decide), zc.mono (by decide), .inl (ch_ne e4.2.1 e5.2.1 hj), fun H3 p3 s3 n3 pa3 => ?_⟩
    have s13 := (s1.trans s2).trans s3
    have e13 := s13 _ _ e1
    have e23 := s13 _ _ e2
    refine ⟨.ref v, rfl, v, W, dx, _, rfl, e13, TW.cl, TW.np, wf_few, ?_⟩
    rw [wf_put_product]
    have nvl := (ne_lst_ins e23 e13).symm
    have wk4 : WI C W (upd H3 v (.ins W dx (wf i o bs l p3))) v l bs st q r (prd q r st * ch bs q r j) := WI.putV cw e13 e23 (e3.mono fun t xs e => s13 _ _ e) (e4.same s13) (e5.same s13) pa3
    have k4 : Keeps v l H (upd H3 v (.ins W dx (wf i o bs l p3))) := (Keeps.of_same s13).trans Keeps.v
    generalize upd H3 v (.ins W dx (wf i o bs l p3)) = H4 at wk4 k4
    obtain ⟨dx, i, o, p, ts, e1, e2, e3, e4, e5, e6⟩ := wk4
    refine ⟨.ref v, rfl, v, W, dx, _, _, rfl, e1, TW.cl, TW.nt, wf_steps, .inl ⟨rfl, _, SqL.of e2⟩, wv j, rfl, .ref v, rfl, v, W, dx, _, _, rfl, e1, TW.cl, TW.ns, wf_signs, (by show 2 ≤ sizeLine; decide), fun t nt => ?_⟩
    have s5 := same_upd (o := .tup [wv j, .str (tx bs)]) nt
    have et : upd H4 t (.tup [wv j, .str (tx bs)]) t = some (.tup [wv j, .str (tx bs)]) := upd_same
    generalize upd H4 t (.tup [wv j, .str (tx bs)]) = H5 at s5 et
    have e25 := s5 _ _ e2
    refine ⟨l, _, _, rfl, rfl, e25, fit' (by rw [List.length_map, e3.1]; omega), ?_⟩
    have eap : ts.map V.ref ++ [V.ref t] = (ts ++ [t]).map V.ref := by rw [List.map_append]; rfl
    show _
    have wk6 : WI C W (upd H5 l (.lst ((ts ++ [t]).map V.ref))) v l bs (st ++ [(j, bs)]) q r (prd q r (st ++ [(j, bs)])) := WI.putL (s5 _ _ e1) e25 ((e3.mono fun t xs e => s5 _ _ e).snoc et) (e4.same s5) (e5.same s5) (by rw [prd_snoc]; exact e6.same s5)
    have k6 : Keeps v l H (upd H5 l (.lst ((ts ++ [t]).map V.ref))) := (k4.trans (Keeps.of_same s5)).trans Keeps.l
    rw [← eap] at wk6 k6
    generalize upd H5 l (.lst (ts.map V.ref ++ [V.ref t])) = H6 at wk6 k6
    obtain ⟨dx, i, o, p, ts, e1, e2, e3, e4, e5, e6⟩ := wk6
    refine ⟨.str (tx (chg bs j)), rfl, .ref v, rfl, v, W, dx, _, rfl, e1, TW.cl, TW.ns, wf_few, ?_⟩
    rw [wf_put_signs]
    exact ⟨.str (tx (chg bs j)), rfl, h _ (k6.trans Keeps.v) (WI.putV cw e1 e2 e3 e4 e5 e6)⟩
/-! ### undo -/
def spUndo (C W : Addr) : Sp := fun vs H Q _ => ∃ (v l : Addr) (bs b0 : List Bool) (st : List (Nat × List Bool)) (q r : Rat) (k : Nat), vs = [.ref v] ∧ WK C W H v l bs (st ++ [(k, b0)]) q r ∧ Row b0 ∧ k ∈ walls b0 ∧ Sz 90000 (prd q r (st ++ [(k, b0)])) ∧
  ∀ H', Keeps v l H H' → WK C W H' v l b0 st q r → Q (.str (tx b0)) H'
theorem scUndo : FnScope ["self", "wall"] ["self"] (defScope sUndo) := ⟨rfl, rfl, rfl, by decide +kernel, rfl, by decide +kernel, by decide +kernel⟩
theorem Tups.last {H : Hp} {ts : List Addr} {st : List (Nat × List Bool)} {kb : Nat × List Bool} (h : Tups H ts (st ++ [kb])) : ∃ ts' t, ts = ts' ++ [t] ∧ Tups H ts' st ∧ H t = some (.tup [wv kb.1, .str (tx kb.2)]) := by
  have hl := h.1
  rw [List.length_append] at hl
  have hl : ts.length = st.length + 1 := hl
  have hne : ts ≠ [] := fun e => by
    rw [e] at hl
    exact absurd hl (by simp)
  refine ⟨ts.dropLast, ts.getLast hne, (List.dropLast_concat_getLast hne).symm, ⟨by rw [List.length_dropLast]; omega, fun j t kb' a b => ?_⟩, ?_⟩
  · have hj : j < st.length := (List.getElem?_eq_some_iff.mp b).1
    refine h.2 j t kb' ?_ (by rw [List.getElem?_append_left hj]; exact b)
    rw [List.getElem?_dropLast, if_pos (by omega)] at a
    exact a
  · refine h.2 st.length _ _ ?_ (by rw [List.getElem?_append_right (Nat.le_refl _), Nat.sub_self]; rfl)
    rw [List.getLast_eq_getElem]
    rw [List.getElem?_eq_getElem (by omega)]
    congr 2
    omega
theorem ok_undo {f : Addr} {fd : FuncData} {k : Nat} (F : Fun K "undo" "Walk.undo" sUndo f fd) (Fc : Fun K "chance" "Walk.chance" sChance fc gc) (bc : Binds K gc ["self", "wall"] []) (mc : Meth K W "chance" fc) (cw : C ≠ W)
    (D : WDefs K mg C fi f1 f2 r1 r2 r3 r4 r6 p1 p2 p3 p4 fp ft fo fz gi g1 g2 s1 s2 s3 s4 s6 q1 q2 q3 q4 gp gt go gz d1) (T : TxtP K mg C) (TR : TxtR K w mg d es n) (TW : TxtW K mg W) (Z : Er K mg HE NL fI gI) : FnOk P w K mg base CX0 (k + 10) f fd ["self"] (spUndo C W) := by
  have Gh : FnOk P w K mg base (L2.CX P w) (k + 9) fc gc ["self", "wall"] (spChance K C W NL) := ok_chance Fc D T TR TW Z
  have Go : FnOk P w K mg base CX0 (k + 9) fo go ["self", "other"] (spDiv C) := ok_div D.Fo D.N.M D.Nz D.Ft D.bt D.mt T
  refine F.ok scUndo (fun vs H Q E h => ?_) (fun cdv A outer s H vs Q E hr h => ?_)
  · obtain ⟨v, l, bs, b0, st, q, r, j, rfl, _⟩ := h
    rfl
  · obtain ⟨v, l, bs, b0, st, q, r, j, rfl, wk, hR, hj, hm, h⟩ := h
    have nd := scUndo.nd
    obtain ⟨dx, i, o, p, ts, e1, e2, e3, e4, e5, e6⟩ := wk
    have hjl := (mem_walls.mp hj).1
    have q0 := e4.2.1
    have r0 := e5.2.1
    have zc := sz_ch (k := j) hR e4.2.1 e5.2.1 e4.2.2 e5.2.2 (Nat.le_refl _) (by decide)
    obtain ⟨ts, t, rfl, e3, et⟩ := e3.last
    refine ⟨_, pss_cons (ps_if (pt_not (pt_truth (pe_fld (pv 0) rfl) (by intro _; rfl))) (pss_one ps_never) pss_nil)
      (pss_cons (ps_asg (pe_bm0 PySem.F.plainAttrs_list PySem.F.slot_list_pop PySem.F.type_list_pop mt_pop (pe_fld (pv 0) rfl)) (pg_tup (by rfl) (pgs_cons (pg_name (i := 1) nd rfl (.inl rfl)) (pgs_cons (pg_fld (pv 0)) pgs_nil))))
      (pss_cons (ps_fld (pv 0) (pe_meth (pe_fld (pv 0) rfl) T.ins.cl D.mo Go hr D.bo .nil pass0 (pa_cons (pe_meth (pv 0) TW.cl mc Gh hr bc .nil passL (pa_cons (pv 1) pa_nil)) pa_nil)) rfl)
      (pss_one (ps_ret (pe_fld (pv 0) rfl))))), ?_⟩
    refine ⟨.ref v, rfl, v, W, dx, _, _, rfl, e1, TW.cl, TW.nt, wf_steps, true, .inl ⟨_, SqL.of e2, by rw [List.map_append]; cases ts <;> rfl⟩, iteF ?_⟩
    have elast : ((ts ++ [t]).map V.ref)[((ts ++ [t]).map V.ref).length - 1]? = some (.ref t) := by
      rw [List.map_append, List.length_append, List.length_map]
      show (ts.map V.ref ++ [V.ref t])[ts.length + 1 - 1]? = _
      rw [Nat.add_sub_cancel, List.getElem?_append_right (by rw [List.length_map]; exact Nat.le_refl _), List.length_map, Nat.sub_self]
      rfl
    refine ⟨.ref v, rfl, v, W, dx, _, _, rfl, e1, TW.cl, TW.nt, wf_steps, .inl ⟨rfl, _, SqL.of e2⟩, l, _, _, rfl, rfl, e2, elast, ?_⟩
    have edl : ((ts ++ [t]).map V.ref).dropLast = ts.map V.ref := by
      rw [List.map_append]
      show (ts.map V.ref ++ [V.ref t]).dropLast = _
      exact List.dropLast_concat
    rw [edl]
    have wk1 : WI C W (upd H l (.lst (ts.map V.ref))) v l bs st q r (prd q r (st ++ [(j, b0)])) := WI.putL e1 e2 e3 e4 e5 e6
    have k1 : Keeps v l H (upd H l (.lst (ts.map V.ref))) := Keeps.l
    have et1 : upd H l (.lst (ts.map V.ref)) t = some (.tup [wv j, .str (tx b0)]) := by
      rw [upd_ne (ne_tup_lst et e2)]
      exact et
    generalize upd H l (.lst (ts.map V.ref)) = H1 at wk1 k1 et1
    obtain ⟨dx, i, o, p, ts, e1, e2, e3, e4, e5, e6⟩ := wk1
    refine ⟨t, _, rfl, SqT.of et1, rfl, _, _, rfl, _, _, rfl, ?_⟩
    refine ⟨.ref v, rfl, v, W, dx, _, rfl, e1, TW.cl, TW.ns, wf_few, rfl, ?_⟩
    rw [wf_put_signs]
    have wk2 : WI C W (upd H1 v (.ins W dx (wf i o b0 l p))) v l b0 st q r (prd q r (st ++ [(j, b0)])) := WI.putV cw e1 e2 e3 e4 e5 e6
    have k2 : Keeps v l H (upd H1 v (.ins W dx (wf i o b0 l p))) := k1.trans Keeps.v
    generalize upd H1 v (.ins W dx (wf i o b0 l p)) = H2 at wk2 k2
    obtain ⟨dx, i, o, p, ts, e1, e2, e3, e4, e5, e6⟩ := wk2
    have e6' := e6
    obtain ⟨dxp, ep⟩ := e6
    refine ⟨.ref v, rfl, v, W, dx, _, _, rfl, e1, TW.cl, TW.np, wf_product, ?_⟩
    refine ⟨p, dxp, _, rfl, ep, no_over _, .ref v, rfl, v, dx, _, rfl, e1, wf_no_chance, wv j, rfl, v, l, b0, st, q, r, _, wv j, rfl, ⟨dx, i, o, p, ts, e1, e2, e3, e4, e5, e6'⟩, hR, .inl ⟨j, rfl, hjl, fun H3 pc s3 pac => ?_⟩⟩
    refine ⟨p, pc, _, _, rfl, e6'.same s3, pac, hm.mono (by decide), zc.mono (by decide), ch_ne q0 r0 hj, fun H4 p4 s4 n4 pa4 => ?_⟩
    have s34 := s3.trans s4
    have e14 := s34 _ _ e1
    have e24 := s34 _ _ e2
    refine ⟨.ref v, rfl, v, W, dx, _, rfl, e14, TW.cl, TW.np, wf_few, ?_⟩
    rw [wf_put_product]
    have ey : prd q r (st ++ [(j, b0)]) / ch b0 q r j = prd q r st := by
      rw [prd_snoc]
      exact mul_over (ch_ne q0 r0 hj)
    rw [ey] at pa4
    have wk5 : WK C W (upd H4 v (.ins W dx (wf i o b0 l p4))) v l b0 st q r := WI.putV cw e14 e24 (e3.mono fun t xs e => s34 _ _ e) (e4.same s34) (e5.same s34) pa4
    have k5 : Keeps v l H (upd H4 v (.ins W dx (wf i o b0 l p4))) := (k2.trans (Keeps.of_same s34)).trans Keeps.v
    generalize upd H4 v (.ins W dx (wf i o b0 l p4)) = H5 at wk5 k5
    have wk5' := wk5
    obtain ⟨dx, i, o, p, ts, e1, e2, e3, e4, e5, e6⟩ := wk5
    exact ⟨.ref v, rfl, v, W, dx, _, _, rfl, e1, TW.cl, TW.ns, wf_signs, h H5 k5 wk5'⟩
end
end Hop

set_option Elab.async false
set_option linter.all false
set_option maxRecDepth 100000
set_option exponentiation.threshold 200000
namespace Hop
open PySem L2 HopR
open C8 (InsC call_isC)
section
variable {P : Program} {w : World} {K : PySem.W.Frag} {mg : Str → Option Value} {base : Heap} {C W d : Addr} {es : Array DictEntry} {n : Nat}
variable {fi f1 f2 r1 r2 r3 r4 r6 p1 p2 p3 p4 fp ft fo fz fc : Addr} {gi g1 g2 s1 s2 s3 s4 s6 q1 q2 q3 q4 gp gt go gz gc : FuncData} {d1 : Value}
/-! ### Walk.__init__ -/
def spWInit (C W : Addr) : Sp := fun vs H Q _ => ∃ (v dx : Addr) (x y : V) (bs : List Bool) (q r : Rat), vs = [.ref v, .str (tx bs), x, y] ∧ H v = some (.ins W dx []) ∧ Row bs ∧ Pw C H x q ∧ Pw C H y r ∧
  ∀ H' l, (∀ x o, x ≠ v → H x = some o → H' x = some o) → H l = none → WK C W H' v l bs [] q r → Q .non H'
theorem scWInit : FnScope ["self", "row", "inn", "out"] ["self", "row", "inn", "out"] (defScope sWInit) := ⟨rfl, rfl, rfl, by decide +kernel, rfl, by decide +kernel, by decide +kernel⟩
theorem ok_winit {f : Addr} {fd : FuncData} {k : Nat} (F : FunD K "__init__" "Walk.__init__" (defArgs sWInit) (defBody sWInit) (defScope sWInit) [.non, .non] [] f fd) (cw : C ≠ W)
    (D : WDefs K mg C fi f1 f2 r1 r2 r3 r4 r6 p1 p2 p3 p4 fp ft fo fz gi g1 g2 s1 s2 s3 s4 s6 q1 q2 q3 q4 gp gt go gz d1) (T : TxtP K mg C) (TR : TxtR K w mg d es n) (TW : TxtW K mg W) : FnOk P w K mg base CX0 (k + 6) f fd ["self", "row", "inn", "out"] (spWInit C W) := by
  have GI : FnOk P w K mg base CX0 (k + 4) fi gi ["self", "top", "bottom"] (spInit C) := ok_init D.N.M.F D.N.M.N1 D.N.M.N2 T
  have G2 : FnOk P w K mg base CX0 (k + 5) r2 s2 ["thing"] spNeed := ok_need D.N.R2.F D.N.R1 TR
  have G3 : FnOk P w K mg base CX0 (k + 5) p2 q2 ["inn", "out"] (spPacesFrom C) := ok_pacesFrom D.N.P2.F D.N.P1 D.N.M T
  refine F.ok scWInit (fun vs H Q E h => ?_) (fun cdv A outer s H vs Q E hr h => ?_)
  · obtain ⟨v, dx, x, y, bs, q, r, rfl, _⟩ := h
    rfl
  · obtain ⟨v, dx, x, y, bs, q, r, rfl, ev, hR, pa, pb, h⟩ := h
    have nd := scWInit.nd
    refine ⟨_, PSs.nox (pss_cons (ps_expr (pe_call G2 hr (by rfl) D.N.R2.g D.N.R2.F.kp D.N.R2.b .nil pass0 (pa_cons (pv 1) pa_nil)))
      (pss_cons (ps_asg (pe_call G3 hr (by rfl) D.N.P2.g D.N.P2.F.kp D.N.P2.b .nil pass0 (pa_cons (pv 2) (pa_cons (pv 3) pa_nil))) (pg_tup (by rfl) (pgs_cons (pg_fld (pv 0)) (pgs_cons (pg_fld (pv 0)) pgs_nil))))
      (pss_cons (ps_fld (pv 0) (pv 1) rfl)
      (pss_cons (ps_fld (pv 0) (pe_lst pa_nil) rfl)
      (pss_one (ps_fld (pv 0) (pe_make D.N.M.M GI hr (by rfl) T.mgC D.N.M.b2 (.cons D.N.M.r1 .nil) pass0 (pa_cons pe_int pa_nil)) rfl)))))), ?_⟩
    refine ⟨.str (tx bs), rfl, bs, rfl, hR, fun H1 s1 => ?_⟩
    refine ⟨x, rfl, y, rfl, x, y, q, r, rfl, pa.same s1, pb.same s1, fun H2 p2 a b s2 n2 e2 pa2 pb2 => ?_⟩
    have s12 := s1.trans s2
    have ev2 := s12 _ _ ev
    refine ⟨p2, _, rfl, SqT.of e2, rfl, _, _, rfl, ?_⟩
    refine ⟨.ref v, rfl, v, W, dx, _, rfl, ev2, TW.cl, TW.ni, (by show 0 < 1000; decide), _, _, rfl, ?_⟩
    refine ⟨.ref v, rfl, v, W, dx, _, rfl, upd_same, TW.cl, TW.no, (by show 1 < 1000; decide), rfl, ?_⟩
    refine ⟨.str (tx bs), rfl, .ref v, rfl, v, W, dx, _, rfl, upd_same, TW.cl, TW.ns, (by show 2 < 1000; decide), ?_⟩
    rw [upd_upd, upd_upd]
    refine ⟨Nat.zero_le _, fun l nl => ?_⟩
    have nlv : l ≠ v := fun z => by
      rw [z, upd_same] at nl
      cases nl
    have nl2 : H2 l = none := by
      rw [upd_ne nlv] at nl
      exact nl
    refine ⟨.ref v, rfl, v, W, dx, _, rfl, by rw [upd_ne nlv.symm, upd_same], TW.cl, TW.nt, (by show 3 < 1000; decide), ?_⟩
    have kc : ∀ x o, x ≠ v → H2 x = some o → upd (upd (upd H2 v (.ins W dx (putF "signs" (.str (tx bs)) (putF "out" (.ref b) (putF "inn" (.ref a) []))))) l (.lst [])) v (.ins W dx (putF "steps" (.ref l) (putF "signs" (.str (tx bs)) (putF "out" (.ref b) (putF "inn" (.ref a) []))))) x = some o := fun x o nx e => by
      rw [upd_ne nx, upd_ne (ne_of_none e nl2), upd_ne nx]
      exact e
    have vc : upd (upd (upd H2 v (.ins W dx (putF "signs" (.str (tx bs)) (putF "out" (.ref b) (putF "inn" (.ref a) []))))) l (.lst [])) v (.ins W dx (putF "steps" (.ref l) (putF "signs" (.str (tx bs)) (putF "out" (.ref b) (putF "inn" (.ref a) []))))) v = some (.ins W dx (putF "steps" (.ref l) (putF "signs" (.str (tx bs)) (putF "out" (.ref b) (putF "inn" (.ref a) []))))) := upd_same
    have lc : upd (upd (upd H2 v (.ins W dx (putF "signs" (.str (tx bs)) (putF "out" (.ref b) (putF "inn" (.ref a) []))))) l (.lst [])) v (.ins W dx (putF "steps" (.ref l) (putF "signs" (.str (tx bs)) (putF "out" (.ref b) (putF "inn" (.ref a) []))))) l = some (.lst []) := by
      rw [upd_ne nlv, upd_same]
    generalize upd (upd (upd H2 v (.ins W dx (putF "signs" (.str (tx bs)) (putF "out" (.ref b) (putF "inn" (.ref a) []))))) l (.lst [])) v (.ins W dx (putF "steps" (.ref l) (putF "signs" (.str (tx bs)) (putF "out" (.ref b) (putF "inn" (.ref a) []))))) = Hc at kc vc lc
    intro p dy np hdy ne
    refine ⟨p, dy, 1, 1, rfl, by decide, Nat.one_lt_two_pow (by decide), upd_same, rfl, ?_⟩
    rw [upd_upd]
    obtain ⟨s3, pa3⟩ := mk_facts (C := C) (q := Rat.divInt 1 1) np hdy
    generalize upd (upd Hc dy (.own p)) p (.ins C dy (pf (Rat.divInt 1 1))) = H3 at s3 pa3
    have ev3 := s3 _ _ vc
    refine ⟨.ref v, rfl, v, W, dx, _, rfl, ev3, TW.cl, TW.np, (by show 4 < 1000; decide), ?_⟩
    show Q .non (upd H3 v (.ins W dx (wf a b bs l p)))
    have onePC := pc_one pa3
    have mv : ∀ {x : Addr} {z : Rat}, PC C H2 x z → PC C (upd H3 v (.ins W dx (wf a b bs l p))) x z := fun {x z} hx => by
      have nx : x ≠ v := pa_ne cw hx.1 ev2
      obtain ⟨⟨dz, ez⟩, hx2⟩ := hx
      exact ⟨⟨dz, by rw [upd_ne nx]; exact s3 _ _ (kc _ _ nx ez)⟩, hx2⟩
    refine h _ l (fun x o nx e => ?_) (s12.free nl2) ⟨dx, a, b, p, [], upd_same, ?_, ⟨rfl, fun j t kb a' => by simp at a'⟩, mv pa2, mv pb2, onePC.1.upd (pa_ne cw onePC.1 ev3)⟩
    · rw [upd_ne nx]
      exact s3 _ _ (kc _ _ nx (s12 _ _ e))
    · rw [upd_ne nlv]
      exact s3 _ _ lc
/-! ### chances -/
def spChances (C W : Addr) : Sp := fun vs H Q _ => ∃ (v l : Addr) (bs : List Bool) (st : List (Nat × List Bool)) (q r : Rat), vs = [.ref v] ∧ WK C W H v l bs st q r ∧ ∀ p, PA C H p (prd q r st) → Q (.ref p) H
theorem scChances : FnScope ["self"] ["self"] (defScope sChances) := ⟨rfl, rfl, rfl, by decide +kernel, rfl, by decide +kernel, by decide +kernel⟩
theorem ok_chances {f : Addr} {fd : FuncData} {k : Nat} (F : Fun K "chances" "Walk.chances" sChances f fd) (TW : TxtW K mg W) : FnOk P w K mg base CX0 (k + 1) f fd ["self"] (spChances C W) := by
  refine F.ok scChances (fun vs H Q E h => ?_) (fun cdv A outer s H vs Q E hr h => ?_)
  · obtain ⟨v, l, bs, st, q, r, rfl, _⟩ := h
    rfl
  · obtain ⟨v, l, bs, st, q, r, rfl, ⟨dx, i, o, p, ts, e1, e2, e3, e4, e5, e6⟩, h⟩ := h
    refine ⟨_, pss_one (ps_ret (pe_fld (pv 0) rfl)), ?_⟩
    exact ⟨.ref v, rfl, v, W, dx, _, _, rfl, e1, TW.cl, TW.np, wf_product, h p e6⟩
end
end Hop

set_option Elab.async false
set_option linter.all false
set_option maxRecDepth 100000
namespace HopR
open PySem L2
/-! ### data that can be shown -/
structure Okd (d : PyData) (k N : Nat) : Prop where
  sh : d.showable = true
  nd : d.hasDict = false
  dp : d.depth ≤ k
  ls : d.leavesShort 13 = true
  wt : d.weight ≤ N
structure Okds (ds : List PyData) (k N : Nat) : Prop where
  sh : PyData.showableAll ds = true
  nd : PyData.hasDictAll ds = false
  dp : PyData.depthAll ds ≤ k
  ls : PyData.leavesShortAll 13 ds = true
  wt : PyData.weightAll ds ≤ N
theorem Okds.nil {k : Nat} : Okds [] k 0 := ⟨rfl, rfl, Nat.zero_le _, rfl, Nat.le_refl _⟩
theorem Okds.cons {d : PyData} {ds : List PyData} {k N M : Nat} (a : Okd d k N) (b : Okds ds k M) : Okds (d :: ds) k (N + 1 + M) where
  sh := by simp only [PyData.showableAll, a.sh, b.sh, Bool.and_true]
  nd := by simp only [PyData.hasDictAll, a.nd, b.nd, Bool.or_false]
  dp := by
    simp only [PyData.depthAll]
    exact Nat.max_le.mpr ⟨a.dp, b.dp⟩
  ls := by simp only [PyData.leavesShortAll, a.ls, b.ls, Bool.and_true]
  wt := by
    simp only [PyData.weightAll]
    have := a.wt
    have := b.wt
    omega
theorem Okds.list {ds : List PyData} {k N : Nat} (a : Okds ds k N) : Okd (.list ds) (k + 1) N :=
  ⟨by simp only [PyData.showable, a.sh], by simp only [PyData.hasDict, a.nd], by simp only [PyData.depth]; exact Nat.succ_le_succ a.dp, by simp only [PyData.leavesShort, a.ls], by simp only [PyData.weight]; exact a.wt⟩
theorem Okds.tuple {ds : List PyData} {k N : Nat} (a : Okds ds k N) : Okd (.tuple ds) (k + 1) N :=
  ⟨by simp only [PyData.showable, a.sh], by simp only [PyData.hasDict, a.nd], by simp only [PyData.depth]; exact Nat.succ_le_succ a.dp, by simp only [PyData.leavesShort, a.ls], by simp only [PyData.weight]; exact a.wt⟩
theorem Okd.int {i : Int} {k : Nat} (h : i.natAbs < 1000000000000) : Okd (.int i) k 41 := by
  have hl : i.natAbs.log2 < 40 ∨ i.natAbs = 0 := by
    by_cases h0 : i.natAbs = 0
    · exact .inr h0
    · exact .inl ((Nat.log2_lt h0).mpr (by omega))
  have hl : i.natAbs.log2 < 40 := hl.elim id fun e => by
    rw [e]
    decide
  refine ⟨decide_eq_true (by omega), rfl, Nat.zero_le _, ?_, ?_⟩
  · simp only [PyData.leavesShort]
    exact decide_eq_true (PyData.shown_int_le h)
  · simp only [PyData.weight]
    split <;> omega
theorem Okd.bool {b : Bool} {k : Nat} : Okd (.bool b) k 0 := ⟨rfl, rfl, Nat.zero_le _, rfl, Nat.le_refl _⟩
theorem Okd.none {k : Nat} : Okd .none k 0 := ⟨rfl, rfl, Nat.zero_le _, rfl, Nat.le_refl _⟩
theorem Okd.tx {bs : List Bool} {k : Nat} : Okd (.str (tx bs)) k bs.length := by
  refine ⟨rfl, rfl, Nat.zero_le _, ?_, ?_⟩
  · simp only [PyData.leavesShort]
    rw [tx_list, List.all_map, List.all_eq_true]
    intro b _
    cases b <;> decide
  · simp only [PyData.weight]
    exact Nat.le_of_eq (tx_len bs)
theorem Okds.ints : ∀ {ks : List Nat} {k : Nat}, (∀ j ∈ ks, j < 1000000000000) → Okds (ks.map dw) k (42 * ks.length)
  | [], k, _ => Okds.nil
  | a :: r, k, h => by
    have h1 : Okd (dw a) k 41 := Okd.int (i := (a : Int)) (h a (List.mem_cons_self ..))
    have h2 : Okds (r.map dw) k (42 * r.length) := Okds.ints fun j hj => h j (List.mem_cons_of_mem _ hj)
    have := Okds.cons h1 h2
    rw [List.length_cons, show 42 * (r.length + 1) = 41 + 1 + 42 * r.length by omega]
    exact this
theorem Okd.mono {d : PyData} {k k' N N' : Nat} (a : Okd d k N) (hk : k ≤ k') (hN : N ≤ N') : Okd d k' N' := ⟨a.sh, a.nd, Nat.le_trans a.dp hk, a.ls, Nat.le_trans a.wt hN⟩
theorem Okd.fits {d : PyData} {k N : Nat} (a : Okd d k N) (hN : N ≤ 1048576) : d.shown.length ≤ sizeLine := PyData.shown_fits (B := 13) (by decide) (by decide) a.ls (Nat.le_trans a.wt hN)
end HopR

set_option Elab.async false
set_option linter.all false
set_option maxRecDepth 100000
namespace HopR
open PySem PySem.Spec PyProof.Rows L2
/-! ### what repr tells, of data and of the empty dict -/
section
variable {X : Cx}
def rReprE : List V → Hp → VK → Prop := fun vs H Q => ∃ a : Addr, vs = [.ref a] ∧ H a = some (.dK []) ∧ Q (.str (PyData.shown (.dict []))) H
theorem cr_reprE (hG : X.A.guards = some []) (hu : X.A.units + 66 < cLine) : CallR X (.builtin "repr") rReprE := by
  rintro pins s σ H _ us Q I r ⟨a, rfl, ha, q⟩
  obtain ⟨u, rfl, rv⟩ := vals1 r
  cases (show u = Value.ref a from rv)
  obtain ⟨_, hsys, vs, kv, o, es, ep, at1, at2, at3, at4, at5, at6⟩ := (show ObjOk X.prog X.w H s.heap a (.dK []) from I.hok a _ ha)
  cases kv
  have e0 : es.toList = [] := by
    generalize es.toList = l at at5
    cases at5
    rfl
  have rd : Reads s.heap (.ref a) (.dict []) (a :: [] ++ []) := Reads.dict at1 at2.1 at3 (by rw [e0]; exact .nil) (by rw [e0]; exact .nil)
  refine repr_of_reads' rd (by decide) (fun _ hm => ?_) hG (by show X.A.units + (1 + 1) < cLine; omega) (fun _ _ e => e) (fun h' t tk hk => ⟨.str _, H, I.kept hk, ⟨_, rfl⟩, q⟩) (by decide +kernel)
  have : sysModules = a := by simpa using hm
  rw [this] at hsys
  simp at hsys
/-- repr(y): data, or {} -/
def rReprA (K : PySem.W.Frag) : List V → Hp → VK → Prop := fun vs H Q => rReprD K vs H Q ∨ rReprE vs H Q
theorem cr_reprA (hG : X.A.guards = some []) (hu : X.A.units + 66 < cLine) : CallR X (.builtin "repr") (rReprA X.K) := by
  intro pins s σ H xs us Q I r h
  rcases h with h | h
  · exact cr_reprD hG hu pins s σ H xs us Q I r h
  · exact cr_reprE hG hu pins s σ H xs us Q I r h
end
/-- repr tells z of y, now and later -/
def ShownA (K : PySem.W.Frag) (H : Hp) (y : V) (z : Str) : Prop := ∀ H', Same H H' → ∀ Q : VK, Q (.str z) H' → rReprA K [y] H' Q
theorem shownA_same {K : PySem.W.Frag} {H H' : Hp} {y : V} {z : Str} (s : Same H H') (h : ShownA K H y z) : ShownA K H' y z := fun H2 s2 => h H2 (s.trans s2)
theorem shownA_of {K : PySem.W.Frag} {H : Hp} {y : V} {d : PyData} (h1 : ∀ H', Same H H' → Dp K H' y d) (h2 : d.showable = true) (h3 : d.hasDict = false) (h4 : d.depth ≤ 64) (h5 : d.shown.length ≤ sizeLine) : ∃ z, ShownA K H y z := ⟨d.shown, fun H' s Q q => .inl ⟨y, d, rfl, h1 H' s, h2, h3, h4, h5, q⟩⟩
theorem shownA_non {K : PySem.W.Frag} {H : Hp} : ∃ z, ShownA K H .non z := shownA_of (d := .none) (fun _ _ => .non) rfl rfl (by decide) (by decide +kernel)
theorem shownA_bl {K : PySem.W.Frag} {H : Hp} {b : Bool} : ∃ z, ShownA K H (.bl b) z := shownA_of (d := .bool b) (fun _ _ => .bl b) rfl rfl (by show 0 ≤ 64; decide) (by cases b <;> decide +kernel)
theorem shownA_0 {K : PySem.W.Frag} {H : Hp} : ∃ z, ShownA K H (.str "0") z := shownA_of (d := .str "0") (fun _ _ => .str "0") rfl rfl (by show 0 ≤ 64; decide) (by decide +kernel)
theorem shownA_int {K : PySem.W.Frag} {H : Hp} {i : Int} (h : i.natAbs < 1000000000000) : ∃ z, ShownA K H (.int i) z := by
  have o : Okd (.int i) 0 41 := Okd.int h
  exact shownA_of (d := .int i) (fun _ _ => .int i) o.sh o.nd (Nat.le_trans o.dp (by decide)) (o.fits (by decide))
theorem shownA_30 {K : PySem.W.Frag} {H : Hp} : ∃ z, ShownA K H (.int 1000000000000000000000000000000) z := shownA_of (d := .int _) (fun _ _ => .int _) (by decide +kernel) rfl (by show 0 ≤ 64; decide) (by decide +kernel)
theorem shownA_lst {K : PySem.W.Frag} {H : Hp} {p : Addr} {k : Nat} (h : k < 1000) (e : H p = some (.lst [wv k])) : ∃ z, ShownA K H (.ref p) z := by
  have o : Okd (.list ([k].map dw)) 1 (42 * 1) := (Okds.ints (ks := [k]) (k := 0) fun j hj => by
    obtain rfl := List.mem_singleton.mp hj
    omega).list
  exact shownA_of (d := .list ([k].map dw)) (fun H' s => .lst (SqL.of (s _ _ e)) (dp_walls [k])) o.sh o.nd (Nat.le_trans o.dp (by decide)) (o.fits (by decide))
theorem shownA_tup {K : PySem.W.Frag} {H : Hp} {p : Addr} {k : Nat} (h : k < 1000) (e : H p = some (.tup [wv k])) : ∃ z, ShownA K H (.ref p) z := by
  have o : Okd (.tuple ([k].map dw)) 1 (42 * 1) := (Okds.ints (ks := [k]) (k := 0) fun j hj => by
    obtain rfl := List.mem_singleton.mp hj
    omega).tuple
  exact shownA_of (d := .tuple ([k].map dw)) (fun H' s => .tup (SqT.of (s _ _ e)) (dp_walls [k])) o.sh o.nd (Nat.le_trans o.dp (by decide)) (o.fits (by decide))
theorem shownA_dK {K : PySem.W.Frag} {H : Hp} {p : Addr} (e : H p = some (.dK [])) : ∃ z, ShownA K H (.ref p) z := ⟨_, fun H' s Q q => .inr ⟨p, rfl, s _ _ e, q⟩⟩
end HopR

set_option Elab.async false
set_option linter.all false
set_option maxRecDepth 100000
namespace HopR
open PySem PySem.Spec PyProof.Rows L2
/-! ### C(e, ..) in a try, where __init__ may raise -/
def tMakeS (C : Addr) (sp : Sp) (E : L2.St → XK) (t : TA) : TE := fun σ H Q => t σ H fun vs H1 => ∀ x dx, H1 x = none → H1 dx = none → dx ≠ x → sp (.ref x :: vs) (upd (upd H1 dx (.own x)) x (.ins C dx [])) (fun v H2 => v = .non ∧ Q (.ref x) H2) (E σ)
section
variable {X : Cx} {CX : CXT} {k : Nat} {f C : Addr} {fd : FuncData} {ps : List Str} {sp : Sp} {E : L2.St → XK} {x : Str} {p pos : Pos} {e : Expr} {es : List Expr} {t : TA}
theorem pe_makeS (M : Mk X.K C f) (F : FnOk X.prog X.w X.K X.mg X.base CX k f fd ps sp) (hr : Room (k + 1) X.A) (hg : Gl X x) (hm : X.mg x = some (.ref C)) (hb : Binds X.K fd ps []) (hx : ∀ σ, PassesAt CX X σ (E σ))
    (ha : PA X (e :: es) t) (hdb : (x == ("__debug__" : Str)) = false := by decide) (he : starEach (e :: es) X.env = (false, eval e X.env) :: starEach es X.env := by rfl) (hpl : (backTo pos (starEach es X.env)).any (·.1) = false := by rfl) :
    PE X (.Call (.Name x p) (e :: es) [] pos) (tMakeS C sp E t) := by
  constructor
  intro pins s0 σ H0 Q I0 h0
  refine wpAny_Call_Name_kw (ld_glob I0 hg hm ?_ hdb)
  refine PySem.W.callWith_K (h₀ := X.base) I0.ok.mod.kin M.kp ?_ he hpl
  refine thn (ha.run pos pins s0 σ H0 _ I0 h0) ?_
  rintro us s ⟨vs, H, I, r, h⟩
  refine ⟨I.kIn, ?_⟩
  have hq := h (s.heap.objs.size + 1) s.heap.objs.size (I.hok.fresh (Nat.le_succ _)) (I.hok.fresh (Nat.le_refl _)) (Nat.ne_of_lt (Nat.lt_succ_self _))
  have J := Inv.made (C := C) I
  have r2 : Vals (V.ref (s.heap.objs.size + 1) :: vs) (Value.ref (s.heap.objs.size + 1) :: us) := .cons rfl r
  have hl : (Value.ref (s.heap.objs.size + 1) :: us).length = ps.length := r2.length.symm.trans (F.len _ _ _ _ hq)
  have hbi := hb _ (Value.ref (s.heap.objs.size + 1) :: us) J.kIn (by rw [List.append_nil]; exact hl)
  rw [List.append_nil] at hbi
  have run := F.run _ X.stack _ _ ⟨Value.ref (s.heap.objs.size + 1) :: us, []⟩ _ _ _ (E σ) (hr.make C us []) (J.env0.make C us []) hbi r2 hq
  refine wpAny_call (make_map (f := f) I.kIn M.makes M.init (beq_iff_eq.mp M.fn) (codeAny_mono run ?_))
  intro r s' hq'
  match r, hq' with
  | .error e, hq' => exact hx σ pins _ _ e s' J hq'
  | .ok (.ret u), hq' =>
    obtain ⟨v, H', I3, rv, ev, q3⟩ := J.after hq'
    subst ev
    exact ⟨rv, V.ref (s.heap.objs.size + 1), H', I3, rfl, q3⟩
  | .ok .next, hq' => exact hq'.elim
  | .ok .brk, hq' => exact hq'.elim
  | .ok .cont, hq' => exact hq'.elim
end
end HopR

set_option Elab.async false
set_option linter.all false
set_option maxRecDepth 100000
namespace HopR
open PySem PySem.Spec PyProof.Rows L2
/-! ### o.m(e, ..) in a try, where the method may raise: the wish may speak of the names' values -/
def tMethT (C : Addr) (m : Str) (sp : Sp) (E : L2.St → XK) (to : TE) (t : TA) : TE := fun σ H Q => to σ H fun x H1 => ∃ a dx fs, x = .ref a ∧ H1 a = some (.ins C dx fs) ∧ fs.lookup m = none ∧ t σ H1 fun vs H2 => sp (.ref a :: vs) H2 Q (E σ)
section
variable {X : Cx} {CX : CXT} {k : Nat} {f C : Addr} {fd : FuncData} {ps : List Str} {sp : Sp} {E : L2.St → XK} {m : Str} {apos pos : Pos} {o e : Expr} {es : List Expr} {to : TE} {t : TA}
theorem pe_methT {pl : Sem Bool} (ho : PE X o to) (c : Cls X.K C) (hm : Meth X.K C m f) (F : FnOk X.prog X.w X.K X.mg X.base CX k f fd ps sp) (hr : Room k X.A) (hb : Binds X.K fd ps []) (hx : ∀ σ, PassesAt CX X σ (E σ)) (ha : PA X (e :: es) t)
    (h1 : starEach (e :: es) X.env = (false, eval e X.env) :: starEach es X.env := by rfl) (h2 : (backTo pos (starEach es X.env)).any (·.1) = false := by rfl)
    (h3 : eval (.Call (.Attribute o m apos) (e :: es) [] pos) X.env = (do
      let ov ← eval o X.env
      standAt apos.atName
      let (g, first) ← holding [ov] (getMethod ov m pl)
      callWith pos g first (backTo pos (starEach (e :: es) X.env)) (backToKw pos (keywordEach [] X.env))) := by rfl) :
    PE X (.Call (.Attribute o m apos) (e :: es) [] pos) (tMethT C m sp E to t) := by
  constructor
  intro pins s0 σ H0 Q I0 h0
  refine PySem.W.methodCall_KW (pl := pl) (thn (ho.run pins s0 σ H0 _ I0 h0) ?_) h3
  rintro u s1 ⟨x, H1, I1, rx, a, dx, fs, rfl, ea, no, q⟩
  cases (show u = Value.ref a from rx)
  refine getmeth_ok I1 ea c hm no ?_
  refine PySem.W.callWith_K (first := [.ref a]) (h₀ := X.base) I0.ok.mod.kin hm.kp (thn (ha.run pos pins s1 σ H1 _ I1 q) ?_) h1 h2
  rintro us s ⟨vs, H, I, r, prom⟩
  refine ⟨I.kIn, ?_⟩
  have vals : Vals (V.ref a :: vs) (Value.ref a :: us) := .cons rfl r
  have len : (Value.ref a :: us).length = ps.length := vals.length.symm.trans (F.len _ _ _ _ prom)
  have bound := hb s (Value.ref a :: us) I.kIn (by rw [List.append_nil]; exact len)
  rw [List.append_nil] at bound
  refine wpAny_call (codeAny_mono (F.run X.A X.stack s H ⟨Value.ref a :: us, []⟩ _ _ Q (E σ) hr I.env0 bound vals prom) ?_)
  intro res s' z
  match res, z with
  | .error er, z => exact hx σ pins _ _ er s' I z
  | .ok (.ret _), z => exact I.after z
  | .ok .next, z => exact z.elim
  | .ok .brk, z => exact z.elim
  | .ok .cont, z => exact z.elim
end
end HopR

set_option Elab.async false
set_option linter.all false
set_option maxRecDepth 100000
namespace HopR
open PySem PySem.Spec PyProof.Rows L2
/-! ### repr of a list that holds own objects beside data -/
section
variable {X : Cx}
/-- what repr tells of an item of the list at L, n defs deep, now and later -/
def Itm (X : Cx) (n : Nat) (L : Addr) (H : Hp) (x : V) (t : Str) : Prop :=
  ∀ (pins : List (Addr × Obj)) (σ : L2.St) (H1 : Hp) (s : Shared) (u : Value) (base : Nat) (A : Around) (g : List Code) (Q : Str → Shared → Prop), Same H H1 → Inv X pins σ H1 s → RelV x u → base + t.length ≤ sizeLine →
    Room n A → A.frames = X.A.frames → A.guards = some g → (∀ b, b ≠ L → Clear g b) → (∀ s' H2, Inv X pins σ H2 s' → Same H1 H2 → Q t s') → wpAny (model X.prog X.w) A (pyReprUnder base u) Q X.xe s
theorem vals_has {p : Addr} : ∀ {xs : List V} {us : List Value}, Vals xs us → V.ref p ∈ xs → Value.ref p ∈ us
  | _, _, .cons (a := x) (b := y) r t, h => by
    rcases List.mem_cons.mp h with e | h
    · rw [← e] at r
      cases (show y = Value.ref p from r)
      exact List.mem_cons_self ..
    · exact List.mem_cons_of_mem _ (vals_has t h)
theorem all_read {h : Heap} {v : Value} : ∀ {us : List Value} {ds : List PyData} {as : List Addr}, ReadsAll h us ds as → v ∈ us → ∃ d as', Reads h v d as'
  | _, _, _, .cons r t, hm => by
    rcases List.mem_cons.mp hm with e | hm
    · rw [e]
      exact ⟨_, _, r⟩
    · exact all_read t hm
/-- an own object is no datum -/
theorem no_datum {pins : List (Addr × Obj)} {σ : L2.St} {H : Hp} {s : Shared} {p C dx : Addr} {fs : List (Str × V)} (I : Inv X pins σ H s) (hp : H p = some (.ins C dx fs)) {d : PyData} {as : List Addr} : ¬ Reads s.heap (.ref p) d as := by
  obtain ⟨_, J, _⟩ := ins_get I.hok hp
  obtain ⟨od, J, _⟩ := J.look
  have h1 := J.at_
  have h2 := J.cls
  intro r
  cases r with
  | list a b _ _ =>
    rw [h1] at a
    cases a
    rw [h2] at b
    cases b
  | tuple a b _ _ =>
    rw [h1] at a
    cases a
    rw [h2] at b
    cases b
  | dict a b _ _ _ =>
    rw [h1] at a
    cases a
    rw [h2] at b
    cases b
/-- nor is a list that holds one -/
theorem no_datumL {pins : List (Addr × Obj)} {σ : L2.St} {H : Hp} {s : Shared} {L p C dx : Addr} {xs : List V} {fs : List (Str × V)} (I : Inv X pins σ H s) (hL : H L = some (.lst xs)) (hm : V.ref p ∈ xs) (hp : H p = some (.ins C dx fs)) {d : PyData} {as : List Addr} : ¬ Reads s.heap (.ref L) d as := by
  obtain ⟨its, rv, ⟨o, k, ho, hc, hs, hd⟩, _⟩ := I.list (SqL.of hL)
  have hi := vals_has rv hm
  intro r
  cases r with
  | list a _ c e =>
    rw [ho] at a
    cases a
    rw [hd] at c
    cases c
    obtain ⟨d', as', r'⟩ := all_read e (by simpa using hi)
    exact no_datum I hp r'
  | tuple a b _ _ =>
    rw [ho] at a
    cases a
    rw [hc] at b
    exact absurd (Value.type.inj b) (by decide)
  | dict a b _ _ _ =>
    rw [ho] at a
    cases a
    rw [hc] at b
    exact absurd (Value.type.inj b) (by decide)
theorem itm_data {n : Nat} {L : Addr} {H : Hp} {x : V} {d : PyData} (hd : ∀ H1, Same H H1 → Dp X.K H1 x d) (hs : d.showable = true) (hn : d.hasDict = false) (hdep : d.depth ≤ 64) (hz : d.shown.length ≤ sizeLine)
    (hL : ∀ pins σ H1 s, Same H H1 → Inv X pins σ H1 s → ∀ e as, ¬ Reads s.heap (.ref L) e as) : Itm X n L H x d.shown := by
  intro pins σ H1 s u base A g Q sm I ru hb room fr hg hcl hQ
  obtain ⟨as, rd⟩ := Dp.reads I d x u (hd H1 sm) ru
  obtain ⟨bs, few, tells⟩ := ReprK.of_reads (prog := X.prog) (w := X.w) rd hs (fun e => absurd (hn.symm.trans e) (by decide)) hz
  refine tells base hb A g X.xe s Q hg (fun b hb' => hcl b fun e => ?_) (by have := room.un; omega) (fun _ _ e => e) (fun h' tk hk => hQ _ H1 (I.kept hk) (Same.refl _))
  obtain ⟨d', as', r', _⟩ := few b hb'
  rw [e] at r'
  exact hL _ _ _ _ sm I _ _ r'
/-- a special method found in an own class, called by `last` -/
theorem special_own {M : Model} {A : Around} {E : Value → Shared → Prop} {s : Shared} {K : PySem.W.Frag} {x C f : Addr} {ox : Obj} {od : Option Obj} {name : Str} {last : Value → List Value → Sem Value} {Q : Option Value → Shared → Prop} (kin : K.In s.heap) (J : PySem.W.InstAt s.heap x ox C od)
    (has : PySem.W.findIn K (.ref C) name = some (some (.ref f))) (fn : PySem.W.isFn K (.ref f) = true) (run : wpAny M A (last (.ref f) [.ref x]) (fun v => Q (some v)) E s) : wpAny M A (callSpecialIfBoundBy? last (.ref x) name) Q E s := by
  have tell : wpAny M A (do let v ← last (.ref f) [.ref x]; pure (some v)) Q E s := wpAny_bind (wpAny_mono run (fun _ _ h => wpAny_pure h) fun _ _ h => h)
  have bound := PySem.W.bind_fn (M := M) kin (.ref x) (beq_iff_eq.mp fn)
  unfold callSpecialIfBoundBy? bindSpecialIfBound?
  refine wpAny_holding (wpAny_bind (wpAny_bind (wpAny_bind (J.type.here ((PySem.W.looks_findIn kin has).here (wpAny_bind (wpAny_askSetting (wpAny_ite ?_))))))))
  split
  · exact wpAny_bind (bound.here (wpAny_pure tell))
  · exact wpAny_tryCatch (wpAny_bind (bound.here (wpAny_pure tell)))
theorem itm_own {CX : CXT} {k n : Nat} {L a C dx f : Addr} {H : Hp} {fs : List (Str × V)} {fd : FuncData} {ps : List Str} {sp : Sp} {E : XK} {t : Str} (ha : H a = some (.ins C dx fs)) (rep : PySem.W.findIn X.K (.ref C) "__repr__" = some (some (.ref f))) (fn : PySem.W.isFn X.K (.ref f) = true)
    (F : FnOk X.prog X.w X.K X.mg X.base CX k f fd ps sp) (kn : k ≤ n) (bind : Binds X.K fd ps []) (lets : Passes CX X E) (prom : ∀ H1, Same H H1 → sp [.ref a] H1 (fun v H2 => v = .str t ∧ Same H1 H2) E) : Itm X n L H (.ref a) t := by
  intro pins σ H1 s u base A g Q sm I ru hb room fr hg hcl hQ
  cases (show u = Value.ref a from ru)
  obtain ⟨_, J, _⟩ := ins_get I.hok (sm _ _ ha)
  obtain ⟨od, J, _⟩ := J.look
  have un := room.un
  refine wpAny_pyReprUnder_ref (by omega) ?_
  unfold pyReprObjUnder pyReprObjBy
  refine wpAny_bind (wpAny_cRoomFor (by omega) (wpAny_bind (wpAny_bind (J.type.here ((PySem.W.looks_findIn I.kIn rep).here ?_)))))
  show wpAny _ _ (if (some (Value.ref f)).isNone = true then _ else _) _ _ _
  rw [if_neg (by simp)]
  refine wpAny_bind (special_own I.kIn J rep fn (thn (call_at F (room.mono kn) fr bind lets I (us := [.ref a]) (vs := [.ref a]) (.cons rfl .nil) (prom H1 sm)) ?_))
  rintro v s' ⟨z, H', I', rz, rfl, sm'⟩
  obtain ⟨tk, rfl⟩ := rz
  exact wpAny_bind (wpAny_isInstance (T := "str") (b := true) rfl isSubtype_str_str (wpAny_pure ⟨_, _, rfl, hQ s' H' I' sm'⟩))
theorem vals_at : ∀ {xs : List V} {us : List Value}, Vals xs us → ∀ (i : Nat) x u, xs[i]? = some x → us[i]? = some u → RelV x u
  | _, _, .cons r t, 0, x, u, h1, h2 => by
    cases h1
    cases h2
    exact r
  | _, _, .cons r t, i + 1, x, u, h1, h2 => vals_at t i x u h1 h2
theorem texts_of : ∀ {ts : List Str} {us : List Value}, Vals (ts.map V.str) us → ∃ l : List (Str × Tok), us = strValues l ∧ l.map (·.1) = ts
  | [], _, h => by
    cases h
    exact ⟨[], rfl, rfl⟩
  | t :: ts, _, h => by
    cases h with
    | cons r h =>
      obtain ⟨k, rfl⟩ := r
      obtain ⟨l, rfl, e⟩ := texts_of h
      exact ⟨(t, k) :: l, rfl, by rw [List.map_cons, e]⟩
theorem room_loop {k : Nat} {A : Around} (r : Room (k + 1) A) (args : Args) : Room k (A.under (.builtin "list.__repr__.loop" args)) :=
  ⟨r.hd, by
    have := r.dp
    have e : (A.under (.builtin "list.__repr__.loop" args)).depth ≤ A.depth + 1 := by
      first | exact Nat.le_refl _ | (simp [Around.under, Code.weight, Code.isCreation, Code.isGuard, Code.isCaller, Code.frames, Code.isFrame, guardIds])
    omega, by
    have := r.un
    rw [units_under_list_loop]
    omega⟩
theorem frames_loop {A : Around} (args : Args) : (A.under (.builtin "list.__repr__.loop" args)).frames = A.frames := by
  first | rfl | simp [Around.under, Code.envs, Code.isFrame, pushEnvs]
/-- all turns of the list's repr, the texts so far at P -/
theorem turns {A : Around} {n : Nat} {L P : Addr} {H : Hp} {xs : List V} {ts : List Str} {R : Result → Shared → Prop} (hg : A.guards = some []) (room : Room (n + 1) A) (fr : A.frames = X.A.frames) (hP : H P = none) (hL : H L = some (.lst xs)) (len : ts.length = xs.length)
    (tell : ∀ (i : Nat) x t, xs[i]? = some x → ts[i]? = some t → Itm X n L H x t) (fits : (listText ts).length ≤ sizeLine) (bad : ∀ e s', X.xe e s' → R (.error e) s') {pins : List (Addr × Obj)} {σ : L2.St}
    (good : ∀ s' H2 u, Inv X pins σ H2 s' → Same H H2 → R (.ok (.ret (.str (listText ts) u))) s') :
    ∀ (k i : Nat) (H1 : Hp) (s : Shared), xs.length - i = k → i ≤ xs.length → Inv X pins σ H1 s → Same H H1 → H1 P = some (.lst ((ts.take i).map V.str)) →
      codeAny (model X.prog X.w) A (.builtin "list.__repr__.loop" ⟨[.ref L, rawInt i, .ref P, rawInt ((piled (ts.take i) : Nat) : Int)], []⟩) R s := by
  have few := textFrom_len ts 0 "["
  have whole : (listText ts).length = (textFrom 0 "[" ts).length + 1 := by
    show (textFrom 0 "[" ts ++ "]").length = _
    rw [strLen_append]
    rfl
  intro k
  induction k with
  | zero =>
    intro i H1 s hk hi I sm eP
    obtain ⟨its, rv, ⟨o, m, ho, _, _, hd⟩, _⟩ := I.list (SqL.of (sm _ _ hL))
    obtain ⟨its2, rv2, ⟨o2, m2, ho2, _, _, hd2⟩, _⟩ := I.list (SqL.of eP)
    obtain ⟨l, el, e1⟩ := texts_of rv2
    have none_ : its.toArray[i]? = none := by
      have := rv.length
      simp
      omega
    rw [List.take_of_length_le (by omega)] at e1
    refine codeAny_builtin F.entry_list_repr_loop ?_
    show wpAny _ _ (Builtin.«list.__repr__.loop» ⟨[.ref L, .int i 0, .ref P, .int ((piled (ts.take i) : Nat) : Int) 0], []⟩) _ _ s
    rw [repr_loop_tree]
    refine wpAny_bind (wpAny_listItems ho hd ?_)
    rw [Int.toNat_natCast]
    simp only [none_]
    unfold reprEnd
    refine wpAny_bind (wpAny_listItems ho2 hd2 ?_)
    rw [show its2.toArray.toList = strValues l from el, repr_fold, e1]
    exact wpAny_bind (wpAny_pure (wpAny_bind (wpAny_mkStr (wpAny_pure (good _ H1 _ (I.tok _) sm)) fits)))
  | succ k ih =>
    intro i H1 s hk hi I sm eP
    have hlt : i < xs.length := by omega
    obtain ⟨its, rv, ⟨o, m, ho, _, _, hd⟩, _⟩ := I.list (SqL.of (sm _ _ hL))
    have hli := rv.length
    obtain ⟨t, ht⟩ : ∃ t, ts[i]? = some t := ⟨ts[i]'(by omega), List.getElem?_eq_getElem _⟩
    obtain ⟨x, hx⟩ : ∃ x, xs[i]? = some x := ⟨xs[i], List.getElem?_eq_getElem hlt⟩
    have here : its.toArray[i]? = some (its[i]'(by omega)) := by simp
    have rel : RelV x (its[i]'(by omega)) := vals_at rv i _ _ hx (List.getElem?_eq_getElem _)
    have p1 := piled_take_succ ht
    have p2 := piled_take_le ts (i + 1)
    have p3 := piled_le_listText ts
    refine codeAny_builtin F.entry_list_repr_loop ?_
    show wpAny _ _ (Builtin.«list.__repr__.loop» ⟨[.ref L, .int i 0, .ref P, .int ((piled (ts.take i) : Nat) : Int) 0], []⟩) _ _ s
    rw [repr_loop_tree]
    refine wpAny_bind (wpAny_listItems ho hd ?_)
    rw [Int.toNat_natCast]
    simp only [here]
    rw [Int.toNat_natCast]
    refine wpAny_bind (wpAny_holding (wpAny_mono (tell i x t hx ht pins σ H1 s _ (piled (ts.take i) + 1) _ _ _ sm I rel (by omega) (room_loop room _) ((frames_loop _).trans fr) (guards_under_guard (isGuard_list_loop _) hg) (fun b hb => (Clear.nil b).cons (a := L) fun e => hb e.symm) ?_) (fun _ _ h => h) bad))
    intro s' H2 I2 sm2
    refine wpAny_bind (wpAny_mkStr ?_ (Nat.le_trans (few.2.1 t (List.mem_of_getElem? ht)) (by omega)))
    refine wpAny_bind ?_
    show wpAny _ _ (updateSeq P _) _ _ _
    have eP2 := sm2 _ _ eP
    obtain ⟨hz2, its2, n2, rv2, e2⟩ := (show ObjOk X.prog X.w H2 s'.heap P (.lst ((ts.take i).map V.str)) from I2.hok P _ eP2)
    have hl2 := rv2.length
    have hl3 : ((ts.take i).map V.str).length = i := by
      rw [List.length_map, List.length_take]
      omega
    have few1 := few.1
    rw [if_neg (Nat.lt_irrefl 0)] at few1
    refine wpAny_updateSeq e2 rfl (wpAny_pure ⟨F.quiet_list_repr_loop _, ?_⟩) (by rw [List.size_toArray]; omega) (by rw [Array.size_push, List.size_toArray]; omega)
    have i1 : ((i : Int) + 1) = ((i + 1 : Nat) : Int) := by omega
    have i2 : piled (ts.take i) + (t.length + 2) = piled (ts.take (i + 1)) := by omega
    rw [i1, i2]
    have et : (ts.take (i + 1)).map V.str = (ts.take i).map V.str ++ [V.str t] := by
      rw [List.take_add_one, ht, List.map_append]
      rfl
    refine ih (i + 1) (upd H2 P (.lst ((ts.take (i + 1)).map V.str))) _ (by omega) hlt (I2.write (e := P) (by rw [eP2]; trivial) (.inl rfl) (fun b u hb q => (Heap.get?_update_other _ _ (Ne.symm hb)).trans q) ⟨_, Heap.get?_update_self _ e2 rfl⟩ ⟨?_, its2 ++ [.str t s'.toks], n2 + 1, ?_, ?_⟩) (same_new hP (sm.trans sm2)) upd_same
    · rw [et, List.length_append, hl3]
      show i + 1 ≤ sizeLine
      omega
    · rw [et]
      exact rv2.append (.cons ⟨_, rfl⟩ .nil)
    · refine (Heap.get?_update_self _ e2 rfl).trans ?_
      simp [Obj.mapSeq]
/-- repr(xs), xs no empty list, of data and of own objects -/
def rReprL (X : Cx) (n : Nat) : List V → Hp → VK → Prop := fun vs H Q => ∃ (L : Addr) (x : V) (xs : List V) (ts : List Str), vs = [.ref L] ∧ H L = some (.lst (x :: xs)) ∧ ts.length = (x :: xs).length ∧ (∀ (i : Nat) y t, (x :: xs)[i]? = some y → ts[i]? = some t → Itm X n L H y t) ∧
  (listText ts).length ≤ sizeLine ∧ ∀ H', Same H H' → Q (.str (listText ts)) H'
theorem cr_reprL {n : Nat} (hG : X.A.guards = some []) (room : Room (n + 3) X.A) : CallR X (.builtin "repr") (rReprL X n) := by
  rintro pins s σ H _ us Q I r ⟨L, x, xs, ts, rfl, hL, len, tell, fits, q⟩
  obtain ⟨u, rfl, rv⟩ := vals1 r
  cases (show u = Value.ref L from rv)
  obtain ⟨its, rv2, ⟨o, m, ho, hc, _, hd⟩, _⟩ := I.list (SqL.of hL)
  have un := room.un
  have type : s.TypeIs (.ref L) "list" := ⟨o, ho, hc⟩
  have nP : H s.heap.objs.size = none := I.hok.fresh (Nat.le_refl _)
  cases rv2 with
  | cons r1 r2 =>
    refine call_repr_slot (by omega) type F.slot_list_repr.toG ?_
    refine wpAny_call (codeAny_call_builtin F.slot_list_repr.plain F.entry_list_repr (F.slot_list_repr.check _ _ _ _ _ _ _ _ type (F.args_list_repr_1 _) ?_))
    refine wpAny_list_repr_head (A := X.A.in1.in1) hG (fun _ _ _ h => nomatch h) ho hd ?_
    refine wpAny_bind (m := newList []) (wpAny_newObj_type (wpAny_pure ⟨F.quiet_list_repr_loop _, ?_⟩))
    refine turns (A := X.A.in1) (n := n) hG (Room.mono (k := n + 2) (j := n + 1) room.in1 (Nat.le_succ _)) rfl nP hL len tell fits ?bad (pins := pins) (σ := σ) ?good _ 0 (upd H s.heap.objs.size (.lst [])) _ rfl (Nat.zero_le _) (I.laid (t' := s.toks) (fun b o e => Heap.get?_push_of_some _ e) (Nat.le_refl _) ⟨Nat.zero_le _, [], 0, .nil, Heap.get?_push_size _ rfl⟩) (same_upd nP) upd_same
    case bad => exact fun e s' h => h
    case good => exact fun s' H2 u I2 sm => ⟨_, _, rfl, .str _, H2, I2, ⟨_, rfl⟩, q H2 sm⟩
end
end HopR

set_option Elab.async false
set_option linter.all false
set_option maxRecDepth 100000
set_option exponentiation.threshold 200000
namespace Hop
open PySem L2 HopR
open C8 (InsC call_isC)
section
variable {P : Program} {w : World} {K : PySem.W.Frag} {mg : Str → Option Value} {base : Heap} {C W d : Addr} {es : Array DictEntry} {n : Nat}
variable {HE NN NR NP NS NW NL fI : Addr} {gI : FuncData}
variable {fi f1 f2 r1 r2 r3 r4 r6 p1 p2 p3 p4 fp ft fo fz fc : Addr} {gi g1 g2 s1 s2 s3 s4 s6 q1 q2 q3 q4 gp gt go gz gc : FuncData} {d1 : Value}
/-- the refusals over ValueError -/
structure Ev (K : PySem.W.Frag) (mg : Str → Option Value) (HE NN NR NP NS NW NL : Addr) : Prop where
  ve : mg "ValueError" = none
  gNN : mg "NoNumber" = some (.ref NN)
  gNR : mg "NoRow" = some (.ref NR)
  gNP : mg "NoPace" = some (.ref NP)
  gNS : mg "NoStep" = some (.ref NS)
  gNW : mg "NoWord" = some (.ref NW)
  R : Xc K NR bmV "ValueError.__new__"
  O : Xc K NP bmV "ValueError.__new__"
  S : Xc K NS bmV "ValueError.__new__"
  mR : PySem.W.exmOne K (.ref NR) (.ref HE) = some true
  mP : PySem.W.exmOne K (.ref NP) (.ref HE) = some true
  rA : PySem.W.kitAny K (.ref NR) [.ref NN, .ref NS, .ref NW] = some false
  pA : PySem.W.kitAny K (.ref NP) [.ref NN, .ref NS, .ref NW] = some false
  rV : PySem.W.kitOne K (.ref NR) (.type "ValueError") = some true
  pV : PySem.W.kitOne K (.ref NP) (.type "ValueError") = some true
  rB : PySem.W.kitAny K (.ref NR) [.ref NR, .ref NP] = some true
  pB : PySem.W.kitAny K (.ref NP) [.ref NR, .ref NP] = some true
  rP : PySem.W.kitOne K (.ref NR) (.ref NP) = some false
  sM : PySem.W.exmAny K (.ref NS) [.ref HE, .ref NL] = some true
  lM : PySem.W.exmAny K (.ref NL) [.ref HE, .ref NL] = some true
  sC : PySem.W.kitAny K (.ref NS) [.ref NR, .ref NN, .ref NL] = some false
  lI : PySem.W.kitOne K (.ref NL) (.type "IndexError") = some true
/-! ### is_whole, is_row, need_row of any thing -/
def spWh (K : PySem.W.Frag) : Sp := fun vs H Q _ => ∃ x, vs = [x] ∧ ((∃ i : Int, x = .int i ∧ Q (.bl true) H) ∨ (Odd K H x ∧ Q (.bl false) H))
theorem ok_wh {f : Addr} {fd : FuncData} {k : Nat} (F : Fun K "is_whole" "is_whole" sIsWhole f fd) (T : TxtP K mg C) : FnOk P w K mg base CX0 (k + 1) f fd ["thing"] (spWh K) := by
  refine F.ok scWhole (fun vs H Q E h => ?_) (fun cdv A outer s H vs Q E hr h => ?_)
  · obtain ⟨i, rfl, _⟩ := h
    rfl
  · obtain ⟨x, rfl, h⟩ := h
    refine ⟨_, pss_one (ps_ret (pe_and (pe_callB call_isi (by rfl) T.isi (by decide +kernel) (pa_cons (pv 0) (pa_cons (pe_bltn (v := .ty "int") (by rfl) T.int (by decide +kernel) rfl) pa_nil)))
      (pe_one (pe_not (pe_callB call_isi (by rfl) T.isi (by decide +kernel) (pa_cons (pv 0) (pa_cons (pe_bltn (v := .ty "bool") (by rfl) T.bool (by decide +kernel) rfl) pa_nil))))))), ?_⟩
    rcases h with ⟨i, rfl, q⟩ | ⟨⟨t, bI, ty, k1, k2⟩, q⟩
    · refine ⟨.int i, rfl, .int i, .ty "int", .type "int", .type "int", true, rfl, .ty _, .base (.int _), kit_ty (by decide +kernel), true, rfl, ?_⟩
      exact ⟨.int i, rfl, .int i, .ty "bool", .type "int", .type "bool", false, rfl, .ty _, .base (.int _), kit_ty (by decide +kernel), false, rfl, q⟩
    · refine ⟨x, rfl, x, .ty "int", t, .type "int", bI, rfl, .ty _, ty, k1, bI, rfl, ?_⟩
      cases bI with
      | false => exact q
      | true => exact ⟨x, rfl, x, .ty "bool", t, .type "bool", true, rfl, .ty _, ty, k2 rfl, true, rfl, q⟩
def spIsRowB (K : PySem.W.Frag) : Sp := fun vs H Q _ => ∃ x b, vs = [x] ∧ RowB K H x b ∧ ∀ H', Same H H' → Q (.bl b) H'
theorem ok_isrowB {f : Addr} {fd : FuncData} {k : Nat} (F : Fun K "is_row" "is_row" sIsRow f fd) (T : TxtR K w mg d es n) (ke : keysAre es) : FnOk P w K mg base CX0 (k + 1) f fd ["thing"] (spIsRowB K) := by
  refine F.ok scIsRow (fun vs H Q E h => ?_) (fun cdv A outer s H vs Q E hr h => ?_)
  · obtain ⟨x, b, rfl, _⟩ := h
    rfl
  · obtain ⟨x, b, rfl, hb, q⟩ := h
    have nd := scIsRow.nd
    obtain ⟨tm, gm⟩ := T.most
    refine ⟨_, pss_cons (ps_if (PW.pt (pw_or (pt_not (pt_val (pe_callB call_isi (by rfl) T.isi (by decide +kernel) (pa_cons (pv 0) (pa_cons (pe_bltn (v := .ty "str") (by rfl) T.str (by decide +kernel) rfl) pa_nil)))))
          (pw_or (pt_cmpR op_lt (pe_callB call_len_str (by rfl) T.len PySem.boot_len (pa_cons (pv 0) pa_nil)) pe_int (nomark _))
          (pw_or1 (pt_cmpR op_gt (pe_callB call_len_str (by rfl) T.len PySem.boot_len (pa_cons (pv 0) pa_nil)) (pe_glob (v := .int 30) (by rfl) gm ⟨_, rfl⟩) (nomark _))))))
        (pss_one (ps_ret pe_bl)) pss_nil)
      (pss_one (ps_ret (pe_callB (cr_all rfl) (by rfl) T.all (by decide +kernel) (pa_cons
        (pe_lc (own := [("sign", 1)]) (g := gName 1) (tt := tYes) (te := tOp (rInKd K d) (tVar 1) (tC (.ref d))) rfl nd (pi_str (pv 0)) (blkOk_by (own := [("sign", 1)]) (N := ["thing", "sign"]) (sc := defScope sIsRow) (by decide +kernel))
          (fun _ _ _ _ _ => pg_name (i := 1) nd rfl (Or.inl rfl)) (fun _ _ _ _ _ => pts_nil)
          (fun _ _ _ _ _ => pe_cmpR (op_inKd T.D) (pv 1) (pe_glob (v := .ref d) (by rfl) T.os rfl) (by rfl)))
        pa_nil)))), ?_⟩
    rcases hb with ⟨⟨t, ty, kt⟩, rfl⟩ | ⟨z, rfl, hz, rfl⟩
    · exact ⟨x, rfl, x, .ty "str", t, .type "str", false, rfl, .ty _, ty, kt, false, rfl, q H (Same.refl _)⟩
    · refine ⟨.str z, rfl, .str z, .ty "str", .type "str", .type "str", true, rfl, .ty _, .base (.str _), kit_ty (by decide +kernel), true, rfl, iteF ?_⟩
      refine ⟨.str z, rfl, z, rfl, fit hz, _, _, rfl, rfl, _, rfl, ?_⟩
      by_cases h1 : z.length < 1
      · rw [decide_eq_true (show (z.length : Int) < 1 by omega)]
        have e : isRowB z = false := by
          unfold isRowB
          rw [decide_eq_false (by omega)]
          rfl
        rw [e] at q
        exact q H (Same.refl _)
      rw [decide_eq_false (show ¬ (z.length : Int) < 1 by omega)]
      refine iteF ⟨.str z, rfl, z, rfl, fit hz, _, _, rfl, rfl, _, rfl, ?_⟩
      by_cases h2 : 30 < z.length
      · rw [decide_eq_true (show (z.length : Int) > 30 by omega)]
        have e : isRowB z = false := by
          unfold isRowB
          rw [decide_eq_false (show ¬ z.length ≤ 30 by omega)]
          simp
        rw [e] at q
        exact q H (Same.refl _)
      rw [decide_eq_false (show ¬ (z.length : Int) > 30 by omega)]
      refine iteF ⟨.str z, rfl, z, rfl, fun D hD => ?_⟩
      refine lc_it walk_str (fun i H3 => Same H H3 ∧ H3 D = some (.lst (((z.cps.toList.take i).map okc).map V.bl))) ⟨same_upd hD, upd_same⟩ (fun _ _ _ _ => trivial) ?_ ?_
      · rintro i x H3 H' hi ⟨sm, eD⟩ ⟨rfl, c, hc, rfl⟩
        obtain ⟨r, e1, e2⟩ := sign_in T.D.at_ ke c
        refine ⟨rfl, .str ⟨#[c]⟩, rfl, ⟨#[c]⟩, r, rfl, rfl, e1, _, eD, ?_, same_new hD sm, ?_⟩
        · rw [List.length_map, List.length_map]
          refine fit' (Nat.le_trans (List.length_take_le _ _) ?_)
          have : i < z.length := hi
          omega
        · rw [upd_same, e2, List.take_add_one, Array.getElem?_toList, hc, List.map_append, List.map_append]
          rfl
      · rintro H3 ⟨sm, eD⟩
        refine ⟨D, (z.cps.toList.map okc), rfl, SqL.of ?_, ?_⟩
        · rw [eD, List.take_of_length_le (by rw [Array.length_toList]; exact Nat.le_refl _)]
        · have e : (z.cps.toList.map okc).all id = isRowB z := by
            unfold isRowB
            rw [decide_eq_true (show 1 ≤ z.length by omega), decide_eq_true (show z.length ≤ 30 by omega), List.all_map]
            rfl
          rw [e]
          exact q H3 sm
def spNoRow (K : PySem.W.Frag) (NR : Addr) : Sp := fun vs H _ E => ∃ x, vs = [x] ∧ RowB K H x false ∧ ∀ H', Same H H' → E (.ref NR) none H'
theorem ok_norow {f f1 : Addr} {fd fd1 : FuncData} {k : Nat} (F : Fun K "need_row" "need_row" sNeedRow f fd) (N1 : Fn K mg "is_row" sIsRow ["thing"] f1 fd1) (T : TxtR K w mg d es n) (ke : keysAre es) (Z : Ev K mg HE NN NR NP NS NW NL) :
    FnOk P w K mg base (L2.CX P w) (k + 2) f fd ["thing"] (spNoRow K NR) := by
  have G1 : FnOk P w K mg base CX0 (k + 1) f1 fd1 ["thing"] (spIsRowB K) := ok_isrowB N1.F T ke
  refine F.okX scNeed (fun vs H Q E h => ?_) (fun cdv A outer s H vs Q E hr h => ?_)
  · obtain ⟨x, rfl, _⟩ := h
    rfl
  · obtain ⟨x, rfl, hb, q⟩ := h
    refine ⟨_, pss_one (ps_if (pt_not (pt_val (pe_call G1 hr (by rfl) N1.g N1.F.kp N1.b .nil pass0 (pa_cons (pv 0) pa_nil))))
      (pss_one (ps_raise rfl (takes_of rfl rfl rfl rfl) (pmk_own PySem.F.excBase_ValueError Z.R.x Z.gNR Z.R.k (raises_own Z.R.be Z.R.ty) rfl))) pss_nil), ?_⟩
    exact ⟨x, rfl, x, false, rfl, hb, fun H1 s1 => ⟨false, rfl, q H1 s1⟩⟩
/-! ### no pace -/
def NoPart (K : PySem.W.Frag) (C : Addr) (H : Hp) (x : V) : Prop := x ≠ .non ∧ ∃ t, TyX K H x t ∧ PySem.W.kitOne K t (.ref C) = some false
/-- what is no pace -/
def NoPc (K : PySem.W.Frag) (C : Addr) (H : Hp) (x : V) : Prop := NoPart K C H x ∨ ∃ a q, x = .ref a ∧ PA C H a q ∧ q.num < 1
theorem NoPc.same {H H' : Hp} {x : V} (s : Same H H') (h : NoPc K C H x) : NoPc K C H' x := by
  rcases h with ⟨n, t, ty, k⟩ | ⟨a, q, e, p, z⟩
  · exact .inl ⟨n, t, tyx_same s ty, k⟩
  · exact .inr ⟨a, q, e, p.same s, z⟩
def spNoPace (K : PySem.W.Frag) (C NP : Addr) : Sp := fun vs H _ E => ∃ x, vs = [x] ∧ NoPc K C H x ∧ ∀ H', Same H H' → E (.ref NP) none H'
theorem ok_nopace {f : Addr} {fd : FuncData} {k : Nat} (F : Fun K "pace_from" "pace_from" sPaceFrom f fd) (M : Mks K mg C fi f1 f2 gi g1 g2 d1) (T : TxtP K mg C) (Z : Ev K mg HE NN NR NP NS NW NL) : FnOk P w K mg base (L2.CX P w) (k + 4) f fd ["thing"] (spNoPace K C NP) := by
  refine F.okX scPaceFrom (fun vs H Q E h => ?_) (fun cdv A outer s H vs Q E hr h => ?_)
  · obtain ⟨x, rfl, _⟩ := h
    rfl
  · obtain ⟨x, rfl, hx, q⟩ := h
    rcases hx with ⟨hn, t, ty, kt⟩ | ⟨a, z, rfl, ⟨dx, ha⟩, hz⟩
    · refine ⟨_, pss_cons (ps_if (pt_cmpR op_isN (pv 0) pe_non (nomark _)) (pss_one ps_never) pss_nil)
        (pss_cons (ps_if (PW.pt (pw_or (pt_not (pt_val (pe_callB call_isi (by rfl) T.isi (by decide +kernel) (pa_cons (pv 0) (pa_cons (pe_glob (v := .ref C) (by rfl) T.mgC rfl) pa_nil))))) (pw_or1 (pt_cmpR op_lt (pe_fld (pv 0) rfl) pe_int (nomark _)))))
          (pss_one (ps_raise rfl (takes_of rfl rfl rfl rfl) (pmk_own PySem.F.excBase_ValueError Z.O.x Z.gNP Z.O.k (raises_own Z.O.be Z.O.ty) rfl))) pss_nil)
        (pss_one ps_never)), ?_⟩
      refine ⟨x, rfl, rfl, _, rfl, ?_⟩
      rw [decide_eq_false hn]
      exact iteF ⟨x, rfl, x, .ref C, t, .ref C, false, rfl, .own _, ty, kt, false, rfl, q H (Same.refl _)⟩
    · refine ⟨_, pss_cons (ps_if (pt_cmpR op_isN (pv 0) pe_non (nomark _)) (pss_one ps_never) pss_nil)
        (pss_cons (ps_if (PW.pt (pw_or (pt_not (pt_val (pe_callB (call_isC T.ins) (by rfl) T.isi (by decide +kernel) (pa_cons (pv 0) (pa_cons (pe_glob (v := .ref C) (by rfl) T.mgC rfl) pa_nil))))) (pw_or1 (pt_cmpR op_lt (pe_fld (pv 0) rfl) pe_int (nomark _)))))
          (pss_one (ps_raise rfl (takes_of rfl rfl rfl rfl) (pmk_own PySem.F.excBase_ValueError Z.O.x Z.gNP Z.O.k (raises_own Z.O.be Z.O.ty) rfl))) pss_nil)
        (pss_one ps_never)), ?_⟩
      refine ⟨.ref a, rfl, rfl, _, rfl, ?_⟩
      rw [decide_eq_false (fun z => nomatch z)]
      refine iteF ⟨.ref a, rfl, a, dx, _, rfl, ha, true, rfl, iteF ?_⟩
      refine ⟨.ref a, rfl, a, C, dx, _, _, rfl, ha, T.ins.cl, T.nT, pf_top z, _, _, rfl, rfl, _, rfl, ?_⟩
      rw [decide_eq_true (show z.num < 1 from hz)]
      exact q H (Same.refl _)
/-- the first pace is none, or the second -/
def spNoPaces (K : PySem.W.Frag) (C NP : Addr) : Sp := fun vs H _ E => ∃ x y, vs = [x, y] ∧ (NoPc K C H x ∨ (∃ q, Pw C H x q) ∧ NoPc K C H y) ∧ ∀ H', Same H H' → E (.ref NP) none H'
theorem ok_nopaces {f p1 : Addr} {fd q1 : FuncData} {k : Nat} (F : Fun K "paces_from" "paces_from" sPacesFrom f fd) (N1 : Fn K mg "pace_from" sPaceFrom ["thing"] p1 q1) (M : Mks K mg C fi f1 f2 gi g1 g2 d1) (T : TxtP K mg C) (Z : Ev K mg HE NN NR NP NS NW NL) : FnOk P w K mg base (L2.CX P w) (k + 5) f fd ["inn", "out"] (spNoPaces K C NP) := by
  have G1 : FnOk P w K mg base CX0 (k + 4) p1 q1 ["thing"] (spPaceFrom C) := ok_paceFrom N1.F M T
  have G2 : FnOk P w K mg base (L2.CX P w) (k + 4) p1 q1 ["thing"] (spNoPace K C NP) := ok_nopace N1.F M T Z
  refine F.okX scPacesFrom (fun vs H Q E h => ?_) (fun cdv A outer s H vs Q E hr h => ?_)
  · obtain ⟨x, y, rfl, _⟩ := h
    rfl
  · obtain ⟨x, y, rfl, hx, q⟩ := h
    have nd := scPacesFrom.nd
    rcases hx with hx | ⟨⟨z, hx⟩, hy⟩
    · refine ⟨_, pss_cons (ps_set (i := 2) nd rfl (.inl rfl) (pe_call G2 hr (by rfl) N1.g N1.F.kp N1.b .nil (passes_call (E := E) (takes_of rfl rfl rfl rfl) (fun _ _ _ _ h => h)) (pa_cons (pv 0) pa_nil))) (pss_one ps_never), ?_⟩
      exact ⟨x, rfl, x, rfl, hx, q⟩
    · refine ⟨_, pss_cons (ps_set (i := 2) nd rfl (.inl rfl) (pe_call G1 hr (by rfl) N1.g N1.F.kp N1.b .nil pass0 (pa_cons (pv 0) pa_nil)))
        (pss_one (ps_ret (pe_tup (pa_cons (pv 2) (pa_cons (pe_call G2 hr (by rfl) N1.g N1.F.kp N1.b .nil (passes_call (E := E) (takes_of rfl rfl rfl rfl) (fun _ _ _ _ h => h)) (pa_cons (pv 1) pa_nil)) pa_nil))))), ?_⟩
      exact ⟨x, rfl, x, z, rfl, hx, fun H1 a s1 p1 => ⟨.ref a, rfl, y, rfl, y, rfl, hy.same s1, fun H2 s2 => q H2 (s1.trans s2)⟩⟩
/-! ### Walk.__init__ refuses -/
def spNoWalk (K : PySem.W.Frag) (C NR NP : Addr) : Sp := fun vs H _ E => ∃ (v : Addr) (x y z : V), vs = [.ref v, x, y, z] ∧
  ((RowB K H x false ∧ ∀ H', Same H H' → E (.ref NR) none H') ∨ (∃ bs, x = .str (tx bs) ∧ Row bs ∧ (NoPc K C H y ∨ (∃ q, Pw C H y q) ∧ NoPc K C H z) ∧ ∀ H', Same H H' → E (.ref NP) none H'))
theorem ok_nowalk {f : Addr} {fd : FuncData} {k : Nat} (F : FunD K "__init__" "Walk.__init__" (defArgs sWInit) (defBody sWInit) (defScope sWInit) [.non, .non] [] f fd)
    (D : WDefs K mg C fi f1 f2 r1 r2 r3 r4 r6 p1 p2 p3 p4 fp ft fo fz gi g1 g2 s1 s2 s3 s4 s6 q1 q2 q3 q4 gp gt go gz d1) (T : TxtP K mg C) (TR : TxtR K w mg d es n) (ke : keysAre es) (Z : Ev K mg HE NN NR NP NS NW NL) : FnOk P w K mg base (L2.CX P w) (k + 6) f fd ["self", "row", "inn", "out"] (spNoWalk K C NR NP) := by
  have G1 : FnOk P w K mg base (L2.CX P w) (k + 5) r2 s2 ["thing"] (spNoRow K NR) := ok_norow D.N.R2.F D.N.R1 TR ke Z
  have G2 : FnOk P w K mg base CX0 (k + 5) r2 s2 ["thing"] spNeed := ok_need D.N.R2.F D.N.R1 TR
  have G3 : FnOk P w K mg base (L2.CX P w) (k + 5) p2 q2 ["inn", "out"] (spNoPaces K C NP) := ok_nopaces D.N.P2.F D.N.P1 D.N.M T Z
  refine F.ok scWInit (fun vs H Q E h => ?_) (fun cdv A outer s H vs Q E hr h => ?_)
  · obtain ⟨v, x, y, z, rfl, _⟩ := h
    rfl
  · obtain ⟨v, x, y, z, rfl, h⟩ := h
    rcases h with ⟨hx, q⟩ | ⟨bs, rfl, hR, hp, q⟩
    · refine ⟨_, pss_cons (ps_expr (pe_call G1 hr (by rfl) D.N.R2.g D.N.R2.F.kp D.N.R2.b .nil (passes_call (E := E) (takes_of rfl rfl rfl rfl) (fun _ _ _ _ h => h)) (pa_cons (pv 1) pa_nil))) (pss_cons ps_never (pss_cons ps_never (pss_cons ps_never (pss_one ps_never)))), ?_⟩
      exact ⟨x, rfl, x, rfl, hx, q⟩
    · refine ⟨_, pss_cons (ps_expr (pe_call G2 hr (by rfl) D.N.R2.g D.N.R2.F.kp D.N.R2.b .nil pass0 (pa_cons (pv 1) pa_nil)))
        (pss_cons (ps_asg (pe_call G3 hr (by rfl) D.N.P2.g D.N.P2.F.kp D.N.P2.b .nil (passes_call (E := E) (takes_of rfl rfl rfl rfl) (fun _ _ _ _ h => h)) (pa_cons (pv 2) (pa_cons (pv 3) pa_nil))) (pg_tup (by rfl) (pgs_cons (pg_fld (pv 0)) (pgs_cons (pg_fld (pv 0)) pgs_nil))))
        (pss_cons ps_never (pss_cons ps_never (pss_one ps_never)))), ?_⟩
      refine ⟨.str (tx bs), rfl, bs, rfl, hR, fun H1 s1 => ⟨y, rfl, z, rfl, y, z, rfl, ?_, fun H2 s2 => q H2 (s1.trans s2)⟩⟩
      rcases hp with h | ⟨⟨q, h⟩, h2⟩
      · exact .inl (h.same s1)
      · exact .inr ⟨⟨q, h.same s1⟩, h2.same s1⟩
end
end Hop

set_option Elab.async false
set_option linter.all false
set_option maxRecDepth 100000
namespace HopR
open PySem PySem.Spec PyProof.Rows L2
/-! ### sep.join(reversed(xs)), xs a list of texts -/
theorem gives_join (a : Str) : ∀ (l : List (Str × Tok)), Builtin.Str.tooLong ((l.map (·.1)).toArray.foldl (· + ·.length + a.length) 0) = false → Gives (joinTail a (strValues l)) (joinMade a l)
  | [], ok => gives_joinTail a [] ok
  | [p], ok => gives_joinTail a [p] ok
  | p :: q :: r, ok => gives_joinTail a (p :: q :: r) ok
section
variable {X : Cx}
def tJoinRev (K : PySem.W.Frag) (to te : TE) : TE := fun σ H Q => to σ H fun x H1 => (∃ a, x = .str a) ∧ te σ H1 fun v H2 => ∃ (a : Str) (q : Addr) (ts : List Str), x = .str a ∧ v = .ref q ∧ SqL K H2 q (ts.map V.str) ∧ (ts.map (·.length)).sum + ts.length * a.length ≤ 16777216 ∧ Q (.str (Txt.join a ts.reverse)) H2
theorem join_back {A : Around} {E : Value → Shared → Prop} {pins : List (Addr × Obj)} {σ : L2.St} {H : Hp} {s : Shared} {Q : Value → Shared → Prop} {q : Addr} {a : Str} {t : Tok} {ts : List Str} (I : Inv X pins σ H s) (handled : A.handled = none) (hq : SqL X.K H q (ts.map V.str)) (fits : (ts.map (·.length)).sum + ts.length * a.length ≤ 16777216)
    (good : ∀ s' u, Inv X pins σ H s' → Q (.str (Txt.join a ts.reverse) u) s') :
    wpAny (model X.prog X.w) A (call (.type "reversed") [.ref q]) (fun v s1 => wpAny (model X.prog X.w) A (call (.builtin "str.join") [.str a t, v]) Q E s1) E s := by
  obtain ⟨its, rv, plain, few⟩ := I.list hq
  have at_ := plain.isList
  obtain ⟨o, ho, _⟩ := id at_
  have ne : q ≠ s.heap.objs.size := Nat.ne_of_lt (Heap.lt_size ho)
  have size : its.toArray.size ≤ sizeLine := by
    rw [List.size_toArray, ← rv.length]
    exact few
  obtain ⟨f0, f1, f2, f3, f4, f5⟩ := I.fpOk (H' := H) (b := s.heap.objs.size) (Nat.le_refl _) (I.hok.fresh (Nat.le_refl _))
  refine call_reversed_list at_ ?_
  have I2 : Inv X pins σ H { s with heap := s.heap.push (revObj q ((its.toArray.size : Int) - 1)) } := I.kept (t' := s.toks) fun b o e => Heap.get?_push_of_some _ e
  have it : (s.heap.push (revObj q ((its.toArray.size : Int) - 1))).IsRevIter s.heap.objs.size q ((its.toArray.size : Int) - 1) := ⟨_, Heap.get?_push_size _ rfl, rfl, rfl⟩
  have lst := at_.push (revObj q ((its.toArray.size : Int) - 1))
  generalize s.heap.push (revObj q ((its.toArray.size : Int) - 1)) = h1 at I2 it lst
  have walk := Walks.listRev (prog := X.prog) (w := X.w) (A := A.in1) handled s.heap.objs.size q ne its.toArray
  refine wpAny_call (codeAny_call_builtin F.slot_str_join.plain F.entry_str_join (F.slot_str_join.check _ _ _ _ _ _ _ _ (typeIs_str _ _ _) (F.args_str_join_2 _ _) ?_))
  rw [join_tree_other]
  refine wpAny_bind (wpAny_typeOf (it.typeIs (s := { s with heap := h1 })) ?_)
  show wpAny _ A.in1 ((pyIter (.ref s.heap.objs.size)).tryCatch _ >>= fun i => collect i >>= fun items => joinTail a items) _ _ _
  refine wpAny_bind (wpAny_tryCatch (walk.self 0 { s with heap := h1 } _ _ ⟨Nat.zero_le _, by simpa using it, lst⟩ (wpAny_bind ?_)))
  refine RT.collect_rev (s := { s with heap := h1 }) (A := A.in1) handled it lst ne size fun h' tk acc keep are => ?_
  have I3 : Inv X pins σ H { s with heap := h', toks := tk } := I2.turned (t' := tk) (fun b o hb e => keep b o hb e) f0 f1 f3 f4 f5
  have back := RT.vals_rev rv are
  rw [← List.map_reverse] at back
  obtain ⟨l, el, e1⟩ := texts_of back
  rw [el]
  have fits2 : (ts.reverse.map (·.length)).sum + ts.reverse.length * a.length ≤ 16777216 := by
    rw [List.map_reverse, List.sum_reverse, List.length_reverse]
    exact fits
  have ok := joinOk_of fits2
  rw [← e1] at ok
  unfold JoinOk at ok
  rw [Bool.not_eq_true'] at ok
  have gives := gives_join a l ok
  have told : ∀ u k, Q (.str (Txt.join a (l.map (·.1))) u) { s with heap := h', toks := k } := fun u k => by
    rw [e1]
    exact good _ u (I3.tok k)
  exact gives X.prog X.w A (wants Q E) _ (post_join l ⟨joinFit_length ok, told⟩)
theorem pe_joinRev {o e : Expr} {to te : TE} {apos pos p pos2 : Pos} (hc : X.calm = true) (ho : PE X o to) (hg : Gl X "reversed") (hm : X.mg "reversed" = none) (he : PE X e te)
    (hs1 : starEach [.Call (.Name "reversed" p) [e] [] pos2] X.env = [(false, eval (.Call (.Name "reversed" p) [e] [] pos2) X.env)] := by rfl) (hs : starEach [e] X.env = (false, eval e X.env) :: starEach [] X.env := by rfl)
    (hbase : attributeBase o "join" X.env (eval o X.env) = eval o X.env := by rfl) (hline : (apos.endLine == pos.line) = true := by rfl) :
    PE X (.Call (.Attribute o "join" apos) [.Call (.Name "reversed" p) [e] [] pos2] [] pos) (tJoinRev X.K to te) := by
  constructor
  intro pins s σ H Q I h
  refine PySem.Call_method1 hbase hs1 hline (thn (ho.run pins s σ H _ I h) ?_)
  rintro v s1 ⟨x, H1, I1, r1, ⟨a, rfl⟩, q1⟩
  obtain ⟨t, rfl⟩ := r1
  refine ⟨"str", _, F.plainAttrs_str, F.slot_str_join, F.type_str_join, typeIs_str _ _ _, (fun _ e => nomatch e), Calls.callWith_builtin rfl (Calls.evalArgs_plain (Calls.spliced_cons ?_))⟩
  refine wpAny_Call_Name_kw (ld_blt I1 hg hm PyProof.Rows.boot_reversed (PyProof.Rows.callWith_type1 (args_cons (thn (he.run pins s1 σ H1 _ I1 q1) ?_) hs) hs rfl))
  rintro u s2 ⟨y, H2, I2, r2, a', q, ts, ea, rfl, hq, fits, good⟩
  cases ea
  cases (show u = Value.ref q from r2)
  refine args_nil ?_
  refine wpAny_mono (join_back (X := X) (E := X.xe) (Q := EP X pins σ Q) I2 (I2.ok.hd hc) hq fits fun s' u I' => ⟨.str _, H2, I', ⟨u, rfl⟩, good⟩) (fun v s4 h4 => Calls.spliced_nil h4) fun _ _ z => z
end
end HopR

set_option Elab.async false
set_option linter.all false
set_option maxRecDepth 100000
set_option exponentiation.threshold 200000
namespace HopR
open PySem PySem.Spec PyProof.Rows L2
/-! ### a whole number written piece by piece -/
def pcs (r : Nat) : List Str := if h : 10 ^ 64 ≤ r then Txt.zfill (Str.ofString (toString (((r % 10 ^ 64 : Nat) : Int)))) 64 :: pcs (r / 10 ^ 64) else [Str.ofString (toString ((r : Nat) : Int))]
termination_by r
decreasing_by exact Nat.div_lt_self (Nat.lt_of_lt_of_le (by decide) h) (by decide)
theorem pcs_big {r : Nat} (h : 10 ^ 64 ≤ r) : pcs r = Txt.zfill (Str.ofString (toString (((r % 10 ^ 64 : Nat) : Int)))) 64 :: pcs (r / 10 ^ 64) := by
  rw [pcs, dif_pos h]
theorem pcs_small {r : Nat} (h : r < 10 ^ 64) : pcs r = [Str.ofString (toString ((r : Nat) : Int))] := by
  rw [pcs, dif_neg (Nat.not_le.mpr h)]
theorem pcs_len : ∀ (k r : Nat), r < 10 ^ (64 * (k + 1)) → (pcs r).length ≤ k + 1
  | 0, r, h => by
    rw [pcs_small h]
    exact Nat.le_refl _
  | k + 1, r, h => by
    by_cases hb : 10 ^ 64 ≤ r
    · rw [pcs_big hb, List.length_cons]
      refine Nat.succ_le_succ (pcs_len k _ ?_)
      refine Nat.div_lt_of_lt_mul ?_
      rw [← Nat.pow_add]
      exact Nat.lt_of_lt_of_le h (Nat.pow_le_pow_right (by decide) (by omega))
    · rw [pcs_small (Nat.not_le.mp hb)]
      exact Nat.succ_le_succ (Nat.zero_le _)
theorem zfill_len (x : Str) (n : Nat) : (Txt.zfill x (n : Int)).length ≤ x.length + n + 1 := by
  unfold Txt.zfill
  split
  · omega
  · unfold zfilled
    have key : ∀ c, x.cps[0]? = some c → 1 ≤ x.length := fun c hc => (Array.getElem?_eq_some_iff.mp hc).1
    split
    · rename_i hc
      rw [size_cat, size_padded, size_strSub x 0 1 (key _ hc), size_strSub x 1 x.length (Nat.le_refl _)]
      omega
    · rename_i hc
      rw [size_cat, size_padded, size_strSub x 0 1 (key _ hc), size_strSub x 1 x.length (Nat.le_refl _)]
      omega
    · rw [size_padded]
      omega
theorem pcs_fit : ∀ (k r : Nat), r < 10 ^ (64 * (k + 1)) → ∀ z ∈ pcs r, z.length ≤ 129
  | 0, r, h, z, hz => by
    rw [pcs_small h] at hz
    rw [List.mem_singleton.mp hz]
    exact Nat.le_trans (toString_length_le (k := 64) (Int.natCast_nonneg _) (by decide) (by exact_mod_cast h)) (by decide)
  | k + 1, r, h, z, hz => by
    by_cases hb : 10 ^ 64 ≤ r
    · rw [pcs_big hb] at hz
      rcases List.mem_cons.mp hz with rfl | hz
      · have h1 : (Str.ofString (toString (((r % 10 ^ 64 : Nat) : Int)))).length ≤ 64 := toString_length_le (Int.natCast_nonneg _) (by decide) (by exact_mod_cast (Nat.mod_lt r (by decide)))
        have h2 := zfill_len (Str.ofString (toString (((r % 10 ^ 64 : Nat) : Int)))) 64
        exact Nat.le_trans h2 (by omega)
      · refine pcs_fit k _ ?_ z hz
        refine Nat.div_lt_of_lt_mul ?_
        rw [← Nat.pow_add]
        exact Nat.lt_of_lt_of_le h (Nat.pow_le_pow_right (by decide) (by omega))
    · have hb := Nat.not_le.mp hb
      rw [pcs_small hb] at hz
      rw [List.mem_singleton.mp hz]
      exact Nat.le_trans (toString_length_le (k := 64) (Int.natCast_nonneg _) (by decide) (by exact_mod_cast hb)) (by decide)
/-- the text -/
def fig (n : Nat) : Str := Txt.join "" (pcs n).reverse
theorem wide_38 {n : Nat} (h : n < 2 ^ 8000) : n < 10 ^ (64 * (37 + 1)) := Nat.lt_of_lt_of_le h (by decide)
theorem by_piece (i : Int) : Builtin.divisionGoesByPylong i 10000000000000000000000000000000000000000000000000000000000000000 = false := by
  unfold Builtin.divisionGoesByPylong
  exact Bool.and_eq_false_iff.mpr (.inl (by decide))
end HopR

set_option Elab.async false
set_option linter.all false
set_option maxRecDepth 100000
namespace HopR
open PySem L2
/-- a list of draws by its places -/
theorem draws2 {c z0 z1 : Int} (h0 : 0 < z0) (h1 : 0 < z1) : ∃ d0 d1 : Int, draws c 0 [z0, z1] = [d0, d1] ∧ (0 ≤ d0 ∧ d0 < z0) ∧ (0 ≤ d1 ∧ d1 < z1) := by
  have hl := draws_len [z0, z1] c 0
  match hd : draws c 0 [z0, z1], hl with
  | [d0, d1], _ =>
    have hp : ∀ z ∈ [z0, z1], 0 < z := by
      intro z hz
      simp only [List.mem_cons, List.not_mem_nil, or_false] at hz
      rcases hz with rfl | rfl
      · exact h0
      · exact h1
    exact ⟨d0, d1, rfl, draws_ok _ c 0 hp 0 d0 z0 (by rw [hd]; rfl) rfl, draws_ok _ c 0 hp 1 d1 z1 (by rw [hd]; rfl) rfl⟩
end HopR

set_option Elab.async false
set_option linter.all false
set_option maxRecDepth 100000
set_option exponentiation.threshold 200000
namespace Hop
open PySem L2 HopR
open C8 (InsC call_isC)
abbrev sFigures : Stmt := top 14
abbrev sPRepr : Stmt := inClass (top 15) 8
abbrev sWRow : Stmt := inClass (top 34) 3
abbrev sWWalls : Stmt := inClass (top 34) 4
abbrev sDone : Stmt := inClass (top 34) 5
abbrev sCounts : Stmt := inClass (top 34) 6
abbrev sWLen : Stmt := inClass (top 34) 11
theorem wf_no_done {i o l p : Addr} {bs : List Bool} : (wf i o bs l p).lookup ("done" : Str) = none := rfl
section
variable {P : Program} {w : World} {K : PySem.W.Frag} {mg : Str → Option Value} {base : Heap} {C W d : Addr} {es : Array DictEntry} {n : Nat}
variable {HE NN NR NP NS NW NL fI : Addr} {gI : FuncData}
variable {fi f1 f2 r1 r2 r3 r4 r6 p1 p2 p3 p4 fp ft fo fz fc : Addr} {gi g1 g2 s1 s2 s3 s4 s6 q1 q2 q3 q4 gp gt go gz gc : FuncData} {d1 : Value}
/-! ### figures_of -/
structure TxtF (mg : Str → Option Value) : Prop where
  piece : ∃ t, mg "PIECE" = some (.int 10000000000000000000000000000000000000000000000000000000000000000 t)
  many : ∃ t, mg "PIECE_FIGURES" = some (.int 64 t)
  divmod : mg "divmod" = none
def spFig : Sp := fun vs H Q _ => ∃ m : Nat, vs = [.int (m : Int)] ∧ m < 2 ^ 8000 ∧ ∀ H', Same H H' → Q (.str (fig m)) H'
theorem scFig : FnScope ["number", "rest", "pieces", "piece"] ["number"] (defScope sFigures) := ⟨rfl, rfl, rfl, by decide +kernel, rfl, by decide +kernel, by decide +kernel⟩
theorem sum_le {ts : List Str} {b : Nat} (h : ∀ z ∈ ts, z.length ≤ b) : (ts.map (·.length)).sum ≤ ts.length * b := by
  induction ts with
  | nil => exact Nat.zero_le _
  | cons z r ih =>
    have h1 := h z (List.mem_cons_self ..)
    have h2 := ih fun y hy => h y (List.mem_cons_of_mem _ hy)
    rw [List.map_cons, List.sum_cons, List.length_cons, Nat.succ_mul]
    omega
theorem ok_figures {f : Addr} {fd : FuncData} {k : Nat} (F : Fun K "figures_of" "figures_of" sFigures f fd) (T : TxtP K mg C) (TR : TxtR K w mg d es n) (TF : TxtF mg) : FnOk P w K mg base CX0 (k + 1) f fd ["number"] spFig := by
  refine F.ok scFig (fun vs H Q E h => ?_) (fun cdv A outer s H vs Q E hr h => ?_)
  · obtain ⟨m, rfl, _⟩ := h
    rfl
  · obtain ⟨m, rfl, hm, h⟩ := h
    have nd := scFig.nd
    obtain ⟨tp, gp⟩ := TF.piece
    obtain ⟨tm, gm⟩ := TF.many
    have h38 := wide_38 hm
    have hlen := pcs_len 37 m h38
    have hfit := pcs_fit 37 m h38
    refine ⟨_, pss_cons (ps_set (i := 1) nd rfl (.inl rfl) (pe_callB call_abs (by rfl) T.abs (by decide +kernel) (pa_cons (pv 0) pa_nil)))
      (pss_cons (ps_set (i := 2) nd rfl (.inl rfl) (pe_lst pa_nil))
      (pss_cons (ps_while PassesOwn.never (pt_cmpR op_ge (pv 1) (pe_glob (v := .int 10000000000000000000000000000000000000000000000000000000000000000) (by rfl) gp ⟨_, rfl⟩) (nomark _))
        (pss_cons (ps_asg (pe_callB call_divmodW (by rfl) TF.divmod (by decide +kernel) (pa_cons (pv 1) (pa_cons (pe_glob (v := .int 10000000000000000000000000000000000000000000000000000000000000000) (by rfl) gp ⟨_, rfl⟩) pa_nil))) (pg_tup (by rfl) (pgs_cons (pg_name (i := 1) nd rfl (.inl rfl)) (pgs_cons (pg_name (i := 3) nd rfl (.inl rfl)) pgs_nil))))
        (pss_one (ps_expr (pe_bm PySem.F.plainAttrs_list PySem.F.slot_list_append PySem.F.type_list_append mt_append (pv 2) (pa_cons (pe_bm PySem.F.plainAttrs_str PySem.F.slot_str_zfill PySem.F.type_str_zfill mt_zfill (pe_callTy call_str_int (by rfl) TR.str (by decide +kernel) (pa_cons (pv 3) pa_nil)) (pa_cons (pe_glob (v := .int 64) (by rfl) gm ⟨_, rfl⟩) pa_nil)) pa_nil))))))
      (pss_cons (ps_expr (pe_bm PySem.F.plainAttrs_list PySem.F.slot_list_append PySem.F.type_list_append mt_append (pv 2) (pa_cons (pe_callTy call_str_int (by rfl) TR.str (by decide +kernel) (pa_cons (pv 1) pa_nil)) pa_nil)))
      (pss_cons (ps_if (pt_cmpR op_lt (pv 0) pe_int (nomark _)) (pss_one ps_never) pss_nil)
      (pss_one (ps_ret (pe_joinRev rfl pe_str (by rfl) TR.reversed (pv 2)))))))), ?_⟩
    refine ⟨.int (m : Int), rfl, (m : Int), rfl, Nat.zero_le _, fun D nD => ?_⟩
    have habs : (if (m : Int) < 0 then -(m : Int) else (m : Int)) = (m : Int) := by rw [if_neg (by omega)]
    rw [habs]
    refine while_by (fun σ H1 => ∃ (x : Nat) (ts : List Str) (y : Option V), σ = [some (.int (m : Int)), some (.int (x : Int)), some (.ref D), y] ∧ H1 D = some (.lst (ts.map V.str)) ∧ Same H H1 ∧ ts ++ pcs x = pcs m) (fun σ _ => match σ with | [_, some (.int y), _, _] => y.natAbs | _ => 0) ⟨m, [], _, rfl, upd_same, same_upd nD, rfl⟩ ?_ ?_
    · rintro σ H1 ⟨x, ts, y, rfl, eD, sm, e⟩
      have hp : (10 : Nat) ^ 64 = 10000000000000000000000000000000000000000000000000000000000000000 := by decide
      have hts : ts.length ≤ 38 := by
        have := congrArg List.length e
        rw [List.length_append] at this
        omega
      refine ⟨.int (x : Int), rfl, _, _, rfl, rfl, _, rfl, ?_⟩
      by_cases hb : 10000000000000000000000000000000000000000000000000000000000000000 ≤ x
      · rw [decide_eq_true (show (10000000000000000000000000000000000000000000000000000000000000000 : Int) ≤ (x : Int) by omega)]
        have eb := pcs_big (r := x) (by rw [hp]; exact hb)
        rw [hp] at eb
        refine iteT ⟨.int (x : Int), rfl, (x : Int), _, rfl, ⟨by decide, by_piece _⟩, fun t nt => ?_⟩
        have st := same_upd (o := .tup [.int ((x : Int) / 10000000000000000000000000000000000000000000000000000000000000000), .int ((x : Int) % 10000000000000000000000000000000000000000000000000000000000000000)]) nt
        have et : upd H1 t (.tup [.int ((x : Int) / 10000000000000000000000000000000000000000000000000000000000000000), .int ((x : Int) % 10000000000000000000000000000000000000000000000000000000000000000)]) t = some (.tup [.int ((x : Int) / 10000000000000000000000000000000000000000000000000000000000000000), .int ((x : Int) % 10000000000000000000000000000000000000000000000000000000000000000)]) := upd_same
        generalize upd H1 t (.tup [.int ((x : Int) / 10000000000000000000000000000000000000000000000000000000000000000), .int ((x : Int) % 10000000000000000000000000000000000000000000000000000000000000000)]) = H2 at st et
        have c1 : (x : Int) / 10000000000000000000000000000000000000000000000000000000000000000 = ((x / 10000000000000000000000000000000000000000000000000000000000000000 : Nat) : Int) := by omega
        have c2 : (x : Int) % 10000000000000000000000000000000000000000000000000000000000000000 = ((x % 10000000000000000000000000000000000000000000000000000000000000000 : Nat) : Int) := by omega
        rw [c1, c2] at et
        refine ⟨t, _, rfl, SqT.of et, rfl, _, _, rfl, _, _, rfl, rfl, ?_⟩
        have eD2 := st _ _ eD
        have small : (((x % 10000000000000000000000000000000000000000000000000000000000000000 : Nat) : Int)).natAbs.log2 < 1920 := by
          rw [Int.natAbs_natCast]
          have : x % 10000000000000000000000000000000000000000000000000000000000000000 < 2 ^ 1000 := Nat.lt_of_lt_of_le (Nat.mod_lt x (by decide)) (by decide)
          exact PySem.Flt.log2_lt_of (by decide) (Nat.lt_of_lt_of_le this (Nat.pow_le_pow_right (by decide) (by decide)))
        refine ⟨.ref D, rfl, .inl ⟨rfl, _, SqL.of eD2⟩, .int ((x % 10000000000000000000000000000000000000000000000000000000000000000 : Nat) : Int), rfl, ((x % 10000000000000000000000000000000000000000000000000000000000000000 : Nat) : Int), rfl, small, rfl, _, 64, rfl, rfl, by decide, D, _, _, rfl, rfl, eD2, ?_, ?_⟩
        · rw [List.length_map]
          exact small1000 (by omega)
        · refine ⟨⟨x / 10000000000000000000000000000000000000000000000000000000000000000, ts ++ [Txt.zfill (Str.ofString (toString ((x % 10000000000000000000000000000000000000000000000000000000000000000 : Nat) : Int))) 64], _, rfl, ?_, same_new nD (sm.trans st), ?_⟩, ?_⟩
          · rw [upd_same, List.map_append]
            rfl
          · rw [List.append_assoc, List.singleton_append, ← eb]
            exact e
          · show ((x / 10000000000000000000000000000000000000000000000000000000000000000 : Nat) : Int).natAbs < (x : Int).natAbs
            rw [Int.natAbs_natCast, Int.natAbs_natCast]
            exact Nat.div_lt_self (by omega) (by decide)
      · rw [decide_eq_false (show ¬ (10000000000000000000000000000000000000000000000000000000000000000 : Int) ≤ (x : Int) by omega)]
        have es := pcs_small (r := x) (by rw [hp]; omega)
        have small : ((x : Int)).natAbs.log2 < 1920 := by
          rw [Int.natAbs_natCast]
          have : x < 2 ^ 1000 := Nat.lt_of_lt_of_le (Nat.not_le.mp hb) (by decide)
          exact PySem.Flt.log2_lt_of (by decide) (Nat.lt_of_lt_of_le this (Nat.pow_le_pow_right (by decide) (by decide)))
        refine iteF ⟨.ref D, rfl, .inl ⟨rfl, _, SqL.of eD⟩, .int (x : Int), rfl, (x : Int), rfl, small, D, _, _, rfl, rfl, eD, ?_, ?_⟩
        · rw [List.length_map]
          exact small1000 (by omega)
        refine ⟨.int (m : Int), rfl, _, _, rfl, rfl, _, rfl, ?_⟩
        rw [decide_eq_false (show ¬ (m : Int) < 0 by omega)]
        have ee : ts.map V.str ++ [V.str (Str.ofString (toString (x : Int)))] = (pcs m).map V.str := by
          rw [← e, es, List.map_append]
          rfl
        refine iteF ⟨⟨_, rfl⟩, .ref D, rfl, "", D, pcs m, rfl, rfl, SqL.of (by rw [upd_same]; exact congrArg (fun z => some (HO.lst z)) ee), ?_, h _ (same_new nD sm)⟩
        have := sum_le hfit
        have l0 : ("" : Str).length = 0 := by decide
        rw [l0]
        omega
    · rintro σ H1 Q1 Q2 hm h
      obtain ⟨v, e1, i, j, e2, e3, k2, e4, h⟩ := h
      exact ⟨v, e1, i, j, e2, e3, k2, e4, hm _ _ h⟩
/-! ### what a Walk tells -/
def spWRow (C W : Addr) : Sp := fun vs H Q _ => ∃ (v l : Addr) (bs : List Bool) (st : List (Nat × List Bool)) (q r : Rat), vs = [.ref v] ∧ WK C W H v l bs st q r ∧ Q (.str (tx bs)) H
theorem scWRow : FnScope ["self"] ["self"] (defScope sWRow) := ⟨rfl, rfl, rfl, by decide +kernel, rfl, by decide +kernel, by decide +kernel⟩
theorem ok_wrow {f : Addr} {fd : FuncData} {k : Nat} (F : Fun K "row" "Walk.row" sWRow f fd) (TW : TxtW K mg W) : FnOk P w K mg base CX0 (k + 1) f fd ["self"] (spWRow C W) := by
  refine F.ok scWRow (fun vs H Q E h => ?_) (fun cdv A outer s H vs Q E hr h => ?_)
  · obtain ⟨v, l, bs, st, q, r, rfl, _⟩ := h
    rfl
  · obtain ⟨v, l, bs, st, q, r, rfl, ⟨dx, i, o, p, ts, e1, _⟩, h⟩ := h
    exact ⟨_, pss_one (ps_ret (pe_fld (pv 0) rfl)), .ref v, rfl, v, W, dx, _, _, rfl, e1, TW.cl, TW.ns, wf_signs, h⟩
def spWWalls (C W : Addr) : Sp := fun vs H Q _ => ∃ (v l : Addr) (bs : List Bool) (st : List (Nat × List Bool)) (q r : Rat), vs = [.ref v] ∧ WK C W H v l bs st q r ∧ Row bs ∧ ∀ H' p, Same H H' → H p = none → H' p = some (.lst ((walls bs).map wv)) → Q (.ref p) H'
theorem scWWalls : FnScope ["self"] ["self"] (defScope sWWalls) := ⟨rfl, rfl, rfl, by decide +kernel, rfl, by decide +kernel, by decide +kernel⟩
theorem ok_wwalls {f : Addr} {fd : FuncData} {k : Nat} (F : Fun K "walls" "Walk.walls" sWWalls f fd) (D : WDefs K mg C fi f1 f2 r1 r2 r3 r4 r6 p1 p2 p3 p4 fp ft fo fz gi g1 g2 s1 s2 s3 s4 s6 q1 q2 q3 q4 gp gt go gz d1) (TR : TxtR K w mg d es n) (TW : TxtW K mg W) : FnOk P w K mg base CX0 (k + 4) f fd ["self"] (spWWalls C W) := by
  have Gw : FnOk P w K mg base CX0 (k + 3) r4 s4 ["row"] spWalls := ok_walls D.R4.F D.N.R1 D.N.R2 D.R3 TR
  refine F.ok scWWalls (fun vs H Q E h => ?_) (fun cdv A outer s H vs Q E hr h => ?_)
  · obtain ⟨v, l, bs, st, q, r, rfl, _⟩ := h
    rfl
  · obtain ⟨v, l, bs, st, q, r, rfl, ⟨dx, i, o, p, ts, e1, _⟩, hR, h⟩ := h
    refine ⟨_, pss_one (ps_ret (pe_call Gw hr (by rfl) D.R4.g D.R4.F.kp D.R4.b .nil pass0 (pa_cons (pe_fld (pv 0) rfl) pa_nil))), ?_⟩
    exact ⟨.ref v, rfl, v, W, dx, _, _, rfl, e1, TW.cl, TW.ns, wf_signs, bs, rfl, hR, h⟩
def spWLen (C W : Addr) : Sp := fun vs H Q _ => ∃ (v l : Addr) (bs : List Bool) (st : List (Nat × List Bool)) (q r : Rat), vs = [.ref v] ∧ WK C W H v l bs st q r ∧ Q (.int (st.length : Int)) H
theorem scWLen : FnScope ["self"] ["self"] (defScope sWLen) := ⟨rfl, rfl, rfl, by decide +kernel, rfl, by decide +kernel, by decide +kernel⟩
theorem ok_wlen {f : Addr} {fd : FuncData} {k : Nat} (F : Fun K "__len__" "Walk.__len__" sWLen f fd) (T : TxtP K mg C) (TW : TxtW K mg W) : FnOk P w K mg base CX0 (k + 1) f fd ["self"] (spWLen C W) := by
  refine F.ok scWLen (fun vs H Q E h => ?_) (fun cdv A outer s H vs Q E hr h => ?_)
  · obtain ⟨v, l, bs, st, q, r, rfl, _⟩ := h
    rfl
  · obtain ⟨v, l, bs, st, q, r, rfl, ⟨dx, i, o, p, ts, e1, e2, e3, _⟩, h⟩ := h
    refine ⟨_, pss_one (ps_ret (pe_callB call_len_seq (by rfl) T.len PySem.boot_len (pa_cons (pe_fld (pv 0) rfl) pa_nil))), ?_⟩
    refine ⟨.ref v, rfl, v, W, dx, _, _, rfl, e1, TW.cl, TW.nt, wf_steps, l, _, rfl, .inl (SqL.of e2), ?_⟩
    rw [List.length_map, e3.1]
    exact h
/-- the walls of the steps -/
def wls (st : List (Nat × List Bool)) : List Nat := st.map (·.1)
def spDone (C W : Addr) : Sp := fun vs H Q _ => ∃ (v l : Addr) (bs : List Bool) (st : List (Nat × List Bool)) (q r : Rat), vs = [.ref v] ∧ WK C W H v l bs st q r ∧ st.length ≤ 1000 ∧ ∀ H' p, Same H H' → H p = none → H' p = some (.lst ((wls st).map wv)) → Q (.ref p) H'
abbrev nDone : List Str := ["self", "wall", "ahead"]
theorem scDone : FnScope nDone ["self"] (defScope sDone) := ⟨rfl, rfl, rfl, by decide +kernel, rfl, by decide +kernel, by decide +kernel⟩
theorem ok_done {f : Addr} {fd : FuncData} {k : Nat} (F : Fun K "done" "Walk.done" sDone f fd) (TW : TxtW K mg W) : FnOk P w K mg base CX0 (k + 1) f fd ["self"] (spDone C W) := by
  refine F.ok scDone (fun vs H Q E h => ?_) (fun cdv A outer s H vs Q E hr h => ?_)
  · obtain ⟨v, l, bs, st, q, r, rfl, _⟩ := h
    rfl
  · obtain ⟨v, l, bs, st, q, r, rfl, ⟨dx, i, o, p, ts, e1, e2, e3, _⟩, h1000, h⟩ := h
    have nd := scDone.nd
    refine ⟨_, pss_one (ps_ret (pe_lc (own := [("wall", 1), ("ahead", 2)]) (g := gTup K 2 (gCons (gName 1) (gCons (gName 2) gNil))) (tt := tYes) rfl nd (pi_list (pe_fld (pv 0) rfl)) (blkOk_by (own := [("wall", 1), ("ahead", 2)]) (N := nDone) (sc := defScope sDone) (by decide +kernel))
      (fun _ _ _ _ _ => pg_tup (by rfl) (pgs_cons (pg_name (i := 1) nd rfl (.inl rfl)) (pgs_cons (pg_name (i := 2) nd rfl (.inl rfl)) pgs_nil))) (fun _ _ _ _ _ => pts_nil) (fun _ _ _ _ _ => pv 1))), ?_⟩
    refine ⟨.ref v, rfl, v, W, dx, _, _, rfl, e1, TW.cl, TW.nt, wf_steps, l, rfl, ⟨_, SqL.of e2⟩, fun D hD => ?_⟩
    refine lc_list (K := K) (a := l) (xs := ts.map V.ref) (fun j H3 => Same H H3 ∧ H3 D = some (.lst ((wls (st.take j)).map wv))) ⟨same_upd hD, upd_same⟩ (fun j H3 _ h => SqL.of (h.1 _ _ e2)) ?_ ?_
    · rintro j x H3 hx ⟨sm, eD⟩
      rw [List.getElem?_map] at hx
      obtain ⟨t, ht, rfl⟩ := Option.map_eq_some_iff.mp hx
      have hj : j < st.length := by
        rw [← e3.1]
        exact (List.getElem?_eq_some_iff.mp ht).1
      have hs : st[j]? = some st[j] := List.getElem?_eq_getElem hj
      have et := sm _ _ (e3.2 j t _ ht hs)
      refine ⟨t, _, rfl, SqT.of et, rfl, _, _, rfl, _, _, rfl, rfl, rfl, wv st[j].1, rfl, _, eD, ?_, same_new hD sm, ?_⟩
      · unfold wls
        rw [List.length_map, List.length_map]
        exact small1000 (Nat.le_trans (List.length_take_le _ _) (by omega))
      · unfold wls
        rw [upd_same, List.take_add_one, hs, List.map_append, List.map_append]
        rfl
    · rintro H3 ⟨sm, eD⟩
      rw [List.length_map, e3.1, List.take_length] at eD
      exact h H3 D sm hD eD
/-! ### counts -/
/-- how many beads came in, hopped, went out -/
def cnt (n : Nat) (ks : List Nat) : List V := [.int ((ks.count 0 : Nat) : Int), .int ((ks.length : Int) - ((ks.count 0 : Nat) : Int) - ((ks.count n : Nat) : Int)), .int ((ks.count n : Nat) : Int)]
def spCounts (C W : Addr) : Sp := fun vs H Q _ => ∃ (v l : Addr) (bs : List Bool) (st : List (Nat × List Bool)) (q r : Rat), vs = [.ref v] ∧ WK C W H v l bs st q r ∧ bs.length ≤ 30 ∧ st.length ≤ 1000 ∧ ∀ H' p, Same H H' → H p = none → H' p = some (.tup (cnt bs.length (wls st))) → Q (.ref p) H'
theorem scCounts : FnScope ["self", "walls", "came", "went"] ["self"] (defScope sCounts) := ⟨rfl, rfl, rfl, by decide +kernel, rfl, by decide +kernel, by decide +kernel⟩
theorem map_wv (ks : List Nat) : ks.map wv = (ks.map fun k : Nat => (k : Int)).map V.int := by
  rw [List.map_map]
  rfl
theorem count_cast (ks : List Nat) (k : Nat) : (ks.map fun k : Nat => (k : Int)).count (k : Int) = ks.count k := by
  induction ks with
  | nil => rfl
  | cons a r ih =>
    rw [List.map_cons, List.count_cons, List.count_cons, ih]
    congr 1
    by_cases h : a = k
    · rw [h]
      simp
    · have h2 : ¬ ((a : Int) = (k : Int)) := by omega
      simp [h, h2]
end
end Hop

set_option Elab.async false
set_option linter.all false
set_option maxRecDepth 100000
namespace HopR
open PySem PySem.Spec PyProof.Rows L2
/-! ### == and != by an own __eq__ of a class of the text, whose own names hold no __ne__ -/
structure EqC (K : PySem.W.Frag) (C f : Addr) : Prop where
  eq : PySem.W.findIn K (.ref C) "__eq__" = some (some (.ref f))
  fn : PySem.W.isFn K (.ref f) = true
  own : ∃ nm q N bs hd sn sub ab col dd k0 k1 k2 k3 k5 nw, K.lookup C = some (excClassObj nm q C N bs [.type "object"] hd sn sub ab col dd k0 k1 k2 k3 k5 nw) ∧ PySem.W.nsOkIn K N = true ∧ PySem.W.nsIn K N "__eq__" = some (some (.ref f)) ∧ PySem.W.nsIn K N "__ne__" = some none
theorem name_here {K : PySem.W.Frag} {h : Heap} {N : Addr} {mg : Str → Option Value} {x : Str} {v : Value} (kin : K.In h) (names : h.Ns N mg) (e : PySem.W.nsIn K N x = some (some v)) : mg x = some v := by
  rcases names with ⟨o, es, ep, at_, data, -, find⟩
  rw [← find]
  revert e
  unfold PySem.W.nsIn
  cases look : K.lookup N with
  | none => exact fun e => nomatch e
  | some ob =>
    obtain rfl : ob = o := Option.some.inj ((kin _ _ look).symm.trans at_)
    obtain ⟨cls, dict, dat, slots⟩ := ob
    obtain rfl : dat = .dict es ep := data
    intro e
    unfold nsFind findBy
    rw [← Array.find?_toList]
    cases hit : es.toList.find? (·.key.isStr x) with
    | none =>
      simp only [hit] at e
      split at e <;> cases e
    | some en =>
      simp only [hit] at e
      cases e
      rfl
theorem fn_here {K : PySem.W.Frag} {h : Heap} {f : Addr} (kin : K.In h) (fn : PySem.W.isFn K (.ref f) = true) : ∃ o, h.get? f = some o ∧ o.cls = .type "function" := by
  have e : (K.lookup f).map (·.cls) = some (Value.type "function") := beq_iff_eq.mp fn
  obtain ⟨o, look, cls⟩ := Option.map_eq_some_iff.mp e
  exact ⟨o, kin _ _ look, cls⟩
theorem EqC.here {K : PySem.W.Frag} {h : Heap} {C f a : Addr} {o : Obj} (c : EqC K C f) (kin : K.In h) (at_ : h.get? a = some o) (cls : o.cls = .ref C) : h.OwnEqNoNe a C f "object" [.type "object"] := by
  obtain ⟨nm, q, N, bs, hd, sn, sub, ab, col, dd, k0, k1, k2, k3, k5, nw, look, ok, heq, hne⟩ := c.own
  obtain ⟨of, hf, hc⟩ := fn_here kin c.fn
  have names : h.Ns N (h.nsMap N) := .of_isNs (PySem.W.isNs_of_in kin ok)
  exact ⟨o, of, nm, q, N, bs, hd, sn, sub, ab, col, dd, k0, k1, k2, k3, k5, nw, h.nsMap N, _, at_, cls, kin _ _ look, names, name_here kin names heq, hf, hc, PySem.F.cmp_object.mro, PySem.F.cmp_object.eq.lookup, PySem.W.nsMap_none_of_in kin ok hne⟩
section
variable {X : Cx} {CX : CXT} {n : Nat} {C f : Addr} {fd : FuncData} {ps : List Str} {sp : Sp} {E : XK}
/-- two instances of the class; what its __eq__ promises of them, a truth -/
def rOwn (C : Addr) (sp : Sp) (E : XK) (neg : Bool) : R2 := fun x y H Q => ∃ a b dx dy fs gs, x = .ref a ∧ y = .ref b ∧ H a = some (.ins C dx fs) ∧ H b = some (.ins C dy gs) ∧ sp [.ref a, .ref b] H (fun v H' => ∃ k : Bool, v = .bl k ∧ Q (.bl (k ^^ neg)) H') E
theorem two_refs {a b : Addr} : Vals [V.ref a, V.ref b] [Value.ref a, Value.ref b] := .cons rfl (.cons rfl .nil)
theorem op_eqOwn (c : EqC X.K C f) (F : FnOk X.prog X.w X.K X.mg X.base CX n f fd ps sp) (room : Room n X.A) (bind : Binds X.K fd ps []) (lets : Passes CX X E) : OpR X (compareOp .Eq) (rOwn C sp E false) := by
  rintro pins s σ H _ _ v u Q I rx ry ⟨a, b, dx, dy, fs, gs, rfl, rfl, ha, hb, prom⟩
  cases rx; cases ry
  obtain ⟨_, J, _⟩ := ins_get I.hok ha
  obtain ⟨_, J', _⟩ := ins_get I.hok hb
  obtain ⟨_, J, _⟩ := J.look
  obtain ⟨_, J', _⟩ := J'.look
  obtain ⟨m, F0⟩ := I.fr
  refine PySem.W.cmp_K (op := .Eq) (tb := .ref C) room.units0 F0 I.ok.mod.kin J J'.type (by simp [PySem.W.notFirst]) c.eq c.fn (thn (call_at F room rfl bind lets I two_refs prom) ?_)
  rintro w s' ⟨z, H', I', rz, k, rfl, q⟩
  cases rz
  refine ⟨.bl k, H', I', rfl, ?_⟩
  rw [Bool.xor_false] at q
  exact q
theorem op_neOwn (c : EqC X.K C f) (F : FnOk X.prog X.w X.K X.mg X.base CX n f fd ps sp) (room : Room (n + 1) X.A) (bind : Binds X.K fd ps []) (lets : Passes CX X E) : OpR X (compareOp .NotEq) (rOwn C sp E true) := by
  rintro pins ⟨hp, g, d, t, os⟩ σ H _ _ v u Q I rx ry ⟨a, b, dx, dy, fs, gs, rfl, rfl, ha, hb, prom⟩
  cases rx; cases ry
  obtain ⟨_, J, _⟩ := ins_get I.hok ha
  obtain ⟨_, J', _⟩ := ins_get I.hok hb
  obtain ⟨_, J, _⟩ := J.look
  obtain ⟨_, J', _⟩ := J'.look
  have un := room.un
  refine compareOp_ne_ownEq PySem.F.cmp_object (c.here I.kIn J.at_ J.cls) J'.at_ J'.cls (by omega) (thn (call_at (A := X.A.in1) F room.in1 rfl bind lets I two_refs prom) ?_)
  rintro w s' ⟨z, H', I', rz, k, rfl, q⟩
  cases rz
  refine ⟨k, rfl, .bl (!k), H', I', rfl, ?_⟩
  rw [Bool.xor_true] at q
  exact q
end
end HopR

set_option Elab.async false
set_option linter.all false
set_option maxRecDepth 100000
namespace HopR
open PySem PySem.Spec PyProof.Rows L2
/-! ### {o!r} in an f-string, o of an own class -/
section
variable {X : Cx} {CX : CXT} {n : Nat} {C f : Addr} {fd : FuncData} {ps : List Str} {sp : Sp} {E : XK} {e : Expr} {te : TE} {pos : Pos}
def tFmtO (C : Addr) (sp : Sp) (E : XK) (te : TE) : TE := fun σ H Q => te σ H fun x H1 => ∃ a dx fs, x = .ref a ∧ H1 a = some (.ins C dx fs) ∧ sp [.ref a] H1 (fun v H' => ∃ z : Str, v = .str z ∧ z.length ≤ sizeLine ∧ Q (.str z) H') E
theorem pe_fmtO (rep : PySem.W.findIn X.K (.ref C) "__repr__" = some (some (.ref f))) (fn : PySem.W.isFn X.K (.ref f) = true) (F : FnOk X.prog X.w X.K X.mg X.base CX n f fd ps sp) (room : Room (n + 1) X.A) (bind : Binds X.K fd ps []) (lets : Passes CX X E) (he : PE X e te) :
    PE X (.FormattedValue e 114 none pos) (tFmtO C sp E te) := by
  constructor
  intro pins s σ H Q I h
  refine wpAny_FormattedValue_repr (thn (he.run pins s σ H _ I h) ?_)
  rintro u s1 ⟨_, H1, I1, ru, a, dx, fs, rfl, ha, prom⟩
  cases (show u = Value.ref a from ru)
  obtain ⟨_, J, _⟩ := ins_get I1.hok ha
  obtain ⟨od, J, _⟩ := J.look
  have un := room.un
  rw [pyReprObj_eq_pyReprObjBy]
  unfold pyReprObjBy
  refine wpAny_bind (wpAny_cRoomFor (by omega) (wpAny_bind (wpAny_bind (J.type.here ((PySem.W.looks_findIn I1.kIn rep).here ?_)))))
  show wpAny _ _ (if (some (Value.ref f)).isNone = true then _ else _) _ _ _
  rw [if_neg (by simp)]
  refine wpAny_bind (special_own I1.kIn J rep fn (thn (call_at F (room.mono (Nat.le_succ n)) rfl bind lets I1 (us := [.ref a]) (vs := [.ref a]) (.cons rfl .nil) prom) ?_))
  rintro v s' ⟨_, H', I', rz, z, rfl, hz, q⟩
  obtain ⟨tk, rfl⟩ := rz
  refine wpAny_bind (wpAny_isInstance (T := "str") (b := true) rfl isSubtype_str_str (wpAny_pure ?_))
  exact wpAny_formatField_str ⟨.str z, H', I', ⟨_, rfl⟩, q⟩ ⟨.str z, H', I'.tok _, ⟨_, rfl⟩, q⟩ hz
/-- o == p by the class's own __eq__, told by its two facts alone -/
theorem op_eqTwo (eq : PySem.W.findIn X.K (.ref C) "__eq__" = some (some (.ref f))) (fn : PySem.W.isFn X.K (.ref f) = true) (F : FnOk X.prog X.w X.K X.mg X.base CX n f fd ps sp) (room : Room n X.A) (bind : Binds X.K fd ps []) (lets : Passes CX X E) : OpR X (compareOp .Eq) (rOwn C sp E false) := by
  rintro pins s σ H _ _ v u Q I rx ry ⟨a, b, dx, dy, fs, gs, rfl, rfl, ha, hb, prom⟩
  cases rx; cases ry
  obtain ⟨_, J, _⟩ := ins_get I.hok ha
  obtain ⟨_, J', _⟩ := ins_get I.hok hb
  obtain ⟨_, J, _⟩ := J.look
  obtain ⟨_, J', _⟩ := J'.look
  obtain ⟨m, F0⟩ := I.fr
  refine PySem.W.cmp_K (op := .Eq) (tb := .ref C) room.units0 F0 I.ok.mod.kin J J'.type (by simp [PySem.W.notFirst]) eq fn (thn (call_at F room rfl bind lets I two_refs prom) ?_)
  rintro w s' ⟨z, H', I', rz, k, rfl, q⟩
  cases rz
  rw [Bool.xor_false] at q
  exact ⟨.bl k, H', I', rfl, q⟩
end
/-! ### lists of new tuples -/
def TupH {α : Type} (H : Hp) (f : α → List V) : List α → List V → Prop
  | [], vs => vs = []
  | a :: r, vs => ∃ p vr, vs = .ref p :: vr ∧ H p = some (.tup (f a)) ∧ TupH H f r vr
section
variable {α : Type} {H H' : Hp} {f : α → List V}
theorem tupH_same (s : Same H H') : ∀ {as : List α} {vs : List V}, TupH H f as vs → TupH H' f as vs
  | [], _, h => h
  | _ :: _, _, ⟨p, vr, e, h1, h2⟩ => ⟨p, vr, e, s _ _ h1, tupH_same s h2⟩
theorem tupH_upd {D : Addr} {xs : List V} {o : HO} (hD : H D = some (.lst xs)) : ∀ {as : List α} {vs : List V}, TupH H f as vs → TupH (upd H D o) f as vs
  | [], _, h => h
  | _ :: _, _, ⟨p, vr, e, h1, h2⟩ => ⟨p, vr, e, by
      rw [upd_ne (fun z => by rw [z, hD] at h1; cases h1)]
      exact h1, tupH_upd hD h2⟩
theorem tupH_add {a : α} {p : Addr} (h1 : H p = some (.tup (f a))) : ∀ {as : List α} {vs : List V}, TupH H f as vs → TupH H f (as ++ [a]) (vs ++ [.ref p])
  | [], _, h => by
    cases h
    exact ⟨p, [], rfl, h1, rfl⟩
  | _ :: _, _, ⟨p', vr, e, h2, h3⟩ => ⟨p', vr ++ [.ref p], by rw [e]; rfl, h2, tupH_add h1 h3⟩
theorem tupH_len : ∀ {as : List α} {vs : List V}, TupH H f as vs → vs.length = as.length
  | [], _, h => by
    cases h
    rfl
  | _ :: _, _, ⟨_, vr, e, _, h2⟩ => by rw [e, List.length_cons, List.length_cons, tupH_len h2]
theorem tupH_at : ∀ {as : List α} {vs : List V} {k : Nat} {a : α}, TupH H f as vs → as[k]? = some a → ∃ p, vs[k]? = some (.ref p) ∧ H p = some (.tup (f a))
  | [], _, k, a, h, e => by simp at e
  | b :: r, _, 0, a, ⟨p, vr, ev, h1, h2⟩, e => by
    have : b = a := Option.some.inj e
    subst this
    exact ⟨p, by rw [ev]; rfl, h1⟩
  | b :: r, _, k + 1, a, ⟨p, vr, ev, h1, h2⟩, e => by
    obtain ⟨p', e1, e2⟩ := tupH_at (k := k) h2 e
    exact ⟨p', by rw [ev]; exact e1, e2⟩
end
end HopR

set_option Elab.async false
set_option linter.all false
set_option maxRecDepth 100000
set_option exponentiation.threshold 200000
namespace HopR
open PySem PySem.Spec PyProof.Rows L2
theorem fig_len {m : Nat} (h : m < 2 ^ 8000) : (fig m).length ≤ 5000 := by
  have h38 := wide_38 h
  have h1 := pcs_len 37 m h38
  have h2 := pcs_fit 37 m h38
  have e : (fig m).length = ((pcs m).reverse.map (·.length)).sum := by
    show (fig m).cps.size = _
    rw [← Array.length_toList]
    unfold fig
    rw [join0_list, List.length_flatten, List.map_map]
    rfl
  rw [e, List.map_reverse, List.sum_reverse]
  have h3 := Hop.sum_le h2
  omega
end HopR
namespace Hop
open PySem L2 HopR
open C8 (InsC call_isC)
abbrev sEq : Stmt := inClass (top 15) 7
abbrev sWEq : Stmt := inClass (top 34) 10
abbrev sWRepr : Stmt := inClass (top 34) 13
theorem wf_no_row {i o l p : Addr} {bs : List Bool} : (wf i o bs l p).lookup ("row" : Str) = none := rfl
theorem wf_no_walls {i o l p : Addr} {bs : List Bool} : (wf i o bs l p).lookup ("walls" : Str) = none := rfl
theorem wf_no_counts {i o l p : Addr} {bs : List Bool} : (wf i o bs l p).lookup ("counts" : Str) = none := rfl
theorem wf_no_chances {i o l p : Addr} {bs : List Bool} : (wf i o bs l p).lookup ("chances" : Str) = none := rfl
theorem wf_no_step {i o l p : Addr} {bs : List Bool} : (wf i o bs l p).lookup ("step" : Str) = none := rfl
theorem wf_no_undo {i o l p : Addr} {bs : List Bool} : (wf i o bs l p).lookup ("undo" : Str) = none := rfl
def cntD (n : Nat) (ks : List Nat) : List PyData := [.int ((ks.count 0 : Nat) : Int), .int ((ks.length : Int) - ((ks.count 0 : Nat) : Int) - ((ks.count n : Nat) : Int)), .int ((ks.count n : Nat) : Int)]
theorem okd_cnt {n : Nat} {ks : List Nat} (h : ks.length ≤ 1000) {k : Nat} : Okd (.tuple (cntD n ks)) (k + 1) 126 := by
  have h0 : ks.count 0 ≤ ks.length := List.count_le_length
  have hn : ks.count n ≤ ks.length := List.count_le_length
  exact (Okds.cons (Okd.int (by omega)) (Okds.cons (Okd.int (by omega)) (Okds.cons (Okd.int (by omega)) Okds.nil))).tuple
theorem wls_len (st : List (Nat × List Bool)) : (wls st).length = st.length := by
  unfold wls
  rw [List.length_map]
theorem from_le : ∀ (ts : List Str) (k : Nat) (acc : Str), (textFrom k acc ts).length ≤ acc.length + (ts.map (·.length)).sum + 2 * ts.length
  | [], k, acc => by
    show acc.length ≤ _
    omega
  | t :: ts, k, acc => by
    have h := from_le ts (k + 1) (acc ++ (if k > 0 then ", " else "" : String) ++ t)
    have e : (acc ++ (Str.ofString (if k > 0 then ", " else "")) ++ t : Str).length ≤ acc.length + 2 + t.length := by
      rw [strLen_append, strLen_append]
      have : (Str.ofString (if k > 0 then ", " else "")).length ≤ 2 := by
        split <;> decide
      omega
    rw [List.map_cons, List.sum_cons, List.length_cons]
    refine Nat.le_trans h ?_
    refine Nat.le_trans (Nat.add_le_add_right (Nat.add_le_add_right e _) _) ?_
    omega
theorem text_le (ts : List Str) : (listText ts).length ≤ 2 + (ts.map (·.length)).sum + 2 * ts.length := by
  have h := from_le ts 0 "["
  have e : (listText ts).length = (textFrom 0 "[" ts).length + 1 := by
    unfold listText
    rw [strLen_append]
    rfl
  have e1 : ("[" : Str).length = 1 := by decide
  rw [e1] at h
  omega
theorem shown_few {d : PyData} {k N : Nat} (o : Okd d k N) : d.shown.length ≤ 15 * N + 13 := by
  have h := PyData.shown_le 13 (by decide) d o.ls
  have := o.wt
  have : 15 * d.weight ≤ 15 * N := Nat.mul_le_mul_left _ this
  omega
section
variable {P : Program} {w : World} {K : PySem.W.Frag} {mg : Str → Option Value} {base : Heap} {C W d : Addr} {es : Array DictEntry} {n : Nat}
variable {HE NN NR NP NS NW NL fI : Addr} {gI : FuncData}
variable {fi f1 f2 r1 r2 r3 r4 r6 p1 p2 p3 p4 fp ft fo fz fc fg : Addr} {gi g1 g2 s1 s2 s3 s4 s6 q1 q2 q3 q4 gp gt go gz gc gg : FuncData} {d1 : Value}
/-! ### repr of a Part -/
def ptxt (q : Rat) : Str := Str.empty ++ "Part(" ++ fig q.num.toNat ++ ", " ++ fig q.den ++ ")"
def spPRepr (C : Addr) : Sp := fun vs H Q _ => ∃ a q, vs = [.ref a] ∧ PA C H a q ∧ 0 < q ∧ Sz 8000 q ∧ ∀ H', Same H H' → Q (.str (ptxt q)) H'
theorem scPRepr : FnScope ["self"] ["self"] (defScope sPRepr) := ⟨rfl, rfl, rfl, by decide +kernel, rfl, by decide +kernel, by decide +kernel⟩
theorem ok_prepr {f : Addr} {fd : FuncData} {k : Nat} (F : Fun K "__repr__" "Part.__repr__" sPRepr f fd) (Nf : Fn K mg "figures_of" sFigures ["number"] fg gg) (T : TxtP K mg C) (TR : TxtR K w mg d es n) (TF : TxtF mg) : FnOk P w K mg base CX0 (k + 2) f fd ["self"] (spPRepr C) := by
  have Gf : FnOk P w K mg base CX0 (k + 1) fg gg ["number"] spFig := ok_figures Nf.F T TR TF
  refine F.ok scPRepr (fun vs H Q E h => ?_) (fun cdv A outer s H vs Q E hr h => ?_)
  · obtain ⟨a, q, rfl, _⟩ := h
    rfl
  · obtain ⟨a, q, rfl, ⟨dx, ha⟩, q0, hz, h⟩ := h
    refine ⟨_, pss_one (ps_ret (pe_joined (.cons pe_str (.cons (pe_fmt (pe_call Gf hr (by rfl) Nf.g Nf.F.kp Nf.b .nil pass0 (pa_cons (pe_fld (pv 0) rfl) pa_nil))) (.cons pe_str (.cons (pe_fmt (pe_call Gf hr (by rfl) Nf.g Nf.F.kp Nf.b .nil pass0 (pa_cons (pe_fld (pv 0) rfl) pa_nil))) (.cons pe_str .nil))))))), ?_⟩
    have hn := num_pos q0
    have hnn : q.num = ((q.num.toNat : Nat) : Int) := by omega
    have n8 : q.num.toNat < 2 ^ 8000 := by
      have := hz.1
      omega
    have b1 := fig_len n8
    have b2 := fig_len hz.2
    have sl : sizeLine = 16777216 := by decide
    have e0 : (Str.empty : Str).length = 0 := by decide
    have e1 : ("Part(" : Str).length = 5 := by decide
    have e2 : (", " : Str).length = 2 := by decide
    have e3 : (")" : Str).length = 1 := by decide
    refine ⟨"Part(", rfl, by rw [strLen_append, e0, e1, sl]; decide, ?_⟩
    refine ⟨.ref a, rfl, a, C, dx, _, _, rfl, ha, T.ins.cl, T.nT, pf_top q, q.num.toNat, by rw [← hnn]; rfl, n8, fun H1 s1 => .inl ⟨_, rfl, by rw [sl]; omega, _, rfl, by simp only [strLen_append, e0, e1, sl]; omega, ?_⟩⟩
    refine ⟨", ", rfl, by simp only [strLen_append, e0, e1, e2, sl]; omega, ?_⟩
    refine ⟨.ref a, rfl, a, C, dx, _, _, rfl, s1 _ _ ha, T.ins.cl, T.nB, pf_bottom q, q.den, rfl, hz.2, fun H2 s2 => .inl ⟨_, rfl, by rw [sl]; omega, _, rfl, by simp only [strLen_append, e0, e1, e2, sl]; omega, ?_⟩⟩
    exact ⟨")", rfl, by simp only [strLen_append, e0, e1, e2, e3, sl]; omega, h H2 (s1.trans s2)⟩
/-! ### Parts alike -/
def spPEq (C : Addr) : Sp := fun vs H Q _ => ∃ a b q r, vs = [.ref a, .ref b] ∧ PA C H a q ∧ PA C H b r ∧ Q (.bl (decide (q = r))) H
theorem scEq : FnScope ["self", "other"] ["self", "other"] (defScope sEq) := ⟨rfl, rfl, rfl, by decide +kernel, rfl, by decide +kernel, by decide +kernel⟩
theorem ok_eq {f : Addr} {fd : FuncData} {k : Nat} (F : Fun K "__eq__" "Part.__eq__" sEq f fd) (T : TxtP K mg C) : FnOk P w K mg base CX0 (k + 1) f fd ["self", "other"] (spPEq C) := by
  refine F.ok scEq (fun vs H Q E h => ?_) (fun cdv A outer s H vs Q E hr h => ?_)
  · obtain ⟨a, b, q, r, rfl, _⟩ := h
    rfl
  · obtain ⟨a, b, q, r, rfl, ⟨dx, ha⟩, ⟨dy, hb⟩, h⟩ := h
    refine ⟨_, pss_one (ps_ret (pe_and (pe_callB (call_isC T.ins) (by rfl) T.isi (by decide +kernel) (pa_cons (pv 1) (pa_cons (pe_glob (v := .ref C) (by rfl) T.mgC rfl) pa_nil)))
      (pe_and (pe_cmpR op_eq (pe_fld (pv 0) rfl) (pe_fld (pv 1) rfl) (nomark _)) (pe_one (pe_cmpR op_eq (pe_fld (pv 0) rfl) (pe_fld (pv 1) rfl) (nomark _)))))), ?_⟩
    refine ⟨.ref b, rfl, b, dy, _, rfl, hb, true, rfl, ?_⟩
    refine ⟨.ref a, rfl, a, C, dx, _, _, rfl, ha, T.ins.cl, T.nT, pf_top q, .ref b, rfl, b, C, dy, _, _, rfl, hb, T.ins.cl, T.nT, pf_top r, rfl, _, rfl, ?_⟩
    by_cases e1 : q.num = r.num
    · rw [decide_eq_true (show V.int q.num = V.int r.num by rw [e1])]
      refine ⟨.ref a, rfl, a, C, dx, _, _, rfl, ha, T.ins.cl, T.nB, pf_bottom q, .ref b, rfl, b, C, dy, _, _, rfl, hb, T.ins.cl, T.nB, pf_bottom r, rfl, ?_⟩
      have e : decide (V.int (q.den : Int) = V.int (r.den : Int)) = decide (q = r) := by
        by_cases e2 : q.den = r.den
        · rw [decide_eq_true (show V.int (q.den : Int) = V.int (r.den : Int) by rw [e2]), decide_eq_true (Rat.ext e1 e2)]
        · rw [decide_eq_false fun z => e2 (by have := V.int.inj z; omega), decide_eq_false fun z => e2 (by rw [z])]
      show Q (.bl (decide (V.int (q.den : Int) = V.int (r.den : Int)))) H
      rw [e]
      exact h
    · rw [decide_eq_false fun z => e1 (V.int.inj z)]
      rw [decide_eq_false (show ¬ q = r from fun z => e1 (by rw [z]))] at h
      exact h
/-! ### Walks alike -/
structure TxtE (K : PySem.W.Frag) (mg : Str → Option Value) (W : Addr) : Prop where
  ins : InsC K W
  gW : mg "Walk" = some (.ref W)
def spWEq (C W : Addr) : Sp := fun vs H Q _ => ∃ (v l v' l' : Addr) (bs : List Bool) (st st' : List (Nat × List Bool)) (q r : Rat), vs = [.ref v, .ref v'] ∧ WK C W H v l bs st q r ∧ WK C W H v' l' bs st' q r ∧ Q (.bl true) H
theorem scWEq : FnScope ["self", "other"] ["self", "other"] (defScope sWEq) := ⟨rfl, rfl, rfl, by decide +kernel, rfl, by decide +kernel, by decide +kernel⟩
theorem ok_weq {f fe : Addr} {fd ge : FuncData} {k : Nat} (F : Fun K "__eq__" "Walk.__eq__" sWEq f fd) (Fe : Fun K "__eq__" "Part.__eq__" sEq fe ge) (be : Binds K ge ["self", "other"] []) (eqc : EqC K C fe) (T : TxtP K mg C) (TW : TxtW K mg W) (TE : TxtE K mg W) :
    FnOk P w K mg base CX0 (k + 2) f fd ["self", "other"] (spWEq C W) := by
  have Ge : FnOk P w K mg base CX0 (k + 1) fe ge ["self", "other"] (spPEq C) := ok_eq Fe T
  refine F.ok scWEq (fun vs H Q E h => ?_) (fun cdv A outer s H vs Q E hr h => ?_)
  · obtain ⟨v, l, v', l', bs, st, st', q, r, rfl, _⟩ := h
    rfl
  · obtain ⟨v, l, v', l', bs, st, st', q, r, rfl, ⟨dx, i, o, p, ts, e1, e2, e3, ⟨⟨di, e4⟩, _⟩, ⟨⟨d_o, e5⟩, _⟩, e6⟩, ⟨dx', i', o', p', ts', e1', e2', e3', ⟨⟨di', e4'⟩, _⟩, ⟨⟨d_o', e5'⟩, _⟩, e6'⟩, h⟩ := h
    refine ⟨_, pss_one (ps_ret (pe_and (pe_callB (call_isC TE.ins) (by rfl) T.isi (by decide +kernel) (pa_cons (pv 1) (pa_cons (pe_glob (v := .ref W) (by rfl) TE.gW rfl) pa_nil)))
      (pe_and (pe_cmpR op_eq (pe_fld (pv 0) rfl) (pe_fld (pv 1) rfl) (nomark _)) (pe_and (pe_cmpR (op_eqOwn eqc Ge hr be pass0) (pe_fld (pv 0) rfl) (pe_fld (pv 1) rfl) (nomark _)) (pe_one (pe_cmpR (op_eqOwn eqc Ge hr be pass0) (pe_fld (pv 0) rfl) (pe_fld (pv 1) rfl) (nomark _))))))), ?_⟩
    refine ⟨.ref v', rfl, v', dx', _, rfl, e1', true, rfl, ?_⟩
    refine ⟨.ref v, rfl, v, W, dx, _, _, rfl, e1, TW.cl, TW.ns, wf_signs, .ref v', rfl, v', W, dx', _, _, rfl, e1', TW.cl, TW.ns, wf_signs, rfl, _, rfl, ?_⟩
    rw [decide_eq_true rfl]
    refine ⟨.ref v, rfl, v, W, dx, _, _, rfl, e1, TW.cl, TW.ni, wf_inn, .ref v', rfl, v', W, dx', _, _, rfl, e1', TW.cl, TW.ni, wf_inn, i, i', di, di', _, _, rfl, rfl, e4, e4', i, i', q, q, rfl, ⟨di, e4⟩, ⟨di', e4'⟩, _, rfl, _, rfl, ?_⟩
    rw [decide_eq_true rfl]
    refine ⟨.ref v, rfl, v, W, dx, _, _, rfl, e1, TW.cl, TW.no, wf_out, .ref v', rfl, v', W, dx', _, _, rfl, e1', TW.cl, TW.no, wf_out, o, o', d_o, d_o', _, _, rfl, rfl, e5, e5', o, o', r, r, rfl, ⟨d_o, e5⟩, ⟨d_o', e5'⟩, _, rfl, ?_⟩
    rw [decide_eq_true rfl]
    exact h
/-! ### repr of a Walk -/
def wtxt (bs : List Bool) (q r : Rat) : Str := Str.empty ++ "Walk(" ++ reprText (tx bs) ++ ", " ++ ptxt q ++ ", " ++ ptxt r ++ ")"
theorem ptxt_len {q : Rat} (q0 : 0 < q) (hz : Sz 8000 q) : (ptxt q).length ≤ 10008 := by
  have h1 := fig_len (m := q.num.toNat) (by have := hz.1; have := num_pos q0; omega)
  have h2 := fig_len hz.2
  unfold ptxt
  simp only [strLen_append]
  have e0 : (Str.empty : Str).length = 0 := by decide
  have e1 : ("Part(" : Str).length = 5 := by decide
  have e2 : (", " : Str).length = 2 := by decide
  have e3 : (")" : Str).length = 1 := by decide
  omega
theorem rtext_len {bs : List Bool} (h : bs.length ≤ 30) : (reprText (tx bs)).length ≤ 100000 := by
  have b0 := shown_few (Okd.tx (bs := bs) (k := 0))
  simp only [PyData.shown] at b0
  omega
def spWRepr (C W : Addr) : Sp := fun vs H Q _ => ∃ (v l : Addr) (bs : List Bool) (st : List (Nat × List Bool)) (q r : Rat), vs = [.ref v] ∧ WK C W H v l bs st q r ∧ bs.length ≤ 30 ∧ ∀ H', Same H H' → Q (.str (wtxt bs q r)) H'
theorem scWRepr : FnScope ["self"] ["self"] (defScope sWRepr) := ⟨rfl, rfl, rfl, by decide +kernel, rfl, by decide +kernel, by decide +kernel⟩
theorem ok_wrepr {f pr : Addr} {fd hp : FuncData} {k : Nat} (F : Fun K "__repr__" "Walk.__repr__" sWRepr f fd) (Fp : Fun K "__repr__" "Part.__repr__" sPRepr pr hp) (bp : Binds K hp ["self"] []) (Mp : PySem.W.findIn K (.ref C) "__repr__" = some (some (.ref pr))) (np : PySem.W.isFn K (.ref pr) = true)
    (Nf : Fn K mg "figures_of" sFigures ["number"] fg gg) (T : TxtP K mg C) (TR : TxtR K w mg d es n) (TF : TxtF mg) (TW : TxtW K mg W) : FnOk P w K mg base CX0 (k + 4) f fd ["self"] (spWRepr C W) := by
  have Gp : FnOk P w K mg base CX0 (k + 2) pr hp ["self"] (spPRepr C) := ok_prepr Fp Nf T TR TF
  refine F.ok scWRepr (fun vs H Q E h => ?_) (fun cdv A outer s H vs Q E hr h => ?_)
  · obtain ⟨v, l, bs, st, q, r, rfl, _⟩ := h
    rfl
  · obtain ⟨v, l, bs, st, q, r, rfl, ⟨dx, i, o, p, ts, e1, e2, e3, e4, e5, e6⟩, h30, h⟩ := h
    refine ⟨_, pss_one (ps_ret (pe_joined (.cons pe_str (.cons (pe_fmtR (pe_fld (pv 0) rfl)) (.cons pe_str (.cons (pe_fmtO Mp np Gp hr bp pass0 (pe_fld (pv 0) rfl)) (.cons pe_str (.cons (pe_fmtO Mp np Gp hr bp pass0 (pe_fld (pv 0) rfl)) (.cons pe_str .nil))))))))), ?_⟩
    obtain ⟨di, ei⟩ := id e4.1
    obtain ⟨d_o, eo⟩ := id e5.1
    have z4 : Sz 8000 q := e4.2.2.mono (by decide)
    have z5 : Sz 8000 r := e5.2.2.mono (by decide)
    have l1 := ptxt_len e4.2.1 z4
    have l2 := ptxt_len e5.2.1 z5
    have l3 := rtext_len h30
    have sl : sizeLine = 16777216 := by decide
    have e0 : (Str.empty : Str).length = 0 := by decide
    have x1 : ("Walk(" : Str).length = 5 := by decide
    have x2 : (", " : Str).length = 2 := by decide
    have x3 : (")" : Str).length = 1 := by decide
    refine ⟨"Walk(", rfl, by rw [strLen_append, e0, x1, sl]; decide, ?_⟩
    refine ⟨.ref v, rfl, v, W, dx, _, _, rfl, e1, TW.cl, TW.ns, wf_signs, .inl ⟨tx bs, rfl, by rw [sl]; omega, _, rfl, by simp only [strLen_append, e0, x1, sl]; omega, ?_⟩⟩
    refine ⟨", ", rfl, by simp only [strLen_append, e0, x1, x2, sl]; omega, ?_⟩
    refine ⟨.ref v, rfl, v, W, dx, _, _, rfl, e1, TW.cl, TW.ni, wf_inn, i, di, _, rfl, ei, i, q, rfl, e4.1, e4.2.1, z4, fun H1 s1 => ⟨_, rfl, by rw [sl]; omega, _, rfl, by simp only [strLen_append, e0, x1, x2, sl]; omega, ?_⟩⟩
    refine ⟨", ", rfl, by simp only [strLen_append, e0, x1, x2, sl]; omega, ?_⟩
    refine ⟨.ref v, rfl, v, W, dx, _, _, rfl, s1 _ _ e1, TW.cl, TW.no, wf_out, o, d_o, _, rfl, s1 _ _ eo, o, r, rfl, e5.1.same s1, e5.2.1, z5, fun H2 s2 => ⟨_, rfl, by rw [sl]; omega, _, rfl, by simp only [strLen_append, e0, x1, x2, sl]; omega, ?_⟩⟩
    exact ⟨")", rfl, by simp only [strLen_append, e0, x1, x2, x3, sl]; omega, h H2 (s1.trans s2)⟩
end
end Hop

set_option Elab.async false
set_option linter.all false
set_option maxRecDepth 100000
set_option exponentiation.threshold 200000
namespace Hop
open PySem L2 HopR
open C8 (InsC call_isC)
abbrev sCellAt : Stmt := top 36
abbrev sDrawn : Stmt := top 37
abbrev sLow : Stmt := top 38
abbrev sLRow : Stmt := top 39
abbrev sLPaces : Stmt := top 40
abbrev sLaw : Stmt := top 48
/-! ### the draws, a cell, a row -/
section
variable {P : Program} {w : World} {K : PySem.W.Frag} {mg : Str → Option Value} {base : Heap}
theorem scDrawn : FnScope ["_law_cell", "_law_sizes", "_law_found", "_law_left", "_law_k", "_law_small", "_law_one", "_law_two"] ["_law_cell", "_law_sizes"] (defScope sDrawn) := ⟨rfl, rfl, rfl, by decide +kernel, rfl, by decide +kernel, by decide +kernel⟩
theorem ok_drawn {f : Addr} {fd : FuncData} {k : Nat} (F : Fun K "_law_drawn" "_law_drawn" sDrawn f fd) (mL : mg "len" = none) (mR : mg "range" = none) : FnOk P w K mg base CX0 (k + 1) f fd ["_law_cell", "_law_sizes"] (spDrawn K) := by
  refine F.ok scDrawn (fun vs H Q E h => ?_) (fun cdv A outer s H vs Q E hr h => ?_)
  · obtain ⟨c, a, zs, rfl, _⟩ := h
    rfl
  · obtain ⟨c, a, zs, rfl, hS, hz, hlen, q⟩ := h
    have nd := scDrawn.nd
    refine ⟨_, pss_cons (ps_set (i := 2) nd rfl (.inl rfl) (pe_lst pa_nil))
      (pss_cons (ps_set (i := 3) nd rfl (.inl rfl) (pv 0))
      (pss_cons (ps_for PassesOwn.never rfl (pi_range1 (by rfl) mR (pa_cons (pe_callB call_len_seq (by rfl) mL PySem.boot_len (pa_cons (pv 1) pa_nil)) pa_nil)) (pg_name (i := 4) nd rfl (.inl rfl))
        (pss_one (ps_if (pt_cmpR op_ge (pv 3) (pe_op op_pow pe_int pe_int) (nomark _))
          (pss_cons (ps_expr (pe_bm PySem.F.plainAttrs_list PySem.F.slot_list_append PySem.F.type_list_append mt_append (pv 2) (pa_cons (pe_op op_mod (pv 3) (pe_ix ix_list (pv 1) (pv 4) (fun _ _ => rfl))) pa_nil)))
            (pss_one (ps_set (i := 3) nd rfl (.inl rfl) (pe_op op_fdivW (pv 3) (pe_ix ix_list (pv 1) (pv 4) (fun _ _ => rfl))))))
          (pss_cons (ps_set (i := 5) nd rfl (.inl rfl) (pe_op op_mod (pv 3) (pe_op op_pow pe_int pe_int)))
          (pss_cons (ps_set (i := 6) nd rfl (.inl rfl) (pe_op op_mod (pe_op op_mul (pe_op op_add (pe_op op_add (pv 5) (pe_op op_mul pe_int (pv 4))) pe_int) (pe_op op_add pe_int (pe_op op_mul (pe_op op_mul pe_int (pv 4)) (pv 4)))) pe_int))
          (pss_cons (ps_set (i := 7) nd rfl (.inl rfl) (pe_op op_mod (pe_op op_mul (pe_op op_add (pe_op op_add (pe_op op_fdiv (pv 5) pe_int) (pe_op op_mul pe_int (pv 4))) pe_int) (pe_op op_add pe_int (pe_op op_mul pe_int (pv 4)))) pe_int))
          (pss_one (ps_expr (pe_bm PySem.F.plainAttrs_list PySem.F.slot_list_append PySem.F.type_list_append mt_append (pv 2) (pa_cons (pe_op op_mod (pe_op op_add (pe_op op_mul (pv 6) (pv 7)) (pe_op op_fdiv (pv 6) pe_int)) (pe_ix ix_list (pv 1) (pv 4) (fun _ _ => rfl))) pa_nil))))))))))
      (pss_one (ps_ret (pv 2))))), ?_⟩
    -- found = []; left = cell
    refine ⟨Nat.zero_le _, fun o no => ?_⟩
    have s1 : Same H (upd H o (.lst [])) := same_upd no
    refine ⟨.int c, rfl, .ref a, rfl, a, zs.map V.int, rfl, .inl (s1.seq hS), ((zs.map V.int).length : Int), rfl, by omega, (by rw [List.length_map]; omega), ?_⟩
    refine for_range (lo := 0) (n := zs.length) (fun i σ H3 => ∃ (l : Int) (y4 y5 y6 y7 : Option V) (ds : List Int), σ = [some (.int c), some (.ref a), some (.ref o), some (.int l), y4, y5, y6, y7] ∧
        Same H H3 ∧ H3 o = some (.lst (ds.map V.int)) ∧ ds.length = i ∧ ds ++ draws l i (zs.drop i) = draws c 0 zs)
      ⟨c, none, none, none, none, [], rfl, s1, upd_same, rfl, by simp⟩ ?_ ?_ |> (fun h => by rw [List.length_map]; exact h)
    · rintro i σ H3 hi ⟨l, y4, y5, y6, y7, ds, rfl, sm, eo, el, ed⟩
      have hA : SqL K H3 a (zs.map V.int) := sm.seq hS
      have hz1 := hz zs[i] (List.getElem_mem hi)
      have gz : zs[i]? = some zs[i] := List.getElem?_eq_getElem hi
      have g : atI (zs.map V.int) (i : Int) = some (.int zs[i]) := atI_nat (by rw [List.getElem?_map, gz]; rfl)
      have hd : zs.drop i = zs[i] :: zs.drop (i + 1) := List.drop_eq_getElem_cons hi
      rw [hd] at ed
      have ed' : (ds ++ [dval l i zs[i]]) ++ draws (dleft l zs[i]) (i + 1) (zs.drop (i + 1)) = draws c 0 zs := by
        rw [List.append_assoc]
        exact ed
      have small : (ds.map V.int).length < sizeLine := by
        rw [List.length_map]
        exact small1000 (by omega)
      rw [Int.zero_add]
      refine ⟨.int l, rfl, 10, 18, rfl, rfl, ⟨by decide, by decide, by decide⟩, l, 10 ^ 18, rfl, rfl, _, rfl, ite2 (fun e => ?_) (fun e => ?_)⟩
      · have e : (1000000000000000000 : Int) ≤ l := of_decide_eq_true e
        refine ⟨.ref o, rfl, .inl ⟨rfl, _, SqL.of eo⟩, .int l, rfl, .ref a, rfl, .int (i : Int), rfl, a, _, _, _, rfl, rfl, hA, g, l, zs[i], rfl, rfl, hz1.1, o, _, _, rfl, rfl, eo, small, ?_⟩
        have e1 : dval l i zs[i] = l % zs[i] := by
          unfold dval
          rw [if_pos e]
        have e2 : dleft l zs[i] = l / zs[i] := by
          unfold dleft
          rw [if_pos e]
        have sm2 : Same H (upd H3 o (.lst (ds.map V.int ++ [.int (l % zs[i])]))) := same_new no sm
        refine ⟨.int l, rfl, .ref a, rfl, .int (i : Int), rfl, a, _, _, _, rfl, rfl, sm2.seq hS, g, l, zs[i], rfl, rfl, wide_div hz1.1 (b := 64) (by have := hz1.2; have := hz1.1; omega) (by decide) (by decide), ?_⟩
        refine ⟨_, _, _, _, _, ds ++ [dval l i zs[i]], rfl, sm2, ?_, ?_, ?_⟩
        · rw [upd_same, e1, List.map_append]
          rfl
        · rw [List.length_append, el]
          rfl
        · rw [← e2]
          exact ed'
      · have e : ¬ (1000000000000000000 : Int) ≤ l := fun z => e (decide_eq_true z)
        have e2 : dleft l zs[i] = l := by
          unfold dleft
          rw [if_neg e]
        have hi1000 : (i : Int) < 1000 := by omega
        have s0 : 0 ≤ l % 1000000000000000000 := Int.emod_nonneg _ (by decide)
        have s9 : l % 1000000000000000000 < 1000000000000000000 := Int.emod_lt_of_pos _ (by decide)
        refine ⟨.int l, rfl, 10, 18, rfl, rfl, ⟨by decide, by decide, by decide⟩, l, 10 ^ 18, rfl, rfl, (show (0 : Int) < 10 ^ 18 by decide), ?_⟩
        refine ⟨_, rfl, .int (i : Int), rfl, 7, i, rfl, rfl, .inl ⟨by decide, by decide⟩, _, _, rfl, rfl, _, _, rfl, rfl, .int (i : Int), rfl, 2, i, rfl, rfl, .inl ⟨by decide, by decide⟩, .int (i : Int), rfl, _, _, rfl, rfl, .inl ⟨by omega, by omega⟩, _, _, rfl, rfl, _, _, rfl, rfl,
          .inl ⟨by show -(2 ^ 64) < l % 1000000000000000000 + 7 * (i : Int) + 1; omega, by show l % 1000000000000000000 + 7 * (i : Int) + 1 < 2 ^ 64; omega⟩, _, _, rfl, rfl, (show (0 : Int) < 2147483647 by decide), ?_⟩
        refine ⟨_, rfl, _, _, rfl, rfl, ⟨by decide, by decide⟩, .int (i : Int), rfl, 11, i, rfl, rfl, .inl ⟨by decide, by decide⟩, _, _, rfl, rfl, _, _, rfl, rfl, .int (i : Int), rfl, 6, i, rfl, rfl, .inl ⟨by decide, by decide⟩, _, _, rfl, rfl, _, _, rfl, rfl,
          .inl ⟨by show -(2 ^ 64) < l % 1000000000000000000 / 3 + 11 * (i : Int) + 5; omega, by show l % 1000000000000000000 / 3 + 11 * (i : Int) + 5 < 2 ^ 64; omega⟩, _, _, rfl, rfl, (show (0 : Int) < 2147483629 by decide), ?_⟩
        have o0 := Int.emod_nonneg ((l % 1000000000000000000 + 7 * (i : Int) + 1) * (48271 + 2 * (i : Int) * (i : Int))) (show (2147483647 : Int) ≠ 0 by decide)
        have o9 := Int.emod_lt_of_pos ((l % 1000000000000000000 + 7 * (i : Int) + 1) * (48271 + 2 * (i : Int) * (i : Int))) (show (0 : Int) < 2147483647 by decide)
        refine ⟨.ref o, rfl, .inl ⟨rfl, _, SqL.of eo⟩, _, rfl, _, rfl, _, _, rfl, rfl, .inl ⟨Int.lt_of_lt_of_le (by decide) o0, Int.lt_trans o9 (by decide)⟩, _, rfl, _, _, rfl, rfl, ⟨by decide, by decide⟩, _, _, rfl, rfl, .ref a, rfl, .int (i : Int), rfl, a, _, _, _, rfl, rfl, hA, g, _, zs[i], rfl, rfl, hz1.1, o, _, _, rfl, rfl, eo, small, ?_⟩
        have e1 : dval l i zs[i] = ((l % 1000000000000000000 + 7 * (i : Int) + 1) * (48271 + 2 * (i : Int) * (i : Int)) % 2147483647 * ((l % 1000000000000000000 / 3 + 11 * (i : Int) + 5) * (39373 + 6 * (i : Int)) % 2147483629) + (l % 1000000000000000000 + 7 * (i : Int) + 1) * (48271 + 2 * (i : Int) * (i : Int)) % 2147483647 / 64) % zs[i] := by
          unfold dval
          rw [if_neg e]
        refine ⟨_, _, _, _, _, ds ++ [dval l i zs[i]], rfl, same_new no sm, ?_, ?_, ?_⟩
        · rw [upd_same, e1, List.map_append]
          rfl
        · rw [List.length_append, el]
          rfl
        · rw [e2] at ed'
          exact ed'
    · rintro σ H3 ⟨l, y4, y5, y6, y7, ds, rfl, sm, eo, el, ed⟩
      rw [List.drop_length] at ed
      have ed : ds = draws c 0 zs := by
        rw [← ed]
        show ds = ds ++ []
        rw [List.append_nil]
      subst ed
      exact ⟨.ref o, rfl, q H3 o sm no eo⟩

/-! ### _law_cell_at -/
theorem scCell : FnScope ["_law_script", "_law_k"] ["_law_script", "_law_k"] (defScope sCellAt) := ⟨rfl, rfl, rfl, by decide +kernel, rfl, by decide +kernel, by decide +kernel⟩
theorem ok_cell {f : Addr} {fd : FuncData} {k : Nat} (F : Fun K "_law_cell_at" "_law_cell_at" sCellAt f fd) (mL : mg "len" = none) : FnOk P w K mg base CX0 (k + 1) f fd ["_law_script", "_law_k"] (spCellH K) := by
  refine F.ok scCell (fun vs H Q E h => ?_) (fun cdv A outer s H vs Q E hr h => ?_)
  · obtain ⟨a, ns, k, rfl, _⟩ := h
    rfl
  · obtain ⟨a, ns, k, rfl, hS, q⟩ := h
    refine ⟨_, pss_cons (ps_if (pt_cmpR op_lt (pv 1) (pe_callB call_len_seq (by rfl) mL PySem.boot_len (pa_cons (pv 0) pa_nil)) (nomark _)) (pss_one (ps_ret (pe_ix ix_list (pv 0) (pv 1) (fun _ _ => rfl)))) pss_nil) (pss_one (ps_ret pe_int)), ?_⟩
    refine ⟨_, rfl, .ref a, rfl, a, _, rfl, .inl hS, _, _, rfl, rfl, _, rfl, ite2 (fun e => ?_) (fun e => ?_)⟩
    · have e : (k : Int) < ((ns.map V.int).length : Int) := of_decide_eq_true e
      rw [List.length_map] at e
      have hk : k < ns.length := by omega
      exact ⟨.ref a, rfl, .int (k : Int), rfl, a, _, _, .int ns[k], rfl, rfl, hS, atI_nat (by rw [List.getElem?_map, List.getElem?_eq_getElem hk]; rfl), q _⟩
    · exact q 0
theorem scLRow : FnScope ["_law_cell", "_law_most", "_law_draws", "_law_row_here", "_law_draw"] ["_law_cell", "_law_most"] (defScope sLRow) := ⟨rfl, rfl, rfl, by decide +kernel, rfl, by decide +kernel, by decide +kernel⟩
theorem ok_lrow {f f1 : Addr} {fd fd1 : FuncData} {k : Nat} (F : Fun K "_law_row" "_law_row" sLRow f fd) (N1 : Fn K mg "_law_drawn" sDrawn ["_law_cell", "_law_sizes"] f1 fd1) (mL : mg "len" = none) (mR : mg "range" = none) (mS : mg "sorted" = none) : FnOk P w K mg base CX0 (k + 2) f fd ["_law_cell", "_law_most"] spLRow := by
  have G1 : FnOk P w K mg base CX0 (k + 1) f1 fd1 ["_law_cell", "_law_sizes"] (spDrawn K) := ok_drawn N1.F mL mR
  refine F.ok scLRow (fun vs H Q E h => ?_) (fun cdv A outer s H vs Q E hr h => ?_)
  · obtain ⟨c, M, rfl, _⟩ := h
    rfl
  · obtain ⟨c, M, rfl, hM1, hM, q⟩ := h
    have nd := scLRow.nd
    refine ⟨_, pss_cons (ps_set (i := 2) nd rfl (.inl rfl) (pe_call G1 hr (by rfl) N1.g N1.F.kp N1.b .nil pass0 (pa_cons (pv 0) (pa_cons (pe_op op_cat (pe_lst (pa_cons pe_int (pa_cons (pv 1) pa_nil))) (pe_op op_rep (pe_lst (pa_cons pe_int pa_nil)) (pv 1))) pa_nil))))
      (pss_cons (ps_set (i := 3) nd rfl (.inl rfl) (pe_join pe_str (pe_lc (own := [("_law_draw", 4)]) (g := gName 4) (tt := tYes) rfl nd (pi_list (pe_slice sl_list (pv 2) (po_some pe_int) (po_some (pe_op op_add pe_int (pe_ix ix_list (pv 2) pe_int (fun _ _ => rfl))))))
        (blkOk_by (own := [("_law_draw", 4)]) (N := ["_law_cell", "_law_most", "_law_draws", "_law_row_here", "_law_draw"]) (sc := defScope sLRow) (by decide +kernel))
        (fun _ _ _ _ _ => pg_name (i := 4) nd rfl (Or.inl rfl)) (fun _ _ _ _ _ => pts_nil) (fun _ _ _ _ _ => pe_ix ix_str pe_str (pv 4) (fun _ _ => rfl)))))
      (pss_cons (ps_if (pt_cmpR op_eq (pe_ix ix_list (pv 2) pe_int (fun _ _ => rfl)) pe_int (nomark _)) (pss_one (ps_ret (pe_join pe_str (pe_revL (pe_callB (cr_sortT rfl) (by rfl) mS (by decide +kernel) (pa_cons (pv 3) pa_nil)))))) pss_nil)
      (pss_cons (ps_if (pt_cmpR op_eq (pe_ix ix_list (pv 2) pe_int (fun _ _ => rfl)) pe_int (nomark _)) (pss_one (ps_ret (pe_slice sl_str (pe_op op_repS pe_str (pv 1)) po_none (po_some (pe_callB call_len_str (by rfl) mL PySem.boot_len (pa_cons (pv 3) pa_nil)))))) pss_nil)
      (pss_one (ps_ret (pv 3)))))), ?_⟩
    -- the sizes
    refine ⟨.int c, rfl, .int (M : Int), rfl, (by show 2 ≤ sizeLine; decide), fun l1 n1 => ⟨(by show 1 ≤ sizeLine; decide), fun l2 n2 => ?_⟩⟩
    refine ⟨.int (M : Int), rfl, l2, (M : Int), [.int 2], rfl, rfl, upd_same, by omega, by omega, (by rw [Int.toNat_natCast]; exact fit (by show 1 * M ≤ 10000; omega)), fun l3 n3 => ?_⟩
    rw [Int.toNat_natCast, flat_rep]
    have m2 := (same_upd n1).free n2
    have nl12 : l1 ≠ l2 := fun e => by
      rw [← e, upd_same] at n2
      cases n2
    have s2 : Same H (upd (upd H l1 (.lst [.int 6, .int (M : Int)])) l2 (.lst [.int 2])) := same_new m2 (same_upd n1)
    have m3 := s2.free n3
    have nl13 : l1 ≠ l3 := fun e => by
      rw [← e, upd_ne nl12, upd_same] at n3
      cases n3
    refine ⟨l1, l3, [.int 6, .int (M : Int)], _, rfl, rfl, ?_, upd_same, (by rw [List.length_replicate]; exact fit (by show 2 + M ≤ 10000; omega)), fun l4 n4 => ?_⟩
    · rw [upd_ne nl13, upd_ne nl12, upd_same]
    have s3 := same_new (o := .lst (List.replicate M (V.int 2))) m3 s2
    have m4 := s3.free n4
    have hsz : [V.int 6, .int (M : Int)] ++ List.replicate M (V.int 2) = ([6, (M : Int)] ++ List.replicate M 2).map V.int := by
      rw [List.map_append, List.map_replicate]
      rfl
    rw [hsz]
    have hsl : ([6, (M : Int)] ++ List.replicate M 2).length = M + 2 := by
      rw [List.length_append, List.length_replicate]
      show 2 + M = M + 2
      omega
    refine ⟨c, l4, [6, (M : Int)] ++ List.replicate M 2, rfl, SqL.of upd_same, ?_, by rw [hsl]; omega, fun H1 p s4 np ep => ?_⟩
    · intro z hz
      rcases List.mem_append.mp hz with h | h
      · rcases List.mem_cons.mp h with rfl | h
        · exact ⟨by decide, by decide⟩
        · rcases List.mem_cons.mp h with rfl | h
          · exact ⟨by omega, by omega⟩
          · cases h
      · rw [(List.mem_replicate.mp h).2]
        exact ⟨by decide, by decide⟩
    have sH1 : Same H H1 := (same_new m4 s3).trans s4
    generalize hds : draws c 0 ([6, (M : Int)] ++ List.replicate M 2) = ds at ep
    have hpos : ∀ z ∈ ([6, (M : Int)] ++ List.replicate M 2 : List Int), 0 < z := by
      intro z hz
      rcases List.mem_append.mp hz with h | h
      · rcases List.mem_cons.mp h with rfl | h
        · decide
        · obtain rfl := List.mem_singleton.mp h
          omega
      · rw [(List.mem_replicate.mp h).2]
        decide
    have hlen : ds.length = M + 2 := by
      rw [← hds, draws_len, hsl]
    have hok : ∀ (i : Nat) (x z : Int), ds[i]? = some x → ([6, (M : Int)] ++ List.replicate M 2 : List Int)[i]? = some z → 0 ≤ x ∧ x < z := by
      rw [← hds]
      exact draws_ok _ c 0 hpos
    obtain ⟨d0, e0⟩ : ∃ x, ds[0]? = some x := ⟨ds[0], List.getElem?_eq_getElem (by omega)⟩
    obtain ⟨d1, e1⟩ : ∃ x, ds[1]? = some x := ⟨ds[1], List.getElem?_eq_getElem (by omega)⟩
    have b1 := hok 1 d1 (M : Int) e1 rfl
    obtain ⟨m, rfl⟩ : ∃ m : Nat, d1 = (m : Int) := ⟨d1.toNat, by omega⟩
    have hcs : ∀ x ∈ (ds.drop 2).take (m + 1), 0 ≤ x ∧ x < 2 := fun x hx => by
      obtain ⟨j, hj⟩ := List.getElem?_of_mem (List.mem_of_mem_take hx)
      rw [List.getElem?_drop] at hj
      have hj2 : 2 + j < ds.length := (List.getElem?_eq_some_iff.mp hj).1
      refine hok (2 + j) x 2 hj ?_
      rw [List.getElem?_append_right (by show 2 ≤ 2 + j; omega), List.getElem?_replicate]
      show (if 2 + j - 2 < M then some (2 : Int) else none) = some 2
      rw [if_pos (by omega)]
    have hcl : ((ds.drop 2).take (m + 1)).length = m + 1 := by
      rw [List.length_take, List.length_drop, hlen]
      omega
    generalize hcd : (ds.drop 2).take (m + 1) = cs at hcs hcl
    have ecut : cutV (ds.map V.int) (some 2) (some (3 + (m : Int))) = cs.map V.int := by
      unfold cutV
      rw [show (some (2 : Int)) = some ((2 : Nat) : Int) from rfl, show (3 + (m : Int)) = ((3 + m : Nat) : Int) by omega, HT.sIx_nat, HT.sIx_nat, List.length_map, hlen, ← hcd, List.map_take, List.map_drop]
      have i1 : min 2 (M + 2) = 2 := by omega
      have i2 : min (3 + m) (M + 2) - 2 = m + 1 := by omega
      rw [i1, i2]
    have g1 : atI (ds.map V.int) 1 = some (.int (m : Int)) := atI_nat (j := 1) (by rw [List.getElem?_map, e1]; rfl)
    have g0 : atI (ds.map V.int) 0 = some (.int d0) := atI_nat (j := 0) (by rw [List.getElem?_map, e0]; rfl)
    have hbl : (bits cs).length = m + 1 := by
      unfold bits
      rw [List.length_map, hcl]
    have hRow : Row (bits cs) := by
      unfold Row
      rw [hbl]
      omega
    refine ⟨⟨_, rfl⟩, .ref p, rfl, 2, rfl, .ref p, rfl, p, _, 1, .int (m : Int), rfl, rfl, SqL.of ep, g1, 3, (m : Int), rfl, rfl, _, rfl, p, _, rfl, SqL.of ep, fun q1 nq1 => ?_⟩
    rw [ecut]
    have sq1 : Same H (upd H1 q1 (.lst (cs.map V.int))) := same_new (sH1.free nq1) sH1
    have npq : p ≠ q1 := ne_of_none ep nq1
    refine ⟨q1, rfl, ⟨_, SqL.of upd_same⟩, fun D hD => ?_⟩
    have nDq : q1 ≠ D := fun e => by
      rw [← e, upd_same] at hD
      cases hD
    have nDp : p ≠ D := fun e => by
      rw [← e, upd_ne npq, ep] at hD
      cases hD
    have hDH := sq1.free hD
    refine lc_list (K := K) (a := q1) (xs := cs.map V.int) (fun i H3 => Same H H3 ∧ H3 q1 = some (.lst (cs.map V.int)) ∧ H3 p = some (.lst (ds.map V.int)) ∧ H3 D = some (.lst (((bits (cs.take i)).map fun b => tx [b]).map V.str)))
      ⟨same_new hDH sq1, by rw [upd_ne nDq, upd_same], by rw [upd_ne nDp, upd_ne npq]; exact ep, upd_same⟩ (fun i H3 _ h => SqL.of h.2.1) ?_ ?_
    · rintro i x H3 hx ⟨sm, eq1, epp, eD⟩
      rw [List.getElem?_map] at hx
      obtain ⟨u, hu, rfl⟩ := Option.map_eq_some_iff.mp hx
      have hb := hcs u (List.mem_of_getElem? hu)
      refine ⟨rfl, .int u, rfl, ".o", u, _, rfl, rfl, (by decide), dot_o u hb.1 hb.2, _, eD, ?_, same_new hDH sm, ?_, ?_, ?_⟩
      · rw [List.length_map, List.length_map]
        unfold bits
        rw [List.length_map]
        exact small1000 (Nat.le_trans (List.length_take_le _ _) (by have := (List.getElem?_eq_some_iff.mp hu).1; omega))
      · rw [upd_ne nDq]
        exact eq1
      · rw [upd_ne nDp]
        exact epp
      · unfold bits
        rw [upd_same, List.take_add_one, hu, List.map_append, List.map_append, List.map_append]
        rfl
    · rintro H3 ⟨sm, eq1, epp, eD⟩
      rw [List.length_map, List.take_length] at eD
      refine ⟨"", D, _, rfl, rfl, .inl (SqL.of eD), join_fits (by have := hRow.2; omega), ?_⟩
      rw [join_tx]
      -- which kind
      refine ⟨.ref p, rfl, p, _, 0, _, rfl, rfl, SqL.of epp, g0, rfl, _, rfl, ite2 (fun _ => ?_) (fun _ => ?_)⟩
      · have h64 : (tx (bits cs)).length < 64 := by
          rw [tx_len]
          have := hRow.2
          omega
        refine ⟨⟨_, rfl⟩, .str (tx (bits cs)), rfl, tx (bits cs), rfl, h64, fun ys p1 hperm _ np1 => ⟨p1, _, rfl, SqL.of upd_same, fun p2 np2 => ?_⟩⟩
        rw [← List.map_reverse]
        obtain ⟨bs2, e2⟩ := signs_rows ys.reverse fun y hy => by
          have h1 := hperm.mem_iff.mp (List.mem_reverse.mp hy)
          rw [tx_sg] at h1
          obtain ⟨b, _, e⟩ := List.mem_map.mp h1
          exact ⟨b, e.symm⟩
        have hl2 : bs2.length = (bits cs).length := by
          have := congrArg List.length e2
          rw [List.length_reverse, hperm.length_eq, sg_len, tx_len, List.length_map] at this
          exact this.symm
        rw [e2]
        have hR2 : Row bs2 := by
          unfold Row
          rw [hl2]
          exact hRow
        refine ⟨"", p2, _, rfl, rfl, .inl (SqL.of upd_same), join_fits (by have := hR2.2; omega), ?_⟩
        rw [join_tx]
        have sp1 := same_new (o := .lst (ys.map V.str)) (sm.free np1) sm
        exact q _ _ (same_new (sp1.free np2) sp1) hR2.1 (by rw [hl2, hbl]; omega)
      · refine ⟨.ref p, rfl, p, _, 0, _, rfl, rfl, SqL.of epp, g0, rfl, _, rfl, ite2 (fun _ => ?_) (fun _ => ?_)⟩
        · have hrl := rep_of_len M
          refine ⟨.int (M : Int), rfl, "o.", M, rfl, rfl, (by rw [show ("o." : Str).length = 2 by decide +kernel]; omega), by omega, .str (tx (bits cs)), rfl, tx (bits cs), rfl, row_size hRow, _, rfl, _, rfl, ?_, ?_⟩
          · rw [rep_of]
            exact tx_fit (by omega)
          · rw [rep_of, cut_to, tx_len]
            refine q _ _ sm ?_ ?_
            · rw [List.length_take]
              omega
            · rw [List.length_take]
              omega
        · exact ⟨_, rfl, q _ _ sm hRow.1 (by omega)⟩
end
section
variable {P : Program} {w : World} {K : PySem.W.Frag} {mg : Str → Option Value} {base : Heap} {C d : Addr} {es : Array DictEntry} {n : Nat}
/-! ### _law_low -/
theorem scLow : FnScope ["_law_top", "_law_bottom", "_law_one", "_law_other"] ["_law_top", "_law_bottom"] (defScope sLow) := ⟨rfl, rfl, rfl, by decide +kernel, rfl, by decide +kernel, by decide +kernel⟩
def tq (q : Rat) : List V := [.int q.num, .int (q.den : Int)]
def spLow : Sp := fun vs H Q _ => ∃ t b : Int, vs = [.int t, .int b] ∧ b ≠ 0 ∧ b.natAbs < 2 ^ 8000 ∧ ∀ H' p, Same H H' → H p = none → H' p = some (.tup (tq (Rat.divInt t b))) → Q (.ref p) H'
theorem abs_nat (x : Int) : (if x < 0 then -x else x) = (x.natAbs : Int) := by
  split <;> omega
theorem ok_low {f : Addr} {fd : FuncData} {k : Nat} (F : Fun K "_law_low" "_law_low" sLow f fd) (T : TxtP K mg C) : FnOk P w K mg base CX0 (k + 1) f fd ["_law_top", "_law_bottom"] spLow := by
  refine F.ok scLow (fun vs H Q E h => ?_) (fun cdv A outer s H vs Q E hr h => ?_)
  · obtain ⟨a, b, rfl, _⟩ := h
    rfl
  · obtain ⟨t, b, rfl, hb, hb2, q⟩ := h
    have nd := scLow.nd
    refine ⟨_, pss_cons (ps_set (i := 2) nd rfl (.inl rfl) (pe_callB call_abs (by rfl) T.abs (by decide +kernel) (pa_cons (pv 0) pa_nil)))
      (pss_cons (ps_set (i := 3) nd rfl (.inl rfl) (pe_callB call_abs (by rfl) T.abs (by decide +kernel) (pa_cons (pv 1) pa_nil)))
      (pss_cons (ps_while PassesOwn.never (pt_cmpR op_gt (pv 3) pe_int (nomark _)) (pss_one (ps_par (by rfl) nd (i := 2) (j := 3) rfl rfl (by decide) rfl rfl (pa_cons (pv 3) (pa_cons (pe_op op_modN (pv 2) (pv 3)) pa_nil)) (by rfl))))
      (pss_cons (ps_if (pt_cmpR op_lt (pv 1) pe_int (nomark _)) (pss_one (ps_set (i := 2) nd rfl (.inl rfl) (pe_op op_sub pe_int (pv 2)))) pss_nil)
      (pss_one (ps_ret (pe_tup (pa_cons (pe_op op_fdivWN (pv 0) (pv 2)) (pa_cons (pe_op op_fdivWN (pv 1) (pv 2)) pa_nil)))))))), ?_⟩
    refine ⟨.int t, rfl, t, rfl, .int b, rfl, b, rfl, ?_⟩
    rw [abs_nat, abs_nat]
    have hg := gcd_pos (t := t) hb
    have hgl : (Int.gcd t b).log2 < 9000 := by
      have h1 : Int.gcd t b ≤ b.natAbs := Nat.le_of_dvd (by omega) (Int.gcd_dvd_natAbs_right ..)
      exact Nat.lt_of_lt_of_le (PySem.Flt.log2_lt_of (by decide) (Nat.lt_of_le_of_lt h1 hb2)) (by decide)
    have fin : ∀ g : Int, g = (if b < 0 then -(Int.gcd t b : Int) else (Int.gcd t b : Int)) → CDivWN t g ∧ CDivWN b g := fun g e => by
      have e2 : g.natAbs = Int.gcd t b := by
        rw [e]
        split <;> omega
      unfold CDivWN
      rw [e2]
      exact ⟨⟨by omega, hgl⟩, ⟨by omega, hgl⟩⟩
    have done : ∀ g : Int, g = (if b < 0 then -(Int.gcd t b : Int) else (Int.gcd t b : Int)) → ∀ p, H p = none → Q (.ref p) (upd H p (.tup [.int (t.fdiv g), .int (b.fdiv g)])) := fun g e p hp => by
      rw [e, low_num hb, low_den hb]
      exact q _ _ (same_upd hp) hp upd_same
    refine while_by (fun σ H1 => ∃ x y : Nat, σ = [some (.int t), some (.int b), some (.int (x : Int)), some (.int (y : Int))] ∧ Nat.gcd x y = Int.gcd t b ∧ H1 = H) (fun σ _ => match σ with | [_, _, _, some (.int y)] => y.natAbs | _ => 0) ⟨t.natAbs, b.natAbs, rfl, rfl, rfl⟩ ?_ ?_
    · rintro σ H1 ⟨x, y, rfl, e, rfl⟩
      refine ⟨_, rfl, _, _, rfl, rfl, _, rfl, ?_⟩
      by_cases hy : y = 0
      · subst hy
        rw [Nat.gcd_zero_right] at e
        subst e
        rw [decide_eq_false (show ¬ (((0 : Nat) : Int) > 0) by decide)]
        refine iteF ⟨.int b, rfl, _, _, rfl, rfl, _, rfl, ite2 (fun e => ?_) (fun e => ?_)⟩
        · have e : b < 0 := of_decide_eq_true e
          have eg : (0 : Int) - (Int.gcd t b : Int) = (if b < 0 then -(Int.gcd t b : Int) else (Int.gcd t b : Int)) := by
            rw [if_pos e]
            omega
          obtain ⟨c1, c2⟩ := fin _ eg
          exact ⟨_, rfl, _, _, rfl, rfl, .int t, rfl, _, rfl, t, _, rfl, rfl, c1, .int b, rfl, _, rfl, b, _, rfl, rfl, c2, (by show 2 ≤ sizeLine; decide), fun p hp => done _ eg p hp⟩
        · have e : ¬ b < 0 := fun z => e (decide_eq_true z)
          have eg : (Int.gcd t b : Int) = (if b < 0 then -(Int.gcd t b : Int) else (Int.gcd t b : Int)) := (if_neg e).symm
          obtain ⟨c1, c2⟩ := fin _ eg
          exact ⟨.int t, rfl, _, rfl, t, _, rfl, rfl, c1, .int b, rfl, _, rfl, b, _, rfl, rfl, c2, (by show 2 ≤ sizeLine; decide), fun p hp => done _ eg p hp⟩
      · have hyi : (y : Int) ≠ 0 := by omega
        have em : ((x : Int).fmod (y : Int)) = ((x % y : Nat) : Int) := by
          rw [Int.fmod_eq_emod_of_nonneg _ (by omega)]
          exact (Int.natCast_emod x y).symm
        rw [decide_eq_true (show (y : Int) > 0 by omega)]
        refine iteT ⟨_, rfl, _, rfl, _, rfl, _, _, rfl, rfl, hyi, _, _, rfl, ⟨y, x % y, (by show [some (V.int t), some (V.int b), some (V.int (y : Int)), some (V.int ((x : Int).fmod (y : Int)))] = _; rw [em]), ?_, rfl⟩, ?_⟩
        · rw [← e, Nat.gcd_comm y, ← Nat.gcd_rec, Nat.gcd_comm]
        · exact fmod_less (x : Int) hyi
    · rintro σ H1 Q1 Q2 hm h
      obtain ⟨v, e1, i1, j1, e2, e3, k2, e4, h⟩ := h
      exact ⟨v, e1, i1, j1, e2, e3, k2, e4, hm _ _ h⟩
/-! ### _law_paces -/
def spLPaces (C : Addr) : Sp := fun vs H Q _ => ∃ c : Int, vs = [.int c] ∧ ∀ H' p t1 t2 (q r : Rat), Same H H' → H p = none → H' p = some (.lst [.ref t1, .ref t2]) → H' t1 = some (.tup (tq q)) → H' t2 = some (.tup (tq r)) → 0 < q → 0 < r → Sz 45 q → Sz 5 r → Q (.ref p) H'
theorem scLPaces : FnScope ["_law_cell", "_law_draws", "_law_inn", "_law_out"] ["_law_cell"] (defScope sLPaces) := ⟨rfl, rfl, rfl, by decide +kernel, rfl, by decide +kernel, by decide +kernel⟩
theorem frac_above {t b : Int} (ht : 0 < t) (hb : 0 < b) : 0 < Rat.divInt t b := by
  refine pos_num ?_
  rw [Rat.num_divInt, Int.sign_eq_one_of_pos hb, Int.one_mul]
  exact Int.ediv_pos_of_pos_of_dvd ht (by omega) (Int.gcd_dvd_right ..)
theorem draws6 {c z0 z1 z2 z3 z4 z5 : Int} (h : ∀ z ∈ [z0, z1, z2, z3, z4, z5], 0 < z) : ∃ d0 d1 d2 d3 d4 d5 : Int, draws c 0 [z0, z1, z2, z3, z4, z5] = [d0, d1, d2, d3, d4, d5] ∧ (0 ≤ d0 ∧ d0 < z0) ∧ (0 ≤ d1 ∧ d1 < z1) ∧ (0 ≤ d2 ∧ d2 < z2) ∧ (0 ≤ d3 ∧ d3 < z3) ∧ (0 ≤ d4 ∧ d4 < z4) ∧ (0 ≤ d5 ∧ d5 < z5) := by
  have hl := draws_len [z0, z1, z2, z3, z4, z5] c 0
  match hd : draws c 0 [z0, z1, z2, z3, z4, z5], hl with
  | [d0, d1, d2, d3, d4, d5], _ =>
    have k := draws_ok [z0, z1, z2, z3, z4, z5] c 0 h
    rw [hd] at k
    exact ⟨d0, d1, d2, d3, d4, d5, rfl, k 0 d0 z0 rfl rfl, k 1 d1 z1 rfl rfl, k 2 d2 z2 rfl rfl, k 3 d3 z3 rfl rfl, k 4 d4 z4 rfl rfl, k 5 d5 z5 rfl rfl⟩
theorem ok_lpaces {f fw fl : Addr} {fd gw gl : FuncData} {k : Nat} (F : Fun K "_law_paces" "_law_paces" sLPaces f fd) (Nw : Fn K mg "_law_drawn" sDrawn ["_law_cell", "_law_sizes"] fw gw) (Nl : Fn K mg "_law_low" sLow ["_law_top", "_law_bottom"] fl gl) (T : TxtP K mg C) : FnOk P w K mg base CX0 (k + 2) f fd ["_law_cell"] (spLPaces C) := by
  have Gd : FnOk P w K mg base CX0 (k + 1) fw gw ["_law_cell", "_law_sizes"] (spDrawn K) := ok_drawn Nw.F T.len T.range
  have Gl : FnOk P w K mg base CX0 (k + 1) fl gl ["_law_top", "_law_bottom"] spLow := ok_low Nl.F T
  refine F.ok scLPaces (fun vs H Q E h => ?_) (fun cdv A outer s H vs Q E hr h => ?_)
  · obtain ⟨c, rfl, _⟩ := h
    rfl
  · obtain ⟨c, rfl, h⟩ := h
    have nd := scLPaces.nd
    refine ⟨_, pss_cons (ps_set (i := 1) nd rfl (.inl rfl) (pe_call Gd hr (by rfl) Nw.g Nw.F.kp Nw.b .nil pass0 (pa_cons (pv 0) (pa_cons (pe_lst (pa_cons pe_int (pa_cons pe_int (pa_cons pe_int (pa_cons pe_int (pa_cons pe_int (pa_cons (pe_op op_pow pe_int pe_int) pa_nil))))))) pa_nil))))
      (pss_cons (ps_set (i := 2) nd rfl (.inl rfl) (pe_call Gl hr (by rfl) Nl.g Nl.F.kp Nl.b .nil pass0 (pa_cons (pe_op op_add pe_int (pe_ix ix_list (pv 1) pe_int (fun _ _ => rfl))) (pa_cons (pe_op op_add pe_int (pe_ix ix_list (pv 1) pe_int (fun _ _ => rfl))) pa_nil))))
      (pss_cons (ps_set (i := 3) nd rfl (.inl rfl) (pe_call Gl hr (by rfl) Nl.g Nl.F.kp Nl.b .nil pass0 (pa_cons (pe_op op_add pe_int (pe_ix ix_list (pv 1) pe_int (fun _ _ => rfl))) (pa_cons (pe_op op_add pe_int (pe_ix ix_list (pv 1) pe_int (fun _ _ => rfl))) pa_nil))))
      (pss_cons (ps_if (pt_cmpR op_eq (pe_ix ix_list (pv 1) pe_int (fun _ _ => rfl)) pe_int (nomark _)) (pss_one (ps_ret (pe_lst (pa_cons (pe_tup (pa_cons pe_int (pa_cons pe_int pa_nil))) (pa_cons (pe_tup (pa_cons pe_int (pa_cons pe_int pa_nil))) pa_nil))))) pss_nil)
      (pss_cons (ps_if (pt_cmpR op_eq (pe_ix ix_list (pv 1) pe_int (fun _ _ => rfl)) pe_int (nomark _)) (pss_one (ps_ret (pe_lst (pa_cons (pe_call Gl hr (by rfl) Nl.g Nl.F.kp Nl.b .nil pass0 (pa_cons (pe_op op_add pe_int (pe_ix ix_list (pv 1) pe_int (fun _ _ => rfl))) (pa_cons (pe_op op_add pe_int (pe_op op_fdiv (pe_ix ix_list (pv 1) pe_int (fun _ _ => rfl)) pe_int)) pa_nil))) (pa_cons (pv 3) pa_nil))))) pss_nil)
      (pss_one (ps_ret (pe_lst (pa_cons (pv 2) (pa_cons (pv 3) pa_nil))))))))), ?_⟩
    refine ⟨.int c, rfl, 10, 12, rfl, rfl, ⟨by decide, by decide, by decide⟩, (by show 6 ≤ sizeLine; decide), fun l2 n2 => ?_⟩
    refine ⟨c, l2, [3, 9, 9, 9, 9, 1000000000000], rfl, SqL.of upd_same, ?_, by decide, fun H1 p1 s1 n1 e1 => ?_⟩
    · intro z hz
      simp only [List.mem_cons, List.not_mem_nil, or_false] at hz
      rcases hz with rfl | rfl | rfl | rfl | rfl | rfl <;> exact ⟨by decide, by decide⟩
    obtain ⟨d0, d1, d2, d3, d4, d5, ed, b0, b1, b2, b3, b4, b5⟩ := draws6 (c := c) (z0 := 3) (z1 := 9) (z2 := 9) (z3 := 9) (z4 := 9) (z5 := 1000000000000) (by decide)
    rw [ed] at e1
    have sH1 : Same H H1 := (same_upd n2).trans s1
    have np : ∀ {H' : Hp} {p : Addr}, Same H1 H' → H' p = none → H p = none := fun s e => (sH1.trans s).free e
    have two : ∀ x y : Int, 0 < x → x < 4000000000000 → 0 < y → y < 4000000000000 → y ≠ 0 ∧ y.natAbs < 2 ^ 8000 ∧ 0 < Rat.divInt x y ∧ Sz 45 (Rat.divInt x y) := fun x y hx hx2 hy hy2 =>
      ⟨by omega, Nat.lt_of_lt_of_le (show y.natAbs < 2 ^ 45 by omega) (Nat.pow_le_pow_right (by decide) (by decide)), frac_above hx hy, sz_divInt (by omega) (show x.natAbs < 2 ^ 45 by omega) (show y.natAbs < 2 ^ 45 by omega)⟩
    obtain ⟨k1, k2, k3, k4⟩ := two (1 + d1) (1 + d2) (by omega) (by omega) (by omega) (by omega)
    refine ⟨.ref p1, rfl, p1, _, 1, .int d1, rfl, rfl, SqL.of e1, rfl, _, _, rfl, rfl, .ref p1, rfl, p1, _, 2, .int d2, rfl, rfl, SqL.of e1, rfl, _, _, rfl, rfl, 1 + d1, 1 + d2, rfl, k1, k2, fun H2 t1 s2 n2 et1 => ?_⟩
    obtain ⟨m1, m2, m3, _⟩ := two (1 + d3) (1 + d4) (by omega) (by omega) (by omega) (by omega)
    have m4 : Sz 5 (Rat.divInt (1 + d3) (1 + d4)) := sz_divInt (by omega) (show (1 + d3).natAbs < 2 ^ 5 by omega) (show (1 + d4).natAbs < 2 ^ 5 by omega)
    have e12 := s2 _ _ e1
    refine ⟨.ref p1, rfl, p1, _, 3, .int d3, rfl, rfl, SqL.of e12, rfl, _, _, rfl, rfl, .ref p1, rfl, p1, _, 4, .int d4, rfl, rfl, SqL.of e12, rfl, _, _, rfl, rfl, 1 + d3, 1 + d4, rfl, m1, m2, fun H3 t2 s3 n3 et2 => ?_⟩
    have e13 := s3 _ _ e12
    have et13 := s3 _ _ et1
    have s23 := s2.trans s3
    refine ⟨.ref p1, rfl, p1, _, 0, .int d0, rfl, rfl, SqL.of e13, rfl, rfl, _, rfl, ite2 (fun _ => ?_) (fun _ => ?_)⟩
    · refine ⟨(by show 2 ≤ sizeLine; decide), fun u1 nu1 => ⟨(by show 2 ≤ sizeLine; decide), fun u2 nu2 => ⟨(by show 2 ≤ sizeLine; decide), fun u3 nu3 => ?_⟩⟩⟩
      have z1 := same_upd (o := .tup [.int 1, .int 1]) nu1
      have z2 := same_upd (o := .tup [.int 1, .int 1]) nu2
      have z3 := same_upd (o := .lst [.ref u1, .ref u2]) nu3
      exact h _ u3 u1 u2 1 1 (((sH1.trans s23).trans z1).trans (z2.trans z3)) (np ((s23.trans z1).trans z2) nu3) upd_same (z3 _ _ (z2 _ _ upd_same)) (z3 _ _ upd_same) (by decide) (by decide) ⟨by decide, by decide⟩ ⟨by decide, by decide⟩
    · refine ⟨.ref p1, rfl, p1, _, 0, .int d0, rfl, rfl, SqL.of e13, rfl, rfl, _, rfl, ite2 (fun _ => ?_) (fun _ => ?_)⟩
      · obtain ⟨j1, j2, j3, j4⟩ := two (1 + d5) (1 + d5 / 7) (by omega) (by omega) (by omega) (by omega)
        refine ⟨.ref p1, rfl, p1, _, 5, .int d5, rfl, rfl, SqL.of e13, rfl, _, _, rfl, rfl, .ref p1, rfl, p1, _, 5, .int d5, rfl, rfl, SqL.of e13, rfl, d5, 7, rfl, rfl, ⟨by decide, by decide⟩, _, _, rfl, rfl, 1 + d5, 1 + d5 / 7, rfl, j1, j2, fun H4 t4 s4 n4 et4 => ?_⟩
        refine ⟨_, rfl, (by show 2 ≤ sizeLine; decide), fun u3 nu3 => ?_⟩
        have z3 := same_upd (o := .lst [.ref t4, .ref t2]) nu3
        exact h _ u3 t4 t2 _ _ ((sH1.trans s23).trans (s4.trans z3)) (np (s23.trans s4) nu3) upd_same (z3 _ _ et4) (z3 _ _ (s4 _ _ et2)) j3 m3 j4 m4
      · refine ⟨_, rfl, _, rfl, (by show 2 ≤ sizeLine; decide), fun u3 nu3 => ?_⟩
        have z3 := same_upd (o := .lst [.ref t1, .ref t2]) nu3
        exact h _ u3 t1 t2 _ _ ((sH1.trans s23).trans z3) (np s23 nu3) upd_same (z3 _ _ et13) (z3 _ _ et2) k3 m3 k4 m4
end
end Hop

set_option Elab.async false
set_option linter.all false
set_option maxRecDepth 100000
/-! ### own == and != beside anything, and `in` a list of one -/
namespace OwnAny
open PySem PySem.W PySem.Spec PyProof.Rows
section
variable {prog : Program} {w : World} {A : Around} {E : Value → Shared → Prop} {s : Shared} {C x f : Addr} {B : String} {bm : List Value} {v tb : Value}
/-- object.__ne__ of an own object asks the own __eq__, whatever stands beside it -/
theorem obj_ne (own : s.heap.OwnEqNoNe x C f B bm) (room : A.units < cLine) {Q : Fin → Shared → Prop}
    (said : wpAny (model prog w) A (call (.ref f) [.ref x, v]) (fun r s' => ∃ b, r = .bool b ∧ Q (.done (.ret (.bool (!b)))) s') E s) :
    wpAny (model prog w) A (Builtin.«object.__ne__» ⟨[.ref x, v], []⟩) Q E s := by
  obtain ⟨hp, g, d, tk, os⟩ := s
  unfold Builtin.«object.__ne__»
  repeat (first
    | with_reducible refine wpAny_cRoomFor room ?_
    | (refine wpAny_bind (m := callSpecialIfBound? (.ref x) (Str.ofString "__eq__") [v]) (wpAny_callSpecialIfBound?_own own.ownEq (wpAny_mono said (fun r s' z => by
        obtain ⟨b, rfl, q⟩ := z
        repeat (first | exact q | exact wpAny_pure q | exact wpAny_truthy_bool q | (refine wpAny_bind (m := truthy (.bool _)) (wpAny_truthy_bool ?_)) | wp_step)) fun _ _ z => z)))
    | wp_step)
/-- own != anything -/
theorem ne_any (FB : CmpFacts B bm) (own : s.heap.OwnEqNoNe x C f B bm) (ty : Looks (model prog w) s.heap (typeOf v) tb) (apart : tb = .ref C ∨ Looks (model prog w) s.heap (isSubtype tb (.ref C)) false) (room : A.units + 1 < cLine) {Q : Value → Shared → Prop}
    (said : wpAny (model prog w) A.in1 (call (.ref f) [.ref x, v]) (fun r s' => ∃ b, r = .bool b ∧ Q (.bool (!b)) s') E s) : wpAny (model prog w) A (richCompare .NotEq (.ref x) v) Q E s := by
  obtain ⟨hp, g, d, tk, os⟩ := s
  obtain ⟨o, of, nm, q, N, bs, hd, sn, sub, ab, col, dd, k0, k1, k2, k3, k5, nw, mN, y, at_, cls, atC, names, _, _, _, _, _, none⟩ := id own
  have asked : wpAny (model prog w) A (tryCompare (.ref x) "__ne__" v) (fun r s' => ∃ b, r = some (.bool b) ∧ Q (.bool b) s') E ⟨hp, g, d, tk, os⟩ := by
    unfold tryCompare
    refine wpAny_bind (wpAny_callSpecialIfBound?_inst at_ cls atC names none FB.mro FB.ne (wpAny_call (codeAny_call_builtin FB.ne.plain F.cmpEntry_ne (wpAny_check_slot_inst F.cmpKind_ne F.cmpSplit_ne (F.cmpArgs_ne _ _) FB.hasObject at_ cls atC
      (obj_ne (A := A.in1) own (by show A.units + 1 < cLine; exact room) (wpAny_mono said (fun r s' z => ?_) fun _ _ z => z))))))
    obtain ⟨b, rfl, q⟩ := z
    exact ⟨b, rfl, wpAny_pure ⟨!b, rfl, q⟩⟩
  unfold richCompare
  simp only [oneThing_ref]
  refine wpAny_holding (wpAny_bind (wpAny_cRoomFor (Nat.lt_of_succ_lt room) ?_))
  rw [cmpInfo_NotEq]
  dsimp only
  refine wpAny_bind (wpAny_typeOf_ref at_ ?_)
  rw [cls]
  refine wpAny_bind (ty.here ?_)
  split
  · rename_i ne
    rcases apart with e | e
    · rw [e] at ne
      simp at ne
    · refine wpAny_bind (e.here ?_)
      simp only [Bool.false_eq_true, if_false]
      refine wpAny_bind (wpAny_mono asked (fun r s' z => ?_) fun _ _ z => z)
      obtain ⟨b, rfl, q⟩ := z
      exact wpAny_pure q
  · refine wpAny_bind (wpAny_pure ?_)
    simp only [Bool.false_eq_true, if_false]
    refine wpAny_bind (wpAny_mono asked (fun r s' z => ?_) fun _ _ z => z)
    obtain ⟨b, rfl, q⟩ := z
    exact wpAny_pure q
end
end OwnAny
namespace HopR
open PySem PySem.Spec PyProof.Rows L2
section
variable {X : Cx} {CX : CXT} {n : Nat} {C f : Addr} {fd : FuncData} {ps : List Str} {sp : Sp} {E : XK}
theorem typ_looks {pins : List (Addr × Obj)} {σ : L2.St} {H : Hp} {s : Shared} {x : V} {u t : Value} (I : Inv X pins σ H s) (rx : RelV x u) (ty : TyX X.K H x t) : PySem.W.Looks (model X.prog X.w) s.heap (typeOf u) t := by
  obtain ⟨P, kx, hp, _⟩ := kit_of I rx ty
  exact kx.ty _ _ I.kIn hp
/-- an own object beside anything; what its __eq__ promises of both, a truth -/
def rOwnA (K : PySem.W.Frag) (C : Addr) (sp : Sp) (E : XK) (neg : Bool) : R2 := fun x y H Q => ∃ a dx fs t, x = .ref a ∧ H a = some (.ins C dx fs) ∧ TyX K H y t ∧ PySem.W.notFirst K C t = true ∧ sp [.ref a, y] H (fun v H' => ∃ k : Bool, v = .bl k ∧ Q (.bl (k ^^ neg)) H') E
theorem op_eqA (c : EqC X.K C f) (F : FnOk X.prog X.w X.K X.mg X.base CX n f fd ps sp) (room : Room n X.A) (bind : Binds X.K fd ps []) (lets : Passes CX X E) : OpR X (compareOp .Eq) (rOwnA X.K C sp E false) := by
  rintro pins s σ H _ y v u Q I rx ry ⟨a, dx, fs, t, rfl, ha, ty, nf, prom⟩
  cases rx
  obtain ⟨_, J, _⟩ := ins_get I.hok ha
  obtain ⟨_, J, _⟩ := J.look
  obtain ⟨m, F0⟩ := I.fr
  refine PySem.W.cmp_K (op := .Eq) (tb := t) room.units0 F0 I.ok.mod.kin J (typ_looks I ry ty) nf c.eq c.fn (thn (call_at F room rfl bind lets I (us := [.ref a, u]) (vs := [.ref a, y]) (.cons rfl (.cons ry .nil)) prom) ?_)
  rintro w s' ⟨z, H', I', rz, k, rfl, q⟩
  cases rz
  rw [Bool.xor_false] at q
  exact ⟨.bl k, H', I', rfl, q⟩
theorem op_neA (c : EqC X.K C f) (F : FnOk X.prog X.w X.K X.mg X.base CX n f fd ps sp) (room : Room (n + 1) X.A) (bind : Binds X.K fd ps []) (lets : Passes CX X E) : OpR X (compareOp .NotEq) (rOwnA X.K C sp E true) := by
  rintro pins s σ H _ y v u Q I rx ry ⟨a, dx, fs, t, rfl, ha, ty, nf, prom⟩
  cases rx
  obtain ⟨_, J, _⟩ := ins_get I.hok ha
  obtain ⟨_, J, _⟩ := J.look
  have un := room.un
  have apart : t = .ref C ∨ PySem.W.Looks (model X.prog X.w) s.heap (isSubtype t (.ref C)) false := by
    rcases Bool.or_eq_true_iff.mp nf with e | e
    · exact .inl (beq_iff_eq.mp e)
    · exact .inr (PySem.W.looks_subIn I.kIn (beq_iff_eq.mp e))
  show wpAny _ _ (richCompare .NotEq (.ref a) u) _ _ _
  refine OwnAny.ne_any PySem.F.cmp_object (c.here I.kIn J.at_ J.cls) (typ_looks I ry ty) apart (by omega) (thn (call_at (A := X.A.in1) F room.in1 rfl bind lets I (us := [.ref a, u]) (vs := [.ref a, y]) (.cons rfl (.cons ry .nil)) prom) ?_)
  rintro w s' ⟨z, H', I', rz, k, rfl, q⟩
  cases rz
  refine ⟨k, rfl, .bl (!k), H', I', rfl, ?_⟩
  rw [Bool.xor_true] at q
  exact q
end
end HopR

set_option Elab.async false
set_option linter.all false
set_option maxRecDepth 100000
/-! ### a list of one own object: `in` and == -/
namespace OwnAny
open PySem PySem.SeqAt
open AutoSeq1 (wpAny_loadPart')
open MeetsSeq MeetsSeq2 MeetsSeq3 SeqRoads2
section
variable {prog : Program} {w : World} {A : Around} {R : Result → Shared → Prop} {l m : Addr} {x y : Value} {k : Bool} {I : Shared → Prop}
/-- a list of the one item y -/
def One (l : Addr) (y : Value) (t : Shared) : Prop := ∃ n its, t.heap.get? l = some { cls := .type "list", data := .seq its n } ∧ its[(0 : Int).toNat]? = some y ∧ its[((1 : Nat) : Int).toNat]? = none ∧ its.size = 1
theorem one_in (here : ∀ t, I t → One l y t) (alike : ∀ t, I t → wpAny (model prog w) A.in1 (eqBool y x) (fun r t' => r = k ∧ I t') (fun e t' => R (.error e) t') t)
    (stop : ∀ t, I t → R (.ok (.ret (.bool k))) t) {t : Shared} (h : I t) :
    wpAny (model prog w) A.in1 (Builtin.«list.__contains__» ⟨[.ref l, x], []⟩) (GQ.FinOf prog w A R) (fun e t' => R (.error e) t') t := by
  have last : ∀ t, I t → k = false → wpAny (model prog w) A.in1 (Builtin.«list.__contains__.loop» ⟨[.ref l, x, rawInt ((1 : Nat) : Int)], []⟩) (GQ.FinOf prog w A R) (fun e t' => R (.error e) t') t := fun t h e => by
    obtain ⟨n, its, g, e0, e1, ez⟩ := here t h
    have done := stop t h
    rw [e] at done
    obtain ⟨hp, gs, d, tk, os⟩ := t
    wp_walk using wpAny_loadPart' g
    rw [e1]
    wp_walk
    exact done
  have first : ∀ t, I t → wpAny (model prog w) A.in1 (Builtin.«list.__contains__.loop» ⟨[.ref l, x, rawInt 0], []⟩) (GQ.FinOf prog w A R) (fun e t' => R (.error e) t') t := fun t h => by
    obtain ⟨n, its, g, e0, e1, ez⟩ := here t h
    have al := alike t h
    obtain ⟨hp, gs, d, tk, os⟩ := t
    wp_walk using wpAny_loadPart' g
    rw [e0]
    refine wpAny_bind (wpAny_mono al (fun r t2 q => ?_) fun _ _ z => z)
    obtain ⟨rfl, q2⟩ := q
    cases hr : r with
    | true =>
      have done := stop t2 q2
      rw [hr] at done
      obtain ⟨hp2, g2, d2, tk2, os2⟩ := t2
      wp_walk
      exact done
    | false =>
      have go := last t2 q2 hr
      obtain ⟨hp2, g2, d2, tk2, os2⟩ := t2
      wp_walk
      exact ⟨plainId_quiet plain_contains_loop _, codeAny_builtin entry_contains_loop (by rw [Around.under_plainId plain_contains_loop _]; exact go)⟩
  obtain ⟨n, its, g, e0, e1, ez⟩ := here t h
  have go := first t h
  obtain ⟨hp, gs, d, tk, os⟩ := t
  wp_walk using wpAny_loadPart' g
  exact ⟨plainId_quiet plain_contains_loop _, codeAny_builtin entry_contains_loop (by rw [Around.under_plainId plain_contains_loop _]; exact go)⟩
theorem ones_eq (hl : ∀ t, I t → One l x t) (hm : ∀ t, I t → One m y t) (alike : ∀ t, I t → wpAny (model prog w) A.in1 (eqBool x y) (fun r t' => r = k ∧ I t') (fun e t' => R (.error e) t') t)
    (stop : ∀ t, I t → R (.ok (.ret (.bool k))) t) {t : Shared} (h : I t) :
    wpAny (model prog w) A.in1 (Builtin.«list.__eq__» ⟨[.ref l, .ref m], []⟩) (GQ.FinOf prog w A R) (fun e t' => R (.error e) t') t := by
  have last : ∀ t, I t → k = true → wpAny (model prog w) A.in1 (Builtin.«list.__eq__.loop» ⟨[.ref l, .ref m, rawInt ((1 : Nat) : Int), rawInt 2], []⟩) (GQ.FinOf prog w A R) (fun e t' => R (.error e) t') t := fun t h e => by
    obtain ⟨n, its, g, e0, e1, ez⟩ := hl t h
    obtain ⟨n', its', g', e0', e1', ez'⟩ := hm t h
    have done := stop t h
    rw [e] at done
    obtain ⟨hp, gs, d, tk, os⟩ := t
    wp_walk using wpAny_loadPart' g, wpAny_loadPart' g'
    rw [e1, e1']
    wp_walk using wpAny_loadPart' g, wpAny_loadPart' g'
    have z : (its.size == its'.size) = true := by rw [ez, ez']; rfl
    show R (.ok (.ret (.bool (its.size == its'.size)))) _
    rw [z]
    exact done
  have first : ∀ t, I t → wpAny (model prog w) A.in1 (Builtin.«list.__eq__.loop» ⟨[.ref l, .ref m, rawInt 0, rawInt 2], []⟩) (GQ.FinOf prog w A R) (fun e t' => R (.error e) t') t := fun t h => by
    obtain ⟨n, its, g, e0, e1, ez⟩ := hl t h
    obtain ⟨n', its', g', e0', e1', ez'⟩ := hm t h
    have al := alike t h
    obtain ⟨hp, gs, d, tk, os⟩ := t
    wp_walk using wpAny_loadPart' g, wpAny_loadPart' g'
    rw [e0, e0']
    refine wpAny_bind (wpAny_mono al (fun r t2 q => ?_) fun _ _ z => z)
    obtain ⟨rfl, q2⟩ := q
    cases hr : r with
    | true =>
      have go := last t2 q2 hr
      obtain ⟨hp2, g2, d2, tk2, os2⟩ := t2
      wp_walk
      exact ⟨plainId_quiet plain_eq_loop _, codeAny_builtin entry_eq_loop (by rw [Around.under_plainId plain_eq_loop _]; exact go)⟩
    | false =>
      have done := stop t2 q2
      rw [hr] at done
      obtain ⟨n2, its2, g2', e02, _, ez2⟩ := hl t2 q2
      obtain ⟨n3, its3, g3, e03, _, ez3⟩ := hm t2 q2
      obtain ⟨hp2, g2, d2, tk2, os2⟩ := t2
      wp_walk using wpAny_loadPart' g2', wpAny_loadPart' g3
      rw [e02, e03]
      wp_walk
      exact done
  obtain ⟨n, its, g, e0, e1, ez⟩ := hl t h
  obtain ⟨n', its', g', e0', e1', ez'⟩ := hm t h
  have go := first t h
  have lists := AutoSeq1.sub_list_list
  have z0 : ¬ (its.size != its'.size) = true := by rw [ez, ez']; simp
  obtain ⟨hp, gs, d, tk, os⟩ := t
  wp_walk using wpAny_loadPart' g, wpAny_loadPart' g'
  exact ⟨plainId_quiet plain_eq_loop _, codeAny_builtin entry_eq_loop (by rw [Around.under_plainId plain_eq_loop _]; exact go)⟩
end
end OwnAny
namespace HopR
open PySem PySem.Spec PyProof.Rows L2
section
variable {X : Cx} {CX : CXT} {n : Nat} {C f : Addr} {fd : FuncData} {ps : List Str} {sp : Sp} {E : XK}
/-- two own objects, as == inside a list asks them -/
theorem own_eqBool (c : EqC X.K C f) (F : FnOk X.prog X.w X.K X.mg X.base CX n f fd ps sp) {A : Around} (room : Room n A) (frames : A.frames = X.A.frames) (bind : Binds X.K fd ps []) (lets : Passes CX X E)
    {pins : List (Addr × Obj)} {σ : L2.St} {H : Hp} {s : Shared} {a b dx dy : Addr} {fs gs : List (Str × V)} {k : Bool} (I : Inv X pins σ H s) (ha : H a = some (.ins C dx fs)) (hb : H b = some (.ins C dy gs)) (self : a = b → k = true)
    (prom : sp [.ref a, .ref b] H (fun v H' => v = .bl k ∧ Ext H H') E) :
    wpAny (model X.prog X.w) A (eqBool (.ref a) (.ref b)) (fun r s' => r = k ∧ LoopI X pins σ H s') X.xe s := by
  by_cases same : a = b
  · have e := self same
    subst same
    exact SeqAt.EqAt.same (A := A) (s := s) (.ref a) X.prog X.w X.xe _ ⟨e.symm, H, I, Ext.rfl'⟩
  · obtain ⟨_, J, _⟩ := ins_get I.hok ha
    obtain ⟨_, J', _⟩ := ins_get I.hok hb
    obtain ⟨_, J, _⟩ := J.look
    obtain ⟨_, J', _⟩ := J'.look
    obtain ⟨m, F0⟩ := I.fr
    refine GQ.eqBool_refG same (PySem.W.cmp_K (op := .Eq) (tb := .ref C) room.units0 F0 I.ok.mod.kin J J'.type (by simp [PySem.W.notFirst]) c.eq c.fn (thn (call_at (A := A) F room frames bind lets I two_refs prom) ?_))
    rintro w s' ⟨z, H', I', rz, rfl, e⟩
    cases rz
    exact ⟨k, rfl, rfl, H', I', e⟩
/-- a in [b] -/
def rInOwn (C : Addr) (sp : Sp) (E : XK) : R2 := fun x y H Q => ∃ (a b l dx dy : Addr) (fs gs : List (Str × V)) (k : Bool), x = .ref a ∧ y = .ref l ∧ H a = some (.ins C dx fs) ∧ H b = some (.ins C dy gs) ∧ H l = some (.lst [.ref b]) ∧ (a = b → k = true) ∧
  (∀ H', Ext H H' → sp [.ref b, .ref a] H' (fun v H'' => v = .bl k ∧ Ext H' H'') E) ∧ ∀ H', Ext H H' → Q (.bl k) H'
theorem one_here {l b : Addr} {pins : List (Addr × Obj)} {σ : L2.St} {H : Hp} {t : Shared} (h : LoopI X pins σ H t) (e : H l = some (.lst [.ref b])) : OwnAny.One l (.ref b) t := by
  obtain ⟨H', I', x⟩ := h
  obtain ⟨_, its, k, r, g⟩ := I'.hok _ _ (x _ _ e)
  obtain ⟨v, rfl, rv⟩ := vals1 r
  cases rv
  exact ⟨k, _, g, rfl, rfl, rfl⟩
theorem op_inOwn (c : EqC X.K C f) (F : FnOk X.prog X.w X.K X.mg X.base CX n f fd ps sp) (room : Room (n + 1) X.A) (bind : Binds X.K fd ps []) (lets : Passes CX X E) : OpR X (compareOp .In) (rInOwn C sp E) := by
  rintro pins s σ H _ _ v u Q I rx ry ⟨a, b, l, dx, dy, fs, gs, k, rfl, rfl, ha, hb, hl, self, prom, q⟩
  cases rx; cases ry
  have turns : ∀ t, LoopI X pins σ H t → wpAny (model X.prog X.w) X.A.in1 (eqBool (.ref b) (.ref a)) (fun r t' => r = k ∧ LoopI X pins σ H t') X.xe t := fun t ⟨H', I', x⟩ =>
    wpAny_mono (own_eqBool c F room.in1 rfl bind lets I' (x _ _ hb) (x _ _ ha) (fun e => self e.symm) (prom H' x)) (fun r t' ⟨e, H'', I'', x'⟩ => ⟨e, H'', I'', x.trans x'⟩) fun _ _ z => z
  obtain ⟨m, its, g, _⟩ := one_here ⟨H, I, Ext.rfl'⟩ hl
  show wpAny (model X.prog X.w) X.A (do return Value.bool (← contains (.ref l) (.ref a))) (EP X pins σ Q) X.xe s
  refine wpAny_bind (wpAny_contains_slot ⟨_, g, rfl⟩ PySem.F.slot_list_contains (GQ.call_here PySem.F.slot_list_contains ⟨_, g, rfl⟩ PySem.F.entry_list_contains (PySem.F.args_list_contains_2 _ _) ?_))
  exact OwnAny.one_in (R := wants (fun v t => wpAny (model X.prog X.w) X.A (truthy v) (fun r t' => wpAny (model X.prog X.w) X.A (pure (.bool r)) (EP X pins σ Q) X.xe t') X.xe t) X.xe) (I := fun t => LoopI X pins σ H t) (fun t h => one_here h hl) turns
    (fun t ⟨H', I', x⟩ => by
      show wpAny (model X.prog X.w) X.A (truthy (.bool k)) (fun r t' => wpAny (model X.prog X.w) X.A (pure (.bool r)) (EP X pins σ Q) X.xe t') X.xe t
      refine wpAny_truthy_bool (wpAny_pure ?_)
      exact ⟨.bl k, H', I', rfl, q H' x⟩) ⟨H, I, Ext.rfl'⟩
/-- [a] == [b] -/
def rOnes (C : Addr) (sp : Sp) (E : XK) : R2 := fun x y H Q => ∃ (a b l m dx dy : Addr) (fs gs : List (Str × V)) (k : Bool), x = .ref l ∧ y = .ref m ∧ H a = some (.ins C dx fs) ∧ H b = some (.ins C dy gs) ∧ H l = some (.lst [.ref a]) ∧ H m = some (.lst [.ref b]) ∧ (a = b → k = true) ∧
  (∀ H', Ext H H' → sp [.ref a, .ref b] H' (fun v H'' => v = .bl k ∧ Ext H' H'') E) ∧ ∀ H', Ext H H' → Q (.bl k) H'
theorem op_eqOnes (c : EqC X.K C f) (F : FnOk X.prog X.w X.K X.mg X.base CX n f fd ps sp) (room : Room (n + 1) X.A) (bind : Binds X.K fd ps []) (lets : Passes CX X E) : OpR X (compareOp .Eq) (rOnes C sp E) := by
  rintro pins s σ H _ _ v u Q I rx ry ⟨a, b, l, m, dx, dy, fs, gs, k, rfl, rfl, ha, hb, hl, hm, self, prom, q⟩
  cases rx; cases ry
  have turns : ∀ t, LoopI X pins σ H t → wpAny (model X.prog X.w) X.A.in1 (eqBool (.ref a) (.ref b)) (fun r t' => r = k ∧ LoopI X pins σ H t') X.xe t := fun t ⟨H', I', x⟩ =>
    wpAny_mono (own_eqBool c F room.in1 rfl bind lets I' (x _ _ ha) (x _ _ hb) self (prom H' x)) (fun r t' ⟨e, H'', I'', x'⟩ => ⟨e, H'', I'', x.trans x'⟩) fun _ _ z => z
  obtain ⟨j, its, g, _⟩ := one_here ⟨H, I, Ext.rfl'⟩ hl
  obtain ⟨j', its', g', _⟩ := one_here ⟨H, I, Ext.rfl'⟩ hm
  show wpAny (model X.prog X.w) X.A (richCompare .Eq (.ref l) (.ref m)) (EP X pins σ Q) X.xe s
  refine wpAny_richCompare_same_room (op := .Eq) ⟨_, g, rfl⟩ ⟨_, g', rfl⟩ PySem.F.slot_list_eq (GQ.call_here PySem.F.slot_list_eq ⟨_, g, rfl⟩ PySem.F.entry_list_eq (PySem.F.args_list_eq_2 _ _) ?_) room.units0
  exact OwnAny.ones_eq (R := wants (fun v t => v ≠ .notImplemented ∧ EP X pins σ Q v t) X.xe) (I := fun t => LoopI X pins σ H t) (fun t h => one_here h hl) (fun t h => one_here h hm) turns
    (fun t ⟨H', I', x⟩ => ⟨(fun z => nomatch z), .bl k, H', I', rfl, q H' x⟩) ⟨H, I, Ext.rfl'⟩
end
end HopR

set_option Elab.async false
set_option linter.all false
set_option maxRecDepth 100000
namespace HopR
open PySem PySem.Spec PyProof.Rows L2
/-! ### {o} in an f-string, str of a list with own objects -/
/-- what an f-string asks of an own class -/
structure FmtC (K : PySem.W.Frag) (C f : Addr) : Prop where
  fmt : PySem.W.findIn K (.ref C) "__format__" = some (some (.builtin "object.__format__"))
  mro : PySem.W.mroIn K C (.type "object") = some true
  str : PySem.W.findIn K (.ref C) "__str__" = some (some (.ref f))
  fn : PySem.W.isFn K (.ref f) = true
section
variable {X : Cx} {CX : CXT} {n : Nat} {C f : Addr} {fd : FuncData} {ps : List Str} {sp : Sp} {E : XK} {e : Expr} {te : TE} {pos : Pos}
theorem pe_fmtS (c : FmtC X.K C f) (F : FnOk X.prog X.w X.K X.mg X.base CX n f fd ps sp) (room : Room (n + 2) X.A) (bind : Binds X.K fd ps []) (lets : Passes CX X E) (he : PE X e te) :
    PE X (.FormattedValue e (-1) none pos) (tFmtO C sp E te) := by
  constructor
  intro pins s σ H Q I h
  refine wpAny_FormattedValue_plain (thn (he.run pins s σ H _ I h) ?_)
  rintro u s1 ⟨_, H1, I1, ru, a, dx, fs, rfl, ha, prom⟩
  cases (show u = Value.ref a from ru)
  have I2 : Inv X pins σ H1 { s1 with toks := s1.toks + 1 } := I1.tok _
  obtain ⟨_, J, _⟩ := ins_get I1.hok ha
  obtain ⟨od, J, _⟩ := J.look
  have un := room.un
  refine PySem.W.kfo_fieldS (by show X.A.units + 1 < cLine; omega) I1.kIn J c.fmt c.mro c.str c.fn (thn (call_at (A := X.A.in1) F (Room.mono (k := n + 1) room.in1 (Nat.le_succ n)) rfl bind lets I2 (us := [.ref a]) (vs := [.ref a]) (.cons rfl .nil) prom) ?_)
  rintro v s' ⟨_, H', I', rz, z, rfl, hz, q⟩
  obtain ⟨tk, rfl⟩ := rz
  exact ⟨.str z, H', I', ⟨_, rfl⟩, q⟩
/-- list.__repr__ of a list with own objects -/
theorem list_repr_at {A : Around} (hG : A.guards = some []) (frames : A.frames = X.A.frames) (room : Room (n + 2) A) {pins : List (Addr × Obj)} {σ : L2.St} {H : Hp} {s : Shared} {L : Addr} {x : V} {xs : List V} {ts : List Str} {Q : VK} (I : Inv X pins σ H s)
    (hL : H L = some (.lst (x :: xs))) (len : ts.length = (x :: xs).length) (tell : ∀ (i : Nat) y t, (x :: xs)[i]? = some y → ts[i]? = some t → Itm X n L H y t) (fits : (listText ts).length ≤ sizeLine) (q : ∀ H', Same H H' → Q (.str (listText ts)) H') :
    wpAny (model X.prog X.w) A (call (.builtin "list.__repr__") [.ref L]) (fun r s₁ => ∃ y t, r = .str y t ∧ EP X pins σ Q r s₁) X.xe s := by
  obtain ⟨its, rv2, ⟨o, m, ho, hc, _, hd⟩, _⟩ := I.list (SqL.of hL)
  have un := room.un
  have type : s.TypeIs (.ref L) "list" := ⟨o, ho, hc⟩
  have nP : H s.heap.objs.size = none := I.hok.fresh (Nat.le_refl _)
  cases rv2 with
  | cons r1 r2 =>
    refine wpAny_call (codeAny_call_builtin F.slot_list_repr.plain F.entry_list_repr (F.slot_list_repr.check _ _ _ _ _ _ _ _ type (F.args_list_repr_1 _) ?_))
    refine wpAny_list_repr_head (A := A.in1) hG (fun _ _ _ h => nomatch h) ho hd ?_
    refine wpAny_bind (m := newList []) (wpAny_newObj_type (wpAny_pure ⟨F.quiet_list_repr_loop _, ?_⟩))
    refine turns (A := A) (n := n) hG (Room.mono (k := n + 2) (j := n + 1) room (Nat.le_succ _)) frames nP hL len tell fits ?bad (pins := pins) (σ := σ) ?good _ 0 (upd H s.heap.objs.size (.lst [])) _ rfl (Nat.zero_le _) (I.laid (t' := s.toks) (fun b o e => Heap.get?_push_of_some _ e) (Nat.le_refl _) ⟨Nat.zero_le _, [], 0, .nil, Heap.get?_push_size _ rfl⟩) (same_upd nP) upd_same
    case bad => exact fun e s' h => h
    case good => exact fun s' H2 u I2 sm => ⟨_, _, rfl, .str _, H2, I2, ⟨_, rfl⟩, q H2 sm⟩
open Builtin Builtin.Str in
theorem cr_strL (hG : X.A.guards = some []) (room : Room (n + 6) X.A) : CallR X (.type "str") (rReprL X n) := by
  rintro pins s σ H _ us Q I r ⟨L, x, xs, ts, rfl, hL, len, tell, fits, q⟩
  obtain ⟨u, rfl, rv⟩ := vals1 r
  cases (show u = Value.ref L from rv)
  obtain ⟨its, _, ⟨o, m, ho, hc, _, hd⟩, _⟩ := I.list (SqL.of hL)
  have un := room.un
  have type : s.TypeIs (.ref L) "list" := ⟨o, ho, hc⟩
  have told : wpAny (model X.prog X.w) X.A.in1.in1 (PySem.Builtin.Str.strOf (.ref L)) (fun r s₁ => ∃ y u, r = .str y u ∧ EP X pins σ Q r s₁) X.xe s := by
    unfold PySem.Builtin.Str.strOf
    rw [show isExactStr (.ref L) = false from rfl]
    refine wpAny_bind (m := cRoomFor _ _) (wpAny_cRoomFor (by show X.A.units + 1 + 1 < cLine; omega) ?_)
    refine wpAny_bind (m := callSpecial? (.ref L) (Str.ofString "__str__")) (wpAny_callSpecial?_slot type F.slot_list_str (call_object_str_slot (by show X.A.units + 1 + 1 + 1 < cLine; omega) type F.slot_list_str F.slot_list_repr.toG
      (wpAny_mono (list_repr_at (A := X.A.in1.in1.in1) hG rfl (Room.mono (k := n + 3) (j := n + 2) (Room.in1 (Room.in1 (Room.in1 room))) (Nat.le_succ _)) I hL len tell fits q) (fun r s₁ z => ?_) fun _ _ z => z)))
    obtain ⟨y, t, rfl, z⟩ := z
    exact wpAny_pure ⟨y, t, rfl, z⟩
  refine callType_codes (T := "str") (Bi := Builtin.«object.__init__») (Q₁ := fun r s₁ => ∃ y u, r = .str y u ∧ EP X pins σ Q r s₁) PySem.F.called_str (PySem.F.typeCall_str_1 _) PySem.F.entry_object_init ?_ ?_
  · refine codeAny_of_tree ?_
    show wpAny _ X.A.in1.in1 (do checkBuiltinCall "str.__new__" ⟨[.type "str", .ref L], []⟩; again (.builtin "str.__new__" ⟨[.type "str", .ref L], []⟩)) _ _ s
    refine wpAny_bind (wpAny_of_eq (PySem.F.newCall_str_1 _) (wpAny_pure ⟨plainId_quiet (by decide +kernel) _, codeAny_builtin PySem.F.entry_str_new ?_⟩))
    rw [Around.under_plainId (by decide +kernel) _]
    rw [str_new_tree]
    refine wpAny_bind (wpAny_pure ?_)
    refine wpAny_bind (wpAny_of_eq isSubtype_str_str ?_)
    exact wpAny_bind (wpAny_mono told (fun r s₁ hr => wpAny_pure hr) fun _ _ y => y)
  · rintro obj s₁ ⟨y, u, rfl, hq⟩
    exact ⟨typeIs_str _ _ _, PySem.F.args_object_init_2 _ _, object_init_meets PySem.F.called_str.init.lookup PySem.F.called_str.made (by decide) X.prog X.w X.A.in1 _ s₁ ⟨typeIs_str _ _ _, rfl, hq⟩⟩
end
end HopR

set_option Elab.async false
set_option linter.all false
set_option maxRecDepth 100000
namespace Hop
open PySem L2 HopR
open C8 (InsC call_isC)
section
variable {P : Program} {w : World} {K : PySem.W.Frag} {mg : Str → Option Value} {base : Heap} {C W d : Addr} {es : Array DictEntry} {n : Nat}
/-! ### Walk.__eq__ beside any thing -/
def spWEqA (K : PySem.W.Frag) (C W : Addr) : Sp := fun vs H Q _ => ∃ (v l : Addr) (bs : List Bool) (st : List (Nat × List Bool)) (q r : Rat) (y : V), vs = [.ref v, y] ∧ WK C W H v l bs st q r ∧
  ((∃ (v' l' : Addr) (bs' : List Bool) (st' : List (Nat × List Bool)) (q' r' : Rat), y = .ref v' ∧ WK C W H v' l' bs' st' q' r' ∧ Q (.bl (decide (bs = bs' ∧ q = q' ∧ r = r'))) H) ∨ ((∃ t, TyX K H y t ∧ PySem.W.kitOne K t (.ref W) = some false) ∧ Q (.bl false) H))
theorem ok_weqA {f fe : Addr} {fd ge : FuncData} {k : Nat} (F : Fun K "__eq__" "Walk.__eq__" sWEq f fd) (Fe : Fun K "__eq__" "Part.__eq__" sEq fe ge) (be : Binds K ge ["self", "other"] []) (eqc : EqC K C fe) (T : TxtP K mg C) (TW : TxtW K mg W) (TE : TxtE K mg W) :
    FnOk P w K mg base CX0 (k + 2) f fd ["self", "other"] (spWEqA K C W) := by
  have Ge : FnOk P w K mg base CX0 (k + 1) fe ge ["self", "other"] (spPEq C) := ok_eq Fe T
  have I := TE.ins
  refine F.ok scWEq (fun vs H Q E h => ?_) (fun cdv A outer s H vs Q E hr h => ?_)
  · obtain ⟨v, l, bs, st, q, r, y, rfl, _⟩ := h
    rfl
  · obtain ⟨v, l, bs, st, q, r, y, rfl, ⟨dx, i, o, p, ts, e1, e2, e3, ⟨⟨di, e4⟩, _⟩, ⟨⟨d_o, e5⟩, _⟩, e6⟩, h⟩ := h
    refine ⟨_, pss_one (ps_ret (pe_and (pe_callB call_isi (by rfl) T.isi (by decide +kernel) (pa_cons (pv 1) (pa_cons (pe_glob (v := .ref W) (by rfl) TE.gW rfl) pa_nil)))
      (pe_and (pe_cmpR op_eq (pe_fld (pv 0) rfl) (pe_fld (pv 1) rfl) (nomark _)) (pe_and (pe_cmpR (op_eqOwn eqc Ge hr be pass0) (pe_fld (pv 0) rfl) (pe_fld (pv 1) rfl) (nomark _)) (pe_one (pe_cmpR (op_eqOwn eqc Ge hr be pass0) (pe_fld (pv 0) rfl) (pe_fld (pv 1) rfl) (nomark _))))))), ?_⟩
    rcases h with ⟨v', l', bs', st', q', r', rfl, ⟨dx', i', o', p', ts', e1', e2', e3', ⟨⟨di', e4'⟩, _⟩, ⟨⟨d_o', e5'⟩, _⟩, e6'⟩, h⟩ | ⟨⟨t, ty, kt⟩, h⟩
    · refine ⟨.ref v', rfl, .ref v', .ref W, .ref W, .ref W, true, rfl, .own _, .base (.ins e1' I.cl I.ha I.hn I.htk I.hm), kit_me, true, rfl, ?_⟩
      refine iteT ⟨.ref v, rfl, v, W, dx, _, _, rfl, e1, TW.cl, TW.ns, wf_signs, .ref v', rfl, v', W, dx', _, _, rfl, e1', TW.cl, TW.ns, wf_signs, rfl, _, rfl, ?_⟩
      by_cases h1 : bs = bs'
      · subst h1
        rw [decide_eq_true rfl]
        refine iteT ⟨.ref v, rfl, v, W, dx, _, _, rfl, e1, TW.cl, TW.ni, wf_inn, .ref v', rfl, v', W, dx', _, _, rfl, e1', TW.cl, TW.ni, wf_inn, i, i', di, di', _, _, rfl, rfl, e4, e4', i, i', q, q', rfl, ⟨di, e4⟩, ⟨di', e4'⟩, _, rfl, _, rfl, ?_⟩
        by_cases h2 : q = q'
        · subst h2
          rw [decide_eq_true rfl]
          refine iteT ⟨.ref v, rfl, v, W, dx, _, _, rfl, e1, TW.cl, TW.no, wf_out, .ref v', rfl, v', W, dx', _, _, rfl, e1', TW.cl, TW.no, wf_out, o, o', d_o, d_o', _, _, rfl, rfl, e5, e5', o, o', r, r', rfl, ⟨d_o, e5⟩, ⟨d_o', e5'⟩, _, rfl, ?_⟩
          have e : decide (bs = bs ∧ q = q ∧ r = r') = decide (r = r') := decide_eq_decide.mpr ⟨fun z => z.2.2, fun z => ⟨rfl, rfl, z⟩⟩
          rw [← e]
          rw [Bool.xor_false]
          exact h
        · rw [decide_eq_false h2]
          rw [decide_eq_false fun z => h2 z.2.1] at h
          exact iteF h
      · rw [decide_eq_false (show ¬ V.str (tx bs) = V.str (tx bs') from fun z => h1 (tx_inj (V.str.inj z)))]
        rw [decide_eq_false fun z => h1 z.1] at h
        exact iteF h
    · exact ⟨y, rfl, y, .ref W, t, .ref W, false, rfl, .own _, ty, kt, false, rfl, iteF h⟩
end
end Hop

set_option Elab.async false
set_option linter.all false
set_option maxRecDepth 100000
namespace Hop
open PySem L2 HopR
open C8 (InsC call_isC)
abbrev sTwin : Stmt := inClass (top 34) 9
abbrev sWStr : Stmt := inClass (top 34) 12
theorem wf_put_steps {i o l p l' : Addr} {bs : List Bool} : putF "steps" (.ref l') (wf i o bs l p) = wf i o bs l' p := rfl
theorem made_same {W : Addr} {H H5 : Hp} {v dv : Addr} (nv : H v = none) (hdv : H dv = none) (kp : ∀ x o, x ≠ v → upd (upd H dv (.own v)) v (.ins W dv []) x = some o → H5 x = some o) : Same H H5 := fun x o e =>
  kp x o (ne_of_none e nv) (by rw [upd_ne (ne_of_none e nv), upd_ne (ne_of_none e hdv)]; exact e)
section
variable {P : Program} {w : World} {K : PySem.W.Frag} {mg : Str → Option Value} {base : Heap} {C W d : Addr} {es : Array DictEntry} {n : Nat}
variable {fi f1 f2 r1 r2 r3 r4 r6 p1 p2 p3 p4 fp ft fo fz fc fwi : Addr} {gi g1 g2 s1 s2 s3 s4 s6 q1 q2 q3 q4 gp gt go gz gc gwi : FuncData} {d1 : Value}
/-! ### Walk.twin -/
def spTwin (C W : Addr) : Sp := fun vs H Q _ => ∃ (v l : Addr) (bs : List Bool) (st : List (Nat × List Bool)) (q r : Rat), vs = [.ref v] ∧ WK C W H v l bs st q r ∧ Row bs ∧ ∀ H' v2 l2, Same H H' → H v2 = none → H l2 = none → WK C W H' v2 l2 bs st q r → Q (.ref v2) H'
theorem scTwin : FnScope ["self", "other"] ["self"] (defScope sTwin) := ⟨rfl, rfl, rfl, by decide +kernel, rfl, by decide +kernel, by decide +kernel⟩
theorem ok_twin {f : Addr} {fd : FuncData} {k : Nat} (F : Fun K "twin" "Walk.twin" sTwin f fd) (M : Mk K W fwi) (Fi : FunD K "__init__" "Walk.__init__" (defArgs sWInit) (defBody sWInit) (defScope sWInit) [.non, .non] [] fwi gwi) (b4 : Binds K gwi ["self", "row", "inn", "out"] []) (gW : mg "Walk" = some (.ref W)) (cw : C ≠ W) (mL : mg "list" = none)
    (D : WDefs K mg C fi f1 f2 r1 r2 r3 r4 r6 p1 p2 p3 p4 fp ft fo fz gi g1 g2 s1 s2 s3 s4 s6 q1 q2 q3 q4 gp gt go gz d1) (T : TxtP K mg C) (TR : TxtR K w mg d es n) (TW : TxtW K mg W) : FnOk P w K mg base CX0 (k + 8) f fd ["self"] (spTwin C W) := by
  have GW : FnOk P w K mg base CX0 (k + 6) fwi gwi ["self", "row", "inn", "out"] (spWInit C W) := ok_winit Fi cw D T TR TW
  refine F.ok scTwin (fun vs H Q E h => ?_) (fun cdv A outer s H vs Q E hr h => ?_)
  · obtain ⟨v, l, bs, st, q, r, rfl, _⟩ := h
    rfl
  · obtain ⟨v, l, bs, st, q, r, rfl, ⟨dx, i, o, p, ts, e1, e2, e3, e4, e5, e6⟩, hR, h⟩ := h
    have nd := scTwin.nd
    refine ⟨_, pss_cons (ps_set (i := 1) nd rfl (.inl rfl) (pe_make M GW hr (by rfl) gW b4 .nil pass0 (pa_cons (pe_fld (pv 0) rfl) (pa_cons (pe_fld (pv 0) rfl) (pa_cons (pe_fld (pv 0) rfl) pa_nil)))))
      (pss_cons (ps_fld (pv 1) (pe_callTy call_list_of (by rfl) mL (by decide +kernel) (pa_cons (pe_fld (pv 0) rfl) pa_nil)) rfl)
      (pss_cons (ps_fld (pv 1) (pe_fld (pv 0) rfl) rfl)
      (pss_one (ps_ret (pv 1))))), ?_⟩
    refine ⟨.ref v, rfl, v, W, dx, _, _, rfl, e1, TW.cl, TW.ns, wf_signs, .ref v, rfl, v, W, dx, _, _, rfl, e1, TW.cl, TW.ni, wf_inn, .ref v, rfl, v, W, dx, _, _, rfl, e1, TW.cl, TW.no, wf_out, ?_⟩
    intro v2 dv nv hdv nev
    have sV : Same H (upd (upd H dv (.own v2)) v2 (.ins W dv [])) := same_new nv (same_upd hdv)
    refine ⟨v2, dv, .ref i, .ref o, bs, q, r, rfl, upd_same, hR, .inr ⟨i, rfl, PC.same sV e4⟩, .inr ⟨o, rfl, PC.same sV e5⟩, fun H2 l2 kp nl wk2 => ⟨rfl, ?_⟩⟩
    have s2 : Same H H2 := made_same nv hdv kp
    obtain ⟨dx2, i2, o2, p2, ts2, a1, a2, a3, a4, a5, a6⟩ := wk2
    have e12 := s2 _ _ e1
    have e22 := s2 _ _ e2
    refine ⟨.ref v, rfl, v, W, dx, _, _, rfl, e12, TW.cl, TW.nt, wf_steps, l, _, rfl, .inl (SqL.of e22), fun l3 nl3 => ?_⟩
    have s3 := same_upd (o := .lst (ts.map V.ref)) nl3
    have el3 : upd H2 l3 (.lst (ts.map V.ref)) l3 = some (.lst (ts.map V.ref)) := upd_same
    generalize upd H2 l3 (.lst (ts.map V.ref)) = H3 at s3 el3
    have s23 := s2.trans s3
    refine ⟨.ref v2, rfl, v2, W, dx2, _, rfl, s3 _ _ a1, TW.cl, TW.nt, wf_few, ?_⟩
    rw [wf_put_steps]
    have nvv : v ≠ v2 := ne_of_none e1 nv
    have nlv : l3 ≠ v2 := (ne_of_none a1 nl3).symm
    have e13 : upd H3 v2 (.ins W dx2 (wf i2 o2 bs l3 p2)) v = some (.ins W dx (wf i o bs l p)) := by
      rw [upd_ne nvv]
      exact s23 _ _ e1
    refine ⟨.ref v, rfl, v, W, dx, _, _, rfl, e13, TW.cl, TW.np, wf_product, .ref v2, rfl, v2, W, dx2, _, rfl, upd_same, TW.cl, TW.np, wf_few, ?_⟩
    rw [wf_put_product, upd_upd]
    have mvC : ∀ {x : Addr} {z : Rat}, PC C H3 x z → PC C (upd H3 v2 (.ins W dx2 (wf i2 o2 bs l3 p))) x z := fun {x z} hx => by
      have nx : x ≠ v2 := pa_ne cw hx.1 (s3 _ _ a1)
      obtain ⟨⟨dz, ez⟩, hx2⟩ := hx
      exact ⟨⟨dz, by rw [upd_ne nx]; exact ez⟩, hx2⟩
    have e63 := e6.same s23
    refine ⟨.ref v2, rfl, h _ v2 l3 (fun x u e => ?_) nv (s2.free nl3) ⟨dx2, i2, o2, p, ts, upd_same, ?_, ⟨e3.1, fun j t kb a b => ?_⟩, mvC (a4.same s3), mvC (a5.same s3), e63.upd (pa_ne cw e63 (s3 _ _ a1))⟩⟩
    · rw [upd_ne (ne_of_none e nv)]
      exact s23 _ _ e
    · rw [upd_ne nlv]
      exact el3
    · have et := e3.2 j t kb a b
      rw [upd_ne (ne_of_none et nv)]
      exact s23 _ _ et
/-! ### Walk.__str__ -/
def spWStr (C W : Addr) : Sp := fun vs H Q _ => ∃ (v l : Addr) (bs : List Bool) (st : List (Nat × List Bool)) (q r : Rat), vs = [.ref v] ∧ WK C W H v l bs st q r ∧ bs.length ≤ 30 ∧ Q (.str (tx bs)) H
theorem scWStr : FnScope ["self"] ["self"] (defScope sWStr) := ⟨rfl, rfl, rfl, by decide +kernel, rfl, by decide +kernel, by decide +kernel⟩
theorem ok_wstr {f : Addr} {fd : FuncData} {k : Nat} (F : Fun K "__str__" "Walk.__str__" sWStr f fd) (TW : TxtW K mg W) : FnOk P w K mg base CX0 (k + 1) f fd ["self"] (spWStr C W) := by
  refine F.ok scWStr (fun vs H Q E h => ?_) (fun cdv A outer s H vs Q E hr h => ?_)
  · obtain ⟨v, l, bs, st, q, r, rfl, _⟩ := h
    rfl
  · obtain ⟨v, l, bs, st, q, r, rfl, ⟨dx, i, o, p, ts, e1, _⟩, h30, h⟩ := h
    exact ⟨_, pss_one (ps_ret (pe_joined1 (pe_fmt (pe_fld (pv 0) rfl)))), .ref v, rfl, v, W, dx, _, _, rfl, e1, TW.cl, TW.ns, wf_signs, .inl ⟨tx bs, rfl, tx_fit (by omega), h⟩⟩
end
end Hop

set_option Elab.async false
set_option linter.all false
set_option maxRecDepth 100000
namespace Hop
open PySem L2 HopR
open C8 (InsC call_isC)
abbrev sOpen : Stmt := top 41
abbrev sBehind : Stmt := top 42
abbrev sLText : Stmt := top 43
abbrev sLShown : Stmt := top 44
abbrev sLAlike : Stmt := top 45
abbrev sLDeed : Stmt := top 46
abbrev sLFresh : Stmt := top 47
section
variable {P : Program} {w : World} {K : PySem.W.Frag} {mg : Str → Option Value} {base : Heap} {C W d : Addr} {es : Array DictEntry} {n : Nat}
theorem and_told {t u : TT} {σ : L2.St} {H : Hp} {Q : Bool → Hp → Prop} {a b : Bool} (h1 : ∀ R : Bool → Hp → Prop, R a H → t σ H R) (h2 : a = true → ∀ R : Bool → Hp → Prop, R b H → u σ H R) (q : Q (a && b) H) : tAnd t u σ H Q := by
  refine h1 _ ?_
  cases a with
  | true => exact h2 rfl _ q
  | false => exact q
theorem or_told {t u : TT} {σ : L2.St} {H : Hp} {Q : Bool → Hp → Prop} {a b : Bool} (h1 : ∀ R : Bool → Hp → Prop, R a H → t σ H R) (h2 : a = false → ∀ R : Bool → Hp → Prop, R b H → u σ H R) (q : Q (a || b) H) : tOr t u σ H Q := by
  refine h1 _ ?_
  cases a with
  | true => exact q
  | false => exact h2 rfl _ q
theorem yes2 {p q : Prop} (h : p) : if true = true then p else q := by
  rw [if_pos rfl]
  exact h
theorem nay2 {p q : Prop} (h : q) : if false = true then p else q := by
  rw [if_neg (by decide)]
  exact h
theorem sign_o (b : Bool) : decide (V.str ⟨#[cd b]⟩ = V.str "o") = b := by
  rw [tx_o]
  cases b with
  | true => exact decide_eq_true rfl
  | false => exact decide_eq_false fun q => absurd (tx_inj (as := [false]) (bs := [true]) (V.str.inj q)) (by decide)
theorem sign_f (b : Bool) : decide (V.str ⟨#[cd b]⟩ = V.str ".") = !b := by
  rw [tx_f]
  cases b with
  | false => exact decide_eq_true rfl
  | true => exact decide_eq_false fun q => absurd (tx_inj (as := [true]) (bs := [false]) (V.str.inj q)) (by decide)
theorem at_code {bs : List Bool} {i : Nat} (h : i < bs.length) : atI (tx bs).cps.toList (i : Int) = some (cd bs[i]) := atI_nat (by rw [tx_list, List.getElem?_map, List.getElem?_eq_getElem h]; rfl)
theorem scOpen : FnScope ["_law_row_here", "_law_found", "_law_shut"] ["_law_row_here"] (defScope sOpen) := ⟨rfl, rfl, rfl, by decide +kernel, rfl, by decide +kernel, by decide +kernel⟩
theorem ok_open {f : Addr} {fd : FuncData} {k : Nat} (F : Fun K "_law_open" "_law_open" sOpen f fd) (T : TxtR K w mg d es n) : FnOk P w K mg base CX0 (k + 1) f fd ["_law_row_here"] spWalls := by
  refine F.ok scOpen (fun vs H Q E h => ?_) (fun cdv A outer s H vs Q E hr h => ?_)
  · obtain ⟨bs, rfl, _⟩ := h
    rfl
  · obtain ⟨bs, rfl, hR, q⟩ := h
    have nd := scOpen.nd
    have h30 := hR.2
    have hz := row_size hR
    refine ⟨_, pss_cons (ps_set (i := 1) nd rfl (.inl rfl) (pe_lst pa_nil))
      (pss_cons (ps_for PassesOwn.never rfl (pi_range1 (by rfl) T.range (pa_cons (pe_op op_add (pe_callB call_len_str (by rfl) T.len PySem.boot_len (pa_cons (pv 0) pa_nil)) pe_int) pa_nil)) (pg_name (i := 2) nd rfl (.inl rfl))
        (pss_one (ps_if (PW.pt (pw_and (PW.pt (pw_or (pt_cmpR op_eq (pv 2) pe_int (nomark _)) (pw_or1 (pt_cmpR op_eq (pe_ix ix_str (pv 0) (pe_op op_sub (pv 2) pe_int) (fun _ _ => rfl)) pe_str (nomark _)))))
            (pw_and1 (PW.pt (pw_or (pt_cmpR op_eq (pv 2) (pe_callB call_len_str (by rfl) T.len PySem.boot_len (pa_cons (pv 0) pa_nil)) (nomark _)) (pw_or1 (pt_cmpR op_eq (pe_ix ix_str (pv 0) (pv 2) (fun _ _ => rfl)) pe_str (nomark _))))))))
          (pss_one (ps_expr (pe_bm PySem.F.plainAttrs_list PySem.F.slot_list_append PySem.F.type_list_append mt_append (pv 1) (pa_cons (pv 2) pa_nil)))) pss_nil)))
      (pss_one (ps_ret (pv 1)))), ?_⟩
    refine ⟨Nat.zero_le _, fun o no => ?_⟩
    refine ⟨.str (tx bs), rfl, tx bs, rfl, hz, _, 1, rfl, rfl, _, rfl, (by rw [tx_len]; omega), (by rw [tx_len]; omega), ?_⟩
    have en : (((tx bs).length : Int) + 1).toNat = bs.length + 1 := by
      rw [tx_len]
      omega
    rw [en]
    refine for_range (lo := 0) (n := bs.length + 1) (fun i σ H3 => ∃ y2, σ = [some (.str (tx bs)), some (.ref o), y2] ∧ Same H H3 ∧ H3 o = some (.lst (((List.range i).filter (opn bs)).map wv))) ⟨none, rfl, same_upd no, upd_same⟩ ?_ ?_
    · rintro i σ H3 hi ⟨y2, rfl, sm, eo⟩
      rw [Int.zero_add]
      have er : (List.range (i + 1)).filter (opn bs) = (List.range i).filter (opn bs) ++ (if opn bs i then [i] else []) := by
        rw [List.range_succ, List.filter_append]
        congr 1
        cases h : opn bs i with
        | true => simp [h]
        | false => simp [h]
      have hlt : (((List.range i).filter (opn bs)).map wv).length < sizeLine := by
        rw [List.length_map]
        refine small1000 (Nat.le_trans (List.length_filter_le _ _) ?_)
        rw [List.length_range]
        omega
      have hop := opn_eq (bs := bs) (k := i) (by omega)
      -- the end of a turn
      have yes : opn bs i = true → ∃ y2, [some (V.str (tx bs)), some (V.ref o), some (V.int (i : Int))] = [some (.str (tx bs)), some (.ref o), y2] ∧ Same H (upd H3 o (.lst (((List.range i).filter (opn bs)).map wv ++ [.int (i : Int)]))) ∧ (upd H3 o (.lst (((List.range i).filter (opn bs)).map wv ++ [.int (i : Int)]))) o = some (.lst (((List.range (i + 1)).filter (opn bs)).map wv)) := fun e => by
        refine ⟨_, rfl, same_new no sm, ?_⟩
        rw [upd_same, er, e, List.map_append]
        rfl
      have nay : opn bs i = false → ∃ y2, [some (V.str (tx bs)), some (V.ref o), some (V.int (i : Int))] = [some (.str (tx bs)), some (.ref o), y2] ∧ Same H H3 ∧ H3 o = some (.lst (((List.range (i + 1)).filter (opn bs)).map wv)) := fun e => by
        refine ⟨_, rfl, sm, ?_⟩
        rw [er, e, eo]
        simp
      have dz : decide (V.int (i : Int) = V.int 0) = decide (i = 0) := by
        by_cases h : i = 0
        · rw [h]; rfl
        · rw [decide_eq_false h, decide_eq_false fun z => h (by have := V.int.inj z; omega)]
      have dl : decide (V.int (i : Int) = V.int ((tx bs).length : Int)) = decide (i = bs.length) := by
        rw [tx_len]
        by_cases h : i = bs.length
        · rw [decide_eq_true h, decide_eq_true (by rw [h])]
        · rw [decide_eq_false h, decide_eq_false fun z => h (by have := V.int.inj z; omega)]
      have gone : ∀ j, j < bs.length → bs.getD j false = bs[j]! ∧ bs.getD j true = bs[j]! := fun j hj => by
        rw [List.getD_eq_getElem?_getD, List.getD_eq_getElem?_getD, List.getElem?_eq_getElem hj, getElem!_pos bs j hj]
        exact ⟨rfl, rfl⟩
      have h0 : ∀ j, j < bs.length → bs.getD j false = bs.getD j true := fun j hj => by rw [(gone j hj).1, (gone j hj).2]
      have low : ∀ j (hj : j < bs.length), bs.getD j true = bs[j] := fun j hj => by
        rw [(gone j hj).2, getElem!_pos bs j hj]
      refine and_told (a := decide (i = 0) || bs.getD (i - 1) false) (b := decide (i = bs.length) || !bs.getD i true)
        (fun R r => or_told (a := decide (i = 0)) (b := bs.getD (i - 1) false) (fun R r => ⟨.int (i : Int), rfl, rfl, _, rfl, by rw [dz]; exact r⟩) (fun e R r => ?_) r)
        (fun _ R r => or_told (a := decide (i = bs.length)) (b := !bs.getD i true) (fun R r => ⟨.int (i : Int), rfl, .str (tx bs), rfl, tx bs, rfl, hz, rfl, _, rfl, by rw [dl]; exact r⟩) (fun e R r => ?_) r) ?_
      · have e : ¬ i = 0 := of_decide_eq_false e
        have hj : i - 1 < bs.length := by omega
        have ej : (i : Int) - 1 = ((i - 1 : Nat) : Int) := by omega
        refine ⟨.str (tx bs), rfl, .int (i : Int), rfl, _, _, rfl, rfl, _, _, _, rfl, rfl, hz, (by rw [ej]; exact at_code hj), rfl, _, rfl, ?_⟩
        rw [sign_o, ← low _ hj, ← h0 _ hj]
        exact r
      · have e : ¬ i = bs.length := of_decide_eq_false e
        have hj : i < bs.length := by omega
        refine ⟨.str (tx bs), rfl, .int (i : Int), rfl, _, _, _, rfl, rfl, hz, at_code hj, rfl, _, rfl, ?_⟩
        rw [sign_f, ← low _ hj]
        exact r
      · show if (_ && _ : Bool) = true then _ else _
        rw [← hop]
        refine ite2 (fun e => ?_) (fun e => ?_)
        · exact ⟨.ref o, rfl, .inl ⟨rfl, _, SqL.of eo⟩, .int (i : Int), rfl, o, _, _, rfl, rfl, eo, hlt, yes e⟩
        · exact nay (Bool.eq_false_iff.mpr e)
    · rintro σ H3 ⟨y2, rfl, sm, eo⟩
      exact ⟨.ref o, rfl, q H3 o sm no eo⟩
/-! ### _law_behind -/
theorem scBehind : FnScope ["_law_row_here", "_law_shut", "_law_signs"] ["_law_row_here", "_law_shut"] (defScope sBehind) := ⟨rfl, rfl, rfl, by decide +kernel, rfl, by decide +kernel, by decide +kernel⟩
def spBehind : Sp := fun vs H Q _ => ∃ bs k, vs = [.str (tx bs), wv k] ∧ Row bs ∧ k ≤ bs.length ∧ ∀ H', Same H H' → Q (.str (tx (chg bs k))) H'
def sl (bs : List Bool) : List V := (bs.map fun b => tx [b]).map V.str
theorem sl_len (bs : List Bool) : (sl bs).length = bs.length := by
  unfold sl
  rw [List.length_map, List.length_map]
theorem ixN_low {n j : Nat} (hj : j < n) : ixN n (j : Int) = some j := by
  unfold ixN
  rw [if_pos (by omega), if_pos (by omega)]
  simp
theorem sl_set (bs : List Bool) (k : Nat) (b : Bool) : (sl bs).set k (.str (tx [b])) = sl (bs.set k b) := by
  unfold sl
  rw [List.map_set, List.map_set]
theorem ok_behind {f : Addr} {fd : FuncData} {k : Nat} (F : Fun K "_law_behind" "_law_behind" sBehind f fd) (T : TxtR K w mg d es n) : FnOk P w K mg base CX0 (k + 1) f fd ["_law_row_here", "_law_shut"] spBehind := by
  refine F.ok scBehind (fun vs H Q E h => ?_) (fun cdv A outer s H vs Q E hr h => ?_)
  · obtain ⟨bs, k, rfl, _⟩ := h
    rfl
  · obtain ⟨bs, k, rfl, hR, hk, q⟩ := h
    have nd := scBehind.nd
    have h30 := hR.2
    have hz := row_size hR
    refine ⟨_, pss_cons (ps_set (i := 2) nd rfl (.inl rfl) (pe_callTy (cr_listT rfl) (by rfl) T.list (by decide +kernel) (pa_cons (pv 0) pa_nil)))
      (pss_cons (ps_if (pt_cmpR op_gt (pv 1) pe_int (nomark _)) (pss_one (ps_asg pe_str (pg_sub (pv 2) (pe_op op_sub (pv 1) pe_int) set_list))) pss_nil)
      (pss_cons (ps_if (pt_cmpR op_lt (pv 1) (pe_callB call_len_str (by rfl) T.len PySem.boot_len (pa_cons (pv 0) pa_nil)) (nomark _)) (pss_one (ps_asg pe_str (pg_sub (pv 2) (pv 1) set_list))) pss_nil)
      (pss_one (ps_ret (pe_join pe_str (pv 2)))))), ?_⟩
    refine ⟨.str (tx bs), rfl, tx bs, rfl, hz, fun o no => ?_⟩
    have e0 : (sg (tx bs)).map V.str = sl bs := by
      rw [tx_sg]
      rfl
    rw [e0]
    refine ⟨wv k, rfl, _, _, rfl, rfl, _, rfl, ite2 (fun e => ?_) (fun e => ?_)⟩
    · have e : 0 < k := by
        have := of_decide_eq_true e
        omega
      have ej : ixN (sl bs).length ((k : Int) - 1) = some (k - 1) := by
        rw [sl_len, show (k : Int) - 1 = ((k - 1 : Nat) : Int) by omega]
        exact ixN_low (by omega)
      refine ⟨.ref o, rfl, wv k, rfl, _, _, rfl, rfl, o, _, _, k - 1, rfl, rfl, upd_same, ej, ?_⟩
      rw [tx_f, sl_set]
      have hl : (bs.set (k - 1) false).length = bs.length := by simp
      refine ⟨wv k, rfl, .str (tx bs), rfl, tx bs, rfl, hz, _, _, rfl, rfl, _, rfl, ite2 (fun e2 => ?_) (fun e2 => ?_)⟩
      · have e2 : k < bs.length := by
          have := of_decide_eq_true e2
          rw [tx_len] at this
          omega
        refine ⟨.ref o, rfl, wv k, rfl, o, _, _, k, rfl, rfl, upd_same, (by rw [sl_len, hl]; exact ixN_low e2), ?_⟩
        rw [tx_o, sl_set]
        refine ⟨⟨_, rfl⟩, .ref o, rfl, "", o, (((bs.set (k - 1) false).set k true).map fun b => tx [b]), rfl, rfl, .inl (SqL.of upd_same), join_fits (by rw [List.length_set, hl]; omega), ?_⟩
        rw [join_tx]
        have ec : (bs.set (k - 1) false).set k true = chg bs k := by
          rw [← lbeh_eq hk]
          unfold lbeh
          rw [if_pos e2, if_pos e]
        rw [ec]
        exact q _ (same_new no (same_new no (same_upd no)))
      · have e2 : ¬ k < bs.length := fun z => e2 (decide_eq_true (by rw [tx_len]; omega))
        refine ⟨⟨_, rfl⟩, .ref o, rfl, "", o, ((bs.set (k - 1) false).map fun b => tx [b]), rfl, rfl, .inl (SqL.of upd_same), join_fits (by rw [hl]; omega), ?_⟩
        rw [join_tx]
        have ec : bs.set (k - 1) false = chg bs k := by
          rw [← lbeh_eq hk]
          unfold lbeh
          rw [if_neg e2, if_pos e]
        rw [ec]
        exact q _ (same_new no (same_upd no))
    · have e : ¬ 0 < k := fun z => e (decide_eq_true (by omega))
      have hl : (bs).length = bs.length := by simp
      refine ⟨wv k, rfl, .str (tx bs), rfl, tx bs, rfl, hz, _, _, rfl, rfl, _, rfl, ite2 (fun e2 => ?_) (fun e2 => ?_)⟩
      · have e2 : k < bs.length := by
          have := of_decide_eq_true e2
          rw [tx_len] at this
          omega
        refine ⟨.ref o, rfl, wv k, rfl, o, _, _, k, rfl, rfl, upd_same, (by rw [sl_len, hl]; exact ixN_low e2), ?_⟩
        rw [tx_o, sl_set]
        refine ⟨⟨_, rfl⟩, .ref o, rfl, "", o, (((bs).set k true).map fun b => tx [b]), rfl, rfl, .inl (SqL.of upd_same), join_fits (by rw [List.length_set, hl]; omega), ?_⟩
        rw [join_tx]
        have ec : (bs).set k true = chg bs k := by
          rw [← lbeh_eq hk]
          unfold lbeh
          rw [if_pos e2, if_neg e]
        rw [ec]
        exact q _ (same_new no (same_upd no))
      · have e2 : ¬ k < bs.length := fun z => e2 (decide_eq_true (by rw [tx_len]; omega))
        refine ⟨⟨_, rfl⟩, .ref o, rfl, "", o, ((bs).map fun b => tx [b]), rfl, rfl, .inl (SqL.of upd_same), join_fits (by rw [hl]; omega), ?_⟩
        rw [join_tx]
        have ec : bs = chg bs k := by
          rw [← lbeh_eq hk]
          unfold lbeh
          rw [if_neg e2, if_neg e]
        rw [ec]
        exact q _ (same_upd no)
end
end Hop

set_option Elab.async false
set_option linter.all false
set_option maxRecDepth 100000
namespace Hop
open PySem L2 HopR
open C8 (InsC call_isC)
theorem fig_small {m : Nat} (h : m < 10 ^ 64) : fig m = Str.ofString (toString ((m : Nat) : Int)) := by
  unfold fig
  rw [pcs_small h]
  rfl
theorem empty_app (z : Str) : Str.empty ++ z = z := by
  show (⟨(#[] : Array Nat) ++ z.cps⟩ : Str) = z
  simp
section
variable {P : Program} {w : World} {K : PySem.W.Frag} {mg : Str → Option Value} {base : Heap} {C W d : Addr} {es : Array DictEntry} {n : Nat}
/-! ### _law_text -/
def spLText : Sp := fun vs H Q _ => ∃ (t : Addr) (q : Rat), vs = [.ref t] ∧ H t = some (.tup (tq q)) ∧ 0 < q ∧ Sz 60 q ∧ Q (.str (ptxt q)) H
theorem scLText : FnScope ["_law_one"] ["_law_one"] (defScope sLText) := ⟨rfl, rfl, rfl, by decide +kernel, rfl, by decide +kernel, by decide +kernel⟩
theorem ok_ltext {f : Addr} {fd : FuncData} {k : Nat} (F : Fun K "_law_text" "_law_text" sLText f fd) (mS : mg "str" = none) : FnOk P w K mg base CX0 (k + 1) f fd ["_law_one"] spLText := by
  refine F.ok scLText (fun vs H Q E h => ?_) (fun cdv A outer s H vs Q E hr h => ?_)
  · obtain ⟨t, q, rfl, _⟩ := h
    rfl
  · obtain ⟨t, q, rfl, et, q0, hz, h⟩ := h
    refine ⟨_, pss_one (ps_ret (pe_op op_add_str (pe_op op_add_str (pe_op op_add_str (pe_op op_add_str pe_str (pe_callTy call_str_int (by rfl) mS (by decide +kernel) (pa_cons (pe_ix ix_tup (pv 0) pe_int (fun _ _ => rfl)) pa_nil))) pe_str) (pe_callTy call_str_int (by rfl) mS (by decide +kernel) (pa_cons (pe_ix ix_tup (pv 0) pe_int (fun _ _ => rfl)) pa_nil))) pe_str)), ?_⟩
    have hn : q.num.natAbs < 2 ^ 60 := hz.1
    have hd : q.den < 2 ^ 60 := hz.2
    have qn : 0 < q.num := num_pos q0
    have big : (2 : Nat) ^ 60 ≤ 10 ^ 64 := by decide
    have en : q.num = ((q.num.toNat : Nat) : Int) := by omega
    have fn : fig q.num.toNat = Str.ofString (toString q.num) := by
      rw [fig_small (by omega), ← en]
    have fd : fig q.den = Str.ofString (toString ((q.den : Nat) : Int)) := fig_small (by omega)
    have ln : (Str.ofString (toString q.num)).length ≤ 64 := by
      rw [en]
      exact PyProof.Rows.toString_length_le (k := 64) (Int.natCast_nonneg _) (by decide) (by exact_mod_cast (show q.num.toNat < 10 ^ 64 by omega))
    have ld : (Str.ofString (toString ((q.den : Nat) : Int))).length ≤ 64 := PyProof.Rows.toString_length_le (k := 64) (Int.natCast_nonneg _) (by decide) (by exact_mod_cast (show q.den < 10 ^ 64 by omega))
    have sl : sizeLine = 16777216 := by decide
    have e1 : ("Part(" : Str).length = 5 := by decide
    have e2 : (", " : Str).length = 2 := by decide
    have e3 : (")" : Str).length = 1 := by decide
    have lg : ∀ i : Int, i.natAbs < 2 ^ 60 → i.natAbs.log2 < 1920 := fun i hi => by
      by_cases z : i.natAbs = 0
      · rw [z]; decide
      · have : i.natAbs.log2 < 60 := (Nat.log2_lt z).mpr hi
        omega
    unfold ptxt at h
    rw [fn, fd, empty_app] at h
    refine ⟨.ref t, rfl, t, _, 0, .int q.num, rfl, rfl, SqT.of et, rfl, q.num, rfl, lg _ hn, "Part(", Str.ofString (toString q.num), rfl, rfl, by rw [e1, sl]; omega, _, _, rfl, rfl, by rw [strLen_append, e1, e2, sl]; omega, ?_⟩
    refine ⟨.ref t, rfl, t, _, 1, .int (q.den : Int), rfl, rfl, SqT.of et, rfl, (q.den : Int), rfl, lg _ (by rw [Int.natAbs_natCast]; exact hd), _, Str.ofString (toString ((q.den : Nat) : Int)), rfl, rfl, by simp only [strLen_append, e1, e2, sl]; omega, _, _, rfl, rfl, by simp only [strLen_append, e1, e2, e3, sl]; omega, ?_⟩
    exact h
end
end Hop

set_option Elab.async false
set_option linter.all false
set_option maxRecDepth 100000
/-! ### what repr tells of texts of signs, numbers, lists and tuples, told back -/
namespace HopR
open PySem PySem.Builtin PySem.Builtin.Str
def cs (x : Str) : List Nat := x.cps.toList
theorem cs_app (x y : Str) : cs (x ++ y) = cs x ++ cs y := Array.toList_append
theorem cs_inj {x y : Str} (h : cs x = cs y) : x = y := by
  cases x; cases y
  exact congrArg Str.mk (Array.toList_inj.mp h)
def dig (n : Nat) : List Nat := (Nat.toDigits 10 n).map Char.toNat
theorem dig_digit {n c : Nat} (h : c ∈ dig n) : 48 ≤ c ∧ c ≤ 57 := by
  obtain ⟨a, ha, rfl⟩ := List.mem_map.mp h
  have := Nat.isDigit_of_mem_toDigits (by decide) (by decide) ha
  simp only [Char.isDigit, Bool.and_eq_true, decide_eq_true_eq] at this
  exact ⟨this.1, this.2⟩
theorem dig_ne (n : Nat) : dig n ≠ [] := fun h => Nat.toDigits_ne_nil (List.map_eq_nil_iff.mp h)
theorem dig_inj {m n : Nat} (h : dig m = dig n) : m = n := by
  have e : Nat.toDigits 10 m = Nat.toDigits 10 n := by
    refine List.map_inj_right (f := Char.toNat) (fun a b h => ?_) |>.mp h
    exact Char.ext (UInt32.toNat_inj.mp h)
  have := congrArg (fun l => Nat.ofDigitChars 10 l 0) e
  simpa [Nat.ofDigitChars_ten_toDigits] using this
def numC : Int → List Nat
  | .ofNat n => dig n
  | .negSucc n => 45 :: dig (n + 1)
theorem cs_of (s : String) : cs (Str.ofString s) = s.toList.map Char.toNat := by
  unfold cs
  rw [Str.ofString_eq_toList]
theorem cs_int (i : Int) : cs (Str.ofString (toString i)) = numC i := by
  rw [cs_of]
  cases i with
  | ofNat n =>
    show (toString n).toList.map Char.toNat = dig n
    rw [Nat.toString_eq_ofList_toDigits]
    simp [dig]
  | negSucc n =>
    show ("-" ++ toString (n + 1)).toList.map Char.toNat = 45 :: dig (n + 1)
    rw [Nat.toString_eq_ofList_toDigits]
    simp [dig]
/-- what follows a number is no digit -/
def nd (r : List Nat) : Prop := ∀ c t, r = c :: t → ¬ (48 ≤ c ∧ c ≤ 57)
theorem digs_split : ∀ {xs ys r r' : List Nat}, (∀ c ∈ xs, 48 ≤ c ∧ c ≤ 57) → (∀ c ∈ ys, 48 ≤ c ∧ c ≤ 57) → nd r → nd r' → xs ++ r = ys ++ r' → xs = ys ∧ r = r'
  | [], [], _, _, _, _, _, _, h => ⟨rfl, h⟩
  | [], y :: ys, r, r', _, hy, hr, _, h => absurd (hy y (List.mem_cons_self ..)) (hr y _ h)
  | x :: xs, [], r, r', hx, _, _, hr, h => absurd (hx x (List.mem_cons_self ..)) (hr x _ h.symm)
  | x :: xs, y :: ys, r, r', hx, hy, a, b, h => by
    rw [List.cons_append, List.cons_append] at h
    injection h with h1 h2
    subst h1
    obtain ⟨e, f⟩ := digs_split (fun c hc => hx c (List.mem_cons_of_mem _ hc)) (fun c hc => hy c (List.mem_cons_of_mem _ hc)) a b h2
    exact ⟨by rw [e], f⟩
theorem numC_split {i j : Int} {r r' : List Nat} (hr : nd r) (hr' : nd r') (h : numC i ++ r = numC j ++ r') : i = j ∧ r = r' := by
  have dg : ∀ n, ∀ c ∈ dig n, 48 ≤ c ∧ c ≤ 57 := fun n c hc => dig_digit hc
  have hd : ∀ n (x : Nat) t, dig n ++ t = 45 :: x :: [] ++ t → True := fun _ _ _ _ => trivial
  match i, j, h with
  | .ofNat m, .ofNat n, h =>
    obtain ⟨e, f⟩ := digs_split (dg m) (dg n) hr hr' h
    exact ⟨congrArg _ (dig_inj e), f⟩
  | .negSucc m, .negSucc n, h =>
    have h : dig (m + 1) ++ r = dig (n + 1) ++ r' := (List.cons.inj h).2
    obtain ⟨e, f⟩ := digs_split (dg _) (dg _) hr hr' h
    have := dig_inj e
    exact ⟨congrArg Int.negSucc (by omega), f⟩
  | .ofNat m, .negSucc n, h =>
    cases e : dig m with
    | nil => exact absurd e (dig_ne m)
    | cons a t =>
      have h : dig m ++ r = 45 :: (dig (n + 1) ++ r') := h
      rw [e, List.cons_append] at h
      have h1 := (List.cons.inj h).1
      have h2 := dg m a (by rw [e]; exact List.mem_cons_self ..)
      omega
  | .negSucc m, .ofNat n, h =>
    cases e : dig n with
    | nil => exact absurd e (dig_ne n)
    | cons a t =>
      have h : 45 :: (dig (m + 1) ++ r) = dig n ++ r' := h
      rw [e, List.cons_append] at h
      have h1 := (List.cons.inj h).1
      have h2 := dg n a (by rw [e]; exact List.mem_cons_self ..)
      omega
/-! texts -/
def sgs (x : Str) : Bool := (cs x).all fun c => c == 111 || c == 46
theorem sgs_tx (bs : List Bool) : sgs (tx bs) = true := by
  unfold sgs cs
  rw [tx_list, List.all_map, List.all_eq_true]
  intro b _
  cases b <;> decide
theorem sgs_at {x : Str} (h : sgs x = true) : ∀ c ∈ cs x, c = 111 ∨ c = 46 := fun c hc => by
  have := List.all_eq_true.mp h c hc
  simpa using this
theorem cs_repr {x : Str} (h : sgs x = true) : cs (reprText x) = 39 :: (cs x ++ [39]) := by
  have hx := sgs_at h
  have hq : reprQuote x = 39 := by
    unfold reprQuote
    have : x.cps.contains 39 = false := by
      rw [← Bool.not_eq_true, Array.contains_iff_exists_mem_beq]
      rintro ⟨c, hc, e⟩
      have e := beq_iff_eq.mp e
      have := hx c (by unfold cs; exact Array.mem_toList_iff.mpr hc)
      omega
    rw [this]
    rfl
  have hf : ∀ (l : List Nat) (acc : Array Nat), (∀ c ∈ l, c = 111 ∨ c = 46) → (l.foldl (fun out c => out ++ (reprChar 39 c).toArray) acc).toList = acc.toList ++ l := fun l => by
    induction l with
    | nil => exact fun acc _ => (List.append_nil _).symm
    | cons c r ih =>
      intro acc hl
      have e : reprChar 39 c = [c] := by
        rcases hl c (List.mem_cons_self ..) with rfl | rfl <;> decide
      rw [List.foldl_cons, ih _ fun a ha => hl a (List.mem_cons_of_mem _ ha), e, Array.toList_append]
      simp
  unfold reprText cs
  rw [hq, Array.toList_push, ← Array.foldl_toList, hf x.cps.toList _ hx]
  rfl
theorem sg_split : ∀ {xs ys r r' : List Nat}, (∀ c ∈ xs, c = 111 ∨ c = 46) → (∀ c ∈ ys, c = 111 ∨ c = 46) → xs ++ 39 :: r = ys ++ 39 :: r' → xs = ys ∧ r = r'
  | [], [], _, _, _, _, h => ⟨rfl, (List.cons.inj h).2⟩
  | [], y :: ys, r, r', _, hy, h => by
    have h1 := (List.cons.inj h).1
    have := hy y (List.mem_cons_self ..)
    omega
  | x :: xs, [], r, r', hx, _, h => by
    have h1 := (List.cons.inj h).1
    have := hx x (List.mem_cons_self ..)
    omega
  | x :: xs, y :: ys, r, r', hx, hy, h => by
    rw [List.cons_append, List.cons_append] at h
    injection h with h1 h2
    subst h1
    obtain ⟨e, f⟩ := sg_split (fun c hc => hx c (List.mem_cons_of_mem _ hc)) (fun c hc => hy c (List.mem_cons_of_mem _ hc)) h2
    exact ⟨by rw [e], f⟩
/-! lists, tuples -/
def pre : List (List Nat) → List Nat
  | [] => []
  | x :: r => 44 :: 32 :: (x ++ pre r)
def bod : List (List Nat) → List Nat
  | [] => []
  | x :: r => x ++ pre r
theorem cs_comma : cs (Str.ofString ", ") = [44, 32] := by decide +kernel
theorem cs_from : ∀ (ts : List Str) (k : Nat) (acc : Str), cs (textFrom k acc ts) = cs acc ++ (if k = 0 then bod (ts.map cs) else pre (ts.map cs))
  | [], k, acc => by
    show cs acc = cs acc ++ _
    by_cases h : k = 0
    · rw [if_pos h]; exact (List.append_nil _).symm
    · rw [if_neg h]; exact (List.append_nil _).symm
  | t :: r, 0, acc => by
    have ih := cs_from r 1 (acc ++ (if 0 > 0 then ", " else "" : String) ++ t)
    show cs (textFrom 1 (acc ++ (if 0 > 0 then ", " else "" : String) ++ t) r) = _
    rw [ih, cs_app, cs_app, if_neg (by decide), if_neg (by decide), if_pos rfl]
    have e : cs (Str.ofString "") = [] := by decide +kernel
    rw [e]
    show _ = cs acc ++ (cs t ++ pre (r.map cs))
    simp
  | t :: r, k + 1, acc => by
    have ih := cs_from r (k + 2) (acc ++ (if k + 1 > 0 then ", " else "" : String) ++ t)
    show cs (textFrom (k + 2) (acc ++ (if k + 1 > 0 then ", " else "" : String) ++ t) r) = _
    rw [ih, cs_app, cs_app, if_pos (Nat.succ_pos k), if_neg (by omega), if_neg (by omega), cs_comma]
    show _ = cs acc ++ (44 :: 32 :: (cs t ++ pre (r.map cs)))
    simp
theorem cs_list (ts : List Str) : cs (listText ts) = 91 :: (bod (ts.map cs) ++ [93]) := by
  unfold listText
  rw [cs_app, cs_from, if_pos rfl]
  have e : cs (Str.ofString "[") = [91] := by decide +kernel
  have f : cs (Str.ofString "]") = [93] := by decide +kernel
  rw [e, f]
  simp
theorem cs_join : ∀ ts : List Str, cs (Str.join ", " ts) = bod (ts.map cs)
  | [] => by decide +kernel
  | [x] => (List.append_nil _).symm
  | x :: y :: r => by
    show cs (x ++ Str.ofString ", " ++ Str.join ", " (y :: r)) = cs x ++ (44 :: 32 :: (cs y ++ pre (r.map cs)))
    rw [cs_app, cs_app, cs_comma, cs_join (y :: r)]
    show _ = cs x ++ (44 :: 32 :: bod ((y :: r).map cs))
    simp
def clo (n : Nat) : List Nat := if n = 1 then [44, 41] else [41]
theorem cs_tuple (ts : List Str) : cs (tupleText ts) = 40 :: (bod (ts.map cs) ++ clo ts.length) := by
  unfold tupleText clo
  rw [cs_app, cs_app, cs_join]
  have e : cs (Str.ofString "(") = [40] := by decide +kernel
  have f : cs (Str.ofString ",)") = [44, 41] := by decide +kernel
  have g : cs (Str.ofString ")") = [41] := by decide +kernel
  rw [e]
  by_cases h : ts.length = 1
  · rw [if_pos h, if_pos (by simpa using h), f]
    simp
  · rw [if_neg h, if_neg (by simpa using h), g]
    simp
mutual
/-- texts of signs, numbers, lists and tuples of these -/
def Rp : PyData → Bool
  | .int _ => true
  | .str x => sgs x
  | .list xs => RpAll xs
  | .tuple xs => RpAll xs
  | _ => false
def RpAll : List PyData → Bool
  | [] => true
  | x :: r => Rp x && RpAll r
end
theorem shownAll_len : ∀ xs : List PyData, (PyData.shownAll xs).length = xs.length
  | [] => rfl
  | x :: r => by
    show (PyData.shownAll r).length + 1 = r.length + 1
    rw [shownAll_len r]
/-- the first sign -/
def fst (d : PyData) (c : Nat) : Prop := match d with
  | .int _ => c = 45 ∨ (48 ≤ c ∧ c ≤ 57)
  | .str _ => c = 39
  | .list _ => c = 91
  | .tuple _ => c = 40
  | _ => False
theorem hd_of {d : PyData} (h : Rp d = true) : ∃ c t, cs d.shown = c :: t ∧ fst d c := by
  match d, h with
  | .int i, _ =>
    show ∃ c t, cs (Str.ofString (toString i)) = c :: t ∧ _
    rw [cs_int]
    cases i with
    | ofNat n =>
      show ∃ c t, dig n = c :: t ∧ _
      cases e : dig n with
      | nil => exact absurd e (dig_ne n)
      | cons a t => exact ⟨a, t, rfl, .inr (dig_digit (n := n) (by rw [e]; exact List.mem_cons_self ..))⟩
    | negSucc n => exact ⟨45, _, rfl, .inl rfl⟩
  | .str x, h =>
    have h : sgs x = true := by simpa [Rp] using h
    show ∃ c t, cs (reprText x) = c :: t ∧ _
    rw [cs_repr h]
    exact ⟨39, _, rfl, rfl⟩
  | .list xs, _ =>
    show ∃ c t, cs (listText (PyData.shownAll xs)) = c :: t ∧ _
    rw [cs_list]
    exact ⟨91, _, rfl, rfl⟩
  | .tuple xs, _ =>
    show ∃ c t, cs (tupleText (PyData.shownAll xs)) = c :: t ∧ _
    rw [cs_tuple]
    exact ⟨40, _, rfl, rfl⟩
  | .none, h => simp [Rp] at h
  | .bool _, h => simp [Rp] at h
  | .dict _, h => simp [Rp] at h
theorem nd_pre {xs : List (List Nat)} {z : Nat} {r : List Nat} (hz : z = 93 ∨ z = 41 ∨ z = 44) : nd (pre xs ++ z :: r) := fun c t h => by
  cases xs with
  | nil =>
    have := (List.cons.inj h).1
    omega
  | cons x s =>
    have := (List.cons.inj h).1
    omega
theorem fst_ne {d : PyData} {c : Nat} (h : fst d c) : c ≠ 93 ∧ c ≠ 41 := by
  cases d <;> simp only [fst] at h <;> omega
theorem nd_clo (xs : List (List Nat)) (n : Nat) (r : List Nat) : nd (pre xs ++ (clo n ++ r)) := by
  unfold clo
  split
  · exact nd_pre (z := 44) (r := 41 :: r) (by omega)
  · exact nd_pre (z := 41) (r := r) (by omega)
mutual
theorem shown_split : ∀ (d e : PyData) (r r' : List Nat), Rp d = true → Rp e = true → nd r → nd r' → cs d.shown ++ r = cs e.shown ++ r' → d = e ∧ r = r'
  | d, e, r, r', hd, he, hr, hr', h => by
    obtain ⟨c, t, e1, f1⟩ := hd_of hd
    obtain ⟨c', t', e2, f2⟩ := hd_of he
    have ec : c = c' := by
      rw [e1, e2] at h
      exact (List.cons.inj h).1
    subst ec
    match d, e, hd, he, f1, f2, h with
    | .int i, .int j, _, _, _, _, h =>
      have h : cs (Str.ofString (toString i)) ++ r = cs (Str.ofString (toString j)) ++ r' := h
      rw [cs_int, cs_int] at h
      obtain ⟨a, b⟩ := numC_split hr hr' h
      exact ⟨by rw [a], b⟩
    | .str x, .str y, hd, he, _, _, h =>
      have hx : sgs x = true := by simpa [Rp] using hd
      have hy : sgs y = true := by simpa [Rp] using he
      have h : cs (reprText x) ++ r = cs (reprText y) ++ r' := h
      rw [cs_repr hx, cs_repr hy] at h
      have h : (cs x ++ [39]) ++ r = (cs y ++ [39]) ++ r' := (List.cons.inj h).2
      rw [List.append_assoc, List.append_assoc] at h
      obtain ⟨a, b⟩ := sg_split (sgs_at hx) (sgs_at hy) h
      exact ⟨by rw [cs_inj a], b⟩
    | .list [], .list [], _, _, _, _, h =>
      have h : cs (listText []) ++ r = cs (listText []) ++ r' := h
      exact ⟨rfl, List.append_cancel_left h⟩
    | .list [], .list (y :: ys), _, he, _, _, h =>
      have h : cs (listText []) ++ r = cs (listText (PyData.shownAll (y :: ys))) ++ r' := h
      simp only [Rp, RpAll, Bool.and_eq_true] at he
      obtain ⟨c, t, e, f⟩ := hd_of he.1
      rw [cs_list, cs_list] at h
      have h : 93 :: r = (cs y.shown ++ pre ((PyData.shownAll ys).map cs)) ++ [93] ++ r' := (List.cons.inj h).2
      rw [e] at h
      have := (List.cons.inj h).1
      have := fst_ne f
      omega
    | .list (x :: xs), .list [], hd, _, _, _, h =>
      have h : cs (listText (PyData.shownAll (x :: xs))) ++ r = cs (listText []) ++ r' := h
      simp only [Rp, RpAll, Bool.and_eq_true] at hd
      obtain ⟨c, t, e, f⟩ := hd_of hd.1
      rw [cs_list, cs_list] at h
      have h : (cs x.shown ++ pre ((PyData.shownAll xs).map cs)) ++ [93] ++ r = 93 :: r' := (List.cons.inj h).2
      rw [e] at h
      have := (List.cons.inj h).1
      have := fst_ne f
      omega
    | .list (x :: xs), .list (y :: ys), hd, he, _, _, h =>
      have h : cs (listText (PyData.shownAll (x :: xs))) ++ r = cs (listText (PyData.shownAll (y :: ys))) ++ r' := h
      simp only [Rp, RpAll, Bool.and_eq_true] at hd he
      rw [cs_list, cs_list] at h
      have h : (cs x.shown ++ pre ((PyData.shownAll xs).map cs)) ++ [93] ++ r = (cs y.shown ++ pre ((PyData.shownAll ys).map cs)) ++ [93] ++ r' := (List.cons.inj h).2
      rw [List.append_assoc, List.append_assoc, List.append_assoc, List.append_assoc] at h
      obtain ⟨a, b⟩ := shown_split x y _ _ hd.1 he.1 (nd_pre (by omega)) (nd_pre (by omega)) h
      obtain ⟨a2, b2⟩ := pre_split xs ys 93 r r' (.inl rfl) hd.2 he.2 b
      exact ⟨by rw [a, a2], b2⟩
    | .tuple [], .tuple [], _, _, _, _, h =>
      have h : cs (tupleText []) ++ r = cs (tupleText []) ++ r' := h
      exact ⟨rfl, List.append_cancel_left h⟩
    | .tuple [], .tuple (y :: ys), _, he, _, _, h =>
      have h : cs (tupleText []) ++ r = cs (tupleText (PyData.shownAll (y :: ys))) ++ r' := h
      simp only [Rp, RpAll, Bool.and_eq_true] at he
      obtain ⟨c, t, e, f⟩ := hd_of he.1
      rw [cs_tuple, cs_tuple] at h
      have h : 41 :: r = (cs y.shown ++ pre ((PyData.shownAll ys).map cs)) ++ clo (PyData.shownAll (y :: ys)).length ++ r' := (List.cons.inj h).2
      rw [e] at h
      have := (List.cons.inj h).1
      have := fst_ne f
      omega
    | .tuple (x :: xs), .tuple [], hd, _, _, _, h =>
      have h : cs (tupleText (PyData.shownAll (x :: xs))) ++ r = cs (tupleText []) ++ r' := h
      simp only [Rp, RpAll, Bool.and_eq_true] at hd
      obtain ⟨c, t, e, f⟩ := hd_of hd.1
      rw [cs_tuple, cs_tuple] at h
      have h : (cs x.shown ++ pre ((PyData.shownAll xs).map cs)) ++ clo (PyData.shownAll (x :: xs)).length ++ r = 41 :: r' := (List.cons.inj h).2
      rw [e] at h
      have := (List.cons.inj h).1
      have := fst_ne f
      omega
    | .tuple (x :: xs), .tuple (y :: ys), hd, he, _, _, h =>
      have h : cs (tupleText (PyData.shownAll (x :: xs))) ++ r = cs (tupleText (PyData.shownAll (y :: ys))) ++ r' := h
      simp only [Rp, RpAll, Bool.and_eq_true] at hd he
      rw [cs_tuple, cs_tuple] at h
      have h : (cs x.shown ++ pre ((PyData.shownAll xs).map cs)) ++ clo ((PyData.shownAll xs).length + 1) ++ r = (cs y.shown ++ pre ((PyData.shownAll ys).map cs)) ++ clo ((PyData.shownAll ys).length + 1) ++ r' := (List.cons.inj h).2
      rw [List.append_assoc, List.append_assoc, List.append_assoc, List.append_assoc, shownAll_len, shownAll_len] at h
      obtain ⟨a, b⟩ := shown_split x y _ _ hd.1 he.1 (nd_clo _ _ _) (nd_clo _ _ _) h
      match xs, ys, hd, he, b with
      | [], [], _, _, b =>
        have b : 44 :: 41 :: r = 44 :: 41 :: r' := b
        exact ⟨by rw [a], (List.cons.inj (List.cons.inj b).2).2⟩
      | [], y2 :: ys, _, _, b =>
        have b : 44 :: 41 :: r = 44 :: 32 :: ((cs y2.shown ++ pre ((PyData.shownAll ys).map cs)) ++ (clo (ys.length + 2) ++ r')) := b
        have := (List.cons.inj (List.cons.inj b).2).1
        omega
      | x2 :: xs, [], _, _, b =>
        have b : 44 :: 32 :: ((cs x2.shown ++ pre ((PyData.shownAll xs).map cs)) ++ (clo (xs.length + 2) ++ r)) = 44 :: 41 :: r' := b
        have := (List.cons.inj (List.cons.inj b).2).1
        omega
      | x2 :: xs, y2 :: ys, hd, he, b =>
        have b : pre ((PyData.shownAll (x2 :: xs)).map cs) ++ 41 :: r = pre ((PyData.shownAll (y2 :: ys)).map cs) ++ 41 :: r' := b
        obtain ⟨a2, b2⟩ := pre_split (x2 :: xs) (y2 :: ys) 41 r r' (.inr rfl) hd.2 he.2 b
        exact ⟨by rw [a, a2], b2⟩
    | .int _, .str _, _, _, f1, f2, _ => simp only [fst] at f1 f2; omega
    | .int _, .list _, _, _, f1, f2, _ => simp only [fst] at f1 f2; omega
    | .int _, .tuple _, _, _, f1, f2, _ => simp only [fst] at f1 f2; omega
    | .str _, .int _, _, _, f1, f2, _ => simp only [fst] at f1 f2; omega
    | .str _, .list _, _, _, f1, f2, _ => simp only [fst] at f1 f2; omega
    | .str _, .tuple _, _, _, f1, f2, _ => simp only [fst] at f1 f2; omega
    | .list _, .int _, _, _, f1, f2, _ => simp only [fst] at f1 f2; omega
    | .list _, .str _, _, _, f1, f2, _ => simp only [fst] at f1 f2; omega
    | .list _, .tuple _, _, _, f1, f2, _ => simp only [fst] at f1 f2; omega
    | .tuple _, .int _, _, _, f1, f2, _ => simp only [fst] at f1 f2; omega
    | .tuple _, .str _, _, _, f1, f2, _ => simp only [fst] at f1 f2; omega
    | .tuple _, .list _, _, _, f1, f2, _ => simp only [fst] at f1 f2; omega
theorem pre_split : ∀ (ds es : List PyData) (z : Nat) (r r' : List Nat), (z = 93 ∨ z = 41) → RpAll ds = true → RpAll es = true → pre ((PyData.shownAll ds).map cs) ++ z :: r = pre ((PyData.shownAll es).map cs) ++ z :: r' → ds = es ∧ r = r'
  | [], [], _, _, _, _, _, _, h => ⟨rfl, (List.cons.inj h).2⟩
  | [], e :: es, z, _, _, hz, _, _, h => by
    have := (List.cons.inj h).1
    omega
  | d :: ds, [], z, _, _, hz, _, _, h => by
    have := (List.cons.inj h).1
    omega
  | d :: ds, e :: es, z, r, r', hz, hd, he, h => by
    simp only [RpAll, Bool.and_eq_true] at hd he
    have h : 44 :: 32 :: (cs d.shown ++ pre ((PyData.shownAll ds).map cs)) ++ z :: r = 44 :: 32 :: (cs e.shown ++ pre ((PyData.shownAll es).map cs)) ++ z :: r' := h
    have h := (List.cons.inj (List.cons.inj h).2).2
    rw [List.append_eq, List.append_eq, List.append_assoc, List.append_assoc] at h
    obtain ⟨a, b⟩ := shown_split d e _ _ hd.1 he.1 (nd_pre (by omega)) (nd_pre (by omega)) h
    obtain ⟨a2, b2⟩ := pre_split ds es z r r' hz hd.2 he.2 b
    exact ⟨by rw [a, a2], b2⟩
end
theorem shown_inj {d e : PyData} (hd : Rp d = true) (he : Rp e = true) (h : d.shown = e.shown) : d = e :=
  (shown_split d e [] [] hd he (fun _ _ h => nomatch h) (fun _ _ h => nomatch h) (by rw [h])).1
end HopR

set_option Elab.async false
set_option linter.all false
set_option maxRecDepth 100000
namespace Hop
open PySem L2 HopR
open C8 (InsC call_isC)
theorem str_ext' {s t : Str} (h : s.cps.toList = t.cps.toList) : s = t := by
  cases s; cases t
  exact congrArg Str.mk (Array.toList_inj.mp h)
theorem cps_app (s t : Str) : (s ++ t).cps.toList = s.cps.toList ++ t.cps.toList := by
  show (s.cps ++ t.cps).toList = _
  rw [Array.toList_append]
theorem join_two (a b : Str) : Txt.join ", " [a, b] = a ++ ", " ++ b := rfl
/-- what the law writes of a Walk is its repr -/
theorem due_walk (bs : List Bool) (q r : Rat) : "Walk('" ++ tx bs ++ "', " ++ Txt.join ", " [ptxt q, ptxt r] ++ ")" = wtxt bs q r := by
  have h : (reprText (tx bs)).cps.toList = 39 :: ((tx bs).cps.toList ++ [39]) := cs_repr (sgs_tx bs)
  have e1 : ("Walk('" : Str).cps.toList = ("Walk(" : Str).cps.toList ++ [39] := by decide
  have e2 : ("', " : Str).cps.toList = 39 :: (", " : Str).cps.toList := by decide
  refine str_ext' ?_
  unfold wtxt
  rw [join_two, empty_app]
  simp only [cps_app, h, e1, e2, List.append_assoc, List.cons_append, List.nil_append]
end Hop

set_option Elab.async false
set_option linter.all false
set_option maxRecDepth 100000
namespace Hop
open PySem L2 HopR
open C8 (InsC call_isC)
/-- what a Walk is asked as an object -/
structure SW (K : PySem.W.Frag) (mg : Str → Option Value) (C W wr ws we wo pr pe fg : Addr) (gr gs ge go hp he gg : FuncData) : Prop where
  Fr : Fun K "__repr__" "Walk.__repr__" sWRepr wr gr
  br : Binds K gr ["self"] []
  Mr : PySem.W.findIn K (.ref W) "__repr__" = some (some (.ref wr))
  nr : PySem.W.isFn K (.ref wr) = true
  Fp : Fun K "__repr__" "Part.__repr__" sPRepr pr hp
  bp : Binds K hp ["self"] []
  Mp : PySem.W.findIn K (.ref C) "__repr__" = some (some (.ref pr))
  np : PySem.W.isFn K (.ref pr) = true
  Nf : Fn K mg "figures_of" sFigures ["number"] fg gg
  sc : FmtC K W ws
  Fs : Fun K "__str__" "Walk.__str__" sWStr ws gs
  bs : Binds K gs ["self"] []
  ec : EqC K W we
  Fe : Fun K "__eq__" "Walk.__eq__" sWEq we ge
  be : Binds K ge ["self", "other"] []
  pc : EqC K C pe
  Fq : Fun K "__eq__" "Part.__eq__" sEq pe he
  bq : Binds K he ["self", "other"] []
  Fo : Fun K "row" "Walk.row" sWRow wo go
  bo : Binds K go ["self"] []
  mo : Meth K W "row" wo
  kt : ∀ T : String, T ∈ ["NoneType", "int", "bool", "str", "list"] → PySem.W.subIn K (.type T) (.ref W) = some false ∧ PySem.W.kitOne K (.type T) (.ref W) = some false
/-- nothing that a Walk could be equal to -/
def LoneW (K : PySem.W.Frag) (W : Addr) (H : Hp) (y : V) : Prop := ∃ t, TyX K H y t ∧ PySem.W.notFirst K W t = true ∧ PySem.W.kitOne K t (.ref W) = some false
section
variable {K : PySem.W.Frag} {mg : Str → Option Value} {C W wr ws we wo pr pe fg : Addr} {gr gs ge go hp he gg : FuncData} {H H' : Hp}
theorem SW.no (S : SW K mg C W wr ws we wo pr pe fg gr gs ge go hp he gg) {T : String} (h : T ∈ ["NoneType", "int", "bool", "str", "list"]) : PySem.W.notFirst K W (.type T) = true := by
  unfold PySem.W.notFirst
  rw [(S.kt T h).1]
  simp
theorem SW.lone (S : SW K mg C W wr ws we wo pr pe fg gr gs ge go hp he gg) {T : String} (h : T ∈ ["NoneType", "int", "bool", "str", "list"]) {y : V} (ty : TyX K H y (.type T)) : LoneW K W H y := ⟨_, ty, S.no h, (S.kt _ h).2⟩
theorem LoneW.same (s : Same H H') {y : V} (h : LoneW K W H y) : LoneW K W H' y := let ⟨t, ty, n, k⟩ := h; ⟨t, tyx_same s ty, n, k⟩
end
section
variable {P : Program} {w : World} {K : PySem.W.Frag} {mg : Str → Option Value} {base : Heap} {C W d : Addr} {es : Array DictEntry} {n : Nat}
variable {wr ws we wo pr pe fg lt : Addr} {gr gs ge go hp he gg mt : FuncData}
/-! ### _law_shown -/
def spLShown (C W : Addr) : Sp := fun vs H Q _ => ∃ (v l P t1 t2 : Addr) (bs : List Bool) (st : List (Nat × List Bool)) (q r : Rat), vs = [.ref v, .str (tx bs), .ref P] ∧ WK C W H v l bs st q r ∧ bs.length ≤ 30 ∧ Sz 60 q ∧ Sz 60 r ∧
  H P = some (.lst [.ref t1, .ref t2]) ∧ H t1 = some (.tup (tq q)) ∧ H t2 = some (.tup (tq r)) ∧ ∀ H', Same H H' → Q (.bl true) H'
abbrev nLSh : List Str := ["_law_walk", "_law_row_here", "_law_paces_here", "_law_pace", "_law_due", "_law_other"]
theorem scLSh : FnScope nLSh ["_law_walk", "_law_row_here", "_law_paces_here"] (defScope sLShown) := ⟨rfl, rfl, rfl, by decide +kernel, rfl, by decide +kernel, by decide +kernel⟩
theorem ok_lshown {f : Addr} {fd : FuncData} {k : Nat} (F : Fun K "_law_shown" "_law_shown" sLShown f fd) (Nt : Fn K mg "_law_text" sLText ["_law_one"] lt mt) (S : SW K mg C W wr ws we wo pr pe fg gr gs ge go hp he gg) (T : TxtP K mg C) (TR : TxtR K w mg d es n) (TF : TxtF mg) (TW : TxtW K mg W) (TE : TxtE K mg W) (mR : mg "repr" = none) (mS : mg "str" = none) : FnOkG P w K mg base CX0 (k + 14) f fd ["_law_walk", "_law_row_here", "_law_paces_here"] (spLShown C W) := by
  have Gt : FnOk P w K mg base CX0 (k + 13) lt mt ["_law_one"] spLText := ok_ltext (k := k + 12) Nt.F mS
  have Gr : FnOk P w K mg base CX0 4 wr gr ["self"] (spWRepr C W) := ok_wrepr (k := 0) S.Fr S.Fp S.bp S.Mp S.np S.Nf T TR TF TW
  have Gs : FnOk P w K mg base CX0 1 ws gs ["self"] (spWStr C W) := ok_wstr (k := 0) S.Fs TW
  have Ge : FnOk P w K mg base CX0 2 we ge ["self", "other"] (spWEqA K C W) := ok_weqA (k := 0) S.Fe S.Fq S.bq S.pc T TW TE
  have Go : FnOk P w K mg base CX0 (k + 13) wo go ["self"] (spWRow C W) := ok_wrow (k := k + 12) S.Fo TW
  refine okG F scLSh (fun vs H Q E h => ?_) (fun cdv A outer s H vs Q E hG hr h => ?_)
  · obtain ⟨v, l, P0, t1, t2, bs, st, q, r, rfl, _⟩ := h
    rfl
  · obtain ⟨v, l, P0, t1, t2, bs, st, q, r, rfl, wk, h30, hq, hr2, eP, et1, et2, h⟩ := h
    have nd := scLSh.nd
    refine ⟨_, pss_cons (ps_set (i := 4) nd rfl (.inl rfl) (pe_op op_add_str (pe_op op_add_str (pe_op op_add_str (pe_op op_add_str pe_str (pv 1)) pe_str) (pe_join pe_str (pe_lc (own := [("_law_pace", 3)]) (g := gName 3) (tt := tYes) rfl nd (pi_list (pv 2))
        (blkOk_by (own := [("_law_pace", 3)]) (N := nLSh) (sc := defScope sLShown) (by decide +kernel))
        (fun _ _ _ _ _ => pg_name (i := 3) nd rfl (Or.inl rfl)) (fun _ _ _ _ _ => pts_nil) (fun _ _ _ _ _ => pe_call Gt hr (by rfl) Nt.g Nt.F.kp Nt.b .nil pass0 (pa_cons (pv 3) pa_nil))))) pe_str))
      (pss_cons (ps_if (PW.pt (pw_or (pt_cmpR op_ne (pe_callB (cr_reprOwn S.Mr S.nr Gr (hr.mono (by omega)) S.br pass0) (by rfl) mR (by decide +kernel) (pa_cons (pv 0) pa_nil)) (pv 4) (nomark _))
          (pw_or (pt_cmpR op_ne (pe_callTy (cr_strOwn S.sc.str S.sc.fn Gs (hr.mono (by omega)) S.bs pass0) (by rfl) mS (by decide +kernel) (pa_cons (pv 0) pa_nil)) (pv 1) (nomark _))
          (pw_or (pt_cmpR op_ne (pe_joined1 (pe_fmtS S.sc Gs (hr.mono (by omega)) S.bs pass0 (pv 0))) (pv 1) (nomark _))
          (pw_or1 (pt_cmpR op_ne (pe_callTy (cr_strL (n := 4) hG (hr.mono (by omega))) (by rfl) mS (by decide +kernel) (pa_cons (pe_lst (pa_cons (pv 0) pa_nil)) pa_nil)) (pe_op op_add_str (pe_op op_add_str pe_str (pv 4)) pe_str) (nomark _))))))) (pss_one (ps_ret pe_bl)) pss_nil)
      (pss_cons (ps_for PassesOwn.never rfl (pi_list (pe_lst (pa_cons pe_non (pa_cons pe_int (pa_cons (pv 1) (pa_cons (pv 4) (pa_cons (pe_lst (pa_cons (pv 0) pa_nil)) (pa_cons pe_bl (pa_cons (pe_meth0 (pv 0) TW.cl S.mo Go hr S.bo .nil pass0) pa_nil))))))))) (pg_name (i := 5) nd rfl (.inl rfl))
        (pss_one (ps_if (PW.pt (pw_or (pt_cmpR op_notBl (pe_cmpR (op_eqA S.ec Ge (hr.mono (by omega)) S.be pass0) (pv 0) (pv 5) (nomark _)) pe_bl (nomark _))
          (pw_or1 (pt_cmpR op_notBl (pe_cmpR (op_neA S.ec Ge (hr.mono (by omega)) S.be pass0) (pv 0) (pv 5) (nomark _)) pe_bl (nomark _))))) (pss_one (ps_ret pe_bl)) pss_nil)))
      (pss_one (ps_ret (pe_cmpR op_isBl (pe_cmpR (op_eqA S.ec Ge (hr.mono (by omega)) S.be pass0) (pv 0) (pv 0) (nomark _)) pe_bl (nomark _)))))), ?_⟩
    obtain ⟨dx, i, o, p, ts, e1, e2, e3, e4, e5, e6⟩ := id wk
    have q0 := e4.2.1
    have r0 := e5.2.1
    have l1 := ptxt_len q0 (hq.mono (by decide))
    have l2 := ptxt_len r0 (hr2.mono (by decide))
    have lb : (tx bs).length ≤ 30 := by rw [tx_len]; exact h30
    have sl : sizeLine = 16777216 := by decide
    have x1 : ("Walk('" : Str).length = 6 := by decide
    have x2 : ("', " : Str).length = 3 := by decide
    have x3 : (")" : Str).length = 1 := by decide
    have x4 : (", " : Str).length = 2 := by decide
    refine ⟨.str (tx bs), rfl, _, _, rfl, rfl, by rw [x1, sl]; omega, _, _, rfl, rfl, by simp only [strLen_append, x1, x2, sl]; omega, ⟨_, rfl⟩, .ref P0, rfl, P0, rfl, ⟨_, SqL.of eP⟩, fun D hD => ?_⟩
    refine lc_list (K := K) (a := P0) (xs := [.ref t1, .ref t2]) (fun j H3 => Same H H3 ∧ H3 D = some (.lst (([ptxt q, ptxt r].take j).map V.str))) ⟨same_upd hD, upd_same⟩ (fun j H3 _ h => SqL.of (h.1 _ _ eP)) ?_ ?_
    · rintro j x H3 hx ⟨s3, eD⟩
      match j, hx with
      | 0, hx =>
        obtain rfl := Option.some.inj hx
        exact ⟨rfl, .ref t1, rfl, t1, q, rfl, s3 _ _ et1, q0, hq, _, eD, (by show 0 < sizeLine; decide), same_new hD s3, upd_same⟩
      | 1, hx =>
        obtain rfl := Option.some.inj hx
        exact ⟨rfl, .ref t2, rfl, t2, r, rfl, s3 _ _ et2, r0, hr2, _, eD, (by show 1 < sizeLine; decide), same_new hD s3, upd_same⟩
    · rintro H3 ⟨s3, eD⟩
      have eD : H3 D = some (.lst ([ptxt q, ptxt r].map V.str)) := eD
      refine ⟨", ", D, _, rfl, rfl, .inl (SqL.of eD), by simp only [List.map_cons, List.map_nil, List.sum_cons, List.sum_nil, List.length_cons, List.length_nil, x4]; omega, _, _, rfl, rfl, by rw [join_two]; simp only [strLen_append, x1, x2, x4, sl]; omega, _, _, rfl, rfl, by rw [join_two]; simp only [strLen_append, x1, x2, x3, x4, sl]; omega, ?_⟩
      rw [due_walk]
      have wk3 := WI.same s3 wk
      have ev3 := s3 _ _ e1
      have lw : (wtxt bs q r).length ≤ 200000 := by
        unfold wtxt
        have := rtext_len h30
        have e0 : (Str.empty : Str).length = 0 := by decide
        have x5 : ("Walk(" : Str).length = 5 := by decide
        simp only [strLen_append, e0, x3, x4, x5]
        omega
      refine ⟨.ref v, rfl, v, dx, _, rfl, ev3, v, l, bs, st, q, r, rfl, wk3, h30, fun H4 s4 => ⟨_, rfl, .str (wtxt bs q r), rfl, rfl, _, rfl, ?_⟩⟩
      rw [decide_eq_true rfl]
      have wk4 := WI.same s4 wk3
      have ev4 := s4 _ _ ev3
      refine iteF ⟨.ref v, rfl, v, dx, _, rfl, ev4, v, l, bs, st, q, r, rfl, wk4, h30, _, rfl, .str (tx bs), rfl, rfl, _, rfl, ?_⟩
      rw [decide_eq_true rfl]
      refine iteF ⟨.ref v, rfl, v, dx, _, rfl, ev4, v, l, bs, st, q, r, rfl, wk4, h30, _, rfl, by rw [sl]; omega, .str (tx bs), rfl, rfl, _, rfl, ?_⟩
      rw [decide_eq_true rfl]
      refine iteF ⟨.ref v, rfl, (by show 1 ≤ sizeLine; decide), fun L nL => ?_⟩
      have s5 := same_upd (o := .lst [.ref v]) nL
      have eL : upd H4 L (.lst [.ref v]) L = some (.lst [.ref v]) := upd_same
      generalize upd H4 L (.lst [.ref v]) = H5 at s5 eL
      have wk5 := WI.same s5 wk4
      have ev5 := s5 _ _ ev4
      have s05 := (s3.trans s4).trans s5
      have x6 : ("[" : Str).length = 1 := by decide
      have x7 : ("]" : Str).length = 1 := by decide
      have one : listText [wtxt bs q r] = "[" ++ wtxt bs q r ++ "]" := rfl
      refine ⟨L, .ref v, [], [wtxt bs q r], rfl, eL, rfl, ?_, ?_, fun H6 s6 => ?_⟩
      · intro i y z hy hz
        match i, hy, hz with
        | 0, hy, hz =>
          cases hy
          cases hz
          exact itm_own (k := 4) ev5 S.Mr S.nr Gr (Nat.le_refl _) S.br pass0 (fun H1 sm => ⟨v, l, bs, st, q, r, rfl, WI.same sm wk5, h30, fun H' s' => ⟨rfl, s'⟩⟩)
      · rw [one]
        simp only [strLen_append, x6, x7, sl]
        omega
      rw [one]
      refine ⟨.str (wtxt bs q r), rfl, _, _, rfl, rfl, by simp only [x6, sl]; omega, _, _, rfl, rfl, by simp only [strLen_append, x6, x7, sl]; omega, rfl, _, rfl, ?_⟩
      rw [decide_eq_true rfl]
      have s06 := s05.trans s6
      have wk6 := WI.same s6 wk5
      have ev6 := s6 _ _ ev5
      refine iteF ?_
      refine ⟨.str (tx bs), rfl, .str (wtxt bs q r), rfl, .ref v, rfl, (by show 1 ≤ sizeLine; decide), fun L2 nL2 => ?_⟩
      have s7 := same_upd (o := .lst [.ref v]) nL2
      have eL2 : upd H6 L2 (.lst [.ref v]) L2 = some (.lst [.ref v]) := upd_same
      generalize upd H6 L2 (.lst [.ref v]) = H7 at s7 eL2
      have wk7 := WI.same s7 wk6
      have ev7 := s7 _ _ ev6
      refine ⟨.ref v, rfl, v, dx, _, rfl, ev7, rfl, v, l, bs, st, q, r, rfl, wk7, (by show 7 ≤ sizeLine; decide), fun L3 nL3 => ?_⟩
      generalize hys : [V.non, .int 0, .str (tx bs), .str (wtxt bs q r), .ref L2, .bl true, .str (tx bs)] = ys at nL3
      have s8 := same_upd (o := .lst ys) nL3
      have eL3 : upd H7 L3 (.lst ys) L3 = some (.lst ys) := upd_same
      generalize upd H7 L3 (.lst ys) = H8 at s8 eL3
      have s08 := (s06.trans s7).trans s8
      have wk8 := WI.same s8 wk7
      have ev8 := s8 _ _ ev7
      have all : ∀ y ∈ ys, LoneW K W H8 y := by
        rw [← hys]
        intro y hy
        simp only [List.mem_cons, List.not_mem_nil, or_false] at hy
        rcases hy with rfl | rfl | rfl | rfl | rfl | rfl | rfl
        · exact S.lone (T := "NoneType") (by decide) (.base .non)
        · exact S.lone (T := "int") (by decide) (.base (.int _))
        · exact S.lone (T := "str") (by decide) (.base (.str _))
        · exact S.lone (T := "str") (by decide) (.base (.str _))
        · exact S.lone (T := "list") (by decide) (.base (.lst (s8 _ _ eL2)))
        · exact S.lone (T := "bool") (by decide) (.base (.bl _))
        · exact S.lone (T := "str") (by decide) (.base (.str _))
      refine ⟨L3, rfl, ⟨_, SqL.of eL3⟩, ?_⟩
      refine for_list (K := K) (a := L3) (xs := ys) (fun i σ H9 => ∃ y5, σ = [some (.ref v), some (.str (tx bs)), some (.ref P0), none, some (.str (wtxt bs q r)), y5] ∧ Same H8 H9) ⟨_, rfl, Same.refl _⟩ (fun i σ H9 _ ⟨_, _, h⟩ => SqL.of (h _ _ eL3)) ?_ ?_
      · rintro i y σ H9 hy ⟨y5, rfl, s9⟩
        obtain ⟨t, ty, nf, kt⟩ := (all y (List.mem_of_getElem? hy)).same s9
        have wk9 := WI.same s9 wk8
        have ev9 := s9 _ _ ev8
        refine ⟨.ref v, rfl, y, rfl, v, dx, _, t, rfl, ev9, ty, nf, v, l, bs, st, q, r, y, rfl, wk9, .inr ⟨⟨t, ty, kt⟩, false, rfl, false, false, rfl, rfl, _, rfl, iteF ?_⟩⟩
        refine ⟨.ref v, rfl, y, rfl, v, dx, _, t, rfl, ev9, ty, nf, v, l, bs, st, q, r, y, rfl, wk9, .inr ⟨⟨t, ty, kt⟩, false, rfl, true, true, rfl, rfl, _, rfl, iteF ?_⟩⟩
        exact ⟨_, rfl, s9⟩
      · rintro σ H9 ⟨y5, rfl, s9⟩
        have wk9 := WI.same s9 wk8
        have ev9 := s9 _ _ ev8
        have I := TE.ins
        have ty : TyX K H9 (.ref v) (.ref W) := .base (.ins ev9 I.cl I.ha I.hn I.htk I.hm)
        have nf : PySem.W.notFirst K W (.ref W) = true := by simp [PySem.W.notFirst]
        refine ⟨.ref v, rfl, .ref v, rfl, v, dx, _, .ref W, rfl, ev9, ty, nf, v, l, bs, st, q, r, .ref v, rfl, wk9, .inl ⟨v, l, bs, st, q, r, rfl, wk9, _, rfl, ?_⟩⟩
        rw [decide_eq_true (show bs = bs ∧ q = q ∧ r = r from ⟨rfl, rfl, rfl⟩)]
        exact ⟨true, true, rfl, rfl, h H9 (s08.trans s9)⟩
end
end Hop

set_option Elab.async false
set_option linter.all false
set_option maxRecDepth 100000
namespace Hop
open PySem L2 HopR
/-- a pair of paces, as data -/
def dPc (q r : Rat) : PyData := .list [.tuple [.int q.num, .int ((q.den : Nat) : Int)], .tuple [.int r.num, .int ((r.den : Nat) : Int)]]
theorem rat_eq {q q' : Rat} : q = q' ↔ q.num = q'.num ∧ q.den = q'.den := ⟨fun h => by rw [h]; exact ⟨rfl, rfl⟩, fun h => Rat.ext h.1 h.2⟩
theorem eqv_pc (q r q' r' : Rat) : PyData.eqv (dPc q r) (dPc q' r') = decide (q = q' ∧ r = r') := by
  unfold dPc
  rw [Bool.eq_iff_iff, decide_eq_true_eq, rat_eq, rat_eq]
  simp [PyData.eqv, PyData.eqvAll]
  omega
theorem shaped_pc (q r : Rat) : SeqAt.shaped (dPc q r) = true := by
  unfold SeqAt.shaped dPc
  simp [PyData.canLay0, PyData.canLayAll0, PyData.depth, PyData.depthAll]
theorem dp_pc {K : PySem.W.Frag} {H : Hp} {P t1 t2 : Addr} {q r : Rat} (e : H P = some (.lst [.ref t1, .ref t2])) (e1 : H t1 = some (.tup (tq q))) (e2 : H t2 = some (.tup (tq r))) : Dp K H (.ref P) (dPc q r) :=
  .lst (SqL.of e) (.cons (.tup (SqT.of e1) (.cons (.int _) (.cons (.int _) .nil))) (.cons (.tup (SqT.of e2) (.cons (.int _) (.cons (.int _) .nil))) .nil))
end Hop

set_option Elab.async false
set_option linter.all false
set_option maxRecDepth 100000
set_option exponentiation.threshold 200000
namespace Hop
open PySem L2 HopR
open C8 (InsC call_isC)
theorem row_chg {bs : List Bool} {k : Nat} (h : Row bs) (hk : k ∈ walls bs) : Row (chg bs k) := by
  unfold Row
  rw [chg_len (mem_walls.mp hk).1]
  exact h
theorem sz_fold {q r : Rat} (q0 : 0 < q) (r0 : 0 < r) (zq : Sz 45 q) (zr : Sz 5 r) : ∀ (st : List (Nat × List Bool)) (y : Rat) (n : Nat), (∀ kb ∈ st, Row kb.2) → Sz n y → Sz (n + 110 * st.length) (st.foldl (fun y kb => y * ch kb.2 q r kb.1) y)
  | [], y, n, _, z => z
  | kb :: st, y, n, h, z => by
    have h1 := sz_mul z (sz_ch (k := kb.1) (h kb (List.mem_cons_self ..)) q0 r0 zq zr (by decide) (by decide))
    have h2 := sz_fold q0 r0 zq zr st _ _ (fun k hk => h k (List.mem_cons_of_mem _ hk)) h1
    exact h2.mono (by rw [List.length_cons]; omega)
theorem one_sz {n : Nat} (h : 1 ≤ n) : Sz n (1 : Rat) := Sz.mono (n := 1) ⟨by decide, by decide⟩ h
theorem ch_above {bs : List Bool} {q r : Rat} {k : Nat} (q0 : 0 < q) (r0 : 0 < r) (h : k ∈ walls bs) : 0 < ch bs q r k := by
  unfold ch
  rw [if_pos h, Rat.div_def]
  exact Rat.mul_pos (paceAt_ok q0 r0) (Rat.inv_pos.mpr (tot_pos q0 r0))
theorem fold_above {q r : Rat} (q0 : 0 < q) (r0 : 0 < r) : ∀ (st : List (Nat × List Bool)) (y : Rat), (∀ kb ∈ st, kb.1 ∈ walls kb.2) → 0 < y → 0 < st.foldl (fun y kb => y * ch kb.2 q r kb.1) y
  | [], y, _, h => h
  | kb :: st, y, hk, h => fold_above q0 r0 st _ (fun k hk' => hk k (List.mem_cons_of_mem _ hk')) (Rat.mul_pos h (ch_above q0 r0 (hk kb (List.mem_cons_self ..))))
/-! ### the rows of a walk, by its walls -/
def fin (b : List Bool) (ks : List Nat) : List Bool := ks.foldl chg b
def path : List Bool → List Nat → List (Nat × List Bool)
  | _, [] => []
  | b, k :: ks => (k, b) :: path (chg b k) ks
theorem fin_snoc (b : List Bool) (ks : List Nat) (k : Nat) : fin b (ks ++ [k]) = chg (fin b ks) k := by
  unfold fin
  rw [List.foldl_append]
  rfl
theorem path_snoc : ∀ (ks : List Nat) (b : List Bool) (k : Nat), path b (ks ++ [k]) = path b ks ++ [(k, fin b ks)]
  | [], b, k => rfl
  | a :: r, b, k => by
    show (a, b) :: path (chg b a) (r ++ [k]) = _
    rw [path_snoc r]
    rfl
theorem path_len : ∀ (ks : List Nat) (b : List Bool), (path b ks).length = ks.length
  | [], b => rfl
  | a :: r, b => by
    show (path (chg b a) r).length + 1 = r.length + 1
    rw [path_len r]
theorem path_wls : ∀ (ks : List Nat) (b : List Bool), wls (path b ks) = ks
  | [], b => rfl
  | a :: r, b => by
    show a :: wls (path (chg b a) r) = a :: r
    rw [path_wls r]
/-- each wall is open when its turn comes -/
def Good (b : List Bool) (ks : List Nat) : Prop := ∀ (j k : Nat), ks[j]? = some k → k ∈ walls (fin b (ks.take j))
theorem good_take {b : List Bool} {ks : List Nat} (g : Good b ks) (j : Nat) : Good b (ks.take j) := by
  intro i k e
  have hi : i < j := by
    have := (List.getElem?_eq_some_iff.mp e).1
    rw [List.length_take] at this
    omega
  rw [List.getElem?_take_of_lt hi] at e
  have h := g i k e
  rw [List.take_take, Nat.min_eq_left (Nat.le_of_lt hi)]
  exact h
theorem good_snoc {b : List Bool} {ks : List Nat} {k : Nat} (g : Good b ks) (h : k ∈ walls (fin b ks)) : Good b (ks ++ [k]) := by
  intro j m e
  by_cases hj : j < ks.length
  · rw [List.getElem?_append_left hj] at e
    rw [List.take_append_of_le_length (Nat.le_of_lt hj)]
    exact g j m e
  · rw [List.getElem?_append_right (by omega)] at e
    have hj0 : j - ks.length = 0 := by
      have := (List.getElem?_eq_some_iff.mp e).1
      have : j - ks.length < 1 := this
      omega
    rw [hj0] at e
    have : k = m := Option.some.inj e
    subst this
    rw [show j = ks.length by omega, List.take_append_of_le_length (Nat.le_refl _), List.take_length]
    exact h
theorem good_fin {b : List Bool} (hb : Row b) : ∀ (n : Nat) (ks : List Nat), ks.length = n → Good b ks → Row (fin b ks) ∧ (fin b ks).length = b.length
  | 0, ks, hl, _ => by
    rw [List.length_eq_zero_iff] at hl
    subst hl
    exact ⟨hb, rfl⟩
  | n + 1, ks, hl, g => by
    have hne : ks ≠ [] := fun z => by rw [z] at hl; cases hl
    obtain ⟨r, k, rfl⟩ : ∃ r k, ks = r ++ [k] := ⟨ks.dropLast, ks.getLast hne, (List.dropLast_concat_getLast hne).symm⟩
    have hlr : r.length = n := by
      rw [List.length_append] at hl
      have hl : r.length + 1 = n + 1 := hl
      omega
    have gr : Good b r := by
      have := good_take g r.length
      rwa [List.take_append_of_le_length (Nat.le_refl _), List.take_length] at this
    obtain ⟨i1, i2⟩ := good_fin hb n r hlr gr
    have hk : k ∈ walls (fin b r) := by
      have := g r.length k (by rw [List.getElem?_append_right (Nat.le_refl _), Nat.sub_self]; rfl)
      rwa [List.take_append_of_le_length (Nat.le_refl _), List.take_length] at this
    rw [fin_snoc]
    exact ⟨row_chg i1 hk, by rw [chg_len (mem_walls.mp hk).1]; exact i2⟩
theorem path_all {b : List Bool} (hb : Row b) : ∀ (n : Nat) (ks : List Nat), ks.length = n → Good b ks → ∀ kb ∈ path b ks, Row kb.2 ∧ kb.1 ∈ walls kb.2 ∧ kb.2.length = b.length
  | 0, ks, hl, _ => by
    rw [List.length_eq_zero_iff] at hl
    subst hl
    intro kb h
    cases h
  | n + 1, ks, hl, g => by
    have hne : ks ≠ [] := fun z => by rw [z] at hl; cases hl
    obtain ⟨r, k, rfl⟩ : ∃ r k, ks = r ++ [k] := ⟨ks.dropLast, ks.getLast hne, (List.dropLast_concat_getLast hne).symm⟩
    have hlr : r.length = n := by
      rw [List.length_append] at hl
      have hl : r.length + 1 = n + 1 := hl
      omega
    have gr : Good b r := by
      have := good_take g r.length
      rwa [List.take_append_of_le_length (Nat.le_refl _), List.take_length] at this
    have hk : k ∈ walls (fin b r) := by
      have := g r.length k (by rw [List.getElem?_append_right (Nat.le_refl _), Nat.sub_self]; rfl)
      rwa [List.take_append_of_le_length (Nat.le_refl _), List.take_length] at this
    obtain ⟨i1, i2⟩ := good_fin hb n r hlr gr
    intro kb h
    rw [path_snoc] at h
    rcases List.mem_append.mp h with h | h
    · exact path_all hb n r hlr gr kb h
    · rw [List.mem_singleton.mp h]
      exact ⟨i1, hk, i2⟩
theorem sz_path {b : List Bool} {ks : List Nat} {q r : Rat} {n : Nat} (hb : Row b) (g : Good b ks) (q0 : 0 < q) (r0 : 0 < r) (zq : Sz 45 q) (zr : Sz 5 r) (hn : 1 + 110 * ks.length ≤ n) : Sz n (prd q r (path b ks)) :=
  (sz_fold q0 r0 zq zr (path b ks) 1 1 (fun kb hk => (path_all hb _ ks rfl g kb hk).1) (one_sz (Nat.le_refl _))).mono (by rw [path_len]; exact hn)
theorem above_path {b : List Bool} {ks : List Nat} {q r : Rat} (hb : Row b) (g : Good b ks) (q0 : 0 < q) (r0 : 0 < r) : 0 < prd q r (path b ks) :=
  fold_above q0 r0 _ _ (fun kb hk => (path_all hb _ ks rfl g kb hk).2.1) (by decide)
theorem low_path {b : List Bool} {ks : List Nat} (hb : Row b) (g : Good b ks) : ∀ kb ∈ path b ks, kb.1 ≤ 30 := fun kb hk => by
  obtain ⟨h1, h2, h3⟩ := path_all hb _ ks rfl g kb hk
  have := (mem_walls.mp h2).1
  have := h1.2
  omega
/-! ### another Walk's deed -/
theorem PA.far {C W : Addr} {H H' : Hp} {a v l dx : Addr} {fs : List (Str × V)} {xs : List V} {q : Rat} (cw : C ≠ W) (k : Keeps v l H H') (ev : H v = some (.ins W dx fs)) (el : H l = some (.lst xs)) (h : PA C H a q) : PA C H' a q := by
  obtain ⟨da, e⟩ := h
  refine ⟨da, k _ _ (fun z => ?_) (fun z => ?_) e⟩
  · rw [z, ev] at e
    cases e
    exact cw rfl
  · rw [z, el] at e
    cases e
theorem WI.far {C W : Addr} {H H' : Hp} {v l v2 l2 dx : Addr} {fs : List (Str × V)} {xs : List V} {bs : List Bool} {st : List (Nat × List Bool)} {q r y : Rat} (cw : C ≠ W) (k : Keeps v2 l2 H H') (ev : H v2 = some (.ins W dx fs)) (el : H l2 = some (.lst xs)) (nv : v ≠ v2) (nl : l ≠ l2)
    (h : WI C W H v l bs st q r y) : WI C W H' v l bs st q r y := by
  obtain ⟨d, i, o, p, ts, e1, e2, e3, e4, e5, e6⟩ := h
  refine ⟨d, i, o, p, ts, k _ _ nv (fun z => by rw [z, el] at e1; cases e1) e1, k _ _ (fun z => by rw [z, ev] at e2; cases e2) nl e2, e3.mono fun t xs' e => k _ _ (fun z => by rw [z, ev] at e; cases e) (fun z => by rw [z, el] at e; cases e) e, ⟨e4.1.far cw k ev el, e4.2⟩, ⟨e5.1.far cw k ev el, e5.2⟩, e6.far cw k ev el⟩

/-! ### a walk of the law -/
/-- the rows told, from the first one on -/
def rws (b0 : List Bool) (ks : List Nat) : List (List Bool) := (path b0 ks).map Prod.snd ++ [fin b0 ks]
theorem rws_nil (b0 : List Bool) : rws b0 [] = [b0] := rfl
theorem rws_len (b0 : List Bool) (ks : List Nat) : (rws b0 ks).length = ks.length + 1 := by
  unfold rws
  rw [List.length_append, List.length_map, path_len]
  rfl
theorem rws_snoc (b0 : List Bool) (ks : List Nat) (k : Nat) : rws b0 (ks ++ [k]) = rws b0 ks ++ [chg (fin b0 ks) k] := by
  unfold rws
  rw [path_snoc, fin_snoc, List.map_append]
  rfl
theorem rws_cons (b0 : List Bool) (k : Nat) (ks : List Nat) : rws b0 (k :: ks) = b0 :: rws (chg b0 k) ks := rfl
def tv (b : List Bool) : V := .str (tx b)
def dtv (b : List Bool) : PyData := .str (tx b)
/-- what stays of a walk of the law: where it, its steps, its told rows and its paces are, the first row, the paces -/
structure Wt where
  (v l kr P t1 t2 : Addr)
  b0 : List Bool
  (q r : Rat)
structure Hg (C W : Addr) (H : Hp) (x : Wt) (ks : List Nat) (rs : List (List Bool)) : Prop where
  wk : WK C W H x.v x.l (fin x.b0 ks) (path x.b0 ks) x.q x.r
  kr : H x.kr = some (.lst (rs.map tv))
  P : H x.P = some (.lst [.ref x.t1, .ref x.t2])
  t1 : H x.t1 = some (.tup (tq x.q))
  t2 : H x.t2 = some (.tup (tq x.r))
  g : Good x.b0 ks
  nl : x.l ≠ x.kr
  nP : x.P ≠ x.l ∧ x.P ≠ x.kr
abbrev Hd (C W : Addr) (H : Hp) (x : Wt) (ks : List Nat) : Prop := Hg C W H x ks (rws x.b0 ks)
/-- what holds of a walk of the law whatever was done -/
structure Wo (x : Wt) : Prop where
  R : Row x.b0
  q0 : 0 < x.q
  r0 : 0 < x.r
  zq : Sz 45 x.q
  zr : Sz 5 x.r
section
variable {C W : Addr} {H H' : Hp} {x y : Wt} {ks kz : List Nat} {rs rz : List (List Bool)}
theorem Hg.same (s : Same H H') (h : Hg C W H x ks rs) : Hg C W H' x ks rs := ⟨h.wk.same s, s _ _ h.kr, s _ _ h.P, s _ _ h.t1, s _ _ h.t2, h.g, h.nl, h.nP⟩
/-- a list that is none of the walk's put anew -/
theorem Hg.put {L : Addr} {xs : List V} {o : HO} (h : Hg C W H x ks rs) (e : H L = some (.lst xs)) (n1 : L ≠ x.l) (n2 : L ≠ x.kr) (n3 : L ≠ x.P) : Hg C W (upd H L o) x ks rs := by
  obtain ⟨dx, i, p, p', ts, e1, e2, e3, e4, e5, e6⟩ := h.wk
  refine ⟨⟨dx, i, p, p', ts, ?_, ?_, e3.mono fun t ys e' => ?_, e4.upd (pa_ne_l e4.1 e), e5.upd (pa_ne_l e5.1 e), e6.upd (pa_ne_l e6 e)⟩, ?_, ?_, ?_, ?_, h.g, h.nl, h.nP⟩
  · rw [upd_ne (ne_lst_ins e e1).symm]
    exact e1
  · rw [upd_ne n1.symm]
    exact e2
  · rw [upd_ne (ne_tup_lst e' e)]
    exact e'
  · rw [upd_ne n2.symm]
    exact h.kr
  · rw [upd_ne n3.symm]
    exact h.P
  · rw [upd_ne (ne_tup_lst h.t1 e)]
    exact h.t1
  · rw [upd_ne (ne_tup_lst h.t2 e)]
    exact h.t2
/-- all but a walk's own stays -/
def But (x : Wt) (H H' : Hp) : Prop := ∀ a o, a ≠ x.v → a ≠ x.l → a ≠ x.kr → H a = some o → H' a = some o
theorem But.of_same (s : Same H H') : But x H H' := fun a o _ _ _ e => s a o e
theorem But.trans {H1 : Hp} (a : But x H H1) (b : But x H1 H') : But x H H' := fun c o n1 n2 n3 e => b c o n1 n2 n3 (a c o n1 n2 n3 e)
theorem But.of_keeps (k : Keeps x.v x.l H H') : But x H H' := fun a o n1 n2 _ e => k a o n1 n2 e
/-- the told rows put anew -/
theorem Hg.told (h : Hg C W H x ks rs) : Hg C W (upd H x.kr (.lst (rz.map tv))) x ks rz := by
  have e := h.kr
  obtain ⟨dx, i, p, p', ts, e1, e2, e3, e4, e5, e6⟩ := h.wk
  refine ⟨⟨dx, i, p, p', ts, ?_, ?_, e3.mono fun t ys e' => ?_, e4.upd (pa_ne_l e4.1 e), e5.upd (pa_ne_l e5.1 e), e6.upd (pa_ne_l e6 e)⟩, upd_same, ?_, ?_, ?_, h.g, h.nl, h.nP⟩
  · rw [upd_ne (ne_lst_ins e e1).symm]
    exact e1
  · rw [upd_ne h.nl]
    exact e2
  · rw [upd_ne (ne_tup_lst e' e)]
    exact e'
  · rw [upd_ne h.nP.2]
    exact h.P
  · rw [upd_ne (ne_tup_lst h.t1 e)]
    exact h.t1
  · rw [upd_ne (ne_tup_lst h.t2 e)]
    exact h.t2
theorem But.kr {o : HO} : But x H (upd H x.kr o) := fun a u _ _ n3 e => by rw [upd_ne n3]; exact e
/-- two walks of the law that share no list -/
structure Apt (x y : Wt) : Prop where
  a : x.l ≠ y.l
  b : x.l ≠ y.kr
  c : x.kr ≠ y.l
  d : x.kr ≠ y.kr
  e : x.P ≠ y.l
  f : x.P ≠ y.kr
  g : y.P ≠ x.l
  h : y.P ≠ x.kr
theorem Apt.symm (h : Apt x y) : Apt y x := ⟨h.a.symm, h.c.symm, h.b.symm, h.d.symm, h.g, h.h, h.e, h.f⟩
theorem Hg.v_of {y : Wt} (h : Hg C W H x ks rs) (h' : Hg C W H y kz rz) (e : x.v = y.v) : x.l = y.l := by
  obtain ⟨dx, i, p, p', ts, e1, _⟩ := h.wk
  obtain ⟨dx', i', q, q', ts', e1', _⟩ := h'.wk
  rw [e, e1'] at e1
  injection e1 with e1
  injection e1 with _ _ e1
  have := congrArg (fun f => List.lookup ("steps" : Str) f) e1
  have : some (V.ref y.l) = some (V.ref x.l) := this
  injection this with this
  injection this with this
  exact this.symm
theorem Hg.far (cw : C ≠ W) (k : But y H H') (hy : Hg C W H y kz rz) (h : Hg C W H x ks rs) (n : Apt x y) : Hg C W H' x ks rs := by
  have nv : x.v ≠ y.v := fun z => n.a (h.v_of hy z)
  obtain ⟨dy, _, _, _, ty, ey1, ey2, _⟩ := hy.wk
  have pa : ∀ {a : Addr} {q : Rat}, PA C H a q → PA C H' a q := fun {a q} ⟨da, e⟩ => ⟨da, k _ _ (fun z => by rw [z, ey1] at e; cases e) (fun z => by rw [z, ey2] at e; cases e) (fun z => by rw [z, hy.kr] at e; cases e) e⟩
  have tu : ∀ {a : Addr} {xs : List V}, H a = some (.tup xs) → H' a = some (.tup xs) := fun {a xs} e => k _ _ (fun z => by rw [z, ey1] at e; cases e) (fun z => by rw [z, ey2] at e; cases e) (fun z => by rw [z, hy.kr] at e; cases e) e
  obtain ⟨dx, i, p, p', ts, e1, e2, e3, e4, e5, e6⟩ := h.wk
  refine ⟨⟨dx, i, p, p', ts, k _ _ nv (ne_lst_ins ey2 e1).symm (ne_lst_ins hy.kr e1).symm e1, k _ _ (ne_lst_ins e2 ey1) n.a n.b e2, e3.mono fun t xs e => tu e, ⟨pa e4.1, e4.2⟩, ⟨pa e5.1, e5.2⟩, pa e6⟩, k _ _ (ne_lst_ins h.kr ey1) n.c n.d h.kr, k _ _ (ne_lst_ins h.P ey1) n.e n.f h.P, tu h.t1, tu h.t2, h.g, h.nl, h.nP⟩
/-- the walk's own deed -/
theorem Hg.next (cw : C ≠ W) (k : Keeps x.v x.l H H') (h : Hg C W H x ks rs) (wk : WK C W H' x.v x.l (fin x.b0 kz) (path x.b0 kz) x.q x.r) (g : Good x.b0 kz) : Hg C W H' x kz rs := by
  obtain ⟨dx, i, p, p', ts, e1, e2, e3, e4, e5, e6⟩ := h.wk
  exact ⟨wk, k _ _ (ne_lst_ins h.kr e1) h.nl.symm h.kr, k _ _ (ne_lst_ins h.P e1) h.nP.1 h.P, k _ _ (ne_tup_ins h.t1 e1) (ne_tup_lst h.t1 e2) h.t1, k _ _ (ne_tup_ins h.t2 e1) (ne_tup_lst h.t2 e2) h.t2, g, h.nl, h.nP⟩
end
end Hop

set_option Elab.async false
set_option linter.all false
set_option maxRecDepth 100000
namespace Hop
open PySem L2 HopR
open C8 (InsC call_isC)
theorem last_some {α : Type} (xs : List α) (a : α) : (xs ++ [a])[(xs ++ [a]).length - 1]? = some a := by
  rw [List.length_append, show xs.length + [a].length - 1 = xs.length from rfl, List.getElem?_append_right (Nat.le_refl _), Nat.sub_self]
  rfl
theorem last_tv (xs : List (List Bool)) (b : List Bool) : atI ((xs ++ [b]).map tv) (-1) = some (tv b) := by
  rw [List.map_append]
  exact atI_last _ _
theorem rws_last (b0 : List Bool) (ks : List Nat) : ∃ xs, rws b0 ks = xs ++ [fin b0 ks] := ⟨_, rfl⟩
theorem at_rws (b0 : List Bool) (ks : List Nat) : atI ((rws b0 ks).map tv) (-1) = some (tv (fin b0 ks)) := by
  obtain ⟨xs, e⟩ := rws_last b0 ks
  rw [e]
  exact last_tv _ _
section
variable {P : Program} {w : World} {K : PySem.W.Frag} {mg : Str → Option Value} {base : Heap} {C W d : Addr} {es : Array DictEntry} {n : Nat}
variable {HE NL fI : Addr} {gI : FuncData}
variable {fi f1 f2 r1 r2 r3 r4 r6 p1 p2 p3 p4 fp ft fo fz fc : Addr} {gi g1 g2 s1 s2 s3 s4 s6 q1 q2 q3 q4 gp gt go gz gc : FuncData} {d1 : Value}
variable {ms mu la lb : Addr} {hs' hu' ga' gb' : FuncData}
/-! ### _law_deed -/
def spLDeed (K : PySem.W.Frag) (C W : Addr) : Sp := fun vs H Q _ => ∃ (x : Wt) (ks : List Nat) (pd : Addr) (d0 d1 d2 d3 : Int), vs = [.ref x.v, .ref x.kr, .ref pd] ∧ Hd C W H x ks ∧ Wo x ∧ ks.length ≤ 50 ∧ SqL K H pd [.int d0, .int d1, .int d2, .int d3] ∧
  ∀ H' kz, But x H H' → Hd C W H' x kz → kz.length ≤ ks.length + 1 → Q (.bl true) H'
abbrev nLDeed : List Str := ["_law_walk", "_law_rows", "_law_draws", "_law_some", "_law_shut"]
theorem scLDeed : FnScope nLDeed ["_law_walk", "_law_rows", "_law_draws"] (defScope sLDeed) := ⟨rfl, rfl, rfl, by decide +kernel, rfl, by decide +kernel, by decide +kernel⟩
theorem ok_ldeed {f : Addr} {fd : FuncData} {k : Nat} (F : Fun K "_law_deed" "_law_deed" sLDeed f fd) (Na : Fn K mg "_law_open" sOpen ["_law_row_here"] la ga') (Nb : Fn K mg "_law_behind" sBehind ["_law_row_here", "_law_shut"] lb gb')
    (Fs : Fun K "step" "Walk.step" sStep ms hs') (bs' : Binds K hs' ["self", "wall"] []) (Ms : Meth K W "step" ms) (Fu : Fun K "undo" "Walk.undo" sUndo mu hu') (bu : Binds K hu' ["self"] []) (Mu : Meth K W "undo" mu)
    (Fc : Fun K "chance" "Walk.chance" sChance fc gc) (bc : Binds K gc ["self", "wall"] []) (mc : Meth K W "chance" fc) (cw : C ≠ W)
    (D : WDefs K mg C fi f1 f2 r1 r2 r3 r4 r6 p1 p2 p3 p4 fp ft fo fz gi g1 g2 s1 s2 s3 s4 s6 q1 q2 q3 q4 gp gt go gz d1) (T : TxtP K mg C) (TR : TxtR K w mg d es n) (TW : TxtW K mg W) (Z : Er K mg HE NL fI gI) : FnOk P w K mg base CX0 (k + 11) f fd ["_law_walk", "_law_rows", "_law_draws"] (spLDeed K C W) := by
  have Gs : FnOk P w K mg base CX0 (k + 10) ms hs' ["self", "wall"] (spStep C W) := ok_step Fs Fc bc mc cw D T TR TW Z
  have Gu : FnOk P w K mg base CX0 (k + 10) mu hu' ["self"] (spUndo C W) := ok_undo Fu Fc bc mc cw D T TR TW Z
  have Go : FnOk P w K mg base CX0 (k + 10) la ga' ["_law_row_here"] spWalls := ok_open Na.F TR
  have Gb : FnOk P w K mg base CX0 (k + 10) lb gb' ["_law_row_here", "_law_shut"] spBehind := ok_behind Nb.F TR
  refine F.ok scLDeed (fun vs H Q E h => ?_) (fun cdv A outer s H vs Q E hr h => ?_)
  · obtain ⟨x, ks, pd, d0, d1, d2, d3, rfl, _⟩ := h
    rfl
  · obtain ⟨x, ks, pd, d0, d1, d2, d3, rfl, hd, hw, hk, hS, h⟩ := h
    have nd := scLDeed.nd
    refine ⟨_, pss_cons (ps_if (PW.pt (pw_and (pt_cmpR op_eq (pe_ix ix_list (pv 2) pe_int (fun _ _ => rfl)) pe_int (nomark _)) (pw_and1 (pt_cmpR op_gt (pe_callB call_len_seq (by rfl) T.len PySem.boot_len (pa_cons (pv 1) pa_nil)) pe_int (nomark _)))))
        (pss_cons (ps_expr (pe_bm0 PySem.F.plainAttrs_list PySem.F.slot_list_pop PySem.F.type_list_pop mt_pop (pv 1)))
          (pss_one (ps_ret (pe_cmpR op_eq (pe_meth0 (pv 0) TW.cl Mu Gu hr bu .nil pass0) (pe_ix ix_list (pv 1) (pe_un un_neg pe_int) (fun _ _ => rfl)) (nomark _))))) pss_nil)
      (pss_cons (ps_set (i := 3) nd rfl (.inl rfl) (pe_call Go hr (by rfl) Na.g Na.F.kp Na.b .nil pass0 (pa_cons (pe_ix ix_list (pv 1) (pe_un un_neg pe_int) (fun _ _ => rfl)) pa_nil)))
      (pss_cons (ps_set (i := 4) nd rfl (.inl rfl) (pe_ix ix_list (pv 3) (pe_op op_mod (pe_ix ix_list (pv 2) pe_int (fun _ _ => rfl)) (pe_callB call_len_seq (by rfl) T.len PySem.boot_len (pa_cons (pv 3) pa_nil))) (fun _ _ => rfl)))
      (pss_cons (ps_expr (pe_bm PySem.F.plainAttrs_list PySem.F.slot_list_append PySem.F.type_list_append mt_append (pv 1) (pa_cons (pe_call Gb hr (by rfl) Nb.g Nb.F.kp Nb.b .nil pass0 (pa_cons (pe_ix ix_list (pv 1) (pe_un un_neg pe_int) (fun _ _ => rfl)) (pa_cons (pv 4) pa_nil))) pa_nil)))
      (pss_one (ps_ret (pe_cmpR op_eq (pe_meth (pv 0) TW.cl Ms Gs hr bs' .nil pass0 (pa_cons (pv 4) pa_nil)) (pe_ix ix_list (pv 1) (pe_un un_neg pe_int) (fun _ _ => rfl)) (nomark _))))))), ?_⟩
    obtain ⟨hR, hl⟩ := good_fin hw.R _ ks rfl hd.g
    have zp : Sz 90000 (prd x.q x.r (path x.b0 ks)) := sz_path hw.R hd.g hw.q0 hw.r0 hw.zq hw.zr (by omega)
    dsimp only [gName, tSeq, tIfS]
    refine and_told (a := decide (d1 = 0)) (b := decide (ks ≠ [])) (fun R rr => ?_) (fun _ R rr => ?_) ?_
    · refine ⟨.ref pd, rfl, pd, _, 1, .int d1, rfl, rfl, hS, rfl, rfl, _, rfl, ?_⟩
      have e : decide (V.int d1 = V.int 0) = decide (d1 = 0) := by
        by_cases h : d1 = 0
        · rw [h]
          rfl
        · rw [decide_eq_false h, decide_eq_false fun z => h (V.int.inj z)]
      rw [e]
      exact rr
    · refine ⟨.ref x.kr, rfl, x.kr, _, rfl, .inl (SqL.of hd.kr), _, _, rfl, rfl, _, rfl, ?_⟩
      have e : decide ((1 : Int) < ((((rws x.b0 ks).map tv).length : Nat) : Int)) = decide (ks ≠ []) := by
        rw [List.length_map, rws_len]
        cases ks with
        | nil => rfl
        | cons a b =>
          rw [decide_eq_true (show (a :: b) ≠ [] by simp)]
          refine decide_eq_true ?_
          rw [List.length_cons]
          omega
      rw [e]
      exact rr
    by_cases hways : (decide (d1 = 0) && decide (ks ≠ [])) = true
    · rw [hways]
      have hne : ks ≠ [] := of_decide_eq_true (Bool.and_eq_true_iff.mp hways).2
      obtain ⟨kz, k1, rfl⟩ : ∃ kz k1, ks = kz ++ [k1] := ⟨ks.dropLast, ks.getLast hne, (List.dropLast_concat_getLast hne).symm⟩
      have gz : Good x.b0 kz := by
        have := good_take hd.g kz.length
        rwa [List.take_append_of_le_length (Nat.le_refl _), List.take_length] at this
      obtain ⟨hRz, _⟩ := good_fin hw.R _ kz rfl gz
      have hk1 : k1 ∈ walls (fin x.b0 kz) := by
        have := hd.g kz.length k1 (by rw [List.getElem?_append_right (Nat.le_refl _), Nat.sub_self]; rfl)
        rwa [List.take_append_of_le_length (Nat.le_refl _), List.take_length] at this
      have er : (rws x.b0 (kz ++ [k1])).map tv = (rws x.b0 kz).map tv ++ [tv (chg (fin x.b0 kz) k1)] := by
        rw [rws_snoc, List.map_append]
        rfl
      have ekr := hd.kr
      rw [er] at ekr
      refine iteT ⟨.ref x.kr, rfl, .inl ⟨rfl, _, SqL.of ekr⟩, x.kr, _, _, rfl, rfl, ekr, last_some _ _, ?_⟩
      rw [List.dropLast_concat]
      have h1 : Hg C W (upd H x.kr (.lst ((rws x.b0 kz).map tv))) x (kz ++ [k1]) (rws x.b0 kz) := hd.told
      have b1 : But x H (upd H x.kr (.lst ((rws x.b0 kz).map tv))) := But.kr
      generalize upd H x.kr (.lst ((rws x.b0 kz).map tv)) = H1 at h1 b1
      obtain ⟨dx, _, _, _, _, e1, _⟩ := id h1.wk
      refine ⟨.ref x.v, rfl, x.v, dx, _, rfl, e1, wf_no_undo, x.v, x.l, _, fin x.b0 kz, path x.b0 kz, x.q, x.r, k1, rfl, by rw [← path_snoc]; exact h1.wk, hRz, hk1, by rw [← path_snoc]; exact zp, fun H2 k2 wk2 => ?_⟩
      have h2 := h1.next cw k2 wk2 gz
      refine ⟨.ref x.kr, rfl, 1, rfl, x.kr, _, -1, _, rfl, rfl, SqL.of h2.kr, at_rws _ _, rfl, ?_⟩
      rw [decide_eq_true (show V.str (tx (fin x.b0 kz)) = tv (fin x.b0 kz) from rfl)]
      exact h H2 kz (b1.trans (But.of_keeps k2)) h2 (by rw [List.length_append]; omega)
    · have hno : (decide (d1 = 0) && decide (ks ≠ [])) = false := Bool.eq_false_iff.mpr hways
      rw [hno]
      refine iteF ⟨.ref x.kr, rfl, 1, rfl, x.kr, _, -1, _, rfl, rfl, SqL.of hd.kr, at_rws _ _, fin x.b0 ks, rfl, hR, fun H1 pw sw nw ew => ?_⟩
      have hd1 := hd.same sw
      have hS1 := sw.seq hS
      have hwn : 0 < (walls (fin x.b0 ks)).length := walls_one _
      obtain ⟨j, hj⟩ : ∃ j : Nat, d2 % ((walls (fin x.b0 ks)).length : Int) = (j : Int) := ⟨(d2 % ((walls (fin x.b0 ks)).length : Int)).toNat, by have := Int.emod_nonneg d2 (show ((walls (fin x.b0 ks)).length : Int) ≠ 0 by omega); omega⟩
      have hjl : j < (walls (fin x.b0 ks)).length := by
        have := Int.emod_lt_of_pos d2 (show (0 : Int) < ((walls (fin x.b0 ks)).length : Int) by omega)
        omega
      obtain ⟨k0, hk⟩ : ∃ k0, (walls (fin x.b0 ks))[j] = k0 := ⟨_, rfl⟩
      have hk0 : k0 ∈ walls (fin x.b0 ks) := by
        rw [← hk]
        exact List.getElem_mem hjl
      have gk : atI ((walls (fin x.b0 ks)).map wv) (j : Int) = some (wv k0) := atI_nat (by rw [List.getElem?_map, List.getElem?_eq_getElem hjl, hk]; rfl)
      refine ⟨.ref pw, rfl, .ref pd, rfl, pd, _, 2, .int d2, rfl, rfl, hS1, rfl, .ref pw, rfl, pw, _, rfl, .inl (SqL.of ew), d2, _, rfl, rfl, ?_, pw, _, _, wv k0, rfl, rfl, SqL.of ew, ?_, ?_⟩
      · rw [List.length_map]
        omega
      · rw [List.length_map, hj]
        exact gk
      refine ⟨.ref x.kr, rfl, .inl ⟨rfl, _, SqL.of hd1.kr⟩, .ref x.kr, rfl, 1, rfl, x.kr, _, -1, _, rfl, rfl, SqL.of hd1.kr, at_rws _ _, wv k0, rfl, fin x.b0 ks, k0, rfl, hR, (mem_walls.mp hk0).1, fun H2 s2 => ?_⟩
      have hd2 := hd1.same s2
      have g2 : Good x.b0 (ks ++ [k0]) := good_snoc hd.g hk0
      have er : (rws x.b0 ks).map tv ++ [V.str (tx (chg (fin x.b0 ks) k0))] = (rws x.b0 (ks ++ [k0])).map tv := by
        rw [rws_snoc, List.map_append]
        rfl
      refine ⟨x.kr, _, _, rfl, rfl, hd2.kr, fit' (by rw [List.length_map, rws_len]; omega), ?_⟩
      rw [er]
      have h3 : Hg C W (upd H2 x.kr (.lst ((rws x.b0 (ks ++ [k0])).map tv))) x ks (rws x.b0 (ks ++ [k0])) := hd2.told
      have b3 : But x H (upd H2 x.kr (.lst ((rws x.b0 (ks ++ [k0])).map tv))) := (But.of_same (sw.trans s2)).trans But.kr
      generalize upd H2 x.kr (.lst ((rws x.b0 (ks ++ [k0])).map tv)) = H3 at h3 b3
      obtain ⟨dx, _, _, _, _, e1, _⟩ := id h3.wk
      refine ⟨.ref x.v, rfl, x.v, dx, _, rfl, e1, wf_no_step, wv k0, rfl, x.v, x.l, _, _, x.q, x.r, k0, rfl, h3.wk, hR, hk0, zp, by rw [path_len]; omega, fun H4 k4 wk4 => ?_⟩
      rw [← fin_snoc, ← path_snoc] at wk4
      have h4 := h3.next cw k4 wk4 g2
      refine ⟨.ref x.kr, rfl, 1, rfl, x.kr, _, -1, _, rfl, rfl, SqL.of h4.kr, at_rws _ _, rfl, ?_⟩
      rw [decide_eq_true (show V.str (tx (chg (fin x.b0 ks) k0)) = tv (fin x.b0 (ks ++ [k0])) by rw [fin_snoc]; rfl)]
      exact h H4 _ (b3.trans (But.of_keeps k4)) h4 (by rw [List.length_append]; exact Nat.le_refl _)
end
end Hop

set_option Elab.async false
set_option linter.all false
set_option maxRecDepth 100000
namespace Hop
open PySem L2 HopR
open C8 (InsC call_isC)
theorem and_val {σ : L2.St} {H : Hp} {tb : TE} {Qc : VK} {k k2 : Bool} (hb : k = true → ∀ R : VK, R (.bl k2) H → tb σ H R) (q : Qc (.bl (k && k2)) H) : ∃ c, V.bl k = .bl c ∧ if c = true then tb σ H Qc else Qc (.bl false) H :=
  ⟨k, rfl, by cases k with | true => exact hb rfl _ q | false => exact q⟩
theorem pf_same {q r : Rat} (h : pf q = pf r) : q = r := by
  have h1 := congrArg (fun f => List.lookup ("top" : Str) f) h
  have h2 := congrArg (fun f => List.lookup ("bottom" : Str) f) h
  rw [pf_top, pf_top] at h1
  rw [pf_bottom, pf_bottom] at h2
  injection h1 with h1
  injection h2 with h2
  exact Rat.ext (V.int.inj h1) (by have := V.int.inj h2; omega)
theorem PA.one {C : Addr} {H : Hp} {a : Addr} {q r : Rat} (h : PA C H a q) (h' : PA C H a r) : q = r := by
  obtain ⟨d, e⟩ := h
  obtain ⟨d', e'⟩ := h'
  rw [e] at e'
  injection e' with e'
  injection e' with _ _ e'
  exact pf_same e'
/-- what a Walk's == asks -/
def alikeW (x y : Wt × List Nat) : Bool := decide (fin x.1.b0 x.2 = fin y.1.b0 y.2 ∧ x.1.q = y.1.q ∧ x.1.r = y.1.r)
theorem alike_comm (x y : Wt × List Nat) : alikeW x y = alikeW y x := decide_eq_decide.mpr ⟨fun h => ⟨h.1.symm, h.2.1.symm, h.2.2.symm⟩, fun h => ⟨h.1.symm, h.2.1.symm, h.2.2.symm⟩⟩
theorem alike_of_v {C W : Addr} {H : Hp} {x y : Wt × List Nat} (h : Hd C W H x.1 x.2) (h' : Hd C W H y.1 y.2) (e : x.1.v = y.1.v) : alikeW x y = true := by
  obtain ⟨dx, i, o, p, ts, e1, _, _, e4, e5, _⟩ := h.wk
  obtain ⟨dx', i', o', p', ts', e1', _, _, e4', e5', _⟩ := h'.wk
  rw [e, e1'] at e1
  injection e1 with e1
  injection e1 with _ _ e1
  have g := fun k => congrArg (fun f => List.lookup (k : Str) f) e1
  have g1 : some (V.ref i') = some (V.ref i) := g "inn"
  have g2 : some (V.ref o') = some (V.ref o) := g "out"
  have g3 : some (V.str (tx (fin y.1.b0 y.2))) = some (V.str (tx (fin x.1.b0 x.2))) := g "signs"
  injection g1 with g1
  injection g1 with g1
  injection g2 with g2
  injection g2 with g2
  injection g3 with g3
  subst g1
  subst g2
  exact decide_eq_true ⟨(tx_inj (V.str.inj g3)).symm, e4.1.one e4'.1, e5.1.one e5'.1⟩
/-- the law's three lists -/
structure Ls3 (H : Hp) (Ls Lk Lp : Addr) (zs : List (Wt × List Nat)) : Prop where
  s : H Ls = some (.lst (zs.map fun z => V.ref z.1.v))
  k : H Lk = some (.lst (zs.map fun z => V.ref z.1.kr))
  p : H Lp = some (.lst (zs.map fun z => V.ref z.1.P))
theorem Ls3.same {H H' : Hp} {Ls Lk Lp : Addr} {zs : List (Wt × List Nat)} (s : Same H H') (h : Ls3 H Ls Lk Lp zs) : Ls3 H' Ls Lk Lp zs := ⟨s _ _ h.s, s _ _ h.k, s _ _ h.p⟩
def AllH (C W : Addr) (H : Hp) (zs : List (Wt × List Nat)) : Prop := ∀ z ∈ zs, Hd C W H z.1 z.2
theorem AllH.same {C W : Addr} {H H' : Hp} {zs : List (Wt × List Nat)} (s : Same H H') (h : AllH C W H zs) : AllH C W H' zs := fun z hz => (h z hz).same s
theorem at_z {zs : List (Wt × List Nat)} {i : Nat} {z : Wt × List Nat} (f : Wt × List Nat → V) (h : zs[i]? = some z) : atI (zs.map f) (i : Int) = some (f z) := atI_nat (by rw [List.getElem?_map, h]; rfl)
section
variable {P : Program} {w : World} {K : PySem.W.Frag} {mg : Str → Option Value} {base : Heap} {C W d : Addr} {es : Array DictEntry} {n : Nat}
variable {wr ws we wo pr pe fg : Addr} {gr gs ge go hp he gg : FuncData}
/-! ### _law_alike -/
def spLAlike (C W : Addr) : Sp := fun vs H Q _ => ∃ (Ls Lk Lp : Addr) (zs : List (Wt × List Nat)), vs = [.ref Ls, .ref Lk, .ref Lp] ∧ Ls3 H Ls Lk Lp zs ∧ AllH C W H zs ∧ zs.length ≤ 10 ∧ ∀ H', Same H H' → Q (.bl true) H'
abbrev nLAlike : List Str := ["_law_some", "_law_kept", "_law_paces_here", "_law_k", "_law_j", "_law_same"]
theorem scLAlike : FnScope nLAlike ["_law_some", "_law_kept", "_law_paces_here"] (defScope sLAlike) := ⟨rfl, rfl, rfl, by decide +kernel, rfl, by decide +kernel, by decide +kernel⟩
theorem ok_lalike {f : Addr} {fd : FuncData} {k : Nat} (F : Fun K "_law_alike" "_law_alike" sLAlike f fd) (S : SW K mg C W wr ws we wo pr pe fg gr gs ge go hp he gg) (T : TxtP K mg C) (TW : TxtW K mg W) (TE : TxtE K mg W) (mR : mg "range" = none) : FnOk P w K mg base CX0 (k + 6) f fd ["_law_some", "_law_kept", "_law_paces_here"] (spLAlike C W) := by
  have Ge : FnOk P w K mg base CX0 2 we ge ["self", "other"] (spWEqA K C W) := ok_weqA (k := 0) S.Fe S.Fq S.bq S.pc T TW TE
  refine F.ok scLAlike (fun vs H Q E h => ?_) (fun cdv A outer s H vs Q E hr h => ?_)
  · obtain ⟨Ls, Lk, Lp, zs, rfl, _⟩ := h
    rfl
  · obtain ⟨Ls, Lk, Lp, zs, rfl, l3, ah, hl, h⟩ := h
    have nd := scLAlike.nd
    have hu := hu66 hr
    have hu64 : (A.deeper (PyProof.Rows.envOfC "_law_alike" (defScope sLAlike) s.heap.objs.size f cdv)).units + 64 < cLine := by omega
    have I := TE.ins
    have ty : ∀ {Hx : Hp} {x : Wt} {ks : List Nat}, Hd C W Hx x ks → TyX K Hx (.ref x.v) (.ref W) := fun h => let ⟨_, _, _, _, _, e, _⟩ := h.wk; .base (.ins e I.cl I.ha I.hn I.htk I.hm)
    have nf : PySem.W.notFirst K W (.ref W) = true := by simp [PySem.W.notFirst]
    refine ⟨_, pss_cons (ps_for PassesOwn.never rfl (pi_range1 (by rfl) mR (pa_cons (pe_callB call_len_seq (by rfl) T.len PySem.boot_len (pa_cons (pv 0) pa_nil)) pa_nil)) (pg_name (i := 3) nd rfl (.inl rfl))
        (pss_one (ps_for PassesOwn.never rfl (pi_range1 (by rfl) mR (pa_cons (pe_callB call_len_seq (by rfl) T.len PySem.boot_len (pa_cons (pv 0) pa_nil)) pa_nil)) (pg_name (i := 4) nd rfl (.inl rfl))
          (pss_cons (ps_set (i := 5) nd rfl (.inl rfl) (pe_and (pe_cmpR op_eq (pe_ix ix_list (pe_ix ix_list (pv 1) (pv 3) (fun _ _ => rfl)) (pe_un un_neg pe_int) (fun _ _ => rfl)) (pe_ix ix_list (pe_ix ix_list (pv 1) (pv 4) (fun _ _ => rfl)) (pe_un un_neg pe_int) (fun _ _ => rfl)) (nomark _))
              (pe_one (pe_cmpR (op_eqD hu64) (pe_ix ix_list (pv 2) (pv 3) (fun _ _ => rfl)) (pe_ix ix_list (pv 2) (pv 4) (fun _ _ => rfl)) (nomark _)))))
          (pss_one (ps_if (pt_cmpR (op_neD hu64) (pe_lst (pa_cons (pe_cmpR (op_eqA S.ec Ge (hr.mono (by omega)) S.be pass0) (pe_ix ix_list (pv 0) (pv 3) (fun _ _ => rfl)) (pe_ix ix_list (pv 0) (pv 4) (fun _ _ => rfl)) (nomark _))
              (pa_cons (pe_cmpR (op_neA S.ec Ge (hr.mono (by omega)) S.be pass0) (pe_ix ix_list (pv 0) (pv 3) (fun _ _ => rfl)) (pe_ix ix_list (pv 0) (pv 4) (fun _ _ => rfl)) (nomark _))
              (pa_cons (pe_cmpR (op_inOwn S.ec Ge (hr.mono (by omega)) S.be pass0) (pe_ix ix_list (pv 0) (pv 3) (fun _ _ => rfl)) (pe_lst (pa_cons (pe_ix ix_list (pv 0) (pv 4) (fun _ _ => rfl)) pa_nil)) (by rfl)) pa_nil))))
              (pe_lst (pa_cons (pv 5) (pa_cons (pe_not (pv 5)) (pa_cons (pv 5) pa_nil)))) (nomark _)) (pss_one (ps_ret pe_bl)) pss_nil))))))
      (pss_one (ps_ret pe_bl)), ?_⟩
    refine ⟨.ref Ls, rfl, Ls, _, rfl, .inl (SqL.of l3.s), _, rfl, ?_⟩
    have en : ∀ {m : Nat}, (m : Int).toNat = m := fun {m} => by omega
    refine ⟨by rw [List.length_map]; omega, by rw [List.length_map]; omega, ?_⟩
    rw [en, List.length_map]
    refine for_range (lo := 0) (n := zs.length) (fun i σ H3 => ∃ y3 y4 y5, σ = [some (.ref Ls), some (.ref Lk), some (.ref Lp), y3, y4, y5] ∧ Same H H3) ⟨_, _, _, rfl, Same.refl _⟩ ?_ ?_
    · rintro i σ H3 hi ⟨y3, y4, y5, rfl, s3⟩
      rw [Int.zero_add]
      refine ⟨.ref Ls, rfl, Ls, _, rfl, .inl (SqL.of (s3 _ _ l3.s)), _, rfl, ?_⟩
      refine ⟨by rw [List.length_map]; omega, by rw [List.length_map]; omega, ?_⟩
      rw [en, List.length_map]
      refine for_range (lo := 0) (n := zs.length) (fun j σ H4 => ∃ y4 y5, σ = [some (.ref Ls), some (.ref Lk), some (.ref Lp), some (.int (i : Int)), y4, y5] ∧ Same H H4) ⟨_, _, rfl, s3⟩ ?_ ?_
      · rintro j σ H4 hj ⟨y4, y5, rfl, s4⟩
        rw [Int.zero_add]
        obtain ⟨x, hx⟩ : ∃ x, zs[i]? = some x := ⟨_, List.getElem?_eq_getElem hi⟩
        obtain ⟨y, hy⟩ : ∃ y, zs[j]? = some y := ⟨_, List.getElem?_eq_getElem hj⟩
        have hdx := (ah x (List.mem_of_getElem? hx)).same s4
        have hdy := (ah y (List.mem_of_getElem? hy)).same s4
        have l4 := l3.same s4
        have ax := fun f => at_z (f := f) hx
        have ay := fun f => at_z (f := f) hy
        refine ⟨.ref Lk, rfl, .int (i : Int), rfl, Lk, _, _, .ref x.1.kr, rfl, rfl, SqL.of l4.k, ax (fun z => .ref z.1.kr), 1, rfl, x.1.kr, _, -1, _, rfl, rfl, SqL.of hdx.kr, at_rws _ _,
          .ref Lk, rfl, .int (j : Int), rfl, Lk, _, _, .ref y.1.kr, rfl, rfl, SqL.of l4.k, ay (fun z => .ref z.1.kr), 1, rfl, y.1.kr, _, -1, _, rfl, rfl, SqL.of hdy.kr, at_rws _ _, rfl, ?_⟩
        refine and_val (k2 := decide (x.1.q = y.1.q ∧ x.1.r = y.1.r)) (fun _ R rr => ⟨.ref Lp, rfl, .int (i : Int), rfl, Lp, _, _, .ref x.1.P, rfl, rfl, SqL.of l4.p, ax (fun z => .ref z.1.P), .ref Lp, rfl, .int (j : Int), rfl, Lp, _, _, .ref y.1.P, rfl, rfl, SqL.of l4.p, ay (fun z => .ref z.1.P),
          dPc x.1.q x.1.r, dPc y.1.q y.1.r, dp_pc hdx.P hdx.t1 hdx.t2, dp_pc hdy.P hdy.t1 hdy.t2, shaped_pc _ _, shaped_pc _ _, by rw [eqv_pc]; exact rr⟩) ?_
        have ek : (decide (tv (fin x.1.b0 x.2) = tv (fin y.1.b0 y.2)) && decide (x.1.q = y.1.q ∧ x.1.r = y.1.r)) = alikeW x y := by
          unfold alikeW
          by_cases z : fin x.1.b0 x.2 = fin y.1.b0 y.2
          · rw [decide_eq_true (show tv (fin x.1.b0 x.2) = tv (fin y.1.b0 y.2) by rw [z]), Bool.true_and]
            exact decide_eq_decide.mpr ⟨fun h => ⟨z, h⟩, fun h => h.2⟩
          · rw [decide_eq_false (show ¬ tv (fin x.1.b0 x.2) = tv (fin y.1.b0 y.2) from fun h => z (tx_inj (V.str.inj h))), Bool.false_and, decide_eq_false fun h => z h.1]
        rw [ek]
        obtain ⟨dx, _, _, _, _, evx, _⟩ := id hdx.wk
        obtain ⟨dy, _, _, _, _, evy, _⟩ := id hdy.wk
        have self : x.1.v = y.1.v → alikeW x y = true := alike_of_v hdx hdy
        have sym := alike_comm x y
        have hkk : decide (fin x.1.b0 x.2 = fin y.1.b0 y.2 ∧ x.1.q = y.1.q ∧ x.1.r = y.1.r) = alikeW x y := rfl
        generalize alikeW x y = kk at self sym hkk
        have hkk2 : decide (fin y.1.b0 y.2 = fin x.1.b0 x.2 ∧ y.1.q = x.1.q ∧ y.1.r = x.1.r) = kk := sym.symm
        have axv := ax (fun z => .ref z.1.v)
        have ayv := ay (fun z => .ref z.1.v)
        refine ⟨.ref Ls, rfl, .int (i : Int), rfl, Ls, _, _, .ref x.1.v, rfl, rfl, SqL.of l4.s, axv, .ref Ls, rfl, .int (j : Int), rfl, Ls, _, _, .ref y.1.v, rfl, rfl, SqL.of l4.s, ayv, x.1.v, dx, _, .ref W, rfl, evx, ty hdy, nf, x.1.v, x.1.l, _, _, x.1.q, x.1.r, .ref y.1.v, rfl, hdx.wk, .inl ⟨y.1.v, y.1.l, _, _, y.1.q, y.1.r, rfl, hdy.wk, _, rfl, ?_⟩⟩
        refine ⟨.ref Ls, rfl, .int (i : Int), rfl, Ls, _, _, .ref x.1.v, rfl, rfl, SqL.of l4.s, axv, .ref Ls, rfl, .int (j : Int), rfl, Ls, _, _, .ref y.1.v, rfl, rfl, SqL.of l4.s, ayv, x.1.v, dx, _, .ref W, rfl, evx, ty hdy, nf, x.1.v, x.1.l, _, _, x.1.q, x.1.r, .ref y.1.v, rfl, hdx.wk, .inl ⟨y.1.v, y.1.l, _, _, y.1.q, y.1.r, rfl, hdy.wk, _, rfl, ?_⟩⟩
        rw [hkk]
        refine ⟨.ref Ls, rfl, .int (i : Int), rfl, Ls, _, _, .ref x.1.v, rfl, rfl, SqL.of l4.s, axv, .ref Ls, rfl, .int (j : Int), rfl, Ls, _, _, .ref y.1.v, rfl, rfl, SqL.of l4.s, ayv, (by show 1 ≤ sizeLine; decide), fun l5 n5 => ?_⟩
        have t5 := same_upd (o := .lst [.ref y.1.v]) n5
        have e5 : upd H4 l5 (.lst [.ref y.1.v]) l5 = some (.lst [.ref y.1.v]) := upd_same
        generalize upd H4 l5 (.lst [.ref y.1.v]) = G5 at t5 e5
        refine ⟨x.1.v, y.1.v, l5, dx, dy, _, _, kk, rfl, rfl, t5 _ _ evx, t5 _ _ evy, e5, self, fun H' x' => ⟨y.1.v, y.1.l, _, _, y.1.q, y.1.r, .ref x.1.v, rfl, (hdy.wk.same t5).same x', .inl ⟨x.1.v, x.1.l, _, _, x.1.q, x.1.r, rfl, (hdx.wk.same t5).same x', by rw [hkk2], Ext.rfl'⟩⟩, fun G6 x6 => ?_⟩
        have t06 : Same H4 G6 := fun b o e => x6 _ _ (t5 _ _ e)
        refine ⟨(by show 3 ≤ sizeLine; decide), fun lh nlh => ?_⟩
        have t7 := same_upd (o := .lst [.bl (kk ^^ false), .bl (kk ^^ true), .bl kk]) nlh
        have e7 : upd G6 lh (.lst [.bl (kk ^^ false), .bl (kk ^^ true), .bl kk]) lh = some (.lst [.bl (kk ^^ false), .bl (kk ^^ true), .bl kk]) := upd_same
        generalize upd G6 lh (.lst [.bl (kk ^^ false), .bl (kk ^^ true), .bl kk]) = G7 at t7 e7
        refine ⟨.bl kk, rfl, .bl kk, rfl, kk, rfl, .bl kk, rfl, (by show 3 ≤ sizeLine; decide), fun l8 n8 => ?_⟩
        have t8 := same_upd (o := .lst [.bl kk, .bl (!kk), .bl kk]) n8
        refine ⟨.list [.bool (kk ^^ false), .bool (kk ^^ true), .bool kk], .list [.bool kk, .bool (!kk), .bool kk], .lst (SqL.of (t8 _ _ e7)) (.cons (.bl _) (.cons (.bl _) (.cons (.bl _) .nil))), .lst (SqL.of upd_same) (.cons (.bl _) (.cons (.bl _) (.cons (.bl _) .nil))), rfl, rfl, _, rfl, ?_⟩
        have e9 : PyData.eqv (.list [.bool (kk ^^ false), .bool (kk ^^ true), .bool kk]) (.list [.bool kk, .bool (!kk), .bool kk]) = true := by cases kk <;> rfl
        rw [e9]
        exact iteF ⟨_, _, rfl, s4.trans ((t06.trans t7).trans t8)⟩
      · rintro σ H4 ⟨y4, y5, rfl, s4⟩
        exact ⟨_, _, _, rfl, s4⟩
    · rintro σ H3 ⟨y3, y4, y5, rfl, s3⟩
      exact h H3 s3
end
end Hop

set_option Elab.async false
set_option linter.all false
set_option maxRecDepth 100000
set_option exponentiation.threshold 200000
namespace Hop
open PySem L2 HopR
open C8 (InsC call_isC)
theorem strOk_tx (bs : List Bool) : PyData.strOk (tx bs) = true := by
  unfold PyData.strOk
  unfold tx
  rw [List.all_toArray, List.all_map, List.all_eq_true]
  intro b _
  cases b <;> rfl
theorem lay_tvs (ws : List (List Bool)) : PyData.canLayAll0 (ws.map dtv) = true := by
  induction ws with
  | nil => rfl
  | cons a r ih =>
    unfold dtv at ih
    simp only [dtv, List.map_cons, PyData.canLayAll0, PyData.canLay0, strOk_tx, Bool.true_and]
    exact ih
theorem shaped_tvs (ws : List (List Bool)) : SeqAt.shaped (.list (ws.map dtv)) = true := by
  have h2 : PyData.depthAll (ws.map dtv) = 0 := by
    induction ws with
    | nil => rfl
    | cons a r ih => simp only [List.map_cons, dtv, PyData.depthAll, PyData.depth, Nat.zero_max]; exact ih
  unfold SeqAt.shaped
  simp only [PyData.canLay0, PyData.depth, lay_tvs, h2]
  decide
theorem dp_tvs {K : PySem.W.Frag} {H : Hp} : ∀ ws : List (List Bool), DpAll K H (ws.map tv) (ws.map dtv)
  | [] => .nil
  | a :: r => .cons (.str _) (dp_tvs r)
theorem eqv_tvs (ws : List (List Bool)) : PyData.eqv (.list (ws.map dtv)) (.list (ws.map dtv)) = true := PySem.SeqAt.eqv_refl _ (by simp only [PyData.canLay0, lay_tvs])
theorem rws_take (b0 : List Bool) : ∀ (ks : List Nat) (j k : Nat), ks[j]? = some k → rws b0 (ks.take (j + 1)) = rws b0 (ks.take j) ++ [chg (fin b0 (ks.take j)) k] := fun ks j k h => by
  have e : ks.take (j + 1) = ks.take j ++ [k] := by rw [List.take_add_one, h]; rfl
  rw [e, rws_snoc]
/-- all told rows but the first one -/
def rts (b0 : List Bool) (ks : List Nat) : List (List Bool) := (rws b0 ks).drop 1
theorem rts_all (b0 : List Bool) (ks : List Nat) : rws b0 ks = b0 :: rts b0 ks := by
  cases ks with
  | nil => rfl
  | cons k r => rfl
theorem rts_take {b0 : List Bool} {ks : List Nat} {j k : Nat} (h : ks[j]? = some k) : rts b0 (ks.take (j + 1)) = rts b0 (ks.take j) ++ [chg (fin b0 (ks.take j)) k] := by
  have := rws_take b0 ks j k h
  rw [rts_all, rts_all, List.cons_append] at this
  injection this
theorem rts_len (b0 : List Bool) (ks : List Nat) : (rts b0 ks).length = ks.length := by
  have := rws_len b0 ks
  rw [rts_all, List.length_cons] at this
  omega
section
variable {K : PySem.W.Frag} {mg : Str → Option Value} {C W : Addr}
/-- what a Walk can do -/
structure WL (K : PySem.W.Frag) (mg : Str → Option Value) (W fwi ms mu fc md me mt ml : Addr) (gwi hs' hu' gc hd' he' ht' hl' : FuncData) : Prop where
  M : Mk K W fwi
  Fi : FunD K "__init__" "Walk.__init__" (defArgs sWInit) (defBody sWInit) (defScope sWInit) [.non, .non] [] fwi gwi
  b4 : Binds K gwi ["self", "row", "inn", "out"] []
  Fs : Fun K "step" "Walk.step" sStep ms hs'
  bs : Binds K hs' ["self", "wall"] []
  Ms : Meth K W "step" ms
  Fu : Fun K "undo" "Walk.undo" sUndo mu hu'
  bu : Binds K hu' ["self"] []
  Mu : Meth K W "undo" mu
  Fc : Fun K "chance" "Walk.chance" sChance fc gc
  bc : Binds K gc ["self", "wall"] []
  mc : Meth K W "chance" fc
  Fd : Fun K "done" "Walk.done" sDone md hd'
  bd : Binds K hd' ["self"] []
  Md : Meth K W "done" md
  Fe : Fun K "chances" "Walk.chances" sChances me he'
  be : Binds K he' ["self"] []
  Me : Meth K W "chances" me
  Ft : Fun K "twin" "Walk.twin" sTwin mt ht'
  bt : Binds K ht' ["self"] []
  Mt : Meth K W "twin" mt
  Fl : Fun K "__len__" "Walk.__len__" sWLen ml hl'
  bl : Binds K hl' ["self"] []
  Ml : PySem.W.findIn K (.ref W) "__len__" = some (some (.ref ml))
  nl : PySem.W.isFn K (.ref ml) = true
end
section
variable {P : Program} {w : World} {K : PySem.W.Frag} {mg : Str → Option Value} {base : Heap} {C W d : Addr} {es : Array DictEntry} {n : Nat}
variable {HE NL fI fwi : Addr} {gI gwi : FuncData}
variable {fi f1 f2 r1 r2 r3 r4 r6 p1 p2 p3 p4 fp ft fo fz fc : Addr} {gi g1 g2 s1 s2 s3 s4 s6 q1 q2 q3 q4 gp gt go gz gc : FuncData} {d1 : Value}
variable {ms mu md me mt ml : Addr} {hs' hu' hd' he' ht' hl' : FuncData}
variable {wr ws we wo pr pe fg : Addr} {gr gs ge go' hp he gg : FuncData}
/-! ### _law_as_fresh -/
def spLFresh (C W : Addr) : Sp := fun vs H Q _ => ∃ (x : Wt) (ks : List Nat), vs = [.ref x.v, .ref x.kr, .ref x.P] ∧ Hd C W H x ks ∧ Wo x ∧ ks.length ≤ 50 ∧ ∀ H', Same H H' → Q (.bl true) H'
abbrev nLFresh : List Str := ["_law_walk", "_law_rows", "_law_paces_here", "_law_inn", "_law_out", "_law_fresh", "_law_shut", "_law_told"]
theorem scLFresh : FnScope nLFresh ["_law_walk", "_law_rows", "_law_paces_here"] (defScope sLFresh) := ⟨rfl, rfl, rfl, by decide +kernel, rfl, by decide +kernel, by decide +kernel⟩
theorem ok_lfresh {f : Addr} {fd : FuncData} {k : Nat} (F : Fun K "_law_as_fresh" "_law_as_fresh" sLFresh f fd) (L : WL K mg W fwi ms mu fc md me mt ml gwi hs' hu' gc hd' he' ht' hl') (S : SW K mg C W wr ws we wo pr pe fg gr gs ge go' hp he gg) (cw : C ≠ W)
    (D : WDefs K mg C fi f1 f2 r1 r2 r3 r4 r6 p1 p2 p3 p4 fp ft fo fz gi g1 g2 s1 s2 s3 s4 s6 q1 q2 q3 q4 gp gt go gz d1) (T : TxtP K mg C) (TR : TxtR K w mg d es n) (TW : TxtW K mg W) (TE : TxtE K mg W) (Z : Er K mg HE NL fI gI) : FnOk P w K mg base CX0 (k + 11) f fd ["_law_walk", "_law_rows", "_law_paces_here"] (spLFresh C W) := by
  have GI : FnOk P w K mg base CX0 (k + 9) fi gi ["self", "top", "bottom"] (spInit C) := ok_init D.N.M.F D.N.M.N1 D.N.M.N2 T
  have GW : FnOk P w K mg base CX0 (k + 9) fwi gwi ["self", "row", "inn", "out"] (spWInit C W) := ok_winit L.Fi cw D T TR TW
  have Gs : FnOk P w K mg base CX0 (k + 10) ms hs' ["self", "wall"] (spStep C W) := ok_step L.Fs L.Fc L.bc L.mc cw D T TR TW Z
  have Gd : FnOk P w K mg base CX0 (k + 10) md hd' ["self"] (spDone C W) := ok_done L.Fd TW
  have Ge : FnOk P w K mg base CX0 (k + 10) me he' ["self"] (spChances C W) := ok_chances L.Fe TW
  have Gx : FnOk P w K mg base CX0 (k + 10) pe he ["self", "other"] (spPEq C) := ok_eq S.Fq T
  refine F.ok scLFresh (fun vs H Q E h => ?_) (fun cdv A outer s H vs Q E hr h => ?_)
  · obtain ⟨x, ks, rfl, _⟩ := h
    rfl
  · obtain ⟨x, ks, rfl, hd, hw, hk, h⟩ := h
    have nd := scLFresh.nd
    have hu := hu66 hr
    have hu64 : (A.deeper (PyProof.Rows.envOfC "_law_as_fresh" (defScope sLFresh) s.heap.objs.size f cdv)).units + 64 < cLine := by omega
    refine ⟨_, pss_cons (ps_asg (pv 2) (pg_lst (by rfl) (pgs_cons (pg_name (i := 3) nd rfl (.inl rfl)) (pgs_cons (pg_name (i := 4) nd rfl (.inl rfl)) pgs_nil))))
      (pss_cons (ps_set (i := 5) nd rfl (.inr rfl) (pe_make L.M GW hr (by rfl) TE.gW L.b4 .nil pass0 (pa_cons (pe_ix ix_list (pv 1) pe_int (fun _ _ => rfl)) (pa_cons (pe_make D.N.M.M GI hr (by rfl) T.mgC D.N.M.b3 .nil pass0 (pa_cons (pe_ix ix_tup (pv 3) pe_int (fun _ _ => rfl)) (pa_cons (pe_ix ix_tup (pv 3) pe_int (fun _ _ => rfl)) pa_nil)))
          (pa_cons (pe_make D.N.M.M GI hr (by rfl) T.mgC D.N.M.b3 .nil pass0 (pa_cons (pe_ix ix_tup (pv 4) pe_int (fun _ _ => rfl)) (pa_cons (pe_ix ix_tup (pv 4) pe_int (fun _ _ => rfl)) pa_nil))) pa_nil)))))
      (pss_cons (ps_set (i := 7) nd rfl (.inl rfl) (pe_op op_cat (pe_lst (pa_cons (pe_ix ix_list (pv 1) pe_int (fun _ _ => rfl)) pa_nil)) (pe_lc (own := [("_law_shut", 6)]) (g := gName 6) (tt := tYes) rfl nd (pi_list (pe_meth0 (pv 0) TW.cl L.Md Gd hr L.bd .nil pass0))
          (blkOk_by (own := [("_law_shut", 6)]) (N := nLFresh) (sc := defScope sLFresh) (by decide +kernel))
          (fun _ _ _ _ _ => pg_name (i := 6) nd rfl (Or.inl rfl)) (fun _ _ _ _ _ => pts_nil) (fun _ _ _ _ _ => pe_meth (pv 5) TW.cl L.Ms Gs hr L.bs .nil pass0 (pa_cons (pv 6) pa_nil)))))
      (pss_one (ps_ret (pe_and (pe_cmpR (op_eqD hu64) (pv 7) (pv 1) (nomark _)) (pe_one (pe_cmpR (op_eqOwn S.pc Gx hr S.bq pass0) (pe_meth0 (pv 5) TW.cl L.Me Ge hr L.be .nil pass0) (pe_meth0 (pv 0) TW.cl L.Me Ge hr L.be .nil pass0) (nomark _)))))))), ?_⟩
    have up : ∀ {x : Nat}, x < 2 ^ 45 → x < 2 ^ 8000 := fun h => Nat.lt_of_lt_of_le h (Nat.pow_le_pow_right (by decide) (by decide))
    have zr45 : Sz 45 x.r := hw.zr.mono (by decide)
    have e0 : atI ((rws x.b0 ks).map tv) 0 = some (tv x.b0) := by
      rw [rts_all]
      exact atI_nat (j := 0) rfl
    refine ⟨.ref x.P, rfl, x.P, _, rfl, SqL.of hd.P, rfl, _, _, rfl, _, _, rfl, rfl, ?_⟩
    refine ⟨.ref x.kr, rfl, x.kr, _, 0, tv x.b0, rfl, rfl, SqL.of hd.kr, e0, ?_⟩
    refine ⟨.ref x.t1, rfl, x.t1, _, 0, .int x.q.num, rfl, rfl, SqT.of hd.t1, rfl, .ref x.t1, rfl, x.t1, _, 1, .int (x.q.den : Int), rfl, rfl, SqT.of hd.t1, rfl, ?_⟩
    intro p dx np hdx ne
    refine ⟨p, dx, x.q.num, (x.q.den : Int), rfl, den_ne x.q, up hw.zq.2, upd_same, rfl, ?_⟩
    rw [upd_upd]
    obtain ⟨s1, pa1⟩ := mk_facts (C := C) (q := Rat.divInt x.q.num (x.q.den : Int)) np hdx
    generalize upd (upd H dx (.own p)) p (.ins C dx (pf (Rat.divInt x.q.num (x.q.den : Int)))) = H1 at s1 pa1
    rw [Rat.num_divInt_den] at pa1
    have hd1 := hd.same s1
    refine ⟨.ref x.t2, rfl, x.t2, _, 0, .int x.r.num, rfl, rfl, SqT.of hd1.t2, rfl, .ref x.t2, rfl, x.t2, _, 1, .int (x.r.den : Int), rfl, rfl, SqT.of hd1.t2, rfl, ?_⟩
    intro p' dy np' hdy ne'
    refine ⟨p', dy, x.r.num, (x.r.den : Int), rfl, den_ne x.r, up zr45.2, upd_same, rfl, ?_⟩
    rw [upd_upd]
    obtain ⟨s2, pa2⟩ := mk_facts (C := C) (q := Rat.divInt x.r.num (x.r.den : Int)) np' hdy
    generalize upd (upd H1 dy (.own p')) p' (.ins C dy (pf (Rat.divInt x.r.num (x.r.den : Int)))) = H2 at s2 pa2
    rw [Rat.num_divInt_den] at pa2
    have hd2 := hd1.same s2
    have pc1 : PC C H2 p x.q := ⟨pa1.same s2, hw.q0, hw.zq.mono (by decide)⟩
    have pc2 : PC C H2 p' x.r := ⟨pa2, hw.r0, zr45.mono (by decide)⟩
    intro v2 dv nv hdv nev
    have sV : Same H2 (upd (upd H2 dv (.own v2)) v2 (.ins W dv [])) := same_new nv (same_upd hdv)
    refine ⟨v2, dv, .ref p, .ref p', x.b0, x.q, x.r, rfl, upd_same, hw.R, .inr ⟨p, rfl, PC.same sV pc1⟩, .inr ⟨p', rfl, PC.same sV pc2⟩, fun H3 l2 kp nl wk3 => ⟨rfl, ?_⟩⟩
    have s3 : Same H2 H3 := made_same nv hdv kp
    obtain ⟨_, _, _, _, _, _, el3, _⟩ := id wk3
    have hd3 := hd2.same s3
    refine ⟨.ref x.kr, rfl, x.kr, _, 0, tv x.b0, rfl, rfl, SqL.of hd3.kr, e0, (by show 1 ≤ sizeLine; decide), fun lo nlo => ?_⟩
    have s4 := same_upd (o := .lst [tv x.b0]) nlo
    have elo : upd H3 lo (.lst [tv x.b0]) lo = some (.lst [tv x.b0]) := upd_same
    generalize upd H3 lo (.lst [tv x.b0]) = H4 at s4 elo
    have hd4 := hd3.same s4
    have wk4 := wk3.same s4
    obtain ⟨dx4, _, _, _, _, e14, e24, _⟩ := id hd4.wk
    obtain ⟨_, _, _, _, _, _, el4, _⟩ := id wk4
    refine ⟨.ref x.v, rfl, x.v, dx4, _, rfl, e14, rfl, x.v, x.l, _, _, x.q, x.r, rfl, hd4.wk, by rw [path_len]; omega, fun H5 pd s5 npd epd => ?_⟩
    rw [path_wls] at epd
    have hd5 := hd4.same s5
    have wk5 := wk4.same s5
    have elo5 := s5 _ _ elo
    have nvv : ∀ {a : Addr} {o : HO}, H2 a = some o → a ≠ v2 := fun {a o} e z => by
      rw [z, nv] at e
      cases e
    have nll : ∀ {a : Addr} {o : HO}, H2 a = some o → a ≠ l2 := fun {a o} e z => by
      have := sV _ _ e
      rw [z, nl] at this
      cases this
    obtain ⟨dx5, _, _, _, ts5, ev5, el5, _⟩ := id wk5
    have npl : pd ≠ l2 := (ne_of_none el4 npd).symm
    have nlol : lo ≠ l2 := (ne_of_none (el3 : H3 l2 = some _) nlo).symm
    refine ⟨pd, rfl, ⟨_, SqL.of epd⟩, fun D hD => ?_⟩
    have nDl : D ≠ l2 := (ne_of_none el5 hD).symm
    have nDv : D ≠ v2 := (ne_of_none ev5 hD).symm
    refine lc_list (K := K) (a := pd) (xs := ks.map wv) (fun j H6 => Keeps v2 l2 H5 H6 ∧ WK C W H6 v2 l2 (fin x.b0 (ks.take j)) (path x.b0 (ks.take j)) x.q x.r ∧ H6 D = some (.lst ((rts x.b0 (ks.take j)).map tv)))
      ⟨Keeps.of_same (same_upd hD), wk5.same (same_upd hD), upd_same⟩ (fun j H6 _ h => SqL.of (h.1 _ _ (fun z => by rw [z, ev5] at epd; cases epd) npl epd)) ?_ ?_
    · rintro j y H6 hy ⟨k6, wk6, eD⟩
      rw [List.getElem?_map] at hy
      obtain ⟨k0, hk0, rfl⟩ := Option.map_eq_some_iff.mp hy
      have hjl := (List.getElem?_eq_some_iff.mp hk0).1
      have gt := good_take hd.g j
      obtain ⟨hRj, _⟩ := good_fin hw.R _ (ks.take j) rfl gt
      have hkw := hd.g j k0 hk0
      have htl : (ks.take j).length = j := by
        rw [List.length_take]
        omega
      obtain ⟨dx6, _, _, _, _, ev6, el6, _⟩ := id wk6
      refine ⟨rfl, .ref v2, rfl, v2, dx6, _, rfl, ev6, wf_no_step, wv k0, rfl, v2, l2, _, _, x.q, x.r, k0, rfl, wk6, hRj, hkw, sz_path hw.R gt hw.q0 hw.r0 hw.zq hw.zr (by rw [htl]; omega), by rw [path_len, htl]; omega, fun H7 k7 wk7 => ?_⟩
      have eD7 := k7 _ _ nDv nDl eD
      refine ⟨_, eD7, fit' (by rw [List.length_map, rts_len, htl]; omega), fun b o n1 n2 e => ?_, ?_, ?_⟩
      · rw [upd_ne (ne_of_none e hD)]
        exact k7 _ _ n1 n2 (k6 _ _ n1 n2 e)
      · rw [← fin_snoc, ← path_snoc] at wk7
        have et : ks.take j ++ [k0] = ks.take (j + 1) := by rw [List.take_add_one, hk0]; rfl
        rw [et] at wk7
        obtain ⟨a1, a2, a3, a4, a5, b1, b2, b3, b4, b5, b6⟩ := wk7
        refine ⟨a1, a2, a3, a4, a5, ?_, ?_, b3.mono fun t ys e => ?_, b4.upd (pa_ne_l b4.1 eD7), b5.upd (pa_ne_l b5.1 eD7), b6.upd (pa_ne_l b6 eD7)⟩
        · rw [upd_ne nDv.symm]
          exact b1
        · rw [upd_ne nDl.symm]
          exact b2
        · rw [upd_ne (ne_tup_lst e eD7)]
          exact e
      · rw [upd_same, rts_take hk0, List.map_append]
        rfl
    · rintro H6 ⟨k6, wk6, eD⟩
      rw [List.length_map, List.take_length] at wk6 eD
      have s06 : Same H H6 := fun b o e => k6 _ _ (nvv (s2 _ _ (s1 _ _ e))) (nll (s2 _ _ (s1 _ _ e))) (s5 _ _ (s4 _ _ (s3 _ _ (s2 _ _ (s1 _ _ e)))))
      have hd6 := hd.same s06
      have elo6 : H6 lo = some (.lst [tv x.b0]) := k6 _ _ (fun z => by rw [z, ev5] at elo5; cases elo5) nlol elo5
      have ecat : [tv x.b0] ++ (rts x.b0 ks).map tv = (rws x.b0 ks).map tv := by rw [rts_all]; rfl
      refine ⟨lo, D, _, _, rfl, rfl, elo6, eD, ?_, fun lt nlt => ?_⟩
      · rw [List.length_map, rts_len]
        exact Nat.le_of_lt (fit' (by show 1 + ks.length ≤ _; omega))
      rw [ecat]
      have s7 := same_upd (o := .lst ((rws x.b0 ks).map tv)) nlt
      have elt : upd H6 lt (.lst ((rws x.b0 ks).map tv)) lt = some (.lst ((rws x.b0 ks).map tv)) := upd_same
      generalize upd H6 lt (.lst ((rws x.b0 ks).map tv)) = H7 at s7 elt
      have hd7 := hd6.same s7
      have wk7 := wk6.same s7
      refine ⟨.ref lt, rfl, .ref x.kr, rfl, .list ((rws x.b0 ks).map dtv), .list ((rws x.b0 ks).map dtv), .lst (SqL.of elt) (dp_tvs _), .lst (SqL.of hd7.kr) (dp_tvs _), shaped_tvs _, shaped_tvs _, ?_⟩
      rw [eqv_tvs]
      obtain ⟨dxv, _, _, _, _, ev7, _⟩ := id wk7
      obtain ⟨dxo, _, _, _, _, ex7, _⟩ := id hd7.wk
      refine ⟨true, rfl, iteT ⟨.ref v2, rfl, v2, dxv, _, rfl, ev7, wf_no_chances, v2, l2, _, _, x.q, x.r, rfl, wk7, fun pp pa => ⟨.ref x.v, rfl, x.v, dxo, _, rfl, ex7, wf_no_chances, x.v, x.l, _, _, x.q, x.r, rfl, hd7.wk, fun pz pb => ?_⟩⟩⟩
      obtain ⟨da, ea⟩ := id pa
      obtain ⟨db, eb⟩ := id pb
      refine ⟨pp, pz, da, db, _, _, rfl, rfl, ea, eb, pp, pz, _, _, rfl, pa, pb, _, rfl, ?_⟩
      rw [decide_eq_true rfl]
      exact h H7 (s06.trans s7)
end
end Hop

set_option Elab.async false
set_option linter.all false
set_option maxRecDepth 100000
namespace Hop
open PySem L2 HopR
open C8 (InsC call_isC)
/-! ### all the law's walks -/
structure Lw (C W : Addr) (H : Hp) (Ls Lk Lp L : Addr) (xs : List V) (zs : List (Wt × List Nat)) (m : Nat) : Prop where
  l3 : Ls3 H Ls Lk Lp zs
  eL : H L = some (.lst xs)
  all : AllH C W H zs
  wo : ∀ z ∈ zs, Wo z.1
  few : ∀ z ∈ zs, z.2.length ≤ m
  len : 3 ≤ zs.length ∧ zs.length ≤ 4
  apt : ∀ (i j : Nat) (x y : Wt × List Nat), zs[i]? = some x → zs[j]? = some y → i ≠ j → Apt x.1 y.1
  off : ∀ z ∈ zs, ∀ M, (M = Ls ∨ M = Lk ∨ M = Lp ∨ M = L) → M ≠ z.1.l ∧ M ≠ z.1.kr ∧ M ≠ z.1.P
  nd : Ls ≠ Lk ∧ Ls ≠ Lp ∧ Lk ≠ Lp ∧ L ≠ Ls ∧ L ≠ Lk ∧ L ≠ Lp
section
variable {C W : Addr} {H H' : Hp} {Ls Lk Lp L : Addr} {xs : List V} {zs : List (Wt × List Nat)} {m : Nat}
theorem Lw.same (s : Same H H') (h : Lw C W H Ls Lk Lp L xs zs m) : Lw C W H' Ls Lk Lp L xs zs m := ⟨h.l3.same s, s _ _ h.eL, h.all.same s, h.wo, h.few, h.len, h.apt, h.off, h.nd⟩
theorem map_put {β : Type} (f : Wt → β) {i : Nat} {z : Wt × List Nat} {kz : List Nat} (h : zs[i]? = some z) : (zs.set i (z.1, kz)).map (fun z => f z.1) = zs.map (fun z => f z.1) := by
  refine List.ext_getElem? fun j => ?_
  rw [List.getElem?_map, List.getElem?_map, List.getElem?_set]
  by_cases e : i = j
  · subst e
    have hl := (List.getElem?_eq_some_iff.mp h).1
    rw [if_pos rfl, if_pos hl, h]
    rfl
  · rw [if_neg e]
theorem Lw.deed (cw : C ≠ W) {i : Nat} {z : Wt × List Nat} {kz : List Nat} (h : Lw C W H Ls Lk Lp L xs zs m) (hz : zs[i]? = some z) (k : But z.1 H H') (hd : Hd C W H' z.1 kz) (hl : kz.length ≤ m + 1) : Lw C W H' Ls Lk Lp L xs (zs.set i (z.1, kz)) (m + 1) := by
  have mz := List.mem_of_getElem? hz
  have hdz := h.all z mz
  obtain ⟨dx, _, _, _, _, ev, el, _⟩ := id hdz.wk
  have keep : ∀ {M : Addr} {ys : List V}, (M = Ls ∨ M = Lk ∨ M = Lp ∨ M = L) → H M = some (.lst ys) → H' M = some (.lst ys) := fun {M ys} hM e => k _ _ (ne_lst_ins e ev) (h.off z mz M hM).1 (h.off z mz M hM).2.1 e
  have get : ∀ {j : Nat} {x : Wt × List Nat}, (zs.set i (z.1, kz))[j]? = some x → (i = j ∧ x = (z.1, kz)) ∨ (i ≠ j ∧ zs[j]? = some x) := fun {j x} e => by
    rw [List.getElem?_set] at e
    by_cases ij : i = j
    · rw [if_pos ij, if_pos (List.getElem?_eq_some_iff.mp hz).1] at e
      exact .inl ⟨ij, (Option.some.inj e).symm⟩
    · rw [if_neg ij] at e
      exact .inr ⟨ij, e⟩
  have old : ∀ {j : Nat} {x : Wt × List Nat}, (zs.set i (z.1, kz))[j]? = some x → ∃ y, zs[j]? = some y ∧ y.1 = x.1 := fun {j x} e => by
    rcases get e with ⟨rfl, rfl⟩ | ⟨_, e⟩
    · exact ⟨z, hz, rfl⟩
    · exact ⟨x, e, rfl⟩
  refine ⟨⟨?_, ?_, ?_⟩, keep (.inr (.inr (.inr rfl))) h.eL, fun x hx => ?_, fun x hx => ?_, fun x hx => ?_, by rw [List.length_set]; exact h.len, fun a b x y ha hb ne => ?_, fun x hx => ?_, h.nd⟩
  · rw [map_put (fun z => V.ref z.v) hz]
    exact keep (.inl rfl) h.l3.s
  · rw [map_put (fun z => V.ref z.kr) hz]
    exact keep (.inr (.inl rfl)) h.l3.k
  · rw [map_put (fun z => V.ref z.P) hz]
    exact keep (.inr (.inr (.inl rfl))) h.l3.p
  · obtain ⟨j, e⟩ := List.mem_iff_getElem?.mp hx
    rcases get e with ⟨_, rfl⟩ | ⟨ne, e⟩
    · exact hd
    · exact Hg.far cw k hdz (h.all x (List.mem_of_getElem? e)) (h.apt j i x z e hz (fun q => ne q.symm))
  · obtain ⟨j, e⟩ := List.mem_iff_getElem?.mp hx
    obtain ⟨y, ey, q⟩ := old e
    rw [← q]
    exact h.wo y (List.mem_of_getElem? ey)
  · obtain ⟨j, e⟩ := List.mem_iff_getElem?.mp hx
    rcases get e with ⟨_, rfl⟩ | ⟨ne, e⟩
    · exact hl
    · exact Nat.le_succ_of_le (h.few x (List.mem_of_getElem? e))
  · obtain ⟨x', ex, qx⟩ := old ha
    obtain ⟨y', ey, qy⟩ := old hb
    rw [← qx, ← qy]
    exact h.apt a b x' y' ex ey ne
  · obtain ⟨j, e⟩ := List.mem_iff_getElem?.mp hx
    obtain ⟨y, ey, q⟩ := old e
    rw [← q]
    exact h.off y (List.mem_of_getElem? ey)
theorem WI.off {M : Addr} {ys : List V} {o : HO} {v l : Addr} {bs : List Bool} {st : List (Nat × List Bool)} {q r y : Rat} (h : WI C W H v l bs st q r y) (e : H M = some (.lst ys)) (n : M ≠ l) : WI C W (upd H M o) v l bs st q r y := by
  obtain ⟨dx, i, p, p', ts, e1, e2, e3, e4, e5, e6⟩ := h
  refine ⟨dx, i, p, p', ts, ?_, ?_, e3.mono fun t ys e' => ?_, e4.upd (pa_ne_l e4.1 e), e5.upd (pa_ne_l e5.1 e), e6.upd (pa_ne_l e6 e)⟩
  · rw [upd_ne (ne_lst_ins e e1).symm]
    exact e1
  · rw [upd_ne n.symm]
    exact e2
  · rw [upd_ne (ne_tup_lst e' e)]
    exact e'
/-- one walk more: put into the first list, its rows told anew, and so on -/
theorem Lw.grow {H1 H3 : Hp} {z : Wt × List Nat} {v2 l2 kr2 : Addr} (h : Lw C W H Ls Lk Lp L xs zs m) (hz : z ∈ zs) (hl : zs.length = 3) (s1 : Same H H1) (nl : H l2 = none) (wk : WK C W H1 v2 l2 (fin z.1.b0 z.2) (path z.1.b0 z.2) z.1.q z.1.r) (nk : (upd H1 Ls (.lst ((zs.map fun z => V.ref z.1.v) ++ [.ref v2]))) kr2 = none)
    (e3 : H3 = upd (upd (upd (upd H1 Ls (.lst ((zs.map fun z => V.ref z.1.v) ++ [.ref v2]))) kr2 (.lst ((rws z.1.b0 z.2).map tv))) Lk (.lst ((zs.map fun z => V.ref z.1.kr) ++ [.ref kr2]))) Lp (.lst ((zs.map fun z => V.ref z.1.P) ++ [.ref z.1.P]))) :
    Lw C W H3 Ls Lk Lp L xs (zs ++ [({ z.1 with v := v2, l := l2, kr := kr2 }, z.2)]) m := by
  subst e3
  have h1 := h.same s1
  obtain ⟨n1, n2, n3, n4, n5, n6⟩ := h.nd
  have l1 := h1.l3
  obtain ⟨_, _, _, _, _, ev2, el2, _⟩ := id wk
  have old : ∀ {a : Addr} {o : HO}, H a = some o → a ≠ l2 := fun e => ne_of_none e nl
  have nk1 : ∀ {a : Addr} {o : HO}, a ≠ Ls → H1 a = some o → a ≠ kr2 := fun {a o} n e q => by
    rw [← q, upd_ne n, e] at nk
    cases nk
  have nkLs : kr2 ≠ Ls := fun q => by
    rw [q, upd_same] at nk
    cases nk
  have nkLk : kr2 ≠ Lk := (nk1 n1.symm l1.k).symm
  have nkLp : kr2 ≠ Lp := (nk1 n2.symm l1.p).symm
  have nkL : kr2 ≠ L := (nk1 n4 h1.eL).symm
  have nkl : l2 ≠ kr2 := nk1 (fun q => absurd l1.s (by rw [← q]; exact fun e => old h.l3.s (by rw [q]))) el2
  -- what stays
  have f2 : ∀ {a : Addr} {o : HO}, a ≠ Ls → H1 a = some o → upd H1 Ls (.lst ((zs.map fun z => V.ref z.1.v) ++ [.ref v2])) a = some o := fun n e => by rw [upd_ne n]; exact e
  have s2 : Same (upd H1 Ls (.lst ((zs.map fun z => V.ref z.1.v) ++ [.ref v2]))) (upd (upd H1 Ls (.lst ((zs.map fun z => V.ref z.1.v) ++ [.ref v2]))) kr2 (.lst ((rws z.1.b0 z.2).map tv))) := same_upd nk
  have keep : ∀ {a : Addr} {o : HO}, a ≠ Ls → a ≠ Lk → a ≠ Lp → H1 a = some o → upd (upd (upd (upd H1 Ls (.lst ((zs.map fun z => V.ref z.1.v) ++ [.ref v2]))) kr2 (.lst ((rws z.1.b0 z.2).map tv))) Lk (.lst ((zs.map fun z => V.ref z.1.kr) ++ [.ref kr2]))) Lp (.lst ((zs.map fun z => V.ref z.1.P) ++ [.ref z.1.P])) a = some o := fun {a o} m1 m2 m3 e => by
    rw [upd_ne m3, upd_ne m2]
    exact s2 _ _ (f2 m1 e)
  have eLk2 : upd (upd H1 Ls (.lst ((zs.map fun z => V.ref z.1.v) ++ [.ref v2]))) kr2 (.lst ((rws z.1.b0 z.2).map tv)) Lk = some (.lst (zs.map fun z => V.ref z.1.kr)) := s2 _ _ (f2 n1.symm l1.k)
  have eLp2 : upd (upd (upd H1 Ls (.lst ((zs.map fun z => V.ref z.1.v) ++ [.ref v2]))) kr2 (.lst ((rws z.1.b0 z.2).map tv))) Lk (.lst ((zs.map fun z => V.ref z.1.kr) ++ [.ref kr2])) Lp = some (.lst (zs.map fun z => V.ref z.1.P)) := by
    rw [upd_ne n3.symm]
    exact s2 _ _ (f2 n2.symm l1.p)
  have hz1 := h1.all z hz
  have oz := h.off z hz
  have new : ∀ {j : Nat} {x : Wt × List Nat}, (zs ++ [({ z.1 with v := v2, l := l2, kr := kr2 }, z.2)])[j]? = some x → (j < 3 ∧ zs[j]? = some x) ∨ (j = 3 ∧ x = ({ z.1 with v := v2, l := l2, kr := kr2 }, z.2)) := fun {j x} e => by
    by_cases hj : j < zs.length
    · rw [List.getElem?_append_left hj] at e
      exact .inl ⟨by omega, e⟩
    · rw [List.getElem?_append_right (by omega)] at e
      have : j - zs.length < 1 := (List.getElem?_eq_some_iff.mp e).1
      have j0 : j - zs.length = 0 := by omega
      rw [j0] at e
      exact .inr ⟨by omega, (Option.some.inj e).symm⟩
  have mem : ∀ {x : Wt × List Nat}, x ∈ zs ++ [({ z.1 with v := v2, l := l2, kr := kr2 }, z.2)] → x ∈ zs ∨ x = ({ z.1 with v := v2, l := l2, kr := kr2 }, z.2) := fun hx => by
    rcases List.mem_append.mp hx with hx | hx
    · exact .inl hx
    · exact .inr (List.mem_singleton.mp hx)
  have apx : ∀ x ∈ zs, Apt x.1 { z.1 with v := v2, l := l2, kr := kr2 } := fun x hx => by
    have hx0 := h.all x hx
    have hx1 := h1.all x hx
    have ox := h.off x hx
    obtain ⟨_, _, _, _, _, _, ell, _⟩ := id hx0.wk
    exact ⟨old ell, nk1 (fun q => (ox Ls (.inl rfl)).1 q.symm) (s1 _ _ ell), old hx0.kr, nk1 (fun q => (ox Ls (.inl rfl)).2.1 q.symm) hx1.kr, old hx0.P, nk1 (fun q => (ox Ls (.inl rfl)).2.2 q.symm) hx1.P, by
      by_cases q : x = z
      · rw [q]; exact hz1.nP.1
      · obtain ⟨i, ei⟩ := List.mem_iff_getElem?.mp hx
        obtain ⟨j, ej⟩ := List.mem_iff_getElem?.mp hz
        exact (h.apt j i z x ej ei (fun w => q (by rw [w, ei] at ej; exact Option.some.inj ej))).e, by
      by_cases q : x = z
      · rw [q]; exact hz1.nP.2
      · obtain ⟨i, ei⟩ := List.mem_iff_getElem?.mp hx
        obtain ⟨j, ej⟩ := List.mem_iff_getElem?.mp hz
        exact (h.apt j i z x ej ei (fun w => q (by rw [w, ei] at ej; exact Option.some.inj ej))).f⟩
  refine ⟨⟨?_, ?_, ?_⟩, keep n4 n5 n6 h1.eL, fun x hx => ?_, fun x hx => ?_, fun x hx => ?_, by rw [List.length_append]; show 3 ≤ zs.length + 1 ∧ zs.length + 1 ≤ 4; omega, fun i j x y ei ej ne => ?_, fun x hx M hM => ?_, h.nd⟩
  · rw [upd_ne n2, upd_ne n1, s2 _ _ upd_same, List.map_append]
    rfl
  · rw [upd_ne n3, upd_same, List.map_append]
    rfl
  · rw [upd_same, List.map_append]
    rfl
  · rcases mem hx with hx | rfl
    · have ox := h.off x hx
      exact ((((h1.all x hx).put l1.s (ox Ls (.inl rfl)).1 (ox Ls (.inl rfl)).2.1 (ox Ls (.inl rfl)).2.2).same s2).put eLk2 (ox Lk (.inr (.inl rfl))).1 (ox Lk (.inr (.inl rfl))).2.1 (ox Lk (.inr (.inl rfl))).2.2).put eLp2 (ox Lp (.inr (.inr (.inl rfl)))).1 (ox Lp (.inr (.inr (.inl rfl)))).2.1 (ox Lp (.inr (.inr (.inl rfl)))).2.2
    · have nLs := old h.l3.s
      have nLk := old h.l3.k
      have nLp := old h.l3.p
      have tt : ∀ {a : Addr} {ys : List V}, H1 a = some (.tup ys) → upd (upd (upd (upd H1 Ls (.lst ((zs.map fun z => V.ref z.1.v) ++ [.ref v2]))) kr2 (.lst ((rws z.1.b0 z.2).map tv))) Lk (.lst ((zs.map fun z => V.ref z.1.kr) ++ [.ref kr2]))) Lp (.lst ((zs.map fun z => V.ref z.1.P) ++ [.ref z.1.P])) a = some (.tup ys) := fun e => keep (ne_tup_lst e l1.s) (ne_tup_lst e l1.k) (ne_tup_lst e l1.p) e
      refine ⟨(((WI.off wk l1.s nLs).same s2).off eLk2 nLk).off eLp2 nLp, ?_, ?_, tt hz1.t1, tt hz1.t2, hz1.g, nkl, ⟨old (h.all z hz).P, nk1 (fun q => (oz Ls (.inl rfl)).2.2 q.symm) hz1.P⟩⟩
      · show upd _ Lp _ kr2 = _
        rw [upd_ne nkLp, upd_ne nkLk]
        exact upd_same
      · exact keep (fun q => (oz Ls (.inl rfl)).2.2 q.symm) (fun q => (oz Lk (.inr (.inl rfl))).2.2 q.symm) (fun q => (oz Lp (.inr (.inr (.inl rfl)))).2.2 q.symm) hz1.P
  · rcases mem hx with hx | rfl
    · exact h.wo x hx
    · have := h.wo z hz
      exact ⟨this.R, this.q0, this.r0, this.zq, this.zr⟩
  · rcases mem hx with hx | rfl
    · exact h.few x hx
    · exact h.few z hz
  · rcases new ei with ⟨_, ei⟩ | ⟨qi, rfl⟩
    · rcases new ej with ⟨_, ej⟩ | ⟨qj, rfl⟩
      · exact h.apt i j x y ei ej ne
      · exact apx x (List.mem_of_getElem? ei)
    · rcases new ej with ⟨_, ej⟩ | ⟨qj, rfl⟩
      · exact (apx y (List.mem_of_getElem? ej)).symm
      · omega
  · rcases mem hx with hx | rfl
    · exact h.off x hx M hM
    · rcases hM with rfl | rfl | rfl | rfl
      · exact ⟨old h.l3.s, nkLs.symm, (oz _ (.inl rfl)).2.2⟩
      · exact ⟨old h.l3.k, nkLk.symm, (oz _ (.inr (.inl rfl))).2.2⟩
      · exact ⟨old h.l3.p, nkLp.symm, (oz _ (.inr (.inr (.inl rfl)))).2.2⟩
      · exact ⟨old h.eL, nkL.symm, (oz _ (.inr (.inr (.inr rfl)))).2.2⟩
end
end Hop

set_option Elab.async false
set_option linter.all false
set_option maxRecDepth 100000
namespace HopR
open PySem L2
/-! ### texts by their codes -/
def rt (cs : List Nat) : Str := ⟨cs.toArray⟩
def one (c : Nat) : Str := ⟨#[c]⟩
theorem rt_list (cs : List Nat) : (rt cs).cps.toList = cs := by simp [rt]
theorem rt_len (cs : List Nat) : (rt cs).length = cs.length := by
  show cs.toArray.size = cs.length
  simp
theorem rt_of (z : Str) : rt z.cps.toList = z := ext_str (rt_list _)
theorem rt_inj {a b : List Nat} (h : rt a = rt b) : a = b := by
  have := congrArg (fun q : Str => q.cps.toList) h
  simpa only [rt_list] using this
theorem rt_app (a b : List Nat) : rt a ++ rt b = rt (a ++ b) := by
  apply ext_str
  rw [rt_list]
  show ((rt a).cps ++ (rt b).cps).toList = a ++ b
  rw [Array.toList_append, rt_list, rt_list]
theorem rt_fit {cs : List Nat} (h : cs.length ≤ 10000) : (rt cs).length ≤ sizeLine := by
  rw [rt_len]
  exact fit h
theorem sg_rt (cs : List Nat) : sg (rt cs) = cs.map one := by
  unfold sg
  rw [rt_list]
  rfl
theorem join_rt (cs : List Nat) : Txt.join "" (cs.map one) = rt cs := by
  apply ext_str
  rw [join0_list, List.map_map, rt_list]
  induction cs with
  | nil => rfl
  | cons b r ih =>
    rw [List.map_cons, List.flatten_cons, ih]
    rfl
theorem ones_sum : ∀ cs : List Nat, ((cs.map one).map (·.length)).sum = cs.length
  | [] => rfl
  | c :: r => by
    rw [List.map_cons, List.map_cons, List.sum_cons, ones_sum r]
    show 1 + r.length = r.length + 1
    omega
theorem join_rt_fits {cs : List Nat} (h : cs.length ≤ 1000) : ((cs.map one).map (·.length)).sum + (cs.map one).length * ("" : Str).length ≤ 16777216 := by
  have e : ("" : Str).length = 0 := by decide +kernel
  rw [ones_sum, e, Nat.mul_zero]
  omega
theorem cut_rt (cs : List Nat) (lo hi : Option Int) : cutS (rt cs) lo hi = rt ((cs.drop (HT.sIx cs.length 0 lo)).take (HT.sIx cs.length cs.length hi - HT.sIx cs.length 0 lo)) := by
  apply ext_str
  unfold cutS
  rw [rt_len, rt_list, rt_list]
theorem cut_rt_to (cs : List Nat) (k : Nat) : cutS (rt cs) none (some (k : Int)) = rt (cs.take k) := by
  rw [cut_rt, HT.sIx_none, HT.sIx_nat, List.drop_zero, Nat.sub_zero]
  by_cases h : k ≤ cs.length
  · rw [Nat.min_eq_left h]
  · rw [Nat.min_eq_right (by omega), List.take_length, List.take_of_length_le (by omega)]
theorem cut_rt_from (cs : List Nat) (k : Nat) : cutS (rt cs) (some (k : Int)) none = rt (cs.drop k) := by
  rw [cut_rt, HT.sIx_none, HT.sIx_nat]
  by_cases h : k ≤ cs.length
  · rw [Nat.min_eq_left h, List.take_of_length_le (by rw [List.length_drop]; exact Nat.le_refl _)]
  · rw [Nat.min_eq_right (by omega), List.drop_length, List.drop_of_length_le (by omega), List.take_nil]
theorem one_inj {a b : Nat} (h : one a = one b) : a = b := by
  have := congrArg (fun q : Str => q.cps.toList) h
  exact (List.cons.inj this).1
theorem one_eq (a b : Nat) : (one a == one b) = decide (a = b) := by
  by_cases h : a = b
  · subst h
    simp
  · rw [decide_eq_false h]
    have : ¬ (one a = one b) := fun z => h (one_inj z)
    simp [this]
/-! ### signs in a written dict -/
theorem find_key (c : Nat) : ∀ (ts : List Nat) (L : List DictEntry), L.map (fun e => keyText e.key) = ts.map (fun q => some (one q)) → (L.find? (·.key.isStr (one c))).isSome = decide (c ∈ ts) ∧ L.any (·.refKey) = false
  | [], [], _ => ⟨by simp, rfl⟩
  | [], e :: r, h => by simp at h
  | q :: ts, [], h => by simp at h
  | q :: ts, e :: r, h => by
    rw [List.map_cons, List.map_cons] at h
    obtain ⟨h1, h2⟩ := List.cons.inj h
    obtain ⟨t, hk⟩ := keyText_str h1
    obtain ⟨i1, i2⟩ := find_key c ts r h2
    have e1 : e.key.isStr (one c) = decide (q = c) := by
      rw [hk]
      exact one_eq q c
    refine ⟨?_, ?_⟩
    · rw [List.find?_cons, e1]
      by_cases hq : q = c
      · rw [decide_eq_true hq]
        simp [hq]
      · rw [decide_eq_false hq]
        show (r.find? (·.key.isStr (one c))).isSome = _
        rw [i1]
        have : ¬ c = q := fun z => hq z.symm
        simp [this]
    · rw [List.any_cons, i2, Bool.or_false]
      unfold DictEntry.refKey
      rw [hk]
theorem key_in {K : PySem.W.Frag} {d : Addr} {es : Array DictEntry} {n : Nat} {ts : List Nat} (l : K.lookup d = some ⟨.type "dict", none, .dict es n, #[]⟩) (hk : es.toList.map (fun e => keyText e.key) = ts.map (fun q => some (one q))) (c : Nat) :
    ∃ r, PySem.W.nsIn K d (one c) = some r ∧ r.isSome = decide (c ∈ ts) := by
  obtain ⟨h1, h2⟩ := find_key c ts es.toList hk
  unfold PySem.W.nsIn
  rw [l]
  simp only
  cases hf : es.toList.find? (·.key.isStr (one c)) with
  | some e =>
    rw [hf] at h1
    exact ⟨_, rfl, h1⟩
  | none =>
    rw [hf] at h1
    simp only [h2]
    exact ⟨_, rfl, h1⟩
/-! ### rings -/
def okr (c : Nat) : Bool := decide (c ∈ [97, 98, 46])
def isRingB (z : Str) : Bool := decide (2 ≤ z.length) && (decide (z.length ≤ 12) && z.cps.toList.all okr)
/-- whether x is a ring -/
def RingB (K : PySem.W.Frag) (H : Hp) (x : V) (b : Bool) : Prop := (NoTxt K H x ∧ b = false) ∨ ∃ z : Str, x = .str z ∧ z.length ≤ 10000 ∧ b = isRingB z
theorem ringB_same {K : PySem.W.Frag} {H H' : Hp} {x : V} {b : Bool} (s : Same H H') (h : RingB K H x b) : RingB K H' x b := h.imp (fun ⟨q, e⟩ => ⟨notxt_same s q, e⟩) id
/-- a ring by its codes -/
structure Rg (cs : List Nat) : Prop where
  lo : 2 ≤ cs.length
  hi : cs.length ≤ 12
  ok : ∀ c ∈ cs, c ∈ [97, 98, 46]
theorem Rg.isB {cs : List Nat} (h : Rg cs) : isRingB (rt cs) = true := by
  unfold isRingB
  rw [rt_len, rt_list, decide_eq_true h.lo, decide_eq_true h.hi]
  show cs.all okr = true
  rw [List.all_eq_true]
  exact fun c hc => decide_eq_true (h.ok c hc)
/-- how far above the others a sign stands -/
def rk (c : Nat) : Nat := if c = 97 then 2 else if c = 98 then 1 else 0
def nxt (cs : List Nat) (i : Nat) : Nat := (i + 1) % cs.length
theorem nxt_lt {cs : List Nat} (h : Rg cs) (i : Nat) : nxt cs i < cs.length := Nat.mod_lt _ (Nat.lt_of_lt_of_le (by decide) h.lo)
/-- the signs at a place and at the next one exchanged -/
def swp (cs : List Nat) (i : Nat) : List Nat := (cs.set i (cs.getD (nxt cs i) 0)).set (nxt cs i) (cs.getD i 0)
theorem swp_len (cs : List Nat) (i : Nat) : (swp cs i).length = cs.length := by
  unfold swp
  rw [List.length_set, List.length_set]
def ups (cs : List Nat) (i : Nat) : Bool := decide (rk (cs.getD (nxt cs i) 0) < rk (cs.getD i 0))
def rchg (cs : List Nat) (m : Nat) : List Nat := (List.range m).filter (ups cs)
theorem rchg_succ (cs : List Nat) (i : Nat) : rchg cs (i + 1) = rchg cs i ++ (if ups cs i then [i] else []) := by
  unfold rchg
  rw [List.range_succ, List.filter_append]
  congr 1
  cases h : ups cs i with
  | true => simp [h]
  | false => simp [h]
theorem rchg_few (cs : List Nat) (m : Nat) : (rchg cs m).length ≤ m := by
  refine Nat.le_trans (List.length_filter_le _ _) ?_
  rw [List.length_range]
  exact Nat.le_refl _
/-- the data of the changes -/
def dchg (cs : List Nat) (ks : List Nat) : List PyData := ks.map fun (k : Nat) => PyData.tuple [.int (k : Int), .str (rt (swp cs k))]
/-- a list of tuples (place, ring) -/
def Tups (H : Hp) (cs : List Nat) : List Nat → List V → Prop
  | [], vs => vs = []
  | k :: r, vs => ∃ p vr, vs = .ref p :: vr ∧ H p = some (.tup [.int (k : Int), .str (rt (swp cs k))]) ∧ Tups H cs r vr
theorem tups_same {H H' : Hp} {cs : List Nat} (s : Same H H') : ∀ {ks : List Nat} {vs : List V}, Tups H cs ks vs → Tups H' cs ks vs
  | [], _, h => h
  | k :: r, _, ⟨p, vr, e, h1, h2⟩ => ⟨p, vr, e, s _ _ h1, tups_same s h2⟩
theorem tups_add {H : Hp} {cs : List Nat} {k : Nat} {p : Addr} (h1 : H p = some (.tup [.int (k : Int), .str (rt (swp cs k))])) : ∀ {ks : List Nat} {vs : List V}, Tups H cs ks vs → Tups H cs (ks ++ [k]) (vs ++ [.ref p])
  | [], _, h => by
    cases h
    exact ⟨p, [], rfl, h1, rfl⟩
  | q :: r, _, ⟨p', vr, e, h2, h3⟩ => ⟨p', vr ++ [.ref p], by rw [e]; rfl, h2, tups_add h1 h3⟩
theorem tups_upd {H : Hp} {cs : List Nat} {D : Addr} {xs : List V} {o : HO} (hD : H D = some (.lst xs)) : ∀ {ks : List Nat} {vs : List V}, Tups H cs ks vs → Tups (upd H D o) cs ks vs
  | [], _, h => h
  | k :: r, _, ⟨p, vr, e, h1, h2⟩ => ⟨p, vr, e, by
      rw [upd_ne (fun z => by rw [z, hD] at h1; cases h1)]
      exact h1, tups_upd hD h2⟩
theorem tups_len {H : Hp} {cs : List Nat} : ∀ {ks : List Nat} {vs : List V}, Tups H cs ks vs → vs.length = ks.length
  | [], _, h => by
    cases h
    rfl
  | k :: r, _, ⟨p, vr, e, _, h2⟩ => by
    rw [e, List.length_cons, List.length_cons, tups_len h2]
theorem tups_dp {K : PySem.W.Frag} {H : Hp} {cs : List Nat} : ∀ {ks : List Nat} {vs : List V}, Tups H cs ks vs → DpAll K H vs (dchg cs ks)
  | [], _, h => by
    cases h
    exact .nil
  | k :: r, _, ⟨p, vr, e, h1, h2⟩ => by
    rw [e]
    exact .cons (.tup (SqT.of h1) (.cons (.int _) (.cons (.str _) .nil))) (tups_dp h2)
theorem getD_small {cs : List Nat} (h : Rg cs) (i : Nat) : cs.getD i 0 < 1114112 := by
  rw [List.getD_eq_getElem?_getD]
  cases e : cs[i]? with
  | none => show 0 < 1114112; decide
  | some c =>
    have := h.ok c (List.mem_of_getElem? e)
    simp only [List.mem_cons, List.not_mem_nil, or_false] at this
    show c < 1114112
    omega
theorem strOk_swp {cs : List Nat} (h : Rg cs) (i : Nat) : PyData.strOk (rt (swp cs i)) = true := by
  unfold PyData.strOk
  rw [← Array.all_toList, rt_list, List.all_eq_true]
  intro c hc
  refine decide_eq_true ?_
  unfold swp at hc
  rcases List.mem_or_eq_of_mem_set hc with h1 | rfl
  · rcases List.mem_or_eq_of_mem_set h1 with h2 | rfl
    · have := h.ok c h2
      simp only [List.mem_cons, List.not_mem_nil, or_false] at this
      omega
    · exact getD_small h _
  · exact getD_small h _
theorem lay_dchg {cs : List Nat} (h : Rg cs) : ∀ ks : List Nat, PyData.canLayAll0 (dchg cs ks) = true
  | [] => rfl
  | k :: r => by
    show PyData.canLayAll0 (.tuple [.int (k : Int), .str (rt (swp cs k))] :: dchg cs r) = true
    simp only [PyData.canLayAll0, lay_dchg h r, Bool.and_true, PyData.canLay0, strOk_swp h]
theorem deep_dchg (cs : List Nat) : ∀ ks : List Nat, PyData.depthAll (dchg cs ks) ≤ 1
  | [] => by show 0 ≤ 1; decide
  | k :: r => by
    show PyData.depthAll (.tuple [.int (k : Int), .str (rt (swp cs k))] :: dchg cs r) ≤ 1
    have := deep_dchg cs r
    simp only [PyData.depthAll, PyData.depth]
    omega
theorem shaped_dchg {cs : List Nat} (h : Rg cs) (ks : List Nat) : SeqAt.shaped (.list (dchg cs ks)) = true := by
  unfold SeqAt.shaped
  rw [Bool.and_eq_true]
  refine ⟨?_, decide_eq_true ?_⟩
  · simp only [PyData.canLay0, lay_dchg h]
  · have := deep_dchg cs ks
    simp only [PyData.depth]
    omega
theorem eqv_dchg {cs : List Nat} (h : Rg cs) (ks : List Nat) : PyData.eqv (.list (dchg cs ks)) (.list (dchg cs ks)) = true := PySem.SeqAt.eqv_refl _ (by simp only [PyData.canLay0, lay_dchg h])
end HopR

set_option Elab.async false
set_option linter.all false
set_option maxRecDepth 100000
namespace HopR
open PySem PySem.Spec PyProof.Rows L2
section
variable {X : Cx}
/-- tuple(text) -/
def rTupT : List V → Hp → VK → Prop := fun vs H Q => ∃ z : Str, vs = [.str z] ∧ z.length ≤ sizeLine ∧ ∀ p : Addr, H p = none → Q (.ref p) (upd H p (.tup ((sg z).map V.str)))
theorem cr_tupT (hcm : X.calm = true) : CallR X (.type "tuple") rTupT := by
  rintro pins s σ H _ us Q I r ⟨z, rfl, hz, q⟩
  obtain ⟨_, rfl, t, rfl⟩ := vals1 r
  refine call_tuple_str (I.ok.hd hcm) z t (fun h' tk acc old items => ?_) hz
  have after : Inv X pins σ H { s with heap := h', toks := tk } := I.kept old
  refine ⟨.ref h'.objs.size, _, after.laid (t' := tk) (fun b o e => Heap.get?_push_of_some _ e) (Nat.le_refl _) ?_, rfl, q _ (after.hok.fresh (Nat.le_refl _))⟩
  refine ⟨by rw [List.length_map, sg_len]; exact hz, acc.toList, vals_of_strs (signs_are items), ?_⟩
  rw [Array.toArray_toList]
  exact IsTup.new _ _
end
/-! ### lists of whole numbers as data -/
def dis (zs : List Int) : List PyData := zs.map PyData.int
theorem dp_ints {K : PySem.W.Frag} {H : Hp} : ∀ zs : List Int, DpAll K H (zs.map V.int) (dis zs)
  | [] => .nil
  | z :: r => .cons (.int z) (dp_ints r)
theorem lay_ints : ∀ zs : List Int, PyData.canLayAll0 (dis zs) = true
  | [] => rfl
  | z :: r => by
    show PyData.canLayAll0 (.int z :: dis r) = true
    simp only [PyData.canLayAll0, lay_ints r, Bool.and_true]
    rfl
theorem deep_ints : ∀ zs : List Int, PyData.depthAll (dis zs) = 0
  | [] => rfl
  | z :: r => by
    show PyData.depthAll (.int z :: dis r) = 0
    simp only [PyData.depthAll, deep_ints r]
    rfl
theorem shaped_zs (zs : List Int) : SeqAt.shaped (.list (dis zs)) = true := by
  unfold SeqAt.shaped
  rw [Bool.and_eq_true]
  refine ⟨?_, decide_eq_true ?_⟩
  · simp only [PyData.canLay0, lay_ints]
  · simp only [PyData.depth, deep_ints]
    decide
theorem cut_ints (ns : List Int) (hi : Int) (hl : ns.length ≤ 63) : ∃ zs : List Int, cutV (ns.map V.int) none (some hi) = zs.map V.int ∧ zs.length ≤ 63 := by
  unfold cutV
  refine ⟨(ns.drop (HT.sIx (ns.map V.int).length 0 none)).take (HT.sIx (ns.map V.int).length (ns.map V.int).length (some hi) - HT.sIx (ns.map V.int).length 0 none), by rw [List.map_take, List.map_drop], ?_⟩
  rw [List.length_take, List.length_drop]
  omega
end HopR

set_option Elab.async false
set_option linter.all false
set_option maxRecDepth 100000
namespace Hop
open PySem L2 HopR
open C8 (InsC call_isC)
abbrev nLaw : List Str := ["_law_script", "_law_k", "_law_rows", "_law_paces_here", "_law_some", "_law_inn", "_law_out", "_law_kept", "_law_cell", "_law_draws", "_law_at", "_law_walk", "_law_row_here"]
theorem scLaw : FnScope nLaw ["_law_script"] (defScope sLaw) := ⟨rfl, rfl, rfl, by decide +kernel, rfl, by decide +kernel, by decide +kernel⟩
def spLaw (K : PySem.W.Frag) : Sp := fun vs H Q _ => ∃ (a : Addr) (ns : List Int), vs = [.ref a] ∧ SqL K H a (ns.map V.int) ∧ ns.length ≤ 63 ∧ ∀ H', Q (.bl true) H'
def forBody (s : Stmt) : List Stmt := match s with
  | .For _ _ b _ _ => b
  | _ => []
theorem draws4 {c z0 z1 z2 z3 : Int} (h0 : 0 < z0) (h1 : 0 < z1) (h2 : 0 < z2) (h3 : 0 < z3) : ∃ d0 d1 d2 d3 : Int, draws c 0 [z0, z1, z2, z3] = [d0, d1, d2, d3] ∧ (0 ≤ d0 ∧ d0 < z0) ∧ (0 ≤ d1 ∧ d1 < z1) ∧ (0 ≤ d2 ∧ d2 < z2) ∧ (0 ≤ d3 ∧ d3 < z3) := ⟨_, _, _, _, rfl, dval_ok h0, dval_ok h1, dval_ok h2, dval_ok h3⟩
/-- the law's own defs, and a Walk without paces -/
structure LJ (K : PySem.W.Frag) (mg : Str → Option Value) (fce fdr flo frw fpa fde fal fsh ffr la lb lt : Addr) (gce gdr glo grw gpa gde gal gsh gfr ga' gb' gt' gwi : FuncData) (dA : List Value) : Prop where
  Ne : Fn K mg "_law_cell_at" sCellAt ["_law_script", "_law_k"] fce gce
  Nd : Fn K mg "_law_drawn" sDrawn ["_law_cell", "_law_sizes"] fdr gdr
  Nl : Fn K mg "_law_low" sLow ["_law_top", "_law_bottom"] flo glo
  Nr : Fn K mg "_law_row" sLRow ["_law_cell", "_law_most"] frw grw
  Np : Fn K mg "_law_paces" sLPaces ["_law_cell"] fpa gpa
  Nde : Fn K mg "_law_deed" sLDeed ["_law_walk", "_law_rows", "_law_draws"] fde gde
  Nal : Fn K mg "_law_alike" sLAlike ["_law_some", "_law_kept", "_law_paces_here"] fal gal
  Nsh : Fn K mg "_law_shown" sLShown ["_law_walk", "_law_row_here", "_law_paces_here"] fsh gsh
  Nfr : Fn K mg "_law_as_fresh" sLFresh ["_law_walk", "_law_rows", "_law_paces_here"] ffr gfr
  Na : Fn K mg "_law_open" sOpen ["_law_row_here"] la ga'
  Nb : Fn K mg "_law_behind" sBehind ["_law_row_here", "_law_shut"] lb gb'
  Nt : Fn K mg "_law_text" sLText ["_law_one"] lt gt'
  b2 : Binds K gwi ["self", "row", "inn", "out"] dA
  v2 : Vals [.non, .non] dA
def rLenQ (K : PySem.W.Frag) : List V → Hp → VK → Prop := fun xs H Q => ∃ p ys, xs = [.ref p] ∧ (SqL K H p ys ∨ SqT K H p ys) ∧ Q (.int ys.length) H
def rSubI : R2 := rI0 fun i j => .int (i - j)
theorem shaped_nil : SeqAt.shaped (.list []) = true := by decide +kernel
theorem eqv_dis (zs : List Int) : PyData.eqv (.list (dis zs)) (.list (dis zs)) = true := PySem.SeqAt.eqv_refl _ (by simp only [PyData.canLay0, lay_ints])
theorem wv_int (ks : List Nat) : ks.map wv = (ks.map fun k : Nat => (k : Int)).map V.int := by rw [List.map_map]; rfl
theorem map_take {zs : List (Wt × List Nat)} {j : Nat} {z : Wt × List Nat} (f : Wt × List Nat → V) (h : zs[j]? = some z) : (zs.take j).map f ++ [f z] = (zs.take (j + 1)).map f := by rw [List.take_add_one, h, List.map_append]; rfl
section
variable {P : Program} {w : World} {K : PySem.W.Frag} {mg : Str → Option Value} {base : Heap} {C W d : Addr} {es : Array DictEntry} {n : Nat}
variable {HE NL fI fwi : Addr} {gI gwi : FuncData}
variable {fi f1 f2 r1 r2 r3 r4 r6 p1 p2 p3 p4 fp ft fo fz fc : Addr} {gi g1 g2 s1 s2 s3 s4 s6 q1 q2 q3 q4 gp gt go gz gc : FuncData} {d1 : Value}
variable {ms mu md me mt ml : Addr} {hs' hu' hd' he' ht' hl' : FuncData}
variable {wr ws we wo pr pe fg : Addr} {gr gs ge go' hp he gg : FuncData}
variable {fce fdr flo frw fpa fde fal fsh ffr la lb lt : Addr} {gce gdr glo grw gpa gde gal gsh gfr ga' gb' gt' : FuncData} {dA : List Value}
/-- the end of a turn: all walks asked -/
theorem tailQ {f : Addr} {cdv : Value} {A : Around} {outer : List Env} {s : Shared} {H : Hp} {E : XK} {a : Addr} (hG : A.guards = some []) (hr : Room 14 (A.deeper (PyProof.Rows.envOfC "law" (defScope sLaw) s.heap.objs.size f cdv)))
    (J : LJ K mg fce fdr flo frw fpa fde fal fsh ffr la lb lt gce gdr glo grw gpa gde gal gsh gfr ga' gb' gt' gwi dA) (L : WL K mg W fwi ms mu fc md me mt ml gwi hs' hu' gc hd' he' ht' hl') (S : SW K mg C W wr ws we wo pr pe fg gr gs ge go' hp he gg) (cw : C ≠ W)
    (DD : WDefs K mg C fi f1 f2 r1 r2 r3 r4 r6 p1 p2 p3 p4 fp ft fo fz gi g1 g2 s1 s2 s3 s4 s6 q1 q2 q3 q4 gp gt go gz d1) (T : TxtP K mg C) (TR : TxtR K w mg d es n) (TF : TxtF mg) (TW : TxtW K mg W) (TE : TxtE K mg W) (Z : Er K mg HE NL fI gI) :
    ∃ tQ, PSs (cxOf CX0 P w K mg base nLaw "law" (defScope sLaw) f cdv A outer s H E).nox ((forBody ((defBody sLaw).getD 7 (.Pass ⟨0, 0, 0, 0⟩))).drop 4) tQ ∧
      ∀ (Ed : Ends) (Ls Lk Lp Lr LL p9 : Addr) (xs : List V) (zs : List (Wt × List Nat)) (m : Nat) (c at_ : Int) (y1 y5 y6 y11 y12 : Option V) (H9 : Hp), Lw C W H9 Ls Lk Lp LL xs zs m → m ≤ 50 →
        (∀ (z1 z11 z12 : Option V) (H2 : Hp), Same H9 H2 → Ed.nx [some (.ref a), z1, some (.ref Lr), some (.ref Lp), some (.ref Ls), y5, y6, some (.ref Lk), some (.int c), some (.ref p9), some (.int at_), z11, z12] H2) → tQ Ed [some (.ref a), y1, some (.ref Lr), some (.ref Lp), some (.ref Ls), y5, y6, some (.ref Lk), some (.int c), some (.ref p9), some (.int at_), y11, y12] H9 := by
  have nd := scLaw.nd
  have hu := hu66 hr
  have hu64 : (A.deeper (PyProof.Rows.envOfC "law" (defScope sLaw) s.heap.objs.size f cdv)).units + 64 < cLine := by omega
  have Gsh : FnOkG P w K mg base CX0 14 fsh gsh ["_law_walk", "_law_row_here", "_law_paces_here"] (spLShown C W) := ok_lshown (k := 0) J.Nsh.F J.Nt S T TR TF TW TE TR.repr TR.str
  have Gal : FnOk P w K mg base CX0 14 fal gal ["_law_some", "_law_kept", "_law_paces_here"] (spLAlike C W) := ok_lalike (k := 8) J.Nal.F S T TW TE TR.range
  have Gfr : FnOk P w K mg base CX0 14 ffr gfr ["_law_walk", "_law_rows", "_law_paces_here"] (spLFresh C W) := ok_lfresh (k := 3) J.Nfr.F L S cw DD T TR TW TE Z
  have Gl : FnOk P w K mg base CX0 1 ml hl' ["self"] (spWLen C W) := ok_wlen (k := 0) L.Fl T TW
  refine ⟨_, (pss_cons (ps_if (pt_not (pt_val (pe_call Gal hr (by rfl) J.Nal.g J.Nal.F.kp J.Nal.b .nil pass0 (pa_cons (pv 4) (pa_cons (pv 7) (pa_cons (pv 3) pa_nil)))))) (pss_one (ps_ret pe_bl)) pss_nil)
      (pss_cons (ps_if (pt_cmpR (op_neD hu64) (pe_lc (own := [("_law_k", 1)]) (g := gName 1) (by rfl) nd (pi_range1 (by rfl) TR.range (pa_cons (pe_callB call_len_seq (by rfl) T.len PySem.boot_len (pa_cons (pv 4) pa_nil)) pa_nil)) (blkOk_by (own := [("_law_k", 1)]) (N := nLaw) (sc := defScope sLaw) (by decide +kernel)) (fun _ _ _ _ _ => pg_name (i := 1) nd rfl (Or.inl rfl)) (fun _ _ _ _ _ => pts_one (pt_not (pt_val (pe_callG Gsh hG hr (by rfl) J.Nsh.g J.Nsh.F.kp J.Nsh.b .nil pass0 (pa_cons (pe_ix (show IxR _ (rIxL K) from ix_list) (pv 4) (pv 1) (fun _ _ => rfl)) (pa_cons (pe_ix (show IxR _ (rIxL K) from ix_list) (pe_ix (show IxR _ (rIxL K) from ix_list) (pv 7) (pv 1) (fun _ _ => rfl)) (pe_un un_neg pe_int) (fun _ _ => rfl)) (pa_cons (pe_ix (show IxR _ (rIxL K) from ix_list) (pv 3) (pv 1) (fun _ _ => rfl)) pa_nil))))))) (fun _ _ _ _ _ => pv 1)) (pe_lst pa_nil) (nomark _)) (pss_one (ps_ret pe_bl)) pss_nil)
      (pss_one (ps_if (pt_cmpR (op_neD hu64) (pe_lc (own := [("_law_walk", 11)]) (g := gName 11) (tt := tYes) rfl nd (pi_list (pv 4)) (blkOk_by (own := [("_law_walk", 11)]) (N := nLaw) (sc := defScope sLaw) (by decide +kernel)) (fun _ _ _ _ _ => pg_name (i := 11) nd rfl (Or.inl rfl)) (fun _ _ _ _ _ => pts_nil) (fun _ _ _ _ _ => pe_callB (show CallR _ (.builtin "len") (rOwn1 W (spWLen C W) _ isLen) from cr_lenOwn L.Ml L.nl Gl (hr.mono (by omega)) L.bl pass0) (by rfl) T.len PySem.boot_len (pa_cons (pv 11) pa_nil))) (pe_lc (own := [("_law_row_here", 12)]) (g := gName 12) (tt := tYes) rfl nd (pi_list (pv 7)) (blkOk_by (own := [("_law_row_here", 12)]) (N := nLaw) (sc := defScope sLaw) (by decide +kernel)) (fun _ _ _ _ _ => pg_name (i := 12) nd rfl (Or.inl rfl)) (fun _ _ _ _ _ => pts_nil) (fun _ _ _ _ _ => pe_op (show OpR _ (binaryOp .Sub) rSubI from op_sub) (pe_callB (show CallR _ (.builtin "len") (rLenQ K) from call_len_seq) (by rfl) T.len PySem.boot_len (pa_cons (pv 12) pa_nil)) pe_int)) (nomark _)) (pss_one (ps_ret pe_bl)) pss_nil)))), ?_⟩
  intro Ed Ls Lk Lp Lr LL p9 xs zs m c at_ y1 y5 y6 y11 y12 H9 h hm go9
  have hl4 := h.len.2
  have en : ∀ {m : Nat}, (m : Int).toNat = m := fun {m} => by omega
  refine ⟨.ref Ls, rfl, .ref Lk, rfl, .ref Lp, rfl, Ls, Lk, Lp, zs, rfl, h.l3, h.all, by omega, fun H1 t1 => ⟨true, rfl, iteF ?_⟩⟩
  have h1 := h.same t1
  -- shown
  refine ⟨.ref Ls, rfl, Ls, _, rfl, .inl (SqL.of h1.l3.s), _, rfl, by rw [List.length_map]; omega, by rw [List.length_map]; omega, fun D hD => ?_⟩
  rw [en, List.length_map]
  refine lc_range (lo := 0) (n := zs.length) (fun j H3 => Same H1 H3 ∧ H3 D = some (.lst [])) ⟨same_upd hD, upd_same⟩ ?_ ?_
  · rintro j H3 hj ⟨s3, eD⟩
    rw [Int.zero_add]
    have h3 := h1.same s3
    obtain ⟨z, hz⟩ : ∃ z, zs[j]? = some z := ⟨_, List.getElem?_eq_getElem hj⟩
    have mz := List.mem_of_getElem? hz
    have hdz := h3.all z mz
    have wz := h3.wo z mz
    obtain ⟨hRz, hlz⟩ := good_fin wz.R _ z.2 rfl hdz.g
    have h30 := hRz.2
    refine ⟨rfl, .ref Ls, rfl, .int (j : Int), rfl, Ls, _, _, .ref z.1.v, rfl, rfl, SqL.of h3.l3.s, at_z (fun z => .ref z.1.v) hz, .ref Lk, rfl, .int (j : Int), rfl, Lk, _, _, .ref z.1.kr, rfl, rfl, SqL.of h3.l3.k, at_z (fun z => .ref z.1.kr) hz, 1, rfl, z.1.kr, _, -1, _, rfl, rfl, SqL.of hdz.kr, at_rws _ _,
      .ref Lp, rfl, .int (j : Int), rfl, Lp, _, _, .ref z.1.P, rfl, rfl, SqL.of h3.l3.p, at_z (fun z => .ref z.1.P) hz, z.1.v, z.1.l, z.1.P, z.1.t1, z.1.t2, fin z.1.b0 z.2, path z.1.b0 z.2, z.1.q, z.1.r, rfl, hdz.wk, h30, wz.zq.mono (by decide), wz.zr.mono (by decide), hdz.P, hdz.t1, hdz.t2, fun H4 s4 => ⟨true, rfl, iteF ⟨s3.trans s4, s4 _ _ eD⟩⟩⟩
  rintro H3 ⟨s3, eD⟩
  have h3 := h1.same s3
  refine ⟨Nat.zero_le _, fun pe npe => ⟨.list [], .list [], .lst (SqL.of (same_upd npe _ _ eD)) .nil, .lst (SqL.of upd_same) .nil, shaped_nil, shaped_nil, _, rfl, ?_⟩⟩
  refine iteF ?_
  have h4 := h3.same (same_upd (o := .lst []) npe)
  have t4 : Same H9 (upd H3 pe (.lst [])) := (t1.trans s3).trans (same_upd npe)
  generalize upd H3 pe (.lst []) = H4 at h4 t4
  -- how long
  refine ⟨.ref Ls, rfl, Ls, rfl, ⟨_, SqL.of h4.l3.s⟩, fun D1 hD1 => ?_⟩
  refine lc_list (K := K) (a := Ls) (xs := zs.map fun z => V.ref z.1.v) (fun j H5 => Same H4 H5 ∧ H5 D1 = some (.lst ((zs.take j).map fun z => V.int (z.2.length : Int)))) ⟨same_upd hD1, upd_same⟩ (fun j H5 _ h => SqL.of (h.1 _ _ h4.l3.s)) ?_ ?_
  · rintro j x H5 hx ⟨s5, eD1⟩
    rw [List.getElem?_map] at hx
    obtain ⟨z, hz, rfl⟩ := Option.map_eq_some_iff.mp hx
    have h5 := h4.same s5
    have hdz := h5.all z (List.mem_of_getElem? hz)
    obtain ⟨dz, _, _, _, _, evz, _⟩ := id hdz.wk
    have hzl := h5.few z (List.mem_of_getElem? hz)
    refine ⟨rfl, .ref z.1.v, rfl, z.1.v, dz, _, rfl, evz, z.1.v, z.1.l, _, _, z.1.q, z.1.r, rfl, hdz.wk, _, rfl, ⟨by rw [path_len]; omega, by rw [path_len]; omega⟩, _, eD1, fit' (by rw [List.length_map, List.length_take]; omega), same_new hD1 s5, ?_⟩
    rw [upd_same, ← map_take (fun z : Wt × List Nat => V.int (z.2.length : Int)) hz, path_len]
  rintro H5 ⟨s5, eD1⟩
  rw [List.length_map, List.take_length] at eD1
  have h5 := h4.same s5
  refine ⟨.ref Lk, rfl, Lk, rfl, ⟨_, SqL.of h5.l3.k⟩, fun D2 hD2 => ?_⟩
  refine lc_list (K := K) (a := Lk) (xs := zs.map fun z => V.ref z.1.kr) (fun j H6 => Same H5 H6 ∧ H6 D2 = some (.lst ((zs.take j).map fun z => V.int (z.2.length : Int)))) ⟨same_upd hD2, upd_same⟩ (fun j H6 _ h => SqL.of (h.1 _ _ h5.l3.k)) ?_ ?_
  · rintro j x H6 hx ⟨s6, eD2⟩
    rw [List.getElem?_map] at hx
    obtain ⟨z, hz, rfl⟩ := Option.map_eq_some_iff.mp hx
    have h6 := h5.same s6
    have hdz := h6.all z (List.mem_of_getElem? hz)
    have el : (fun i j : Int => V.int (i - j)) ((((rws z.1.b0 z.2).map tv).length : Nat) : Int) 1 = V.int (z.2.length : Int) := by
      show V.int (((((rws z.1.b0 z.2).map tv).length : Nat) : Int) - 1) = _
      rw [List.length_map, rws_len]
      congr 1
      omega
    refine ⟨rfl, .ref z.1.kr, rfl, z.1.kr, _, rfl, .inl (SqL.of hdz.kr), _, 1, rfl, rfl, _, eD2, fit' (by rw [List.length_map, List.length_take]; omega), same_new hD2 s6, ?_⟩
    rw [upd_same, ← map_take (fun z : Wt × List Nat => V.int (z.2.length : Int)) hz, el]
  rintro H6 ⟨s6, eD2⟩
  rw [List.length_map, List.take_length] at eD2
  have ei : (zs.map fun z => V.int (z.2.length : Int)) = (zs.map fun z => (z.2.length : Int)).map V.int := by rw [List.map_map]; rfl
  have eD1' := s6 _ _ eD1
  rw [ei] at eD1' eD2
  refine ⟨.list (dis (zs.map fun z => (z.2.length : Int))), .list (dis (zs.map fun z => (z.2.length : Int))), .lst (SqL.of eD1') (dp_ints _), .lst (SqL.of eD2) (dp_ints _), shaped_zs _, shaped_zs _, _, rfl, ?_⟩
  rw [eqv_dis]
  exact iteF (go9 _ _ _ H6 ((t4.trans s5).trans s6))
end
end Hop

set_option Elab.async false
set_option linter.all false
set_option maxRecDepth 100000
namespace Hop
open PySem L2 HopR
open C8 (InsC call_isC)
section
variable {P : Program} {w : World} {K : PySem.W.Frag} {mg : Str → Option Value} {base : Heap} {C W d : Addr} {es : Array DictEntry} {n : Nat}
variable {HE NL fI fwi : Addr} {gI gwi : FuncData}
variable {fi f1 f2 r1 r2 r3 r4 r6 p1 p2 p3 p4 fp ft fo fz fc : Addr} {gi g1 g2 s1 s2 s3 s4 s6 q1 q2 q3 q4 gp gt go gz gc : FuncData} {d1 : Value}
variable {ms mu md me mt ml : Addr} {hs' hu' hd' he' ht' hl' : FuncData}
variable {wr ws we wo pr pe fg : Addr} {gr gs ge go' hp he gg : FuncData}
variable {fce fdr flo frw fpa fde fal fsh ffr la lb lt : Addr} {gce gdr glo grw gpa gde gal gsh gfr ga' gb' gt' : FuncData} {dA : List Value}
/-- one turn -/
theorem turnB {f : Addr} {cdv : Value} {A : Around} {outer : List Env} {s : Shared} {H : Hp} {E : XK} {a : Addr} (hG : A.guards = some []) (hr : Room 14 (A.deeper (PyProof.Rows.envOfC "law" (defScope sLaw) s.heap.objs.size f cdv)))
    (J : LJ K mg fce fdr flo frw fpa fde fal fsh ffr la lb lt gce gdr glo grw gpa gde gal gsh gfr ga' gb' gt' gwi dA) (L : WL K mg W fwi ms mu fc md me mt ml gwi hs' hu' gc hd' he' ht' hl') (S : SW K mg C W wr ws we wo pr pe fg gr gs ge go' hp he gg) (cw : C ≠ W)
    (DD : WDefs K mg C fi f1 f2 r1 r2 r3 r4 r6 p1 p2 p3 p4 fp ft fo fz gi g1 g2 s1 s2 s3 s4 s6 q1 q2 q3 q4 gp gt go gz d1) (T : TxtP K mg C) (TR : TxtR K w mg d es n) (TF : TxtF mg) (TW : TxtW K mg W) (TE : TxtE K mg W) (Z : Er K mg HE NL fI gI) :
    ∃ tB, PSs (cxOf CX0 P w K mg base nLaw "law" (defScope sLaw) f cdv A outer s H E).nox (forBody ((defBody sLaw).getD 7 (.Pass ⟨0, 0, 0, 0⟩))) tB ∧
      ∀ (Ed : Ends) (Ls Lk Lp Lr LL : Addr) (xs : List V) (zs : List (Wt × List Nat)) (m : Nat) (c : Int) (y1 y5 y6 y9 y10 y11 y12 : Option V) (H9 : Hp), Lw C W H9 Ls Lk Lp LL xs zs m → m ≤ 45 →
        (∀ (zs2 : List (Wt × List Nat)) (z1 z8 z9 z10 z11 z12 : Option V) (H2 : Hp), Lw C W H2 Ls Lk Lp LL xs zs2 (m + 1) → Ed.nx [some (.ref a), z1, some (.ref Lr), some (.ref Lp), some (.ref Ls), y5, y6, some (.ref Lk), z8, z9, z10, z11, z12] H2) → tB Ed [some (.ref a), y1, some (.ref Lr), some (.ref Lp), some (.ref Ls), y5, y6, some (.ref Lk), some (.int c), y9, y10, y11, y12] H9 := by
  have nd := scLaw.nd
  have hu := hu66 hr
  have hu64 : (A.deeper (PyProof.Rows.envOfC "law" (defScope sLaw) s.heap.objs.size f cdv)).units + 64 < cLine := by omega
  have Gd : FnOk P w K mg base CX0 14 fdr gdr ["_law_cell", "_law_sizes"] (spDrawn K) := ok_drawn (k := 13) J.Nd.F T.len TR.range
  have Gde : FnOk P w K mg base CX0 14 fde gde ["_law_walk", "_law_rows", "_law_draws"] (spLDeed K C W) := ok_ldeed (k := 3) J.Nde.F J.Na J.Nb L.Fs L.bs L.Ms L.Fu L.bu L.Mu L.Fc L.bc L.mc cw DD T TR TW Z
  have Gtw : FnOk P w K mg base CX0 14 mt ht' ["self"] (spTwin C W) := ok_twin (k := 6) L.Ft L.M L.Fi L.b4 TE.gW cw TR.list DD T TR TW
  have Gdn : FnOk P w K mg base CX0 14 md hd' ["self"] (spDone C W) := ok_done (k := 13) L.Fd TW
  have Gch : FnOk P w K mg base CX0 14 me he' ["self"] (spChances C W) := ok_chances (k := 13) L.Fe TW
  have Gx : FnOk P w K mg base CX0 13 pe he ["self", "other"] (spPEq C) := ok_eq (k := 12) S.Fq T
  obtain ⟨tQ, pQ, hQ⟩ := tailQ (P := P) (base := base) (f := f) (cdv := cdv) (A := A) (outer := outer) (s := s) (H := H) (E := E) (a := a) hG hr J L S cw DD T TR TF TW TE Z
  refine ⟨_, (pss_cons (ps_set (i := 9) nd rfl (.inl rfl) (pe_call Gd hr (by rfl) J.Nd.g J.Nd.F.kp J.Nd.b .nil pass0 (pa_cons (pv 8) (pa_cons (pe_lst (pa_cons pe_int (pa_cons pe_int (pa_cons pe_int (pa_cons pe_int pa_nil))))) pa_nil))))
    (pss_cons (ps_set (i := 10) nd rfl (.inl rfl) (pe_op op_mod (pe_ix ix_list (pv 9) pe_int (fun _ _ => rfl)) (pe_callB call_len_seq (by rfl) T.len PySem.boot_len (pa_cons (pv 4) pa_nil))))
    (pss_cons (ps_if (pt_not (pt_val (pe_call Gde hr (by rfl) J.Nde.g J.Nde.F.kp J.Nde.b .nil pass0 (pa_cons (pe_ix ix_list (pv 4) (pv 10) (fun _ _ => rfl)) (pa_cons (pe_ix ix_list (pv 7) (pv 10) (fun _ _ => rfl)) (pa_cons (pv 9) pa_nil)))))) (pss_one (ps_ret pe_bl)) pss_nil)
    (pss_cons (ps_if (PW.pt (pw_and (pt_cmpR op_eq (pe_ix ix_list (pv 9) pe_int (fun _ _ => rfl)) pe_int (nomark _)) (pw_and1 (pt_cmpR op_eq (pe_callB call_len_seq (by rfl) T.len PySem.boot_len (pa_cons (pv 4) pa_nil)) pe_int (nomark _))))) (pss_cons (ps_expr (pe_bm PySem.F.plainAttrs_list PySem.F.slot_list_append PySem.F.type_list_append mt_append (pv 4) (pa_cons (pe_meth0 (pe_ix ix_list (pv 4) pe_int (fun _ _ => rfl)) TW.cl L.Mt Gtw hr L.bt .nil pass0) pa_nil)))
      (pss_cons (ps_expr (pe_bm PySem.F.plainAttrs_list PySem.F.slot_list_append PySem.F.type_list_append mt_append (pv 7) (pa_cons (pe_callTy call_list_of (by rfl) TR.list (by decide +kernel) (pa_cons (pe_ix ix_list (pv 7) pe_int (fun _ _ => rfl)) pa_nil)) pa_nil)))
      (pss_cons (ps_expr (pe_bm PySem.F.plainAttrs_list PySem.F.slot_list_append PySem.F.type_list_append mt_append (pv 3) (pa_cons (pe_ix ix_list (pv 3) pe_int (fun _ _ => rfl)) pa_nil)))
      (pss_one (ps_if (PW.pt (pw_or (pt_cmpR (op_neD hu64) (pe_meth0 (pe_ix ix_list (pv 4) pe_int (fun _ _ => rfl)) TW.cl L.Md Gdn hr L.bd .nil pass0) (pe_meth0 (pe_ix ix_list (pv 4) pe_int (fun _ _ => rfl)) TW.cl L.Md Gdn hr L.bd .nil pass0) (nomark _)) (pw_or1 (pt_cmpR (op_neOwn S.pc Gx hr S.bq pass0) (pe_meth0 (pe_ix ix_list (pv 4) pe_int (fun _ _ => rfl)) TW.cl L.Me Gch hr L.be .nil pass0) (pe_meth0 (pe_ix ix_list (pv 4) pe_int (fun _ _ => rfl)) TW.cl L.Me Gch hr L.be .nil pass0) (nomark _))))) (pss_one (ps_ret pe_bl)) pss_nil))))) pss_nil)
    pQ)))), ?_⟩
  intro Ed Ls Lk Lp Lr LL xs zs m c y1 y5 y6 y9 y10 y11 y12 H9 h hm go9
  have l3 := h.len.1
  have hl4 := h.len.2
  refine ⟨.int c, rfl, (by show 4 ≤ sizeLine; decide), fun l2 n2 => ⟨c, l2, [4, 4, 60, 6], rfl, SqL.of upd_same, ?_, by decide, fun H1 pd s1 n1 e1 => ?_⟩⟩
  · intro z hz
    simp only [List.mem_cons, List.not_mem_nil, or_false] at hz
    rcases hz with rfl | rfl | rfl | rfl <;> exact ⟨by decide, by decide⟩
  obtain ⟨d0, d1, d2, d3, ed, b0, b1, b2, b3⟩ := draws4 (c := c) (z0 := 4) (z1 := 4) (z2 := 60) (z3 := 6) (by decide) (by decide) (by decide) (by decide)
  rw [ed] at e1
  have e1 : H1 pd = some (.lst [.int d0, .int d1, .int d2, .int d3]) := e1
  have h1 := h.same ((same_upd n2).trans s1)
  -- which one
  obtain ⟨j, hj⟩ : ∃ j : Nat, d0 % (zs.length : Int) = (j : Int) := ⟨(d0 % (zs.length : Int)).toNat, by have := Int.emod_nonneg d0 (show (zs.length : Int) ≠ 0 by omega); omega⟩
  have hjl : j < zs.length := by
    have := Int.emod_lt_of_pos d0 (show (0 : Int) < (zs.length : Int) by omega)
    omega
  obtain ⟨z, hz⟩ : ∃ z, zs[j]? = some z := ⟨_, List.getElem?_eq_getElem hjl⟩
  have mz := List.mem_of_getElem? hz
  refine ⟨.ref pd, rfl, pd, _, 0, .int d0, rfl, rfl, SqL.of e1, rfl, .ref Ls, rfl, Ls, _, rfl, .inl (SqL.of h1.l3.s), d0, _, rfl, rfl, by rw [List.length_map]; omega, ?_⟩
  rw [List.length_map]
  dsimp only
  rw [hj]
  refine ⟨.ref Ls, rfl, .int (j : Int), rfl, Ls, _, _, .ref z.1.v, rfl, rfl, SqL.of h1.l3.s, at_z (fun z => .ref z.1.v) hz, .ref Lk, rfl, .int (j : Int), rfl, Lk, _, _, .ref z.1.kr, rfl, rfl, SqL.of h1.l3.k, at_z (fun z => .ref z.1.kr) hz, .ref pd, rfl,
    z.1, z.2, pd, d0, d1, d2, d3, rfl, h1.all z mz, h1.wo z mz, Nat.le_trans (h1.few z mz) (by omega), SqL.of e1, fun H2 kz k2 hd2 hl2 => ⟨true, rfl, iteF ?_⟩⟩
  have hzl := h1.few z mz
  have h2 := h1.deed cw hz k2 hd2 (by omega)
  have el : (zs.set j (z.1, kz)).length = zs.length := List.length_set
  generalize zs.set j (z.1, kz) = zs2 at h2 el
  have hd9 := h.all z mz
  obtain ⟨d9, _, _, _, _, ev9, el9, _⟩ := id hd9.wk
  have s91 : Same H9 H1 := (same_upd n2).trans s1
  have e2 : H2 pd = some (.lst [.int d0, .int d1, .int d2, .int d3]) := k2 _ _ (ne_lst_ins e1 (s91 _ _ ev9)) (ne_of_none (same_upd n2 _ _ el9) n1).symm (ne_of_none (same_upd n2 _ _ hd9.kr) n1).symm e1
  dsimp only [gName, tSeq, tIfS, tNext]
  refine and_told (a := decide (d3 = 0)) (b := decide (zs2.length = 3)) (fun R rr => ?_) (fun _ R rr => ?_) ?_
  · refine ⟨.ref pd, rfl, pd, _, 3, .int d3, rfl, rfl, SqL.of e2, rfl, rfl, _, rfl, ?_⟩
    have e : decide (V.int d3 = V.int 0) = decide (d3 = 0) := by
      by_cases h : d3 = 0
      · rw [h]
        rfl
      · rw [decide_eq_false h, decide_eq_false fun z => h (V.int.inj z)]
    rw [e]
    exact rr
  · refine ⟨.ref Ls, rfl, Ls, _, rfl, .inl (SqL.of h2.l3.s), rfl, _, rfl, ?_⟩
    have e : decide (V.int (((zs2.map fun z => V.ref z.1.v).length : Nat) : Int) = V.int 3) = decide (zs2.length = 3) := by
      rw [List.length_map]
      by_cases h : zs2.length = 3
      · rw [h]
        rfl
      · rw [decide_eq_false h, decide_eq_false fun z => h (by have := V.int.inj z; omega)]
    rw [e]
    exact rr
  have hfin : ∀ (zs3 : List (Wt × List Nat)) (H3 : Hp), Lw C W H3 Ls Lk Lp LL xs zs3 (m + 1) → tQ Ed [some (.ref a), y1, some (.ref Lr), some (.ref Lp), some (.ref Ls), y5, y6, some (.ref Lk), some (.int c), some (.ref pd), some (.int (j : Int)), y11, y12] H3 := fun zs3 H3 h3 => hQ Ed Ls Lk Lp Lr LL pd xs zs3 (m + 1) c _ _ _ _ _ _ H3 h3 (by omega) fun z1 z11 z12 H4 s4 => go9 zs3 _ _ _ _ _ _ H4 (h3.same s4)
  by_cases hways : (decide (d3 = 0) && decide (zs2.length = 3)) = true
  · rw [hways]
    have h3l : zs2.length = 3 := of_decide_eq_true (Bool.and_eq_true_iff.mp hways).2
    obtain ⟨x, hx⟩ : ∃ x, zs2[0]? = some x := ⟨_, List.getElem?_eq_getElem (by omega)⟩
    have mx := List.mem_of_getElem? hx
    have hdx := h2.all x mx
    have wx := h2.wo x mx
    obtain ⟨hRx, _⟩ := good_fin wx.R _ x.2 rfl hdx.g
    obtain ⟨dx, _, _, _, _, evx, _⟩ := id hdx.wk
    have a0 := fun f => at_z (f := f) hx
    refine iteT ⟨.ref Ls, rfl, .inl ⟨rfl, _, SqL.of h2.l3.s⟩, .ref Ls, rfl, Ls, _, 0, .ref x.1.v, rfl, rfl, SqL.of h2.l3.s, a0 (fun z => .ref z.1.v), x.1.v, dx, _, rfl, evx, rfl, x.1.v, x.1.l, _, _, x.1.q, x.1.r, rfl, hdx.wk, hRx, fun H3 v2 l2 s3 nv nl wk3 => ?_⟩
    have l33 := h2.l3.same s3
    refine ⟨Ls, _, _, rfl, rfl, l33.s, fit' (by rw [List.length_map]; omega), ?_⟩
    have lk4 : upd H3 Ls (.lst ((zs2.map fun z => V.ref z.1.v) ++ [.ref v2])) Lk = some (.lst (zs2.map fun z => V.ref z.1.kr)) := by
      rw [upd_ne h2.nd.1.symm]
      exact l33.k
    have kr4 : upd H3 Ls (.lst ((zs2.map fun z => V.ref z.1.v) ++ [.ref v2])) x.1.kr = some (.lst ((rws x.1.b0 x.2).map tv)) := by
      rw [upd_ne (h2.off x mx Ls (.inl rfl)).2.1.symm]
      exact s3 _ _ hdx.kr
    refine ⟨.ref Lk, rfl, .inl ⟨rfl, _, SqL.of lk4⟩, .ref Lk, rfl, Lk, _, 0, .ref x.1.kr, rfl, rfl, SqL.of lk4, a0 (fun z => .ref z.1.kr), x.1.kr, _, rfl, .inl (SqL.of kr4), fun kr2 nk => ?_⟩
    have grow := h2.grow mx h3l s3 nl wk3 nk rfl
    have lk5 := same_upd (o := .lst ((rws x.1.b0 x.2).map tv)) nk _ _ lk4
    refine ⟨Lk, _, _, rfl, rfl, lk5, fit' (by rw [List.length_map]; omega), ?_⟩
    have lp4 : upd H3 Ls (.lst ((zs2.map fun z => V.ref z.1.v) ++ [.ref v2])) Lp = some (.lst (zs2.map fun z => V.ref z.1.P)) := by
      rw [upd_ne h2.nd.2.1.symm]
      exact l33.p
    have lp6 : upd (upd (upd H3 Ls (.lst ((zs2.map fun z => V.ref z.1.v) ++ [.ref v2]))) kr2 (.lst ((rws x.1.b0 x.2).map tv))) Lk (.lst ((zs2.map fun z => V.ref z.1.kr) ++ [.ref kr2])) Lp = some (.lst (zs2.map fun z => V.ref z.1.P)) := by
      rw [upd_ne h2.nd.2.2.1.symm]
      exact same_upd nk _ _ lp4
    refine ⟨.ref Lp, rfl, .inl ⟨rfl, _, SqL.of lp6⟩, .ref Lp, rfl, Lp, _, 0, .ref x.1.P, rfl, rfl, SqL.of lp6, a0 (fun z => .ref z.1.P), Lp, _, _, rfl, rfl, lp6, fit' (by rw [List.length_map]; omega), ?_⟩
    generalize upd (upd (upd (upd H3 Ls (.lst ((zs2.map fun z => V.ref z.1.v) ++ [.ref v2]))) kr2 (.lst ((rws x.1.b0 x.2).map tv))) Lk (.lst ((zs2.map fun z => V.ref z.1.kr) ++ [.ref kr2]))) Lp (.lst ((zs2.map fun z => V.ref z.1.P) ++ [.ref x.1.P])) = H6 at grow
    have g3 : (zs2 ++ [(({ x.1 with v := v2, l := l2, kr := kr2 } : Wt), x.2)])[3]? = some ({ x.1 with v := v2, l := l2, kr := kr2 }, x.2) := by
      rw [List.getElem?_append_right (by omega), h3l]
      rfl
    have g0 : (zs2 ++ [(({ x.1 with v := v2, l := l2, kr := kr2 } : Wt), x.2)])[0]? = some x := by
      rw [List.getElem?_append_left (by omega)]
      exact hx
    generalize zs2 ++ [(({ x.1 with v := v2, l := l2, kr := kr2 } : Wt), x.2)] = zs3 at grow g3 g0
    have hd0 := grow.all _ (List.mem_of_getElem? g0)
    have hd3 := grow.all _ (List.mem_of_getElem? g3)
    have wk0 : WK C W H6 x.1.v x.1.l (fin x.1.b0 x.2) (path x.1.b0 x.2) x.1.q x.1.r := hd0.wk
    have wk3 : WK C W H6 v2 l2 (fin x.1.b0 x.2) (path x.1.b0 x.2) x.1.q x.1.r := hd3.wk
    have hfx := h2.few x mx
    have b0v := at_z (fun z => V.ref z.1.v) g0
    have b3v := at_z (fun z => V.ref z.1.v) g3
    obtain ⟨dx3, _, _, _, _, ev3, _⟩ := id wk3
    obtain ⟨dx0, _, _, _, _, ev0, _⟩ := id wk0
    refine ⟨.ref Ls, rfl, Ls, _, 3, .ref v2, rfl, rfl, SqL.of grow.l3.s, b3v, v2, dx3, _, rfl, ev3, rfl, v2, l2, _, _, x.1.q, x.1.r, rfl, wk3, by rw [path_len]; omega, fun H7 p7 s7 n7 e7 => ?_⟩
    refine ⟨.ref Ls, rfl, Ls, _, 0, .ref x.1.v, rfl, rfl, SqL.of (s7 _ _ grow.l3.s), b0v, x.1.v, dx0, _, rfl, s7 _ _ ev0, rfl, x.1.v, x.1.l, _, _, x.1.q, x.1.r, rfl, wk0.same s7, by rw [path_len]; omega, fun H8 p8 s8 n8 e8 => ?_⟩
    rw [wv_int] at e7 e8
    refine ⟨.list (dis _), .list (dis _), .lst (SqL.of (s8 _ _ e7)) (dp_ints _), .lst (SqL.of e8) (dp_ints _), shaped_zs _, shaped_zs _, _, rfl, ?_⟩
    rw [eqv_dis]
    have s68 := s7.trans s8
    refine iteF ⟨.ref Ls, rfl, Ls, _, 3, .ref v2, rfl, rfl, SqL.of (s68 _ _ grow.l3.s), b3v, v2, dx3, _, rfl, s68 _ _ ev3, wf_no_chances, v2, l2, _, _, x.1.q, x.1.r, rfl, wk3.same s68, fun pp pa => ⟨.ref Ls, rfl, Ls, _, 0, .ref x.1.v, rfl, rfl, SqL.of (s68 _ _ grow.l3.s), b0v, x.1.v, dx0, _, rfl, s68 _ _ ev0, wf_no_chances, x.1.v, x.1.l, _, _, x.1.q, x.1.r, rfl, wk0.same s68, fun pz pb => ?_⟩⟩
    obtain ⟨da, ea⟩ := id pa
    obtain ⟨db, eb⟩ := id pb
    refine ⟨pp, pz, da, db, _, _, rfl, rfl, ea, eb, pp, pz, _, _, rfl, pa, pb, _, rfl, _, rfl, ?_⟩
    rw [decide_eq_true rfl]
    exact iteF (hfin zs3 H8 (grow.same s68))
  · have hno : (decide (d3 = 0) && decide (zs2.length = 3)) = false := Bool.eq_false_iff.mpr hways
    rw [hno]
    exact iteF (hfin zs2 H2 h2)
end
end Hop

set_option Elab.async false
set_option linter.all false
set_option maxRecDepth 100000
set_option exponentiation.threshold 200000
namespace Hop
open PySem L2 HopR
open C8 (InsC call_isC)
/-- the first walks as they are made -/
structure Mw (C W : Addr) (H0 H : Hp) (Ls : Addr) (ws : List (Addr × Addr)) (us : List (List Bool × Rat × Rat)) : Prop where
  eL : H Ls = some (.lst (ws.map fun w => V.ref w.1))
  all : ∀ (j : Nat) w u, ws[j]? = some w → us[j]? = some u → WK C W H w.1 w.2 u.1 [] u.2.1 u.2.2
  off : ∀ w ∈ ws, w.2 ≠ Ls ∧ H0 w.2 = none ∧ ∃ xs, H w.2 = some (.lst xs)
  nd : ∀ (i j : Nat) w x, ws[i]? = some w → ws[j]? = some x → i ≠ j → w.2 ≠ x.2
  old : ∀ a o, a ≠ Ls → H0 a = some o → H a = some o
theorem Mw.push {C W : Addr} {H0 H H1 : Hp} {Ls v2 l2 : Addr} {ws : List (Addr × Addr)} {us : List (List Bool × Rat × Rat)} {u : List Bool × Rat × Rat} (h : Mw C W H0 H Ls ws us) (s : Same H H1) (nl : H l2 = none) (hu : us[ws.length]? = some u) (wk : WK C W H1 v2 l2 u.1 [] u.2.1 u.2.2) :
    Mw C W H0 (upd H1 Ls (.lst ((ws.map fun w => V.ref w.1) ++ [.ref v2]))) Ls (ws ++ [(v2, l2)]) us := by
  have eL1 := s _ _ h.eL
  have nlL : l2 ≠ Ls := (ne_of_none h.eL nl).symm
  obtain ⟨_, _, _, _, _, _, el2, _⟩ := id wk
  have get : ∀ {j : Nat} {w : Addr × Addr}, (ws ++ [(v2, l2)])[j]? = some w → ws[j]? = some w ∨ (j = ws.length ∧ w = (v2, l2)) := fun {j w} e => by
    by_cases hj : j < ws.length
    · rw [List.getElem?_append_left hj] at e
      exact .inl e
    · rw [List.getElem?_append_right (by omega)] at e
      have : j - ws.length < 1 := (List.getElem?_eq_some_iff.mp e).1
      have j0 : j - ws.length = 0 := by omega
      rw [j0] at e
      exact .inr ⟨by omega, (Option.some.inj e).symm⟩
  refine ⟨?_, fun j w u' hw hu' => ?_, fun w hw => ?_, fun i j w x hw hx ne => ?_, fun a o n e => ?_⟩
  · rw [upd_same, List.map_append]
    rfl
  · rcases get hw with hw | ⟨rfl, rfl⟩
    · exact WI.off ((h.all j w u' hw hu').same s) eL1 (h.off w (List.mem_of_getElem? hw)).1.symm
    · rw [hu] at hu'
      obtain rfl := Option.some.inj hu'
      exact WI.off wk eL1 nlL.symm
  · rcases List.mem_append.mp hw with hw | hw
    · obtain ⟨n1, n2, xs, e⟩ := h.off w hw
      exact ⟨n1, n2, xs, by rw [upd_ne n1]; exact s _ _ e⟩
    · obtain rfl := List.mem_singleton.mp hw
      refine ⟨nlL, ?_, _, by rw [upd_ne nlL]; exact el2⟩
      cases e : H0 l2 with
      | none => rfl
      | some o =>
        have := h.old _ _ nlL e
        rw [nl] at this
        cases this
  · have old : ∀ {w : Addr × Addr} {i : Nat}, ws[i]? = some w → w.2 ≠ l2 := fun e => let ⟨_, _, _, q⟩ := h.off _ (List.mem_of_getElem? e); ne_of_none q nl
    rcases get hw with hw | ⟨qi, rfl⟩
    · rcases get hx with hx | ⟨qj, rfl⟩
      · exact h.nd i j w x hw hx ne
      · exact old hw
    · rcases get hx with hx | ⟨qj, rfl⟩
      · exact (old hx).symm
      · omega
  · rw [upd_ne n]
    exact s _ _ (h.old _ _ n e)
theorem Mw.same {C W : Addr} {H0 H H1 : Hp} {Ls : Addr} {ws : List (Addr × Addr)} {us : List (List Bool × Rat × Rat)} (h : Mw C W H0 H Ls ws us) (s : Same H H1) : Mw C W H0 H1 Ls ws us := ⟨s _ _ h.eL, fun j w u a b => (h.all j w u a b).same s, fun w hw => let ⟨a, b, xs, c⟩ := h.off w hw; ⟨a, b, xs, s _ _ c⟩, h.nd, fun a o n e => s _ _ (h.old a o n e)⟩
theorem cut_ints3 (ns : List Int) : ∃ zs : List Int, cutV (ns.map V.int) (some 3) (some 43) = zs.map V.int ∧ zs.length ≤ 40 := by
  unfold cutV
  refine ⟨(ns.drop (HT.sIx (ns.map V.int).length 0 (some 3))).take (HT.sIx (ns.map V.int).length (ns.map V.int).length (some 43) - HT.sIx (ns.map V.int).length 0 (some 3)), by rw [List.map_take, List.map_drop], ?_⟩
  rw [List.length_take, List.length_drop, List.length_map]
  have x1 : HT.sIx ns.length ns.length (some 43) = min 43 ns.length := HT.sIx_nat _ _ 43
  have x2 : HT.sIx ns.length 0 (some 3) = min 3 ns.length := HT.sIx_nat _ _ 3
  rw [x1, x2]
  omega
theorem ne_lst2 {H : Hp} {a b : Addr} {x : V} {xs : List V} (ha : H a = some (.lst (x :: xs))) (hb : H b = some (.lst [])) : a ≠ b := fun z => by
  rw [z, hb] at ha
  cases ha
theorem tq_one : tq (1 : Rat) = [.int 1, .int 1] := rfl
section
variable {P : Program} {w : World} {K : PySem.W.Frag} {mg : Str → Option Value} {base : Heap} {C W d : Addr} {es : Array DictEntry} {n : Nat}
variable {HE NL fI fwi : Addr} {gI gwi : FuncData}
variable {fi f1 f2 r1 r2 r3 r4 r6 p1 p2 p3 p4 fp ft fo fz fc : Addr} {gi g1 g2 s1 s2 s3 s4 s6 q1 q2 q3 q4 gp gt go gz gc : FuncData} {d1 : Value}
variable {ms mu md me mt ml : Addr} {hs' hu' hd' he' ht' hl' : FuncData}
variable {wr ws we wo pr pe fg : Addr} {gr gs ge go' hp he gg : FuncData}
variable {fce fdr flo frw fpa fde fal fsh ffr la lb lt : Addr} {gce gdr glo grw gpa gde gal gsh gfr ga' gb' gt' : FuncData} {dA : List Value}
theorem ok_law {f : Addr} {fd : FuncData} (F : Fun K "law" "law" sLaw f fd) (J : LJ K mg fce fdr flo frw fpa fde fal fsh ffr la lb lt gce gdr glo grw gpa gde gal gsh gfr ga' gb' gt' gwi dA) (L : WL K mg W fwi ms mu fc md me mt ml gwi hs' hu' gc hd' he' ht' hl') (S : SW K mg C W wr ws we wo pr pe fg gr gs ge go' hp he gg) (cw : C ≠ W)
    (DD : WDefs K mg C fi f1 f2 r1 r2 r3 r4 r6 p1 p2 p3 p4 fp ft fo fz gi g1 g2 s1 s2 s3 s4 s6 q1 q2 q3 q4 gp gt go gz d1) (T : TxtP K mg C) (TR : TxtR K w mg d es n) (TF : TxtF mg) (TW : TxtW K mg W) (TE : TxtE K mg W) (Z : Er K mg HE NL fI gI) :
    FnOkG P w K mg base CX0 15 f fd ["_law_script"] (spLaw K) := by
  have Ge : FnOk P w K mg base CX0 14 fce gce ["_law_script", "_law_k"] (spCellH K) := ok_cell (k := 13) J.Ne.F T.len
  have Gr : FnOk P w K mg base CX0 14 frw grw ["_law_cell", "_law_most"] spLRow := ok_lrow (k := 12) J.Nr.F J.Nd T.len TR.range TR.sorted
  have Gp : FnOk P w K mg base CX0 14 fpa gpa ["_law_cell"] (spLPaces C) := ok_lpaces (k := 12) J.Np.F J.Nd J.Nl T
  have GI : FnOk P w K mg base CX0 13 fi gi ["self", "top", "bottom"] (spInit C) := ok_init DD.N.M.F DD.N.M.N1 DD.N.M.N2 T
  have GW : FnOk P w K mg base CX0 13 fwi gwi ["self", "row", "inn", "out"] (spWInit C W) := ok_winit (k := 7) L.Fi cw DD T TR TW
  have Gfr : FnOk P w K mg base CX0 14 ffr gfr ["_law_walk", "_law_rows", "_law_paces_here"] (spLFresh C W) := ok_lfresh (k := 3) J.Nfr.F L S cw DD T TR TW TE Z
  refine okG F scLaw (fun vs H Q E h => ?_) (fun cdv A outer s H vs Q E hG hr h => ?_)
  · obtain ⟨a, ns, rfl, _⟩ := h
    rfl
  · obtain ⟨a, ns, rfl, hS, hlen, qq⟩ := h
    have nd := scLaw.nd
    have hu := hu66 hr
    have hu64 : (A.deeper (PyProof.Rows.envOfC "law" (defScope sLaw) s.heap.objs.size f cdv)).units + 64 < cLine := by omega
    obtain ⟨tB, pB, hB⟩ := turnB (P := P) (base := base) (f := f) (cdv := cdv) (A := A) (outer := outer) (s := s) (H := H) (E := E) (a := a) hG hr J L S cw DD T TR TF TW TE Z
    refine ⟨_, (pss_cons (ps_setLc (i := 2) (own := [("_law_k", 1)]) (g := gName 1) (tt := tYes) rfl nd rfl rfl (sw_true rfl rfl rfl (by decide +kernel)) (pi_range1 (by rfl) TR.range (pa_cons pe_int pa_nil)) (blkOk_by (own := [("_law_k", 1)]) (N := nLaw) (sc := defScope sLaw) (by decide +kernel)) (fun _ _ _ _ _ => pg_name (i := 1) nd rfl (Or.inl rfl)) (fun _ _ _ _ _ => pts_nil) (fun _ _ _ _ _ => pe_call Gr hr (by rfl) J.Nr.g J.Nr.F.kp J.Nr.b .nil pass0 (pa_cons (pe_call Ge hr (by rfl) J.Ne.g J.Ne.F.kp J.Ne.b .nil pass0 (pa_cons (pv 0) (pa_cons (pv 1) pa_nil))) (pa_cons pe_int pa_nil))))
      (pss_cons (ps_set (i := 3) nd rfl (.inr rfl) (pe_lst (pa_cons (pe_call Gp hr (by rfl) J.Np.g J.Np.F.kp J.Np.b .nil pass0 (pa_cons (pe_call Ge hr (by rfl) J.Ne.g J.Ne.F.kp J.Ne.b .nil pass0 (pa_cons (pv 0) (pa_cons pe_int pa_nil))) pa_nil)) (pa_cons (pe_call Gp hr (by rfl) J.Np.g J.Np.F.kp J.Np.b .nil pass0 (pa_cons (pe_op op_fdivW (pe_call Ge hr (by rfl) J.Ne.g J.Ne.F.kp J.Ne.b .nil pass0 (pa_cons (pv 0) (pa_cons pe_int pa_nil))) pe_int) pa_nil)) pa_nil))))
      (pss_cons (ps_set (i := 4) nd rfl (.inr rfl) (pe_lst pa_nil))
      (pss_cons (ps_for PassesOwn.never rfl (pi_range1 (by rfl) TR.range (pa_cons pe_int pa_nil)) (pg_name (i := 1) nd rfl (.inl rfl)) (pss_cons (ps_asg (pe_ix ix_list (pv 3) (pv 1) (fun _ _ => rfl)) (pg_lst (by rfl) (pgs_cons (pg_name (i := 5) nd rfl (.inl rfl)) (pgs_cons (pg_name (i := 6) nd rfl (.inl rfl)) pgs_nil)))) (pss_one (ps_expr (pe_bm PySem.F.plainAttrs_list PySem.F.slot_list_append PySem.F.type_list_append mt_append (pv 4) (pa_cons (pe_make L.M GW hr (by rfl) TE.gW L.b4 .nil pass0 (pa_cons (pe_ix ix_list (pv 2) (pv 1) (fun _ _ => rfl)) (pa_cons (pe_make DD.N.M.M GI hr (by rfl) T.mgC DD.N.M.b3 .nil pass0 (pa_cons (pe_ix ix_tup (pv 5) pe_int (fun _ _ => rfl)) (pa_cons (pe_ix ix_tup (pv 5) pe_int (fun _ _ => rfl)) pa_nil))) (pa_cons (pe_make DD.N.M.M GI hr (by rfl) T.mgC DD.N.M.b3 .nil pass0 (pa_cons (pe_ix ix_tup (pv 6) pe_int (fun _ _ => rfl)) (pa_cons (pe_ix ix_tup (pv 6) pe_int (fun _ _ => rfl)) pa_nil))) pa_nil)))) pa_nil))))))
      (pss_cons (ps_expr (pe_bm PySem.F.plainAttrs_list PySem.F.slot_list_append PySem.F.type_list_append mt_append (pv 4) (pa_cons (pe_make L.M GW hr (by rfl) TE.gW J.b2 J.v2 pass0 (pa_cons (pe_ix ix_list (pv 2) pe_int (fun _ _ => rfl)) pa_nil)) pa_nil)))
      (pss_cons (ps_expr (pe_bm PySem.F.plainAttrs_list PySem.F.slot_list_append PySem.F.type_list_append mt_append (pv 3) (pa_cons (pe_lst (pa_cons (pe_tup (pa_cons pe_int (pa_cons pe_int pa_nil))) (pa_cons (pe_tup (pa_cons pe_int (pa_cons pe_int pa_nil))) pa_nil))) pa_nil)))
      (pss_cons (ps_set (i := 7) nd rfl (.inr rfl) (pe_lst (pa_cons (pe_lst (pa_cons (pe_ix ix_list (pv 2) pe_int (fun _ _ => rfl)) pa_nil)) (pa_cons (pe_lst (pa_cons (pe_ix ix_list (pv 2) pe_int (fun _ _ => rfl)) pa_nil)) (pa_cons (pe_lst (pa_cons (pe_ix ix_list (pv 2) pe_int (fun _ _ => rfl)) pa_nil)) pa_nil)))))
      (pss_cons (ps_for PassesOwn.never rfl (pi_list (pe_op op_cat (pe_slice sl_list (pv 0) (po_some pe_int) (po_some pe_int)) (pe_lst (pa_cons pe_int (pa_cons pe_int pa_nil))))) (pg_name (i := 8) nd rfl (.inl rfl)) pB)
      (pss_one (ps_ret (pe_cmpR (op_eqD hu64) (pe_lc (own := [("_law_k", 1)]) (g := gName 1) (by rfl) nd (pi_range1 (by rfl) TR.range (pa_cons (pe_callB call_len_seq (by rfl) T.len PySem.boot_len (pa_cons (pv 4) pa_nil)) pa_nil)) (blkOk_by (own := [("_law_k", 1)]) (N := nLaw) (sc := defScope sLaw) (by decide +kernel)) (fun _ _ _ _ _ => pg_name (i := 1) nd rfl (Or.inl rfl)) (fun _ _ _ _ _ => pts_one (pt_not (pt_val (pe_call Gfr hr (by rfl) J.Nfr.g J.Nfr.F.kp J.Nfr.b .nil pass0 (pa_cons (pe_ix (show IxR _ (rIxL K) from ix_list) (pv 4) (pv 1) (fun _ _ => rfl)) (pa_cons (pe_ix (show IxR _ (rIxL K) from ix_list) (pv 7) (pv 1) (fun _ _ => rfl)) (pa_cons (pe_ix (show IxR _ (rIxL K) from ix_list) (pv 3) (pv 1) (fun _ _ => rfl)) pa_nil))))))) (fun _ _ _ _ _ => pv 1)) (pe_lst pa_nil) (nomark _)))))))))))), ?_⟩
    have up : ∀ {x : Nat}, x < 2 ^ 45 → x < 2 ^ 8000 := fun h => Nat.lt_of_lt_of_le h (Nat.pow_le_pow_right (by decide) (by decide))
    -- the rows
    refine ⟨2, rfl, by decide, by decide, fun Lr nLr => ?_⟩
    refine lc_range (lo := 0) (n := 2) (fun j H3 => Same H H3 ∧ ∃ us : List (List Bool), H3 Lr = some (.lst (us.map tv)) ∧ us.length = j ∧ ∀ u ∈ us, Row u) ⟨same_upd nLr, [], upd_same, rfl, fun _ h => nomatch h⟩ ?_ ?_
    · rintro j H3 hj ⟨s3, us, eD, lw, hus⟩
      rw [Int.zero_add]
      refine ⟨rfl, .ref a, rfl, .int (j : Int), rfl, a, ns, j, rfl, s3.seq hS, fun c => ⟨c, 5, rfl, by decide, by decide, fun H4 bs s4 h1 h6 => ⟨_, s4 _ _ eD, by rw [List.length_map]; exact fit' (by omega), same_new nLr (s3.trans s4), us ++ [bs], by rw [upd_same, List.map_append]; rfl, by rw [List.length_append, lw]; rfl, fun u hu => ?_⟩⟩⟩
      rcases List.mem_append.mp hu with hu | hu
      · exact hus u hu
      · obtain rfl := List.mem_singleton.mp hu
        exact ⟨h1, by omega⟩
    rintro H1 ⟨s1, us, eLr, lus, hus⟩
    obtain ⟨u0, u1, rfl⟩ : ∃ u0 u1, us = [u0, u1] := by
      match us, lus with
      | [u0, u1], _ => exact ⟨u0, u1, rfl⟩
    have hR0 := hus u0 (by simp)
    have hR1 := hus u1 (by simp)
    -- the paces
    refine ⟨.ref a, rfl, a, ns, 2, rfl, s1.seq hS, fun c2 => ⟨c2, rfl, fun H4 P0 t0 t0' q0 r0 s4 n4 eP0 et0 et0' hq0 hr0 zq0 zr0 => ?_⟩⟩
    refine ⟨.ref a, rfl, a, ns, 2, rfl, (s1.trans s4).seq hS, fun c3 => ⟨c3, 2, rfl, rfl, ⟨by decide, by decide⟩, c3 / 2, rfl, fun H5 P1 t1 t1' q1' r1' s5 n5 eP1 et1 et1' hq1 hr1 zq1 zr1 => ?_⟩⟩
    refine ⟨(by show 2 ≤ sizeLine; decide), fun Lp nLp => ⟨Nat.zero_le _, fun Ls nLs => ?_⟩⟩
    have s05 := s4.trans s5
    have sP : Same H5 (upd H5 Lp (.lst [.ref P0, .ref P1])) := same_upd nLp
    have nLsLp : Ls ≠ Lp := fun q => by rw [q, upd_same] at nLs; cases nLs
    have sS : Same (upd H5 Lp (.lst [.ref P0, .ref P1])) (upd (upd H5 Lp (.lst [.ref P0, .ref P1])) Ls (.lst [])) := same_upd nLs
    have eLp0 : upd (upd H5 Lp (.lst [.ref P0, .ref P1])) Ls (.lst []) Lp = some (.lst [.ref P0, .ref P1]) := sS _ _ upd_same
    have eLs0 : upd (upd H5 Lp (.lst [.ref P0, .ref P1])) Ls (.lst []) Ls = some (.lst []) := upd_same
    have s50 := sP.trans sS
    have oldLs : ∀ {x : Addr} {o : HO}, H5 x = some o → x ≠ Ls := fun e => ne_of_none (sP _ _ e) nLs
    have oldLp : ∀ {x : Addr} {o : HO}, H5 x = some o → x ≠ Lp := fun e => ne_of_none e nLp
    generalize upd (upd H5 Lp (.lst [.ref P0, .ref P1])) Ls (.lst []) = H0 at sS eLp0 eLs0 s50
    have s10 := (s4.trans s5).trans s50
    have eLr5 := s05 _ _ eLr
    have eLr0 := s10 _ _ eLr
    have eP00 := s50 _ _ (s5 _ _ eP0)
    have eP10 := s50 _ _ eP1
    have et00 := s50 _ _ (s5 _ _ et0)
    have et00' := s50 _ _ (s5 _ _ et0')
    have et10 := s50 _ _ et1
    have et10' := s50 _ _ et1'
    -- three walks
    obtain ⟨w0, hw0⟩ : ∃ us3 : List (List Bool × Rat × Rat), us3 = [(u0, q0, r0), (u1, q1', r1'), (u0, 1, 1)] := ⟨_, rfl⟩
    have mw0 : Mw C W H0 H0 Ls [] w0 := ⟨eLs0, (fun j w u e => by simp at e), (fun w hw => nomatch hw), (fun i j w x e => by simp at e), fun a o _ e => e⟩
    refine ⟨2, rfl, by decide, by decide, ?_⟩
    refine for_range (lo := 0) (n := 2) (fun i σ H6 => ∃ (ws : List (Addr × Addr)) (y1 y5 y6 : Option V), σ = [some (.ref a), y1, some (.ref Lr), some (.ref Lp), some (.ref Ls), y5, y6, none, none, none, none, none, none] ∧ ws.length = i ∧ Mw C W H0 H6 Ls ws w0) ⟨[], _, _, _, rfl, rfl, mw0⟩ ?_ ?_
    · rintro i σ H6 hi ⟨ws, y1, y5, y6, rfl, lws, mw⟩
      rw [Int.zero_add]
      obtain ⟨u, q, r, Pi, ta, tb, hu, hPi, hui, ePi, eta, etb, hq, hr', zq, zr, hR⟩ : ∃ (u : List Bool) (q r : Rat) (Pi ta tb : Addr), w0[i]? = some (u, q, r) ∧ [V.ref P0, .ref P1][i]? = some (.ref Pi) ∧ ([u0, u1].map tv)[i]? = some (tv u) ∧ H0 Pi = some (.lst [.ref ta, .ref tb]) ∧ H0 ta = some (.tup (tq q)) ∧ H0 tb = some (.tup (tq r)) ∧ 0 < q ∧ 0 < r ∧ Sz 45 q ∧ Sz 5 r ∧ Row u := by
        rw [hw0]
        match i, hi with
        | 0, _ => exact ⟨u0, q0, r0, P0, t0, t0', rfl, rfl, rfl, eP00, et00, et00', hq0, hr0, zq0, zr0, hR0⟩
        | 1, _ => exact ⟨u1, q1', r1', P1, t1, t1', rfl, rfl, rfl, eP10, et10, et10', hq1, hr1, zq1, zr1, hR1⟩
      have keep : ∀ {x : Addr} {o : HO}, x ≠ Ls → H0 x = some o → H6 x = some o := fun n e => mw.old _ _ n e
      have eLp6 := keep nLsLp.symm eLp0
      have nPi : Pi ≠ Ls := ne_lst2 ePi eLs0
      have ePi6 := keep nPi ePi
      have eta6 := keep (ne_tup_lst eta eLs0) eta
      have etb6 := keep (ne_tup_lst etb eLs0) etb
      have eLr6 := keep (oldLs eLr5) eLr0
      refine ⟨.ref Lp, rfl, .int (i : Int), rfl, Lp, _, _, .ref Pi, rfl, rfl, SqL.of eLp6, atI_nat hPi, Pi, _, rfl, SqL.of ePi6, rfl, _, _, rfl, _, _, rfl, rfl, ?_⟩
      refine ⟨.ref Ls, rfl, .inl ⟨rfl, _, SqL.of mw.eL⟩, .ref Lr, rfl, .int (i : Int), rfl, Lr, _, _, tv u, rfl, rfl, SqL.of eLr6, atI_nat hui, ?_⟩
      refine ⟨.ref ta, rfl, ta, _, 0, .int q.num, rfl, rfl, SqT.of eta6, rfl, .ref ta, rfl, ta, _, 1, .int (q.den : Int), rfl, rfl, SqT.of eta6, rfl, ?_⟩
      intro p dx np hdx ne
      refine ⟨p, dx, q.num, (q.den : Int), rfl, den_ne q, up zq.2, upd_same, rfl, ?_⟩
      rw [upd_upd]
      obtain ⟨x1, pa1⟩ := mk_facts (C := C) (q := Rat.divInt q.num (q.den : Int)) np hdx
      generalize upd (upd H6 dx (.own p)) p (.ins C dx (pf (Rat.divInt q.num (q.den : Int)))) = G1 at x1 pa1
      rw [Rat.num_divInt_den] at pa1
      refine ⟨.ref tb, rfl, tb, _, 0, .int r.num, rfl, rfl, SqT.of (x1 _ _ etb6), rfl, .ref tb, rfl, tb, _, 1, .int (r.den : Int), rfl, rfl, SqT.of (x1 _ _ etb6), rfl, ?_⟩
      intro p' dy np' hdy ne'
      refine ⟨p', dy, r.num, (r.den : Int), rfl, den_ne r, up (zr.mono (by decide : 5 ≤ 45)).2, upd_same, rfl, ?_⟩
      rw [upd_upd]
      obtain ⟨x2, pa2⟩ := mk_facts (C := C) (q := Rat.divInt r.num (r.den : Int)) np' hdy
      generalize upd (upd G1 dy (.own p')) p' (.ins C dy (pf (Rat.divInt r.num (r.den : Int)))) = G2 at x2 pa2
      rw [Rat.num_divInt_den] at pa2
      have pc1 : PC C G2 p q := ⟨pa1.same x2, hq, zq.mono (by decide)⟩
      have pc2 : PC C G2 p' r := ⟨pa2, hr', zr.mono (by decide)⟩
      intro v2 dv nv hdv nev
      have sV : Same G2 (upd (upd G2 dv (.own v2)) v2 (.ins W dv [])) := same_new nv (same_upd hdv)
      refine ⟨v2, dv, .ref p, .ref p', u, q, r, rfl, upd_same, hR, .inr ⟨p, rfl, PC.same sV pc1⟩, .inr ⟨p', rfl, PC.same sV pc2⟩, fun G3 l2 kp nl wk3 => ⟨rfl, ?_⟩⟩
      have x3 : Same G2 G3 := made_same nv hdv kp
      have x03 := (x1.trans x2).trans x3
      have nl6 : H6 l2 = none := (x1.trans x2).free (sV.free nl)
      refine ⟨Ls, _, _, rfl, rfl, x03 _ _ mw.eL, fit' (by rw [List.length_map]; omega), ?_⟩
      exact ⟨ws ++ [(v2, l2)], _, _, _, rfl, by rw [List.length_append, lws]; rfl, mw.push x03 nl6 (by rw [lws]; exact hu) wk3⟩
    rintro σ H6 ⟨ws, y1, y5, y6, rfl, lws, mw⟩
    have keep6 : ∀ {x : Addr} {o : HO}, x ≠ Ls → H0 x = some o → H6 x = some o := fun n e => mw.old _ _ n e
    have eLr6 := keep6 (oldLs eLr5) eLr0
    have at0 : ∀ {i : Nat} {u : List Bool}, [u0, u1][i]? = some u → atI ([u0, u1].map tv) (i : Int) = some (tv u) := fun h => atI_nat (by rw [List.getElem?_map, h]; rfl)
    -- one without paces
    refine ⟨.ref Ls, rfl, .inl ⟨rfl, _, SqL.of mw.eL⟩, .ref Lr, rfl, Lr, _, 0, tv u0, rfl, rfl, SqL.of eLr6, at0 (i := 0) rfl, ?_⟩
    intro v2 dv nv hdv nev
    have sV : Same H6 (upd (upd H6 dv (.own v2)) v2 (.ins W dv [])) := same_new nv (same_upd hdv)
    refine ⟨v2, dv, .non, .non, u0, 1, 1, rfl, upd_same, hR0, .inl ⟨rfl, rfl⟩, .inl ⟨rfl, rfl⟩, fun H7 l2 kp nl wk7 => ⟨rfl, ?_⟩⟩
    have s7 : Same H6 H7 := made_same nv hdv kp
    have nl6 : H6 l2 = none := sV.free nl
    refine ⟨Ls, _, _, rfl, rfl, s7 _ _ mw.eL, fit' (by rw [List.length_map]; omega), ?_⟩
    have mw3 := mw.push s7 nl6 (u := (u0, 1, 1)) (by rw [lws, hw0]; rfl) wk7
    have lws3 : (ws ++ [(v2, l2)]).length = 3 := by rw [List.length_append, lws]; rfl
    generalize ws ++ [(v2, l2)] = ws3 at mw3 lws3
    generalize upd H7 Ls (.lst ((ws.map fun w => V.ref w.1) ++ [.ref v2])) = H8 at mw3
    obtain ⟨⟨va, la⟩, ⟨vb, lb⟩, ⟨vc, lc⟩, rfl⟩ : ∃ x y z, ws3 = [x, y, z] := by
      match ws3, lws3 with
      | [x, y, z], _ => exact ⟨x, y, z, rfl⟩
    have wkA : WK C W H8 va la u0 [] q0 r0 := mw3.all 0 _ _ rfl (by rw [hw0]; rfl)
    have wkB : WK C W H8 vb lb u1 [] q1' r1' := mw3.all 1 _ _ rfl (by rw [hw0]; rfl)
    have wkC : WK C W H8 vc lc u0 [] 1 1 := mw3.all 2 _ _ rfl (by rw [hw0]; rfl)
    have nAB : la ≠ lb := mw3.nd 0 1 _ _ rfl rfl (by decide)
    have nAC : la ≠ lc := mw3.nd 0 2 _ _ rfl rfl (by decide)
    have nBC : lb ≠ lc := mw3.nd 1 2 _ _ rfl rfl (by decide)
    obtain ⟨nAs, fA, xA, eA⟩ := mw3.off (va, la) (by simp)
    obtain ⟨nBs, fB, xB, eB⟩ := mw3.off (vb, lb) (by simp)
    obtain ⟨nCs, fC, xC, eC⟩ := mw3.off (vc, lc) (by simp)
    have nAs : la ≠ Ls := nAs
    have nBs : lb ≠ Ls := nBs
    have nCs : lc ≠ Ls := nCs
    have fA : H0 la = none := fA
    have fB : H0 lb = none := fB
    have fC : H0 lc = none := fC
    have eA : H8 la = some (.lst xA) := eA
    have eB : H8 lb = some (.lst xB) := eB
    have eC : H8 lc = some (.lst xC) := eC
    have eLs8 : H8 Ls = some (.lst [.ref va, .ref vb, .ref vc]) := mw3.eL
    have keep8 : ∀ {x : Addr} {o : HO}, x ≠ Ls → H0 x = some o → H8 x = some o := fun n e => mw3.old _ _ n e
    have eLp8 := keep8 nLsLp.symm eLp0
    have nP0s : P0 ≠ Ls := ne_lst2 eP00 eLs0
    have nP1s : P1 ≠ Ls := ne_lst2 eP10 eLs0
    have nP0p : P0 ≠ Lp := oldLp (s5 _ _ eP0)
    have nP1p : P1 ≠ Lp := oldLp eP1
    have eP08 := keep8 nP0s eP00
    have eP18 := keep8 nP1s eP10
    have et08 := keep8 (ne_tup_lst et00 eLs0) et00
    have et08' := keep8 (ne_tup_lst et00' eLs0) et00'
    have et18 := keep8 (ne_tup_lst et10 eLs0) et10
    have et18' := keep8 (ne_tup_lst et10' eLs0) et10'
    have eLr8 := keep8 (oldLs eLr5) eLr0
    have nLrs : Lr ≠ Ls := oldLs eLr5
    have nLrp : Lr ≠ Lp := oldLp eLr5
    -- its paces
    refine ⟨.ref Lp, rfl, .inl ⟨rfl, _, SqL.of eLp8⟩, (by show 2 ≤ sizeLine; decide), fun t2 nt2 => ⟨(by show 2 ≤ sizeLine; decide), fun t2' nt2' => ⟨(by show 2 ≤ sizeLine; decide), fun P2 nP2 => ?_⟩⟩⟩
    have z1 := same_upd (o := .tup [.int 1, .int 1]) nt2
    have et2 : upd H8 t2 (.tup [.int 1, .int 1]) t2 = some (.tup (tq 1)) := upd_same
    generalize upd H8 t2 (.tup [.int 1, .int 1]) = G1 at z1 et2 nt2' nP2
    have z2 := same_upd (o := .tup [.int 1, .int 1]) nt2'
    have et2' : upd G1 t2' (.tup [.int 1, .int 1]) t2' = some (.tup (tq 1)) := upd_same
    generalize upd G1 t2' (.tup [.int 1, .int 1]) = G2 at z2 et2' nP2
    have z3 := same_upd (o := .lst [.ref t2, .ref t2']) nP2
    have eP2 : upd G2 P2 (.lst [.ref t2, .ref t2']) P2 = some (.lst [.ref t2, .ref t2']) := upd_same
    have z12 := z1.trans z2
    have yP : ∀ {x : Addr} {o : HO}, H8 x = some o → x ≠ P2 := fun e => ne_of_none (z12 _ _ e) nP2
    generalize upd G2 P2 (.lst [.ref t2, .ref t2']) = H9 at z3 eP2
    have z8 := z12.trans z3
    have et29 := (z2.trans z3) _ _ et2
    have et29' := z3 _ _ et2'
    have eLp9 := z8 _ _ eLp8
    refine ⟨Lp, _, _, rfl, rfl, eLp9, fit' (by show 2 ≤ 10000; decide), ?_⟩
    have k10 : ∀ {x : Addr} {o : HO}, x ≠ Lp → H9 x = some o → upd H9 Lp (.lst ([.ref P0, .ref P1] ++ [.ref P2])) x = some o := fun n e => by rw [upd_ne n]; exact e
    have eLp10 : upd H9 Lp (.lst ([.ref P0, .ref P1] ++ [.ref P2])) Lp = some (.lst [.ref P0, .ref P1, .ref P2]) := upd_same
    have lp : ∀ {l : Addr}, H0 l = none → Lp ≠ l := fun f => ne_of_none eLp0 f
    have wkA10 := WI.off (wkA.same z8) eLp9 (lp fA) (o := .lst ([.ref P0, .ref P1] ++ [.ref P2]))
    have wkB10 := WI.off (wkB.same z8) eLp9 (lp fB) (o := .lst ([.ref P0, .ref P1] ++ [.ref P2]))
    have wkC10 := WI.off (wkC.same z8) eLp9 (lp fC) (o := .lst ([.ref P0, .ref P1] ++ [.ref P2]))
    have nP2p : P2 ≠ Lp := (yP eLp8).symm
    generalize upd H9 Lp (.lst ([.ref P0, .ref P1] ++ [.ref P2])) = H10 at k10 eLp10 wkA10 wkB10 wkC10
    have k8 : ∀ {x : Addr} {o : HO}, x ≠ Lp → H8 x = some o → H10 x = some o := fun n e => k10 n (z8 _ _ e)
    have eLr10 := k8 nLrp eLr8
    have eLs10 := k8 nLsLp eLs8
    have eA10 := k8 (lp fA).symm eA
    have eB10 := k8 (lp fB).symm eB
    have eC10 := k8 (lp fC).symm eC
    have eP010 := k8 nP0p eP08
    have eP110 := k8 nP1p eP18
    have eP210 := k10 nP2p eP2
    have tt : ∀ {x : Addr} {xs : List V}, H8 x = some (.tup xs) → H10 x = some (.tup xs) := fun e => k8 (ne_tup_lst e eLp8) e
    have tt9 : ∀ {x : Addr} {xs : List V}, H9 x = some (.tup xs) → H10 x = some (.tup xs) := fun e => k10 (ne_tup_lst e eLp9) e
    -- what is told
    refine ⟨.ref Lr, rfl, Lr, _, 0, tv u0, rfl, rfl, SqL.of eLr10, at0 (i := 0) rfl, (by show 1 ≤ sizeLine; decide), fun k0 nk0 => ?_⟩
    have y1' := same_upd (o := .lst [tv u0]) nk0
    have ek0 : upd H10 k0 (.lst [tv u0]) k0 = some (.lst [tv u0]) := upd_same
    have o0 : ∀ {x : Addr} {o : HO}, H10 x = some o → x ≠ k0 := fun e => ne_of_none e nk0
    generalize upd H10 k0 (.lst [tv u0]) = H11 at y1' ek0
    refine ⟨.ref Lr, rfl, Lr, _, 1, tv u1, rfl, rfl, SqL.of (y1' _ _ eLr10), at0 (i := 1) rfl, (by show 1 ≤ sizeLine; decide), fun k1 nk1 => ?_⟩
    have y2' := same_upd (o := .lst [tv u1]) nk1
    have ek1 : upd H11 k1 (.lst [tv u1]) k1 = some (.lst [tv u1]) := upd_same
    have o1 : ∀ {x : Addr} {o : HO}, H11 x = some o → x ≠ k1 := fun e => ne_of_none e nk1
    generalize upd H11 k1 (.lst [tv u1]) = H12 at y2' ek1
    have y12 := y1'.trans y2'
    refine ⟨.ref Lr, rfl, Lr, _, 0, tv u0, rfl, rfl, SqL.of (y12 _ _ eLr10), at0 (i := 0) rfl, (by show 1 ≤ sizeLine; decide), fun k2 nk2 => ?_⟩
    have y3' := same_upd (o := .lst [tv u0]) nk2
    have ek2 : upd H12 k2 (.lst [tv u0]) k2 = some (.lst [tv u0]) := upd_same
    have o2 : ∀ {x : Addr} {o : HO}, H12 x = some o → x ≠ k2 := fun e => ne_of_none e nk2
    generalize upd H12 k2 (.lst [tv u0]) = H13 at y3' ek2
    have y13 := y12.trans y3'
    refine ⟨(by show 3 ≤ sizeLine; decide), fun Lk nLk => ?_⟩
    have y4' := same_upd (o := .lst [.ref k0, .ref k1, .ref k2]) nLk
    have eLk : upd H13 Lk (.lst [.ref k0, .ref k1, .ref k2]) Lk = some (.lst [.ref k0, .ref k1, .ref k2]) := upd_same
    have o3 : ∀ {x : Addr} {o : HO}, H13 x = some o → x ≠ Lk := fun e => ne_of_none e nLk
    generalize upd H13 Lk (.lst [.ref k0, .ref k1, .ref k2]) = H14 at y4' eLk
    have y14 := y13.trans y4'
    have ek14 := ((y2'.trans y3').trans y4') _ _ ek0
    have ek14b := (y3'.trans y4') _ _ ek1
    have ek14c := y4' _ _ ek2
    -- the cells
    have s010 : Same H H10 := fun x o e => k8 (oldLp (s05 _ _ (s1 _ _ e))) (keep8 (oldLs (s05 _ _ (s1 _ _ e))) (s10 _ _ (s1 _ _ e)))
    refine ⟨.ref a, rfl, 3, rfl, 43, rfl, a, _, rfl, (s010.trans y14).seq hS, fun p np => ⟨(by show 2 ≤ sizeLine; decide), fun p2 np2 => ?_⟩⟩
    obtain ⟨zs, ez, hzl⟩ := cut_ints3 ns
    rw [ez] at np2 ⊢
    have s8 := same_upd (o := .lst (zs.map V.int)) np
    have e8 : upd H14 p (.lst (zs.map V.int)) p = some (.lst (zs.map V.int)) := upd_same
    generalize upd H14 p (.lst (zs.map V.int)) = H15 at s8 e8 np2
    have s9 := same_upd (o := .lst [.int 0, .int 1]) np2
    have e9 : upd H15 p2 (.lst [.int 0, .int 1]) p2 = some (.lst [.int 0, .int 1]) := upd_same
    generalize upd H15 p2 (.lst [.int 0, .int 1]) = H16 at s9 e9
    refine ⟨p, p2, zs.map V.int, [.int 0, .int 1], rfl, rfl, s9 _ _ e8, e9, ?_, fun LL nL => ?_⟩
    · rw [List.length_map]
      exact Nat.le_trans (Nat.add_le_add_right hzl 2) (by decide)
    have ecat : zs.map V.int ++ [V.int 0, V.int 1] = (zs ++ [0, 1]).map V.int := by rw [List.map_append]; rfl
    rw [ecat]
    have s11 := same_upd (o := .lst ((zs ++ [0, 1]).map V.int)) nL
    have eL : upd H16 LL (.lst ((zs ++ [0, 1]).map V.int)) LL = some (.lst ((zs ++ [0, 1]).map V.int)) := upd_same
    have o4 : ∀ {x : Addr} {o : HO}, H14 x = some o → x ≠ LL := fun e => ne_of_none ((s8.trans s9) _ _ e) nL
    generalize upd H16 LL (.lst ((zs ++ [0, 1]).map V.int)) = H17 at s11 eL
    have f17 := (s8.trans s9).trans s11
    have w17 := y14.trans f17
    have cl : (zs ++ [0, 1]).length ≤ 42 := by
      rw [List.length_append]
      exact Nat.add_le_add_right hzl 2
    -- all of it
    have lw : Lw C W H17 Ls Lk Lp LL ((zs ++ [0, 1]).map V.int) [(⟨va, la, k0, P0, t0, t0', u0, q0, r0⟩, []), (⟨vb, lb, k1, P1, t1, t1', u1, q1', r1'⟩, []), (⟨vc, lc, k2, P2, t2, t2', u0, 1, 1⟩, [])] 0 := by
      have ap1 : Apt ⟨va, la, k0, P0, t0, t0', u0, q0, r0⟩ ⟨vb, lb, k1, P1, t1, t1', u1, q1', r1'⟩ := ⟨nAB, o1 (y1' _ _ eA10), (o0 eB10).symm, o1 ek0, ne_of_none eP00 fB, o1 (y1' _ _ eP010), ne_of_none eP10 fA, o0 eP110⟩
      have ap2 : Apt ⟨va, la, k0, P0, t0, t0', u0, q0, r0⟩ ⟨vc, lc, k2, P2, t2, t2', u0, 1, 1⟩ := ⟨nAC, o2 (y12 _ _ eA10), (o0 eC10).symm, o2 (y2' _ _ ek0), ne_of_none eP00 fC, o2 (y12 _ _ eP010), (yP eA).symm, o0 eP210⟩
      have ap3 : Apt ⟨vb, lb, k1, P1, t1, t1', u1, q1', r1'⟩ ⟨vc, lc, k2, P2, t2, t2', u0, 1, 1⟩ := ⟨nBC, o2 (y12 _ _ eB10), (o1 (y1' _ _ eC10)).symm, o2 ek1, ne_of_none eP10 fC, o2 (y12 _ _ eP110), (yP eB).symm, o1 (y1' _ _ eP210)⟩
      have gn : ∀ b : List Bool, Good b [] := fun b j k h => nomatch h
      refine ⟨⟨w17 _ _ eLs10, f17 _ _ eLk, w17 _ _ eLp10⟩, eL, fun z hz => ?_, fun z hz => ?_, fun z hz => ?_, ⟨(by show 3 ≤ 3; decide), (by show 3 ≤ 4; decide)⟩, fun i j x y hx hy ne => ?_, fun z hz M hM => ?_, ⟨o3 (y13 _ _ eLs10), nLsLp, (o3 (y13 _ _ eLp10)).symm, (o4 (y14 _ _ eLs10)).symm, (o4 eLk).symm, (o4 (y14 _ _ eLp10)).symm⟩⟩
      · simp only [List.mem_cons, List.not_mem_nil, or_false] at hz
        rcases hz with rfl | rfl | rfl
        · exact ⟨wkA10.same w17, f17 _ _ ek14, w17 _ _ eP010, w17 _ _ (tt et08), w17 _ _ (tt et08'), gn _, o0 eA10, ⟨ne_of_none eP00 fA, o0 eP010⟩⟩
        · exact ⟨wkB10.same w17, f17 _ _ ek14b, w17 _ _ eP110, w17 _ _ (tt et18), w17 _ _ (tt et18'), gn _, o1 (y1' _ _ eB10), ⟨ne_of_none eP10 fB, o1 (y1' _ _ eP110)⟩⟩
        · exact ⟨wkC10.same w17, f17 _ _ ek14c, w17 _ _ eP210, w17 _ _ (tt9 et29), w17 _ _ (tt9 et29'), gn _, o2 (y12 _ _ eC10), ⟨(yP eC).symm, o2 (y12 _ _ eP210)⟩⟩
      · simp only [List.mem_cons, List.not_mem_nil, or_false] at hz
        rcases hz with rfl | rfl | rfl
        · exact ⟨hR0, hq0, hr0, zq0, zr0⟩
        · exact ⟨hR1, hq1, hr1, zq1, zr1⟩
        · exact ⟨hR0, (show (0 : Rat) < 1 by decide), (show (0 : Rat) < 1 by decide), one_sz (by decide), one_sz (by decide)⟩
      · simp only [List.mem_cons, List.not_mem_nil, or_false] at hz
        rcases hz with rfl | rfl | rfl <;> exact Nat.le_refl _
      · match i, j, hx, hy, ne with
        | 0, 0, _, _, ne => exact absurd rfl ne
        | 0, 1, hx, hy, _ =>
          cases hx
          cases hy
          exact ap1
        | 0, 2, hx, hy, _ =>
          cases hx
          cases hy
          exact ap2
        | 1, 0, hx, hy, _ =>
          cases hx
          cases hy
          exact ap1.symm
        | 1, 1, _, _, ne => exact absurd rfl ne
        | 1, 2, hx, hy, _ =>
          cases hx
          cases hy
          exact ap3
        | 2, 0, hx, hy, _ =>
          cases hx
          cases hy
          exact ap2.symm
        | 2, 1, hx, hy, _ =>
          cases hx
          cases hy
          exact ap3.symm
        | 2, 2, _, _, ne => exact absurd rfl ne
      · simp only [List.mem_cons, List.not_mem_nil, or_false] at hz
        rcases hz with rfl | rfl | rfl
        · rcases hM with rfl | rfl | rfl | rfl
          · exact ⟨nAs.symm, o0 eLs10, nP0s.symm⟩
          · exact ⟨(o3 (y13 _ _ eA10)).symm, (o3 ((y2'.trans y3') _ _ ek0)).symm, (o3 (y13 _ _ eP010)).symm⟩
          · exact ⟨lp fA, o0 eLp10, nP0p.symm⟩
          · exact ⟨(o4 (y14 _ _ eA10)).symm, (o4 ek14).symm, (o4 (y14 _ _ eP010)).symm⟩
        · rcases hM with rfl | rfl | rfl | rfl
          · exact ⟨nBs.symm, o1 (y1' _ _ eLs10), nP1s.symm⟩
          · exact ⟨(o3 (y13 _ _ eB10)).symm, (o3 (y3' _ _ ek1)).symm, (o3 (y13 _ _ eP110)).symm⟩
          · exact ⟨lp fB, o1 (y1' _ _ eLp10), nP1p.symm⟩
          · exact ⟨(o4 (y14 _ _ eB10)).symm, (o4 ek14b).symm, (o4 (y14 _ _ eP110)).symm⟩
        · rcases hM with rfl | rfl | rfl | rfl
          · exact ⟨nCs.symm, o2 (y12 _ _ eLs10), yP eLs8⟩
          · exact ⟨(o3 (y13 _ _ eC10)).symm, (o3 ek2).symm, (o3 (y13 _ _ eP210)).symm⟩
          · exact ⟨lp fC, o2 (y12 _ _ eLp10), nP2p.symm⟩
          · exact ⟨(o4 (y14 _ _ eC10)).symm, (o4 ek14c).symm, (o4 (y14 _ _ eP210)).symm⟩
    refine ⟨LL, rfl, ⟨_, SqL.of eL⟩, ?_⟩
    refine for_list (K := K) (a := LL) (xs := (zs ++ [0, 1]).map V.int) (fun i σ H3 => ∃ (zs2 : List (Wt × List Nat)) (y1 y5 y6 y8 y9 y10 y11 y12 : Option V), σ = [some (.ref a), y1, some (.ref Lr), some (.ref Lp), some (.ref Ls), y5, y6, some (.ref Lk), y8, y9, y10, y11, y12] ∧ Lw C W H3 Ls Lk Lp LL ((zs ++ [0, 1]).map V.int) zs2 i)
      ⟨_, _, _, _, _, _, _, _, _, rfl, lw⟩ (fun i σ H3 _ ⟨_, _, _, _, _, _, _, _, _, _, h⟩ => SqL.of h.eL) ?_ ?_
    · rintro i x σ H3 hx ⟨zs2, y1, y5, y6, y8, y9, y10, y11, y12, rfl, lw3⟩
      rw [List.getElem?_map] at hx
      obtain ⟨c, hc, rfl⟩ := Option.map_eq_some_iff.mp hx
      have hi := (List.getElem?_eq_some_iff.mp hc).1
      exact hB _ Ls Lk Lp Lr LL _ zs2 i c y1 y5 y6 y9 y10 y11 y12 H3 lw3 (by omega) fun zs3 z1 z8 z9 z10 z11 z12 H4 lw4 => ⟨zs3, _, _, _, _, _, _, _, _, rfl, lw4⟩
    · rintro σ H3 ⟨zs2, y1, y5, y6, y8, y9, y10, y11, y12, rfl, h3⟩
      rw [List.length_map] at h3
      have hl4 := h3.len.2
      have en : ∀ {m : Nat}, (m : Int).toNat = m := fun {m} => by omega
      refine ⟨.ref Ls, rfl, Ls, _, rfl, .inl (SqL.of h3.l3.s), _, rfl, by rw [List.length_map]; omega, by rw [List.length_map]; omega, fun D hD => ?_⟩
      rw [en, List.length_map]
      refine lc_range (lo := 0) (n := zs2.length) (fun j H4 => Same H3 H4 ∧ H4 D = some (.lst [])) ⟨same_upd hD, upd_same⟩ ?_ ?_
      · rintro j H4 hj ⟨s4, eD⟩
        rw [Int.zero_add]
        have h4 := h3.same s4
        obtain ⟨z, hz⟩ : ∃ z, zs2[j]? = some z := ⟨_, List.getElem?_eq_getElem hj⟩
        have mz := List.mem_of_getElem? hz
        have hfz := h4.few z mz
        refine ⟨rfl, .ref Ls, rfl, .int (j : Int), rfl, Ls, _, _, .ref z.1.v, rfl, rfl, SqL.of h4.l3.s, at_z (fun z => .ref z.1.v) hz, .ref Lk, rfl, .int (j : Int), rfl, Lk, _, _, .ref z.1.kr, rfl, rfl, SqL.of h4.l3.k, at_z (fun z => .ref z.1.kr) hz,
          .ref Lp, rfl, .int (j : Int), rfl, Lp, _, _, .ref z.1.P, rfl, rfl, SqL.of h4.l3.p, at_z (fun z => .ref z.1.P) hz, z.1, z.2, rfl, h4.all z mz, h4.wo z mz, by omega, fun H5 s5 => ⟨true, rfl, iteF ⟨s4.trans s5, s5 _ _ eD⟩⟩⟩
      · rintro H4 ⟨s4, eD⟩
        refine ⟨Nat.zero_le _, fun pe npe => ⟨.list [], .list [], .lst (SqL.of (same_upd npe _ _ eD)) .nil, .lst (SqL.of upd_same) .nil, shaped_nil, shaped_nil, ?_⟩⟩
        exact qq _
end
end Hop

set_option Elab.async false
set_option linter.all false
set_option maxRecDepth 100000
set_option maxHeartbeats 2000000
namespace Hop
open PySem L2 HopR
open C8 (InsC)
theorem kit_tyC {K : PySem.W.Frag} {C : Addr} {T : String} (hd : PySem.W.hasDictIn K C = true) (ht : PySem.W.typeIn K (.ref C) = some (.type "type")) (h : PySem.W.subIn K (.type T) (.ref C) = some false) : PySem.W.kitOne K (.type T) (.ref C) = some false := by
  obtain ⟨cd, hc, _⟩ := PySem.W.any_some hd
  have e2 : ((PySem.W.clsIn K C).isSome && PySem.W.typeIn K (.ref C) == some (.type "type")) = true := by rw [hc, ht] <;> rfl
  unfold PySem.W.kitOne
  have e1 : ¬ ((Value.type T == Value.ref C) = true) := fun z => nomatch (beq_iff_eq.mp z)
  rw [if_neg e1]
  show (if ((PySem.W.clsIn K C).isSome && PySem.W.typeIn K (.ref C) == some (.type "type")) = true then PySem.W.subIn K (.type T) (.ref C) else none) = some false
  rw [if_pos e2]
  exact h
/-! ### what the top has written -/
theorem all_mk {l : PySem.W.OpenLaw} {w : World} {K : PySem.W.Frag} {h : Heap} {mg : Str → Option Value} {fa : Addr} (X : K.In h) (G : h.Ns mainGlobals mg) (hfa : mg "law" = some (.ref fa))
    {f1 : Addr} {od1 an1 : Option Addr} {sl1 : Array (Option Value)} {oc1 kV1 dc1 pm1 cd1 ct1 : Value}
    {f2 : Addr} {od2 an2 : Option Addr} {sl2 : Array (Option Value)} {oc2 kV2 dc2 pm2 cd2 ct2 : Value}
    {fF1 : Addr} {odF1 anF1 : Option Addr} {slF1 : Array (Option Value)} {ocF1 kVF1 dcF1 pmF1 cdF1 ctF1 : Value}
    {fz : Addr} {odz anz : Option Addr} {slz : Array (Option Value)} {ocz kVz dcz pmz cdz ctz : Value}
    {fR1 : Addr} {odR1 anR1 : Option Addr} {slR1 : Array (Option Value)} {ocR1 kVR1 dcR1 pmR1 cdR1 ctR1 : Value}
    {fR2 : Addr} {odR2 anR2 : Option Addr} {slR2 : Array (Option Value)} {ocR2 kVR2 dcR2 pmR2 cdR2 ctR2 : Value}
    {fR3 : Addr} {odR3 anR3 : Option Addr} {slR3 : Array (Option Value)} {ocR3 kVR3 dcR3 pmR3 cdR3 ctR3 : Value}
    {fR4 : Addr} {odR4 anR4 : Option Addr} {slR4 : Array (Option Value)} {ocR4 kVR4 dcR4 pmR4 cdR4 ctR4 : Value}
    {fR6 : Addr} {odR6 anR6 : Option Addr} {slR6 : Array (Option Value)} {ocR6 kVR6 dcR6 pmR6 cdR6 ctR6 : Value}
    {fR0 : Addr} {odR0 anR0 : Option Addr} {slR0 : Array (Option Value)} {ocR0 kVR0 dcR0 pmR0 cdR0 ctR0 : Value}
    {fP1 : Addr} {odP1 anP1 : Option Addr} {slP1 : Array (Option Value)} {ocP1 kVP1 dcP1 pmP1 cdP1 ctP1 : Value}
    {fP2 : Addr} {odP2 anP2 : Option Addr} {slP2 : Array (Option Value)} {ocP2 kVP2 dcP2 pmP2 cdP2 ctP2 : Value}
    {fP4 : Addr} {odP4 anP4 : Option Addr} {slP4 : Array (Option Value)} {ocP4 kVP4 dcP4 pmP4 cdP4 ctP4 : Value}
    {fD1 : Addr} {odD1 anD1 : Option Addr} {slD1 : Array (Option Value)} {ocD1 kVD1 dcD1 pmD1 cdD1 ctD1 : Value}
    {fD2 : Addr} {odD2 anD2 : Option Addr} {slD2 : Array (Option Value)} {ocD2 kVD2 dcD2 pmD2 cdD2 ctD2 : Value}
    {fD3 : Addr} {odD3 anD3 : Option Addr} {slD3 : Array (Option Value)} {ocD3 kVD3 dcD3 pmD3 cdD3 ctD3 : Value}
    {fD4 : Addr} {odD4 anD4 : Option Addr} {slD4 : Array (Option Value)} {ocD4 kVD4 dcD4 pmD4 cdD4 ctD4 : Value}
    {fD5 : Addr} {odD5 anD5 : Option Addr} {slD5 : Array (Option Value)} {ocD5 kVD5 dcD5 pmD5 cdD5 ctD5 : Value}
    {fD6 : Addr} {odD6 anD6 : Option Addr} {slD6 : Array (Option Value)} {ocD6 kVD6 dcD6 pmD6 cdD6 ctD6 : Value}
    {fD7 : Addr} {odD7 anD7 : Option Addr} {slD7 : Array (Option Value)} {ocD7 kVD7 dcD7 pmD7 cdD7 ctD7 : Value}
    {fD8 : Addr} {odD8 anD8 : Option Addr} {slD8 : Array (Option Value)} {ocD8 kVD8 dcD8 pmD8 cdD8 ctD8 : Value}
    {fD9 : Addr} {odD9 anD9 : Option Addr} {slD9 : Array (Option Value)} {ocD9 kVD9 dcD9 pmD9 cdD9 ctD9 : Value}
    {fE1 : Addr} {odE1 anE1 : Option Addr} {slE1 : Array (Option Value)} {ocE1 kVE1 dcE1 pmE1 cdE1 ctE1 : Value}
    {fE2 : Addr} {odE2 anE2 : Option Addr} {slE2 : Array (Option Value)} {ocE2 kVE2 dcE2 pmE2 cdE2 ctE2 : Value}
    {fE3 : Addr} {odE3 anE3 : Option Addr} {slE3 : Array (Option Value)} {ocE3 kVE3 dcE3 pmE3 cdE3 ctE3 : Value}
    {fL : Addr} {odL anL : Option Addr} {slL : Array (Option Value)} {ocL kVL dcL pmL cdL ctL : Value}
    {tb0 : Tok}
    {tf0 : Tok}
    {tm0 : Tok}
    {tPI : Tok}
    {tPF : Tok}
    {d : Addr} {es : Array DictEntry} {n : Nat} {tvo tvp : Tok}
    {C : Addr}
    {fmp : Addr} {odmp anmp : Option Addr} {slmp : Array (Option Value)} {ocmp kVmp dcmp pmmp cdmp ctmp : Value}
    {fmt : Addr} {odmt anmt : Option Addr} {slmt : Array (Option Value)} {ocmt kVmt dcmt pmmt cdmt ctmt : Value}
    {fmo : Addr} {odmo anmo : Option Addr} {slmo : Array (Option Value)} {ocmo kVmo dcmo pmmo cdmo ctmo : Value}
    {fmr : Addr} {odmr anmr : Option Addr} {slmr : Array (Option Value)} {ocmr kVmr dcmr pmmr cdmr ctmr : Value}
    {fmx : Addr} {odmx anmx : Option Addr} {slmx : Array (Option Value)} {ocmx kVmx dcmx pmmx cdmx ctmx : Value}
    {W : Addr}
    {fwr : Addr} {odwr anwr : Option Addr} {slwr : Array (Option Value)} {ocwr kVwr dcwr pmwr cdwr ctwr : Value}
    {fwd : Addr} {odwd anwd : Option Addr} {slwd : Array (Option Value)} {ocwd kVwd dcwd pmwd cdwd ctwd : Value}
    {fwl : Addr} {odwl anwl : Option Addr} {slwl : Array (Option Value)} {ocwl kVwl dcwl pmwl cdwl ctwl : Value}
    {fwe : Addr} {odwe anwe : Option Addr} {slwe : Array (Option Value)} {ocwe kVwe dcwe pmwe cdwe ctwe : Value}
    {fws : Addr} {odws anws : Option Addr} {slws : Array (Option Value)} {ocws kVws dcws pmws cdws ctws : Value}
    {fwu : Addr} {odwu anwu : Option Addr} {slwu : Array (Option Value)} {ocwu kVwu dcwu pmwu cdwu ctwu : Value}
    {fwc : Addr} {odwc anwc : Option Addr} {slwc : Array (Option Value)} {ocwc kVwc dcwc pmwc cdwc ctwc : Value}
    {fwq : Addr} {odwq anwq : Option Addr} {slwq : Array (Option Value)} {ocwq kVwq dcwq pmwq cdwq ctwq : Value}
    {fwz : Addr} {odwz anwz : Option Addr} {slwz : Array (Option Value)} {ocwz kVwz dcwz pmwz cdwz ctwz : Value}
    {fwt : Addr} {odwt anwt : Option Addr} {slwt : Array (Option Value)} {ocwt kVwt dcwt pmwt cdwt ctwt : Value}
    {fwx : Addr} {odwx anwx : Option Addr} {slwx : Array (Option Value)} {ocwx kVwx dcwx pmwx cdwx ctwx : Value}
    {nmC qC : Str} {NC : Addr} {bsC subC : List Value} {hdC abC : Bool} {snC : List Str} {colC : Option Bool} {ddC : Option Addr} {x0 x1 x2 x3 x5 : Option Value} {nwC : String}
    {nmW qW : Str} {NW : Addr} {bsW subW : List Value} {hdW abW : Bool} {snW : List Str} {colW : Option Bool} {ddW : Option Addr} {w0 w1 w2 w3 w5 : Option Value} {nwW : String}
    {fi Ti : Addr} {odi ani oTi : Option Addr} {sli sTi : Array (Option Value)} {oci kVi dci pmi cdi cti cTi : Value} {nTi : Nat}
    {tki0 : Tok}
    {fj Tj : Addr} {odj anj oTj : Option Addr} {slj sTj : Array (Option Value)} {ocj kVj dcj pmj cdj ctj cTj : Value} {nTj : Nat}
    {fq Tq : Addr} {odq anq oTq : Option Addr} {slq sTq : Array (Option Value)} {ocq kVq dcq pmq cdq ctq cTq : Value} {nTq : Nat}
    {HE NL : Addr}
    {fu : Addr} {odu anu : Option Addr} {slu : Array (Option Value)} {ocu kVu dcu pmu cdu ctu : Value}
    (a1 : PySem.W.nsIn K mainGlobals "is_whole" = some (some (.ref f1))) (l1 : K.lookup f1 = some ⟨oc1, od1, .func (PySem.W.fnOf "is_whole" "is_whole" (defArgs sIsWhole) (defBody sIsWhole) (defScope sIsWhole) .none kV1 dc1 pm1 an1 cd1 ct1), sl1⟩) (c1 : PySem.W.codeIn K cd1 "is_whole" = true) (k1 : PySem.W.keepIn K (.ref f1) = true)
    (a2 : PySem.W.nsIn K mainGlobals "common_divisor" = some (some (.ref f2))) (l2 : K.lookup f2 = some ⟨oc2, od2, .func (PySem.W.fnOf "common_divisor" "common_divisor" (defArgs sDivisor) (defBody sDivisor) (defScope sDivisor) .none kV2 dc2 pm2 an2 cd2 ct2), sl2⟩) (c2 : PySem.W.codeIn K cd2 "common_divisor" = true) (k2 : PySem.W.keepIn K (.ref f2) = true)
    (aF1 : PySem.W.nsIn K mainGlobals "figures_of" = some (some (.ref fF1))) (lF1 : K.lookup fF1 = some ⟨ocF1, odF1, .func (PySem.W.fnOf "figures_of" "figures_of" (defArgs sFigures) (defBody sFigures) (defScope sFigures) .none kVF1 dcF1 pmF1 anF1 cdF1 ctF1), slF1⟩) (cF1 : PySem.W.codeIn K cdF1 "figures_of" = true) (kF1 : PySem.W.keepIn K (.ref fF1) = true)
    (az : PySem.W.nsIn K mainGlobals "lowest" = some (some (.ref fz))) (lz : K.lookup fz = some ⟨ocz, odz, .func (PySem.W.fnOf "lowest" "lowest" (defArgs sLowest) (defBody sLowest) (defScope sLowest) .none kVz dcz pmz anz cdz ctz), slz⟩) (cz : PySem.W.codeIn K cdz "lowest" = true) (kz : PySem.W.keepIn K (.ref fz) = true)
    (aR1 : PySem.W.nsIn K mainGlobals "is_row" = some (some (.ref fR1))) (lR1 : K.lookup fR1 = some ⟨ocR1, odR1, .func (PySem.W.fnOf "is_row" "is_row" (defArgs sIsRow) (defBody sIsRow) (defScope sIsRow) .none kVR1 dcR1 pmR1 anR1 cdR1 ctR1), slR1⟩) (cR1 : PySem.W.codeIn K cdR1 "is_row" = true) (kR1 : PySem.W.keepIn K (.ref fR1) = true)
    (aR2 : PySem.W.nsIn K mainGlobals "need_row" = some (some (.ref fR2))) (lR2 : K.lookup fR2 = some ⟨ocR2, odR2, .func (PySem.W.fnOf "need_row" "need_row" (defArgs sNeedRow) (defBody sNeedRow) (defScope sNeedRow) .none kVR2 dcR2 pmR2 anR2 cdR2 ctR2), slR2⟩) (cR2 : PySem.W.codeIn K cdR2 "need_row" = true) (kR2 : PySem.W.keepIn K (.ref fR2) = true)
    (aR3 : PySem.W.nsIn K mainGlobals "with_ends" = some (some (.ref fR3))) (lR3 : K.lookup fR3 = some ⟨ocR3, odR3, .func (PySem.W.fnOf "with_ends" "with_ends" (defArgs sWithEnds) (defBody sWithEnds) (defScope sWithEnds) .none kVR3 dcR3 pmR3 anR3 cdR3 ctR3), slR3⟩) (cR3 : PySem.W.codeIn K cdR3 "with_ends" = true) (kR3 : PySem.W.keepIn K (.ref fR3) = true)
    (aR4 : PySem.W.nsIn K mainGlobals "walls_of" = some (some (.ref fR4))) (lR4 : K.lookup fR4 = some ⟨ocR4, odR4, .func (PySem.W.fnOf "walls_of" "walls_of" (defArgs sWallsOf) (defBody sWallsOf) (defScope sWallsOf) .none kVR4 dcR4 pmR4 anR4 cdR4 ctR4), slR4⟩) (cR4 : PySem.W.codeIn K cdR4 "walls_of" = true) (kR4 : PySem.W.keepIn K (.ref fR4) = true)
    (aR6 : PySem.W.nsIn K mainGlobals "changed" = some (some (.ref fR6))) (lR6 : K.lookup fR6 = some ⟨ocR6, odR6, .func (PySem.W.fnOf "changed" "changed" (defArgs sChanged) (defBody sChanged) (defScope sChanged) .none kVR6 dcR6 pmR6 anR6 cdR6 ctR6), slR6⟩) (cR6 : PySem.W.codeIn K cdR6 "changed" = true) (kR6 : PySem.W.keepIn K (.ref fR6) = true)
    (aR0 : PySem.W.nsIn K mainGlobals "need_open" = some (some (.ref fR0))) (lR0 : K.lookup fR0 = some ⟨ocR0, odR0, .func (PySem.W.fnOf "need_open" "need_open" (defArgs sNeedOpen) (defBody sNeedOpen) (defScope sNeedOpen) .none kVR0 dcR0 pmR0 anR0 cdR0 ctR0), slR0⟩) (cR0 : PySem.W.codeIn K cdR0 "need_open" = true) (kR0 : PySem.W.keepIn K (.ref fR0) = true)
    (aP1 : PySem.W.nsIn K mainGlobals "pace_from" = some (some (.ref fP1))) (lP1 : K.lookup fP1 = some ⟨ocP1, odP1, .func (PySem.W.fnOf "pace_from" "pace_from" (defArgs sPaceFrom) (defBody sPaceFrom) (defScope sPaceFrom) .none kVP1 dcP1 pmP1 anP1 cdP1 ctP1), slP1⟩) (cP1 : PySem.W.codeIn K cdP1 "pace_from" = true) (kP1 : PySem.W.keepIn K (.ref fP1) = true)
    (aP2 : PySem.W.nsIn K mainGlobals "paces_from" = some (some (.ref fP2))) (lP2 : K.lookup fP2 = some ⟨ocP2, odP2, .func (PySem.W.fnOf "paces_from" "paces_from" (defArgs sPacesFrom) (defBody sPacesFrom) (defScope sPacesFrom) .none kVP2 dcP2 pmP2 anP2 cdP2 ctP2), slP2⟩) (cP2 : PySem.W.codeIn K cdP2 "paces_from" = true) (kP2 : PySem.W.keepIn K (.ref fP2) = true)
    (aP4 : PySem.W.nsIn K mainGlobals "pace_of_all" = some (some (.ref fP4))) (lP4 : K.lookup fP4 = some ⟨ocP4, odP4, .func (PySem.W.fnOf "pace_of_all" "pace_of_all" (defArgs sPaceAll) (defBody sPaceAll) (defScope sPaceAll) .none kVP4 dcP4 pmP4 anP4 cdP4 ctP4), slP4⟩) (cP4 : PySem.W.codeIn K cdP4 "pace_of_all" = true) (kP4 : PySem.W.keepIn K (.ref fP4) = true)
    (aD1 : PySem.W.nsIn K mainGlobals "_law_cell_at" = some (some (.ref fD1))) (lD1 : K.lookup fD1 = some ⟨ocD1, odD1, .func (PySem.W.fnOf "_law_cell_at" "_law_cell_at" (defArgs sCellAt) (defBody sCellAt) (defScope sCellAt) .none kVD1 dcD1 pmD1 anD1 cdD1 ctD1), slD1⟩) (cD1 : PySem.W.codeIn K cdD1 "_law_cell_at" = true) (kD1 : PySem.W.keepIn K (.ref fD1) = true)
    (aD2 : PySem.W.nsIn K mainGlobals "_law_drawn" = some (some (.ref fD2))) (lD2 : K.lookup fD2 = some ⟨ocD2, odD2, .func (PySem.W.fnOf "_law_drawn" "_law_drawn" (defArgs sDrawn) (defBody sDrawn) (defScope sDrawn) .none kVD2 dcD2 pmD2 anD2 cdD2 ctD2), slD2⟩) (cD2 : PySem.W.codeIn K cdD2 "_law_drawn" = true) (kD2 : PySem.W.keepIn K (.ref fD2) = true)
    (aD3 : PySem.W.nsIn K mainGlobals "_law_low" = some (some (.ref fD3))) (lD3 : K.lookup fD3 = some ⟨ocD3, odD3, .func (PySem.W.fnOf "_law_low" "_law_low" (defArgs sLow) (defBody sLow) (defScope sLow) .none kVD3 dcD3 pmD3 anD3 cdD3 ctD3), slD3⟩) (cD3 : PySem.W.codeIn K cdD3 "_law_low" = true) (kD3 : PySem.W.keepIn K (.ref fD3) = true)
    (aD4 : PySem.W.nsIn K mainGlobals "_law_row" = some (some (.ref fD4))) (lD4 : K.lookup fD4 = some ⟨ocD4, odD4, .func (PySem.W.fnOf "_law_row" "_law_row" (defArgs sLRow) (defBody sLRow) (defScope sLRow) .none kVD4 dcD4 pmD4 anD4 cdD4 ctD4), slD4⟩) (cD4 : PySem.W.codeIn K cdD4 "_law_row" = true) (kD4 : PySem.W.keepIn K (.ref fD4) = true)
    (aD5 : PySem.W.nsIn K mainGlobals "_law_paces" = some (some (.ref fD5))) (lD5 : K.lookup fD5 = some ⟨ocD5, odD5, .func (PySem.W.fnOf "_law_paces" "_law_paces" (defArgs sLPaces) (defBody sLPaces) (defScope sLPaces) .none kVD5 dcD5 pmD5 anD5 cdD5 ctD5), slD5⟩) (cD5 : PySem.W.codeIn K cdD5 "_law_paces" = true) (kD5 : PySem.W.keepIn K (.ref fD5) = true)
    (aD6 : PySem.W.nsIn K mainGlobals "_law_open" = some (some (.ref fD6))) (lD6 : K.lookup fD6 = some ⟨ocD6, odD6, .func (PySem.W.fnOf "_law_open" "_law_open" (defArgs sOpen) (defBody sOpen) (defScope sOpen) .none kVD6 dcD6 pmD6 anD6 cdD6 ctD6), slD6⟩) (cD6 : PySem.W.codeIn K cdD6 "_law_open" = true) (kD6 : PySem.W.keepIn K (.ref fD6) = true)
    (aD7 : PySem.W.nsIn K mainGlobals "_law_behind" = some (some (.ref fD7))) (lD7 : K.lookup fD7 = some ⟨ocD7, odD7, .func (PySem.W.fnOf "_law_behind" "_law_behind" (defArgs sBehind) (defBody sBehind) (defScope sBehind) .none kVD7 dcD7 pmD7 anD7 cdD7 ctD7), slD7⟩) (cD7 : PySem.W.codeIn K cdD7 "_law_behind" = true) (kD7 : PySem.W.keepIn K (.ref fD7) = true)
    (aD8 : PySem.W.nsIn K mainGlobals "_law_text" = some (some (.ref fD8))) (lD8 : K.lookup fD8 = some ⟨ocD8, odD8, .func (PySem.W.fnOf "_law_text" "_law_text" (defArgs sLText) (defBody sLText) (defScope sLText) .none kVD8 dcD8 pmD8 anD8 cdD8 ctD8), slD8⟩) (cD8 : PySem.W.codeIn K cdD8 "_law_text" = true) (kD8 : PySem.W.keepIn K (.ref fD8) = true)
    (aD9 : PySem.W.nsIn K mainGlobals "_law_shown" = some (some (.ref fD9))) (lD9 : K.lookup fD9 = some ⟨ocD9, odD9, .func (PySem.W.fnOf "_law_shown" "_law_shown" (defArgs sLShown) (defBody sLShown) (defScope sLShown) .none kVD9 dcD9 pmD9 anD9 cdD9 ctD9), slD9⟩) (cD9 : PySem.W.codeIn K cdD9 "_law_shown" = true) (kD9 : PySem.W.keepIn K (.ref fD9) = true)
    (aE1 : PySem.W.nsIn K mainGlobals "_law_alike" = some (some (.ref fE1))) (lE1 : K.lookup fE1 = some ⟨ocE1, odE1, .func (PySem.W.fnOf "_law_alike" "_law_alike" (defArgs sLAlike) (defBody sLAlike) (defScope sLAlike) .none kVE1 dcE1 pmE1 anE1 cdE1 ctE1), slE1⟩) (cE1 : PySem.W.codeIn K cdE1 "_law_alike" = true) (kE1 : PySem.W.keepIn K (.ref fE1) = true)
    (aE2 : PySem.W.nsIn K mainGlobals "_law_deed" = some (some (.ref fE2))) (lE2 : K.lookup fE2 = some ⟨ocE2, odE2, .func (PySem.W.fnOf "_law_deed" "_law_deed" (defArgs sLDeed) (defBody sLDeed) (defScope sLDeed) .none kVE2 dcE2 pmE2 anE2 cdE2 ctE2), slE2⟩) (cE2 : PySem.W.codeIn K cdE2 "_law_deed" = true) (kE2 : PySem.W.keepIn K (.ref fE2) = true)
    (aE3 : PySem.W.nsIn K mainGlobals "_law_as_fresh" = some (some (.ref fE3))) (lE3 : K.lookup fE3 = some ⟨ocE3, odE3, .func (PySem.W.fnOf "_law_as_fresh" "_law_as_fresh" (defArgs sLFresh) (defBody sLFresh) (defScope sLFresh) .none kVE3 dcE3 pmE3 anE3 cdE3 ctE3), slE3⟩) (cE3 : PySem.W.codeIn K cdE3 "_law_as_fresh" = true) (kE3 : PySem.W.keepIn K (.ref fE3) = true)
    (aL : PySem.W.nsIn K mainGlobals "law" = some (some (.ref fL))) (lL : K.lookup fL = some ⟨ocL, odL, .func (PySem.W.fnOf "law" "law" (defArgs sLaw) (defBody sLaw) (defScope sLaw) .none kVL dcL pmL anL cdL ctL), slL⟩) (cL : PySem.W.codeIn K cdL "law" = true) (kL : PySem.W.keepIn K (.ref fL) = true)
    (z0 : PySem.W.nsIn K mainGlobals "len" = some none)
    (z1 : PySem.W.nsIn K mainGlobals "range" = some none)
    (z2 : PySem.W.nsIn K mainGlobals "abs" = some none)
    (z3 : PySem.W.nsIn K mainGlobals "isinstance" = some none)
    (z4 : PySem.W.nsIn K mainGlobals "int" = some none)
    (z5 : PySem.W.nsIn K mainGlobals "bool" = some none)
    (z6 : PySem.W.nsIn K mainGlobals "all" = some none)
    (z7 : PySem.W.nsIn K mainGlobals "str" = some none)
    (z8 : PySem.W.nsIn K mainGlobals "reversed" = some none)
    (z9 : PySem.W.nsIn K mainGlobals "sorted" = some none)
    (z10 : PySem.W.nsIn K mainGlobals "list" = some none)
    (z11 : PySem.W.nsIn K mainGlobals "repr" = some none)
    (z12 : PySem.W.nsIn K mainGlobals "IndexError" = some none)
    (z13 : PySem.W.nsIn K mainGlobals "divmod" = some none)
    (gb0 : PySem.W.nsIn K mainGlobals "BEAD" = some (some (.str "o" tb0)))
    (gf0 : PySem.W.nsIn K mainGlobals "FREE" = some (some (.str "." tf0)))
    (gm0 : PySem.W.nsIn K mainGlobals "MOST_PLACES" = some (some (.int 30 tm0)))
    (gPI : PySem.W.nsIn K mainGlobals "PIECE" = some (some (.int 10000000000000000000000000000000000000000000000000000000000000000 tPI)))
    (gPF : PySem.W.nsIn K mainGlobals "PIECE_FIGURES" = some (some (.int 64 tPF)))
    (gd : PySem.W.nsIn K mainGlobals "OTHER_SIGN" = some (some (.ref d)))
    (ld : K.lookup d = some ⟨.type "dict", none, .dict es n, #[]⟩)
    (kd : PySem.W.KeysLit w.params es.toList)
    (sd : (d == sysModules) = false)
    (vo : PySem.W.nsIn K d "o" = some (some (.str "." tvo)))
    (vp : PySem.W.nsIn K d "." = some (some (.str "o" tvp)))
    (gC : PySem.W.nsIn K mainGlobals "Part" = some (some (.ref C)))
    (C_pg : PySem.W.plainGet K C Str.empty = true)
    (C_hd : PySem.W.hasDictIn K C = true)
    (C_po : PySem.W.plainOver K C = true)
    (C_sa : PySem.W.findIn K (.ref C) "__setattr__" = some (some (.builtin "object.__setattr__")))
    (C_mk : PySem.W.makesIn K C = true)
    (C_kc : PySem.W.keepIn K (.ref C) = true)
    (C_ha : PySem.W.findIn K (.ref C) "__class__" = some (some (.builtin "object.__class__")))
    (C_hm : PySem.W.mroIn K C (.type "object") = some true)
    (q_hn : PySem.W.specialIn K (.builtin "object.__class__") "__get__" = some (some (.builtin "getset_descriptor.__get__")))
    (q_htk : PySem.W.takesIn K (.builtin "object.__class__") = some true)
    (C_n_top : PySem.W.findIn K (.ref C) "top" = some none)
    (C_n_bottom : PySem.W.findIn K (.ref C) "bottom" = some none)
    (mmp : PySem.W.findIn K (.ref C) "plus" = some (some (.ref fmp)))
    (nmp : PySem.W.isFn K (.ref fmp) = true)
    (lmp : K.lookup fmp = some ⟨ocmp, odmp, .func (PySem.W.fnOf "plus" "Part.plus" (defArgs sPlus) (defBody sPlus) (defScope sPlus) .none kVmp dcmp pmmp anmp cdmp ctmp), slmp⟩)
    (cmp : PySem.W.codeIn K cdmp "Part.plus" = true)
    (kmp : PySem.W.keepIn K (.ref fmp) = true)
    (mmt : PySem.W.findIn K (.ref C) "times" = some (some (.ref fmt)))
    (nmt : PySem.W.isFn K (.ref fmt) = true)
    (lmt : K.lookup fmt = some ⟨ocmt, odmt, .func (PySem.W.fnOf "times" "Part.times" (defArgs sTimes) (defBody sTimes) (defScope sTimes) .none kVmt dcmt pmmt anmt cdmt ctmt), slmt⟩)
    (cmt : PySem.W.codeIn K cdmt "Part.times" = true)
    (kmt : PySem.W.keepIn K (.ref fmt) = true)
    (mmo : PySem.W.findIn K (.ref C) "over" = some (some (.ref fmo)))
    (nmo : PySem.W.isFn K (.ref fmo) = true)
    (lmo : K.lookup fmo = some ⟨ocmo, odmo, .func (PySem.W.fnOf "over" "Part.over" (defArgs sOver) (defBody sOver) (defScope sOver) .none kVmo dcmo pmmo anmo cdmo ctmo), slmo⟩)
    (cmo : PySem.W.codeIn K cdmo "Part.over" = true)
    (kmo : PySem.W.keepIn K (.ref fmo) = true)
    (mmr : PySem.W.findIn K (.ref C) "__repr__" = some (some (.ref fmr)))
    (nmr : PySem.W.isFn K (.ref fmr) = true)
    (lmr : K.lookup fmr = some ⟨ocmr, odmr, .func (PySem.W.fnOf "__repr__" "Part.__repr__" (defArgs sPRepr) (defBody sPRepr) (defScope sPRepr) .none kVmr dcmr pmmr anmr cdmr ctmr), slmr⟩)
    (cmr : PySem.W.codeIn K cdmr "Part.__repr__" = true)
    (kmr : PySem.W.keepIn K (.ref fmr) = true)
    (mmx : PySem.W.findIn K (.ref C) "__eq__" = some (some (.ref fmx)))
    (nmx : PySem.W.isFn K (.ref fmx) = true)
    (lmx : K.lookup fmx = some ⟨ocmx, odmx, .func (PySem.W.fnOf "__eq__" "Part.__eq__" (defArgs sEq) (defBody sEq) (defScope sEq) .none kVmx dcmx pmmx anmx cdmx ctmx), slmx⟩)
    (cmx : PySem.W.codeIn K cdmx "Part.__eq__" = true)
    (kmx : PySem.W.keepIn K (.ref fmx) = true)
    (gW : PySem.W.nsIn K mainGlobals "Walk" = some (some (.ref W)))
    (W_pg : PySem.W.plainGet K W Str.empty = true)
    (W_hd : PySem.W.hasDictIn K W = true)
    (W_po : PySem.W.plainOver K W = true)
    (W_sa : PySem.W.findIn K (.ref W) "__setattr__" = some (some (.builtin "object.__setattr__")))
    (W_mk : PySem.W.makesIn K W = true)
    (W_kc : PySem.W.keepIn K (.ref W) = true)
    (W_ha : PySem.W.findIn K (.ref W) "__class__" = some (some (.builtin "object.__class__")))
    (W_hm : PySem.W.mroIn K W (.type "object") = some true)
    (W_n_inn : PySem.W.findIn K (.ref W) "inn" = some none)
    (W_n_out : PySem.W.findIn K (.ref W) "out" = some none)
    (W_n_signs : PySem.W.findIn K (.ref W) "signs" = some none)
    (W_n_steps : PySem.W.findIn K (.ref W) "steps" = some none)
    (W_n_product : PySem.W.findIn K (.ref W) "product" = some none)
    (mwr : PySem.W.findIn K (.ref W) "row" = some (some (.ref fwr)))
    (nwr : PySem.W.isFn K (.ref fwr) = true)
    (lwr : K.lookup fwr = some ⟨ocwr, odwr, .func (PySem.W.fnOf "row" "Walk.row" (defArgs sWRow) (defBody sWRow) (defScope sWRow) .none kVwr dcwr pmwr anwr cdwr ctwr), slwr⟩)
    (cwr : PySem.W.codeIn K cdwr "Walk.row" = true)
    (kwr : PySem.W.keepIn K (.ref fwr) = true)
    (mwd : PySem.W.findIn K (.ref W) "done" = some (some (.ref fwd)))
    (nwd : PySem.W.isFn K (.ref fwd) = true)
    (lwd : K.lookup fwd = some ⟨ocwd, odwd, .func (PySem.W.fnOf "done" "Walk.done" (defArgs sDone) (defBody sDone) (defScope sDone) .none kVwd dcwd pmwd anwd cdwd ctwd), slwd⟩)
    (cwd : PySem.W.codeIn K cdwd "Walk.done" = true)
    (kwd : PySem.W.keepIn K (.ref fwd) = true)
    (mwl : PySem.W.findIn K (.ref W) "__len__" = some (some (.ref fwl)))
    (nwl : PySem.W.isFn K (.ref fwl) = true)
    (lwl : K.lookup fwl = some ⟨ocwl, odwl, .func (PySem.W.fnOf "__len__" "Walk.__len__" (defArgs sWLen) (defBody sWLen) (defScope sWLen) .none kVwl dcwl pmwl anwl cdwl ctwl), slwl⟩)
    (cwl : PySem.W.codeIn K cdwl "Walk.__len__" = true)
    (kwl : PySem.W.keepIn K (.ref fwl) = true)
    (mwe : PySem.W.findIn K (.ref W) "chances" = some (some (.ref fwe)))
    (nwe : PySem.W.isFn K (.ref fwe) = true)
    (lwe : K.lookup fwe = some ⟨ocwe, odwe, .func (PySem.W.fnOf "chances" "Walk.chances" (defArgs sChances) (defBody sChances) (defScope sChances) .none kVwe dcwe pmwe anwe cdwe ctwe), slwe⟩)
    (cwe : PySem.W.codeIn K cdwe "Walk.chances" = true)
    (kwe : PySem.W.keepIn K (.ref fwe) = true)
    (mws : PySem.W.findIn K (.ref W) "step" = some (some (.ref fws)))
    (nws : PySem.W.isFn K (.ref fws) = true)
    (lws : K.lookup fws = some ⟨ocws, odws, .func (PySem.W.fnOf "step" "Walk.step" (defArgs sStep) (defBody sStep) (defScope sStep) .none kVws dcws pmws anws cdws ctws), slws⟩)
    (cws : PySem.W.codeIn K cdws "Walk.step" = true)
    (kws : PySem.W.keepIn K (.ref fws) = true)
    (mwu : PySem.W.findIn K (.ref W) "undo" = some (some (.ref fwu)))
    (nwu : PySem.W.isFn K (.ref fwu) = true)
    (lwu : K.lookup fwu = some ⟨ocwu, odwu, .func (PySem.W.fnOf "undo" "Walk.undo" (defArgs sUndo) (defBody sUndo) (defScope sUndo) .none kVwu dcwu pmwu anwu cdwu ctwu), slwu⟩)
    (cwu : PySem.W.codeIn K cdwu "Walk.undo" = true)
    (kwu : PySem.W.keepIn K (.ref fwu) = true)
    (mwc : PySem.W.findIn K (.ref W) "chance" = some (some (.ref fwc)))
    (nwc : PySem.W.isFn K (.ref fwc) = true)
    (lwc : K.lookup fwc = some ⟨ocwc, odwc, .func (PySem.W.fnOf "chance" "Walk.chance" (defArgs sChance) (defBody sChance) (defScope sChance) .none kVwc dcwc pmwc anwc cdwc ctwc), slwc⟩)
    (cwc : PySem.W.codeIn K cdwc "Walk.chance" = true)
    (kwc : PySem.W.keepIn K (.ref fwc) = true)
    (mwq : PySem.W.findIn K (.ref W) "__eq__" = some (some (.ref fwq)))
    (nwq : PySem.W.isFn K (.ref fwq) = true)
    (lwq : K.lookup fwq = some ⟨ocwq, odwq, .func (PySem.W.fnOf "__eq__" "Walk.__eq__" (defArgs sWEq) (defBody sWEq) (defScope sWEq) .none kVwq dcwq pmwq anwq cdwq ctwq), slwq⟩)
    (cwq : PySem.W.codeIn K cdwq "Walk.__eq__" = true)
    (kwq : PySem.W.keepIn K (.ref fwq) = true)
    (mwz : PySem.W.findIn K (.ref W) "__repr__" = some (some (.ref fwz)))
    (nwz : PySem.W.isFn K (.ref fwz) = true)
    (lwz : K.lookup fwz = some ⟨ocwz, odwz, .func (PySem.W.fnOf "__repr__" "Walk.__repr__" (defArgs sWRepr) (defBody sWRepr) (defScope sWRepr) .none kVwz dcwz pmwz anwz cdwz ctwz), slwz⟩)
    (cwz : PySem.W.codeIn K cdwz "Walk.__repr__" = true)
    (kwz : PySem.W.keepIn K (.ref fwz) = true)
    (mwt : PySem.W.findIn K (.ref W) "twin" = some (some (.ref fwt)))
    (nwt : PySem.W.isFn K (.ref fwt) = true)
    (lwt : K.lookup fwt = some ⟨ocwt, odwt, .func (PySem.W.fnOf "twin" "Walk.twin" (defArgs sTwin) (defBody sTwin) (defScope sTwin) .none kVwt dcwt pmwt anwt cdwt ctwt), slwt⟩)
    (cwt : PySem.W.codeIn K cdwt "Walk.twin" = true)
    (kwt : PySem.W.keepIn K (.ref fwt) = true)
    (mwx : PySem.W.findIn K (.ref W) "__str__" = some (some (.ref fwx)))
    (nwx : PySem.W.isFn K (.ref fwx) = true)
    (lwx : K.lookup fwx = some ⟨ocwx, odwx, .func (PySem.W.fnOf "__str__" "Walk.__str__" (defArgs sWStr) (defBody sWStr) (defScope sWStr) .none kVwx dcwx pmwx anwx cdwx ctwx), slwx⟩)
    (cwx : PySem.W.codeIn K cdwx "Walk.__str__" = true)
    (kwx : PySem.W.keepIn K (.ref fwx) = true)
    (eqK : K.lookup C = some (excClassObj nmC qC C NC bsC [.type "object"] hdC snC subC abC colC ddC x0 x1 x2 x3 x5 nwC))
    (eqO : PySem.W.nsOkIn K NC = true)
    (eqE : PySem.W.nsIn K NC "__eq__" = some (some (.ref fmx)))
    (eqN : PySem.W.nsIn K NC "__ne__" = some none)
    (weK : K.lookup W = some (excClassObj nmW qW W NW bsW [.type "object"] hdW snW subW abW colW ddW w0 w1 w2 w3 w5 nwW))
    (weO : PySem.W.nsOkIn K NW = true)
    (weE : PySem.W.nsIn K NW "__eq__" = some (some (.ref fwq)))
    (weN : PySem.W.nsIn K NW "__ne__" = some none)
    (fmW : PySem.W.findIn K (.ref W) "__format__" = some (some (.builtin "object.__format__")))
    (tyW : PySem.W.typeIn K (.ref W) = some (.type "type"))
    (kt_NoneType : PySem.W.subIn K (.type "NoneType") (.ref W) = some false)
    (kt_int : PySem.W.subIn K (.type "int") (.ref W) = some false)
    (kt_bool : PySem.W.subIn K (.type "bool") (.ref W) = some false)
    (kt_str : PySem.W.subIn K (.type "str") (.ref W) = some false)
    (kt_list : PySem.W.subIn K (.type "list") (.ref W) = some false)
    (ai : PySem.W.findIn K (.ref C) "__init__" = some (some (.ref fi)))
    (ni : PySem.W.isFn K (.ref fi) = true)
    (li : K.lookup fi = some ⟨oci, odi, .func (PySem.W.fnOf "__init__" "Part.__init__" (defArgs sInit) (defBody sInit) (defScope sInit) (.ref Ti) kVi dci pmi ani cdi cti), sli⟩)
    (ci : PySem.W.codeIn K cdi "Part.__init__" = true)
    (ki : PySem.W.keepIn K (.ref fi) = true)
    (di : K.lookup Ti = some ⟨cTi, oTi, .seq #[.int 1 tki0] nTi, sTi⟩)
    (aj : PySem.W.findIn K (.ref W) "__init__" = some (some (.ref fj)))
    (nj : PySem.W.isFn K (.ref fj) = true)
    (lj : K.lookup fj = some ⟨ocj, odj, .func (PySem.W.fnOf "__init__" "Walk.__init__" (defArgs sWInit) (defBody sWInit) (defScope sWInit) (.ref Tj) kVj dcj pmj anj cdj ctj), slj⟩)
    (cj : PySem.W.codeIn K cdj "Walk.__init__" = true)
    (kj : PySem.W.keepIn K (.ref fj) = true)
    (dj : K.lookup Tj = some ⟨cTj, oTj, .seq #[.none, .none] nTj, sTj⟩)
    (aq : PySem.W.nsIn K mainGlobals "pace_of" = some (some (.ref fq)))
    (nq : PySem.W.isFn K (.ref fq) = true)
    (lq : K.lookup fq = some ⟨ocq, odq, .func (PySem.W.fnOf "pace_of" "pace_of" (defArgs sPaceOf) (defBody sPaceOf) (defScope sPaceOf) (.ref Tq) kVq dcq pmq anq cdq ctq), slq⟩)
    (cq : PySem.W.codeIn K cdq "pace_of" = true)
    (kq : PySem.W.keepIn K (.ref fq) = true)
    (dq : K.lookup Tq = some ⟨cTq, oTq, .seq #[.none, .none] nTq, sTq⟩)
    (neCW : C ≠ W)
    (g_HE : PySem.W.nsIn K mainGlobals "HopError" = some (some (.ref HE)))
    (g_NL : PySem.W.nsIn K mainGlobals "NoWall" = some (some (.ref NL)))
    (d_HE : PySem.W.hasDictIn K HE = true)
    (t_HE : PySem.W.typeIn K (.ref HE) = some (.type "type"))
    (d_NL : PySem.W.hasDictIn K NL = true)
    (t_NL : PySem.W.typeIn K (.ref NL) = some (.type "type"))
    (b_HE : PySem.W.subIn K (.ref HE) (.type "BaseException") = some true)
    (b_NL : PySem.W.subIn K (.ref NL) (.type "BaseException") = some true)
    (k_NL : PySem.W.keepIn K (.ref NL) = true)
    (ga_NL : PySem.W.findIn K (.ref NL) "__getattribute__" = some (some (.builtin "BaseException.__getattribute__")))
    (gt_NL : PySem.W.findIn K (.ref NL) "__getattr__" = some none)
    (cl_NL : PySem.W.findIn K (.ref NL) "__class__" = some (some (.builtin "object.__class__")))
    (mo_NL : PySem.W.mroIn K NL (.type "object") = some true)
    (uf : PySem.W.findIn K (.ref NL) "__init__" = some (some (.ref fu)))
    (ut : PySem.W.typeIn K (.ref fu) = some (.type "function"))
    (lu : K.lookup fu = some ⟨ocu, odu, .func (PySem.W.fnOf "__init__" "NoWall.__init__" (defArgs sNLInit) (defBody sNLInit) (defScope sNLInit) .none kVu dcu pmu anu cdu ctu), slu⟩)
    (cu : PySem.W.codeIn K cdu "NoWall.__init__" = true)
    (ku : PySem.W.keepIn K (.ref fu) = true)
    (unw : PySem.W.excInitIn K NL [.type "IndexError", .type "LookupError", .type "Exception", .type "BaseException", .type "object"] "IndexError.__new__" = true)
    (uov : PySem.W.excOver K NL [.type "IndexError", .type "LookupError", .type "Exception", .type "BaseException", .type "object"] = true)
    (usa : PySem.W.findIn K (.ref NL) "__setattr__" = some (some (.builtin "object.__setattr__")))
    (utk : PySem.W.takerIn K NL "wall" = some none)
    (unf : PySem.W.findIn K (.ref NL) "wall" = some none)
    (uvI : PySem.W.findCls K (.type "IndexError") (.type "type") "__init__" = some (.val (.builtin "IndexError.__init__")))
    (s_NL_NL : PySem.W.subIn K (.ref NL) (.ref NL) = some true)
    (s_NL_HE : PySem.W.subIn K (.ref NL) (.ref HE) = some false)
    (e_NL_HE : NL ≠ HE)
    : ∃ fd : FuncData, (∀ (s : Shared) (v : Value), BindsTo s fd ⟨[v], []⟩ [("_law_script", v)]) ∧ ∀ base : Heap, K.In base → base.Ns mainGlobals mg → FnOkG l.prog w K mg base CX0 15 fa fd ["_law_script"] (spLaw K) := by
  have e := hfa.symm.trans (PySem.W.mg_of X G aL)
  cases e
  have F1 := fun_mk (st := sIsWhole) l1 c1 k1
  have b1 := F1.binds (ps := ["thing"]) fun _ _ _ _ _ _ us hl => match us, hl with | [_], _ => rfl
  have N1 := Fn.mk (ps := ["thing"]) F1 b1 (PySem.W.mg_of X G a1)
  have F2 := fun_mk (st := sDivisor) l2 c2 k2
  have b2 := F2.binds (ps := ["one", "other"]) fun _ _ _ _ _ _ us hl => match us, hl with | [_, _], _ => rfl
  have N2 := Fn.mk (ps := ["one", "other"]) F2 b2 (PySem.W.mg_of X G a2)
  have FF1 := fun_mk (st := sFigures) lF1 cF1 kF1
  have bF1 := FF1.binds (ps := ["number"]) fun _ _ _ _ _ _ us hl => match us, hl with | [_], _ => rfl
  have NF1 := Fn.mk (ps := ["number"]) FF1 bF1 (PySem.W.mg_of X G aF1)
  have Fz := fun_mk (st := sLowest) lz cz kz
  have bz := Fz.binds (ps := ["top", "bottom"]) fun _ _ _ _ _ _ us hl => match us, hl with | [_, _], _ => rfl
  have Nz := Fn.mk (ps := ["top", "bottom"]) Fz bz (PySem.W.mg_of X G az)
  have FR1 := fun_mk (st := sIsRow) lR1 cR1 kR1
  have bR1 := FR1.binds (ps := ["thing"]) fun _ _ _ _ _ _ us hl => match us, hl with | [_], _ => rfl
  have NR1 := Fn.mk (ps := ["thing"]) FR1 bR1 (PySem.W.mg_of X G aR1)
  have FR2 := fun_mk (st := sNeedRow) lR2 cR2 kR2
  have bR2 := FR2.binds (ps := ["thing"]) fun _ _ _ _ _ _ us hl => match us, hl with | [_], _ => rfl
  have NR2 := Fn.mk (ps := ["thing"]) FR2 bR2 (PySem.W.mg_of X G aR2)
  have FR3 := fun_mk (st := sWithEnds) lR3 cR3 kR3
  have bR3 := FR3.binds (ps := ["row"]) fun _ _ _ _ _ _ us hl => match us, hl with | [_], _ => rfl
  have NR3 := Fn.mk (ps := ["row"]) FR3 bR3 (PySem.W.mg_of X G aR3)
  have FR4 := fun_mk (st := sWallsOf) lR4 cR4 kR4
  have bR4 := FR4.binds (ps := ["row"]) fun _ _ _ _ _ _ us hl => match us, hl with | [_], _ => rfl
  have NR4 := Fn.mk (ps := ["row"]) FR4 bR4 (PySem.W.mg_of X G aR4)
  have FR6 := fun_mk (st := sChanged) lR6 cR6 kR6
  have bR6 := FR6.binds (ps := ["row", "wall"]) fun _ _ _ _ _ _ us hl => match us, hl with | [_, _], _ => rfl
  have NR6 := Fn.mk (ps := ["row", "wall"]) FR6 bR6 (PySem.W.mg_of X G aR6)
  have FR0 := fun_mk (st := sNeedOpen) lR0 cR0 kR0
  have bR0 := FR0.binds (ps := ["row", "wall"]) fun _ _ _ _ _ _ us hl => match us, hl with | [_, _], _ => rfl
  have NR0 := Fn.mk (ps := ["row", "wall"]) FR0 bR0 (PySem.W.mg_of X G aR0)
  have FP1 := fun_mk (st := sPaceFrom) lP1 cP1 kP1
  have bP1 := FP1.binds (ps := ["thing"]) fun _ _ _ _ _ _ us hl => match us, hl with | [_], _ => rfl
  have NP1 := Fn.mk (ps := ["thing"]) FP1 bP1 (PySem.W.mg_of X G aP1)
  have FP2 := fun_mk (st := sPacesFrom) lP2 cP2 kP2
  have bP2 := FP2.binds (ps := ["inn", "out"]) fun _ _ _ _ _ _ us hl => match us, hl with | [_, _], _ => rfl
  have NP2 := Fn.mk (ps := ["inn", "out"]) FP2 bP2 (PySem.W.mg_of X G aP2)
  have FP4 := fun_mk (st := sPaceAll) lP4 cP4 kP4
  have bP4 := FP4.binds (ps := ["row", "inn", "out"]) fun _ _ _ _ _ _ us hl => match us, hl with | [_, _, _], _ => rfl
  have NP4 := Fn.mk (ps := ["row", "inn", "out"]) FP4 bP4 (PySem.W.mg_of X G aP4)
  have FD1 := fun_mk (st := sCellAt) lD1 cD1 kD1
  have bD1 := FD1.binds (ps := ["_law_script", "_law_k"]) fun _ _ _ _ _ _ us hl => match us, hl with | [_, _], _ => rfl
  have ND1 := Fn.mk (ps := ["_law_script", "_law_k"]) FD1 bD1 (PySem.W.mg_of X G aD1)
  have FD2 := fun_mk (st := sDrawn) lD2 cD2 kD2
  have bD2 := FD2.binds (ps := ["_law_cell", "_law_sizes"]) fun _ _ _ _ _ _ us hl => match us, hl with | [_, _], _ => rfl
  have ND2 := Fn.mk (ps := ["_law_cell", "_law_sizes"]) FD2 bD2 (PySem.W.mg_of X G aD2)
  have FD3 := fun_mk (st := sLow) lD3 cD3 kD3
  have bD3 := FD3.binds (ps := ["_law_top", "_law_bottom"]) fun _ _ _ _ _ _ us hl => match us, hl with | [_, _], _ => rfl
  have ND3 := Fn.mk (ps := ["_law_top", "_law_bottom"]) FD3 bD3 (PySem.W.mg_of X G aD3)
  have FD4 := fun_mk (st := sLRow) lD4 cD4 kD4
  have bD4 := FD4.binds (ps := ["_law_cell", "_law_most"]) fun _ _ _ _ _ _ us hl => match us, hl with | [_, _], _ => rfl
  have ND4 := Fn.mk (ps := ["_law_cell", "_law_most"]) FD4 bD4 (PySem.W.mg_of X G aD4)
  have FD5 := fun_mk (st := sLPaces) lD5 cD5 kD5
  have bD5 := FD5.binds (ps := ["_law_cell"]) fun _ _ _ _ _ _ us hl => match us, hl with | [_], _ => rfl
  have ND5 := Fn.mk (ps := ["_law_cell"]) FD5 bD5 (PySem.W.mg_of X G aD5)
  have FD6 := fun_mk (st := sOpen) lD6 cD6 kD6
  have bD6 := FD6.binds (ps := ["_law_row_here"]) fun _ _ _ _ _ _ us hl => match us, hl with | [_], _ => rfl
  have ND6 := Fn.mk (ps := ["_law_row_here"]) FD6 bD6 (PySem.W.mg_of X G aD6)
  have FD7 := fun_mk (st := sBehind) lD7 cD7 kD7
  have bD7 := FD7.binds (ps := ["_law_row_here", "_law_shut"]) fun _ _ _ _ _ _ us hl => match us, hl with | [_, _], _ => rfl
  have ND7 := Fn.mk (ps := ["_law_row_here", "_law_shut"]) FD7 bD7 (PySem.W.mg_of X G aD7)
  have FD8 := fun_mk (st := sLText) lD8 cD8 kD8
  have bD8 := FD8.binds (ps := ["_law_one"]) fun _ _ _ _ _ _ us hl => match us, hl with | [_], _ => rfl
  have ND8 := Fn.mk (ps := ["_law_one"]) FD8 bD8 (PySem.W.mg_of X G aD8)
  have FD9 := fun_mk (st := sLShown) lD9 cD9 kD9
  have bD9 := FD9.binds (ps := ["_law_walk", "_law_row_here", "_law_paces_here"]) fun _ _ _ _ _ _ us hl => match us, hl with | [_, _, _], _ => rfl
  have ND9 := Fn.mk (ps := ["_law_walk", "_law_row_here", "_law_paces_here"]) FD9 bD9 (PySem.W.mg_of X G aD9)
  have FE1 := fun_mk (st := sLAlike) lE1 cE1 kE1
  have bE1 := FE1.binds (ps := ["_law_some", "_law_kept", "_law_paces_here"]) fun _ _ _ _ _ _ us hl => match us, hl with | [_, _, _], _ => rfl
  have NE1 := Fn.mk (ps := ["_law_some", "_law_kept", "_law_paces_here"]) FE1 bE1 (PySem.W.mg_of X G aE1)
  have FE2 := fun_mk (st := sLDeed) lE2 cE2 kE2
  have bE2 := FE2.binds (ps := ["_law_walk", "_law_rows", "_law_draws"]) fun _ _ _ _ _ _ us hl => match us, hl with | [_, _, _], _ => rfl
  have NE2 := Fn.mk (ps := ["_law_walk", "_law_rows", "_law_draws"]) FE2 bE2 (PySem.W.mg_of X G aE2)
  have FE3 := fun_mk (st := sLFresh) lE3 cE3 kE3
  have bE3 := FE3.binds (ps := ["_law_walk", "_law_rows", "_law_paces_here"]) fun _ _ _ _ _ _ us hl => match us, hl with | [_, _, _], _ => rfl
  have NE3 := Fn.mk (ps := ["_law_walk", "_law_rows", "_law_paces_here"]) FE3 bE3 (PySem.W.mg_of X G aE3)
  have y0 := PySem.W.mg_none_of X G z0
  have y1 := PySem.W.mg_none_of X G z1
  have y2 := PySem.W.mg_none_of X G z2
  have y3 := PySem.W.mg_none_of X G z3
  have y4 := PySem.W.mg_none_of X G z4
  have y5 := PySem.W.mg_none_of X G z5
  have y6 := PySem.W.mg_none_of X G z6
  have y7 := PySem.W.mg_none_of X G z7
  have y8 := PySem.W.mg_none_of X G z8
  have y9 := PySem.W.mg_none_of X G z9
  have y10 := PySem.W.mg_none_of X G z10
  have y11 := PySem.W.mg_none_of X G z11
  have y12 := PySem.W.mg_none_of X G z12
  have y13 := PySem.W.mg_none_of X G z13
  have wb0 := PySem.W.mg_of X G gb0
  have wf0 := PySem.W.mg_of X G gf0
  have wm0 := PySem.W.mg_of X G gm0
  have wPI := PySem.W.mg_of X G gPI
  have wPF := PySem.W.mg_of X G gPF
  have CLC : Cls K C := ⟨C_pg, C_hd, C_po, C_sa⟩
  have ICC : C8.InsC K C := ⟨CLC, C_ha, q_hn, q_htk, C_hm, kit_me⟩
  have Fmp := fun_mk (st := sPlus) lmp cmp kmp
  have bmp := Fmp.binds (ps := ["self", "other"]) fun _ _ _ _ _ _ us hl => match us, hl with | [_, _], _ => rfl
  have Fmt := fun_mk (st := sTimes) lmt cmt kmt
  have bmt := Fmt.binds (ps := ["self", "other"]) fun _ _ _ _ _ _ us hl => match us, hl with | [_, _], _ => rfl
  have Fmo := fun_mk (st := sOver) lmo cmo kmo
  have bmo := Fmo.binds (ps := ["self", "other"]) fun _ _ _ _ _ _ us hl => match us, hl with | [_, _], _ => rfl
  have Fmr := fun_mk (st := sPRepr) lmr cmr kmr
  have bmr := Fmr.binds (ps := ["self"]) fun _ _ _ _ _ _ us hl => match us, hl with | [_], _ => rfl
  have Fmx := fun_mk (st := sEq) lmx cmx kmx
  have bmx := Fmx.binds (ps := ["self", "other"]) fun _ _ _ _ _ _ us hl => match us, hl with | [_, _], _ => rfl
  have CLW : Cls K W := ⟨W_pg, W_hd, W_po, W_sa⟩
  have ICW : C8.InsC K W := ⟨CLW, W_ha, q_hn, q_htk, W_hm, kit_me⟩
  have Fwr := fun_mk (st := sWRow) lwr cwr kwr
  have bwr := Fwr.binds (ps := ["self"]) fun _ _ _ _ _ _ us hl => match us, hl with | [_], _ => rfl
  have Fwd := fun_mk (st := sDone) lwd cwd kwd
  have bwd := Fwd.binds (ps := ["self"]) fun _ _ _ _ _ _ us hl => match us, hl with | [_], _ => rfl
  have Fwl := fun_mk (st := sWLen) lwl cwl kwl
  have bwl := Fwl.binds (ps := ["self"]) fun _ _ _ _ _ _ us hl => match us, hl with | [_], _ => rfl
  have Fwe := fun_mk (st := sChances) lwe cwe kwe
  have bwe := Fwe.binds (ps := ["self"]) fun _ _ _ _ _ _ us hl => match us, hl with | [_], _ => rfl
  have Fws := fun_mk (st := sStep) lws cws kws
  have bws := Fws.binds (ps := ["self", "wall"]) fun _ _ _ _ _ _ us hl => match us, hl with | [_, _], _ => rfl
  have Fwu := fun_mk (st := sUndo) lwu cwu kwu
  have bwu := Fwu.binds (ps := ["self"]) fun _ _ _ _ _ _ us hl => match us, hl with | [_], _ => rfl
  have Fwc := fun_mk (st := sChance) lwc cwc kwc
  have bwc := Fwc.binds (ps := ["self", "wall"]) fun _ _ _ _ _ _ us hl => match us, hl with | [_, _], _ => rfl
  have Fwq := fun_mk (st := sWEq) lwq cwq kwq
  have bwq := Fwq.binds (ps := ["self", "other"]) fun _ _ _ _ _ _ us hl => match us, hl with | [_, _], _ => rfl
  have Fwz := fun_mk (st := sWRepr) lwz cwz kwz
  have bwz := Fwz.binds (ps := ["self"]) fun _ _ _ _ _ _ us hl => match us, hl with | [_], _ => rfl
  have Fwt := fun_mk (st := sTwin) lwt cwt kwt
  have bwt := Fwt.binds (ps := ["self"]) fun _ _ _ _ _ _ us hl => match us, hl with | [_], _ => rfl
  have Fwx := fun_mk (st := sWStr) lwx cwx kwx
  have bwx := Fwx.binds (ps := ["self"]) fun _ _ _ _ _ _ us hl => match us, hl with | [_], _ => rfl
  have Fi : FunD K "__init__" "Part.__init__" (defArgs sInit) (defBody sInit) (defScope sInit) [.int 1] [] fi _ := ⟨⟨oci, odi, _, _, _, _, _, _, _, sli, rfl, li, ci, .inr ⟨by simp, Ti, _, [.int 1 tki0], nTi, rfl, di, rfl, .cons (⟨_, rfl⟩) .nil⟩, .inl rfl⟩, ki⟩
  obtain ⟨dsi3, rri3, bi3⟩ := Fi.binds1 (ps := ["self", "top", "bottom"]) 3 1 (by simp) rfl (fun T kV doc pm an cdv ct us its hl hi => match us, its, hl, hi with | [_, _, _], [_], _, _ => ⟨_, rfl, rfl⟩)
  obtain rfl : dsi3 = [] := by cases rri3; rfl
  obtain ⟨dsi2, rri2, bi2⟩ := Fi.binds1 (ps := ["self", "top", "bottom"]) 2 0 (by simp) rfl (fun T kV doc pm an cdv ct us its hl hi => match us, its, hl, hi with | [_, _], [_], _, _ => ⟨_, rfl, rfl⟩)
  obtain ⟨d1i, rfl, r1i⟩ : ∃ d1, dsi2 = [d1] ∧ RelV (.int 1) d1 := by
    cases rri2 with
    | cons r rr =>
      cases rr
      exact ⟨_, rfl, r⟩
  have Fj : FunD K "__init__" "Walk.__init__" (defArgs sWInit) (defBody sWInit) (defScope sWInit) [.non, .non] [] fj _ := ⟨⟨ocj, odj, _, _, _, _, _, _, _, slj, rfl, lj, cj, .inr ⟨by simp, Tj, _, [.none, .none], nTj, rfl, dj, rfl, .cons (rfl) (.cons (rfl) .nil)⟩, .inl rfl⟩, kj⟩
  obtain ⟨dsj4, rrj4, bj4⟩ := Fj.binds1 (ps := ["self", "row", "inn", "out"]) 4 2 (by simp) rfl (fun T kV doc pm an cdv ct us its hl hi => match us, its, hl, hi with | [_, _, _, _], [_, _], _, _ => ⟨_, rfl, rfl⟩)
  obtain rfl : dsj4 = [] := by cases rrj4; rfl
  obtain ⟨dsj2, rrj2, bj2⟩ := Fj.binds1 (ps := ["self", "row", "inn", "out"]) 2 0 (by simp) rfl (fun T kV doc pm an cdv ct us its hl hi => match us, its, hl, hi with | [_, _], [_, _], _, _ => ⟨_, rfl, rfl⟩)
  have Fq : FunD K "pace_of" "pace_of" (defArgs sPaceOf) (defBody sPaceOf) (defScope sPaceOf) [.non, .non] [] fq _ := ⟨⟨ocq, odq, _, _, _, _, _, _, _, slq, rfl, lq, cq, .inr ⟨by simp, Tq, _, [.none, .none], nTq, rfl, dq, rfl, .cons (rfl) (.cons (rfl) .nil)⟩, .inl rfl⟩, kq⟩
  obtain ⟨dsq4, rrq4, bq4⟩ := Fq.binds1 (ps := ["row", "wall", "inn", "out"]) 4 2 (by simp) rfl (fun T kV doc pm an cdv ct us its hl hi => match us, its, hl, hi with | [_, _, _, _], [_, _], _, _ => ⟨_, rfl, rfl⟩)
  obtain rfl : dsq4 = [] := by cases rrq4; rfl
  have Fu := fun_mk (st := sNLInit) lu cu ku
  have bu := Fu.binds (ps := ["self", "wall"]) fun _ _ _ _ _ _ us hl => match us, hl with | [_, _], _ => rfl
  have TR : TxtR K w mg d es n := ⟨y0, y1, y6, y3, y7, y4, y5, y8, y9, y10, y11, ⟨_, wb0⟩, ⟨_, wf0⟩, ⟨_, wm0⟩, PySem.W.mg_of X G gd, ⟨ld, kd, sd⟩, ⟨_, vo⟩, ⟨_, vp⟩⟩
  have TW : TxtW K mg W := ⟨CLW, W_n_inn, W_n_out, W_n_signs, W_n_steps, W_n_product⟩
  have TE : TxtE K mg W := ⟨ICW, PySem.W.mg_of X G gW⟩
  have TF : TxtF mg := ⟨⟨_, wPI⟩, ⟨_, wPF⟩, y13⟩
  have MK : Mks K mg C fi f1 f2 _ _ _ d1i := ⟨⟨C_mk, ai, ni, C_kc⟩, Fi, bi3, bi2, r1i, N1, N2⟩
  have PD : PcDefs K mg C fi f1 f2 fR1 fR2 fP1 fP2 fq _ _ _ _ _ _ _ _ d1i := ⟨MK, NR1, NR2, NP1, NP2, Fq, bq4, PySem.W.mg_of X G aq⟩
  have WD : WDefs K mg C fi f1 f2 fR1 fR2 fR3 fR4 fR6 fP1 fP2 fq fP4 fmp fmt fmo fz _ _ _ _ _ _ _ _ _ _ _ _ _ _ _ _ d1i := ⟨PD, NR3, NR4, NR6, ⟨_, _, NR0⟩, NP4, Nz, Fmp, bmp, ⟨mmp, nmp, kmp⟩, Fmt, bmt, ⟨mmt, nmt, kmt⟩, Fmo, bmo, ⟨mmo, nmo, kmo⟩⟩
  have EC : EqC K C fmx := ⟨mmx, nmx, _, _, _, _, _, _, _, _, _, _, _, _, _, _, _, _, eqK, eqO, eqE, eqN⟩
  have ECW : EqC K W fwq := ⟨mwq, nwq, _, _, _, _, _, _, _, _, _, _, _, _, _, _, _, _, weK, weO, weE, weN⟩
  have KTS : ∀ T : String, T ∈ ["NoneType", "int", "bool", "str", "list"] → PySem.W.subIn K (.type T) (.ref W) = some false ∧ PySem.W.kitOne K (.type T) (.ref W) = some false := by
    intro T hT
    simp only [List.mem_cons, List.not_mem_nil, or_false] at hT
    rcases hT with rfl | rfl | rfl | rfl | rfl
    · exact ⟨kt_NoneType, kit_tyC W_hd tyW kt_NoneType⟩
    · exact ⟨kt_int, kit_tyC W_hd tyW kt_int⟩
    · exact ⟨kt_bool, kit_tyC W_hd tyW kt_bool⟩
    · exact ⟨kt_str, kit_tyC W_hd tyW kt_str⟩
    · exact ⟨kt_list, kit_tyC W_hd tyW kt_list⟩
  have SX : SW K mg C W fwz fwx fwq fwr fmr fmx fF1 _ _ _ _ _ _ _ := ⟨Fwz, bwz, mwz, nwz, Fmr, bmr, mmr, nmr, NF1, ⟨fmW, W_hm, mwx, nwx⟩, Fwx, bwx, ECW, Fwq, bwq, EC, Fmx, bmx, Fwr, bwr, ⟨mwr, nwr, kwr⟩, KTS⟩
  have WX : WL K mg W fj fws fwu fwc fwd fwe fwt fwl _ _ _ _ _ _ _ _ := ⟨⟨W_mk, aj, nj, W_kc⟩, Fj, bj4, Fws, bws, ⟨mws, nws, kws⟩, Fwu, bwu, ⟨mwu, nwu, kwu⟩, Fwc, bwc, ⟨mwc, nwc, kwc⟩, Fwd, bwd, ⟨mwd, nwd, kwd⟩, Fwe, bwe, ⟨mwe, nwe, kwe⟩, Fwt, bwt, ⟨mwt, nwt, kwt⟩, Fwl, bwl, mwl, nwl⟩
  have JX : LJ K mg fD1 fD2 fD3 fD4 fD5 fE2 fE1 fD9 fE3 fD6 fD7 fD8 _ _ _ _ _ _ _ _ _ _ _ _ _ dsj2 := ⟨ND1, ND2, ND3, ND4, ND5, NE2, NE1, ND9, NE3, ND6, ND7, ND8, bj2, rrj2⟩
  have Z0 : Er K mg HE NL fu _ := ⟨PySem.W.mg_of X G g_HE, PySem.W.mg_of X G g_NL, y12, ⟨unw, uov, uf, ut, usa, utk, unf, k_NL, t_NL, ⟨ga_NL, gt_NL, b_NL, d_NL⟩⟩, Fu, bu, ⟨ga_NL, gt_NL, b_NL, d_NL, cl_NL, q_hn, q_htk, mo_NL⟩, (PySem.W.exm_ref b_NL d_NL t_NL s_NL_NL), (kit_own e_NL_HE d_HE t_HE s_NL_HE), uvI⟩
  have T : TxtP K mg C := ⟨y0, y1, y2, y3, y4, y5, ICC, C_n_top, C_n_bottom, PySem.W.mg_of X G gC⟩
  exact ⟨PySem.W.fnOf "law" "law" (defArgs sLaw) (defBody sLaw) (defScope sLaw) .none kVL dcL pmL anL cdL ctL, fun s v => .of_eq rfl, fun base _ _ => ok_law (fun_mk (st := sLaw) lL cL kL) JX WX SX neCW WD T TR TF TW TE Z0⟩
end Hop
open PySem PySem.W PyProof.Rows in
set_option maxRecDepth 100000 in
set_option maxHeartbeats 0 in
theorem PySem.Challenge.cw_hopline_k17_walks_alike_and_shown_holds : PySem.Challenge.rw_hopline_k17_walks_alike_and_shown.Holds := by
  w_on; o_law; k_head; (case hw => w_witness2)
  k_fill
  refine HopR.walk_ofG (l := PySem.Challenge.rw_hopline_k17_walks_alike_and_shown) (n := 63) (k := 15) (x := "_law_script") (sp := fun w => Hop.spLaw _) rfl (by decide) rfl ⟨rfl, by decide, by decide⟩ (fun w h Y => PySem.W.kIn_of Y) ?F (fun _ _ a ns hl _ _ hS => ⟨a, ns, rfl, hS, hl, fun _ => rfl⟩)
  case F =>
    intro w mg fa h KX G hmg
    refine' Hop.all_mk KX G hmg ?u_a1 ?u_l1 ?u_c1 ?u_k1 ?u_a2 ?u_l2 ?u_c2 ?u_k2 ?u_aF1 ?u_lF1 ?u_cF1 ?u_kF1 ?u_az ?u_lz ?u_cz ?u_kz ?u_aR1 ?u_lR1 ?u_cR1 ?u_kR1 ?u_aR2 ?u_lR2 ?u_cR2 ?u_kR2 ?u_aR3 ?u_lR3 ?u_cR3 ?u_kR3 ?u_aR4 ?u_lR4 ?u_cR4 ?u_kR4 ?u_aR6 ?u_lR6 ?u_cR6 ?u_kR6 ?u_aR0 ?u_lR0 ?u_cR0 ?u_kR0 ?u_aP1 ?u_lP1 ?u_cP1 ?u_kP1 ?u_aP2 ?u_lP2 ?u_cP2 ?u_kP2 ?u_aP4 ?u_lP4 ?u_cP4 ?u_kP4 ?u_aD1 ?u_lD1 ?u_cD1 ?u_kD1 ?u_aD2 ?u_lD2 ?u_cD2 ?u_kD2 ?u_aD3 ?u_lD3 ?u_cD3 ?u_kD3 ?u_aD4 ?u_lD4 ?u_cD4 ?u_kD4 ?u_aD5 ?u_lD5 ?u_cD5 ?u_kD5 ?u_aD6 ?u_lD6 ?u_cD6 ?u_kD6 ?u_aD7 ?u_lD7 ?u_cD7 ?u_kD7 ?u_aD8 ?u_lD8 ?u_cD8 ?u_kD8 ?u_aD9 ?u_lD9 ?u_cD9 ?u_kD9 ?u_aE1 ?u_lE1 ?u_cE1 ?u_kE1 ?u_aE2 ?u_lE2 ?u_cE2 ?u_kE2 ?u_aE3 ?u_lE3 ?u_cE3 ?u_kE3 ?u_aL ?u_lL ?u_cL ?u_kL ?u_z0 ?u_z1 ?u_z2 ?u_z3 ?u_z4 ?u_z5 ?u_z6 ?u_z7 ?u_z8 ?u_z9 ?u_z10 ?u_z11 ?u_z12 ?u_z13 ?u_gb0 ?u_gf0 ?u_gm0 ?u_gPI ?u_gPF ?u_gd ?u_ld ?u_kd ?u_sd ?u_vo ?u_vp ?u_gC ?u_C_pg ?u_C_hd ?u_C_po ?u_C_sa ?u_C_mk ?u_C_kc ?u_C_ha ?u_C_hm ?u_q_hn ?u_q_htk ?u_C_n_top ?u_C_n_bottom ?u_mmp ?u_nmp ?u_lmp ?u_cmp ?u_kmp ?u_mmt ?u_nmt ?u_lmt ?u_cmt ?u_kmt ?u_mmo ?u_nmo ?u_lmo ?u_cmo ?u_kmo ?u_mmr ?u_nmr ?u_lmr ?u_cmr ?u_kmr ?u_mmx ?u_nmx ?u_lmx ?u_cmx ?u_kmx ?u_gW ?u_W_pg ?u_W_hd ?u_W_po ?u_W_sa ?u_W_mk ?u_W_kc ?u_W_ha ?u_W_hm ?u_W_n_inn ?u_W_n_out ?u_W_n_signs ?u_W_n_steps ?u_W_n_product ?u_mwr ?u_nwr ?u_lwr ?u_cwr ?u_kwr ?u_mwd ?u_nwd ?u_lwd ?u_cwd ?u_kwd ?u_mwl ?u_nwl ?u_lwl ?u_cwl ?u_kwl ?u_mwe ?u_nwe ?u_lwe ?u_cwe ?u_kwe ?u_mws ?u_nws ?u_lws ?u_cws ?u_kws ?u_mwu ?u_nwu ?u_lwu ?u_cwu ?u_kwu ?u_mwc ?u_nwc ?u_lwc ?u_cwc ?u_kwc ?u_mwq ?u_nwq ?u_lwq ?u_cwq ?u_kwq ?u_mwz ?u_nwz ?u_lwz ?u_cwz ?u_kwz ?u_mwt ?u_nwt ?u_lwt ?u_cwt ?u_kwt ?u_mwx ?u_nwx ?u_lwx ?u_cwx ?u_kwx ?u_eqK ?u_eqO ?u_eqE ?u_eqN ?u_weK ?u_weO ?u_weE ?u_weN ?u_fmW ?u_tyW ?u_kt_NoneType ?u_kt_int ?u_kt_bool ?u_kt_str ?u_kt_list ?u_ai ?u_ni ?u_li ?u_ci ?u_ki ?u_di ?u_aj ?u_nj ?u_lj ?u_cj ?u_kj ?u_dj ?u_aq ?u_nq ?u_lq ?u_cq ?u_kq ?u_dq ?u_neCW ?u_g_HE ?u_g_NL ?u_d_HE ?u_t_HE ?u_d_NL ?u_t_NL ?u_b_HE ?u_b_NL ?u_k_NL ?u_ga_NL ?u_gt_NL ?u_cl_NL ?u_mo_NL ?u_uf ?u_ut ?u_lu ?u_cu ?u_ku ?u_unw ?u_uov ?u_usa ?u_utk ?u_unf ?u_uvI ?u_s_NL_NL ?u_s_NL_HE ?u_e_NL_HE
    (case u_a1 => k_is)
    (case u_l1 => k_is)
    (case u_c1 => k_is)
    (case u_k1 => k_is)
    (case u_a2 => k_is)
    (case u_l2 => k_is)
    (case u_c2 => k_is)
    (case u_k2 => k_is)
    (case u_aF1 => k_is)
    (case u_lF1 => k_is)
    (case u_cF1 => k_is)
    (case u_kF1 => k_is)
    (case u_az => k_is)
    (case u_lz => k_is)
    (case u_cz => k_is)
    (case u_kz => k_is)
    (case u_aR1 => k_is)
    (case u_lR1 => k_is)
    (case u_cR1 => k_is)
    (case u_kR1 => k_is)
    (case u_aR2 => k_is)
    (case u_lR2 => k_is)
    (case u_cR2 => k_is)
    (case u_kR2 => k_is)
    (case u_aR3 => k_is)
    (case u_lR3 => k_is)
    (case u_cR3 => k_is)
    (case u_kR3 => k_is)
    (case u_aR4 => k_is)
    (case u_lR4 => k_is)
    (case u_cR4 => k_is)
    (case u_kR4 => k_is)
    (case u_aR6 => k_is)
    (case u_lR6 => k_is)
    (case u_cR6 => k_is)
    (case u_kR6 => k_is)
    (case u_aR0 => k_is)
    (case u_lR0 => k_is)
    (case u_cR0 => k_is)
    (case u_kR0 => k_is)
    (case u_aP1 => k_is)
    (case u_lP1 => k_is)
    (case u_cP1 => k_is)
    (case u_kP1 => k_is)
    (case u_aP2 => k_is)
    (case u_lP2 => k_is)
    (case u_cP2 => k_is)
    (case u_kP2 => k_is)
    (case u_aP4 => k_is)
    (case u_lP4 => k_is)
    (case u_cP4 => k_is)
    (case u_kP4 => k_is)
    (case u_aD1 => k_is)
    (case u_lD1 => k_is)
    (case u_cD1 => k_is)
    (case u_kD1 => k_is)
    (case u_aD2 => k_is)
    (case u_lD2 => k_is)
    (case u_cD2 => k_is)
    (case u_kD2 => k_is)
    (case u_aD3 => k_is)
    (case u_lD3 => k_is)
    (case u_cD3 => k_is)
    (case u_kD3 => k_is)
    (case u_aD4 => k_is)
    (case u_lD4 => k_is)
    (case u_cD4 => k_is)
    (case u_kD4 => k_is)
    (case u_aD5 => k_is)
    (case u_lD5 => k_is)
    (case u_cD5 => k_is)
    (case u_kD5 => k_is)
    (case u_aD6 => k_is)
    (case u_lD6 => k_is)
    (case u_cD6 => k_is)
    (case u_kD6 => k_is)
    (case u_aD7 => k_is)
    (case u_lD7 => k_is)
    (case u_cD7 => k_is)
    (case u_kD7 => k_is)
    (case u_aD8 => k_is)
    (case u_lD8 => k_is)
    (case u_cD8 => k_is)
    (case u_kD8 => k_is)
    (case u_aD9 => k_is)
    (case u_lD9 => k_is)
    (case u_cD9 => k_is)
    (case u_kD9 => k_is)
    (case u_aE1 => k_is)
    (case u_lE1 => k_is)
    (case u_cE1 => k_is)
    (case u_kE1 => k_is)
    (case u_aE2 => k_is)
    (case u_lE2 => k_is)
    (case u_cE2 => k_is)
    (case u_kE2 => k_is)
    (case u_aE3 => k_is)
    (case u_lE3 => k_is)
    (case u_cE3 => k_is)
    (case u_kE3 => k_is)
    (case u_aL => k_is)
    (case u_lL => k_is)
    (case u_cL => k_is)
    (case u_kL => k_is)
    (case u_z0 => k_is)
    (case u_z1 => k_is)
    (case u_z2 => k_is)
    (case u_z3 => k_is)
    (case u_z4 => k_is)
    (case u_z5 => k_is)
    (case u_z6 => k_is)
    (case u_z7 => k_is)
    (case u_z8 => k_is)
    (case u_z9 => k_is)
    (case u_z10 => k_is)
    (case u_z11 => k_is)
    (case u_z12 => k_is)
    (case u_z13 => k_is)
    (case u_gb0 => k_is)
    (case u_gf0 => k_is)
    (case u_gm0 => k_is)
    (case u_gPI => k_is)
    (case u_gPF => k_is)
    (case u_gd => k_is)
    (case u_ld => k_is)
    (case u_kd => k_keys)
    (case u_sd => decide)
    (case u_vo => k_is)
    (case u_vp => k_is)
    (case u_gC => k_is)
    (case u_C_pg => k_is)
    (case u_C_hd => k_is)
    (case u_C_po => k_is)
    (case u_C_sa => k_is)
    (case u_C_mk => k_is)
    (case u_C_kc => k_is)
    (case u_C_ha => k_is)
    (case u_C_hm => k_is)
    (case u_q_hn => k_is)
    (case u_q_htk => k_is)
    (case u_C_n_top => k_is)
    (case u_C_n_bottom => k_is)
    (case u_mmp => k_is)
    (case u_nmp => k_is)
    (case u_lmp => k_is)
    (case u_cmp => k_is)
    (case u_kmp => k_is)
    (case u_mmt => k_is)
    (case u_nmt => k_is)
    (case u_lmt => k_is)
    (case u_cmt => k_is)
    (case u_kmt => k_is)
    (case u_mmo => k_is)
    (case u_nmo => k_is)
    (case u_lmo => k_is)
    (case u_cmo => k_is)
    (case u_kmo => k_is)
    (case u_mmr => k_is)
    (case u_nmr => k_is)
    (case u_lmr => k_is)
    (case u_cmr => k_is)
    (case u_kmr => k_is)
    (case u_mmx => k_is)
    (case u_nmx => k_is)
    (case u_lmx => k_is)
    (case u_cmx => k_is)
    (case u_kmx => k_is)
    (case u_gW => k_is)
    (case u_W_pg => k_is)
    (case u_W_hd => k_is)
    (case u_W_po => k_is)
    (case u_W_sa => k_is)
    (case u_W_mk => k_is)
    (case u_W_kc => k_is)
    (case u_W_ha => k_is)
    (case u_W_hm => k_is)
    (case u_W_n_inn => k_is)
    (case u_W_n_out => k_is)
    (case u_W_n_signs => k_is)
    (case u_W_n_steps => k_is)
    (case u_W_n_product => k_is)
    (case u_mwr => k_is)
    (case u_nwr => k_is)
    (case u_lwr => k_is)
    (case u_cwr => k_is)
    (case u_kwr => k_is)
    (case u_mwd => k_is)
    (case u_nwd => k_is)
    (case u_lwd => k_is)
    (case u_cwd => k_is)
    (case u_kwd => k_is)
    (case u_mwl => k_is)
    (case u_nwl => k_is)
    (case u_lwl => k_is)
    (case u_cwl => k_is)
    (case u_kwl => k_is)
    (case u_mwe => k_is)
    (case u_nwe => k_is)
    (case u_lwe => k_is)
    (case u_cwe => k_is)
    (case u_kwe => k_is)
    (case u_mws => k_is)
    (case u_nws => k_is)
    (case u_lws => k_is)
    (case u_cws => k_is)
    (case u_kws => k_is)
    (case u_mwu => k_is)
    (case u_nwu => k_is)
    (case u_lwu => k_is)
    (case u_cwu => k_is)
    (case u_kwu => k_is)
    (case u_mwc => k_is)
    (case u_nwc => k_is)
    (case u_lwc => k_is)
    (case u_cwc => k_is)
    (case u_kwc => k_is)
    (case u_mwq => k_is)
    (case u_nwq => k_is)
    (case u_lwq => k_is)
    (case u_cwq => k_is)
    (case u_kwq => k_is)
    (case u_mwz => k_is)
    (case u_nwz => k_is)
    (case u_lwz => k_is)
    (case u_cwz => k_is)
    (case u_kwz => k_is)
    (case u_mwt => k_is)
    (case u_nwt => k_is)
    (case u_lwt => k_is)
    (case u_cwt => k_is)
    (case u_kwt => k_is)
    (case u_mwx => k_is)
    (case u_nwx => k_is)
    (case u_lwx => k_is)
    (case u_cwx => k_is)
    (case u_kwx => k_is)
    (case u_eqK => k_is)
    (case u_eqO => first | kernel_rfl | decide +kernel | rfl)
    (case u_eqE => k_is)
    (case u_eqN => k_is)
    (case u_weK => k_is)
    (case u_weO => first | kernel_rfl | decide +kernel | rfl)
    (case u_weE => k_is)
    (case u_weN => k_is)
    (case u_fmW => k_is)
    (case u_tyW => k_is)
    (case u_kt_NoneType => first | kx_is | k_is | kernel_rfl | decide +kernel)
    (case u_kt_int => first | kx_is | k_is | kernel_rfl | decide +kernel)
    (case u_kt_bool => first | kx_is | k_is | kernel_rfl | decide +kernel)
    (case u_kt_str => first | kx_is | k_is | kernel_rfl | decide +kernel)
    (case u_kt_list => first | kx_is | k_is | kernel_rfl | decide +kernel)
    (case u_ai => k_is)
    (case u_ni => k_is)
    (case u_li => k_is)
    (case u_ci => k_is)
    (case u_ki => k_is)
    (case u_di => k_is)
    (case u_aj => k_is)
    (case u_nj => k_is)
    (case u_lj => k_is)
    (case u_cj => k_is)
    (case u_kj => k_is)
    (case u_dj => k_is)
    (case u_aq => k_is)
    (case u_nq => k_is)
    (case u_lq => k_is)
    (case u_cq => k_is)
    (case u_kq => k_is)
    (case u_dq => k_is)
    (case u_neCW => decide)
    (case u_g_HE => k_is)
    (case u_g_NL => k_is)
    (case u_d_HE => k_is)
    (case u_t_HE => k_is)
    (case u_d_NL => k_is)
    (case u_t_NL => k_is)
    (case u_b_HE => k_is)
    (case u_b_NL => k_is)
    (case u_k_NL => k_is)
    (case u_ga_NL => k_is)
    (case u_gt_NL => k_is)
    (case u_cl_NL => k_is)
    (case u_mo_NL => k_is)
    (case u_uf => k_is)
    (case u_ut => k_is)
    (case u_lu => k_is)
    (case u_cu => k_is)
    (case u_ku => k_is)
    (case u_unw => first | kx_is | k_is | kernel_rfl | decide +kernel)
    (case u_uov => first | kx_is | k_is | kernel_rfl | decide +kernel)
    (case u_usa => k_is)
    (case u_utk => first | kx_is | k_is | kernel_rfl | decide +kernel)
    (case u_unf => k_is)
    (case u_uvI => first | kx_is | k_is | kernel_rfl | decide +kernel)
    (case u_s_NL_NL => k_is)
    (case u_s_NL_HE => k_is)
    (case u_e_NL_HE => decide)
