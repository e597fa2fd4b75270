/-
  slices.Insert of one text at []string, at a row of one's own. Conditions: the row is owned; the text lies in a block of its own.
-/
import Derived.Test.YtbempgdndmchlaaDoorEIns
import Derived.Test.YtbempgdndmchlaaDoorELay
namespace Go.Proofs.YtbempgdndmchlaaDoor
open Go.RowKit
set_option linter.unusedVariables false

abbrev tS : TypeId := 9
theorem setCells_row {g : Nat} {t : TypeId} {fr : Nat × Nat} : ∀ (vs : List Value) (o : Nat) (cur : Array Value) (w : World), w.heap[g]? = some (.cells cur t fr) → o + vs.length ≤ cur.size →
    w.setCells g o vs = w.setRow g (cur.toList.take o ++ vs ++ cur.toList.drop (o + vs.length)).toArray
  | [], o, cur, w, hg, _ => by
    simp only [List.append_nil, List.length_nil, Nat.add_zero, List.take_append_drop, Array.toArray_toList]
    rw [setRow_self w g cur t fr hg]; rfl
  | v :: r, o, cur, w, hg, hl => by
    have hi : o < cur.size := by simp at hl; omega
    rw [World.setCells, setCell_eq_setRow w g o cur t fr v hg, setCells_row r (o + 1) (cur.setIfInBounds o v) _ (setRow_heap w g cur _ t fr hg) (by simp at hl ⊢; omega), setRow_setRow]
    congr 2
    have e := list_seg_step cur.toList o v r (by simp at hl ⊢; omega)
    simpa [Array.toList_setIfInBounds, Nat.add_assoc] using e

theorem infoSt_parts : ∃ i, Tryd.prog.info? tS = some i ∧ i.zero = some (.string ByteArray.empty) ∧ i.size = 1 ∧ i.bytes = 16 := by
  have h : (Tryd.prog.info? tS).map (fun i => (i.zero, i.size, i.bytes)) = some (some (.string ByteArray.empty), 1, 16) := by kernel_rfl
  obtain ⟨i, hi, hx⟩ := Option.map_eq_some_iff.1 h
  simp only [Prod.mk.injEq] at hx
  exact ⟨i, hi, hx.1, hx.2.1, hx.2.2⟩

theorem zeroS_size (k : Nat) : (Builtin.zeroCells (Value.string ⟨#[]⟩).cells k).size = k := by
  have h : (Value.string ⟨#[]⟩).cells.size = 1 := rfl
  unfold Builtin.zeroCells
  simp [h]
/-- A new row, written over behind it: what Insert has made where there was no room. -/
theorem grown_row {w : World} {B n gc : Nat} {A : Array Value} {xs : List Value} (hB : B ≤ w.heap.size) (hA : A.size = gc) (hx : A.toList.take n = xs) (hl : xs.length = n) (hg : n ≤ gc) (hm : gc ≤ maxLen) (row : Option Nat) :
    (w.drew.alloc (.cells A tS)).ownsRow B tS 1 (.slice (some ⟨w.heap.size, 0, none⟩) n gc) n xs ∧ w.grownBy (w.drew.alloc (.cells A tS)) row :=
  ⟨⟨by simpa using hl, .inr ⟨w.heap.size, gc, A, rfl, hB, heap_alloc_new w.drew _, hg, hm, by simpa using hA, by simpa using hx⟩⟩,
    ⟨rfl, rfl, rfl, by simp, fun k hk _ => heap_alloc_old w.drew _ hk⟩⟩
/-- Insert of one text into a row of one's own. -/
theorem insS_any {w : World} {B n i vb : Nat} {v : Value} {ns : List ByteArray} {x : ByteArray} (ho : w.ownsRow B tS 1 v n (ns.map Value.string)) (hB : B ≤ w.heap.size) (hn : n ≤ 1000000) (hi : i ≤ n) (hv : w.heap[vb]? = some (.cells #[.string x] tS (0, 0))) (hne : v.ownBlock ≠ some vb) :
    Calls Tryd.prog 55 #[v, .int .i64 (i : Int), .slice (some ⟨vb, 0, none⟩) 1 1] w fun e w' =>
      ∃ v', e = .returned v' ∧ w'.ownsRow B tS 1 v' (n + 1) ((ns.take i ++ x :: ns.drop i).map Value.string) ∧ w.grownBy w' v.ownBlock ∧ (∀ g, v'.ownBlock = some g → v.ownBlock = some g ∨ w.heap.size ≤ g) := by
  have hl : ns.length = n := by have := ho.1; simpa using this
  have hvs : ∀ j u, [Value.string x][j]? = some u → w.cell? ⟨vb, 0 + j, none⟩ = some u := fun j u hj => by
    rw [Nat.zero_add]
    exact getD_cell hv (n := 1) (L := [Value.string x]) rfl hj
  have h1v : ∀ u ∈ [Value.string x], u.oneCell' = true := fun u hu => by simp at hu; subst hu; rfl
  have h1c : ∀ u ∈ ns.map Value.string, u.oneCell' = true := str_one ns
  have hml : (ns.map Value.string).length = n := by simpa using hl
  have hfin : ((ns.take i ++ x :: ns.drop i).map Value.string) = (ns.map Value.string).take i ++ [Value.string x] ++ (ns.map Value.string).drop i := by simp
  have htl : ((ns.map Value.string).take i).length = i := by rw [List.length_take, hml]; omega
  have hdl : ((ns.map Value.string).drop i).length = n - i := by rw [List.length_drop, hml]
  have hln : ((ns.map Value.string).take i ++ [Value.string x] ++ (ns.map Value.string).drop i).length = n + 1 := by rw [List.length_append, List.length_append, htl, hdl]; simp; omega
  rw [hfin]
  rcases ho.2 with ⟨rfl, h0⟩ | ⟨g, cap, cur, rfl, hgB, hg, hle, hmx, hcs, hL⟩
  · subst h0
    obtain rfl : i = 0 := by omega
    obtain rfl : ns = [] := List.eq_nil_of_length_eq_zero hl
    refine (Any2.slices_Insert_string_end_grow insLay none 0 0 vb 0 1 1 [] [.string x] w (by omega) (by omega) (by omega) (by omega) rfl rfl (fun _ => rfl) (fun a e => by cases e) hvs h1v).mono ?_
    rintro e w' ⟨rfl, rfl⟩
    obtain ⟨gc, hgc⟩ : ∃ gc, gc = grownCap w (0 + 1) 0 (insRen.t 9) := ⟨_, rfl⟩
    have hge : 1 ≤ gc := by rw [hgc]; exact grownCap_ge _ _ _ _
    have hgm : gc ≤ maxLen := by rw [hgc]; exact grownCap_le_maxLen _ _ _ _ (by unfold maxLen; omega)
    rw [← hgc]
    have h := grown_row (w := w) (B := B) (n := 1) (gc := gc) (A := ([] ++ [Value.string x]).toArray ++ Builtin.zeroCells (Value.string ⟨#[]⟩).cells (gc - (0 + 1))) (xs := [Value.string x]) hB
      (by rw [Array.size_append, zeroS_size]; simp; omega) (by simp) rfl hge hgm none
    refine ⟨_, rfl, ?_, h.2, fun q hq => ?_⟩
    · exact h.1
    · cases hq; exact .inr (Nat.le_refl _)
  · have hgv : vb ≠ g := fun e => hne (by rw [e]; rfl)
    have hL' : cur.toList.take n = ns.map Value.string := by simpa using hL
    have hcs' : cur.size = cap := by simpa using hcs
    have hcc : ∀ j u, (ns.map Value.string)[j]? = some u → w.cell? ⟨g, 0 + j, none⟩ = some u := fun j u hj => by rw [Nat.zero_add]; exact getD_cell hg hL' hj
    have hcl : cur.toList.length = cap := by simpa using hcs'
    have hsp : ∀ j, j < cap → (w.cell? ⟨g, 0 + j, none⟩).isSome = true := fun j hj => by
      rw [Nat.zero_add, cell_of_row w g j cur tS (0, 0) hg, Array.getElem?_eq_getElem (by omega)]; rfl
    have hcm : cap ≤ 9223372036854775807 := by unfold maxLen at hmx; omega
    have hself : ∀ (A : Array Value), A.size = cap → A.toList.take (n + 1) = (ns.map Value.string).take i ++ [Value.string x] ++ (ns.map Value.string).drop i → n + 1 ≤ cap → ∀ W : World, W.heap[g]? = some (.cells cur tS (0, 0)) → W.os = w.os → W.tape = w.tape → W.output = w.output → W.heap = w.heap →
        (W.setRow g A).ownsRow B tS 1 (.slice (some ⟨g, 0, none⟩) (n + 1) cap) (n + 1) ((ns.map Value.string).take i ++ [Value.string x] ++ (ns.map Value.string).drop i) ∧ w.grownBy (W.setRow g A) (some g) := by
      intro A hA hx hr W hW h1 h2 h3 h4
      exact ⟨⟨by simpa using hln, .inr ⟨g, cap, A, rfl, hgB, setRow_heap W g cur A tS (0, 0) hW, hr, hmx, by simpa using hA, by simpa using hx⟩⟩,
        ⟨h1, h2, h3, by simp [World.setRow, h4], fun k hk hne' => by rw [setRow_other W g k A (fun e => hne' (by rw [e])), h4]⟩⟩
    obtain ⟨X, hX⟩ : ∃ X, X = (ns.map Value.string).take i ++ [Value.string x] ++ (ns.map Value.string).drop i ++ cur.toList.drop (n + 1) := ⟨_, rfl⟩
    have hXt : X.take (n + 1) = (ns.map Value.string).take i ++ [Value.string x] ++ (ns.map Value.string).drop i := by rw [hX]; exact List.take_left' hln
    have hXl : n + 1 ≤ cap → X.length = cap := fun h => by rw [hX, List.length_append, hln, List.length_drop, hcl]; omega
    by_cases hr : n + 1 ≤ cap
    · by_cases hin : i = n
      · subst hin
        refine (Any2.slices_Insert_string_end_room insLay g 0 i cap vb 0 1 1 [.string x] w (by omega) (by omega) hcm rfl (fun j hj => by rw [Nat.add_assoc]; exact hsp _ (by omega)) (fun j hj => frozen_of hg) hvs h1v).mono ?_
        rintro e w' ⟨rfl, rfl⟩
        have hW' : w.setCells g (0 + i) [Value.string x] = w.setRow g X.toArray := by
          rw [setCells_row [Value.string x] (0 + i) cur w hg (by have := hcl; simp at this ⊢; omega), hX]
          simp only [Nat.zero_add, List.length_cons, List.length_nil]
          rw [List.take_of_length_le (l := ns.map Value.string) (by omega), (show (ns.map Value.string).drop i = [] by apply List.drop_eq_nil_of_le; omega), List.append_nil, hL']
        have h := hself X.toArray (by simpa using hXl hr) hXt hr w hg rfl rfl rfl rfl
        rw [hW']
        exact ⟨_, rfl, h.1, h.2, fun q hq => .inl hq⟩
      · refine (Any2.slices_Insert_string_shift insLay g 0 n cap i vb 0 1 1 (ns.map Value.string) [.string x] w (by omega) (by omega) hr hcm hgv hml rfl hcc (fun j hj => hsp j (by omega)) (fun j hj => frozen_of hg) hvs h1c h1v tS tS 1 cur.size (shape_of hv) (shape_of hg) (by omega) (frozen_of hv) (frozen_of hv)).mono ?_
        rintro e w' ⟨rfl, rfl⟩
        have hd : (w.drew).heap[g]? = some (.cells cur tS (0, 0)) := hg
        have e1 : (cur.toList.take (i + 1)).length = i + 1 := by rw [List.length_take, hcl]; omega
        have e2 : (cur.toList.take (i + 1)).take i = (ns.map Value.string).take i := by rw [← hL', List.take_take, List.take_take, Nat.min_eq_left (by omega), Nat.min_eq_left (by omega)]
        have e3 : (cur.toList.take (i + 1) ++ (ns.map Value.string).drop i ++ cur.toList.drop (i + 1 + ((ns.map Value.string).drop i).length)).take i ++ [Value.string x] ++ (cur.toList.take (i + 1) ++ (ns.map Value.string).drop i ++ cur.toList.drop (i + 1 + ((ns.map Value.string).drop i).length)).drop (i + 1) = X := by
          rw [List.append_assoc (cur.toList.take (i + 1)), List.take_append_of_le_length (by omega), List.drop_left' e1, e2, hdl, show i + 1 + (n - i) = n + 1 by omega, hX]
          simp [List.append_assoc]
        have hW' : (w.drew.setCells g (0 + (i + 1)) ((ns.map Value.string).drop i)).setCells g (0 + i) [Value.string x] = w.drew.setRow g X.toArray := by
          rw [Nat.zero_add, Nat.zero_add, setCells_row ((ns.map Value.string).drop i) (i + 1) cur w.drew hd (by rw [hdl]; omega)]
          have hd2 := setRow_heap w.drew g cur (cur.toList.take (i + 1) ++ (ns.map Value.string).drop i ++ cur.toList.drop (i + 1 + ((ns.map Value.string).drop i).length)).toArray tS (0, 0) hd
          rw [setCells_row [Value.string x] i _ _ hd2 (by simp [hcs', hl]; omega), setRow_setRow]
          exact congrArg (fun l => w.drew.setRow g (List.toArray l)) e3
        have h := hself X.toArray (by simpa using hXl hr) hXt hr w.drew hd rfl rfl rfl rfl
        rw [hW']
        exact ⟨_, rfl, h.1, h.2, fun q hq => .inl hq⟩
    · by_cases hin : i = n
      · subst hin
        refine (Any2.slices_Insert_string_end_grow insLay (some ⟨g, 0, none⟩) i cap vb 0 1 1 (ns.map Value.string) [.string x] w (by omega) hle (by omega) (by omega) hml rfl (fun e => by cases e) (fun a e j u hj => by cases e; rw [Addr.add_mid]; exact hcc j u hj) hvs h1v).mono ?_
        rintro e w' ⟨rfl, rfl⟩
        obtain ⟨gc, hgc⟩ : ∃ gc, gc = grownCap w (i + 1) cap (insRen.t 9) := ⟨_, rfl⟩
        have hge : i + 1 ≤ gc := by rw [hgc]; exact grownCap_ge _ _ _ _
        have hgm : gc ≤ maxLen := by rw [hgc]; exact grownCap_le_maxLen _ _ _ _ (by unfold maxLen; omega)
        rw [← hgc]
        have h := grown_row (w := w) (B := B) (n := i + 1) (gc := gc) (A := (ns.map Value.string ++ [Value.string x]).toArray ++ Builtin.zeroCells (Value.string ⟨#[]⟩).cells (gc - (i + 1))) (xs := ns.map Value.string ++ [Value.string x]) hB
          (by rw [Array.size_append, zeroS_size]; simp [hl]; omega) (by rw [Array.toList_append]; exact List.take_left' (by simp [hl])) (by simp [hl]) hge hgm (some g)
        rw [List.take_of_length_le (l := ns.map Value.string) (by omega), (show (ns.map Value.string).drop i = [] by apply List.drop_eq_nil_of_le; omega), List.append_nil]
        exact ⟨_, rfl, h.1, h.2, fun q hq => by cases hq; exact .inr (Nat.le_refl _)⟩
      · refine (Any2.slices_Insert_string_grow insLay g 0 n cap i vb 0 1 1 (ns.map Value.string) [.string x] w (by omega) (by omega) hle (by omega) (by omega) hml rfl hcc hvs h1c h1v).mono ?_
        rintro e w' ⟨rfl, rfl⟩
        obtain ⟨gc, hgc⟩ : ∃ gc, gc = grownCap w (n + 1) cap (insRen.t 9) := ⟨_, rfl⟩
        have hge : n + 1 ≤ gc := by rw [hgc]; exact grownCap_ge _ _ _ _
        have hgm : gc ≤ maxLen := by rw [hgc]; exact grownCap_le_maxLen _ _ _ _ (by unfold maxLen; omega)
        rw [← hgc]
        obtain ⟨A, hA⟩ : ∃ A : Array Value, A = ((ns.map Value.string).take i).toArray ++ Builtin.zeroCells (Value.string ⟨#[]⟩).cells (n + 1 - i) ++ Builtin.zeroCells (Value.string ⟨#[]⟩).cells (gc - (n + 1)) := ⟨_, rfl⟩
        have hAs : A.size = gc := by rw [hA, Array.size_append, Array.size_append, zeroS_size, zeroS_size]; simp [hl]; omega
        have hAt : A.toList.take i = (ns.map Value.string).take i := by
          rw [hA]
          simp only [Array.toList_append, List.append_assoc]
          exact List.take_left' htl
        rw [← hA]
        obtain ⟨NB, hNB⟩ : ∃ NB, NB = w.heap.size := ⟨_, rfl⟩
        obtain ⟨W1, hW1⟩ : ∃ W1, W1 = (w.alloc (.cells A tS)).drew := ⟨_, rfl⟩
        have hN1 : W1.heap[NB]? = some (.cells A tS (0, 0)) := by rw [hW1, hNB]; exact heap_alloc_new w _
        obtain ⟨A1, hA1⟩ : ∃ A1 : Array Value, A1 = (A.toList.take i ++ [Value.string x] ++ A.toList.drop (i + 1)).toArray := ⟨_, rfl⟩
        have hA1s : A1.size = gc := by rw [hA1]; simp [hAs]; omega
        have hA1t : A1.toList.take (i + 1) = (ns.map Value.string).take i ++ [Value.string x] := by
          rw [hA1, hAt]
          exact List.take_left' (by rw [List.length_append, htl]; rfl)
        obtain ⟨A2, hA2⟩ : ∃ A2 : Array Value, A2 = (A1.toList.take (i + 1) ++ (ns.map Value.string).drop i ++ A1.toList.drop (i + 1 + ((ns.map Value.string).drop i).length)).toArray := ⟨_, rfl⟩
        have hA2s : A2.size = gc := by rw [hA2]; simp [hA1s, hl]; omega
        have hA2t : A2.toList.take (n + 1) = (ns.map Value.string).take i ++ [Value.string x] ++ (ns.map Value.string).drop i := by
          rw [hA2, hA1t]
          exact List.take_left' hln
        have hW' : (((w.alloc (.cells A tS)).drew.setCells NB i [Value.string x]).drew).setCells NB (i + 1) ((ns.map Value.string).drop i) = ((W1.setRow NB A1).drew).setRow NB A2 := by
          rw [← hW1, setCells_row [Value.string x] i A W1 hN1 (by simp [hAs]; omega)]
          have h2 : (W1.setRow NB A1).drew.heap[NB]? = some (.cells A1 tS (0, 0)) := setRow_heap W1 NB A A1 tS (0, 0) hN1
          have e : (W1.setRow NB (A.toList.take i ++ [Value.string x] ++ A.toList.drop (i + [Value.string x].length)).toArray) = W1.setRow NB A1 := by rw [hA1]; rfl
          rw [e, setCells_row ((ns.map Value.string).drop i) (i + 1) A1 _ h2 (by rw [hdl, hA1s]; omega), hA2]
        have h2 : (W1.setRow NB A1).drew.heap[NB]? = some (.cells A1 tS (0, 0)) := setRow_heap W1 NB A A1 tS (0, 0) hN1
        have hres := hW'
        rw [hNB] at hres
        rw [show ((w.alloc (.cells A (insRen.t 9))).drew.setCells w.heap.size i [Value.string x]).drew.setCells w.heap.size (i + 1) ((ns.map Value.string).drop i) = ((W1.setRow w.heap.size A1).drew).setRow w.heap.size A2 from hres]
        rw [← hNB]
        refine ⟨_, rfl, ⟨by simpa using hln, .inr ⟨NB, gc, A2, rfl, by rw [hNB]; exact hB, setRow_heap _ NB A1 A2 tS (0, 0) h2, hge, hgm, by simpa using hA2s, by simpa using hA2t⟩⟩, ⟨by rw [hW1]; rfl, by rw [hW1]; rfl, by rw [hW1]; rfl, by rw [hW1]; simp [World.setRow], fun k hk _ => ?_⟩, fun q hq => ?_⟩
        · have hkN : k ≠ NB := by omega
          rw [setRow_other _ NB k A2 hkN]
          show (W1.setRow NB A1).heap[k]? = _
          rw [setRow_other W1 NB k A1 hkN, hW1]
          exact heap_alloc_old w _ hk
        · cases hq; exact .inr (Nat.le_refl _)

end Go.Proofs.YtbempgdndmchlaaDoor
