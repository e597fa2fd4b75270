/-
  The statement Rows.RecipeOutCardSaid: for every input the law RecipeOut returns true, and each argument reads as it read; the first state and the primes are those of the program's text. Conditions: none of its own.
-/
import Derived.Test.YtlccdenafnekjaaGreatDoorCards
import Derived.Test.YtlccdenafnekjaaGreatDoorTie
import Derived.Test.YtlccdenafnekjaaGreatDoorMf
namespace Go.Proofs.YtlccdenafnekjaaGreatDoor
open Go.RowKit
set_option linter.unusedVariables false

theorem occ_no (a r : List UInt8) (h : 64 ∉ a) : Lib.NoOcc (a ++ r) outB a.length := fun j hj => by
  have hd : a.drop j = a[j] :: a.drop (j + 1) := List.drop_eq_getElem_cons hj
  have hne : ¬ (64 : UInt8) = a[j] := fun e => h (by rw [e]; exact List.getElem_mem hj)
  unfold Lib.occAt
  rw [List.drop_append_of_le_length (by omega), hd, List.cons_append]
  unfold outB
  simp [List.isPrefixOf, hne]
theorem cut_at (a r : List UInt8) (h : 64 ∉ a) : Lib.cut (a ++ (outB ++ r)) outB = (a, r, true) := by
  have hi : Lib.index (a ++ (outB ++ r)) outB = (a.length : Int) := Lib.index_hit (occ_no a _ h) (by rw [List.length_append]; omega) (by
    unfold Lib.occAt
    rw [List.drop_left, List.isPrefixOf_iff_prefix]
    exact List.prefix_append _ _)
  unfold Lib.cut
  rw [hi, if_pos (by omega), Int.toNat_natCast, List.take_left, ← List.append_assoc, ← List.length_append, List.drop_left]
theorem cut_no (a : List UInt8) (h : 64 ∉ a) : Lib.cut a outB = (a, [], false) := by
  have hi : Lib.index a outB = -1 := Lib.index_none (fun j hj => by
    by_cases hlt : j < a.length
    · have := occ_no a [] h j hlt
      rwa [List.append_nil] at this
    · unfold Lib.occAt
      rw [List.drop_of_length_le (by omega)]
      rfl)
  unfold Lib.cut
  rw [hi]
  rfl
theorem rep_step (n m : Nat) (out a r T : List UInt8) (h : 64 ∉ a) (hl : T.length + a.length + out.length ≤ m) : repN (n + 1) m out (a ++ (outB ++ r)) T = repN n m out r (T ++ a ++ out) := by
  rw [repN, if_pos (by omega), cut_at a r h]
  dsimp only
  have e1 : (T ++ a).take (m + 1) = T ++ a := List.take_of_length_le (by rw [List.length_append]; omega)
  rw [if_pos rfl, e1, List.take_of_length_le (by rw [List.length_append, List.length_append]; omega)]
theorem rep_end (n m : Nat) (out a T : List UInt8) (h : 64 ∉ a) (hl : T.length + a.length ≤ m) : repN (n + 1) m out a T = T ++ a := by
  rw [repN, if_pos (by omega), cut_no a h]
  dsimp only
  rw [if_neg (by decide), List.take_of_length_le (by rw [List.length_append]; omega)]
theorem rep_out (m : Nat) (out a b : List UInt8) (ha : 64 ∉ a) (hb : 64 ∉ b) (hl : a.length + b.length + 2 * out.length ≤ m) : repF m out (a ++ (outB ++ (b ++ outB))) = a ++ out ++ b ++ out := by
  have e : (a ++ (outB ++ (b ++ outB))).length + 1 = (a.length + b.length + 8) + 1 + 1 + 1 := by
    simp only [List.length_append]
    show a.length + (5 + (b.length + 5)) + 1 = _
    omega
  unfold repF
  rw [e, rep_step _ _ _ _ _ _ ha (by simp only [List.length_nil]; omega)]
  have e2 : b ++ outB = b ++ (outB ++ []) := by rw [List.append_nil]
  rw [e2, rep_step _ _ _ _ _ _ hb (by simp only [List.length_nil, List.length_append]; omega), rep_end _ _ _ _ _ (by simp) (by simp only [List.length_nil, List.length_append]; omega)]
  simp
theorem rep_no (m : Nat) (out a : List UInt8) (ha : 64 ∉ a) (hl : a.length ≤ m) : repF m out a = a := by
  unfold repF
  rw [rep_end _ _ _ _ _ ha (by simp only [List.length_nil]; omega)]
  rfl
theorem file_size (k : UInt8) (s : ByteArray) (hs : s.size ≤ 65536) (hf : formedT (fileT k s) = true) : sizeT (fileT k s) = some (1, s.size) := by
  have hb : bytesT (fileT k s) = s.size := by unfold fileT; rw [bytesT_mk]; simp [bytesL]
  have hn : sizeN (fileT k s) = 1 := by unfold fileT; rw [sizeN_mk]; simp [sizeNL]
  have hh : heightT (fileT k s) ≤ 16 := by unfold fileT; simp [heightT, heightL]
  refine (sizeT_iff _ _ _).2 ⟨?_, hh, by omega, by omega, by omega, by omega⟩
  unfold fileT at hf ⊢
  exact (fmA_mk _ _ _ _ _).2 ⟨hf, by simp [fmL]⟩
theorem file_form (s : ByteArray) : formedT (fileT 1 s) = true := by
  unfold fileT
  rw [formedT_other (by decide)]
  rfl
theorem put_file (s : ByteArray) (hs : s.size ≤ 65536) : (runE emptyDir [putX ⟨#[102]⟩ (fileT 1 s)]).1 = 0 := by
  have hk := file_size 1 s hs (file_form s)
  have hb : bytesT (fileT 1 s) = s.size := by unfold fileT; rw [bytesT_mk]; simp [bytesL]
  have hn : sizeN (fileT 1 s) = 1 := by unfold fileT; rw [sizeN_mk]; simp [sizeNL]
  have hh : heightT (fileT 1 s) ≤ 2 := by unfold fileT; simp [heightT, heightL]
  unfold putX
  rw [run_one empty_size, app_put _ _ _ _ _ _ (by decide +kernel) (by rw [hk]; rfl), show nmE (⟨#[102]⟩ : ByteArray).data.toList = [⟨#[102]⟩] by decide +kernel]
  unfold emptyDir
  rw [chg_one]
  have e : actE (.put (fileT 1 s)) ⟨#[102]⟩ 1 (.mk 3 false [] [] []) (sizeN (.mk 3 false [] [] [])) (bytesT (.mk 3 false [] [] [])) = layE ⟨#[102]⟩ (plc [] ⟨#[102]⟩) 1 (.mk 3 false [] [] []) (fileT 1 s) (sizeN (.mk 3 false [] [] [])) (bytesT (.mk 3 false [] [] [])) := by
    unfold actE
    dsimp only
    rw [if_neg (by decide +kernel)]
    rfl
  rw [e]
  unfold layE
  dsimp only
  rw [if_neg]
  rw [hn, hb, sizeN_mk, bytesT_mk]
  simp [sizeNL, bytesL]
  omega
end Go.Proofs.YtlccdenafnekjaaGreatDoor
namespace Go.Proofs.YtlccdenafnekjaaGreatDoor
open Go.RowKit
set_option linter.unusedVariables false

/-- A byte of a word in quotes. -/
def qsign (c : UInt8) : List UInt8 := if c = 34 ∨ c = 92 then [92, c] else if c = 10 then [92, 110] else if c = 9 then [92, 116] else [c]
/-- A word in quotes. -/
def quoteF (l : List UInt8) : List UInt8 := 34 :: (l.flatMap qsign ++ [34])
theorem qd_sign (c : UInt8) (r acc : List UInt8) : qd (qsign c ++ r) acc = qd r (acc ++ [c]) := by
  unfold qsign
  by_cases h1 : c = 34 ∨ c = 92
  · rw [if_pos h1]
    exact qd_esc c r acc (by rcases h1 with rfl | rfl <;> rfl)
  · rw [if_neg h1]
    by_cases h2 : c = 10
    · subst h2; exact qd_esc 110 r acc rfl
    · rw [if_neg h2]
      by_cases h3 : c = 9
      · subst h3; exact qd_esc 116 r acc rfl
      · rw [if_neg h3]
        exact qd_step c r acc (fun e => h1 (.inl e)) (fun e => h1 (.inr e))
theorem qd_signs : ∀ (l r acc : List UInt8), (r = [] ∨ r.head? = some 32) → qd (l.flatMap qsign ++ 34 :: r) acc = some (acc ++ l, r)
  | [], r, acc, h => by
    rw [List.flatMap_nil, List.nil_append, qd_close, List.append_nil]
    rcases h with rfl | h
    · rw [if_pos rfl]
    · rw [if_neg (fun e => by rw [e] at h; cases h), if_pos h]
  | c :: l, r, acc, h => by
    rw [List.flatMap_cons, List.append_assoc, qd_sign, qd_signs l r _ h, List.append_assoc]; rfl
theorem read_quote (l r : List UInt8) (h : r = [] ∨ r.head? = some 32) : readW (quoteF l ++ r) = some (l, r) := by
  unfold quoteF
  rw [List.cons_append, readW_cons, if_pos rfl, List.append_assoc]
  exact qd_signs l r [] h
theorem sign_len (c : UInt8) : (qsign c).length ≤ 2 := by
  unfold qsign
  split
  · simp
  · split
    · simp
    · split <;> simp
theorem sign_line (c : UInt8) : 10 ∉ qsign c := by
  unfold qsign
  split
  · rename_i h
    rcases h with rfl | rfl <;> decide
  · split
    · decide
    · split
      · decide
      · rename_i h1 h2 h3
        simp only [List.mem_singleton]
        exact fun e => h2 e.symm
theorem quote_len : ∀ l : List UInt8, (quoteF l).length ≤ 2 * l.length + 2 := fun l => by
  have h : ∀ l : List UInt8, (l.flatMap qsign).length ≤ 2 * l.length := fun l => by
    induction l with
    | nil => simp
    | cons c l ih => rw [List.flatMap_cons, List.length_append, List.length_cons]; have := sign_len c; omega
  have := h l
  unfold quoteF
  rw [List.length_cons, List.length_append, List.length_singleton]
  omega
theorem quote_line (l : List UInt8) : 10 ∉ quoteF l := by
  unfold quoteF
  simp only [List.mem_cons, List.mem_append, List.mem_flatMap, List.not_mem_nil, or_false, not_or]
  refine ⟨by decide, fun ⟨c, _, h⟩ => sign_line c h, by decide⟩
/-- A line of write with two words in quotes. -/
def lineW (p w : List UInt8) : List UInt8 := [119, 114, 105, 116, 101, 32] ++ (quoteF p ++ ([32, 32, 32] ++ (quoteF w ++ [32])))
theorem drop_quote (l r : List UInt8) : dropBl (quoteF l ++ r) = quoteF l ++ r := rfl
theorem words_line (p w : List UInt8) : wordsF (lineW p w) = some [[119, 114, 105, 116, 101], p, w] := by
  unfold wordsF
  have h1 : readW (119 :: ([114, 105, 116, 101, 32] ++ (quoteF p ++ ([32, 32, 32] ++ (quoteF w ++ [32]))))) = some ([119, 114, 105, 116, 101], 32 :: (quoteF p ++ ([32, 32, 32] ++ (quoteF w ++ [32])))) := by
    rw [readW_cons, if_neg (by decide)]
    rfl
  rw [(splN_word [] (s := lineW p w) (c := 119) (t := [114, 105, 116, 101, 32] ++ (quoteF p ++ ([32, 32, 32] ++ (quoteF w ++ [32])))) rfl h1).1]
  have h2 : readW (34 :: (p.flatMap qsign ++ [34] ++ ([32, 32, 32] ++ (quoteF w ++ [32])))) = some (p, [32, 32, 32] ++ (quoteF w ++ [32])) := read_quote p _ (.inr rfl)
  rw [(splN_word _ (s := 32 :: (quoteF p ++ ([32, 32, 32] ++ (quoteF w ++ [32])))) (c := 34) (t := p.flatMap qsign ++ [34] ++ ([32, 32, 32] ++ (quoteF w ++ [32]))) rfl h2).1]
  have h3 : readW (34 :: (w.flatMap qsign ++ [34] ++ [32])) = some (w, [32]) := read_quote w _ (.inr rfl)
  rw [(splN_word _ (s := [32, 32, 32] ++ (quoteF w ++ [32])) (c := 34) (t := w.flatMap qsign ++ [34] ++ [32]) rfl h3).1]
  rw [splN_end _ rfl]
  rfl
theorem lines_one (l : List UInt8) (h : 10 ∉ l) : linesF l = [l] := by
  have h1 : Lib.index l [10] = -1 := by
    rw [Lib.index_one]
    rcases indexByte_lt 10 l with h1 | h1
    · exact h1.1
    · exact absurd h1.2 h
  unfold linesF
  rw [Lib.count_miss h1]
  rfl
theorem par_line (p w : List UInt8) (h : p.length + w.length ≤ 1000) : parF (lineW p w) = ([(2, [p, w])], 0, 0) := by
  have hl : (lineW p w).length ≤ 6000 := by
    unfold lineW
    have h1 := quote_len p
    have h2 := quote_len w
    simp only [List.length_append, List.length_cons, List.length_nil]
    omega
  have hn : 10 ∉ lineW p w := by
    unfold lineW
    have h1 := quote_line p
    have h2 := quote_line w
    simp only [List.mem_append, not_or]
    exact ⟨by decide, h1, by decide, h2, by decide⟩
  unfold parF
  rw [if_neg (by omega), lines_one _ hn, parN_step (words_line p w), show meanF [[119, 114, 105, 116, 101], p, w] = (2, 0) from rfl]
  rfl
end Go.Proofs.YtlccdenafnekjaaGreatDoor
namespace Go.Proofs.YtlccdenafnekjaaGreatDoor
open Go.RowKit
set_option linter.unusedVariables false
set_option maxRecDepth 100000

theorem qu_step (l : List UInt8) (k : Nat) (h : k < l.length) : (l.take (k + 1)).flatMap qsign = (l.take k).flatMap qsign ++ qsign (l.getD k 0) := by
  rw [List.take_succ_eq_append_getElem h, List.flatMap_append, List.getD_eq_getElem?_getD, List.getElem?_eq_getElem h]
  simp
theorem ext_one (s : ByteArray) (k : Nat) (h : k < s.data.toList.length) : (s.extract k (k + 1)).data.toList = [s.data.toList.getD k 0] := by
  rw [ByteArray.data_extract, Array.toList_extract, List.extract_eq_take_drop]
  rw [List.getD_eq_getElem?_getD, List.getElem?_eq_getElem h]
  simp [List.take_one, List.head?_drop, List.getElem?_eq_getElem h]
theorem app_list (a b : ByteArray) : (a ++ b).data.toList = a.data.toList ++ b.data.toList := by rw [ByteArray.data_append, Array.toList_append]
set_option maxHeartbeats 8000000 in
theorem quote_any (s : ByteArray) (w : World) (hs : s.size ≤ 100000) : Calls Tryz.prog 24 #[.string s] w fun e w' => e = .returned (.string ⟨(quoteF s.data.toList).toArray⟩) ∧ w' = w := by
  have HS := Lib.hid hs
  have HLEN : Hid (s.data.toList.length = s.size) := Lib.hid (by simp)
  clear hs
  go_enter Tryz.func24, Tryz.ntmps24
  go_wp2_with fail
  go_loopw [3, 4] (fun v3 v4 wr => ∃ (k : Nat) (o : ByteArray), k ≤ s.size ∧ v4 = .int .i64 k ∧ v3 = .string o ∧ wr = w ∧ o.size ≤ 2 * k + 1 ∧ Hid (o.data.toList = 34 :: (s.data.toList.take k).flatMap qsign)) (fun _ v4 _ => s.size - (intOf v4).toNat)
  case atStart => exact ⟨0, ⟨#[34]⟩, Nat.zero_le _, rfl, rfl, rfl, Nat.le_refl _, Lib.hid rfl⟩
  case round =>
    obtain ⟨k, o, hk, rfl, rfl, rfl, ho, HO⟩ := hrel
    have hkb : (k : Int) ≤ 1000000 := by have := HS.out; omega
    have hob : o.size ≤ 1000000 := by have := HS.out; omega
    by_cases hlt : k < s.size
    · have hki : (k : Int) < (s.size : Int) := by omega
      have hki2 : (k : Int) + 1 ≤ (s.size : Int) := by omega
      have hkl : k < s.data.toList.length := by rw [HLEN.out]; exact hlt
      have hget := str_get s k hlt
      have hstep := qu_step s.data.toList k hkl
      have hx1 := ext_one s k hkl
      obtain ⟨c, hc⟩ : ∃ c, c = s.data.toList.getD k 0 := ⟨_, rfl⟩
      rw [← hc] at hget hstep hx1
      have HX := Lib.hid hx1
      have HSTEP := Lib.hid hstep
      have hsz : (s.extract k (k + 1)).size = 1 := by rw [ByteArray.size_extract]; omega
      have HSZ := Lib.hid hsz
      have hs2 : ((⟨#[92]⟩ : ByteArray) ++ s.extract k (k + 1)).size = 2 := by rw [ByteArray.size_append, hsz]; rfl
      have hcat1 : ¬ 9223372036854775807 < o.size + 1 := by omega
      have hcat2 : ¬ 9223372036854775807 < o.size + 2 := by omega
      have HLT := Lib.hid hlt
      clear hc hstep hx1 hkl
      by_cases h1 : c = 34 ∨ c = 92
      · have HQ : Hid (qsign c = [92, c]) := Lib.hid (by unfold qsign; rw [if_pos h1])
        have HN : Hid ((o ++ ((⟨#[92]⟩ : ByteArray) ++ s.extract k (k + 1))).data.toList = 34 :: (s.data.toList.take (k + 1)).flatMap qsign) := Lib.hid (by rw [app_list, app_list, HX.out, HO.out, HSTEP.out, HQ.out]; rfl)
        have HNS : Hid ((o ++ ((⟨#[92]⟩ : ByteArray) ++ s.extract k (k + 1))).size ≤ 2 * (k + 1) + 1) := Lib.hid (by rw [ByteArray.size_append, hs2]; omega)
        rcases h1 with rfl | rfl
        · go_wp2_with fail
          go_roundw
          case rel => exact ⟨k + 1, _, HLT.out, by go_num, rfl, trivial, HNS.out, HN⟩
          case measure => have := HLT.out; simp [intOf]; omega
        · go_wp2_with fail
          go_roundw
          case rel => exact ⟨k + 1, _, HLT.out, by go_num, rfl, trivial, HNS.out, HN⟩
          case measure => have := HLT.out; simp [intOf]; omega
      · by_cases h2 : c = 10
        · subst h2
          have HN : Hid ((o ++ (⟨#[92, 110]⟩ : ByteArray)).data.toList = 34 :: (s.data.toList.take (k + 1)).flatMap qsign) := Lib.hid (by rw [app_list, HO.out, HSTEP.out]; rfl)
          have HNS : Hid ((o ++ (⟨#[92, 110]⟩ : ByteArray)).size ≤ 2 * (k + 1) + 1) := Lib.hid (by rw [ByteArray.size_append]; show o.size + 2 ≤ _; omega)
          clear h1
          go_wp2_with fail
          go_roundw
          case rel => exact ⟨k + 1, _, HLT.out, by go_num, rfl, trivial, HNS.out, HN⟩
          case measure => have := HLT.out; simp [intOf]; omega
        · by_cases h3 : c = 9
          · subst h3
            have HN : Hid ((o ++ (⟨#[92, 116]⟩ : ByteArray)).data.toList = 34 :: (s.data.toList.take (k + 1)).flatMap qsign) := Lib.hid (by rw [app_list, HO.out, HSTEP.out]; rfl)
            have HNS : Hid ((o ++ (⟨#[92, 116]⟩ : ByteArray)).size ≤ 2 * (k + 1) + 1) := Lib.hid (by rw [ByteArray.size_append]; show o.size + 2 ≤ _; omega)
            clear h1 h2
            go_wp2_with fail
            go_roundw
            case rel => exact ⟨k + 1, _, HLT.out, by go_num, rfl, trivial, HNS.out, HN⟩
            case measure => have := HLT.out; simp [intOf]; omega
          · have HQ : Hid (qsign c = [c]) := Lib.hid (by unfold qsign; rw [if_neg h1, if_neg h2, if_neg h3])
            have HN : Hid ((o ++ s.extract k (k + 1)).data.toList = 34 :: (s.data.toList.take (k + 1)).flatMap qsign) := Lib.hid (by rw [app_list, HX.out, HO.out, HSTEP.out, HQ.out]; rfl)
            have HNS : Hid ((o ++ s.extract k (k + 1)).size ≤ 2 * (k + 1) + 1) := Lib.hid (by rw [ByteArray.size_append, hsz]; omega)
            have n1 : ¬ (c.toNat : Int) = 34 := fun e => h1 (.inl (UInt8.toNat_inj.1 (by show c.toNat = _; rw [show c.toNat = c.toNat from rfl]; simp; omega)))
            have n2 : ¬ (c.toNat : Int) = 92 := fun e => h1 (.inr (UInt8.toNat_inj.1 (by show c.toNat = _; rw [show c.toNat = c.toNat from rfl]; simp; omega)))
            have n3 : ¬ (c.toNat : Int) = 10 := fun e => h2 (UInt8.toNat_inj.1 (by show c.toNat = _; rw [show c.toNat = c.toNat from rfl]; simp; omega))
            have n4 : ¬ (c.toNat : Int) = 9 := fun e => h3 (UInt8.toNat_inj.1 (by show c.toNat = _; rw [show c.toNat = c.toNat from rfl]; simp; omega))
            have m1 : ((c.toNat : Int) == 34) = false := beq_eq_false_iff_ne.2 n1
            have m2 : ((c.toNat : Int) == 92) = false := beq_eq_false_iff_ne.2 n2
            have m3 : ((c.toNat : Int) == 10) = false := beq_eq_false_iff_ne.2 n3
            have m4 : ((c.toNat : Int) == 9) = false := beq_eq_false_iff_ne.2 n4
            clear h1 h2 h3
            go_wp2_with fail
            go_roundw
            case rel => exact ⟨k + 1, _, HLT.out, by go_num, rfl, trivial, HNS.out, HN⟩
            case measure => have := HLT.out; simp [intOf]; omega
    · obtain rfl : k = s.size := by omega
      have hki : ¬ (s.size : Int) < (s.size : Int) := by omega
      have hcat1 : ¬ 9223372036854775807 < o.size + 1 := by omega
      have HE : Hid ((o ++ (⟨#[34]⟩ : ByteArray)) = ⟨(quoteF s.data.toList).toArray⟩) := Lib.hid (by
        refine bytes_ext ?_
        rw [app_list, HO.out, List.take_of_length_le (by rw [HLEN.out]; exact Nat.le_refl _)]
        unfold quoteF
        simp)
      go_wp2_with fail
      refine bodyPost_ret (results_tmp rfl _ _ _) rfl ?_
      exact ⟨by rw [← HE.out]; rfl, rfl⟩
end Go.Proofs.YtlccdenafnekjaaGreatDoor
namespace Go.Proofs.YtlccdenafnekjaaGreatDoor
open Go.RowKit
set_option linter.unusedVariables false
set_option maxRecDepth 100000

def hasAt (s : ByteArray) : Bool := decide (64 ∈ s.data.toList)
theorem hasAt_yes {s : ByteArray} (h : 64 ∈ s.data.toList) : hasAt s = true := decide_eq_true h
theorem hasAt_no {s : ByteArray} (h : 64 ∉ s.data.toList) : hasAt s = false := decide_eq_false h
set_option maxHeartbeats 8000000 in
theorem has_at (s : ByteArray) (w : World) (hs : s.size ≤ 1000000) : Calls Tryz.prog 22 #[.string s] w fun e w' => e = .returned (.bool (hasAt s)) ∧ w' = w := by
  have HS := Lib.hid hs
  have HLEN : Hid (s.data.toList.length = s.size) := Lib.hid (by simp)
  clear hs
  go_enter Tryz.func22, Tryz.ntmps22
  go_wp2_with fail
  go_loopw [3] (fun v3 wr => ∃ (k : Nat), k ≤ s.size ∧ v3 = .int .i64 k ∧ wr = w ∧ Hid (64 ∉ s.data.toList.take k)) (fun v3 _ => s.size - (intOf v3).toNat)
  case atStart => exact ⟨0, Nat.zero_le _, rfl, rfl, Lib.hid (by simp)⟩
  case round =>
    obtain ⟨k, hk, rfl, rfl, HO⟩ := hrel
    have hkb : (k : Int) ≤ 1000000 := by have := HS.out; omega
    by_cases hlt : k < s.size
    · have hki : (k : Int) < (s.size : Int) := by omega
      have hkl : k < s.data.toList.length := by rw [HLEN.out]; exact hlt
      have hget := str_get s k hlt
      have hmem : s.data.toList.getD k 0 ∈ s.data.toList := by
        rw [List.getD_eq_getElem?_getD, List.getElem?_eq_getElem hkl]; exact List.getElem_mem hkl
      have htk : s.data.toList.take (k + 1) = s.data.toList.take k ++ [s.data.toList.getD k 0] := by
        rw [List.take_succ_eq_append_getElem hkl, List.getD_eq_getElem?_getD, List.getElem?_eq_getElem hkl]; rfl
      obtain ⟨c, hc⟩ : ∃ c, c = s.data.toList.getD k 0 := ⟨_, rfl⟩
      rw [← hc] at hget hmem htk
      have HLT := Lib.hid hlt
      have HMEM := Lib.hid hmem
      have HTK := Lib.hid htk
      clear hc hkl hmem htk
      by_cases h1 : c = 64
      · subst h1
        go_wp2_with fail
        refine bodyPost_ret (results_tmp rfl _ _ _) rfl ?_
        exact ⟨by rw [hasAt_yes HMEM.out]; rfl, rfl⟩
      · have n1 : ¬ (c.toNat : Int) = 64 := fun e => h1 (UInt8.toNat_inj.1 (by show c.toNat = _; simp; omega))
        have m1 : ((c.toNat : Int) == 64) = false := beq_eq_false_iff_ne.2 n1
        have HN : Hid (64 ∉ s.data.toList.take (k + 1)) := Lib.hid (by
          rw [HTK.out, List.mem_append, not_or]
          exact ⟨HO.out, by simp only [List.mem_singleton]; exact fun e => h1 e.symm⟩)
        clear h1
        go_wp2_with fail
        go_roundw
        case rel => exact ⟨k + 1, HLT.out, by go_num, trivial, HN⟩
        case measure => have := HLT.out; simp [intOf]; omega
    · obtain rfl : k = s.size := by omega
      have hki : ¬ (s.size : Int) < (s.size : Int) := by omega
      have HN : Hid (64 ∉ s.data.toList) := Lib.hid (by
        have := HO.out
        rwa [List.take_of_length_le (by rw [HLEN.out]; exact Nat.le_refl _)] at this)
      go_wp2_with fail
      refine bodyPost_ret (results_tmp rfl _ _ _) rfl ?_
      exact ⟨by rw [hasAt_no HN.out]; rfl, rfl⟩
theorem text_eq (a b : ByteArray) : (((a ++ (⟨#[64, 111, 117, 116, 64]⟩ : ByteArray)) ++ b) ++ (⟨#[64, 111, 117, 116, 64]⟩ : ByteArray)).data.toList = a.data.toList ++ (outB ++ (b.data.toList ++ outB)) := by
  rw [app_list, app_list, app_list]
  unfold outB
  simp [List.append_assoc]
theorem one_steps {w : World} {b1 b2 c : Nat} {x y : ByteArray} {k : Nat} (hk : k < 256) (h1 : Has w b1 [.string x, .string y] 9) (h2 : Has w b2 [.int .u8 (k : Int), .slice (some ⟨b1, 0, none⟩) 2 2] 49) : SpS w (some ⟨b2, 0, none⟩) 1 1 [(k, [x.data.toList, y.data.toList])] := by
  refine ⟨rfl, .inr ⟨b2, 0, rfl, h2.lt, fun i hi => ⟨[.int .u8 (k : Int), .slice (some ⟨b1, 0, none⟩) 2 2], ?_, fun j v hj => ?_⟩⟩, Nat.le_refl _⟩
  · obtain rfl : i = 0 := by omega
    refine ⟨_, 2, 2, rfl, hk, rfl, .inr ⟨b1, 0, rfl, h1.lt, rfl, Nat.le_refl _, by decide, fun i hi => ?_⟩⟩
    match i, hi with
    | 0, _ => exact h1.cellAt (i := 0) (by simp [strV])
    | 1, _ => exact h1.cellAt (i := 1) (by simp [strV])
  · obtain rfl : i = 0 := by omega
    rw [Nat.zero_mul, Nat.zero_add]
    exact h2.cellAt hj
/-- Run of one write to f. -/
theorem run_write (w : World) (hm : MaxW w) (hmx : 1 < w.heap.size) (hL : LaidR w) (out x : ByteArray) (hx : x.size ≤ 1000000) (ho : out.size ≤ 1000000) (a : Option Addr) (hS : SpS w a 1 1 [(2, [[102], x.data.toList])]) (X : ByteArray) (hX : repS 131072 out x.data.toList = X) (hXs : X.size ≤ 65536) (hf : repS 131072 out [102] = ⟨#[102]⟩) :
    Calls Tryz.prog 16 #[.slice a 1 1, .string out, .slice none 0 0] w (RnP (0, 1, (runE emptyDir [putX ⟨#[102]⟩ (fileT 1 X)]).2.1) w) := by
  have h := run_any sw0 w out a 1 1 [(2, [[102], x.data.toList])] 0 none 0 0 [] hS (by decide) (inS_none w) (by decide) (fun i hi W pb m cs t ka kn kc hbW hp ht hsz hc =>
    step_some sw0 W pb _ m cs t out none 0 0 0 [] _ ka kn kc hp ht hsz hc (by
      obtain rfl : i = 0 := by omega
      intro y hy
      have hy' : y = [102] ∨ y = x.data.toList := by simpa using hy
      rcases hy' with rfl | rfl
      · exact ⟨by decide, by rw [show mostF [] = 131072 from rfl, hf]; decide⟩
      · exact ⟨by simpa using hx, by rw [show mostF [] = 131072 from rfl, hX]; omega⟩) (inS_none W) (by decide) (fun i hi => absurd hi (Nat.not_lt_zero _)) (by decide) ho (hL.later hbW) (hm.below hbW hmx) (Nat.lt_of_lt_of_le hmx hbW.size) (fun _ h7 => by
      obtain rfl : i = 0 := by omega
      exact absurd h7 (by show ¬ (2 : Nat) = 7; decide)))
  rw [show mostF [] = 131072 from rfl] at h
  have hst : stF sw0 131072 out [] emptyDir (2, [[102], x.data.toList]) = putF emptyDir ⟨#[102]⟩ (fileT 1 X) := by
    show putF emptyDir (repS 131072 out [102]) (fileT 1 (repS 131072 out x.data.toList)) = _
    rw [hf, hX]
  have hz : (putF emptyDir ⟨#[102]⟩ (fileT 1 X)).1 = 0 := by
    show (((runE emptyDir [putX ⟨#[102]⟩ (fileT 1 X)]).1 : Nat) : Int) = 0
    rw [put_file X hXs]; rfl
  rw [rnF, hst, if_pos hz, rnF] at h
  exact h
set_option maxHeartbeats 20000000 in
theorem walk_RecipeOut (W : World) (a : ByteArray) (hsa : a.size ≤ 140737488355328) (b : ByteArray) (hsb : b.size ≤ 140737488355328) (out : ByteArray) (hso : out.size ≤ 140737488355328) (hm : MaxW W) (hL : LaidR W) (hmx : 1 < W.heap.size) :
    Calls Tryz.prog 7 #[.string a, .string b, .string out] W fun e W' => e = .returned (.bool true) ∧ Below W.heap.size W W' := by
  have HAW : Hid (∀ v : World, Below W.heap.size W v → Calls Tryz.prog 11 #[] v fun e w' => e = .returned (.bool true) ∧ Below v.heap.size v w') := Lib.hid (fun v hb => awake_any v (hm.below hb hmx) (hL.later hb) (Nat.lt_of_lt_of_le hmx hb.size))
  have HM := Lib.hid hm
  have HL := Lib.hid hL
  have HMX := Lib.hid hmx
  clear hm hL hmx
  have hsum : (a.size : Int) + (b.size : Int) ≤ 9223372036854775807 := by omega
  have hsum0 : (0 : Int) ≤ (a.size : Int) + (b.size : Int) := by omega
  have hsum2 : (a.size : Int) + (b.size : Int) + (out.size : Int) ≤ 9223372036854775807 := by omega
  have hsum3 : (0 : Int) ≤ (a.size : Int) + (b.size : Int) + (out.size : Int) := by omega
  by_cases hbig : 3000 < a.size + b.size + out.size
  · have hgt : (3000 : Int) < (a.size : Int) + (b.size : Int) + (out.size : Int) := by omega
    go_enter Tryz.func7, Tryz.ntmps7
    go_wp2_with fail
    refine (HAW.out W (Below.refl _ _)).mono ?_
    rintro e w1 ⟨rfl, hb1⟩
    have B1 := Lib.hid hb1
    clear hb1
    go_wp2_with fail
    refine (HAW.out w1 B1.out).mono ?_
    rintro e w2 ⟨rfl, hb2⟩
    have B2 := Lib.hid (B1.out.trans (hb2.mono B1.out.size))
    clear hb2
    go_wp2_with fail
    refine bodyPost_ret (results_tmp rfl _ _ _) rfl ?_
    exact ⟨rfl, B2.out⟩
  have hgt : ¬ (3000 : Int) < (a.size : Int) + (b.size : Int) + (out.size : Int) := by omega
  have HAT : Hid (∀ v : World, (Calls Tryz.prog 22 #[.string a] v fun e w' => e = .returned (.bool (hasAt a)) ∧ w' = v) ∧ (Calls Tryz.prog 22 #[.string b] v fun e w' => e = .returned (.bool (hasAt b)) ∧ w' = v) ∧ (Calls Tryz.prog 22 #[.string out] v fun e w' => e = .returned (.bool (hasAt out)) ∧ w' = v)) :=
    Lib.hid (fun v => ⟨has_at a v (by omega), has_at b v (by omega), has_at out v (by omega)⟩)
  have hsz : a.size + b.size + out.size ≤ 3000 := by omega
  have HSZ := Lib.hid hsz
  clear hbig
  cases ha : hasAt a with
  | true =>
    have HA := Lib.hid ha
    clear ha
    go_enter Tryz.func7, Tryz.ntmps7
    go_wp2_with fail
    refine (HAW.out W (Below.refl _ _)).mono ?_
    rintro e w1 ⟨rfl, hb1⟩
    have B1 := Lib.hid hb1
    clear hb1
    go_wp2_with fail
    refine (HAT.out w1).1.mono ?_
    rintro e w1' ⟨rfl, rfl⟩
    rw [HA.out]
    go_wp2_with fail
    refine (HAW.out _ B1.out).mono ?_
    rintro e w2 ⟨rfl, hb2⟩
    have B2 := Lib.hid (B1.out.trans (hb2.mono B1.out.size))
    clear hb2
    go_wp2_with fail
    refine bodyPost_ret (results_tmp rfl _ _ _) rfl ?_
    exact ⟨rfl, B2.out⟩
  | false =>
  cases hb : hasAt b with
  | true =>
    have HA := Lib.hid ha
    have HB := Lib.hid hb
    clear ha hb
    go_enter Tryz.func7, Tryz.ntmps7
    go_wp2_with fail
    refine (HAW.out W (Below.refl _ _)).mono ?_
    rintro e w1 ⟨rfl, hb1⟩
    have B1 := Lib.hid hb1
    clear hb1
    go_wp2_with fail
    refine (HAT.out w1).1.mono ?_
    rintro e w1' ⟨rfl, rfl⟩
    rw [HA.out]
    go_wp2_with fail
    refine (HAT.out _).2.1.mono ?_
    rintro e w1' ⟨rfl, rfl⟩
    rw [HB.out]
    go_wp2_with fail
    refine (HAW.out _ B1.out).mono ?_
    rintro e w2 ⟨rfl, hb2⟩
    have B2 := Lib.hid (B1.out.trans (hb2.mono B1.out.size))
    clear hb2
    go_wp2_with fail
    refine bodyPost_ret (results_tmp rfl _ _ _) rfl ?_
    exact ⟨rfl, B2.out⟩
  | false =>
  cases hc : hasAt out with
  | true =>
    have HA := Lib.hid ha
    have HB := Lib.hid hb
    have HC := Lib.hid hc
    clear ha hb hc
    go_enter Tryz.func7, Tryz.ntmps7
    go_wp2_with fail
    refine (HAW.out W (Below.refl _ _)).mono ?_
    rintro e w1 ⟨rfl, hb1⟩
    have B1 := Lib.hid hb1
    clear hb1
    go_wp2_with fail
    refine (HAT.out w1).1.mono ?_
    rintro e w1' ⟨rfl, rfl⟩
    rw [HA.out]
    go_wp2_with fail
    refine (HAT.out _).2.1.mono ?_
    rintro e w1' ⟨rfl, rfl⟩
    rw [HB.out]
    go_wp2_with fail
    refine (HAT.out _).2.2.mono ?_
    rintro e w1' ⟨rfl, rfl⟩
    rw [HC.out]
    go_wp2_with fail
    refine (HAW.out _ B1.out).mono ?_
    rintro e w2 ⟨rfl, hb2⟩
    have B2 := Lib.hid (B1.out.trans (hb2.mono B1.out.size))
    clear hb2
    go_wp2_with fail
    refine bodyPost_ret (results_tmp rfl _ _ _) rfl ?_
    exact ⟨rfl, B2.out⟩
  | false =>
  have HA := Lib.hid ha
  have HB := Lib.hid hb
  have HC := Lib.hid hc
  have HNA : Hid (64 ∉ a.data.toList) := Lib.hid (fun h => by rw [hasAt_yes h] at ha; cases ha)
  have HNB : Hid (64 ∉ b.data.toList) := Lib.hid (fun h => by rw [hasAt_yes h] at hb; cases hb)
  clear ha hb hc
  have hs1 : (a ++ (⟨#[64, 111, 117, 116, 64]⟩ : ByteArray)).size ≤ 3005 := by rw [ByteArray.size_append]; show a.size + 5 ≤ _; omega
  have hs2 : ((a ++ (⟨#[64, 111, 117, 116, 64]⟩ : ByteArray)) ++ b).size ≤ 6005 := by rw [ByteArray.size_append]; omega
  have hs3 : (((a ++ (⟨#[64, 111, 117, 116, 64]⟩ : ByteArray)) ++ b) ++ (⟨#[64, 111, 117, 116, 64]⟩ : ByteArray)).size ≤ 6010 := by rw [ByteArray.size_append]; show _ + 5 ≤ _; omega
  have hc1 : ¬ 9223372036854775807 < a.size + (⟨#[64, 111, 117, 116, 64]⟩ : ByteArray).size := by show ¬ _ < a.size + 5; omega
  have hc2 : ¬ 9223372036854775807 < (a ++ (⟨#[64, 111, 117, 116, 64]⟩ : ByteArray)).size + b.size := by omega
  have hc3 : ¬ 9223372036854775807 < ((a ++ (⟨#[64, 111, 117, 116, 64]⟩ : ByteArray)) ++ b).size + (⟨#[64, 111, 117, 116, 64]⟩ : ByteArray).size := by show ¬ _ < _ + 5; omega
  have hd0 : (a ++ out).size ≤ 3000 := by rw [ByteArray.size_append]; omega
  have hd1 : ((a ++ out) ++ b).size ≤ 3000 := by rw [ByteArray.size_append, ByteArray.size_append]; omega
  have hd2 : (((a ++ out) ++ b) ++ out).size ≤ 6000 := by rw [ByteArray.size_append]; omega
  have he1 : ¬ 9223372036854775807 < a.size + out.size := by omega
  have he2 : ¬ 9223372036854775807 < (a ++ out).size + b.size := by omega
  have he3 : ¬ 9223372036854775807 < ((a ++ out) ++ b).size + out.size := by omega
  obtain ⟨x, hx⟩ : ∃ x, x = ((a ++ (⟨#[64, 111, 117, 116, 64]⟩ : ByteArray)) ++ b) ++ (⟨#[64, 111, 117, 116, 64]⟩ : ByteArray) := ⟨_, rfl⟩
  obtain ⟨X, hX⟩ : ∃ X, X = ((a ++ out) ++ b) ++ out := ⟨_, rfl⟩
  have hxs : x.size ≤ 6010 := by rw [hx]; exact hs3
  have hXs : X.size ≤ 6000 := by rw [hX]; exact hd2
  have hrep : repS 131072 out x.data.toList = X := by
    unfold repS
    rw [hx, text_eq, rep_out _ _ _ _ HNA.out HNB.out (by simp; omega), hX]
    refine bytes_ext ?_
    rw [app_list, app_list, app_list]
  have hrf : repS 131072 out [102] = ⟨#[102]⟩ := by unfold repS; rw [rep_no _ _ _ (by decide) (by decide)]
  have HRUN : Hid (∀ (v : World) (ar : Option Addr), Below W.heap.size W v → SpS v ar 1 1 [(2, [[102], x.data.toList])] → Calls Tryz.prog 16 #[.slice ar 1 1, .string out, .slice none 0 0] v (RnP (0, 1, (runE emptyDir [putX ⟨#[102]⟩ (fileT 1 X)]).2.1) v)) := Lib.hid (fun v ar hb hS =>
    run_write v (HM.out.below hb HMX.out) (Nat.lt_of_lt_of_le HMX.out hb.size) (HL.out.later hb) out x (by omega) (by omega) ar hS X hrep (by omega) hrf)
  obtain ⟨R, hR⟩ : ∃ R, R = (runE emptyDir [putX ⟨#[102]⟩ (fileT 1 X)]).2.1 := ⟨_, rfl⟩
  have hR0 := put_file X (by omega : X.size ≤ 65536)
  have HRZ : Hid ((sizeT R).isSome = true) := Lib.hid (by rw [hR]; exact (run_small hR0).2)
  have HRAT : Hid (atT [102] R = .inr (fileT 1 X)) := Lib.hid (by
    rw [hR]
    exact (undone ⟨#[102]⟩ emptyDir (fileT 1 X) empty_size (by rw [file_size 1 X (by omega) (file_form X)]; rfl) hR0).1)
  rw [← hR] at HRUN
  have HX := Lib.hid hx
  have HXX := Lib.hid hX
  clear hR hR0 hrep hrf hx hX
  go_enter Tryz.func7, Tryz.ntmps7
  go_wp2_with fail
  refine (HAW.out W (Below.refl _ _)).mono ?_
  rintro e w1 ⟨rfl, hb1⟩
  have B1 := Lib.hid hb1
  clear hb1
  go_wp2_with fail
  refine (HAT.out w1).1.mono ?_
  rintro e w1' ⟨rfl, rfl⟩
  rw [HA.out]
  go_wp2_with fail
  refine (HAT.out _).2.1.mono ?_
  rintro e w1' ⟨rfl, rfl⟩
  rw [HB.out]
  go_wp2_with fail
  refine (HAT.out _).2.2.mono ?_
  rintro e w1 ⟨rfl, rfl⟩
  rw [HC.out]
  go_wp2_with fail
  obtain ⟨w2, hw2⟩ : ∃ w2, w2 = w1.alloc (.cells #[.string ⟨#[102]⟩, .string (((a ++ (⟨#[64, 111, 117, 116, 64]⟩ : ByteArray)) ++ b) ++ (⟨#[64, 111, 117, 116, 64]⟩ : ByteArray))] 9) := ⟨_, rfl⟩
  rw [← hw2]
  obtain ⟨w3, hw3⟩ : ∃ w3, w3 = w2.alloc (.cells #[.int .u8 2, .slice (some ⟨w1.heap.size, 0, none⟩) 2 2] 49) := ⟨_, rfl⟩
  rw [← hw3]
  rw [← HX.out] at hw2
  have b2 : Below w1.heap.size w1 w2 := by rw [hw2]; exact (Below.refl _ _).alloc (Nat.le_refl _) _
  have g2 : Has w2 w1.heap.size [.string ⟨#[102]⟩, .string x] 9 := by rw [hw2]; exact Has.new w1 [.string ⟨#[102]⟩, .string x] _
  have s2 : w2.heap.size = w1.heap.size + 1 := by rw [hw2]; simp
  have b3 : Below w2.heap.size w2 w3 := by rw [hw3]; exact (Below.refl _ _).alloc (Nat.le_refl _) _
  have g3 : Has w3 (w1.heap.size + 1) [.int .u8 2, .slice (some ⟨w1.heap.size, 0, none⟩) 2 2] 49 := by rw [hw3, ← s2]; exact Has.new w2 [.int .u8 2, .slice (some ⟨w1.heap.size, 0, none⟩) 2 2] _
  have hB3 : Below W.heap.size W w3 := B1.out.trans ((b2.trans (b3.mono b2.size)).mono B1.out.size)
  have hS := one_steps (c := 0) (k := 2) (by decide) (g2.below b3 g2.lt) g3
  refine (HRUN.out w3 _ hB3 hS).mono ?_
  rintro e w4 ⟨cs, SS, rfl, hmt, hb4⟩
  obtain ⟨m, hT⟩ : ∃ m, IsT w4 m cs R := ⟨_, hmt.isT _ (Nat.le_refl _) (sizeT_get HRZ.out).2.2.1⟩
  have ho5 := isT_five hT
  have ho1 := isT_one hT
  have B4 := Lib.hid (hB3.trans (hb4.mono hB3.size))
  have HO5 := Lib.hid (infoL ho5)
  have HO1 := Lib.hid ho1
  have HOS : Hid ((#[.int .u8 0, .bool false, .slice none 0 0, .slice none 0 0, .slice none 0 0] : Array Value).size = cs.toArray.size) := Lib.hid (by simp [ho5])
  obtain ⟨g5, hg5⟩ : ∃ g, g = w4.heap.size := ⟨_, rfl⟩
  obtain ⟨w5, hw5⟩ : ∃ w5, w5 = (w4.alloc (.cells #[.int .u8 0, .bool false, .slice none 0 0, .slice none 0 0, .slice none 0 0] 37)).setRow g5 cs.toArray := ⟨_, rfl⟩
  have b5 : Below w4.heap.size w4 w5 := by rw [hw5]; exact below_setRow ((Below.refl _ _).alloc (Nat.le_refl _) _) (by rw [hg5]; exact Nat.le_refl _) _
  have H5 : Hid (w5.heap[g5]? = some (.cells cs.toArray 37 (0, 0))) := Lib.hid (by rw [hw5, hg5]; exact setRow_heap _ _ _ _ _ _ (heap_alloc_new w4 _))
  have B5 := Lib.hid (B4.out.trans (b5.mono B4.out.size))
  have HT5 : Hid (IsT w5 m cs R) := Lib.hid (IsT.later b5 _ _ _ hT)
  have HGD : Hid (Good R) := Lib.hid (Good.of (sizeT_get HRZ.out).1)
  have HRA := Lib.hid (rat_any m cs R ⟨#[102]⟩ w5 HT5.out HGD.out)
  rw [show atT (⟨#[102]⟩ : ByteArray).data.toList R = .inr (fileT 1 X) from HRAT.out] at HRA
  have HW5 := Lib.hid hw5
  have HG5 := Lib.hid hg5
  clear hT hmt hb4 ho5 ho1 hw5 hg5 b5 hS g3 b3 s2 g2 b2 hw2 hw3 hB3 HRUN HAW
  go_upto_region 4 with (refine wpList_store_row rfl 37 _ _ rfl w4.heap.size cs.toArray rfl rfl 37 _ (heap_alloc_new w4 _) HO5.out HOS.out HO1.out ?_)
  rw [← HG5.out, ← HW5.out]
  go_wp2_with (refine wpList_load_row rfl 37 _ rfl g5 rfl 37 cs.toArray (0, 0) _ H5.out Tryz.underlying37 rfl HO5.out ?_)
  refine HRA.out.mono ?_
  rintro e w6 ⟨n6, cs6, rfl, hT6, hb6⟩
  have hT6' : IsT w6 n6 cs6 (fileT 1 X) := IsT.later hb6 _ _ _ hT6
  have HC5 := Lib.hid (infoL (isT_five hT6'))
  have HC1 := Lib.hid (isT_one hT6')
  have HCS : Hid ((#[.int .u8 0, .bool false, .slice none 0 0, .slice none 0 0, .slice none 0 0] : Array Value).size = cs6.toArray.size) := Lib.hid (by simp [isT_five hT6'])
  obtain ⟨g7, hg7⟩ : ∃ g, g = w6.heap.size := ⟨_, rfl⟩
  obtain ⟨w7, hw7⟩ : ∃ w7, w7 = (w6.alloc (.cells #[.int .u8 0, .bool false, .slice none 0 0, .slice none 0 0, .slice none 0 0] 37)).setRow g7 cs6.toArray := ⟨_, rfl⟩
  have b7 : Below w6.heap.size w6 w7 := by rw [hw7]; exact below_setRow ((Below.refl _ _).alloc (Nat.le_refl _) _) (by rw [hg7]; exact Nat.le_refl _) _
  have B7 := Lib.hid (B5.out.trans ((hb6.trans (b7.mono hb6.size)).mono B5.out.size))
  have g8 : Has w7 g7 cs6 37 := by rw [hw7, hg7]; exact setRow_heap _ _ _ _ _ _ (heap_alloc_new w6 _)
  have hT7 := IsT.later b7 _ _ _ hT6'
  have hk : ∃ da dn dc c3 c4, cs6 = [.int .u8 1, .bool false, .slice da dn dc, c3, c4] ∧ IsB w7 da dn dc X.data.toList := by
    unfold fileT at hT7
    cases n6 with
    | zero => exact absurd hT7 (by simp [IsT])
    | succ n6 =>
      obtain ⟨_, _, _, _, _, _, _, _, _, hcs, hB, _⟩ := hT7
      exact ⟨_, _, _, _, _, hcs, hB⟩
  obtain ⟨da, dn, dc, c3, c4, hcs6, hB⟩ := hk
  have hq2 := g8.cellAt (i := 2) (v := .slice da dn dc) (by rw [hcs6]; rfl)
  have hcv : (convert 33 9 (.slice da dn dc)).run Tryz.prog w7 = .ok (.string (((a ++ out) ++ b) ++ out)) w7 := by
    have h := conv_isB hB
    rw [show (⟨X.data.toList.toArray⟩ : ByteArray) = X by simp, HXX.out] at h
    exact h
  have HW7 := Lib.hid hw7
  have HG7 := Lib.hid hg7
  clear hT6 hT6' hb6 hw7 hg7 b7 g8 hT7 hcs6 hB
  go_upto_region 5 with (refine wpList_store_row rfl 37 _ _ rfl w6.heap.size cs6.toArray rfl rfl 37 _ (heap_alloc_new w6 _) HC5.out HCS.out HC1.out ?_)
  rw [← HG7.out, ← HW7.out]
  go_wp2_with fail
  refine bodyPost_ret (results_tmp rfl _ _ _) rfl ?_
  exact ⟨rfl, B7.out⟩
end Go.Proofs.YtlccdenafnekjaaGreatDoor

namespace Go.Proofs.YtlccdenafnekjaaGreatDoor.recipeOut
open Go.ChangeShapes Go.WideShapes Go.ChangeAt Go.RowKit
open Go.ChangeMaps (open_string shut_string)
set_option linter.unusedVariables false

theorem own : ownKnob Tryz.prog.godebug = none := by kernel_rfl
theorem laidOut : laidOutB Tryz.prog = true := by kernel_rfl

set_option maxRecDepth 100000 in
theorem lifted (os : Os) (started : os.Started) (H : Type) (enc : TypeId × Value → H) :
    ReturnsInHanded {} Tryz.checked os 7 .any (fun w args => (Rows.recipeOutSpec.pre enc Tryz.prog Tryz.f7 Rows.recipeOutRow.domain false w args ∧ laidMetH Tryz.prog Rows.recipeOutRow.laid w) ∧ sizedMet enc Tryz.prog Tryz.f7 (OpenSpec.ofChange Rows.recipeOutSpec) false w args)
      (Rows.recipeOutSpec.post enc Tryz.prog Tryz.f7 false true false false) := by
  refine handed_shaped_and (C := Tryz.checked) (X := fun w _ => laidMetH Tryz.prog Rows.recipeOutRow.laid w) (fun _ _ _ hh h => h.of_heap hh) own started (by kernel_rfl) Tryz.func7
    (ChangeSpec.witness_shaped (enc := enc) (C := Tryz.checked) (os := os) (X := fun w _ => laidMetH Tryz.prog Rows.recipeOutRow.laid w) false (World.laidAll Tryz.prog os Rows.recipeOutRow.laid) #[.string ByteArray.empty, .string ByteArray.empty, .string ByteArray.empty] 8 (World.laidAll_os _ _ _)
      (World.shaped_of_ZipB (by kernel_rfl) (by kernel_rfl)) (by kernel_rfl) (by kernel_rfl) (by kernel_rfl)
      (by rw [MakeChecks.laidMetH_plain _ _ _ (by kernel_rfl)]; exact laidMet_laidAll _ (by kernel_rfl) (by kernel_rfl))) ?_
  intro W base args ds gs before hval0 hW _ hsz0 hL hsh _
  have hLR : LaidR W := laid_metR hL
  have hl : MaxW W := Tryz.laysM146.s1_3 W hsh
  have hmx : 1 < W.heap.size := by
    obtain ⟨m, hm⟩ := hl
    exact World.block_lt_of_cell? W _ hm
  have hsz : (DataW.weightsEach Tryz.prog (Tryz.f7.params.toList ++ Rows.recipeOutSpec.plain.varTypes Tryz.prog) (ds ++ gs)).all (· ≤ reachBytes) = true := hsz0
  have hval : ∀ (j : Nat) t v, Tryz.f7.params[j]? = some t → args[j]? = some v → Value.okWide Tryz.prog W .any base t v := hval0
  have hW' := hW
  obtain ⟨p, q, hA0, hV, rfl, hfz, hnd⟩ := hW
  have hA : DataW.TrodAll enc Tryz.prog W 0 (fun _ => true) true Tryz.f7.params.toList args.toList ds p := hA0
  rw [Tryz.params7] at hA hval hsz
  obtain ⟨v0, vs0, d0, ds0, p0, q0, hargs, rfl, rfl, h0, r0⟩ := trodAll_cons hA
  obtain ⟨v1, vs1, d1, ds1, p1, q1, rfl, rfl, rfl, h1, r1⟩ := trodAll_cons r0
  obtain ⟨v2, vs2, d2, ds2, p2, q2, rfl, rfl, rfl, h2, r2⟩ := trodAll_cons r1
  obtain ⟨rfl, rfl, rfl⟩ := trodAll_nil r2
  obtain rfl : args = #[v0, v1, v2] := by cases args; simp_all
  obtain ⟨rfl, rfl⟩ := trodVars_none hV
  have str0 : ∀ bytes : List UInt8, d0 = .lit (.string bytes) → bytes.length ≤ 140737488355328 := fun bytes hb => by have hs := sized_string hsz (j := 0) (t := 9) (bytes := bytes) rfl (by rw [hb]; rfl); unfold reachBytes at hs; omega
  obtain ⟨a0, rfl, rfl, rfl, w0⟩ := open_string Tryz.underlying9 (hval 0 9 v0 rfl rfl) h0
  have str1 : ∀ bytes : List UInt8, d1 = .lit (.string bytes) → bytes.length ≤ 140737488355328 := fun bytes hb => by have hs := sized_string hsz (j := 1) (t := 9) (bytes := bytes) rfl (by rw [hb]; rfl); unfold reachBytes at hs; omega
  obtain ⟨a1, rfl, rfl, rfl, w1⟩ := open_string Tryz.underlying9 (hval 1 9 v1 rfl rfl) h1
  have str2 : ∀ bytes : List UInt8, d2 = .lit (.string bytes) → bytes.length ≤ 140737488355328 := fun bytes hb => by have hs := sized_string hsz (j := 2) (t := 9) (bytes := bytes) rfl (by rw [hb]; rfl); unfold reachBytes at hs; omega
  obtain ⟨a2, rfl, rfl, rfl, w2⟩ := open_string Tryz.underlying9 (hval 2 9 v2 rfl rfl) h2
  clear hA0 hval0
  refine (walk_RecipeOut W a0 (by have := str0 _ rfl; simpa using this) a1 (by have := str1 _ rfl; simpa using this) a2 (by have := str2 _ rfl; simpa using this) hl hLR hmx).mono fun e W' ⟨he, bel⟩ => ?_
  subst he
  exact ⟨_, rfl, _, _, _, [], _, [], hW', trodAll_mk1 (shut_bool Tryz.underlying4 _), (trodAll_cons_mk (shut_string Tryz.underlying9 w0) (trodAll_cons_mk (shut_string Tryz.underlying9 w1) (trodAll_cons_mk (shut_string Tryz.underlying9 w2) trodAll_mk0))), rfl, bel.frame _, fun h => by cases h⟩

theorem over : Rows.recipeOutRow.holds Tryz.pinned (OpenSpec.ofChange Rows.recipeOutSpec) :=
  OpenClaim.holds_of_wide 7 Tryz.f7 rfl rfl rfl rfl rfl rfl rfl ⟨rfl, rfl, rfl, rfl, rfl⟩ rfl rfl rfl rfl rfl (by kernel_rfl) Tryz.func7 (by kernel_rfl)
    (of_decide_eq_true (by kernel_rfl)) (by unfold Func.isWrapper; first | (rw [if_pos (by decide +kernel)]; kernel_rfl) | (rw [if_neg (by decide +kernel)]; exact ⟨rfl, rfl⟩))
    (fun os started H enc _ => lifted os started H enc)

/-- The statement. -/
theorem proved : Rows.RecipeOutCardSaid :=
  Claim7.holds_tied_plain_at .later [] [.data, .data, .pinned] true Rows.recipeOutCard.stood.harness false
    over (fun _ h => by cases h) (by kernel_rfl) (fun _ h => by cases h) recipeOut_row_tie rfl ⟨rfl, rfl⟩ (by kernel_rfl) rfl
    (fun f fn hf hfn => by
      obtain rfl : f = 7 := Option.some.inj ((show Tryz.prog.funcNamed "staddle/staddlelaw12.RecipeOut" = some 7 by kernel_rfl).symm.trans hf) |>.symm
      obtain rfl : fn = Tryz.f7 := (Option.some.inj (Tryz.func7.symm.trans hfn)).symm
      exact ⟨by kernel_rfl, fun j t ht => by
        rw [Tryz.params7] at ht
        have hm : t ∈ [9, 9, 9] := by simpa using Array.mem_of_getElem? ht
        have hall : ([9, 9, 9].all fun u => !Tryz.prog.wantsStandIn u) = true := by kernel_rfl
        exact (show Tryz.prog.wantsStandIn t = false by simpa using List.all_eq_true.1 hall t hm)⟩)
    (by kernel_rfl)
end Go.Proofs.YtlccdenafnekjaaGreatDoor.recipeOut
