/-
  The statement Rows.RecipeWordsCardSaid: for every input the law RecipeWords returns true, and each argument reads as it read; the first state and the primes are those of the program's text. Conditions: none of its own.
-/
import Derived.Test.YtlccdenafnekjaaGreatDoorCards
import Derived.Test.YtlccdenafnekjaaGreatDoorTie
import Derived.Test.YtlccdenafnekjaaGreatDoorMf
namespace Go.Proofs.YtlccdenafnekjaaGreatDoor
open Go.RowKit
set_option linter.unusedVariables false

/-- A byte of a word in quotes. -/
def qsign (c : UInt8) : List UInt8 := if c = 34 ∨ c = 92 then [92, c] else if c = 10 then [92, 110] else if c = 9 then [92, 116] else [c]
/-- A word in quotes. -/
def quoteF (l : List UInt8) : List UInt8 := 34 :: (l.flatMap qsign ++ [34])
theorem qd_sign (c : UInt8) (r acc : List UInt8) : qd (qsign c ++ r) acc = qd r (acc ++ [c]) := by
  unfold qsign
  by_cases h1 : c = 34 ∨ c = 92
  · rw [if_pos h1]
    exact qd_esc c r acc (by rcases h1 with rfl | rfl <;> rfl)
  · rw [if_neg h1]
    by_cases h2 : c = 10
    · subst h2; exact qd_esc 110 r acc rfl
    · rw [if_neg h2]
      by_cases h3 : c = 9
      · subst h3; exact qd_esc 116 r acc rfl
      · rw [if_neg h3]
        exact qd_step c r acc (fun e => h1 (.inl e)) (fun e => h1 (.inr e))
theorem qd_signs : ∀ (l r acc : List UInt8), (r = [] ∨ r.head? = some 32) → qd (l.flatMap qsign ++ 34 :: r) acc = some (acc ++ l, r)
  | [], r, acc, h => by
    rw [List.flatMap_nil, List.nil_append, qd_close, List.append_nil]
    rcases h with rfl | h
    · rw [if_pos rfl]
    · rw [if_neg (fun e => by rw [e] at h; cases h), if_pos h]
  | c :: l, r, acc, h => by
    rw [List.flatMap_cons, List.append_assoc, qd_sign, qd_signs l r _ h, List.append_assoc]; rfl
theorem read_quote (l r : List UInt8) (h : r = [] ∨ r.head? = some 32) : readW (quoteF l ++ r) = some (l, r) := by
  unfold quoteF
  rw [List.cons_append, readW_cons, if_pos rfl, List.append_assoc]
  exact qd_signs l r [] h
theorem sign_len (c : UInt8) : (qsign c).length ≤ 2 := by
  unfold qsign
  split
  · simp
  · split
    · simp
    · split <;> simp
theorem sign_line (c : UInt8) : 10 ∉ qsign c := by
  unfold qsign
  split
  · rename_i h
    rcases h with rfl | rfl <;> decide
  · split
    · decide
    · split
      · decide
      · rename_i h1 h2 h3
        simp only [List.mem_singleton]
        exact fun e => h2 e.symm
theorem quote_len : ∀ l : List UInt8, (quoteF l).length ≤ 2 * l.length + 2 := fun l => by
  have h : ∀ l : List UInt8, (l.flatMap qsign).length ≤ 2 * l.length := fun l => by
    induction l with
    | nil => simp
    | cons c l ih => rw [List.flatMap_cons, List.length_append, List.length_cons]; have := sign_len c; omega
  have := h l
  unfold quoteF
  rw [List.length_cons, List.length_append, List.length_singleton]
  omega
theorem quote_line (l : List UInt8) : 10 ∉ quoteF l := by
  unfold quoteF
  simp only [List.mem_cons, List.mem_append, List.mem_flatMap, List.not_mem_nil, or_false, not_or]
  refine ⟨by decide, fun ⟨c, _, h⟩ => sign_line c h, by decide⟩
/-- A line of write with two words in quotes. -/
def lineW (p w : List UInt8) : List UInt8 := [119, 114, 105, 116, 101, 32] ++ (quoteF p ++ ([32, 32, 32] ++ (quoteF w ++ [32])))
theorem drop_quote (l r : List UInt8) : dropBl (quoteF l ++ r) = quoteF l ++ r := rfl
theorem words_line (p w : List UInt8) : wordsF (lineW p w) = some [[119, 114, 105, 116, 101], p, w] := by
  unfold wordsF
  have h1 : readW (119 :: ([114, 105, 116, 101, 32] ++ (quoteF p ++ ([32, 32, 32] ++ (quoteF w ++ [32]))))) = some ([119, 114, 105, 116, 101], 32 :: (quoteF p ++ ([32, 32, 32] ++ (quoteF w ++ [32])))) := by
    rw [readW_cons, if_neg (by decide)]
    rfl
  rw [(splN_word [] (s := lineW p w) (c := 119) (t := [114, 105, 116, 101, 32] ++ (quoteF p ++ ([32, 32, 32] ++ (quoteF w ++ [32])))) rfl h1).1]
  have h2 : readW (34 :: (p.flatMap qsign ++ [34] ++ ([32, 32, 32] ++ (quoteF w ++ [32])))) = some (p, [32, 32, 32] ++ (quoteF w ++ [32])) := read_quote p _ (.inr rfl)
  rw [(splN_word _ (s := 32 :: (quoteF p ++ ([32, 32, 32] ++ (quoteF w ++ [32])))) (c := 34) (t := p.flatMap qsign ++ [34] ++ ([32, 32, 32] ++ (quoteF w ++ [32]))) rfl h2).1]
  have h3 : readW (34 :: (w.flatMap qsign ++ [34] ++ [32])) = some (w, [32]) := read_quote w _ (.inr rfl)
  rw [(splN_word _ (s := [32, 32, 32] ++ (quoteF w ++ [32])) (c := 34) (t := w.flatMap qsign ++ [34] ++ [32]) rfl h3).1]
  rw [splN_end _ rfl]
  rfl
theorem lines_one (l : List UInt8) (h : 10 ∉ l) : linesF l = [l] := by
  have h1 : Lib.index l [10] = -1 := by
    rw [Lib.index_one]
    rcases indexByte_lt 10 l with h1 | h1
    · exact h1.1
    · exact absurd h1.2 h
  unfold linesF
  rw [Lib.count_miss h1]
  rfl
theorem par_line (p w : List UInt8) (h : p.length + w.length ≤ 1000) : parF (lineW p w) = ([(2, [p, w])], 0, 0) := by
  have hl : (lineW p w).length ≤ 6000 := by
    unfold lineW
    have h1 := quote_len p
    have h2 := quote_len w
    simp only [List.length_append, List.length_cons, List.length_nil]
    omega
  have hn : 10 ∉ lineW p w := by
    unfold lineW
    have h1 := quote_line p
    have h2 := quote_line w
    simp only [List.mem_append, not_or]
    exact ⟨by decide, h1, by decide, h2, by decide⟩
  unfold parF
  rw [if_neg (by omega), lines_one _ hn, parN_step (words_line p w), show meanF [[119, 114, 105, 116, 101], p, w] = (2, 0) from rfl]
  rfl
end Go.Proofs.YtlccdenafnekjaaGreatDoor
namespace Go.Proofs.YtlccdenafnekjaaGreatDoor
open Go.RowKit
set_option linter.unusedVariables false
set_option maxRecDepth 100000

theorem qu_step (l : List UInt8) (k : Nat) (h : k < l.length) : (l.take (k + 1)).flatMap qsign = (l.take k).flatMap qsign ++ qsign (l.getD k 0) := by
  rw [List.take_succ_eq_append_getElem h, List.flatMap_append, List.getD_eq_getElem?_getD, List.getElem?_eq_getElem h]
  simp
theorem ext_one (s : ByteArray) (k : Nat) (h : k < s.data.toList.length) : (s.extract k (k + 1)).data.toList = [s.data.toList.getD k 0] := by
  rw [ByteArray.data_extract, Array.toList_extract, List.extract_eq_take_drop]
  rw [List.getD_eq_getElem?_getD, List.getElem?_eq_getElem h]
  simp [List.take_one, List.head?_drop, List.getElem?_eq_getElem h]
theorem app_list (a b : ByteArray) : (a ++ b).data.toList = a.data.toList ++ b.data.toList := by rw [ByteArray.data_append, Array.toList_append]
set_option maxHeartbeats 8000000 in
theorem quote_any (s : ByteArray) (w : World) (hs : s.size ≤ 100000) : Calls Tryz.prog 24 #[.string s] w fun e w' => e = .returned (.string ⟨(quoteF s.data.toList).toArray⟩) ∧ w' = w := by
  have HS := Lib.hid hs
  have HLEN : Hid (s.data.toList.length = s.size) := Lib.hid (by simp)
  clear hs
  go_enter Tryz.func24, Tryz.ntmps24
  go_wp2_with fail
  go_loopw [3, 4] (fun v3 v4 wr => ∃ (k : Nat) (o : ByteArray), k ≤ s.size ∧ v4 = .int .i64 k ∧ v3 = .string o ∧ wr = w ∧ o.size ≤ 2 * k + 1 ∧ Hid (o.data.toList = 34 :: (s.data.toList.take k).flatMap qsign)) (fun _ v4 _ => s.size - (intOf v4).toNat)
  case atStart => exact ⟨0, ⟨#[34]⟩, Nat.zero_le _, rfl, rfl, rfl, Nat.le_refl _, Lib.hid rfl⟩
  case round =>
    obtain ⟨k, o, hk, rfl, rfl, rfl, ho, HO⟩ := hrel
    have hkb : (k : Int) ≤ 1000000 := by have := HS.out; omega
    have hob : o.size ≤ 1000000 := by have := HS.out; omega
    by_cases hlt : k < s.size
    · have hki : (k : Int) < (s.size : Int) := by omega
      have hki2 : (k : Int) + 1 ≤ (s.size : Int) := by omega
      have hkl : k < s.data.toList.length := by rw [HLEN.out]; exact hlt
      have hget := str_get s k hlt
      have hstep := qu_step s.data.toList k hkl
      have hx1 := ext_one s k hkl
      obtain ⟨c, hc⟩ : ∃ c, c = s.data.toList.getD k 0 := ⟨_, rfl⟩
      rw [← hc] at hget hstep hx1
      have HX := Lib.hid hx1
      have HSTEP := Lib.hid hstep
      have hsz : (s.extract k (k + 1)).size = 1 := by rw [ByteArray.size_extract]; omega
      have HSZ := Lib.hid hsz
      have hs2 : ((⟨#[92]⟩ : ByteArray) ++ s.extract k (k + 1)).size = 2 := by rw [ByteArray.size_append, hsz]; rfl
      have hcat1 : ¬ 9223372036854775807 < o.size + 1 := by omega
      have hcat2 : ¬ 9223372036854775807 < o.size + 2 := by omega
      have HLT := Lib.hid hlt
      clear hc hstep hx1 hkl
      by_cases h1 : c = 34 ∨ c = 92
      · have HQ : Hid (qsign c = [92, c]) := Lib.hid (by unfold qsign; rw [if_pos h1])
        have HN : Hid ((o ++ ((⟨#[92]⟩ : ByteArray) ++ s.extract k (k + 1))).data.toList = 34 :: (s.data.toList.take (k + 1)).flatMap qsign) := Lib.hid (by rw [app_list, app_list, HX.out, HO.out, HSTEP.out, HQ.out]; rfl)
        have HNS : Hid ((o ++ ((⟨#[92]⟩ : ByteArray) ++ s.extract k (k + 1))).size ≤ 2 * (k + 1) + 1) := Lib.hid (by rw [ByteArray.size_append, hs2]; omega)
        rcases h1 with rfl | rfl
        · go_wp2_with fail
          go_roundw
          case rel => exact ⟨k + 1, _, HLT.out, by go_num, rfl, trivial, HNS.out, HN⟩
          case measure => have := HLT.out; simp [intOf]; omega
        · go_wp2_with fail
          go_roundw
          case rel => exact ⟨k + 1, _, HLT.out, by go_num, rfl, trivial, HNS.out, HN⟩
          case measure => have := HLT.out; simp [intOf]; omega
      · by_cases h2 : c = 10
        · subst h2
          have HN : Hid ((o ++ (⟨#[92, 110]⟩ : ByteArray)).data.toList = 34 :: (s.data.toList.take (k + 1)).flatMap qsign) := Lib.hid (by rw [app_list, HO.out, HSTEP.out]; rfl)
          have HNS : Hid ((o ++ (⟨#[92, 110]⟩ : ByteArray)).size ≤ 2 * (k + 1) + 1) := Lib.hid (by rw [ByteArray.size_append]; show o.size + 2 ≤ _; omega)
          clear h1
          go_wp2_with fail
          go_roundw
          case rel => exact ⟨k + 1, _, HLT.out, by go_num, rfl, trivial, HNS.out, HN⟩
          case measure => have := HLT.out; simp [intOf]; omega
        · by_cases h3 : c = 9
          · subst h3
            have HN : Hid ((o ++ (⟨#[92, 116]⟩ : ByteArray)).data.toList = 34 :: (s.data.toList.take (k + 1)).flatMap qsign) := Lib.hid (by rw [app_list, HO.out, HSTEP.out]; rfl)
            have HNS : Hid ((o ++ (⟨#[92, 116]⟩ : ByteArray)).size ≤ 2 * (k + 1) + 1) := Lib.hid (by rw [ByteArray.size_append]; show o.size + 2 ≤ _; omega)
            clear h1 h2
            go_wp2_with fail
            go_roundw
            case rel => exact ⟨k + 1, _, HLT.out, by go_num, rfl, trivial, HNS.out, HN⟩
            case measure => have := HLT.out; simp [intOf]; omega
          · have HQ : Hid (qsign c = [c]) := Lib.hid (by unfold qsign; rw [if_neg h1, if_neg h2, if_neg h3])
            have HN : Hid ((o ++ s.extract k (k + 1)).data.toList = 34 :: (s.data.toList.take (k + 1)).flatMap qsign) := Lib.hid (by rw [app_list, HX.out, HO.out, HSTEP.out, HQ.out]; rfl)
            have HNS : Hid ((o ++ s.extract k (k + 1)).size ≤ 2 * (k + 1) + 1) := Lib.hid (by rw [ByteArray.size_append, hsz]; omega)
            have n1 : ¬ (c.toNat : Int) = 34 := fun e => h1 (.inl (UInt8.toNat_inj.1 (by show c.toNat = _; rw [show c.toNat = c.toNat from rfl]; simp; omega)))
            have n2 : ¬ (c.toNat : Int) = 92 := fun e => h1 (.inr (UInt8.toNat_inj.1 (by show c.toNat = _; rw [show c.toNat = c.toNat from rfl]; simp; omega)))
            have n3 : ¬ (c.toNat : Int) = 10 := fun e => h2 (UInt8.toNat_inj.1 (by show c.toNat = _; rw [show c.toNat = c.toNat from rfl]; simp; omega))
            have n4 : ¬ (c.toNat : Int) = 9 := fun e => h3 (UInt8.toNat_inj.1 (by show c.toNat = _; rw [show c.toNat = c.toNat from rfl]; simp; omega))
            have m1 : ((c.toNat : Int) == 34) = false := beq_eq_false_iff_ne.2 n1
            have m2 : ((c.toNat : Int) == 92) = false := beq_eq_false_iff_ne.2 n2
            have m3 : ((c.toNat : Int) == 10) = false := beq_eq_false_iff_ne.2 n3
            have m4 : ((c.toNat : Int) == 9) = false := beq_eq_false_iff_ne.2 n4
            clear h1 h2 h3
            go_wp2_with fail
            go_roundw
            case rel => exact ⟨k + 1, _, HLT.out, by go_num, rfl, trivial, HNS.out, HN⟩
            case measure => have := HLT.out; simp [intOf]; omega
    · obtain rfl : k = s.size := by omega
      have hki : ¬ (s.size : Int) < (s.size : Int) := by omega
      have hcat1 : ¬ 9223372036854775807 < o.size + 1 := by omega
      have HE : Hid ((o ++ (⟨#[34]⟩ : ByteArray)) = ⟨(quoteF s.data.toList).toArray⟩) := Lib.hid (by
        refine bytes_ext ?_
        rw [app_list, HO.out, List.take_of_length_le (by rw [HLEN.out]; exact Nat.le_refl _)]
        unfold quoteF
        simp)
      go_wp2_with fail
      refine bodyPost_ret (results_tmp rfl _ _ _) rfl ?_
      exact ⟨by rw [← HE.out]; rfl, rfl⟩
end Go.Proofs.YtlccdenafnekjaaGreatDoor
namespace Go.Proofs.YtlccdenafnekjaaGreatDoor
open Go.RowKit
set_option linter.unusedVariables false
set_option maxRecDepth 100000

theorem line_eq (p w : ByteArray) : ((((⟨#[119, 114, 105, 116, 101, 32]⟩ : ByteArray) ++ ⟨(quoteF p.data.toList).toArray⟩) ++ (⟨#[32, 32, 32]⟩ : ByteArray)) ++ (⟨(quoteF w.data.toList).toArray⟩ : ByteArray)) ++ (⟨#[32]⟩ : ByteArray) = ⟨(lineW p.data.toList w.data.toList).toArray⟩ := by
  refine bytes_ext ?_
  rw [app_list, app_list, app_list, app_list]
  unfold lineW
  simp [List.append_assoc]
theorem one_step {w : World} {a : Option Addr} {c k : Nat} {x y : List UInt8} (h : SpS w a 1 c [(k, [x, y])]) : ∃ b1 o1 b2 o2 kc, a = some ⟨b1, o1, none⟩ ∧ w.cell? ⟨b1, o1, none⟩ = some (.int .u8 (k : Int)) ∧ w.cell? ⟨b1, o1 + 1, none⟩ = some (.slice (some ⟨b2, o2, none⟩) 2 kc) ∧ w.cell? ⟨b2, o2, none⟩ = some (.string ⟨x.toArray⟩) ∧ w.cell? ⟨b2, o2 + 1, none⟩ = some (.string ⟨y.toArray⟩) := by
  rcases h.at_ with h0 | ⟨b1, o1, rfl, hlt, hi⟩
  · cases h0
  · obtain ⟨cs, ⟨ka, kn, kc, rfl, _, hl, hw⟩, hr⟩ := hi 0 (by decide)
    have hl2 : 2 = kn := hl
    subst hl2
    rcases hw with h0 | ⟨b2, o2, rfl, hwd⟩
    · cases h0
    · have e0 := hr 0 _ rfl
      have e1 := hr 1 _ rfl
      have e2 := hwd.2.2.2.2 0 (by decide)
      have e3 := hwd.2.2.2.2 1 (by decide)
      exact ⟨b1, o1, b2, o2, kc, rfl, by simpa using e0, by simpa using e1, by simpa [strV] using e2, by simpa [strV] using e3⟩
set_option maxHeartbeats 20000000 in
theorem walk_RecipeWords (W : World) (p : ByteArray) (hp : p.size ≤ 140737488355328) (q : ByteArray) (hq : q.size ≤ 140737488355328) (hm : MaxW W) (hL : LaidR W) (hmx : 1 < W.heap.size) :
    Calls Tryz.prog 9 #[.string p, .string q] W fun e W' => e = .returned (.bool true) ∧ Below W.heap.size W W' := by
  have HAW : Hid (∀ v : World, Below W.heap.size W v → Calls Tryz.prog 11 #[] v fun e w' => e = .returned (.bool true) ∧ Below v.heap.size v w') := Lib.hid (fun v hb => awake_any v (hm.below hb hmx) (hL.later hb) (Nat.lt_of_lt_of_le hmx hb.size))
  have HM := Lib.hid hm
  have HL := Lib.hid hL
  have HMX := Lib.hid hmx
  clear hm hL hmx
  have hsum : (p.size : Int) + (q.size : Int) ≤ 9223372036854775807 := by omega
  have hsum0 : (0 : Int) ≤ (p.size : Int) + (q.size : Int) := by omega
  by_cases hbig : 1000 < p.size + q.size
  · have hgt : (1000 : Int) < (p.size : Int) + (q.size : Int) := by omega
    go_enter Tryz.func9, Tryz.ntmps9
    go_wp2_with fail
    refine (HAW.out W (Below.refl _ _)).mono ?_
    rintro e w1 ⟨rfl, hb1⟩
    have B1 := Lib.hid hb1
    clear hb1
    go_wp2_with fail
    refine (HAW.out w1 B1.out).mono ?_
    rintro e w2 ⟨rfl, hb2⟩
    have B2 := Lib.hid (B1.out.trans (hb2.mono B1.out.size))
    clear hb2
    go_wp2_with fail
    refine bodyPost_ret (results_tmp rfl _ _ _) rfl ?_
    exact ⟨rfl, B2.out⟩
  · have hgt : ¬ (1000 : Int) < (p.size : Int) + (q.size : Int) := by omega
    have HSM : Hid (p.data.toList.length + q.data.toList.length ≤ 1000) := Lib.hid (by simp; omega)
    have HQP : Hid (∀ v : World, Calls Tryz.prog 24 #[.string p] v fun e w' => e = .returned (.string ⟨(quoteF p.data.toList).toArray⟩) ∧ w' = v) := Lib.hid (fun v => quote_any p v (by omega))
    have HQQ : Hid (∀ v : World, Calls Tryz.prog 24 #[.string q] v fun e w' => e = .returned (.string ⟨(quoteF q.data.toList).toArray⟩) ∧ w' = v) := Lib.hid (fun v => quote_any q v (by omega))
    have hl1 := quote_len p.data.toList
    have hl2 := quote_len q.data.toList
    obtain ⟨a, ha⟩ : ∃ a : ByteArray, a = ⟨(quoteF p.data.toList).toArray⟩ := ⟨_, rfl⟩
    obtain ⟨b, hb⟩ : ∃ b : ByteArray, b = ⟨(quoteF q.data.toList).toArray⟩ := ⟨_, rfl⟩
    have hsa : a.size ≤ 3000 := by
      have e : a.size = (quoteF p.data.toList).length := by rw [ha]; simp [ByteArray.size]
      rw [e]
      have := HSM.out
      omega
    have hsb : b.size ≤ 3000 := by
      have e : b.size = (quoteF q.data.toList).length := by rw [hb]; simp [ByteArray.size]
      rw [e]
      have := HSM.out
      omega
    have HLE : Hid (((((⟨#[119, 114, 105, 116, 101, 32]⟩ : ByteArray) ++ a) ++ (⟨#[32, 32, 32]⟩ : ByteArray)) ++ b) ++ (⟨#[32]⟩ : ByteArray) = ⟨(lineW p.data.toList q.data.toList).toArray⟩) := Lib.hid (by rw [ha, hb]; exact line_eq p q)
    rw [← ha] at HQP
    rw [← hb] at HQQ
    have hs1 : ((⟨#[119, 114, 105, 116, 101, 32]⟩ : ByteArray) ++ a).size ≤ 3006 := by rw [ByteArray.size_append]; show 6 + a.size ≤ _; omega
    have hs2 : (((⟨#[119, 114, 105, 116, 101, 32]⟩ : ByteArray) ++ a) ++ (⟨#[32, 32, 32]⟩ : ByteArray)).size ≤ 3009 := by rw [ByteArray.size_append]; show _ + 3 ≤ _; omega
    have hs3 : ((((⟨#[119, 114, 105, 116, 101, 32]⟩ : ByteArray) ++ a) ++ (⟨#[32, 32, 32]⟩ : ByteArray)) ++ b).size ≤ 6009 := by rw [ByteArray.size_append]; omega
    have hc1 : ¬ 9223372036854775807 < (⟨#[119, 114, 105, 116, 101, 32]⟩ : ByteArray).size + a.size := by show ¬ _ < 6 + a.size; omega
    have hc2 : ¬ 9223372036854775807 < ((⟨#[119, 114, 105, 116, 101, 32]⟩ : ByteArray) ++ a).size + (⟨#[32, 32, 32]⟩ : ByteArray).size := by show ¬ _ < _ + 3; omega
    have hc3 : ¬ 9223372036854775807 < (((⟨#[119, 114, 105, 116, 101, 32]⟩ : ByteArray) ++ a) ++ (⟨#[32, 32, 32]⟩ : ByteArray)).size + b.size := by omega
    have hc4 : ¬ 9223372036854775807 < ((((⟨#[119, 114, 105, 116, 101, 32]⟩ : ByteArray) ++ a) ++ (⟨#[32, 32, 32]⟩ : ByteArray)) ++ b).size + (⟨#[32]⟩ : ByteArray).size := by show ¬ _ < _ + 1; omega
    have HPL : Hid (parF (lineW p.data.toList q.data.toList) = ([(2, [p.data.toList, q.data.toList])], 0, 0)) := Lib.hid (par_line _ _ HSM.out)
    clear ha hb hl1 hl2 hbig
    go_enter Tryz.func9, Tryz.ntmps9
    go_wp2_with fail
    refine (HAW.out W (Below.refl _ _)).mono ?_
    rintro e w1 ⟨rfl, hb1⟩
    have B1 := Lib.hid hb1
    clear hb1
    go_wp2_with fail
    refine (HQP.out w1).mono ?_
    rintro e w2 ⟨rfl, rfl⟩
    go_wp2_with fail
    refine (HQQ.out _).mono ?_
    rintro e w2 ⟨rfl, rfl⟩
    go_wp2_with fail
    rw [HLE.out]
    refine (parse_any _ _ (HM.out.below B1.out HMX.out) (HL.out.later B1.out)).mono ?_
    rintro e w3 ⟨u, at_, er, rfl, hpp, hb3⟩
    rw [show (⟨(lineW p.data.toList q.data.toList).toArray⟩ : ByteArray).data.toList = lineW p.data.toList q.data.toList by simp, HPL.out] at hpp
    obtain ⟨h1, h2, h3⟩ := hpp
    have h1' : at_ = 0 := h1
    have h2' : er = 0 := h2
    subst h1' h2'
    rw [if_pos rfl] at h3
    have B3 := Lib.hid (B1.out.trans (hb3.mono B1.out.size))
    obtain ⟨ua, uc, rfl, hS⟩ := sp_of h3 (by intro s hs; rw [List.mem_singleton.1 hs]; show 2 < 256; decide)
    obtain ⟨b1, o1, b2, o2, kc, rfl, c0, c1, c2, c3⟩ := one_step hS
    clear h1 h2 h3 hS hb3
    go_wp2_with fail
    refine bodyPost_ret (results_tmp rfl _ _ _) rfl ?_
    exact ⟨rfl, B3.out⟩
end Go.Proofs.YtlccdenafnekjaaGreatDoor

namespace Go.Proofs.YtlccdenafnekjaaGreatDoor.recipeWords
open Go.ChangeShapes Go.WideShapes Go.ChangeAt Go.RowKit
open Go.ChangeMaps (open_string shut_string)
set_option linter.unusedVariables false

theorem own : ownKnob Tryz.prog.godebug = none := by kernel_rfl
theorem laidOut : laidOutB Tryz.prog = true := by kernel_rfl

set_option maxRecDepth 100000 in
theorem lifted (os : Os) (started : os.Started) (H : Type) (enc : TypeId × Value → H) :
    ReturnsInHanded {} Tryz.checked os 9 .any (fun w args => (Rows.recipeWordsSpec.pre enc Tryz.prog Tryz.f9 Rows.recipeWordsRow.domain false w args ∧ laidMetH Tryz.prog Rows.recipeWordsRow.laid w) ∧ sizedMet enc Tryz.prog Tryz.f9 (OpenSpec.ofChange Rows.recipeWordsSpec) false w args)
      (Rows.recipeWordsSpec.post enc Tryz.prog Tryz.f9 false true false false) := by
  refine handed_shaped_and (C := Tryz.checked) (X := fun w _ => laidMetH Tryz.prog Rows.recipeWordsRow.laid w) (fun _ _ _ hh h => h.of_heap hh) own started (by kernel_rfl) Tryz.func9
    (ChangeSpec.witness_shaped (enc := enc) (C := Tryz.checked) (os := os) (X := fun w _ => laidMetH Tryz.prog Rows.recipeWordsRow.laid w) false (World.laidAll Tryz.prog os Rows.recipeWordsRow.laid) #[.string ByteArray.empty, .string ByteArray.empty] 8 (World.laidAll_os _ _ _)
      (World.shaped_of_ZipB (by kernel_rfl) (by kernel_rfl)) (by kernel_rfl) (by kernel_rfl) (by kernel_rfl)
      (by rw [MakeChecks.laidMetH_plain _ _ _ (by kernel_rfl)]; exact laidMet_laidAll _ (by kernel_rfl) (by kernel_rfl))) ?_
  intro W base args ds gs before hval0 hW _ hsz0 hL hsh _
  have hLR : LaidR W := laid_metR hL
  have hl : MaxW W := Tryz.laysM146.s1_3 W hsh
  have hmx : 1 < W.heap.size := by
    obtain ⟨m, hm⟩ := hl
    exact World.block_lt_of_cell? W _ hm
  have hsz : (DataW.weightsEach Tryz.prog (Tryz.f9.params.toList ++ Rows.recipeWordsSpec.plain.varTypes Tryz.prog) (ds ++ gs)).all (· ≤ reachBytes) = true := hsz0
  have hval : ∀ (j : Nat) t v, Tryz.f9.params[j]? = some t → args[j]? = some v → Value.okWide Tryz.prog W .any base t v := hval0
  have hW' := hW
  obtain ⟨p, q, hA0, hV, rfl, hfz, hnd⟩ := hW
  have hA : DataW.TrodAll enc Tryz.prog W 0 (fun _ => true) true Tryz.f9.params.toList args.toList ds p := hA0
  rw [Tryz.params9] at hA hval hsz
  obtain ⟨v0, vs0, d0, ds0, p0, q0, hargs, rfl, rfl, h0, r0⟩ := trodAll_cons hA
  obtain ⟨v1, vs1, d1, ds1, p1, q1, rfl, rfl, rfl, h1, r1⟩ := trodAll_cons r0
  obtain ⟨rfl, rfl, rfl⟩ := trodAll_nil r1
  obtain rfl : args = #[v0, v1] := by cases args; simp_all
  obtain ⟨rfl, rfl⟩ := trodVars_none hV
  have str0 : ∀ bytes : List UInt8, d0 = .lit (.string bytes) → bytes.length ≤ 140737488355328 := fun bytes hb => by have hs := sized_string hsz (j := 0) (t := 9) (bytes := bytes) rfl (by rw [hb]; rfl); unfold reachBytes at hs; omega
  obtain ⟨a0, rfl, rfl, rfl, w0⟩ := open_string Tryz.underlying9 (hval 0 9 v0 rfl rfl) h0
  have str1 : ∀ bytes : List UInt8, d1 = .lit (.string bytes) → bytes.length ≤ 140737488355328 := fun bytes hb => by have hs := sized_string hsz (j := 1) (t := 9) (bytes := bytes) rfl (by rw [hb]; rfl); unfold reachBytes at hs; omega
  obtain ⟨a1, rfl, rfl, rfl, w1⟩ := open_string Tryz.underlying9 (hval 1 9 v1 rfl rfl) h1
  clear hA0 hval0
  refine (walk_RecipeWords W a0 (by have := str0 _ rfl; simpa using this) a1 (by have := str1 _ rfl; simpa using this) hl hLR hmx).mono fun e W' ⟨he, bel⟩ => ?_
  subst he
  exact ⟨_, rfl, _, _, _, [], _, [], hW', trodAll_mk1 (shut_bool Tryz.underlying4 _), (trodAll_cons_mk (shut_string Tryz.underlying9 w0) (trodAll_cons_mk (shut_string Tryz.underlying9 w1) trodAll_mk0)), rfl, bel.frame _, fun h => by cases h⟩

theorem over : Rows.recipeWordsRow.holds Tryz.pinned (OpenSpec.ofChange Rows.recipeWordsSpec) :=
  OpenClaim.holds_of_wide 9 Tryz.f9 rfl rfl rfl rfl rfl rfl rfl ⟨rfl, rfl, rfl, rfl, rfl⟩ rfl rfl rfl rfl rfl (by kernel_rfl) Tryz.func9 (by kernel_rfl)
    (of_decide_eq_true (by kernel_rfl)) (by unfold Func.isWrapper; first | (rw [if_pos (by decide +kernel)]; kernel_rfl) | (rw [if_neg (by decide +kernel)]; exact ⟨rfl, rfl⟩))
    (fun os started H enc _ => lifted os started H enc)

/-- The statement. -/
theorem proved : Rows.RecipeWordsCardSaid :=
  Claim7.holds_tied_plain_at .later [] [.data, .data, .pinned] true Rows.recipeWordsCard.stood.harness false
    over (fun _ h => by cases h) (by kernel_rfl) (fun _ h => by cases h) recipeWords_row_tie rfl ⟨rfl, rfl⟩ (by kernel_rfl) rfl
    (fun f fn hf hfn => by
      obtain rfl : f = 9 := Option.some.inj ((show Tryz.prog.funcNamed "staddle/staddlelaw12.RecipeWords" = some 9 by kernel_rfl).symm.trans hf) |>.symm
      obtain rfl : fn = Tryz.f9 := (Option.some.inj (Tryz.func9.symm.trans hfn)).symm
      exact ⟨by kernel_rfl, fun j t ht => by
        rw [Tryz.params9] at ht
        have hm : t ∈ [9, 9] := by simpa using Array.mem_of_getElem? ht
        have hall : ([9, 9].all fun u => !Tryz.prog.wantsStandIn u) = true := by kernel_rfl
        exact (show Tryz.prog.wantsStandIn t = false by simpa using List.all_eq_true.1 hall t hm)⟩)
    (by kernel_rfl)
end Go.Proofs.YtlccdenafnekjaaGreatDoor.recipeWords
