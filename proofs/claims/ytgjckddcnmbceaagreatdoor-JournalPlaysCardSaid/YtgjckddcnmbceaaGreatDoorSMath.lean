/-
  Sectors laid one behind the other, and writes that are on their way: what is there behind them. No program text.
-/
import Derived.Test.YtgjckddcnmbceaaGreatDoorBut
import Derived.Laws.CopyOwn
namespace Go.Proofs.YtgjckddcnmbceaaGreatDoor
open Go.RowKit
set_option linter.unusedVariables false

def bv (b : UInt8) : Value := .int .u8 (b.toNat : Int)
abbrev Wr := Nat × List UInt8

/-- The bytes of sector i. -/
def sec (D : List UInt8) (i : Nat) : List UInt8 := (D.drop (256 * i)).take 256

theorem sec_length {D : List UInt8} {n i : Nat} (h : D.length = 256 * n) (hi : i < n) : (sec D i).length = 256 := by
  simp [sec, h]; omega
theorem sec_get {D : List UInt8} {i j : Nat} (hj : j < 256) : (sec D i)[j]? = D[256 * i + j]? := by
  unfold sec; rw [List.getElem?_take_of_lt hj, List.getElem?_drop]
theorem sec_ext {a b : List UInt8} (ha : a.length = 256) (hb : b.length = 256) (h : ∀ j, j < 256 → a[j]? = b[j]?) : a = b := by
  refine List.ext_getElem? fun j => ?_
  by_cases hj : j < 256
  · exact h j hj
  · rw [List.getElem?_eq_none (by omega), List.getElem?_eq_none (by omega)]
theorem splice_get {D p : List UInt8} {off k : Nat} (h : off + p.length ≤ D.length) : (splice D off p)[k]? = if off ≤ k ∧ k < off + p.length then p[k - off]? else D[k]? := by
  unfold splice
  by_cases h1 : k < off
  · rw [if_neg (by omega), List.getElem?_append_left (by simp; omega), List.getElem?_take_of_lt h1]
  · by_cases h2 : k < off + p.length
    · rw [if_pos ⟨by omega, h2⟩, List.getElem?_append_right (by simp; omega), List.getElem?_append_left (by simp; omega)]
      congr 1; simp; omega
    · rw [if_neg (by omega), List.getElem?_append_right (by simp; omega), List.getElem?_append_right (by simp; omega), List.getElem?_drop]
      congr 1; simp; omega
theorem fits {D : List UInt8} {n i c : Nat} (h : D.length = 256 * n) (hi : i < n) (hc : c ≤ 256) : 256 * i + c ≤ D.length := by
  have : 256 * i + 256 ≤ 256 * n := by omega
  omega
theorem sec_splice_same {D p : List UInt8} {n i : Nat} (h : D.length = 256 * n) (hi : i < n) (hp : p.length = 256) : sec (splice D (256 * i) p) i = p := by
  have hf := fits h hi (Nat.le_of_eq hp)
  refine sec_ext (sec_length (by rw [length_splice _ _ _ hf, h]) hi) hp fun j hj => ?_
  rw [sec_get hj, splice_get hf, if_pos (by omega)]
  congr 1; omega
theorem sec_splice_part {D p : List UInt8} {n i c : Nat} (h : D.length = 256 * n) (hi : i < n) (hp : p.length = 256) (hc : c ≤ 256) : sec (splice D (256 * i) (p.take c)) i = p.take c ++ (sec D i).drop c := by
  have hpc : (p.take c).length = c := by simp; omega
  have hf := fits h hi (c := (p.take c).length) (by omega)
  have hs := sec_length h hi
  refine sec_ext (sec_length (by rw [length_splice _ _ _ hf, h]) hi) (by simp [hs]; omega) fun j hj => ?_
  rw [sec_get hj, splice_get hf, hpc]
  by_cases hjc : j < c
  · rw [if_pos (by omega), List.getElem?_append_left (by omega)]
    congr 1; omega
  · rw [if_neg (by omega), List.getElem?_append_right (by omega), hpc, List.getElem?_drop, sec_get (by omega)]
    congr 1; omega
theorem sec_splice_other {D p : List UInt8} {n i j : Nat} (h : D.length = 256 * n) (hi : i < n) (hj : j < n) (hp : p.length ≤ 256) (hne : j ≠ i) : sec (splice D (256 * i) p) j = sec D j := by
  have hf := fits h hi hp
  refine sec_ext (sec_length (by rw [length_splice _ _ _ hf, h]) hj) (sec_length h hj) fun k hk => ?_
  rw [sec_get hk, sec_get hk, splice_get hf, if_neg]
  rcases Nat.lt_or_gt_of_ne hne with h1 | h1
  · have : 256 * j + 256 ≤ 256 * i := by omega
    omega
  · have : 256 * i + 256 ≤ 256 * j := by omega
    omega

/-- A write's first bytes land. -/
def landL (D : List UInt8) (x : Wr) (c : Nat) : List UInt8 := splice D (256 * x.1) (x.2.take c)
/-- What is read of sector i behind these writes. -/
def getW (way : List Wr) (i : Nat) (d : List UInt8) : List UInt8 := way.foldl (fun a x => if x.1 = i then x.2 else a) d
def Good (n : Nat) (way : List Wr) : Prop := ∀ k, k < way.length → (way.getD k (0, [])).1 < n ∧ (way.getD k (0, [])).2.length = 256

theorem getW_snoc (way : List Wr) (x : Wr) (i : Nat) (d : List UInt8) : getW (way ++ [x]) i d = if x.1 = i then x.2 else getW way i d := by
  simp [getW, List.foldl_append]
theorem take_snocW {way : List Wr} {k : Nat} (h : k < way.length) : way.take (k + 1) = way.take k ++ [way.getD k (0, [])] := by
  rw [List.take_succ_eq_append_getElem h, List.getD_eq_getElem?_getD, List.getElem?_eq_getElem h]; rfl
theorem Good.snoc {n : Nat} {way : List Wr} {x : Wr} (h : Good n way) (h1 : x.1 < n) (h2 : x.2.length = 256) : Good n (way ++ [x]) := by
  intro k hk
  rw [List.length_append] at hk
  simp at hk
  by_cases hlt : k < way.length
  · have := h k hlt
    rwa [show (way ++ [x]).getD k (0, []) = way.getD k (0, []) by simp [List.getD, List.getElem?_append_left hlt]]
  · obtain rfl : k = way.length := by omega
    rw [show (way ++ [x]).getD way.length (0, []) = x by simp [List.getD]]
    exact ⟨h1, h2⟩
theorem Good.nil (n : Nat) : Good n [] := fun k hk => by simp at hk

/-- The durable bytes behind the first k writes of a Sync. -/
def syncK (way : List Wr) (D : List UInt8) : Nat → List UInt8
  | 0 => D
  | k + 1 => landL (syncK way D k) (way.getD k (0, [])) 256
/-- .. and of a Restart. -/
def resK (keep : List Bool) (torn : Int) (cut : Nat) (way : List Wr) (D : List UInt8) : Nat → List UInt8
  | 0 => D
  | k + 1 => if (k : Int) = torn then landL (resK keep torn cut way D k) (way.getD k (0, [])) cut else if keep.getD k false = true then landL (resK keep torn cut way D k) (way.getD k (0, [])) 256 else resK keep torn cut way D k
/-- What is read, laid anew at each sector that was written. -/
def latK (way : List Wr) (D L : List UInt8) : Nat → List UInt8
  | 0 => L
  | k + 1 => splice (latK way D L k) (256 * (way.getD k (0, [])).1) (sec D (way.getD k (0, [])).1)

theorem landL_length {D : List UInt8} {n c : Nat} {x : Wr} (h : D.length = 256 * n) (h1 : x.1 < n) (h2 : x.2.length = 256) : (landL D x c).length = 256 * n := by
  unfold landL
  rw [length_splice _ _ _ (fits h h1 (by rw [List.length_take]; omega)), h]
theorem syncK_length {way : List Wr} {D : List UInt8} {n : Nat} (h : D.length = 256 * n) (hg : Good n way) : ∀ k, k ≤ way.length → (syncK way D k).length = 256 * n
  | 0, _ => h
  | k + 1, hk => landL_length (syncK_length h hg k (by omega)) (hg k (by omega)).1 (hg k (by omega)).2
theorem resK_length {keep : List Bool} {torn : Int} {cut : Nat} {way : List Wr} {D : List UInt8} {n : Nat} (h : D.length = 256 * n) (hg : Good n way) : ∀ k, k ≤ way.length → (resK keep torn cut way D k).length = 256 * n
  | 0, _ => h
  | k + 1, hk => by
    have ih := resK_length (keep := keep) (torn := torn) (cut := cut) h hg k (by omega)
    unfold resK
    split
    · exact landL_length ih (hg k (by omega)).1 (hg k (by omega)).2
    · split
      · exact landL_length ih (hg k (by omega)).1 (hg k (by omega)).2
      · exact ih
theorem latK_length {way : List Wr} {D L : List UInt8} {n : Nat} (h : L.length = 256 * n) (hD : D.length = 256 * n) (hg : Good n way) : ∀ k, k ≤ way.length → (latK way D L k).length = 256 * n
  | 0, _ => h
  | k + 1, hk => by
    have ih := latK_length h hD hg k (by omega)
    have h1 := (hg k (by omega)).1
    unfold latK
    rw [length_splice _ _ _ (fits ih h1 (Nat.le_of_eq (sec_length hD h1))), ih]

theorem sync_get {way : List Wr} {D : List UInt8} {n : Nat} (h : D.length = 256 * n) (hg : Good n way) {i : Nat} (hi : i < n) : ∀ k, k ≤ way.length → sec (syncK way D k) i = getW (way.take k) i (sec D i)
  | 0, _ => by simp [syncK, getW]
  | k + 1, hk => by
    have ih := sync_get h hg hi k (by omega)
    have hl := syncK_length h hg k (by omega)
    obtain ⟨h1, h2⟩ := hg k (by omega)
    rw [take_snocW (by omega), getW_snoc]
    unfold syncK landL
    rw [List.take_of_length_le (Nat.le_of_eq h2)]
    by_cases e : (way.getD k (0, [])).1 = i
    · rw [if_pos e, ← e, sec_splice_same hl h1 h2]
    · rw [if_neg e, sec_splice_other hl h1 hi (Nat.le_of_eq h2) (Ne.symm e), ih]
/-- A sector that no write is of is as it was. -/
theorem res_away {keep : List Bool} {torn : Int} {cut : Nat} {way : List Wr} {D : List UInt8} {n : Nat} (h : D.length = 256 * n) (hg : Good n way) {i : Nat} (hi : i < n) : ∀ k, k ≤ way.length →
    (∀ j, j < k → (way.getD j (0, [])).1 ≠ i) → sec (resK keep torn cut way D k) i = sec D i
  | 0, _, _ => rfl
  | k + 1, hk, hne => by
    have ih := res_away (keep := keep) (torn := torn) (cut := cut) h hg hi k (by omega) (fun j hj => hne j (by omega))
    have hl := resK_length (keep := keep) (torn := torn) (cut := cut) h hg k (by omega)
    obtain ⟨h1, h2⟩ := hg k (by omega)
    have he := hne k (by omega)
    unfold resK landL
    split
    · rw [sec_splice_other hl h1 hi (by rw [List.length_take]; omega) (Ne.symm he), ih]
    · split
      · rw [sec_splice_other hl h1 hi (by rw [List.length_take]; omega) (Ne.symm he), ih]
      · exact ih
theorem lat_get {way : List Wr} {D L : List UInt8} {n : Nat} (h : L.length = 256 * n) (hD : D.length = 256 * n) (hg : Good n way) {i : Nat} (hi : i < n) : ∀ k, k ≤ way.length →
    (sec (latK way D L k) i = sec D i ∨ (sec (latK way D L k) i = sec L i ∧ ∀ j, j < k → (way.getD j (0, [])).1 ≠ i))
  | 0, _ => .inr ⟨rfl, fun j hj => by omega⟩
  | k + 1, hk => by
    have ih := lat_get h hD hg hi k (by omega)
    have hl := latK_length h hD hg k (by omega)
    obtain ⟨h1, h2⟩ := hg k (by omega)
    unfold latK
    by_cases e : (way.getD k (0, [])).1 = i
    · left; rw [e, sec_splice_same hl hi (sec_length hD hi)]
    · rw [sec_splice_other hl h1 hi (Nat.le_of_eq (sec_length hD h1)) (Ne.symm e)]
      rcases ih with ih | ⟨ih, hne⟩
      · exact .inl ih
      · refine .inr ⟨ih, fun j hj => ?_⟩
        by_cases hjk : j = k
        · subst hjk; exact e
        · exact hne j (by omega)
theorem getW_away {way : List Wr} {i : Nat} (d : List UInt8) : ∀ k, k ≤ way.length → (∀ j, j < k → (way.getD j (0, [])).1 ≠ i) → getW (way.take k) i d = d
  | 0, _, _ => rfl
  | k + 1, hk, hne => by
    rw [take_snocW (by omega), getW_snoc, if_neg (hne k (by omega)), getW_away d k (by omega) (fun j hj => hne j (by omega))]
theorem getW_hit {way : List Wr} {i k : Nat} (d : List UInt8) (hk : k < way.length) (h : (way.getD k (0, [])).1 = i) : ∀ m, k + 1 ≤ m → m ≤ way.length → (∀ j, k < j → j < m → (way.getD j (0, [])).1 ≠ i) → getW (way.take m) i d = (way.getD k (0, [])).2
  | 0, h1, _, _ => by omega
  | m + 1, h1, h2, hne => by
    rw [take_snocW (by omega), getW_snoc]
    by_cases e : m = k
    · subst e; rw [if_pos h]
    · rw [if_neg (hne m (by omega) (by omega)), getW_hit d hk h m (by omega) (by omega) (fun j a b => hne j a (by omega))]
/-- Behind a Restart what is read is what is durable. -/
theorem lat_res {keep : List Bool} {torn : Int} {cut : Nat} {way : List Wr} {D L : List UInt8} {n : Nat} (hD : D.length = 256 * n) (hL : L.length = 256 * n) (hg : Good n way)
    (hlat : ∀ i, i < n → sec L i = getW way i (sec D i)) (i : Nat) (hi : i < n) :
    sec (latK way (resK keep torn cut way D way.length) L way.length) i = sec (resK keep torn cut way D way.length) i := by
  rcases lat_get hL (resK_length (keep := keep) (torn := torn) (cut := cut) hD hg _ (Nat.le_refl _)) hg hi way.length (Nat.le_refl _) with h | ⟨h, hne⟩
  · exact h
  · rw [h, res_away hD hg hi _ (Nat.le_refl _) hne, hlat i hi]
    have := getW_away (way := way) (i := i) (sec D i) way.length (Nat.le_refl _) hne
    rwa [List.take_of_length_le (Nat.le_refl _)] at this
theorem splice_map (D p : List UInt8) (off : Nat) : splice (D.map bv) off (p.map bv) = (splice D off p).map bv := by
  simp [splice, List.map_take, List.map_drop]

end Go.Proofs.YtgjckddcnmbceaaGreatDoor
