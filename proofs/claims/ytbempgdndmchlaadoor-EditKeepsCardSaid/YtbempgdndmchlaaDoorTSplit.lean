/-
  The names of a path: the two Splits. Conditions: the path's bound; a global's kind.
-/
import Derived.Test.YtbempgdndmchlaaDoorTree
import Derived.Test.YtbempgdndmchlaaDoorShelf
import Derived.Lib.SplitLaws
namespace Go.Proofs.YtbempgdndmchlaaDoor
open Go.RowKit
set_option linter.unusedVariables false

/-- The pieces between slashes. -/
def pieces : List UInt8 → List (List UInt8)
  | [] => [[]]
  | c :: t => if c = 47 then [] :: pieces t else match pieces t with
    | [] => [[c]]
    | p :: r => (c :: p) :: r

/-- The names of a path, and the error's number. -/
def splitT (l : List UInt8) : List (List UInt8) × Int :=
  if 400 < l.length then ([], 2) else if l = [] then ([], 0) else if (pieces l).all tName = true then (pieces l, 0) else ([], 4)

/-- The global that strings.Split reads. -/
def MaxW (w : World) : Prop := ∃ m, w.cell? ⟨0, 0, none⟩ = some (.int .i64 m)

theorem MaxW.below {w w' : World} {B : Nat} (h : MaxW w) (hb : Below B w w') (hB : 0 < B) : MaxW w' := by
  obtain ⟨m, hm⟩ := h
  exact ⟨m, (hb.cell (p := ⟨0, 0, none⟩) hB).trans hm⟩

theorem index_miss (b : UInt8) (l : List UInt8) (h : b ≠ 47) : Lib.index (b :: l) [47] = if Lib.index l [47] == -1 then -1 else Lib.index l [47] + 1 := by
  have hp : ([47] : List UInt8).isPrefixOf (b :: l) = false := by simp [List.isPrefixOf, Ne.symm h]
  rw [Lib.index, hp]; simp

theorem splitK_pieces : ∀ s : List UInt8, Lib.splitK [47] 0 (Lib.count s [47]) s = pieces s
  | [] => by rw [Lib.count_miss (by simp [Lib.index])]; rfl
  | b :: t => by
    have ih := splitK_pieces t
    by_cases h : b = 47
    · subst h
      have hix : Lib.index (47 :: t) [47] = ((0 : Nat) : Int) := by rw [Lib.index]; simp [List.isPrefixOf]
      rw [Lib.count_cons_eq, Nat.add_comm, Lib.splitK, hix]
      simp [pieces, ih]
    · rw [Lib.count_cons_ne b 47 t h]
      have hpc : pieces (b :: t) = match pieces t with
        | [] => [[b]]
        | p :: r => (b :: p) :: r := by rw [pieces, if_neg h]
      rw [hpc, ← ih]
      cases hc : Lib.count t [47] with
      | zero => rfl
      | succ k =>
        have hne : Lib.index t [47] ≠ -1 := fun e => by rw [Lib.count_miss e] at hc; cases hc
        have hge := Lib.index_ge t [47]
        obtain ⟨j, hj⟩ : ∃ j : Nat, Lib.index t [47] = j := ⟨(Lib.index t [47]).toNat, by omega⟩
        have hix := index_miss b t h
        rw [if_neg (by rw [beq_iff_eq]; exact hne), hj] at hix
        have e1 : Lib.splitK [47] 0 (k + 1) t = t.take j :: Lib.splitK [47] 0 k (t.drop (j + 1)) := by
          rw [Lib.splitK, hj, if_neg (by rw [beq_iff_eq]; omega)]
          simp
        have e2 : Lib.splitK [47] 0 (k + 1) (b :: t) = (b :: t.take j) :: Lib.splitK [47] 0 k (t.drop (j + 1)) := by
          rw [Lib.splitK, hix, if_neg (by rw [beq_iff_eq]; omega)]
          have : ((j : Int) + 1).toNat = j + 1 := by omega
          rw [this]
          simp
        rw [e1, e2]

theorem all_pieces (l : List ByteArray) : (l.map (·.data.toList)).all tName = l.all fun s => tName s.data.toList := by
  rw [List.all_map]; rfl

theorem splitT_good {s : List UInt8} {l : List ByteArray} (h1 : s.length ≤ 400) (h2 : s ≠ []) (hl : l.map (·.data.toList) = pieces s) (h : ∀ i, i < l.length → tName (l.getD i ⟨#[]⟩).data.toList = true) : splitT s = (pieces s, 0) := by
  unfold splitT
  rw [if_neg (by omega), if_neg h2, if_pos]
  rw [← hl, all_pieces, List.all_eq_true]
  intro x hx
  obtain ⟨i, hi, rfl⟩ := List.mem_iff_getElem.1 hx
  have := h i hi
  rwa [List.getD_eq_getElem?_getD, List.getElem?_eq_getElem hi] at this

theorem splitT_bad {s : List UInt8} {l : List ByteArray} {i : Nat} (h1 : s.length ≤ 400) (h2 : s ≠ []) (hl : l.map (·.data.toList) = pieces s) (hi : i < l.length) (h : tName (l.getD i ⟨#[]⟩).data.toList = false) : splitT s = ([], 4) := by
  unfold splitT
  rw [if_neg (by omega), if_neg h2, if_neg]
  rw [← hl, all_pieces, List.all_eq_true]
  intro hall
  rw [List.getD_eq_getElem?_getD, List.getElem?_eq_getElem hi] at h
  have := hall _ (List.getElem_mem hi)
  simp only [Option.getD_some] at h
  rw [h] at this
  cases this

/-- What a Split tells. -/
def SplitPost (k : IntKind) (r : List (List UInt8) × Int) (w : World) (e : Ending) (w' : World) : Prop :=
  (∃ a n cap l, IsS w' a n cap l ∧ l.map (·.data.toList) = r.1 ∧ e = .returned (.tuple #[.slice a n cap, .int k r.2]) ∧ ∀ x, a = some x → w.heap.size ≤ x.block) ∧ Below w.heap.size w w'

theorem splitPost_nil {k : IntKind} {w w' : World} {c : Int} {e : Ending} (he : e = .returned (.tuple #[.slice none 0 0, .int k c])) (hb : Below w.heap.size w w') : SplitPost k ([], c) w e w' :=
  ⟨⟨none, 0, 0, [], ⟨rfl, .inl rfl, fun _ => ⟨rfl, rfl⟩, Nat.le_refl _, Nat.zero_le _⟩, rfl, he, fun x hx => by cases hx⟩, hb⟩

set_option maxRecDepth 100000 in
set_option maxHeartbeats 8000000 in
theorem split_any (s : ByteArray) (w : World) (hm : MaxW w) :
    Calls Tryd.prog 40 #[.string s] w fun e w' => SplitPost .i64 (splitT s.data.toList) w e w' := by
  have hlen : s.data.toList.length = s.size := by simp
  by_cases h : 400 < s.size
  · have h4 : decide ((400 : Int) < (s.size : Int)) = true := by simp; omega
    have hsp : splitT s.data.toList = ([], 2) := by unfold splitT; rw [if_pos (by rw [hlen]; exact h)]
    rw [hsp]
    clear hlen hsp
    go_enter Tryd.func40, Tryd.ntmps40
    go_wp2_with fail
    go_ret2
    exact splitPost_nil rfl (Below.refl _ _)
  have h4 : decide ((400 : Int) < (s.size : Int)) = false := by simp; omega
  by_cases h0 : s.size = 0
  · have hnil : s.data.toList = [] := List.eq_nil_of_length_eq_zero (by rw [hlen]; exact h0)
    have hs : s = ⟨#[]⟩ := bytes_ext (by rw [hnil])
    subst hs
    clear hlen h0 hnil h
    go_enter Tryd.func40, Tryd.ntmps40
    go_wp2_with fail
    go_ret2
    exact splitPost_nil rfl (Below.refl _ _)
  · have n0 : s.toList.isEmpty = false := by
      rw [ByteArray.toList_eq]
      cases h : s.data.toList with
      | nil => rw [h] at hlen; simp at hlen; omega
      | cons a t => rfl
    have hne : s.data.toList ≠ [] := fun e => by rw [e] at hlen; simp at hlen; omega
    obtain ⟨l, hl⟩ : ∃ l, l = Lib.splitB ⟨#[47]⟩ 0 (Lib.countB s ⟨#[47]⟩) s := ⟨_, rfl⟩
    have hll : l.length = Lib.countB s ⟨#[47]⟩ + 1 := by rw [hl]; exact Lib.splitB_all ⟨#[47]⟩ (by decide) 0 _ s rfl
    have hlp : l.map (·.data.toList) = pieces s.data.toList := by
      rw [hl, Lib.splitB_data]
      exact splitK_pieces _
    obtain ⟨m, hmm⟩ := hm
    have K := Tryd.strings_Split s ⟨#[47]⟩ m w (by omega) hmm (by decide)
    rw [← hl, ← hll] at K
    have HK := Lib.hid K
    have HNE := Lib.hid hne
    have HLP := Lib.hid hlp
    have HLEN := Lib.hid hlen
    obtain ⟨SP, hSP⟩ : ∃ SP, SP = splitT s.data.toList := ⟨_, rfl⟩
    rw [← hSP]
    have HSP := Lib.hid hSP
    have hlb : l.length ≤ 401 := by
      have := Lib.countB_le ⟨#[47]⟩ (by decide) s.size s (Nat.le_refl _)
      omega
    have hle : s.size ≤ 400 := by omega
    have HLE := Lib.hid hle
    clear hlen hne hl hll hlp hmm K hSP h hle
    go_enter Tryd.func40, Tryd.ntmps40
    go_wp2_with fail
    refine HK.out.mono ?_
    rintro e w1 ⟨rfl, hw1⟩
    have x1 : Has w1 w.heap.size (l.map Value.string) 9 := by rw [hw1]; exact Has.new w _ _
    have b1 : Below w.heap.size w w1 := by rw [hw1]; exact (Below.refl _ _).alloc (Nat.le_refl _) _
    have I1 : IsS w1 (some ⟨w.heap.size, 0, none⟩) l.length l.length l := ⟨rfl, .inr ⟨_, _, rfl, x1.lt, fun i hi => by rw [Nat.zero_add]; exact x1.cellAt (by simp [List.getD, hi])⟩, (fun h => by cases h), Nat.le_refl _, by unfold maxLen; omega⟩
    have HI := Lib.hid I1
    have B1 := Lib.hid b1
    have X1 := Lib.hid x1
    clear hw1 x1 b1 I1 HK
    go_wp2_with fail
    go_loopw [16] (fun ii wr => ∃ k : Nat, k ≤ l.length ∧ ii = .int .i64 k ∧ (∀ i, i < k → tName (l.getD i ⟨#[]⟩).data.toList = true) ∧ w1 = wr) (fun ii _ => l.length - (intOf ii).toNat)
    case atStart => exact ⟨0, Nat.zero_le _, rfl, fun i hi => by omega, rfl⟩
    case round =>
      obtain ⟨k, hk, rfl, hok, rfl⟩ := hrel
      by_cases hlt : k < l.length
      · obtain ⟨t, ht⟩ : ∃ t, t = l.getD k ⟨#[]⟩ := ⟨_, rfl⟩
        have hck : w1.cell? ⟨w.heap.size, k, none⟩ = some (.string t) := by rw [ht]; exact X1.out.cellAt (by simp [List.getD, hlt])
        have HT := Lib.hid ht
        have HOK := Lib.hid hok
        have hki : (k : Int) < (l.length : Int) := by omega
        clear ht hok
        cases hn : tName t.data.toList
        · have HN := Lib.hid hn
          have HR := Lib.hid (splitT_bad (by rw [HLEN.out]; exact HLE.out) HNE.out HLP.out hlt (by rw [← HT.out]; exact hn))
          clear hn
          go_wp2_with fail
          refine (name_any _ _).mono ?_
          rintro e w' ⟨rfl, rfl⟩
          rw [HN.out]
          go_wp2_with fail
          go_ret2
          rw [HSP.out, HR.out]
          exact splitPost_nil rfl B1.out
        · have HN := Lib.hid hn
          clear hn
          go_wp2_with fail
          refine (name_any _ _).mono ?_
          rintro e w' ⟨rfl, rfl⟩
          rw [HN.out]
          go_wp2_with fail
          go_roundw
          case rel =>
            refine ⟨k + 1, by omega, by go_num, fun i hi => ?_, by trivial⟩
            by_cases e : i = k
            · subst e; rw [← HT.out]; exact HN.out
            · exact HOK.out i (by omega)
          case measure => simp [intOf]; omega
      · obtain rfl : k = l.length := by omega
        have HR := Lib.hid (splitT_good (by rw [HLEN.out]; exact HLE.out) HNE.out HLP.out hok)
        clear hok
        go_wp2_with fail
        go_ret2
        rw [HSP.out, HR.out]
        exact ⟨⟨_, _, _, l, HI.out, HLP.out, rfl, fun x hx => by cases hx; exact Nat.le_refl _⟩, B1.out⟩

end Go.Proofs.YtbempgdndmchlaaDoor
