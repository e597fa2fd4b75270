/-
  What the reference's reader answers, as lists: any bytes; the archives. No program text.
-/
import Derived.Test.YthjihibocobndaaNRWant
import Derived.Test.YthjihibocobndaaTOpen
namespace Go.Proofs.Ythjihibocobndaa
open Go.RowKit
set_option linter.unusedVariables false

def zT : T := .mk 0 false [] [] []
/-- A regular file from behind its type on. -/
def fileO (o : Option (List UInt8)) : T × Option (List UInt8) :=
  let k := wantO [sExec, []] o
  let q := nextO (wantO [sContents] (if k.isSome then k else o))
  (.mk 1 k.isSome q.1 [] [], wantO [sClose] q.2)
/-- A symbolic link from behind its type on. -/
def linkO (o : Option (List UInt8)) : T × Option (List UInt8) :=
  let q := nextO (wantO [sTarget] o)
  (.mk 2 false q.1 [] [], wantO [sClose] q.2)
/-- One entry of a directory: its name, its kid, what remains. -/
def entO (f : Option (List UInt8) → T × Option (List UInt8)) (o : Option (List UInt8)) : ByteArray × T × Option (List UInt8) :=
  let q := nextO (wantO [sEntry, sOpen, sName] o)
  let o3 := wantO [sNode] q.2
  let k := if o3.isSome then f o3 else (zT, none)
  (⟨q.1.toArray⟩, k.1, wantO [sClose] k.2)
/-- Does a directory go on? -/
def onO (o : Option (List UInt8)) : Bool := o.isSome && (wantO [sClose] o).isNone
def dirO (f : Option (List UInt8) → T × Option (List UInt8)) : Nat → List ByteArray → List T → Option (List UInt8) → T × Option (List UInt8)
  | 0, ns, ks, _ => (.mk 3 false [] ns ks, none)
  | m + 1, ns, ks, o => if onO o then dirO f m (ns ++ [(entO f o).1]) (ks ++ [(entO f o).2.1]) (entO f o).2.2 else (.mk 3 false [] ns ks, wantO [sClose] o)
/-- How much remains. -/
def remO : Option (List UInt8) → Nat
  | none => 0
  | some r => r.length + 1
/-- What the reference's tree answers at so many levels more. -/
def rtO : Nat → Option (List UInt8) → T × Option (List UInt8)
  | 0, _ => (zT, none)
  | n + 1, o => if (nextO (wantO [sOpen, sType] o)).2.isNone then (zT, none) else if (nextO (wantO [sOpen, sType] o)).1 = sRegular then fileO (nextO (wantO [sOpen, sType] o)).2
    else if (nextO (wantO [sOpen, sType] o)).1 = sSymlink then linkO (nextO (wantO [sOpen, sType] o)).2
    else if (nextO (wantO [sOpen, sType] o)).1 = sDirectory then dirO (rtO n) (remO (nextO (wantO [sOpen, sType] o)).2 + 1) [] [] (nextO (wantO [sOpen, sType] o)).2 else (zT, none)

/-! At archives. -/
theorem nextO_strN {s r : List UInt8} (h : s.length < 18446744073709551616) : nextO (some (strN s ++ r)) = (s, some r) := nextO_some (next_strN h)
theorem wantO_strN {s r : List UInt8} {l : List (List UInt8)} (h : s.length < 18446744073709551616) : wantO (s :: l) (some (strN s ++ r)) = wantO l (some r) := by
  simp only [wantO, Option.bind_some]
  exact skip_cons h
theorem wantO_ne {s u r : List UInt8} {l : List (List UInt8)} (h : u.length < 18446744073709551616) (hne : ¬ u = s) : wantO (s :: l) (some (strN u ++ r)) = none :=
  wantO_other (by rw [nextO_strN h]; exact hne)

theorem dirO_of (f : Option (List UInt8) → T × Option (List UInt8)) : ∀ (ks : List T) (ns : List ByteArray) (m : Nat) (ns0 : List ByteArray) (ks0 : List T) (q : List UInt8), ns.length = ks.length → ks.length < m →
    (∀ i, i < ns.length → (ns.getD i ⟨#[]⟩).size ≤ 80) → (∀ i, i < ks.length → ∀ r, f (some (nodeT (ks.getD i default) ++ r)) = (ks.getD i default, some r)) →
    dirO f m ns0 ks0 (some (entsT ks ns ++ (strN sClose ++ q))) = (.mk 3 false [] (ns0 ++ ns) (ks0 ++ ks), some q)
  | [], ns, m + 1, ns0, ks0, q, hl, hm, _, _ => by
    obtain rfl : ns = [] := List.eq_nil_of_length_eq_zero (by simpa using hl)
    rw [show entsT [] [] = [] from by simp [entsT], List.nil_append, dirO]
    have e : wantO [sClose] (some (strN sClose ++ q)) = some q := by rw [wantO_strN (by decide), wantO_nil]
    simp [onO, e]
  | k :: ks, [], m + 1, _, _, _, hl, _, _, _ => by simp at hl
  | k :: ks, nm :: ns, m + 1, ns0, ks0, q, hl, hm, h8, hf => by
    have b1 : nm.size ≤ 80 := by have := h8 0 (by simp); simpa using this
    have e1 : nm.data.toList.length = nm.size := by rw [Array.length_toList]; rfl
    have hk := hf 0 (by simp)
    simp only [List.getD_cons_zero] at hk
    have hs : strN sClose ++ q = strN sClose ++ q := rfl
    have hon : onO (some (entsT (k :: ks) (nm :: ns) ++ (strN sClose ++ q))) = true := by
      rw [entsT]
      simp only [List.append_assoc]
      simp [onO, wantO_ne (s := sClose) (u := sEntry) (by decide) (by decide)]
    have hent : entO f (some (entsT (k :: ks) (nm :: ns) ++ (strN sClose ++ q))) = (nm, k, some (entsT ks ns ++ (strN sClose ++ q))) := by
      rw [entsT]
      simp only [List.append_assoc]
      unfold entO
      rw [wantO_strN (by decide), wantO_strN (by decide), wantO_strN (by decide), wantO_nil, nextO_strN (by omega)]
      simp only []
      rw [wantO_strN (by decide), wantO_nil]
      simp only [Option.isSome_some, if_true]
      rw [hk]
      simp only []
      rw [wantO_strN (by decide), wantO_nil]
    rw [dirO, if_pos hon, hent]
    simp only []
    rw [dirO_of f ks ns m _ _ q (by simpa using hl) (by simp at hm; omega) (fun i hi => by have := h8 (i + 1) (by simpa using hi); simpa using this) (fun i hi r => by have := hf (i + 1) (by simpa using hi) r; simpa using this)]
    simp only [List.append_assoc, List.singleton_append]
  | _, _, 0, _, _, _, _, hm, _, _ => by simp at hm

theorem rtO_of : ∀ (n : Nat) (t : T) (q : List UInt8), GoodAt (17 - n) t → n ≤ 17 → rtO n (some (nodeT t ++ q)) = (t, some q)
  | 0, t, q, hg, _ => by have := hg.depth; omega
  | n + 1, .mk k x d ns ks, q, hg, hn => by
    have hd := hg.good.data
    rcases formed_cases hg.good.formed with ⟨rfl, rfl, rfl⟩ | ⟨rfl, rfl, rfl, rfl⟩ | ⟨rfl, rfl, rfl, hl⟩
    · rw [nodeT_1]
      simp only [List.append_assoc]
      rw [rtO, wantO_strN (by decide), wantO_strN (by decide), wantO_nil, nextO_strN (by decide)]
      simp only [Option.isNone_some, Bool.false_eq_true, if_false, if_true]
      unfold fileO
      cases x
      · simp only [Bool.false_eq_true, if_false, List.nil_append]
        rw [wantO_ne (by decide) (by decide)]
        simp only [Option.isSome_none, Bool.false_eq_true, if_false]
        rw [wantO_strN (by decide), wantO_nil, nextO_strN (by omega)]
        simp only []
        rw [wantO_strN (by decide), wantO_nil]
      · simp only [if_true, List.append_assoc]
        rw [wantO_strN (by decide), wantO_strN (by decide), wantO_nil]
        simp only [Option.isSome_some, if_true]
        rw [wantO_strN (by decide), wantO_nil, nextO_strN (by omega)]
        simp only []
        rw [wantO_strN (by decide), wantO_nil]
    · rw [nodeT_2]
      simp only [List.append_assoc]
      rw [rtO, wantO_strN (by decide), wantO_strN (by decide), wantO_nil, nextO_strN (by decide)]
      simp only [Option.isNone_some, Bool.false_eq_true, if_false, show sSymlink ≠ sRegular from by decide, if_true]
      unfold linkO
      rw [wantO_strN (by decide), wantO_nil, nextO_strN (by omega)]
      simp only []
      rw [wantO_strN (by decide), wantO_nil]
    · rw [nodeT_3]
      simp only [List.append_assoc]
      rw [rtO, wantO_strN (by decide), wantO_strN (by decide), wantO_nil, nextO_strN (by decide)]
      simp only [Option.isNone_some, Bool.false_eq_true, if_false, show sDirectory ≠ sRegular from by decide, show sDirectory ≠ sSymlink from by decide, if_true]
      have h16 := hg.depth
      rw [dirO_of (rtO n) ks ns _ [] [] q hl (by have := ents_count ks ns hl; show ks.length < (entsT ks ns ++ (strN sClose ++ q)).length + 1 + 1; rw [List.length_append]; omega) hg.good.short (fun i hi r => rtO_of n _ r (by have := hg.kid i hi; rwa [show 17 - (n + 1) + 1 = 17 - n by omega] at this) (by omega))]
      rfl

/-! The answer is small. -/
theorem nextO_len (o : Option (List UInt8)) : (nextO o).1.length + remO (nextO o).2 ≤ remO o := by
  cases o with
  | none => simp [nextO, remO]
  | some r =>
    cases hn : nextL r with
    | none => rw [nextO_none hn]; simp [remO]
    | some q =>
      obtain ⟨s, r'⟩ := q
      rw [nextO_some hn]
      have h1 := congrArg List.length (next_some hn).1
      rw [List.length_append, strN_length] at h1
      simp only [remO]; omega
theorem nextO_less {r : List UInt8} : remO (nextO (some r)).2 + 8 ≤ remO (some r) ∨ (nextO (some r)).2 = none := by
  cases hn : nextL r with
  | none => rw [nextO_none hn]; exact .inr rfl
  | some q =>
    obtain ⟨s, r'⟩ := q
    rw [nextO_some hn]
    have := next_len hn
    left; simp only [remO]; omega
theorem wantO_len : ∀ (l : List (List UInt8)) (o : Option (List UInt8)), remO (wantO l o) ≤ remO o
  | [], o => by rw [wantO_nil]; exact Nat.le_refl _
  | s :: l, o => by
    cases hq : (nextO o).2 with
    | none => rw [wantO_fell hq]; exact Nat.zero_le _
    | some r' =>
      by_cases h1 : (nextO o).1 = s
      · rw [wantO_go hq h1]
        have h2 := wantO_len l (some r')
        have h3 := nextO_len o
        rw [hq] at h3
        omega
      · rw [wantO_other h1]; exact Nat.zero_le _
theorem wantO_less (s : List UInt8) (l : List (List UInt8)) (r : List UInt8) : remO (wantO (s :: l) (some r)) + 8 ≤ remO (some r) ∨ wantO (s :: l) (some r) = none := by
  cases hq : (nextO (some r)).2 with
  | none => rw [wantO_fell hq]; exact .inr rfl
  | some r' =>
    by_cases h1 : (nextO (some r)).1 = s
    · rw [wantO_go hq h1]
      rcases nextO_less (r := r) with h3 | h3
      · rw [hq] at h3
        have h2 := wantO_len l (some r')
        left; omega
      · rw [hq] at h3; cases h3
    · rw [wantO_other h1]; exact .inr rfl

end Go.Proofs.Ythjihibocobndaa
