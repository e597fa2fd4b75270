/-
  Sort's answer as a function of what New is told. No program text.
-/
import Derived.Test.YtdliecailkkciaaOKahn
import Derived.Test.YtdliecailkkciaaOClosM
namespace Go.Proofs.Ytdliecailkkciaa
open Go.RowKit
set_option linter.unusedVariables false

/-- Does s need t, as it is told? -/
def Need (ns : List ByteArray) (ks : List (List ByteArray)) (s t : ByteArray) : Prop := ∃ j, j < ns.length ∧ ns.getD j ⟨#[]⟩ = s ∧ t ∈ ks.getD j []
theorem Need.mem {ns : List ByteArray} {ks : List (List ByteArray)} {s t : ByteArray} (h : Need ns ks s t) : s ∈ ns := by
  obtain ⟨j, h1, rfl, _⟩ := h
  exact getD_mem2 h1
theorem fin_some (ns : List ByteArray) (ks : List (List ByteArray)) (s : ByteArray) : (finN ns ks s).isSome = true ↔ s ∈ ns := by
  unfold finN
  by_cases h : s ∈ ns
  · rw [if_pos h]; simp [h]
  · rw [if_neg h]; simp [h]
theorem fin_mem (ns : List ByteArray) (ks : List (List ByteArray)) (s t : ByteArray) : t ∈ getN (finN ns ks) s ↔ Need ns ks s t := by
  unfold getN finN
  by_cases h : s ∈ ns
  · rw [if_pos h]
    show t ∈ risL (gath ns ks ns.length s) ↔ _
    rw [risL_mem, gath_mem]
    exact Iff.rfl
  · rw [if_neg h]
    constructor
    · intro h2; cases h2
    · intro h2; exact absurd h2.mem h
theorem fin_inc (ns : List ByteArray) (ks : List (List ByteArray)) (s : ByteArray) : (getN (finN ns ks) s).Pairwise (fun x y => btsOf x < btsOf y) := by
  unfold getN finN
  by_cases h : s ∈ ns
  · rw [if_pos h]; exact risL_inc _
  · rw [if_neg h]; exact List.Pairwise.nil
theorem fin_len (ns : List ByteArray) (ks : List (List ByteArray)) (s : ByteArray) : (getN (finN ns ks) s).length ≤ tot ks ns.length := by
  unfold getN finN
  by_cases h : s ∈ ns
  · rw [if_pos h]; exact Nat.le_trans (risL_len _) (gath_len _ _ _ _)
  · rw [if_neg h]; exact Nat.zero_le _
theorem fin_in (ns : List ByteArray) (ks : List (List ByteArray)) (s : ByteArray) (h : (finN ns ks s).isSome = true) : s ∈ risL ns := risL_mem.2 ((fin_some _ _ _).1 h)
theorem totN_le (G : List ByteArray) (N : ByteArray → Option (List ByteArray)) (b : Nat) (h : ∀ s, (getN N s).length ≤ b) : ∀ i, totN G N i ≤ i * b
  | 0 => Nat.zero_le _
  | i + 1 => by
    have := totN_le G N b h i
    have := h (G.getD i ⟨#[]⟩)
    unfold totN
    rw [Nat.add_mul, Nat.one_mul]
    omega
theorem fin_tot {ns : List ByteArray} {ks : List (List ByteArray)} (h1 : ns.length ≤ 60) (h2 : ∀ s, (getN (finN ns ks) s).length ≤ 61) : totN (risL ns) (finN ns ks) (risL ns).length ≤ 5000 := by
  have h3 := totN_le (risL ns) (finN ns ks) 61 h2 (risL ns).length
  have h4 := risL_len ns
  have : (risL ns).length * 61 ≤ 60 * 61 := Nat.mul_le_mul (by omega) (Nat.le_refl _)
  omega
theorem fin_rdy (ns : List ByteArray) (ks : List (List ByteArray)) (out : List ByteArray) (s : ByteArray) : Rdy (finN ns ks) out s ↔ s ∉ out ∧ ∀ t, Need ns ks s t → t ≠ s → t ∈ ns → t ∈ out := by
  unfold Rdy
  refine and_congr_right (fun _ => ?_)
  constructor
  · intro h t h1 h2 h3
    refine h t ((fin_mem _ _ _ _).2 h1) ?_
    unfold nd
    rw [(fin_some ns ks t).2 h3, decide_eq_true h2]; rfl
  · intro h t h1 h2
    unfold nd at h2
    rw [Bool.and_eq_true, decide_eq_true_iff, fin_some] at h2
    exact h t ((fin_mem _ _ _ _).1 h1) h2.1 h2.2

/-- Sort's answer. -/
noncomputable def topoL (G : List ByteArray) (N : ByteArray → Option (List ByteArray)) : List ByteArray := kahnL G N G.length
theorem kahn_stop {G : List ByteArray} {N : ByteArray → Option (List ByteArray)} {n : Nat} (h : nextK G N (kahnL G N n) = none) : ∀ k, kahnL G N (n + k) = kahnL G N n
  | 0 => rfl
  | k + 1 => by
    have ih := kahn_stop h k
    show kahnL G N ((n + k) + 1) = _
    rw [kahnL, ih, h]
theorem Pops.topo {G : List ByteArray} {N : ByteArray → Option (List ByteArray)} (hG : G.Pairwise (fun x y => btsOf x < btsOf y)) (hN : ∀ x, (N x).isSome = true → x ∈ G) {out : List ByteArray} {W : ByteArray → Option (List ByteArray)} {C : ByteArray → Option Nat} (h : Pops G N out [] W C) : out = topoL G N := by
  have hnd : G.Nodup := List.Pairwise.imp (R := fun x y : ByteArray => btsOf x < btsOf y) (S := fun x y => x ≠ y) (fun {a b} h e => by subst e; exact bt_irr _ h) hG
  have h1 := h.is_kahn hG hN
  have h2 := h.ended hnd hN
  have h3 := (h.keep hnd hN).len
  simp only [List.length_nil, Nat.add_zero] at h3
  have h4 : nextK G N (kahnL G N out.length) = Option.none := by rw [← h1]; exact h2
  have h5 := kahn_stop h4 (G.length - out.length)
  unfold topoL
  rw [show out.length + (G.length - out.length) = G.length by omega] at h5
  rw [h5]; exact h1
theorem kahn_congr {G : List ByteArray} {N N' : ByteArray → Option (List ByteArray)} (h : ∀ out s, Rdy N out s ↔ Rdy N' out s) : ∀ n, kahnL G N n = kahnL G N' n
  | 0 => rfl
  | n + 1 => by
    have ih := kahn_congr (G := G) h n
    have e : ∀ out, nextK G N out = nextK G N' out := fun out => by
      unfold nextK
      congr 1
      funext s
      rw [decide_eq_decide]
      exact h out s
    rw [kahnL, kahnL, ih, e]
/-- Who is told how often, in which order, and whether of its own, does not count. -/
theorem topo_congr {ns ms : List ByteArray} {ks ls : List (List ByteArray)} (h1 : ∀ s, s ∈ ns ↔ s ∈ ms) (h2 : ∀ s t, t ≠ s → (Need ns ks s t ↔ Need ms ls s t)) : topoL (risL ns) (finN ns ks) = topoL (risL ms) (finN ms ls) := by
  have e := risL_ext h1
  unfold topoL
  rw [e]
  refine kahn_congr (fun out s => ?_) _
  rw [fin_rdy, fin_rdy]
  refine and_congr_right (fun _ => ?_)
  constructor
  · intro h t a b c; exact h t ((h2 s t b).2 a) b ((h1 t).2 c)
  · intro h t a b c; exact h t ((h2 s t b).1 a) b ((h1 t).1 c)
theorem find_only {p : ByteArray → Bool} {x : ByteArray} : ∀ {G : List ByteArray}, x ∈ G → p x = true → (∀ y ∈ G, p y = true → y = x) → G.find? p = some x
  | [], h, _, _ => by cases h
  | y :: G, hx, hpx, hl => by
    rw [List.find?_cons]
    cases hpy : p y with
    | true => rw [hl y (List.mem_cons_self ..) hpy]
    | false =>
      have hxG : x ∈ G := (List.mem_cons.1 hx).elim (fun h => by rw [h, hpy] at hpx; cases hpx) id
      exact find_only hxG hpx (fun z hz => hl z (List.mem_cons_of_mem _ hz))
/-- What leaves one by one. -/
theorem kahn_list {G : List ByteArray} {N : ByteArray → Option (List ByteArray)} (L : List ByteArray) (h : ∀ i, i < L.length → nextK G N (L.take i) = some (L.getD i ⟨#[]⟩)) : ∀ n, n ≤ L.length → kahnL G N n = L.take n
  | 0, _ => by simp [kahnL]
  | n + 1, hn => by
    have ih := kahn_list L h n (by omega)
    rw [kahnL, ih, h n (by omega), take_next (by omega)]
end Go.Proofs.Ytdliecailkkciaa
