/-
  The reference's Sort. Conditions: as many needs as names; a bound on their number.
-/
import Derived.Test.YtdliecailkkciaaORIn
namespace Go.Proofs.Ytdliecailkkciaa
open Go.RowKit
set_option linter.unusedVariables false

/-- May G's i-th stand behind these, as far as the first k of G say? -/
def FrP (G ns : List ByteArray) (ks : List (List ByteArray)) (out : List ByteArray) (i k : Nat) : Prop := ∀ j, j < k → j ≠ i → G.getD j ⟨#[]⟩ ∉ out → ¬ Need ns ks (G.getD i ⟨#[]⟩) (G.getD j ⟨#[]⟩)
noncomputable def frB (G ns : List ByteArray) (ks : List (List ByteArray)) (out : List ByteArray) (i k : Nat) : Bool := @decide (FrP G ns ks out i k) (Classical.propDecidable _)
theorem frB_iff (G ns : List ByteArray) (ks : List (List ByteArray)) (out : List ByteArray) (i k : Nat) : frB G ns ks out i k = true ↔ FrP G ns ks out i k := @decide_eq_true_iff _ (Classical.propDecidable _)
theorem frB_zero (G ns : List ByteArray) (ks : List (List ByteArray)) (out : List ByteArray) (i : Nat) : frB G ns ks out i 0 = true := (frB_iff _ _ _ _ _ _).2 (fun j hj => by omega)
theorem frB_keep {G ns : List ByteArray} {ks : List (List ByteArray)} {out : List ByteArray} {i k : Nat} (h : k = i ∨ G.getD k ⟨#[]⟩ ∈ out ∨ ¬ Need ns ks (G.getD i ⟨#[]⟩) (G.getD k ⟨#[]⟩)) : frB G ns ks out i (k + 1) = frB G ns ks out i k := by
  rw [Bool.eq_iff_iff, frB_iff, frB_iff]
  constructor
  · intro h1 j hj; exact h1 j (by omega)
  · intro h1 j hj a b
    by_cases e : j = k
    · subst e
      rcases h with h | h | h
      · exact absurd h a
      · exact absurd h b
      · exact h
    · exact h1 j (by omega) a b
theorem frB_drop {G ns : List ByteArray} {ks : List (List ByteArray)} {out : List ByteArray} {i k : Nat} (h1 : k ≠ i) (h2 : G.getD k ⟨#[]⟩ ∉ out) (h3 : Need ns ks (G.getD i ⟨#[]⟩) (G.getD k ⟨#[]⟩)) : frB G ns ks out i (k + 1) = false := by
  cases hb : frB G ns ks out i (k + 1) with
  | false => rfl
  | true => exact absurd h3 ((frB_iff _ _ _ _ _ _).1 hb k (by omega) h1 h2)
theorem nodup_inj {l : List ByteArray} (h : l.Nodup) {i j : Nat} (hi : i < l.length) (hj : j < l.length) (e : l[i] = l[j]) : i = j := by
  rcases Nat.lt_trichotomy i j with h1 | h1 | h1
  · exact absurd e (List.pairwise_iff_getElem.1 h i j hi hj h1)
  · exact h1
  · exact absurd e.symm (List.pairwise_iff_getElem.1 h j i hj hi h1)
theorem frB_rdy {ns : List ByteArray} {ks : List (List ByteArray)} {out : List ByteArray} {i : Nat} (hi : i < (risL ns).length) : Rdy (finN ns ks) out ((risL ns).getD i ⟨#[]⟩) ↔ (risL ns).getD i ⟨#[]⟩ ∉ out ∧ frB (risL ns) ns ks out i (risL ns).length = true := by
  rw [fin_rdy, frB_iff]
  refine and_congr_right (fun _ => ?_)
  constructor
  · intro h j hj hne hno hnd
    refine hno (h _ hnd (fun e => hne ?_) (risL_mem.1 (getD_mem2 hj)))
    rw [getD_get hj, getD_get hi] at e
    exact nodup_inj (risL_nodup ns) hj hi e
  · intro h t hnd hne ht
    refine Classical.byContradiction (fun hno => ?_)
    obtain ⟨j, hj, e⟩ := List.getElem_of_mem (risL_mem.2 ht)
    have e2 : (risL ns).getD j ⟨#[]⟩ = t := by rw [getD_get hj]; exact e
    exact h j hj (fun e3 => hne (by rw [← e2, e3])) (by rw [e2]; exact hno) (by rw [e2]; exact hnd)
theorem next_some {G : List ByteArray} {N : ByteArray → Option (List ByteArray)} {out : List ByteArray} {j : Nat} (hj : j < G.length) (h : Rdy N out (G.getD j ⟨#[]⟩)) (hl : ∀ j', j' < j → ¬ Rdy N out (G.getD j' ⟨#[]⟩)) : nextK G N out = some (G.getD j ⟨#[]⟩) := by
  unfold nextK
  rw [List.find?_eq_some_iff_getElem]
  refine ⟨decide_eq_true h, j, hj, (getD_get hj).symm, fun k hk => ?_⟩
  have := hl k hk
  rw [getD_get (by omega)] at this
  rw [decide_eq_false this]; rfl
theorem next_none {G : List ByteArray} {N : ByteArray → Option (List ByteArray)} {out : List ByteArray} (hl : ∀ j, j < G.length → ¬ Rdy N out (G.getD j ⟨#[]⟩)) : nextK G N out = none := by
  unfold nextK
  refine List.find?_eq_none.2 (fun s hs hp => ?_)
  obtain ⟨j, hj, rfl⟩ := List.getElem_of_mem hs
  have := hl j hj
  rw [getD_get hj] at this
  exact this (of_decide_eq_true hp)
/-- What the search for the next has found among the first i. -/
def NX (G : List ByteArray) (N : ByteArray → Option (List ByteArray)) (out : List ByteArray) (i : Nat) (z : Int) : Prop :=
  (z = -1 ∧ ∀ j, j < i → ¬ Rdy N out (G.getD j ⟨#[]⟩)) ∨ ∃ j : Nat, z = (j : Int) ∧ j < i ∧ Rdy N out (G.getD j ⟨#[]⟩) ∧ ∀ j', j' < j → ¬ Rdy N out (G.getD j' ⟨#[]⟩)
/-- A row of the loop's own. -/
structure RS (w wr : World) (v : Value) (out : List ByteArray) : Prop where
  low : Below w.heap.size w wr
  own : wr.ownsRow w.heap.size 9 1 v out.length (out.map Value.string)
theorem RS.later {w wr w' : World} {v : Value} {out : List ByteArray} (h : RS w wr v out) (hb : Below wr.heap.size wr w') : RS w w' v out := ⟨h.low.trans (hb.mono h.low.size), own_later h.own hb⟩
theorem RS.isS {w wr : World} {a : Option Addr} {n c : Nat} {out : List ByteArray} (h : RS w wr (.slice a n c) out) : IsS wr a n c out := by
  obtain ⟨a', c', e, hs⟩ := owns_isS h.own
  injection e with e1 e2 e3
  subst e1 e2 e3
  exact hs
theorem owns_len {w : World} {B k : Nat} {v : Value} {out : List ByteArray} (h : w.ownsRow B 9 1 v out.length (out.map Value.string)) (e : out.length = k) {o : Obj} : (w.alloc o).ownsRow B 9 1 v k (out.map Value.string) := by
  rw [← e]; exact h.alloc o
theorem drewN_below (w : World) (n : Nat) : Below w.heap.size w (w.drewN n) := below_rf (Below.refl _ _) n
theorem RS.drewN {w wr : World} {v : Value} {out : List ByteArray} (h : RS w wr v out) (n : Nat) : RS w (wr.drewN n) v out := h.later (drewN_below wr n)
theorem kahn_nodup {ns : List ByteArray} {ks : List (List ByteArray)} : ∀ n, (kahnL (risL ns) (finN ns ks) n).Nodup ∧ ∀ s ∈ kahnL (risL ns) (finN ns ks) n, s ∈ risL ns
  | 0 => ⟨List.nodup_nil, fun s h => by cases h⟩
  | n + 1 => by
    obtain ⟨h1, h2⟩ := kahn_nodup (ns := ns) (ks := ks) n
    rw [kahnL]
    cases hn : nextK (risL ns) (finN ns ks) (kahnL (risL ns) (finN ns ks) n) with
    | none => exact ⟨h1, h2⟩
    | some s =>
      have hs := List.find?_some hn
      have hr := of_decide_eq_true hs
      refine ⟨List.nodup_append.2 ⟨h1, by simp, fun a ha b hb => ?_⟩, fun t ht => ?_⟩
      · rw [List.mem_singleton] at hb
        rintro rfl
        exact hr.1 (hb ▸ ha)
      · rcases List.mem_append.1 ht with h | h
        · exact h2 t h
        · rw [List.mem_singleton] at h; rw [h]; exact List.mem_of_find?_eq_some hn
theorem nodup_all : ∀ {a b : List ByteArray}, a.Nodup → (∀ x ∈ a, x ∈ b) → b.length ≤ a.length → ∀ x ∈ b, x ∈ a := by
  intro a b hn hs hl x hx
  refine Classical.byContradiction (fun hxa => ?_)
  have h1 := nodup_len (a := x :: a) (b := b) (List.nodup_cons.2 ⟨hxa, hn⟩) (fun y hy => (List.mem_cons.1 hy).elim (fun e => e ▸ hx) (hs y))
  rw [List.length_cons] at h1
  omega
/-- What the reference's Sort tells. -/
def RSP (w w' : World) (ns T : List ByteArray) (u v : Value) : Prop :=
  (v = .bool true ∧ (∀ s ∈ ns, s ∈ T) ∧ w'.ownsRow w.heap.size 9 1 u T.length (T.map Value.string)) ∨ (v = .bool false ∧ u = .slice none 0 0 ∧ ¬ ∀ s ∈ ns, s ∈ T)
set_option maxRecDepth 100000 in
set_option maxHeartbeats 8000000 in
theorem rtopo_any (w : World) (a : Option Addr) (n c : Nat) (ns : List ByteArray) (hS : IsS w a n c ns) (ak : Option Addr) (ck : Nat) (ks : List (List ByteArray)) (hK : IsSS w ak n ck ks) (hn : n ≤ 1000) :
    Calls Try.prog 11 #[.slice a n c, .slice ak n ck] w fun e w' => ∃ u v, e = .returned (.tuple #[u, v]) ∧ RSP w w' ns (topoL (risL ns) (finN ns ks)) u v ∧ Below w.heap.size w w' := by
  obtain ⟨i0, hi0, hz0, hz1, hz2⟩ := info_parts info_str
  have HI := Lib.hid hi0
  have HZ0 := Lib.hid hz0
  have HZ1 := Lib.hid hz1
  have HZ2 := Lib.hid hz2
  have HS := Lib.hid hS
  have HK := Lib.hid hK
  have HN := Lib.hid hn
  clear hi0 hz0 hz1 hz2 hS hK hn
  go_enter Try.func11, Try.ntmps11
  go_wp2_with fail
  refine (rsort_any a n c ns w HS.out HN.out).mono ?_
  rintro e w1 ⟨v, G, rfl, hout, how, hl, hb⟩
  have hG : G = risL ns := risL_of hout
  subst hG
  obtain ⟨ga, gc, rfl, hgs⟩ := owns_isS how
  have HGS := Lib.hid hgs
  have B1 := Lib.hid hb
  have HGL : Hid ((risL ns).length ≤ 1000) := Lib.hid (by have := HN.out; omega)
  have HSZ := Lib.hid hb.size
  have HQN : Hid (∀ W, Below w1.heap.size w1 W → ∀ s t, Calls Try.prog 23 #[.slice a n c, .slice ak n ck, .string s, .string t] W fun e w' => e = .returned (.bool (needB ns ks s t)) ∧ w' = W) := Lib.hid (fun W hb2 s t => needs_any W a n c ns (HS.out.later (hb.trans (hb2.mono hb.size))) ak ck ks (HK.out.later (hb.trans (hb2.mono hb.size))) s t)
  obtain ⟨G, hG⟩ : ∃ G, G = risL ns := ⟨_, rfl⟩
  rw [← hG] at HGS HGL ⊢
  have HG := Lib.hid hG
  clear hG hout how hgs hl hb
  go_wp2_with fail
  go_loopg [7] G.length (fun gk v7 wr => ∃ k : Nat, gk = G.length - k ∧ k ≤ G.length ∧ Hid ((kahnL G (finN ns ks) k).length = k) ∧ RS w1 wr v7 (kahnL G (finN ns ks) k))
  case atStart => exact ⟨0, rfl, Nat.zero_le _, Lib.hid rfl, ⟨Below.refl _ _, World.ownsRow_nil _ _ _ _⟩⟩
  case round =>
    obtain ⟨k, rfl, hk, HKL, hr⟩ := hrel
    obtain ⟨out, ho⟩ : ∃ out, out = kahnL G (finN ns ks) k := ⟨_, rfl⟩
    rw [← ho] at hr HKL
    have HOUT := Lib.hid ho
    obtain ⟨oa, oc, rfl, _⟩ := owns_isS hr.own
    rw [HKL.out] at hr ⊢
    have HR := Lib.hid hr
    have hkb : (k : Int) ≤ 1000 := by have := HGL.out; omega
    clear ho hr
    by_cases hlt : k < G.length
    · have hki : (k : Int) < (G.length : Int) := by omega
      have HLT := Lib.hid hlt
      clear hlt
      go_wp2_with fail
      go_loopg [8, 9] G.length (fun gk v8 v9 wr => ∃ (i : Nat) (z : Int), gk = G.length - i ∧ i ≤ G.length ∧ v9 = .int .i64 (i : Int) ∧ v8 = .int .i64 z ∧ Hid (NX G (finN ns ks) out i z) ∧ RS w1 wr (.slice oa k oc) out)
      case atStart => exact ⟨0, -1, rfl, Nat.zero_le _, rfl, rfl, Lib.hid (.inl ⟨rfl, fun j hj => by omega⟩), HR.out⟩
      case round =>
        obtain ⟨i, z, rfl, hi, rfl, rfl, HNX, hr⟩ := hrel
        have HR2 := Lib.hid hr
        clear hr HR
        by_cases hz : z < 0
        · have HNR : Hid (z = -1 ∧ ∀ j, j < i → ¬ Rdy (finN ns ks) out (G.getD j ⟨#[]⟩)) := Lib.hid (by
            rcases HNX.out with h1 | ⟨j, h1, _⟩
            · exact h1
            · omega)
          by_cases hlt2 : i < G.length
          · have hii : (i : Int) < (G.length : Int) := by omega
            have hi0 : (0 : Int) ≤ (i : Int) := by omega
            have hni : (i : Int) + 1 ≤ 9223372036854775807 := by have := HGL.out; omega
            have HLT2 := Lib.hid hlt2
            obtain ⟨x, hx⟩ : ∃ x, x = G.getD i ⟨#[]⟩ := ⟨_, rfl⟩
            obtain ⟨b, off, hga, hbl, hc⟩ := HGS.out.cell hlt2
            rw [← hx] at hc
            subst hga
            have HC : Hid (∀ W, Below w1.heap.size w1 W → W.cell? ⟨b, off + i, none⟩ = some (.string x)) := Lib.hid (fun W hb => (hb.cell (p := ⟨b, off + i, none⟩) hbl).trans hc)
            have c1 := HC.out wr HR2.out.low
            have HX := Lib.hid hx
            clear hx hbl hc hlt2
            go_wp2_with fail
            refine (in_any wr oa k oc out HR2.out.isS x).mono ?_
            rintro e w2 ⟨rfl, hw2⟩
            obtain rfl : wr = w2 := hw2.symm
            clear hw2
            by_cases hin : x ∈ out
            · rw [inB_yes hin]
              have HNX2 : Hid (NX G (finN ns ks) out (i + 1) z) := Lib.hid (.inl ⟨HNR.out.1, fun j hj => by
                by_cases e : j = i
                · rw [e, ← HX.out]; exact fun h => h.1 hin
                · exact HNR.out.2 j (by omega)⟩)
              clear hin
              go_wp2_with fail
              go_roundg (G.length - (i + 1))
              case rel => exact ⟨i + 1, z, rfl, HLT2.out, by go_num, rfl, HNX2, HR2.out⟩
              case measure => have := HLT2.out; omega
            · rw [inB_no hin]
              have HIN := Lib.hid hin
              clear hin c1
              go_wp2_with fail
              go_loopg [10, 11] G.length (fun gk v10 v11 wq => ∃ kk : Nat, gk = G.length - kk ∧ kk ≤ G.length ∧ v11 = .int .i64 (kk : Int) ∧ v10 = .bool (frB G ns ks out i kk) ∧ RS w1 wq (.slice oa k oc) out)
              case atStart => exact ⟨0, rfl, Nat.zero_le _, rfl, by rw [frB_zero], HR2.out⟩
              case round =>
                clear HR2
                obtain ⟨kk, rfl, hkk, rfl, rfl, hr⟩ := hrel
                have HR3 := Lib.hid hr
                clear hr
                by_cases hlt3 : kk < G.length
                · have hik : (kk : Int) < (G.length : Int) := by omega
                  have hik0 : (0 : Int) ≤ (kk : Int) := by omega
                  have hnk : (kk : Int) + 1 ≤ 9223372036854775807 := by have := HGL.out; omega
                  have HLT3 := Lib.hid hlt3
                  have c1 := HC.out wr HR3.out.low
                  obtain ⟨y, hy⟩ : ∃ y, y = G.getD kk ⟨#[]⟩ := ⟨_, rfl⟩
                  have c2 : wr.cell? ⟨b, off + kk, none⟩ = some (.string y) := by
                    obtain ⟨b', off', hga, _, hc⟩ := (HGS.out.later HR3.out.low).cell hlt3
                    cases hga
                    rw [hy]; exact hc
                  have HY := Lib.hid hy
                  have HQI : Hid (∀ q, Calls Try.prog 22 #[.slice oa k oc, .string y] (wr.drewN q) fun e w' => e = .returned (.bool (inB out y)) ∧ w' = wr.drewN q) := Lib.hid (fun q => in_any _ oa k oc out (HR3.out.drewN q).isS y)
                  have HQW : Hid (∀ q, Calls Try.prog 23 #[.slice a n c, .slice ak n ck, .string x, .string y] (wr.drewN q) fun e w' => e = .returned (.bool (needB ns ks x y)) ∧ w' = wr.drewN q) := Lib.hid (fun q => HQN.out _ (HR3.out.drewN q).low x y)
                  clear hy hlt3
                  by_cases hki2 : kk = i
                  · have HF : Hid (frB G ns ks out i (kk + 1) = frB G ns ks out i kk) := Lib.hid (frB_keep (.inl hki2))
                    subst hki2
                    go_wp2_with fail
                    go_quiet (fail)
                    go_wp2_with fail
                    go_roundg (G.length - (kk + 1))
                    case rel => exact ⟨kk + 1, rfl, HLT3.out, by go_num, by rw [HF.out], HR3.out.drewN _⟩
                    case measure => have := HLT3.out; omega
                  · have hne : ((kk : Int) != (i : Int)) = true := by rw [bne_iff_ne]; omega
                    by_cases hyo : y ∈ out
                    · have HF : Hid (frB G ns ks out i (kk + 1) = frB G ns ks out i kk) := Lib.hid (frB_keep (.inr (.inl (by rw [← HY.out]; exact hyo))))
                      rw [inB_yes hyo] at HQI
                      clear hyo hki2
                      go_wp2_with fail
                      go_quiet ((go_at_call 22; exact Calls.quiet_of_same (HQI.out _)))
                      go_wp2_with fail
                      go_roundg (G.length - (kk + 1))
                      case rel => exact ⟨kk + 1, rfl, HLT3.out, by go_num, by rw [HF.out], HR3.out.drewN _⟩
                      case measure => have := HLT3.out; omega
                    · rw [inB_no hyo] at HQI
                      by_cases hnd : Need ns ks x y
                      · have HF : Hid (frB G ns ks out i (kk + 1) = false) := Lib.hid (frB_drop hki2 (by rw [← HY.out]; exact hyo) (by rw [← HY.out, ← HX.out]; exact hnd))
                        rw [needB_yes hnd] at HQW
                        clear hyo hki2 hnd
                        go_wp2_with fail
                        go_quiet (first | (go_at_call 22; exact Calls.quiet_of_same (HQI.out _)) | (go_at_call 23; exact Calls.quiet_of_same (HQW.out _)))
                        go_wp2_with fail
                        go_roundg (G.length - (kk + 1))
                        case rel => exact ⟨kk + 1, rfl, HLT3.out, by go_num, by rw [HF.out], HR3.out.drewN _⟩
                        case measure => have := HLT3.out; omega
                      · have HF : Hid (frB G ns ks out i (kk + 1) = frB G ns ks out i kk) := Lib.hid (frB_keep (.inr (.inr (by rw [← HY.out, ← HX.out]; exact hnd))))
                        rw [needB_no hnd] at HQW
                        clear hyo hki2 hnd
                        go_wp2_with fail
                        go_quiet (first | (go_at_call 22; exact Calls.quiet_of_same (HQI.out _)) | (go_at_call 23; exact Calls.quiet_of_same (HQW.out _)))
                        go_wp2_with fail
                        go_roundg (G.length - (kk + 1))
                        case rel => exact ⟨kk + 1, rfl, HLT3.out, by go_num, by rw [HF.out], HR3.out.drewN _⟩
                        case measure => have := HLT3.out; omega
                · obtain rfl : kk = G.length := by omega
                  have hik : ¬ (G.length : Int) < (G.length : Int) := by omega
                  have HRD : Hid (Rdy (finN ns ks) out x ↔ x ∉ out ∧ frB G ns ks out i G.length = true) := Lib.hid (by
                    have h := frB_rdy (ns := ns) (ks := ks) (out := out) (i := i) (by rw [← HG.out]; exact HLT2.out)
                    rw [← HG.out, ← HX.out] at h
                    exact h)
                  obtain ⟨fb, hfb⟩ : ∃ fb, fb = frB G ns ks out i G.length := ⟨_, rfl⟩
                  rw [← hfb] at HRD ⊢
                  clear hfb
                  cases fb with
                  | true =>
                    have HNX2 : Hid (NX G (finN ns ks) out (i + 1) (i : Int)) := Lib.hid (.inr ⟨i, rfl, by omega, by rw [← HX.out]; exact HRD.out.2 ⟨HIN.out, rfl⟩, HNR.out.2⟩)
                    go_wp2_with fail
                    go_roundg (G.length - (i + 1))
                    case rel => exact ⟨i + 1, (i : Int), rfl, HLT2.out, by go_num, rfl, HNX2, HR3.out⟩
                    case measure => have := HLT2.out; omega
                  | false =>
                    have HNX2 : Hid (NX G (finN ns ks) out (i + 1) z) := Lib.hid (.inl ⟨HNR.out.1, fun j hj => by
                      by_cases e : j = i
                      · rw [e, ← HX.out]; exact fun h => by have := (HRD.out.1 h).2; cases this
                      · exact HNR.out.2 j (by omega)⟩)
                    go_wp2_with fail
                    go_roundg (G.length - (i + 1))
                    case rel => exact ⟨i + 1, z, rfl, HLT2.out, by go_num, rfl, HNX2, HR3.out⟩
                    case measure => have := HLT2.out; omega
          · obtain rfl : i = G.length := by omega
            have hii : ¬ (G.length : Int) < (G.length : Int) := by omega
            have HT : Hid (topoL G (finN ns ks) = out ∧ ¬ ∀ s ∈ ns, s ∈ out) := Lib.hid (by
              have h1 := next_none HNR.out.2
              rw [HOUT.out] at h1
              have h2 := kahn_stop h1 (G.length - k)
              rw [show k + (G.length - k) = G.length by omega] at h2
              refine ⟨by unfold topoL; rw [h2, HOUT.out], fun hall => ?_⟩
              have h3 := nodup_len (a := G) (b := out) (by rw [HG.out]; exact risL_nodup ns) (fun s hs => hall s (risL_mem.1 (by rw [← HG.out]; exact hs)))
              have := HLT.out
              have := HKL.out
              omega)
            clear HNX
            go_wp2_with fail
            refine bodyPost_ret (results_tmp2 rfl _ _ _) rfl ?_
            refine ⟨_, _, rfl, .inr ⟨rfl, rfl, ?_⟩, B1.out.trans (HR2.out.low.mono HSZ.out)⟩
            rw [← HG.out, HT.out.1]
            exact HT.out.2
        · by_cases hlt2 : i < G.length
          · have hii : (i : Int) < (G.length : Int) := by omega
            obtain ⟨j, rfl, hjl, hrd, hfi⟩ : ∃ j : Nat, z = (j : Int) ∧ j < G.length ∧ Rdy (finN ns ks) out (G.getD j ⟨#[]⟩) ∧ ∀ j', j' < j → ¬ Rdy (finN ns ks) out (G.getD j' ⟨#[]⟩) := by
              rcases HNX.out with ⟨h1, _⟩ | ⟨j, h1, h2, h3, h4⟩
              · omega
              · exact ⟨j, h1, by omega, h3, h4⟩
            obtain ⟨x, hx⟩ : ∃ x, x = G.getD j ⟨#[]⟩ := ⟨_, rfl⟩
            have HNS : Hid (kahnL G (finN ns ks) (k + 1) = out ++ [x]) := Lib.hid (by
              have h := next_some hjl hrd hfi
              rw [kahnL, ← HOUT.out, h, hx])
            obtain ⟨b, off, hga, hbl, hc⟩ := (HGS.out.later HR2.out.low).cell hjl
            rw [← hx] at hc
            have hjj : (j : Int) < (G.length : Int) := by omega
            have hj0 : (0 : Int) ≤ (j : Int) := by omega
            have hjn : ¬ (j : Int) < 0 := by omega
            subst hga
            clear hjl hrd hfi hx hbl HNX hz
            go_wp2_with (at_builtin; go_must (refine wpList_append_lies _ rfl (.tmp 70) (.tmp 75) 22 rfl w1.heap.size 9 i0 (.string ByteArray.empty) 1 16 Try.underlying22 HI.out HZ0.out HZ1.out HZ2.out rfl (by omega) _ k (out.map Value.string) rfl (owns_len HR2.out.own HKL.out) ⟨wr.heap.size, 0, none⟩ 1 1 [.string x] rfl rfl ?f1 ?f2 ?f3 ?f4 ?f5 ?f6 _ rfl ?f7))
            try (case f1 => (intro j u hj; rw [Addr.add_mid]; exact (Has.new wr [.string x] _).cellAt (by rw [Nat.zero_add]; exact hj)))
            try (case f2 => first | rfl | (intro u hu; simp only [List.mem_cons, List.not_mem_nil, or_false] at hu; rcases hu with rfl; rfl))
            try (case f3 => omega)
            try (case f4 => (unfold maxLen; omega))
            try (case f5 => omega)
            try (case f6 => (have := HR2.out.low.size; simp; omega))
            intro g1 cap1 w3 hown hgrow hat hlt2
            have HR3 : Hid (RS w1 w3 (.slice (some ⟨g1, 0, none⟩) (k + 1) cap1) (kahnL G (finN ns ks) (k + 1))) := Lib.hid ⟨below_grown (HR2.out.low.alloc HR2.out.low.size _) (by have := HR2.out.low.size; simp; omega) (owns_len HR2.out.own HKL.out) hgrow, by rw [HNS.out, List.length_append, List.map_append, HKL.out]; exact hown⟩
            have HKL2 : Hid ((kahnL G (finN ns ks) (k + 1)).length = k + 1) := Lib.hid (by rw [HNS.out, List.length_append, HKL.out]; rfl)
            clear hown hgrow hat hlt2
            go_wp2_with fail
            go_roundg (G.length - (k + 1))
            case rel => exact ⟨k + 1, rfl, HLT.out, HKL2, HR3.out⟩
            case measure => have := HLT.out; omega
          · obtain rfl : i = G.length := by omega
            have hii : ¬ (G.length : Int) < (G.length : Int) := by omega
            obtain ⟨j, rfl, hjl, hrd, hfi⟩ : ∃ j : Nat, z = (j : Int) ∧ j < G.length ∧ Rdy (finN ns ks) out (G.getD j ⟨#[]⟩) ∧ ∀ j', j' < j → ¬ Rdy (finN ns ks) out (G.getD j' ⟨#[]⟩) := by
              rcases HNX.out with ⟨h1, _⟩ | ⟨j, h1, h2, h3, h4⟩
              · omega
              · exact ⟨j, h1, by omega, h3, h4⟩
            obtain ⟨x, hx⟩ : ∃ x, x = G.getD j ⟨#[]⟩ := ⟨_, rfl⟩
            have HNS : Hid (kahnL G (finN ns ks) (k + 1) = out ++ [x]) := Lib.hid (by
              have h := next_some hjl hrd hfi
              rw [kahnL, ← HOUT.out, h, hx])
            obtain ⟨b, off, hga, hbl, hc⟩ := (HGS.out.later HR2.out.low).cell hjl
            rw [← hx] at hc
            have hjj : (j : Int) < (G.length : Int) := by omega
            have hj0 : (0 : Int) ≤ (j : Int) := by omega
            have hjn : ¬ (j : Int) < 0 := by omega
            subst hga
            clear hjl hrd hfi hx hbl HNX hz
            go_wp2_with (at_builtin; go_must (refine wpList_append_lies _ rfl (.tmp 70) (.tmp 75) 22 rfl w1.heap.size 9 i0 (.string ByteArray.empty) 1 16 Try.underlying22 HI.out HZ0.out HZ1.out HZ2.out rfl (by omega) _ k (out.map Value.string) rfl (owns_len HR2.out.own HKL.out) ⟨wr.heap.size, 0, none⟩ 1 1 [.string x] rfl rfl ?g1 ?g2 ?g3 ?g4 ?g5 ?g6 _ rfl ?g7))
            try (case g1 => (intro j u hj; rw [Addr.add_mid]; exact (Has.new wr [.string x] _).cellAt (by rw [Nat.zero_add]; exact hj)))
            try (case g2 => first | rfl | (intro u hu; simp only [List.mem_cons, List.not_mem_nil, or_false] at hu; rcases hu with rfl; rfl))
            try (case g3 => omega)
            try (case g4 => (unfold maxLen; omega))
            try (case g5 => omega)
            try (case g6 => (have := HR2.out.low.size; simp; omega))
            intro g1 cap1 w3 hown hgrow hat hlt2
            have HR3 : Hid (RS w1 w3 (.slice (some ⟨g1, 0, none⟩) (k + 1) cap1) (kahnL G (finN ns ks) (k + 1))) := Lib.hid ⟨below_grown (HR2.out.low.alloc HR2.out.low.size _) (by have := HR2.out.low.size; simp; omega) (owns_len HR2.out.own HKL.out) hgrow, by rw [HNS.out, List.length_append, List.map_append, HKL.out]; exact hown⟩
            have HKL2 : Hid ((kahnL G (finN ns ks) (k + 1)).length = k + 1) := Lib.hid (by rw [HNS.out, List.length_append, HKL.out]; rfl)
            clear hown hgrow hat hlt2
            go_wp2_with fail
            go_roundg (G.length - (k + 1))
            case rel => exact ⟨k + 1, rfl, HLT.out, HKL2, HR3.out⟩
            case measure => have := HLT.out; omega
    · obtain rfl : k = G.length := by omega
      have hki : ¬ (G.length : Int) < (G.length : Int) := by omega
      have HALL : Hid (∀ s ∈ ns, s ∈ out) := Lib.hid (fun s hs => by
        obtain ⟨h1, h2⟩ := kahn_nodup (ns := ns) (ks := ks) G.length
        rw [← HG.out, ← HOUT.out] at h1 h2
        exact nodup_all h1 h2 (by rw [HKL.out]; exact Nat.le_refl _) s (by rw [HG.out]; exact risL_mem.2 hs))
      go_wp2_with fail
      refine bodyPost_ret (results_tmp2 rfl _ _ _) rfl ?_
      have e : topoL (risL ns) (finN ns ks) = out := by rw [← HG.out, HOUT.out]; rfl
      rw [e]
      refine ⟨_, _, rfl, .inl ⟨rfl, HALL.out, ?_⟩, B1.out.trans (HR.out.low.mono HSZ.out)⟩
      rw [HKL.out]
      have h := owns_down HR.out.own HSZ.out
      rw [HKL.out] at h
      exact h
end Go.Proofs.Ytdliecailkkciaa
