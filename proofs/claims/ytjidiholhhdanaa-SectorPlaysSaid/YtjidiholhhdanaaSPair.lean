/-
  A device and the reference's, side by side: what a call answers of the one, it answers of the other. Conditions: both hold the same.
-/
import Derived.Test.YtjidiholhhdanaaRSRest
import Derived.Laws.BytesString
namespace Go.Proofs.Ytjidiholhhdanaa
open Go.RowKit
set_option linter.unusedVariables false
set_option maxRecDepth 100000

/-- What comes in to be written. -/
def Src (w : World) (B : Nat) (a : Option Addr) (len : Nat) (p : List UInt8) : Prop :=
  p.length = len ∧ (len = 256 → ∃ b off, a = some ⟨b, off, none⟩ ∧ (∀ j, j < 256 → w.cell? ⟨b, off + j, none⟩ = some (bv (p.getD j 0))) ∧ Safe w B b)
/-- When the power goes off. -/
def Falls (left ops fall : Nat) : Prop := (left = 0 ∧ fall ≤ ops) ∨ (0 < left ∧ fall = ops + left)
def Lat (n : Nat) (D L : List UInt8) (way : List Wr) : Prop := ∀ i, i < n → sec L i = getW way i (sec D i)

theorem lat_snoc {n : Nat} {D L : List UInt8} {way : List Wr} (hl : L.length = 256 * n) (h : Lat n D L way) {i : Nat} (hi : i < n) {p : List UInt8} (hp : p.length = 256) : Lat n D (splice L (256 * i) p) (way ++ [(i, p)]) := by
  intro j hj
  rw [getW_snoc]
  by_cases e : i = j
  · subst e; rw [if_pos rfl, sec_splice_same hl hi hp]
  · rw [if_neg e, sec_splice_other hl hi hj (Nat.le_of_eq hp) (Ne.symm e), h j hj]
theorem falls_one {left ops fall : Nat} (h : Falls left ops fall) : (ops + 1 = fall ↔ left = 1) := by
  unfold Falls at h; omega
theorem falls_step {left ops fall : Nat} (h : Falls left ops fall) : Falls (left - 1) (ops + 1) fall := by
  unfold Falls at *; omega

section
variable {B pb bd bl rp n : Nat} {v vl vw : Value} {D L : List UInt8} {way : List Wr} {ops fall left : Nat} {off : Bool}

theorem write_pair {w : World} (h : Dev w B pb bd bl v n D L way ops fall off) (hf : Falls left ops fall) (hlat : Lat n D L way) (hleft : left ≤ 9223372036854775807) (ho : ops ≤ 1000) (hw : way.length ≤ 1000) (i : Int) (len : Nat) (p : List UInt8) :
    ∃ (C : Int) (L' : List UInt8) (way' : List Wr) (ops' : Nat) (off' : Bool) (left' : Nat), Falls left' ops' fall ∧ Lat n D L' way' ∧ left' ≤ 9223372036854775807 ∧ ops' ≤ ops + 1 ∧ way'.length ≤ way.length + 1 ∧
      (∀ (w0 : World) (a : Option Addr) (cap : Nat), Dev w0 B pb bd bl v n D L way ops fall off → Src w0 B a len p → B ≤ w0.heap.size →
        Calls Try.prog 19 #[.pointer (some ⟨pb, 0, none⟩), .int .i64 i, .slice a len cap] w0 fun e w' => e = .returned (.int .i64 C) ∧ (∃ v', Dev w' B pb bd bl v' n D L' way' ops' fall off') ∧ Kp devT B w0 w') ∧
      (∀ (w0 : World) (a : Option Addr) (cap : Nat), RDev w0 B rp vl vw n D way left off ops → Src w0 B a len p → B ≤ w0.heap.size →
        Calls Try.prog 23 #[.pointer (some ⟨rp, 0, none⟩), .int .i64 i, .slice a len cap] w0 fun e w' => e = .returned (.int .i64 C) ∧ (∃ vw', RDev w' B rp vl vw' n D way' left' off' ops') ∧ Kp refT B w0 w') := by
  by_cases hi : i < 0 ∨ (n : Int) ≤ i
  · refine ⟨1, L, way, ops, off, left, hf, hlat, hleft, by omega, by omega, fun w0 a cap hd _ _ => ?_, fun w0 a cap hd _ _ => ?_⟩
    · refine (write_arg hd i hi a len cap).mono ?_
      rintro e w' ⟨rfl, rfl⟩
      exact ⟨rfl, ⟨_, hd⟩, Kp.refl _ _ _⟩
    · refine (rput_arg hd i hi a len cap).mono ?_
      rintro e w' ⟨rfl, rfl⟩
      exact ⟨rfl, ⟨_, hd⟩, Kp.refl _ _ _⟩
  · obtain ⟨k, rfl⟩ : ∃ k : Nat, i = (k : Int) := ⟨i.toNat, by omega⟩
    have hk : k < n := by omega
    by_cases hl : len = 256
    · subst hl
      cases off with
      | true =>
        refine ⟨14, L, way, ops, true, left, hf, hlat, hleft, by omega, by omega, fun w0 a cap hd _ _ => ?_, fun w0 a cap hd _ _ => ?_⟩
        · refine (write_off hd k hk a cap).mono ?_
          rintro e w' ⟨rfl, rfl⟩
          exact ⟨rfl, ⟨_, hd⟩, Kp.refl _ _ _⟩
        · refine (rput_off hd k hk a cap).mono ?_
          rintro e w' ⟨rfl, rfl⟩
          exact ⟨rfl, ⟨_, hd⟩, Kp.refl _ _ _⟩
      | false =>
        by_cases hp : p.length = 256
        · refine ⟨if ops + 1 = fall then 14 else 0, splice L (256 * k) p, way ++ [(k, p)], ops + 1, decide (ops + 1 = fall), left - 1, falls_step hf, lat_snoc h.ll hlat hk hp, by omega, by omega, by simp, fun w0 a cap hd hs hB => ?_, fun w0 a cap hd hs hB => ?_⟩
          · obtain ⟨b, o, rfl, hc, hsf⟩ := hs.2 rfl
            refine (write_ok hd k hk b o cap p hp hc hsf (by omega) (by omega) hB).mono ?_
            rintro e w' ⟨v', rfl, h1, h2⟩
            exact ⟨rfl, ⟨_, h1⟩, h2⟩
          · obtain ⟨b, o, rfl, hc, hsf⟩ := hs.2 rfl
            refine (rput_ok hd k hk b o cap p hp hc hsf hleft (by omega) (by omega) hB).mono ?_
            rintro e w' ⟨v', rfl, h1, h2⟩
            refine ⟨?_, ⟨v', ?_⟩, h2⟩
            · by_cases hl1 : left = 1
              · rw [if_pos hl1, if_pos ((falls_one hf).2 hl1)]
              · rw [if_neg hl1, if_neg (fun e => hl1 ((falls_one hf).1 e))]
            · have e2 : decide (ops + 1 = fall) = decide (left = 1) := by
                by_cases hl1 : left = 1
                · rw [decide_eq_true hl1, decide_eq_true ((falls_one hf).2 hl1)]
                · rw [decide_eq_false hl1, decide_eq_false (fun e => hl1 ((falls_one hf).1 e))]
              rw [e2]; exact h1
        · exact ⟨0, L, way, ops, false, left, hf, hlat, hleft, by omega, by omega, fun w0 a cap _ hs _ => absurd hs.1 hp, fun w0 a cap _ hs _ => absurd hs.1 hp⟩
    · refine ⟨3, L, way, ops, off, left, hf, hlat, hleft, by omega, by omega, fun w0 a cap hd _ _ => ?_, fun w0 a cap hd _ _ => ?_⟩
      · refine (write_form hd k hk a len cap hl).mono ?_
        rintro e w' ⟨rfl, rfl⟩
        exact ⟨rfl, ⟨_, hd⟩, Kp.refl _ _ _⟩
      · refine (rput_form hd k hk a len cap hl).mono ?_
        rintro e w' ⟨rfl, rfl⟩
        exact ⟨rfl, ⟨_, hd⟩, Kp.refl _ _ _⟩

theorem conv_nil (w : World) : (convert 31 9 (.slice none 0 0)).run Try.prog w = .ok (.string ⟨#[]⟩) w := by
  rw [run_convert_bytes_string w 31 9 5 none 0 0 Try.underlying31 Try.underlying5 Try.underlying9]
  rfl

theorem read_pair {w : World} (h : Dev w B pb bd bl v n D L way ops fall off) (hr : RDev w B rp vl vw n D way left off ops) (hlat : Lat n D L way) (hw : way.length ≤ 1000) (i : Int) :
    ∃ (C : Int) (G : ByteArray),
      (Calls Try.prog 16 #[.pointer (some ⟨pb, 0, none⟩), .int .i64 i] w fun e w' => ∃ a ln cp, e = .returned (.tuple #[.slice a ln cp, .int .i64 C]) ∧ (convert 31 9 (.slice a ln cp)).run Try.prog w' = .ok (.string G) w' ∧ Below w.heap.size w w') ∧
      (∀ (w0 : World), RDev w0 B rp vl vw n D way left off ops → Calls Try.prog 17 #[.pointer (some ⟨rp, 0, none⟩), .int .i64 i] w0 fun e w' => e = .returned (.tuple #[.string G, .int .i64 C]) ∧ w0 = w') := by
  by_cases hi : i < 0 ∨ (n : Int) ≤ i
  · refine ⟨1, ⟨#[]⟩, ?_, fun w0 hd => rget_arg hd i hi⟩
    refine (read_arg h i hi).mono ?_
    rintro e w' ⟨rfl, rfl⟩
    exact ⟨_, _, _, rfl, conv_nil _, Below.refl _ _⟩
  · obtain ⟨k, rfl⟩ : ∃ k : Nat, i = (k : Int) := ⟨i.toNat, by omega⟩
    have hk : k < n := by omega
    cases off with
    | true =>
      refine ⟨14, ⟨#[]⟩, ?_, fun w0 hd => rget_off hd k hk⟩
      refine (read_off h k hk).mono ?_
      rintro e w' ⟨rfl, rfl⟩
      exact ⟨_, _, _, rfl, conv_nil _, Below.refl _ _⟩
    | false =>
      refine ⟨0, bs (getW way k (sec D k)), ?_, fun w0 hd => rget_ok hd (by omega) k hk⟩
      refine (read_ok h k hk).mono ?_
      rintro e w' ⟨b, rfl, hx, _, hb⟩
      refine ⟨_, _, _, rfl, ?_, hb⟩
      rw [← hlat k hk]
      exact conv_str hx 256 256 (sec_length h.ll hk)

theorem sync_pair {w : World} (h : Dev w B pb bd bl v n D L way ops fall off) (hf : Falls left ops fall) (hlat : Lat n D L way) (hleft : left ≤ 9223372036854775807) (ho : ops ≤ 1000) (hw : way.length ≤ 1000) (hn : 0 < n) :
    ∃ (C : Int) (D' : List UInt8) (way' : List Wr) (ops' : Nat) (off' : Bool) (left' : Nat), Falls left' ops' fall ∧ Lat n D' L way' ∧ left' ≤ 9223372036854775807 ∧ ops' ≤ ops + 1 ∧ way'.length ≤ way.length + 1 ∧
      (∀ (w0 : World), Dev w0 B pb bd bl v n D L way ops fall off →
        Calls Try.prog 20 #[.pointer (some ⟨pb, 0, none⟩)] w0 fun e w' => e = .returned (.int .i64 C) ∧ (∃ v', Dev w' B pb bd bl v' n D' L way' ops' fall off') ∧ Kp devT B w0 w') ∧
      (∀ (w0 : World), RDev w0 B rp vl vw n D way left off ops →
        Calls Try.prog 24 #[.pointer (some ⟨rp, 0, none⟩)] w0 fun e w' => e = .returned (.int .i64 C) ∧ (∃ vw', RDev w' B rp vl vw' n D' way' left' off' ops') ∧ Kp refT B w0 w') := by
  cases off with
  | true =>
    refine ⟨14, D, way, ops, true, left, hf, hlat, hleft, by omega, by omega, fun w0 hd => ?_, fun w0 hd => ?_⟩
    · refine (sync_off hd).mono ?_
      rintro e w' ⟨rfl, rfl⟩
      exact ⟨rfl, ⟨_, hd⟩, Kp.refl _ _ _⟩
    · refine (rsync_off hd).mono ?_
      rintro e w' ⟨rfl, rfl⟩
      exact ⟨rfl, ⟨_, hd⟩, Kp.refl _ _ _⟩
  | false =>
    by_cases hl1 : left = 1
    · have hof := (falls_one hf).2 hl1
      refine ⟨14, D, way, ops + 1, true, left - 1, falls_step hf, hlat, by omega, by omega, by omega, fun w0 hd => ?_, fun w0 hd => ?_⟩
      · refine (sync_fall hd (by omega) hof).mono ?_
        rintro e w' ⟨rfl, h1, h2⟩
        exact ⟨rfl, ⟨_, h1⟩, h2⟩
      · refine (rsync_fall hd hl1 (by omega)).mono ?_
        rintro e w' ⟨rfl, h1, h2⟩
        exact ⟨rfl, ⟨_, h1⟩, h2⟩
    · have hof : ops + 1 ≠ fall := fun e => hl1 ((falls_one hf).1 e)
      refine ⟨0, syncK way D way.length, [], ops + 1, false, left - 1, falls_step hf, ?_, by omega, by omega, by simp, fun w0 hd => ?_, fun w0 hd => ?_⟩
      · intro i hi
        rw [hlat i hi, sync_get h.dl h.good hi way.length (Nat.le_refl _), List.take_of_length_le (Nat.le_refl _)]
        rfl
      · refine (sync_ok hd (by omega) hof (by omega)).mono ?_
        rintro e w' ⟨rfl, h1, h2⟩
        exact ⟨rfl, ⟨_, h1⟩, h2⟩
      · refine (rsync_ok hd hl1 hleft (by omega) (by omega) hn).mono ?_
        rintro e w' ⟨rfl, h1, h2⟩
        exact ⟨rfl, ⟨_, h1⟩, h2⟩

theorem restart_pair {w : World} (h : Dev w B pb bd bl v n D L way ops fall off) (hlat : Lat n D L way) (ho : ops ≤ 1000) (hw : way.length ≤ 1000) (hn : 0 < n) (a : Option Addr) (kl kc : Nat) (ks : List Bool) (torn cut : Int) :
    ∃ (D' L' : List UInt8), Lat n D' L' [] ∧
      (∀ (w0 : World), Dev w0 B pb bd bl v n D L way ops fall off → IsO w0 B a kl kc ks →
        Calls Try.prog 14 #[.pointer (some ⟨pb, 0, none⟩), .slice a kl kc, .int .i64 torn, .int .i64 cut] w0 fun e w' => e = .returned (.int .i64 0) ∧ (∃ v', Dev w' B pb bd bl v' n D' L' [] ops 0 false) ∧ Kp devT B w0 w') ∧
      (∀ (w0 : World), RDev w0 B rp vl vw n D way left off ops → IsO w0 B a kl kc ks → B ≤ w0.heap.size →
        Calls Try.prog 15 #[.pointer (some ⟨rp, 0, none⟩), .slice a kl kc, .int .i64 torn, .int .i64 cut] w0 fun e w' => e = .returned (.tuple #[]) ∧ (∃ vw', RDev w' B rp vl vw' n D' [] 0 false ops) ∧ Kp refT B w0 w') := by
  refine ⟨resK ks torn (clampN cut) way D way.length, latK way (resK ks torn (clampN cut) way D way.length) L way.length, fun i hi => ?_, fun w0 hd hO => ?_, fun w0 hd hO hB => ?_⟩
  · rw [lat_res h.dl h.ll h.good hlat i hi]; rfl
  · refine (restart_any hd (by omega) a kl kc ks hO torn cut).mono ?_
    rintro e w' ⟨rfl, h1, h2⟩
    exact ⟨rfl, ⟨_, h1⟩, h2⟩
  · refine (rrestart_any hd (by omega) hn hB a kl kc ks hO torn cut).mono ?_
    rintro e w' ⟨rfl, h1, h2⟩
    exact ⟨rfl, ⟨_, h1⟩, h2⟩
end

end Go.Proofs.Ytjidiholhhdanaa
