/-
  The parser's steps over a sign or a word, over a name; can a thing begin here? Conditions: the parser's block.
-/
import Derived.Test.YtnajafnbickiiaaDoorPLeaf
namespace Go.Proofs.YtnajafnbickiiaaDoor
open Go.RowKit
set_option linter.unusedVariables false

theorem stT_kind {t : Tk} {r : List Tk} {s : List UInt8} (h : stT (t :: r) 0 s = true) : t.kind ≠ 0 := by
  unfold stT at h
  simp at h
  omega

set_option maxRecDepth 100000 in
theorem skip_no {w : World} {pb g off cap d : Nat} {ts : List Tk} {rm : Int} (h : Ps w pb g off cap ts d rm) (s : ByteArray) (hs : stT ts 0 s.data.toList = false) :
    Calls Tryd.prog 30 #[.pointer (some ⟨pb, 0, none⟩), .string s] w fun e w' => e = .returned (.bool false) ∧ Below w.heap.size w w' := by
  have hk := stands_any h 0 h.ends.pos s
  rw [hs] at hk
  have HK := Lib.hid hk
  clear hk h hs
  go_enter Tryd.func30, Tryd.ntmps30
  go_wp2_with fail
  refine HK.out.mono ?_
  rintro e w1 ⟨rfl, x1⟩
  have X1 := Lib.hid x1
  clear x1 HK
  go_wp2_with fail
  go_ret
  exact ⟨rfl, X1.out⟩

set_option maxRecDepth 100000 in
theorem skip_yes {w : World} {pb g off cap d : Nat} {t : Tk} {r : List Tk} {rm : Int} (h : Ps w pb g off cap (t :: r) d rm) (s : ByteArray) (hs : stT (t :: r) 0 s.data.toList = true) :
    Calls Tryd.prog 30 #[.pointer (some ⟨pb, 0, none⟩), .string s] w fun e w' => e = .returned (.bool true) ∧ But w.heap.size pb w w' ∧ Ps w' pb g (off + 3) (cap - 1) r d rm := by
  have hk := stands_any h 0 h.ends.pos s
  rw [hs] at hk
  have HK := Lib.hid hk
  have HS := Lib.hid (stT_kind hs)
  have HH := Lib.hid h
  clear hk h hs
  go_enter Tryd.func30, Tryd.ntmps30
  go_wp2_with fail
  refine HK.out.mono ?_
  rintro e w1 ⟨rfl, x1⟩
  have X1 := Lib.hid x1
  have HT := Lib.hid (take_any (HH.out.later x1) HS.out)
  clear x1 HK HH
  go_wp2_with fail
  refine HT.out.mono ?_
  rintro e w2 ⟨rfl, x2, p2⟩
  have X2 : Hid (But w.heap.size pb w w2) := Lib.hid ((But.of_below X1.out).trans (x2.mono X1.out.size))
  have P2 := Lib.hid p2
  clear x2 p2 HT
  go_wp2_with fail
  go_ret
  exact ⟨rfl, X2.out, P2.out⟩

set_option maxRecDepth 100000 in
theorem name_ok {w : World} {pb g off cap d : Nat} {t : Tk} {r : List Tk} {rm : Int} (h : Ps w pb g off cap (t :: r) d rm) (hk : t.kind = 1) :
    Calls Tryd.prog 41 #[.pointer (some ⟨pb, 0, none⟩)] w fun e w' => e = .returned (.agg (tokC t).toArray) ∧ But w.heap.size pb w w' ∧ Ps w' pb g (off + 3) (cap - 1) r d rm := by
  have hlt := h.row.lt
  have hgl := h.lt
  obtain ⟨G, hG⟩ : ∃ G, G = w.heap.size := ⟨_, rfl⟩
  obtain ⟨x1, hx1⟩ : ∃ x, x = w.alloc (.cells #[.int .u8 0, .string ⟨#[]⟩, .int .i64 0] 50) := ⟨_, rfl⟩
  have e1 : x1.heap.size = G + 1 := by rw [hx1, hG]; simp
  have P1 : Hid (Has x1 G [.int .u8 0, .string ⟨#[]⟩, .int .i64 0] 50) := Lib.hid (by rw [hx1, hG]; exact Has.new w [.int .u8 0, .string ⟨#[]⟩, .int .i64 0] _)
  have b1 : Below G w x1 := by rw [hx1, hG]; exact (Below.refl _ _).alloc (Nat.le_refl _) _
  have h' : Ps x1 pb g off cap (t :: r) d rm := h.later (by rw [← hG]; exact b1)
  have hn := named_any h' 0 h'.ends.pos
  rw [show nmT (t :: r) 0 = true by unfold nmT; simp [hk]] at hn
  have HN := Lib.hid hn
  have HT := Lib.hid (take_any h' (by omega))
  have B1 := Lib.hid b1
  have HX := Lib.hid hx1
  have HG := Lib.hid hG
  have E1 := Lib.hid e1
  have HL : Hid (pb < G ∧ g < G) := Lib.hid (by rw [hG]; exact ⟨hlt, hgl⟩)
  clear h h' hn hx1 b1 e1 hlt hgl
  obtain ⟨C, hC⟩ : ∃ C, C = (tokC t).toArray := ⟨_, rfl⟩
  rw [← hC] at HT ⊢
  have HC := Lib.hid hC
  have HCI : Hid ((Tryd.prog.info? 50).map (·.size) = some C.size) := Lib.hid (by rw [hC, List.size_toArray]; exact info_tokp)
  have HCO : Hid (C.all (·.oneCell') = true) := Lib.hid (by rw [hC]; exact tok_one t)
  have HCS : Hid (([.int .u8 0, .string ⟨#[]⟩, .int .i64 0] : List Value).toArray.size = C.size) := Lib.hid (by rw [hC]; rfl)
  clear hC
  go_enter Tryd.func41, Tryd.ntmps41
  go_upto_region 1 with fail
  rw [← HX.out, ← hG]
  clear hG
  go_wp2_with fail
  refine HN.out.mono ?_
  rintro e x2 ⟨rfl, hx2⟩
  subst hx2
  clear HN HX
  go_wp2_with fail
  refine HT.out.mono ?_
  rintro e w2 ⟨rfl, x2, p2⟩
  have P2 : Hid (Has w2 G [.int .u8 0, .string ⟨#[]⟩, .int .i64 0] 50) := Lib.hid (P1.out.but x2 (by rw [E1.out]; omega) (by have := HL.out.1; omega))
  have X2 : Hid (But G pb w w2) := Lib.hid ((But.of_below B1.out).trans (x2.mono (by rw [E1.out]; omega)))
  have S2 := Lib.hid p2
  clear x2 p2 HT P1 B1
  go_wp2_with (refine wpList_store_row rfl 50 _ _ rfl G C rfl rfl 50 _ P2.out HCI.out HCS.out HCO.out ?_)
  refine bodyPost_ret (results_cell_row (fn := Tryd.f41) (p := 2) (ty := 50) Tryd.results41 _ _ G 50 C (0, 0) _ rfl (setRow_heap _ _ _ _ _ _ P2.out) Tryd.underlying50 rfl HCI.out) rfl ?_
  refine ⟨rfl, ?_, ?_⟩
  · rw [← HG.out]; exact X2.out.setRow (.inl (Nat.le_refl _)) _
  · exact S2.out.laterB (below_setRow (Below.refl G w2) (Nat.le_refl _) _) HL.out.1 HL.out.2

set_option maxRecDepth 100000 in
set_option maxHeartbeats 1000000 in
theorem isthing_any {w : World} {pb g off cap d : Nat} {ts : List Tk} {rm : Int} (h : Ps w pb g off cap ts d rm) :
    Calls Tryd.prog 59 #[.pointer (some ⟨pb, 0, none⟩)] w fun e w' => e = .returned (.bool (thingT ts)) ∧ Below w.heap.size w w' := by
  cases ts with
  | nil => exact h.ends.elim
  | cons t r =>
  have y0 : w.cell? ⟨pb, 0, none⟩ = some (.slice (some ⟨g, off, none⟩) (t :: r).length cap) := h.row.cellAt (i := 0) rfl
  have z0 : w.cell? ⟨g, off, none⟩ = some (.int .u8 (t.kind : Int)) := by have := (h.cell (i := 0) (t := t) rfl).1; simpa using this
  have hii : (0 : Int) < ((t :: r).length : Int) := by rw [List.length_cons]; omega
  obtain ⟨R, hR⟩ : ∃ R, R = thingT (t :: r) := ⟨_, rfl⟩
  rw [← hR]
  have HR := Lib.hid hR
  obtain ⟨n, hn⟩ : ∃ n, n = (t :: r).length := ⟨_, rfl⟩
  rw [← hn] at y0 hii
  have HH := Lib.hid h
  clear hR h hn
  by_cases h3 : t.kind = 3
  · obtain rfl : R = true := by rw [HR.out]; simp [thingT, h3]
    rw [h3] at z0
    clear h3 HR HH
    go_enter Tryd.func59, Tryd.ntmps59
    go_wp2_with fail
    go_ret
    exact ⟨rfl, Below.refl _ _⟩
  · by_cases h1 : t.kind = 1
    · obtain rfl : R = true := by rw [HR.out]; simp [thingT, h1]
      rw [h1] at z0
      clear h3 h1 HR HH
      go_enter Tryd.func59, Tryd.ntmps59
      go_wp2_with fail
      go_ret
      exact ⟨rfl, Below.refl _ _⟩
    · by_cases h5 : t.kind = 5
      · obtain rfl : R = true := by rw [HR.out]; simp [thingT, h5]
        rw [h5] at z0
        clear h3 h1 h5 HR HH
        go_enter Tryd.func59, Tryd.ntmps59
        go_wp2_with fail
        go_ret
        exact ⟨rfl, Below.refl _ _⟩
      · have k3 : ((t.kind : Int) == 3) = false := by simp; omega
        have k1 : ((t.kind : Int) == 1) = false := by simp; omega
        have k5 : ((t.kind : Int) == 5) = false := by simp; omega
        have hr : R = (stT (t :: r) 0 [40] || stT (t :: r) 0 [91] || stT (t :: r) 0 [123] || stT (t :: r) 0 [114, 101, 99]) := by
          have e3 : (t.kind == 3) = false := by simpa using h3
          have e1 : (t.kind == 1) = false := by simpa using h1
          have e5 : (t.kind == 5) = false := by simpa using h5
          rw [HR.out]
          show (t.kind == 3 || t.kind == 1 || t.kind == 5 || stT (t :: r) 0 [40] || stT (t :: r) 0 [91] || stT (t :: r) 0 [123] || stT (t :: r) 0 [114, 101, 99]) = _
          rw [e3, e1, e5]; rfl
        have HRR := Lib.hid hr
        obtain ⟨b1, hb1⟩ : ∃ b, b = stT (t :: r) 0 [40] := ⟨_, rfl⟩
        obtain ⟨b2, hb2⟩ : ∃ b, b = stT (t :: r) 0 [91] := ⟨_, rfl⟩
        obtain ⟨b3, hb3⟩ : ∃ b, b = stT (t :: r) 0 [123] := ⟨_, rfl⟩
        obtain ⟨b4, hb4⟩ : ∃ b, b = stT (t :: r) 0 [114, 101, 99] := ⟨_, rfl⟩
        rw [← hb1, ← hb2, ← hb3, ← hb4] at HRR
        have kk := fun (W : World) (hp : Ps W pb g off cap (t :: r) d rm) => stands_any hp 0 hp.ends.pos
        have K1 : Hid (∀ W : World, Below w.heap.size w W → Calls Tryd.prog 26 #[.pointer (some ⟨pb, 0, none⟩), .int .i64 0, .string ⟨#[40]⟩] W fun e w' => e = .returned (.bool b1) ∧ Below W.heap.size W w') := Lib.hid (fun W hb => by have := kk W (HH.out.later hb) ⟨#[40]⟩; rw [hb1]; exact this)
        have K2 : Hid (∀ W : World, Below w.heap.size w W → Calls Tryd.prog 26 #[.pointer (some ⟨pb, 0, none⟩), .int .i64 0, .string ⟨#[91]⟩] W fun e w' => e = .returned (.bool b2) ∧ Below W.heap.size W w') := Lib.hid (fun W hb => by have := kk W (HH.out.later hb) ⟨#[91]⟩; rw [hb2]; exact this)
        have K3 : Hid (∀ W : World, Below w.heap.size w W → Calls Tryd.prog 26 #[.pointer (some ⟨pb, 0, none⟩), .int .i64 0, .string ⟨#[123]⟩] W fun e w' => e = .returned (.bool b3) ∧ Below W.heap.size W w') := Lib.hid (fun W hb => by have := kk W (HH.out.later hb) ⟨#[123]⟩; rw [hb3]; exact this)
        have K4 : Hid (∀ W : World, Below w.heap.size w W → Calls Tryd.prog 26 #[.pointer (some ⟨pb, 0, none⟩), .int .i64 0, .string ⟨#[114, 101, 99]⟩] W fun e w' => e = .returned (.bool b4) ∧ Below W.heap.size W w') := Lib.hid (fun W hb => by have := kk W (HH.out.later hb) ⟨#[114, 101, 99]⟩; rw [hb4]; exact this)
        clear h3 h1 h5 HR HH hr kk hb1 hb2 hb3 hb4
        go_enter Tryd.func59, Tryd.ntmps59
        go_wp2_with fail
        refine (K1.out w (Below.refl _ _)).mono ?_
        rintro e w1 ⟨rfl, x1⟩
        have X1 := Lib.hid x1
        clear x1
        cases b1 with
        | true =>
          obtain rfl : R = true := by rw [HRR.out]; rfl
          go_wp2_with fail
          go_ret
          exact ⟨rfl, X1.out⟩
        | false =>
          go_wp2_with fail
          refine (K2.out w1 X1.out).mono ?_
          rintro e w2 ⟨rfl, x2⟩
          have X2 : Hid (Below w.heap.size w w2) := Lib.hid (X1.out.trans (x2.mono X1.out.size))
          clear x2
          cases b2 with
          | true =>
            obtain rfl : R = true := by rw [HRR.out]; rfl
            go_wp2_with fail
            go_ret
            exact ⟨rfl, X2.out⟩
          | false =>
            go_wp2_with fail
            refine (K3.out w2 X2.out).mono ?_
            rintro e w3 ⟨rfl, x3⟩
            have X3 : Hid (Below w.heap.size w w3) := Lib.hid (X2.out.trans (x3.mono X2.out.size))
            clear x3
            cases b3 with
            | true =>
              obtain rfl : R = true := by rw [HRR.out]; rfl
              go_wp2_with fail
              go_ret
              exact ⟨rfl, X3.out⟩
            | false =>
              go_wp2_with fail
              refine (K4.out w3 X3.out).mono ?_
              rintro e w4 ⟨rfl, x4⟩
              have X4 : Hid (Below w.heap.size w w4) := Lib.hid (X3.out.trans (x4.mono X3.out.size))
              obtain rfl : R = b4 := by rw [HRR.out]; rfl
              clear x4
              go_wp2_with fail
              go_ret
              exact ⟨rfl, X4.out⟩
end Go.Proofs.YtnajafnbickiiaaDoor
