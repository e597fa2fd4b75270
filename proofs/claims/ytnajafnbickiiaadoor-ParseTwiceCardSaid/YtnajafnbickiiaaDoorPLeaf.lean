/-
  The parser's smallest steps: deeper and back, is it a name, does a sign or a word stand there, on to the next token. Conditions: the parser's block.
-/
import Derived.Test.YtnajafnbickiiaaDoorPDat
import Derived.Deep.Cut
import Derived.Laws.CopyOwn
namespace Go.Proofs.YtnajafnbickiiaaDoor
open Go.RowKit
set_option linter.unusedVariables false

theorem info_tokp : (Tryd.prog.info? 50).map (·.size) = some 3 := by kernel_rfl

set_option maxRecDepth 100000 in
theorem leave_any {w : World} {pb g off cap d : Nat} {ts : List Tk} {rm : Int} (h : Ps w pb g off cap ts (d + 1) rm) (hd : d ≤ 60) :
    Calls Tryd.prog 24 #[.pointer (some ⟨pb, 0, none⟩)] w fun e w' => e = .returned (.tuple #[]) ∧ w' = w.setCell ⟨pb, 1, none⟩ (.int .i64 (d : Int)) := by
  have y1 : w.cell? ⟨pb, 1, none⟩ = some (.int .i64 ((d : Int) + 1)) := by have := h.row.cellAt (i := 1) (v := .int .i64 ((d + 1 : Nat) : Int)) rfl; simpa using this
  have y2 := h.row.frozen 1
  have hw : IntKind.i64.wrap ((d : Int) + 1 - 1) = (d : Int) := by rw [IntWalk.i64_in _ (by omega)]; omega
  clear h
  go_enter Tryd.func24, Tryd.ntmps24
  go_wp2_with fail
  first | go_end0 | (simp only [Exit.inBlock, Exit.then]; refine bodyPost_ret (results_none rfl _ _ _) rfl ?_) | refine bodyPost_ret (results_none rfl _ _ _) rfl ?_
  exact ⟨rfl, rfl⟩

set_option maxRecDepth 100000 in
theorem enter_ok {w : World} {pb g off cap d : Nat} {ts : List Tk} {rm : Int} (h : Ps w pb g off cap ts d rm) (hd : d < 60) :
    Calls Tryd.prog 23 #[.pointer (some ⟨pb, 0, none⟩)] w fun e w' => e = .returned (.tuple #[]) ∧ w' = w.setCell ⟨pb, 1, none⟩ (.int .i64 ((d + 1 : Nat) : Int)) := by
  have y1 : w.cell? ⟨pb, 1, none⟩ = some (.int .i64 (d : Int)) := h.row.cellAt (i := 1) rfl
  have y2 := h.row.frozen 1
  have hn : ¬ (d : Int) = 60 := by omega
  have hw : IntKind.i64.wrap ((d : Int) + 1) = ((d + 1 : Nat) : Int) := by rw [IntWalk.i64_in _ (by omega)]; omega
  clear h
  go_enter Tryd.func23, Tryd.ntmps23
  go_wp2_with fail
  first | go_end0 | (simp only [Exit.inBlock, Exit.then]; refine bodyPost_ret (results_none rfl _ _ _) rfl ?_) | refine bodyPost_ret (results_none rfl _ _ _) rfl ?_
  exact ⟨rfl, rfl⟩

set_option maxRecDepth 100000 in
theorem named_any {w : World} {pb g off cap d : Nat} {ts : List Tk} {rm : Int} (h : Ps w pb g off cap ts d rm) (i : Nat) (hi : i < ts.length) :
    Calls Tryd.prog 25 #[.pointer (some ⟨pb, 0, none⟩), .int .i64 (i : Int)] w fun e w' => e = .returned (.bool (nmT ts i)) ∧ w' = w := by
  have y0 : w.cell? ⟨pb, 0, none⟩ = some (.slice (some ⟨g, off, none⟩) ts.length cap) := h.row.cellAt (i := 0) rfl
  obtain ⟨t, ht⟩ : ∃ t, ts[i]? = some t := ⟨_, List.getElem?_eq_getElem hi⟩
  have z0 := (h.cell ht).1
  have hk : t.kind ≤ 8 := (h.small t (List.mem_of_getElem? ht)).2.2.1
  have hii : (i : Int) < (ts.length : Int) := by omega
  have hnm : nmT ts i = (t.kind == 1) := by unfold nmT; rw [ht]
  rw [hnm]
  clear h ht hnm
  by_cases hkk : t.kind = 1
  · have hki : (t.kind : Int) = 1 := by omega
    rw [hki] at z0
    rw [hkk]
    clear hkk hki
    go_enter Tryd.func25, Tryd.ntmps25
    go_wp2_with fail
    go_ret
    exact ⟨rfl, rfl⟩
  · have hki : ((t.kind : Int) == 1) = false := by simp; omega
    have hb : (t.kind == 1) = false := by simpa using hkk
    rw [hb]
    clear hkk hb
    go_enter Tryd.func25, Tryd.ntmps25
    go_wp2_with fail
    go_ret
    exact ⟨rfl, rfl⟩

theorem tok_one (t : Tk) : (tokC t).toArray.all (·.oneCell') = true := all_oneCell_toArray (by intro v hv; simp [tokC] at hv; rcases hv with rfl | rfl | rfl <;> rfl)
theorem str_eq (a : List UInt8) (b : ByteArray) : ((⟨a.toArray⟩ : ByteArray).toList == b.toList) = (a == b.data.toList) := by
  rw [ByteArray.toList_eq, ByteArray.toList_eq]

set_option maxRecDepth 100000 in
set_option maxHeartbeats 1000000 in
theorem stands_any {w : World} {pb g off cap d : Nat} {ts : List Tk} {rm : Int} (h : Ps w pb g off cap ts d rm) (i : Nat) (hi : i < ts.length) (s : ByteArray) :
    Calls Tryd.prog 26 #[.pointer (some ⟨pb, 0, none⟩), .int .i64 (i : Int), .string s] w fun e w' => e = .returned (.bool (stT ts i s.data.toList)) ∧ Below w.heap.size w w' := by
  have y0 : w.cell? ⟨pb, 0, none⟩ = some (.slice (some ⟨g, off, none⟩) ts.length cap) := h.row.cellAt (i := 0) rfl
  obtain ⟨t, ht⟩ : ∃ t, ts[i]? = some t := ⟨_, List.getElem?_eq_getElem hi⟩
  have HR := Lib.hid (h.toks i t ht)
  have hk : t.kind ≤ 8 := (h.small t (List.mem_of_getElem? ht)).2.2.1
  have hii : (i : Int) < (ts.length : Int) := by omega
  have hst : stT ts i s.data.toList = (t.text == s.data.toList && (t.kind == 4 || t.kind == 2)) := by unfold stT; rw [ht]
  have HIT : Hid ((Tryd.prog.info? 50).map (·.size) = some (tokC t).length) := Lib.hid info_tokp
  obtain ⟨C, hC⟩ : ∃ C, C = (tokC t).toArray := ⟨_, rfl⟩
  have HC := Lib.hid hC
  have HCI : Hid ((Tryd.prog.info? 50).map (·.size) = some C.size) := Lib.hid (by rw [hC, List.size_toArray]; exact info_tokp)
  have HCO : Hid (C.all (·.oneCell') = true) := Lib.hid (by rw [hC]; exact tok_one t)
  have HCS : Hid ((#[.int .u8 0, .string ⟨#[]⟩, .int .i64 0] : Array Value).size = C.size) := Lib.hid (by rw [hC]; rfl)
  obtain ⟨R, hR⟩ : ∃ R, R = stT ts i s.data.toList := ⟨_, rfl⟩
  rw [← hR]
  have HRR := Lib.hid (hR.trans hst)
  clear h ht hst hR
  have hse := str_eq t.text s
  obtain ⟨T, hT⟩ : ∃ T : ByteArray, T = ⟨t.text.toArray⟩ := ⟨_, rfl⟩
  rw [← hT] at hse
  have HT := Lib.hid hT
  obtain ⟨w1, hw1⟩ : ∃ w1, w1 = (w.alloc (.cells #[.int .u8 0, .string ⟨#[]⟩, .int .i64 0] 50)).setRow w.heap.size (tokC t).toArray := ⟨_, rfl⟩
  have P1 : Hid (Has w1 w.heap.size (tokC t) 50) := Lib.hid (by rw [hw1]; exact (Has.new w [.int .u8 0, .string ⟨#[]⟩, .int .i64 0] _).row _)
  have B1 : Hid (Below w.heap.size w w1) := Lib.hid (by rw [hw1]; exact below_setRow ((Below.refl _ _).alloc (Nat.le_refl _) _) (Nat.le_refl _) _)
  have HW := Lib.hid hw1
  have NW : Hid (Has (w.alloc (.cells #[.int .u8 0, .string ⟨#[]⟩, .int .i64 0] 50)) w.heap.size [.int .u8 0, .string ⟨#[]⟩, .int .i64 0] 50) := Lib.hid (Has.new w [.int .u8 0, .string ⟨#[]⟩, .int .i64 0] _)
  clear hw1 hT hC hi
  go_enter Tryd.func26, Tryd.ntmps26
  go_upto_region 2 with (first
    | (refine wpList_load_mid rfl 50 _ rfl g (off + i * 3) rfl (tokC t) _ HR.out Tryd.underlying50 rfl HIT.out ?_)
    | (refine wpList_store_row rfl 50 _ _ rfl w.heap.size C rfl (by rw [HC.out]; rfl) 50 _ NW.out HCI.out HCS.out HCO.out ?_))
  rw [HC.out, ← HW.out]
  clear y0 HR HIT NW HW HC HCI HCO HCS hii
  obtain ⟨G, hG⟩ : ∃ G, G = w.heap.size := ⟨_, rfl⟩
  rw [← hG] at P1 B1 ⊢
  have z0 : w1.cell? ⟨G, 0, none⟩ = some (.int .u8 (t.kind : Int)) := P1.out.cellAt (i := 0) rfl
  have z1 : w1.cell? ⟨G, 1, none⟩ = some (.string T) := by rw [HT.out]; exact P1.out.cellAt (i := 1) rfl
  have HG := Lib.hid hG
  clear P1 HT hG
  cases he : (t.text == s.data.toList) with
  | false =>
    obtain rfl : R = false := by rw [HRR.out, he]; rfl
    rw [he] at hse
    clear he HRR
    go_wp2_with fail
    go_ret
    exact ⟨rfl, by rw [← HG.out]; exact B1.out⟩
  | true =>
    rw [he] at hse
    by_cases h4 : t.kind = 4
    · obtain rfl : R = true := by rw [HRR.out, he, h4]; rfl
      rw [h4] at z0
      clear h4 he HRR
      go_wp2_with fail
      go_ret
      exact ⟨rfl, by rw [← HG.out]; exact B1.out⟩
    · by_cases h2 : t.kind = 2
      · obtain rfl : R = true := by rw [HRR.out, he, h2]; rfl
        rw [h2] at z0
        clear h4 h2 he HRR
        go_wp2_with fail
        go_ret
        exact ⟨rfl, by rw [← HG.out]; exact B1.out⟩
      · have k4 : ((t.kind : Int) == 4) = false := by simp; omega
        have k2 : ((t.kind : Int) == 2) = false := by simp; omega
        obtain rfl : R = false := by rw [HRR.out, he]; simp [h4, h2]
        clear h4 h2 he HRR
        go_wp2_with fail
        go_ret
        exact ⟨rfl, by rw [← HG.out]; exact B1.out⟩

set_option maxRecDepth 100000 in
set_option maxHeartbeats 2000000 in
theorem take_any {w : World} {pb g off cap d : Nat} {t : Tk} {r : List Tk} {rm : Int} (h : Ps w pb g off cap (t :: r) d rm) (hk : t.kind ≠ 0) :
    Calls Tryd.prog 43 #[.pointer (some ⟨pb, 0, none⟩)] w fun e w' => e = .returned (.agg (tokC t).toArray) ∧ But w.heap.size pb w w' ∧ Ps w' pb g (off + 3) (cap - 1) r d rm := by
  have y0 : w.cell? ⟨pb, 0, none⟩ = some (.slice (some ⟨g, off, none⟩) (t :: r).length cap) := h.row.cellAt (i := 0) rfl
  have fz := h.row.frozen 0
  have hlt := h.row.lt
  have HR : Hid (w.rangeAt g off (tokC t)) := Lib.hid (by have := h.toks 0 t rfl; simpa using this)
  have hr := h.room
  rw [List.length_cons] at hr y0
  have HH := Lib.hid h
  have HIT : Hid ((Tryd.prog.info? 50).map (·.size) = some (tokC t).length) := Lib.hid info_tokp
  obtain ⟨C, hC⟩ : ∃ C, C = (tokC t).toArray := ⟨_, rfl⟩
  have HC := Lib.hid hC
  have HCI : Hid ((Tryd.prog.info? 50).map (·.size) = some C.size) := Lib.hid (by rw [hC, List.size_toArray]; exact info_tokp)
  have HCO : Hid (C.all (·.oneCell') = true) := Lib.hid (by rw [hC]; exact tok_one t)
  obtain ⟨Z, hZ⟩ : ∃ Z : List Value, Z = [.int .u8 0, .string ⟨#[]⟩, .int .i64 0] := ⟨_, rfl⟩
  have HZ := Lib.hid hZ
  have HCS : Hid (Z.toArray.size = C.size) := Lib.hid (by rw [hC, hZ]; rfl)
  obtain ⟨n, hn⟩ : ∃ n, n = r.length := ⟨_, rfl⟩
  rw [← hn] at y0 hr
  have HN := Lib.hid hn
  have hcp : (cap : Int) ≥ 1 := by omega
  have hc1 : ¬ cap = 1 := by have := (h.ends.tail hk).pos; omega
  have hgl := h.lt
  have HGL := Lib.hid hgl
  clear h hC hZ hn hgl
  go_enter Tryd.func43, Tryd.ntmps43
  go_upto_region 1 with fail
  obtain ⟨G, hG⟩ : ∃ G, G = w.heap.size := ⟨_, rfl⟩
  rw [← hG]
  obtain ⟨x1, hx1⟩ : ∃ x, x = w.alloc (.cells #[.int .u8 0, .string ⟨#[]⟩, .int .i64 0] 50) := ⟨_, rfl⟩
  rw [← hx1]
  have e1 : x1.heap.size = G + 1 := by rw [hx1, hG]; simp
  have E1 := Lib.hid e1
  have P1 : Hid (Has x1 G Z 50) := Lib.hid (by rw [hx1, hG, HZ.out]; exact Has.new w [.int .u8 0, .string ⟨#[]⟩, .int .i64 0] _)
  have R1 : Hid (Has x1 pb [.slice (some ⟨g, off, none⟩) (n + 1) cap, .int .i64 (d : Int), .int .i64 rm] 38) := Lib.hid (by
    rw [hx1, HN.out]; have := HH.out.row; rw [List.length_cons] at this; exact this.alloc _)
  have HR1 : Hid (x1.rangeAt g off (tokC t)) := Lib.hid (by rw [hx1]; exact World.rangeAt_alloc HR.out _)
  have B1 : Hid (Below G w x1) := Lib.hid (by rw [hx1, hG]; exact (Below.refl _ _).alloc (Nat.le_refl _) _)
  obtain ⟨x2, hx2⟩ : ∃ x, x = (x1.alloc (.cells #[.int .u8 0, .string ⟨#[]⟩, .int .i64 0] 50)).setRow (G + 1) C := ⟨_, rfl⟩
  have NW : Hid (Has (x1.alloc (.cells #[.int .u8 0, .string ⟨#[]⟩, .int .i64 0] 50)) (G + 1) Z 50) := Lib.hid (by rw [← e1, HZ.out]; exact Has.new x1 [.int .u8 0, .string ⟨#[]⟩, .int .i64 0] _)
  have hpG : pb < G := by rw [hG]; exact hlt
  have P2 : Hid (Has x2 G Z 50) := Lib.hid (by rw [hx2]; exact (P1.out.alloc _).rowOther (by omega) _)
  have Q2 : Hid (Has x2 (G + 1) (tokC t) 50) := Lib.hid (by rw [hx2, HC.out]; exact NW.out.row _)
  have R2 : Hid (Has x2 pb [.slice (some ⟨g, off, none⟩) (n + 1) cap, .int .i64 (d : Int), .int .i64 rm] 38) := Lib.hid (by rw [hx2]; exact (R1.out.alloc _).rowOther (by omega) _)
  have B2 : Hid (Below G w x2) := Lib.hid (by rw [hx2]; exact below_setRow (B1.out.alloc (by rw [e1]; omega) _) (by omega) _)
  have HX2 := Lib.hid hx2
  have HG := Lib.hid hG
  have HPG := Lib.hid hpG
  have q0 : x1.cell? ⟨pb, 0, none⟩ = some (.slice (some ⟨g, off, none⟩) (n + 1) cap) := R1.out.cellAt (i := 0) rfl
  clear hx1 hx2 hG hlt hpG B1 y0 fz
  go_upto_region 2 with (first
    | (refine wpList_load_mid rfl 50 _ rfl g off rfl (tokC t) _ HR1.out Tryd.underlying50 rfl HIT.out ?_)
    | (refine wpList_store_row rfl 50 _ _ rfl (G + 1) C rfl (by rw [HC.out]; rfl) 50 _ NW.out HCI.out HCS.out HCO.out ?_))
  rw [← HX2.out]
  have q2 : x2.cell? ⟨pb, 0, none⟩ = some (.slice (some ⟨g, off, none⟩) (n + 1) cap) := R2.out.cellAt (i := 0) rfl
  have f2 := R2.out.frozen 0
  clear NW HX2 R1 HR1 P1 q0 e1 HR
  go_upto_region 3 with fail
  obtain ⟨x3, hx3⟩ : ∃ x, x = x2.setCell ⟨pb, 0, none⟩ (.slice (some ⟨g, off + 3, none⟩) n (cap - 1)) := ⟨_, rfl⟩
  rw [← hx3]
  have P3 : Hid (Has x3 G Z 50) := Lib.hid (by rw [hx3]; exact P2.out.setOther (a := ⟨pb, 0, none⟩) (by have := HPG.out; show G ≠ pb; omega) _)
  have Q3 : Hid (Has x3 (G + 1) (tokC t) 50) := Lib.hid (by rw [hx3]; exact Q2.out.setOther (a := ⟨pb, 0, none⟩) (by have := HPG.out; show G + 1 ≠ pb; omega) _)
  have S3 : Hid (Ps x3 pb g (off + 3) (cap - 1) r d rm) := Lib.hid (by
    have := ((HH.out.later (by rw [← HG.out]; exact B2.out)).took hk)
    rw [hx3, HN.out]; exact this)
  have B3 : Hid (But G pb w x3) := Lib.hid (by rw [hx3]; exact (But.of_below B2.out).setB 0 _)
  have HCQ : Hid (x3.heap[G + 1]? = some (.cells C 50 (0, 0))) := Lib.hid (by rw [HC.out]; exact Q3.out)
  clear hx3 P2 Q2 R2 B2 q2 f2 Q3
  go_wp2_with (first
    | (refine wpList_load_row rfl 50 _ rfl (G + 1) rfl 50 C (0, 0) _ HCQ.out Tryd.underlying50 rfl HCI.out ?_)
    | (refine wpList_store_row rfl 50 _ _ rfl G C rfl rfl 50 _ P3.out HCI.out HCS.out HCO.out ?_))
  refine bodyPost_ret (results_cell_row (fn := Tryd.f43) (p := 2) (ty := 50) Tryd.results43 _ _ G 50 C (0, 0) _ rfl (setRow_heap _ _ _ _ _ _ P3.out) Tryd.underlying50 rfl HCI.out) rfl ?_
  refine ⟨by rw [HC.out], ?_, ?_⟩
  · rw [← HG.out]; exact B3.out.setRow (.inl (Nat.le_refl _)) _
  · exact S3.out.laterB (below_setRow (Below.refl G x3) (Nat.le_refl _) _) HPG.out (by rw [HG.out]; exact HGL.out)
end Go.Proofs.YtnajafnbickiiaaDoor
