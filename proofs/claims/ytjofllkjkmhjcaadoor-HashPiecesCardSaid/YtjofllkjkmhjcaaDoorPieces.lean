/-
  The walk of the law HashPieces.
-/
import Derived.Test.YtjofllkjkmhjcaaDoorRSum
import Derived.Test.YtjofllkjkmhjcaaDoorCutsWalk
import Derived.Test.YtjofllkjkmhjcaaDoorOpenL
import Derived.Deep.RegionHeld3
namespace Go.Proofs.YtjofllkjkmhjcaaDoor
open Go.RowKit
set_option linter.unusedVariables false

def catL (ls : List (List Nat)) (i : Nat) : List Nat := (ls.take i).flatten

theorem catL_succ (ls : List (List Nat)) (i : Nat) (hi : i < ls.length) : catL ls (i + 1) = catL ls i ++ ls.getD i [] := by
  unfold catL
  rw [List.take_succ_eq_append_getElem hi, List.flatten_append]
  simp only [List.flatten_cons, List.flatten_nil, List.append_nil]
  congr 1
  simp [List.getD, hi]

theorem catL_small {w : World} {a : Option Addr} {n cap : Nat} {ls : List (List Nat)} (h : IsNN w a n cap ls) (i : Nat) (hi : i ≤ n) : ∀ x ∈ catL ls i, x < 256 := by
  intro x hx
  unfold catL at hx
  obtain ⟨l, hl, hxl⟩ := List.mem_flatten.1 hx
  obtain ⟨j, hj, rfl⟩ := List.mem_iff_getElem.1 hl
  simp only [List.getElem_take] at hxl
  have hjn : j < n := by have := hj; simp at this; omega
  rcases h.at_ with h0 | ⟨b, off, _, _, hall⟩
  · omega
  · obtain ⟨ai, ni, ci, _, hI⟩ := hall j hjn
    have e : ls.getD j [] = ls[j]'(by have := h.length; omega) := by simp [List.getD, show j < ls.length by have := h.length; omega]
    rw [e] at hI
    exact hI.small x hxl

set_option maxRecDepth 100000 in
set_option maxHeartbeats 1000000 in
theorem pieces_far (w : World) (a : Option Addr) (n cap : Nat) (h : 20 < n) (hl : LaidW w) :
    Calls Tryd.prog 4 #[.slice a n cap] w fun e w' => e = .returned (.bool true) ∧ Below w.heap.size w w' := by
  have HL := Lib.hid hl
  have hn : (20 : Int) < (n : Int) := by omega
  have hnot : ∀ (x : Bool) (w : World), (Op.unary .not (.bool x)).run Tryd.prog w = .ok (.bool (!x)) w := fun _ _ => rfl
  clear hl
  go_enter Tryd.func4, Tryd.ntmps4
  go_wp2_with fail
  refine (awake_any w HL.out).mono ?_
  rintro e w1 ⟨rfl, b1⟩
  have HL1 := Lib.hid (HL.out.later b1)
  go_wp2_with fail
  refine (awake_any w1 HL1.out).mono ?_
  rintro e w2 ⟨rfl, b2⟩
  go_wp2_with fail
  go_ret
  exact ⟨rfl, b1.trans (b2.mono b1.size)⟩

/-- In the middle of a round: the hasher, all bytes so far, the words. -/
structure Mid (w0 : World) (g P5 : Nat) (M : List Nat) (v : Value) (w' : World) : Prop where
  has : ∃ L, Has w' g L 61 ∧ Took L M
  own : w'.ownsRow (P5 + 1) 5 1 v M.length (M.map byv)
  words : Has w' P5 (WKL.map wv) 34
  below : Below w0.heap.size w0 w'
  size : P5 + 1 ≤ w'.heap.size

theorem Mid.drew {w0 : World} {g P5 : Nat} {M : List Nat} {v : Value} {w' : World} (h : Mid w0 g P5 M v w') : Mid w0 g P5 M v w'.drew := ⟨h.has, h.own, h.words, h.below.drew, h.size⟩
theorem Mid.range {w0 : World} {g P5 : Nat} {M : List Nat} {v : Value} {w' : World} (h : Mid w0 g P5 M v w') : w'.rangeAt P5 0 (WKL.map wv) := fun j u hj => by rw [Nat.zero_add]; exact h.words.cellAt hj

theorem mid_sum {w0 : World} {g P5 : Nat} {M : List Nat} {v : Value} {W : World} (hl : Hid (LaidW w0)) (h1 : 1 < g) (hs : w0.heap.size ≤ g) (hg : g < P5) (hm : Mid w0 g P5 M v W) :
    Calls Tryd.prog 14 #[.pointer (some ⟨g, 0, none⟩)] W fun e w' => e = .returned (.agg ((dig M).map byv).toArray) ∧ Mid w0 g P5 M v w' := by
  obtain ⟨L, hx, ht⟩ := hm.has
  refine (sum_took g L M W hx ht (hl.out.later hm.below) h1).mono fun e w' ⟨he, hx', hb⟩ => ⟨he, ⟨_, hx', ht.rowD⟩, ownsRow_but hm.own hb (by omega), hm.words.but hb (by have := hm.size; omega) (by omega), hm.below.trans ((hb.mono hm.below.size).below hs), Nat.le_trans hm.size hb.size⟩

theorem mid_rof {w0 : World} {g P5 : Nat} {M : List Nat} {a : Option Addr} {n cap : Nat} {W : World} (hM : ∀ x ∈ M, x < 256) (hn : M.length = n) (hlt : n ≤ 1099511627776) (hs : w0.heap.size ≤ g) (hg : g < P5) (hm : Mid w0 g P5 M (.slice a n cap) W) :
    Calls Tryd.prog 15 #[.agg (WKL.map wv).toArray, .slice a n cap] W fun e w' => e = .returned (.agg ((dig M).map byv).toArray) ∧ Mid w0 g P5 M (.slice a n cap) w' := by
  obtain ⟨a', c', hv, hI, _⟩ := isN_of_owns hM hm.own
  simp only [Value.slice.injEq] at hv
  obtain ⟨rfl, _, rfl⟩ := hv
  rw [hn] at hI
  obtain ⟨L, hx, ht⟩ := hm.has
  refine (rof_n a n cap M W hI hlt).mono fun e w' ⟨he, hb⟩ => ⟨he, ⟨L, hx.below hb hx.lt, ht⟩, ownsRow_but hm.own (But.of_below (b := 0) hb) (by omega), hm.words.below hb hm.words.lt, hm.below.trans (hb.mono hm.below.size), Nat.le_trans hm.size hb.size⟩

set_option maxRecDepth 100000 in
theorem mid_len {w0 : World} {g P5 : Nat} {M : List Nat} {v : Value} {W : World} (hm : Mid w0 g P5 M v W) :
    Calls Tryd.prog 16 #[.pointer (some ⟨g, 0, none⟩)] W fun e w' => e = .returned (.int .u64 (M.length : Int)) ∧ w' = W := by
  obtain ⟨L, hx, S, T, hH, _, _⟩ := hm.has
  have c := hx.cellAt hH.num
  clear hm hx hH
  go_enter Tryd.func16, Tryd.ntmps16
  go_wp2_with fail
  go_ret
  exact ⟨rfl, rfl⟩

theorem Mid.range' {w0 : World} {g P5 : Nat} {M : List Nat} {v : Value} {w' : World} {WL : List Value} (h : Mid w0 g P5 M v w') (e : WL = WKL.map wv) : w'.rangeAt P5 0 WL := by rw [e]; exact h.range

theorem mid_sumD {w0 : World} {g P5 : Nat} {M : List Nat} {v : Value} {W : World} {DG : Array Value} (hD : Hid (DG = ((dig M).map byv).toArray)) (hl : Hid (LaidW w0)) (h1 : 1 < g) (hs : w0.heap.size ≤ g) (hg : g < P5) (hm : Mid w0 g P5 M v W) :
    Calls Tryd.prog 14 #[.pointer (some ⟨g, 0, none⟩)] W fun e w' => e = .returned (.agg DG) ∧ Mid w0 g P5 M v w' := by
  rw [hD.out]; exact mid_sum hl h1 hs hg hm

theorem mid_rofD {w0 : World} {g P5 : Nat} {M : List Nat} {a : Option Addr} {n cap : Nat} {W : World} {DG : Array Value} {WL : List Value} (hW : Hid (WL = WKL.map wv)) (hD : Hid (DG = ((dig M).map byv).toArray)) (hM : ∀ x ∈ M, x < 256) (hn : M.length = n) (hlt : n ≤ 1099511627776) (hs : w0.heap.size ≤ g) (hg : g < P5) (hm : Mid w0 g P5 M (.slice a n cap) W) :
    Calls Tryd.prog 15 #[.agg WL.toArray, .slice a n cap] W fun e w' => e = .returned (.agg DG) ∧ Mid w0 g P5 M (.slice a n cap) w' := by
  rw [hD.out, hW.out]; exact mid_rof hM hn hlt hs hg hm

theorem mid_lenD {w0 : World} {g P5 : Nat} {M : List Nat} {v : Value} {n : Nat} {W : World} (hn : M.length = n) (hm : Mid w0 g P5 M v W) :
    Calls Tryd.prog 16 #[.pointer (some ⟨g, 0, none⟩)] W fun e w' => e = .returned (.int .u64 (n : Int)) ∧ Mid w0 g P5 M v w' := by
  rw [← hn]; exact (mid_len hm).mono fun e w' ⟨he, hw⟩ => ⟨he, hw ▸ hm⟩

set_option maxRecDepth 100000 in
set_option maxHeartbeats 20000000 in
theorem pieces_near (w : World) (a : Option Addr) (n cap : Nat) (ls : List (List Nat)) (hA : IsNN w a n cap ls) (h : n ≤ 20) (hl : LaidW w) :
    Calls Tryd.prog 4 #[.slice a n cap] w fun e w' => e = .returned (.bool true) ∧ Below w.heap.size w w' := by
  obtain ⟨i0, hi, hz0, hz1, hz2⟩ := info_parts8 info_u8
  have HI := Lib.hid hi
  have HZ0 := Lib.hid hz0
  have HZ1 := Lib.hid hz1
  have HZ2 := Lib.hid hz2
  have HL := Lib.hid hl
  have HA := Lib.hid hA
  have hn : ¬ (20 : Int) < (n : Int) := by omega
  have hnot : ∀ (x : Bool) (w : World), (Op.unary .not (.bool x)).run Tryd.prog w = .ok (.bool (!x)) w := fun _ _ => rfl
  have hz : ∀ w : World, (zeroValue 34).run Tryd.prog w = .ok (.agg ((List.replicate 72 0).map wv).toArray) w := fun w => by kernel_rfl
  obtain ⟨Z, hZ⟩ : ∃ Z, Z = ((List.replicate 72 0).map wv).toArray := ⟨_, rfl⟩
  rw [← hZ] at hz
  have hZl : Z.size = (WKL.map wv).toArray.size := by rw [hZ]; rfl
  have one : (WKL.map wv).toArray.all (·.oneCell') = true := by
    refine all_oneCell_toArray ?_
    intro v hv
    obtain ⟨x, _, rfl⟩ := List.mem_map.1 hv
    rfl
  have HZL := Lib.hid hZl
  have HONE := Lib.hid one
  have IW := Lib.hid info_WK
  clear hl hA hi hz0 hz1 hz2 hZ hZl one
  go_enter Tryd.func4, Tryd.ntmps4
  go_wp2_with fail
  refine (awake_any w HL.out).mono ?_
  rintro e w1 ⟨rfl, b1⟩
  have HL1 := Lib.hid (HL.out.later b1)
  go_wp2_with fail
  refine (new_any w1 HL1.out).mono ?_
  rintro e w2 ⟨rfl, hw2⟩
  have x2 : Has w2 w1.heap.size newRow 61 := by rw [hw2]; exact Has.new w1 _ _
  have b2 : Below w.heap.size w w2 := by rw [hw2]; exact b1.alloc b1.size _
  have s2 : w2.heap.size = w1.heap.size + 1 := by rw [hw2]; simp
  have hs1 := b1.size
  obtain ⟨g, hg⟩ : ∃ g, g = w1.heap.size := ⟨_, rfl⟩
  rw [← hg] at x2 s2 hs1 ⊢
  have HL2 := Lib.hid (HL.out.later b2)
  have h1 : 1 < g := by have := HL.out.two; omega
  clear hw2 hg b1 HL1
  go_wp2_with fail
  refine (make_any w2).mono ?_
  rintro e w3 ⟨rfl, b3⟩
  have x3 := x2.below b3 (by omega)
  have bb3 : Below w.heap.size w w3 := b2.trans (b3.mono (by omega))
  have s3 := b3.size
  obtain ⟨WK, hWK⟩ : ∃ WK, WK = (WKL.map wv).toArray := ⟨_, rfl⟩
  rw [← hWK] at HZL HONE IW ⊢
  have HWK := Lib.hid hWK
  clear hWK b2 b3 x2 HL2
  go_upto_block 0 with (refine wpList_store_row rfl 34 _ _ rfl w3.heap.size WK rfl rfl 34 _ (heap_alloc_last _ _) IW.out HZL.out HONE.out ?_)
  obtain ⟨w4, hw4⟩ : ∃ w4, w4 = (w3.alloc (.cells Z 34)).setRow w3.heap.size WK := ⟨_, rfl⟩
  have hw4' : w4 = w3.alloc (.cells WK 34) := by rw [hw4]; exact World.setRow_alloc_new w3 _ _ _
  rw [← hw4]
  have x4 : Hid (Has w4 g newRow 61) := Lib.hid (by rw [hw4']; exact x3.alloc _)
  have K4 : Hid (Has w4 w3.heap.size (WKL.map wv) 34) := Lib.hid (by rw [hw4', HWK.out]; exact Has.new w3 _ _)
  have B4 : Hid (Below w.heap.size w w4) := Lib.hid (by rw [hw4']; exact bb3.alloc (by omega) _)
  obtain ⟨P5, hP5⟩ : ∃ P5, P5 = w3.heap.size := ⟨_, rfl⟩
  have s4 : w4.heap.size = P5 + 1 := by rw [hw4', hP5]; simp
  rw [← hP5] at K4 s3 ⊢
  clear hw4 hw4' x3 bb3 hP5 hz
  go_wp2_with fail
  go_loopw [4, 6] (fun v ii wr => ∃ (i : Nat) (L' : List Value), i ≤ n ∧ ii = .int .i64 (i : Nat) ∧ Has wr g L' 61 ∧ Took L' (catL ls i) ∧ wr.ownsRow (P5 + 1) 5 1 v (catL ls i).length ((catL ls i).map byv) ∧ Has wr P5 (WKL.map wv) 34 ∧ Below w.heap.size w wr ∧ P5 + 1 ≤ wr.heap.size ∧ (catL ls i).length ≤ 5000 * i) (fun _ ii _ => n - (intOf ii).toNat)
  case atStart => exact ⟨0, newRow, Nat.zero_le _, rfl, x4.out, took_new, World.ownsRow_nil _ _ _ _, K4.out, B4.out, by omega, by simp [catL]⟩
  case round =>
    clear x4 K4 B4
    obtain ⟨i, L', hi, rfl, hx, ht, hown, hK, hbel, hsz, hlen⟩ := hrel
    obtain ⟨av, cv, rfl, hIv, _⟩ := isN_of_owns (catL_small HA.out i hi) hown
    by_cases hlt : i < n
    · rcases HA.out.at_ with h0 | ⟨b, off, rfl, hb, hall⟩
      · omega
      obtain ⟨ai, ni, ci, hcell, hIi⟩ := hall i hlt
      have hcr : wr.cell? ⟨b, off + i, none⟩ = some (.slice ai ni ci) := (hbel.cell (p := ⟨b, off + i, none⟩) hb).trans hcell
      have hcs := catL_succ ls i (by have := HA.out.length; omega)
      have hil : (i : Int) < (n : Int) := by omega
      have HX := Lib.hid hx
      have HT := Lib.hid ht
      have HOW := Lib.hid hown
      have HK := Lib.hid hK
      have HBE := Lib.hid hbel
      have HII := Lib.hid hIi
      have HCS := Lib.hid hcs
      have HCELL := Lib.hid hcell
      clear hx ht hown hK hbel hIi hcs hIv hcell hall
      by_cases h5 : 5000 < ni
      · have h5i : (5000 : Int) < (ni : Int) := by omega
        go_wp2_with fail
        go_ret
        exact ⟨rfl, HBE.out⟩
      · have h5i : ¬ (5000 : Int) < (ni : Int) := by omega
        go_wp2_with fail
        refine (write_n g ai ni ci L' (catL ls i) (ls.getD i []) wr HX.out HT.out (HII.out.later HBE.out) (fun h0 => HII.out.old h0 hs1) (by omega) (HL.out.later HBE.out) h1).mono ?_
        rintro e w5 ⟨rfl, L5, x5, t5, bb5⟩
        have s5 := bb5.size
        have own5 := Lib.hid (ownsRow_but HOW.out bb5 (by omega))
        have K5 := HK.out.but bb5 (by omega) (by omega)
        have b5 : Below w.heap.size w w5 := HBE.out.trans ((bb5.mono HBE.out.size).below hs1)
        have c5 : w5.cell? ⟨b, off + i, none⟩ = some (.slice ai ni ci) := (b5.cell (p := ⟨b, off + i, none⟩) hb).trans HCELL.out
        have I5 := Lib.hid (HII.out.later b5)
        rw [← HCS.out] at t5
        have T5 := Lib.hid t5
        have X5 := Lib.hid x5
        have KK5 := Lib.hid K5
        have B5 := Lib.hid b5
        have hbb : (catL ls i).length + ni ≤ 140737488355328 := by omega
        have HBB := Lib.hid hbb
        clear hcr t5 x5 K5 b5 bb5 hbb
        go_upto_region 13 with (at_builtin; refine wpList_append_nat rfl (.tmp 35) (.tmp 39) 22 rfl (P5 + 1) 5 i0 Tryd.underlying22 HI.out HZ0.out HZ1.out HZ2.out (.slice av (catL ls i).length cv) (catL ls i).length (catL ls i) rfl own5.out ai ni ci (ls.getD i []) rfl I5.out HBB.out (by omega) ?_; intro v6 w6 hown6 hgrow6)
        rw [← HCS.out] at hown6
        have hM : (catL ls (i + 1)).length = (catL ls i).length + ni := by rw [HCS.out, List.length_append, HII.out.length]
        obtain ⟨m, hm⟩ : ∃ m, m = (catL ls i).length + ni := ⟨_, rfl⟩
        rw [← hm] at hown6 hM
        have hg6 : Below (P5 + 1) w5 w6 := (Below.refl _ _).grown hgrow6 (by omega) (fun k hk => (own5.out.lt k hk).1)
        have MID : Mid w g P5 (catL ls (i + 1)) v6 w6 := ⟨⟨L5, X5.out.below hg6 (by omega), T5.out⟩, by rw [hM]; exact hown6, KK5.out.below hg6 (by omega), B5.out.trans (hg6.mono (by omega)), Nat.le_trans (by omega) hg6.size⟩
        obtain ⟨a6, c6, rfl, _, _⟩ := isN_of_owns (catL_small HA.out (i + 1) (by omega)) hown6
        have hm5 : m ≤ 5000 * (i + 1) := by omega
        have HSM := Lib.hid (catL_small HA.out (i + 1) (by omega))
        have HMM := Lib.hid hM
        have hm40 : m ≤ 1099511627776 := by omega
        have HM40 := Lib.hid hm40
        have hgP : g < P5 := by omega
        have MM := Lib.hid MID
        obtain ⟨WL, hWL⟩ : ∃ WL, WL = WKL.map wv := ⟨_, rfl⟩
        obtain ⟨DG, hDG⟩ : ∃ DG, DG = ((dig (catL ls (i + 1))).map byv).toArray := ⟨_, rfl⟩
        have hiW : (Tryd.prog.info? 34).map (·.size) = some WL.length := by rw [hWL]; kernel_rfl
        have huW := Tryd.underlying34
        have hgd := guard_32
        have heq : ∀ W, (Op.equalIn 10000 24 (.agg DG) (.agg DG)).run Tryd.prog W = .ok true W := by
          intro W
          have := eql_32 W (dig (catL ls (i + 1))) (dig (catL ls (i + 1))) (dig_length _) (dig_length _)
          rw [← hDG] at this
          simpa using this
        have HWL := Lib.hid hWL
        have HDG := Lib.hid hDG
        have hmi : (0 : Int) ≤ (m : Int) ∧ (m : Int) ≤ 1099511627776 := by omega
        have hm64 : IntKind.u64.wrap (m : Int) = (m : Int) := by
          simp [IntKind.wrap, IntKind.signed, IntKind.bits]
          omega
        clear hm hown6 hgrow6 hg6 hM MID hm40 hWL hDG
        refine wp_region_held_drew (S := (fun w' => w'.rangeAt P5 0 WL ∧ Mid w g P5 (catL ls (i + 1)) (.slice a6 m c6) w')) (by kernel_rfl) ⟨MM.out.drew.range' HWL.out, MM.out.drew⟩ (fun hHeld => ?_)
        refine wpAnyH_take (i := 0) (oi := { dst := some 41, op := Op.move (Operand.tmp 3), type := 28, pos := "law.go:37", after := #[], guard := none }) (v := .pointer (some ⟨g, 0, none⟩)) rfl (by kernel_rfl) (by kernel_rfl) (by kernel_rfl) (fun _ _ _ h => h)
          (Or.inl ⟨by rfl, by intro w hSw; clear hSw; go_simp⟩) hHeld ?_
        try simp only [Act.put, List.setIfInBounds_toArray, List.set_cons_zero, List.set_cons_succ]
        refine wpAnyH_take (i := 2) (oi := { dst := some 43, op := Op.load 34 (Operand.tmp 5), type := 34, pos := "law.go:37", after := #[], guard := none }) rfl (by kernel_rfl) (by kernel_rfl) (by kernel_rfl) (fun _ _ _ h => h)
          (yieldsIf_load_mid (by rfl) 34 (.tmp 5) rfl P5 0 rfl WL _ (fun _ h => h.1) huW rfl hiW) hHeld ?_
        try simp only [Act.put, List.setIfInBounds_toArray, List.set_cons_zero, List.set_cons_succ]
        refine wpAnyH_take (i := 3) (oi := { dst := some 44, op := Op.move (Operand.tmp 4), type := 22, pos := "law.go:37", after := #[], guard := none }) (v := .slice a6 m c6) rfl (by kernel_rfl) (by kernel_rfl) (by kernel_rfl) (fun _ _ _ h => h)
          (Or.inl ⟨by rfl, by intro w hSw; clear hSw; go_simp⟩) hHeld ?_
        try simp only [Act.put, List.setIfInBounds_toArray, List.set_cons_zero, List.set_cons_succ]
        refine wpAnyH_ready (rs := [1]) (by kernel_rfl) (by simp) ?_
        refine AllReadyH.cons (o := { dst := some 42, op := Op.call { callee := Callee.value (Operand.func 14), args := #[Operand.tmp 41], argTypes := #[28] }, type := 24, pos := "law.go:37", after := #[{ on := 0, ground := Ground.data }], guard := none }) rfl (fun K hK => ?_) AllReadyH.nil
        go_simp
        refine (mid_sumD HDG HL h1 hs1 hgP hHeld.2).mono ?_
        rintro e w9 ⟨rfl, hm9⟩
        go_wp2_with fail
        refine hK.out _ _ ⟨hm9.range' HWL.out, hm9⟩ (fun hHeld2 => ?_)
        clear hK K hHeld
        try simp only [Act.put, List.setIfInBounds_toArray, List.set_cons_zero, List.set_cons_succ]
        refine wpAnyH_ready (rs := [4]) (by kernel_rfl) (by simp) ?_
        refine AllReadyH.cons (o := { dst := some 45, op := Op.call { callee := Callee.value (Operand.func 15), args := #[Operand.tmp 43, Operand.tmp 44], argTypes := #[34, 22] }, type := 24, pos := "law.go:37", after := #[{ on := 2, ground := Ground.data }, { on := 3, ground := Ground.data }, { on := 1, ground := Ground.chain }], guard := none }) rfl (fun K hK => ?_) AllReadyH.nil
        go_simp
        refine (mid_rofD HWL HDG HSM.out HMM.out HM40.out hs1 hgP hHeld2.2).mono ?_
        rintro e w9 ⟨rfl, hm9⟩
        go_wp2_with fail
        refine hK.out _ _ ⟨hm9.range' HWL.out, hm9⟩ (fun hHeld3 => ?_)
        clear hK K hHeld2
        try simp only [Act.put, List.setIfInBounds_toArray, List.set_cons_zero, List.set_cons_succ]
        refine wpAnyH_take (i := 5) (oi := { dst := some 46, op := Op.binOp BinOp.neq 24 (Operand.tmp 42) (Operand.tmp 45) 24, type := 4, pos := "law.go:37", after := #[{ on := 1, ground := Ground.data }, { on := 4, ground := Ground.data }], guard := none }) (v := .bool false) rfl (by kernel_rfl) (by kernel_rfl) (by kernel_rfl) (fun _ _ _ h => h)
          (Or.inl ⟨by rfl, by intro w hSw; clear hSw; go_simp⟩) hHeld3 ?_
        try simp only [Act.put, List.setIfInBounds_toArray, List.set_cons_zero, List.set_cons_succ]
        refine wpAnyH_take (i := 6) (oi := { dst := some 47, op := Op.move (Operand.tmp 46), type := 4, pos := "law.go:37", after := #[{ on := 5, ground := Ground.data }, { on := 4, ground := Ground.chain }], guard := none }) (v := .bool false) rfl (by kernel_rfl) (by kernel_rfl) (by kernel_rfl) (fun _ _ _ h => h)
          (Or.inl ⟨by rfl, by intro w hSw; clear hSw; go_simp⟩) hHeld3 ?_
        try simp only [Act.put, List.setIfInBounds_toArray, List.set_cons_zero, List.set_cons_succ]
        refine wpAnyH_take (i := 7) (oi := { dst := some 48, op := Op.move (Operand.tmp 3), type := 28, pos := "law.go:37", after := #[{ on := 6, ground := Ground.guard }], guard := some (6, false) }) (v := .pointer (some ⟨g, 0, none⟩)) rfl (by kernel_rfl) (by kernel_rfl) (by kernel_rfl) (fun _ _ _ h => h)
          (Or.inl ⟨by rfl, by intro w hSw; clear hSw; go_simp⟩) hHeld3 ?_
        try simp only [Act.put, List.setIfInBounds_toArray, List.set_cons_zero, List.set_cons_succ]
        refine wpAnyH_take (i := 9) (oi := { dst := some 50, op := Op.move (Operand.tmp 4), type := 22, pos := "law.go:37", after := #[{ on := 6, ground := Ground.guard }], guard := some (6, false) }) (v := .slice a6 m c6) rfl (by kernel_rfl) (by kernel_rfl) (by kernel_rfl) (fun _ _ _ h => h)
          (Or.inl ⟨by rfl, by intro w hSw; clear hSw; go_simp⟩) hHeld3 ?_
        try simp only [Act.put, List.setIfInBounds_toArray, List.set_cons_zero, List.set_cons_succ]
        refine wpAnyH_take (i := 10) (oi := { dst := some 51, op := Op.call { callee := Callee.builtin Builtin.len, args := #[Operand.tmp 50], argTypes := #[22] }, type := 3, pos := "law.go:37", after := #[{ on := 9, ground := Ground.data }, { on := 6, ground := Ground.guard }], guard := some (6, false) }) (v := .int .i64 (m : Int)) rfl (by kernel_rfl) (by kernel_rfl) (by kernel_rfl) (fun _ _ _ h => h)
          (Or.inl ⟨by rfl, by intro w hSw; clear hSw; go_simp⟩) hHeld3 ?_
        try simp only [Act.put, List.setIfInBounds_toArray, List.set_cons_zero, List.set_cons_succ]
        refine wpAnyH_take (i := 11) (oi := { dst := some 52, op := Op.convert 3 39 (Operand.tmp 51), type := 39, pos := "law.go:37", after := #[{ on := 10, ground := Ground.data }, { on := 6, ground := Ground.guard }], guard := some (6, false) }) (v := .int .u64 (m : Int)) rfl (by kernel_rfl) (by kernel_rfl) (by kernel_rfl) (fun _ _ _ h => h)
          (Or.inl ⟨by rfl, by intro w hSw; clear hSw; go_simp⟩) hHeld3 ?_
        try simp only [Act.put, List.setIfInBounds_toArray, List.set_cons_zero, List.set_cons_succ]
        refine wpAnyH_ready (rs := [8]) (by kernel_rfl) (by simp) ?_
        refine AllReadyH.cons (o := { dst := some 49, op := Op.call { callee := Callee.value (Operand.func 16), args := #[Operand.tmp 48], argTypes := #[28] }, type := 39, pos := "law.go:37", after := #[{ on := 7, ground := Ground.data }, { on := 6, ground := Ground.chain }, { on := 6, ground := Ground.guard }], guard := some (6, false) }) rfl (fun K hK => ?_) AllReadyH.nil
        go_simp
        refine (mid_lenD HMM.out hHeld3.2).mono ?_
        rintro e w9 ⟨rfl, hm9⟩
        go_wp2_with fail
        refine hK.out _ _ ⟨hm9.range' HWL.out, hm9⟩ (fun hHeld4 => ?_)
        clear hK K hHeld3
        try simp only [Act.put, List.setIfInBounds_toArray, List.set_cons_zero, List.set_cons_succ]
        refine wpAnyH_take (i := 12) (oi := { dst := some 53, op := Op.binOp BinOp.neq 39 (Operand.tmp 49) (Operand.tmp 52) 39, type := 4, pos := "law.go:37", after := #[{ on := 8, ground := Ground.data }, { on := 11, ground := Ground.data }, { on := 6, ground := Ground.guard }], guard := some (6, false) }) (v := .bool false) rfl (by kernel_rfl) (by kernel_rfl) (by kernel_rfl) (fun _ _ _ h => h)
          (Or.inl ⟨by rfl, by intro w hSw; clear hSw; go_simp⟩) hHeld4 ?_
        try simp only [Act.put, List.setIfInBounds_toArray, List.set_cons_zero, List.set_cons_succ]
        refine wpAnyH_take (i := 13) (oi := { dst := some 54, op := Op.pick (Operand.tmp 47) (Operand.const (Value.bool true)) (Operand.tmp 53), type := 4, pos := "law.go:37", after := #[{ on := 6, ground := Ground.data }, { on := 12, ground := Ground.data }], guard := none }) (v := .bool false) rfl (by kernel_rfl) (by kernel_rfl) (by kernel_rfl) (fun _ _ _ h => h)
          (Or.inl ⟨by rfl, by intro w hSw; clear hSw; go_simp⟩) hHeld4 ?_
        try simp only [Act.put, List.setIfInBounds_toArray, List.set_cons_zero, List.set_cons_succ]
        refine wpAnyH_done (by kernel_rfl) ?_ _
        go_wp2_with fail
        go_roundw
        case rel =>
          obtain ⟨⟨L9, hx9, ht9⟩, ho9, hw9, hb9, hz9⟩ := hHeld4.2
          exact ⟨i + 1, L9, by omega, by go_num, hx9, ht9, ho9, hw9, hb9, hz9, by rw [HMM.out]; exact hm5⟩
        case measure => simp [intOf]; omega
    · obtain rfl : i = n := by omega
      have HSM := Lib.hid (catL_small HA.out i (by omega))
      obtain ⟨m, hm⟩ : ∃ m, m = (catL ls i).length := ⟨_, rfl⟩
      rw [← hm] at hown hlen ⊢
      have MID : Mid w g P5 (catL ls i) (.slice av m cv) wr := ⟨⟨L', hx, ht⟩, by rw [← hm]; exact hown, hK, hbel, hsz⟩
      have MM := Lib.hid MID
      have HMM := Lib.hid hm.symm
      have hm40 : m ≤ 1099511627776 := by omega
      have HM40 := Lib.hid hm40
      have hgP : g < P5 := by omega
      obtain ⟨WL, hWL⟩ : ∃ WL, WL = WKL.map wv := ⟨_, rfl⟩
      obtain ⟨DG, hDG⟩ : ∃ DG, DG = ((dig (catL ls i)).map byv).toArray := ⟨_, rfl⟩
      have hiW : (Tryd.prog.info? 34).map (·.size) = some WL.length := by rw [hWL]; kernel_rfl
      have huW := Tryd.underlying34
      have hgd := guard_32
      have heq : ∀ W, (Op.equalIn 10000 24 (.agg DG) (.agg DG)).run Tryd.prog W = .ok true W := by
        intro W
        have := eql_32 W (dig (catL ls i)) (dig (catL ls i)) (dig_length _) (dig_length _)
        rw [← hDG] at this
        simpa using this
      have HWL := Lib.hid hWL
      have HDG := Lib.hid hDG
      clear hm hx ht hown hK hbel hIv MID hm40 hWL hDG
      go_wp2_with fail
      refine wp_region_held_drew (S := (fun w' => w'.rangeAt P5 0 WL ∧ Mid w g P5 (catL ls i) (.slice av m cv) w')) (by kernel_rfl) ⟨MM.out.drew.range' HWL.out, MM.out.drew⟩ (fun hHeld => ?_)
      refine wpAnyH_take (i := 0) (oi := { dst := some 55, op := Op.move (Operand.tmp 3), type := 28, pos := "law.go:41", after := #[], guard := none }) (v := .pointer (some ⟨g, 0, none⟩)) rfl (by kernel_rfl) (by kernel_rfl) (by kernel_rfl) (fun _ _ _ h => h)
        (Or.inl ⟨by rfl, by intro w hSw; clear hSw; go_simp⟩) hHeld ?_
      try simp only [Act.put, List.setIfInBounds_toArray, List.set_cons_zero, List.set_cons_succ]
      refine wpAnyH_take (i := 2) (oi := { dst := some 57, op := Op.load 34 (Operand.tmp 5), type := 34, pos := "law.go:41", after := #[], guard := none }) rfl (by kernel_rfl) (by kernel_rfl) (by kernel_rfl) (fun _ _ _ h => h)
        (yieldsIf_load_mid (by rfl) 34 (.tmp 5) rfl P5 0 rfl WL _ (fun _ h => h.1) huW rfl hiW) hHeld ?_
      try simp only [Act.put, List.setIfInBounds_toArray, List.set_cons_zero, List.set_cons_succ]
      refine wpAnyH_take (i := 3) (oi := { dst := some 58, op := Op.move (Operand.tmp 4), type := 22, pos := "law.go:41", after := #[], guard := none }) (v := .slice av m cv) rfl (by kernel_rfl) (by kernel_rfl) (by kernel_rfl) (fun _ _ _ h => h)
        (Or.inl ⟨by rfl, by intro w hSw; clear hSw; go_simp⟩) hHeld ?_
      try simp only [Act.put, List.setIfInBounds_toArray, List.set_cons_zero, List.set_cons_succ]
      refine wpAnyH_ready (rs := [1]) (by kernel_rfl) (by simp) ?_
      refine AllReadyH.cons (o := { dst := some 56, op := Op.call { callee := Callee.value (Operand.func 14), args := #[Operand.tmp 55], argTypes := #[28] }, type := 24, pos := "law.go:41", after := #[{ on := 0, ground := Ground.data }], guard := none }) rfl (fun K hK => ?_) AllReadyH.nil
      go_simp
      refine (mid_sumD HDG HL h1 hs1 hgP hHeld.2).mono ?_
      rintro e w9 ⟨rfl, hm9⟩
      go_wp2_with fail
      refine hK.out _ _ ⟨hm9.range' HWL.out, hm9⟩ (fun hHeld2 => ?_)
      clear hK K hHeld
      try simp only [Act.put, List.setIfInBounds_toArray, List.set_cons_zero, List.set_cons_succ]
      refine wpAnyH_ready (rs := [4]) (by kernel_rfl) (by simp) ?_
      refine AllReadyH.cons (o := { dst := some 59, op := Op.call { callee := Callee.value (Operand.func 15), args := #[Operand.tmp 57, Operand.tmp 58], argTypes := #[34, 22] }, type := 24, pos := "law.go:41", after := #[{ on := 2, ground := Ground.data }, { on := 3, ground := Ground.data }, { on := 1, ground := Ground.chain }], guard := none }) rfl (fun K hK => ?_) AllReadyH.nil
      go_simp
      refine (mid_rofD HWL HDG HSM.out HMM.out HM40.out hs1 hgP hHeld2.2).mono ?_
      rintro e w9 ⟨rfl, hm9⟩
      go_wp2_with fail
      refine hK.out _ _ ⟨hm9.range' HWL.out, hm9⟩ (fun hHeld3 => ?_)
      clear hK K hHeld2
      try simp only [Act.put, List.setIfInBounds_toArray, List.set_cons_zero, List.set_cons_succ]
      refine wpAnyH_take (i := 5) (oi := { dst := some 60, op := Op.binOp BinOp.eql 24 (Operand.tmp 56) (Operand.tmp 59) 24, type := 4, pos := "law.go:41", after := #[{ on := 1, ground := Ground.data }, { on := 4, ground := Ground.data }], guard := none }) (v := .bool true) rfl (by kernel_rfl) (by kernel_rfl) (by kernel_rfl) (fun _ _ _ h => h)
        (Or.inl ⟨by rfl, by intro w hSw; clear hSw; go_simp⟩) hHeld3 ?_
      try simp only [Act.put, List.setIfInBounds_toArray, List.set_cons_zero, List.set_cons_succ]
      refine wpAnyH_take (i := 6) (oi := { dst := some 2, op := Op.assign (Operand.tmp 60), type := 4, pos := "law.go:41", after := #[{ on := 5, ground := Ground.data }, { on := 4, ground := Ground.chain }, { on := 0, ground := Ground.phase }, { on := 1, ground := Ground.phase }, { on := 2, ground := Ground.phase }, { on := 3, ground := Ground.phase }, { on := 4, ground := Ground.phase }, { on := 5, ground := Ground.phase }], guard := none }) (v := .bool true) rfl (by kernel_rfl) (by kernel_rfl) (by kernel_rfl) (fun _ _ _ h => h)
        (Or.inl ⟨by rfl, by intro w hSw; clear hSw; go_simp⟩) hHeld3 ?_
      try simp only [Act.put, List.setIfInBounds_toArray, List.set_cons_zero, List.set_cons_succ]
      refine wpAnyH_done (by kernel_rfl) ?_ _
      go_wp2_with fail
      go_ret
      exact ⟨rfl, hHeld3.2.below⟩

theorem walk_HashPieces (w : World) (a : Option Addr) (n cap : Nat) (ls : List (List Nat)) (hA : IsNN w a n cap ls) (hl : LaidW w) :
    Calls Tryd.prog 4 #[.slice a n cap] w fun e w' => e = .returned (.bool true) ∧ Below w.heap.size w w' := by
  by_cases h : n ≤ 20
  · exact pieces_near w a n cap ls hA h hl
  · exact pieces_far w a n cap (by omega) hl

end Go.Proofs.YtjofllkjkmhjcaaDoor
