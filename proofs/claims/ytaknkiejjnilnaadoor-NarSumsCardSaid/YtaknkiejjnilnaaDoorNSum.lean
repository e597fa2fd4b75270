/-
  The contract of nar's Sum. Conditions: a tree, and hash's two tables as the program's text lays them.
-/
import Derived.Test.YtaknkiejjnilnaaDoorNGood
import Derived.Test.YtaknkiejjnilnaaDoorNWrite
import Derived.Test.YtaknkiejjnilnaaDoorGF
namespace Go.Proofs.YtaknkiejjnilnaaDoor
open Go.RowKit
set_option linter.unusedVariables false

theorem LaidW.later {w w' : World} (l : LaidW w) (hb : Below w.heap.size w w') : LaidW w' := l.below hb l.two

/-- The bytes of an archive as naturals. -/
def natsT (t : T) : List Nat := (archT t).map UInt8.toNat

theorem isN_of {w : World} {a : Option Addr} {n cap : Nat} {l : List UInt8} (h : IsB w a n cap l) : IsN w a n cap (l.map UInt8.toNat) := by
  refine ⟨by rw [List.length_map]; exact h.length, ?_, h.nil, h.room, ?_⟩
  · rcases h.at_ with h0 | ⟨b, off, rfl, hlt, hc⟩
    · exact .inl h0
    · refine .inr ⟨b, off, rfl, hlt, fun i hi => ?_⟩
      rw [List.length_map] at hi
      have := hc i (by have := h.length; omega)
      rw [this]
      simp [List.getD, hi]
  · intro x hx
    obtain ⟨u, _, rfl⟩ := List.mem_map.1 hx
    exact u.toNat_lt

theorem results_cell_tmp2 {P : Program} {fn : Func} {p u v : Tmp} {ty : TypeId} (h : fn.results = #[.cell p ty, .tmp u, .tmp v]) (tmps : Array Value) (w : World) (g : Nat) (t : TypeId) (cs : Array Value) (fr : Nat × Nat) (d : TypeDesc)
    (hp : tmps.getD p undef = .pointer (some ⟨g, 0, none⟩)) (hg : w.heap[g]? = some (.cells cs t fr))
    (hu : P.underlying ty = some d) (hd : (match d with | .struct _ | .array _ _ => true | _ => false) = true) (hi : (P.info? ty).map (·.size) = some cs.size) :
    (results fn tmps).run P w = .ok (.tuple #[.agg cs, tmps.getD u undef, tmps.getD v undef]) w := by
  have hp' : tmps[p]?.getD undef = .pointer (some ⟨g, 0, none⟩) := by simpa using hp
  simp [results, h, hp', asAddr, run_loadVar_row w g t ty cs fr d hg hu hd hi]

def zeroN : List Nat := List.replicate 32 0

/-- What Sum answers. -/
def SumE (t : T) (e : Ending) : Prop :=
  (sizeT t = none ∧ e = .returned (.tuple #[.agg (zeroN.map byv).toArray, .int .i64 0, .int .i64 3])) ∨
    ((sizeT t).isSome = true ∧ e = .returned (.tuple #[.agg ((dig (natsT t)).map byv).toArray, .int .i64 ((archT t).length : Int), .int .i64 0]))

theorem nsum_ret (wz : World) (g : Nat) (Z R : List Nat) (n k : Int) (tmps : Array Value) (hx : Has wz g (Z.map byv) 29) (hd : R.length = 32) (hp : tmps.getD 2 undef = .pointer (some ⟨g, 0, none⟩)) (h3 : tmps.getD 3 undef = .int .i64 n) (h4 : tmps.getD 4 undef = .int .i64 k) :
    (results Tryd.f6 tmps).run Tryd.prog (wz.setRow g (R.map byv).toArray) = .ok (.tuple #[.agg (R.map byv).toArray, .int .i64 n, .int .i64 k]) (wz.setRow g (R.map byv).toArray) := by
  rw [results_cell_tmp2 (fn := Tryd.f6) (p := 2) (u := 3) (v := 4) (ty := 29) Tryd.results6 tmps _ g 29 (R.map byv).toArray (0, 0) _ hp (setRow_heap _ _ _ _ _ _ hx) Tryd.underlying29 rfl (info_32 R hd), h3, h4]

set_option maxRecDepth 100000 in
set_option maxHeartbeats 8000000 in
theorem nsum_any (n : Nat) (cs : List Value) (t : T) (w : World) (ht : IsT w n cs t) (hl : LaidW w) :
    Calls Tryd.prog 6 #[.agg cs.toArray] w fun e w' => Below w.heap.size w w' ∧ SumE t e := by
  have hI := Lib.hid (infoL (isT_five ht))
  have HT := Lib.hid ht
  have HL := Lib.hid hl
  clear ht hl
  go_enter Tryd.func6, Tryd.ntmps6
  go_upto_region 1 with fail
  rw [zeros32]
  obtain ⟨w0, hw0⟩ : ∃ x, x = w.alloc (.cells cs.toArray 26) := ⟨_, rfl⟩
  have g0 : Has w0 w.heap.size cs 26 := by rw [hw0]; exact Has.new w cs _
  have b0 : Below w.heap.size w w0 := by rw [hw0]; exact (Below.refl _ _).alloc (Nat.le_refl _) _
  have s0 : w0.heap.size = w.heap.size + 1 := by rw [hw0]; simp
  rw [← hw0]
  obtain ⟨w1, hw1⟩ : ∃ x, x = w0.alloc (.cells (zeroN.map byv).toArray 29) := ⟨_, rfl⟩
  have z1 : Has w1 (w.heap.size + 1) (zeroN.map byv) 29 := by rw [hw1, ← s0]; exact Has.new w0 _ _
  have g1 : Has w1 w.heap.size cs 26 := by rw [hw1]; exact g0.alloc _
  have b1 : Below w.heap.size w w1 := by rw [hw1]; exact b0.alloc b0.size _
  rw [show (List.replicate 32 0) = zeroN from rfl, ← hw1]
  obtain ⟨A, hA⟩ : ∃ A, A = w.heap.size + 1 := ⟨_, rfl⟩
  rw [← hA] at z1 ⊢
  have HA := Lib.hid hA
  have H1 := Lib.hid g1
  have Z1 := Lib.hid z1
  have B1 := Lib.hid b1
  clear hw0 hw1 g0 b0 g1 z1 b1 s0 hA
  go_wp2_with (refine wpList_load_row rfl 26 _ rfl w.heap.size rfl 26 cs.toArray (0, 0) _ H1.out Tryd.underlying26 rfl hI.out ?_)
  refine (write_any n cs t w1 (IsT.later B1.out _ _ _ HT.out)).mono ?_
  rintro e w2 ⟨b2, hwp⟩
  have B2 := Lib.hid (B1.out.trans (b2.mono B1.out.size))
  have Z2 := Lib.hid (Z1.out.below b2 Z1.out.lt)
  have HL2 := Lib.hid (HL.out.later B2.out)
  clear b2 B1 Z1 H1
  rcases hwp with ⟨hz0, rfl⟩ | ⟨hz1, gp, capp, rfl, hop⟩
  · have HZ0 := Lib.hid hz0
    clear hz0
    have p1 := Lib.hid (info_32 zeroN rfl)
    have p3 := Lib.hid (one_bytes zeroN)
    go_wp2_with (first
      | (rw [zeros32]; refine wpList_store_row rfl 29 _ _ rfl A (zeroN.map byv).toArray rfl rfl 29 _ Z2.out p1.out rfl p3.out ?_)
      | (refine wpList_store_row rfl 29 _ _ rfl A (zeroN.map byv).toArray rfl rfl 29 _ Z2.out p1.out rfl p3.out ?_))
    try simp only [Exit.inBlock, Exit.then]
    refine bodyPost_ret (nsum_ret w2 A zeroN zeroN 0 3 _ Z2.out rfl rfl rfl rfl) rfl ?_
    exact ⟨below_setRow B2.out (by have := HA.out; omega) _, .inl ⟨HZ0.out, rfl⟩⟩
  · have HZ1 := Lib.hid hz1
    obtain ⟨q, hq⟩ : ∃ q, sizeT t = some q := Option.isSome_iff_exists.1 hz1
    obtain ⟨lp, hlp⟩ : ∃ l, l = (archT t).length := ⟨_, rfl⟩
    rw [← hlp] at hop ⊢
    have LLp := Lib.hid hlp
    have hlp9 : lp ≤ 1000000000 := by rw [hlp]; exact arch_len hq
    have HN := Lib.hid (isN_of (row_whole hop (by omega)))
    clear hq hlp hop hz1
    go_wp2_with fail
    refine (of_n _ lp capp _ w2 HN.out (by omega) HL2.out).mono ?_
    rintro e w3 ⟨rfl, b3⟩
    have B3 := Lib.hid (B2.out.trans (b3.mono B2.out.size))
    have Z3 := Lib.hid (Z2.out.below b3 Z2.out.lt)
    clear b3 B2 Z2
    have hdl := dig_length ((archT t).map UInt8.toNat)
    have p1 := Lib.hid (info_32 _ hdl)
    have p2 := Lib.hid (size_zeros 32 _ hdl)
    have p3 := Lib.hid (one_bytes (dig ((archT t).map UInt8.toNat)))
    have HD := Lib.hid hdl
    clear hdl
    go_wp2_with (refine wpList_store_row rfl 29 _ _ rfl A ((dig ((archT t).map UInt8.toNat)).map byv).toArray rfl rfl 29 _ Z3.out p1.out p2.out p3.out ?_)
    try simp only [Exit.inBlock, Exit.then]
    refine bodyPost_ret (nsum_ret w3 A zeroN (dig ((archT t).map UInt8.toNat)) lp 0 _ Z3.out HD.out rfl rfl rfl) rfl ?_
    exact ⟨below_setRow B3.out (by have := HA.out; omega) _, .inr ⟨HZ1.out, by rw [LLp.out]; rfl⟩⟩

end Go.Proofs.YtaknkiejjnilnaaDoor
