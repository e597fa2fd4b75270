/-
  The contracts of read, numberOf, told. Conditions: the bytes lie in old memory; few enough of them.
-/
import Derived.Test.YtgjckddcnmbceaaGreatDoorJNum

import Derived.Laws.AppendOwnNone
import Derived.OwnWalk
import Derived.Laws.OwnMore
import Derived.Deep.MidRow
namespace Go.Proofs.YtgjckddcnmbceaaGreatDoor
open Go.RowKit
set_option linter.unusedVariables false

theorem info_u8_parts : ∃ i, Tryz.prog.info? 5 = some i ∧ i.zero = some (.int .u8 0) ∧ i.size = 1 ∧ i.bytes = 1 := by
  have h : (Tryz.prog.info? 5).map (fun i => (i.zero, i.size, i.bytes)) = some (some (.int .u8 0), 1, 1) := by kernel_rfl
  obtain ⟨i, hi, hx⟩ := Option.map_eq_some_iff.1 h
  simp only [Prod.mk.injEq] at hx
  exact ⟨i, hi, hx.1, hx.2.1, hx.2.2⟩

set_option maxRecDepth 100000 in
set_option maxHeartbeats 4000000 in
theorem read_any (a : Option Addr) (n cap : Nat) (l : List UInt8) (w : World) (hp : IsB w a n cap l) (hn : n ≤ 8) :
    Calls Tryz.prog 58 #[.slice a n cap] w fun e w' => e = .returned (.int .u64 ((rd l : Nat) : Int)) ∧ w = w' := by
  have HP := Lib.hid hp
  have hl := hp.length
  have HL := Lib.hid hl
  clear hp hl
  go_enter Tryz.func58, Tryz.ntmps58
  go_wp2_with fail
  go_loopw [3, 8] (fun x ii wr => ∃ k : Nat, k ≤ n ∧ ii = .int .i64 k ∧ x = .int .u64 ((rd (l.take k) : Nat) : Int) ∧ Hid (wr = w)) (fun _ ii _ => n - (intOf ii).toNat)
  case atStart => exact ⟨0, Nat.zero_le _, rfl, rfl, Lib.hid rfl⟩
  case round =>
    obtain ⟨k, hk, rfl, rfl, hw⟩ := hrel
    obtain rfl := hw.out
    clear hw
    by_cases hlt : k < n
    · obtain ⟨b, off, rfl, hbl, hc⟩ : ∃ b off, a = some ⟨b, off, none⟩ ∧ b < wr.heap.size ∧ wr.cell? ⟨b, off + k, none⟩ = some (.int .u8 ((l.getD k 0).toNat : Int)) := by
        rcases HP.out.at_ with h0 | ⟨b, off, e, hlt', hc⟩
        · omega
        · exact ⟨b, off, e, hlt', hc k hlt⟩
      have h3' : (k : Int) < (n : Int) := by omega
      obtain ⟨c, hcd⟩ : ∃ c, c = l.getD k 0 := ⟨_, rfl⟩
      obtain ⟨R, hR⟩ : ∃ R, R = rd (l.take k) := ⟨_, rfl⟩
      have HR : Hid (rd (l.take (k + 1)) = R * 256 + c.toNat) := Lib.hid (by
        rw [List.take_succ_eq_append_getElem (by rw [HL.out]; exact hlt), rd_snoc, ← hR, hcd, List.getD_eq_getElem?_getD, List.getElem?_eq_getElem (by rw [HL.out]; exact hlt)]; rfl)
      have hRl : R < 72057594037927936 := by
        have h := rd_lt (l.take k)
        rw [← hR, List.length_take] at h
        have h2 : 256 ^ min k l.length ≤ 256 ^ 7 := Nat.pow_le_pow_right (by omega) (by rw [HL.out]; omega)
        omega
      have hcl : c.toNat < 256 := c.toNat_lt
      rw [← hcd] at hc
      rw [← hR]
      have HJ := or_join R c.toNat hcl (by omega)
      have HS : IntKind.u64.wrap ((R : Int) * 2 ^ 8) = ((R * 256 : Nat) : Int) := by simp [IntKind.wrap, IntKind.bits, IntKind.signed]; omega
      obtain ⟨C, hC⟩ : ∃ C, C = c.toNat := ⟨_, rfl⟩
      rw [← hC] at HJ hc hcl HR
      clear hcd hR hC
      go_wp2_with fail
      go_roundw
      case rel => exact ⟨k + 1, by omega, by go_num, by rw [HR.out]; exact congrArg _ (by omega), Lib.hid trivial⟩
      case measure => simp [intOf]; omega
    · have h3' : ¬ (k : Int) < (n : Int) := by omega
      have he : l.take k = l := List.take_of_length_le (by rw [HL.out]; omega)
      rw [he]
      go_wp2_with fail
      go_ret
      exact ⟨rfl, rfl⟩

theorem IsB.part {w : World} {a : Option Addr} {len cap : Nat} {l : List UInt8} (h : IsB w a len cap l) (i n c : Nat) (hi : i + n ≤ len) (hn : 0 < n) (hc : n ≤ c ∧ c ≤ cap) :
    ∃ b off, a = some ⟨b, off, none⟩ ∧ IsB w (some ⟨b, off + i, none⟩) n c ((l.drop i).take n) := by
  rcases h.at_ with h0 | ⟨b, off, rfl, hlt, hcell⟩
  · omega
  · have hl := h.length
    have hr := h.room
    have hm := h.most
    refine ⟨b, off, rfl, ⟨by rw [List.length_take, List.length_drop]; omega, .inr ⟨b, off + i, rfl, hlt, fun j hj => ?_⟩, (fun e => by cases e), ⟨hc.1, by omega⟩, by omega⟩⟩
    rw [show off + i + j = off + (i + j) by omega, hcell (i + j) (by omega)]
    congr 4
    rw [List.getD_eq_getElem?_getD, List.getD_eq_getElem?_getD, List.getElem?_take_of_lt hj, List.getElem?_drop]

set_option maxRecDepth 100000 in
set_option maxHeartbeats 4000000 in
theorem number_any (a : Option Addr) (n cap : Nat) (l : List UInt8) (w : World) (hp : IsB w a n cap l) (hn : 12 ≤ n) :
    Calls Tryz.prog 51 #[.slice a n cap] w fun e w' => e = .returned (.int .u64 ((rd ((l.drop 4).take 8) : Nat) : Int)) ∧ w = w' := by
  have hr := hp.room
  obtain ⟨b, off, rfl, hq⟩ := hp.part 4 8 (cap - 4) (by omega) (by omega) (by omega)
  have HR := Lib.hid (read_any _ 8 (cap - 4) _ w hq (by omega))
  unfold maxLen at hr
  have h1 : (12 : Int) ≤ (cap : Int) := by omega
  have h2 : 12 ≤ cap := by omega
  have h3 : ¬ cap = 4 := by omega
  clear hp hq
  go_enter Tryz.func51, Tryz.ntmps51
  go_wp2_with (go_at_call 58; refine HR.out.mono ?_; rintro e w1 ⟨rfl, rfl⟩)
  go_ret
  exact ⟨rfl, rfl⟩

/-- 'append' of bytes that lie somewhere behind a row of the call's own; nil and empty ones too. -/
theorem app_bytes {P : Program} {w : World} {ops : Array Oper} {rest : List Oper} {o : Oper} {a : Act} {Q : Exit → Act → World → Prop} (hgd : o.guard = none) (s x : Operand) (t : TypeId)
    (ho : o.op = .call { callee := .builtin .append, args := #[s, x], argTypes := #[t, t] })
    (base : Nat) (e : TypeId) (i : TypeInfo) (ht : P.underlying t = some (.slice e)) (hi : P.info? e = some i) (hz : i.zero = some (.int .u8 0))
    (hsize : i.size = 1) (hby : i.bytes = 1)
    (v : Value) (n : Nat) (l : List UInt8) (hs : a.eval s = v) (hown : w.ownsRow base e 1 v n (l.map bv))
    (ao : Option Addr) (m c : Nat) (k : List UInt8) (hx : a.eval x = .slice ao m c) (hsrc : IsB w ao m c k)
    (hbytes : n + m ≤ 140737488355328) (hbase : base ≤ w.heap.size)
    (h : ∀ v' w', w'.ownsRow base e 1 v' (n + m) ((l ++ k).map bv) → w.grownBy w' v.ownBlock → wpList P ops Q rest (a.put o.dst v') w') : wpList P ops Q (o :: rest) a w := by
  obtain ⟨h1, h2, h4, _, _⟩ := hsrc
  cases ao with
  | none =>
    obtain ⟨rfl, rfl⟩ := h4 rfl
    obtain rfl : k = [] := List.eq_nil_of_length_eq_zero h1
    refine wpList_append_own_none hgd s x t ho base e i 1 ht hi v n (l.map bv) hs hown hx ?_
    exact h v w (by simpa using hown) (World.grownBy.refl w _)
  | some ad =>
    refine wpList_append_own w hgd s x t ho base e i _ 1 1 ht hi hz hsize hby rfl (by omega) v n (l.map bv) hs hown ad m c (k.map bv) hx (by simp [h1]) ?_ ?_ (by unfold maxLen; omega) (by omega) hbase ?_
    · intro j u hj
      rcases h2 with h0 | ⟨b, off, he, hlt, hby'⟩
      · subst h0
        obtain rfl : k = [] := List.eq_nil_of_length_eq_zero h1
        simp at hj
      · cases he
        have hjl : j < k.length := by have := (List.getElem?_eq_some_iff.1 hj).1; simpa using this
        rw [map_bv_get k j hjl] at hj
        rw [Addr.add_mid, hby' j (by omega)]
        exact hj
    · exact bv_one k
    · intro v' w' h5 h6 _
      exact h v' w' (by rw [List.map_append]; exact h5) h6
theorem isB_at {w : World} {b : Nat} {l : List UInt8} (h : Has w b (l.map bv) 5) (hl : l.length ≤ 140737488355328) : IsB w (some ⟨b, 0, none⟩) l.length l.length l := by
  refine ⟨rfl, .inr ⟨b, 0, rfl, h.lt, fun i hi => ?_⟩, (fun e => by cases e), ⟨Nat.le_refl _, by unfold maxLen; omega⟩, hl⟩
  rw [Nat.zero_add]
  exact h.cellAt (map_bv_get _ _ hi)
theorem row_below {B : Nat} {w0 w w' : World} {e : TypeId} {size n : Nat} {v : Value} {xs : List Value} (hb : Below B w0 w) (hB : B ≤ w.heap.size) (ho : w.ownsRow B e size v n xs) (hg : w.grownBy w' v.ownBlock) : Below B w0 w' :=
  hb.grown hg hB (fun k hk => (ho.lt k hk).1)

theorem be_step (n size i : Nat) (hi : i < size) : (be n size).take i ++ [UInt8.ofNat (n / 256 ^ (size - 1 - i))] = (be n size).take (i + 1) := by
  rw [List.take_succ_eq_append_getElem (by rw [be_length]; exact hi), ← be_get n size i hi, List.getD_eq_getElem?_getD, List.getElem?_eq_getElem (by rw [be_length]; exact hi)]
  rfl

/-- Behind a call that writes behind a row of bytes. -/
def RowP (B : Nat) (M : List UInt8) (w : World) (e : Ending) (w' : World) : Prop :=
  ∃ v, e = .returned v ∧ w'.ownsRow B 5 1 v M.length (M.map bv) ∧ Below B w w'

set_option maxRecDepth 100000 in
set_option maxHeartbeats 8000000 in
theorem told_any (B : Nat) (v0 : Value) (M : List UInt8) (N size : Nat) (w : World) (hw : w.ownsRow B 5 1 v0 M.length (M.map bv)) (hB : B ≤ w.heap.size) (hs : size ≤ 8) (hN : N < 18446744073709551616) (hM : M.length ≤ 1000000000) :
    Calls Tryz.prog 56 #[v0, .int .u64 (N : Int), .int .i64 (size : Int)] w (RowP B (M ++ be N size) w) := by
  obtain ⟨i0, hi, hz0, hz1, hz2⟩ := info_u8_parts
  have HI := Lib.hid hi
  have HZ0 := Lib.hid hz0
  have HZ1 := Lib.hid hz1
  have HZ2 := Lib.hid hz2
  have HW := Lib.hid hw
  clear hi hz0 hz1 hz2 hw
  go_enter Tryz.func56, Tryz.ntmps56
  go_wp2_with fail
  go_loopw [0, 9] (fun v ii wr => ∃ k : Nat, k ≤ size ∧ ii = .int .i64 k ∧ Hid (wr.ownsRow B 5 1 v (M ++ (be N size).take k).length ((M ++ (be N size).take k).map bv)) ∧ Hid (Below B w wr)) (fun _ ii _ => size - (intOf ii).toNat)
  case atStart => exact ⟨0, Nat.zero_le _, rfl, Lib.hid (by simpa using HW.out), Lib.hid (Below.refl _ _)⟩
  case round =>
    clear HW
    obtain ⟨k, hk, rfl, ho, hb⟩ := hrel
    by_cases hlt : k < size
    · have h3' : (k : Int) < (size : Int) := by omega
      obtain ⟨X, hX⟩ : ∃ X, X = M ++ (be N size).take k := ⟨_, rfl⟩
      have hXl : X.length ≤ 1000000008 := by rw [hX, List.length_append, List.length_take, be_length]; omega
      obtain ⟨c, hc⟩ : ∃ c, c = UInt8.ofNat (N / 256 ^ (size - 1 - k)) := ⟨_, rfl⟩
      have HST : Hid (X ++ [c] = M ++ (be N size).take (k + 1)) := Lib.hid (by rw [hX, hc, List.append_assoc, be_step N size k hlt])
      have e1 : IntKind.i64.wrap ((size : Int) - 1) = ((size - 1 : Nat) : Int) := by rw [IntKind.wrap_i64]; omega
      have e2 : IntKind.i64.wrap (((size - 1 : Nat) : Int) - (k : Int)) = ((size - 1 - k : Nat) : Int) := by rw [IntKind.wrap_i64]; omega
      have e3 : IntKind.i64.wrap (8 * ((size - 1 - k : Nat) : Int)) = ((8 * (size - 1 - k) : Nat) : Int) := by rw [IntKind.wrap_i64]; omega
      obtain ⟨S, hS⟩ : ∃ S, S = size - 1 - k := ⟨_, rfl⟩
      have hS8 : S ≤ 7 := by omega
      have e4 : IntKind.u8.wrap ((N : Int) / 2 ^ (8 * S)) = (c.toNat : Int) := by
        rw [IntKind.wrap_u8, hc, ← hS, UInt8.toNat_ofNat']
        have p : (2 : Int) ^ (8 * S) = ((256 ^ S : Nat) : Int) := by
          rw [show (256 : Nat) = 2 ^ 8 from rfl, ← Nat.pow_mul]; exact (Int.natCast_pow 2 (8 * S)).symm
        rw [p]; rfl
      rw [← hS] at e2 e3
      rw [← hX] at ho
      have e5 : ((8 * S : Nat) : Int).toNat = 8 * S := by omega
      have e6 : 0 ≤ ((8 * S : Nat) : Int) := by omega
      clear hX hc hS
      obtain ⟨C, hC⟩ : ∃ C : Int, C = (c.toNat : Int) := ⟨_, rfl⟩
      rw [← hC] at e4
      have HC := Lib.hid hC
      clear hC
      have hBr : B ≤ wr.heap.size := Nat.le_trans hB hb.out.size
      have HA := Lib.hid (ho.out.alloc (.cells #[.int .u8 C] 5))
      have H1 := Lib.hid (isB_at (l := [c]) (w := wr.alloc (.cells #[.int .u8 C] 5)) (b := wr.heap.size) (by have := Has.new wr [.int .u8 C] 5; rw [HC.out] at this; rw [HC.out]; exact this) (by simp))
      have BA := Lib.hid (hb.out.alloc hBr (.cells #[.int .u8 C] 5))
      have hBa : B ≤ (wr.alloc (.cells #[.int .u8 C] 5)).heap.size := by simp; omega
      clear ho hb
      go_wp2_with (at_builtin; go_must (refine app_bytes rfl (.tmp 12) (.tmp 21) 33 rfl B 5 i0 Tryz.underlying33 HI.out HZ0.out HZ1.out HZ2.out _ X.length X rfl HA.out (some ⟨wr.heap.size, 0, none⟩) 1 1 [c] rfl H1.out (by omega) hBa ?_))
      intro v3 w3 ho3 hg3
      have O3 : Hid (w3.ownsRow B 5 1 v3 (M ++ (be N size).take (k + 1)).length ((M ++ (be N size).take (k + 1)).map bv)) := Lib.hid (by rw [← HST.out, List.length_append, List.map_append]; exact ho3)
      have B3 : Hid (Below B w w3) := Lib.hid (row_below BA.out hBa HA.out hg3)
      clear ho3 hg3 HA H1 BA
      go_wp2_with fail
      go_roundw
      case rel => exact ⟨k + 1, by omega, by go_num, O3, B3⟩
      case measure => simp [intOf]; omega
    · have h3' : ¬ (k : Int) < (size : Int) := by omega
      have he : (be N size).take k = be N size := List.take_of_length_le (by rw [be_length]; omega)
      rw [he] at ho
      go_wp2_with fail
      go_ret
      exact ⟨_, rfl, ho.out, hb.out⟩

end Go.Proofs.YtgjckddcnmbceaaGreatDoor
