/-
  The contract of the reference's named. Conditions: bounds on the lengths.
-/
import Derived.Test.YtcmgafehidgkmaaRfKnown
import Derived.Test.YtcmgafehidgkmaaTOpen
import Derived.Deep.Cut
import Derived.Deep.RegionHeld
namespace Go.Proofs.Ytcmgafehidgkmaa
open Go.RowKit
set_option linter.unusedVariables false

mutual
/-- The texts of a tree. -/
def textsT : T → List Bts
  | .mk _ _ d ns ks => d :: (ns.map btsOf ++ textsL ks)
def textsL : List T → List Bts
  | [] => []
  | k :: r => textsT k ++ textsL r
end
theorem textsT_mk (k : UInt8) (x : Bool) (d : List UInt8) (ns : List ByteArray) (ks : List T) : textsT (.mk k x d ns ks) = d :: (ns.map btsOf ++ textsL ks) := by rw [textsT]
theorem textsL_mem {y : Bts} : ∀ {l : List T}, y ∈ textsL l ↔ ∃ i, i < l.length ∧ y ∈ textsT (l.getD i default)
  | [] => by simp [textsL]
  | k :: r => by
    rw [textsL, List.mem_append, textsL_mem (l := r)]
    constructor
    · rintro (h | ⟨i, hi, h⟩)
      · exact ⟨0, by simp, h⟩
      · exact ⟨i + 1, by simpa using hi, h⟩
    · rintro ⟨i, hi, h⟩
      cases i with
      | zero => exact .inl h
      | succ i => exact .inr ⟨i, by simpa using hi, h⟩
def MetT (t : T) (K : Bts) : Prop := ∃ y ∈ textsT t, K <:+: y
theorem metT_mk {k : UInt8} {x : Bool} {d : List UInt8} {ns : List ByteArray} {ks : List T} {K : Bts} : MetT (.mk k x d ns ks) K ↔ K <:+: d ∨ (∃ i, i < ns.length ∧ K <:+: btsOf (ns.getD i ⟨#[]⟩)) ∨ ∃ i, i < ks.length ∧ MetT (ks.getD i default) K := by
  unfold MetT
  rw [textsT_mk]
  constructor
  · rintro ⟨y, hy, h⟩
    rcases List.mem_cons.1 hy with rfl | hy
    · exact .inl h
    · rcases List.mem_append.1 hy with hy | hy
      · obtain ⟨z, hz, rfl⟩ := List.mem_map.1 hy
        obtain ⟨i, hi, e⟩ := List.getElem_of_mem hz
        exact .inr (.inl ⟨i, hi, by rw [List.getD_eq_getElem?_getD, List.getElem?_eq_getElem hi]; rw [← e] at h; exact h⟩)
      · obtain ⟨i, hi, h2⟩ := textsL_mem.1 hy
        exact .inr (.inr ⟨i, hi, y, h2, h⟩)
  · rintro (h | ⟨i, hi, h⟩ | ⟨i, hi, y, hy, h⟩)
    · exact ⟨d, by simp, h⟩
    · refine ⟨_, List.mem_cons_of_mem _ (List.mem_append_left _ (List.mem_map_of_mem (List.getElem_mem hi))), ?_⟩
      rw [List.getD_eq_getElem?_getD, List.getElem?_eq_getElem hi] at h; exact h
    · exact ⟨y, List.mem_cons_of_mem _ (List.mem_append_right _ (textsL_mem.2 ⟨i, hi, hy⟩)), h⟩
theorem infoL {cs : List Value} (h : cs.length = 5) : (Try.prog.info? 30).map (·.size) = some cs.toArray.size := by rw [List.size_toArray, h]; kernel_rfl
theorem isT_five {w : World} {n : Nat} {cs : List Value} {t : T} (h : IsT w n cs t) : cs.length = 5 := by
  cases n with
  | zero => exact absurd h (by simp [IsT])
  | succ n =>
    cases t
    obtain ⟨_, _, _, _, _, _, _, _, _, rfl, _⟩ := h
    rfl
/-- in, with its answer said outright. -/
theorem in_q (a : Option Addr) (n cap : Nat) (l : List UInt8) (w : World) (hB : IsB w a n cap l) (s : ByteArray) (hs0 : 0 < s.size) (hs : s.size ≤ 140737488355328) :
    Calls Try.prog 34 #[.slice a n cap, .string s] w fun e w' => e = .returned (.bool (dQ (fun K => K <:+: l) s.data.toList)) ∧ w' = w := by
  refine (in_any a n cap l w hB s hs0 hs).mono ?_
  rintro e w' ⟨b, rfl, hb, rfl⟩
  refine ⟨?_, rfl⟩
  congr 2
  rw [Bool.eq_iff_iff, hb, dQ_iff]
theorem convY_isB (w : World) (s : ByteArray) (h : s.size ≤ 140737488355328) : IsB (Lib.bytesWorld w 5 s) (some ⟨w.heap.size, 0, none⟩) s.size (grownCap w s.size 0 5) s.data.toList := by
  refine ⟨by simp, .inr ⟨_, 0, rfl, by rw [Lib.bytesWorld_size]; omega, fun i hi => ?_⟩, (fun e => by cases e), ⟨grownCap_ge _ _ _ _, grownCap_le_maxLen _ _ _ _ (by unfold maxLen; omega)⟩, by omega⟩
  rw [Nat.zero_add]
  exact Lib.bytesWorld_cell w 5 s i hi
theorem isB_drewN {w : World} {a : Option Addr} {n c : Nat} {l : List UInt8} (h : IsB w a n c l) (m : Nat) : IsB (w.drewN m) a n c l := by
  cases h; constructor <;> assumption
theorem small_kid {k : UInt8} {x : Bool} {d : List UInt8} {ns : List ByteArray} {ks : List T} (h : Small (.mk k x d ns ks)) {i : Nat} (hi : i < ks.length) : Small (ks.getD i default) := by
  cases h with
  | mk _ h2 _ => exact h2 i hi
theorem below_bytes (w : World) (s : ByteArray) : Below w.heap.size w (Lib.bytesWorld w 5 s) :=
  ⟨rfl, rfl, rfl, by rw [Lib.bytesWorld_size]; omega, fun k hk => Lib.bytesWorld_at_old w _ s k hk⟩

set_option maxRecDepth 100000 in
set_option maxHeartbeats 20000000 in
theorem named_any (p : ByteArray) (hp : 32 ≤ p.size) (hpm : p.size ≤ 140737488355328) : ∀ (n : Nat) (cs : List Value) (t : T) (w : World), IsT w n cs t → Small t →
    Calls Try.prog 25 #[.agg cs.toArray, .string p] w fun e w' => e = .returned (.bool (dQ (MetT t) (keyB p))) ∧ Below w.heap.size w w'
  | 0, _, _, _, ht => absurd ht (by simp [IsT])
  | n + 1, cs, .mk k x d ns ks, w, ht => by
    intro hsm
    have HT := Lib.hid ht
    obtain ⟨ad, nd, cd, an, nn, cn, ak, nk, ck, rfl, hB, hS, hK⟩ := ht
    have HBB := Lib.hid hB
    have HSS := Lib.hid hS
    have HKK := Lib.hid hK
    have HSM := Lib.hid hsm
    obtain ⟨V, hV⟩ : ∃ V, V = dQ (MetT (.mk k x d ns ks)) (keyB p) := ⟨_, rfl⟩
    rw [← hV]
    have HV := Lib.hid hV
    have hp32 : (32 : Int) ≤ (p.size : Int) := by omega
    have hpe : (p.extract 0 32).data.toList = keyB p := by rw [Nam.ext_data]; simp [keyB]
    have HPE := Lib.hid hpe
    have hps : (p.extract 0 32).size = 32 := by simp; omega
    have HPS := Lib.hid hps
    clear hB hS hK hsm hV hpe hps
    go_enter Try.func25, Try.ntmps25
    go_upto_region 1 with fail
    obtain ⟨w1, hw1⟩ : ∃ w1, w1 = w.alloc (.cells #[.int .u8 (k.toNat : Int), .bool x, .slice ad nd cd, .slice an nn cn, .slice ak nk ck] 30) := ⟨_, rfl⟩
    have g1 : Has w1 w.heap.size [.int .u8 (k.toNat : Int), .bool x, .slice ad nd cd, .slice an nn cn, .slice ak nk ck] 30 := by rw [hw1]; exact Has.new w _ _
    have b1 : Below w.heap.size w w1 := by rw [hw1]; exact (Below.refl _ _).alloc (Nat.le_refl _) _
    rw [← hw1]
    obtain ⟨g, hg⟩ : ∃ g, g = w.heap.size := ⟨_, rfl⟩
    rw [← hg] at g1 b1 ⊢
    have HG := Lib.hid hg
    have HB1 := Lib.hid (HBB.out.later (by rw [← hg]; exact b1))
    clear hg hw1
    have G1 := Lib.hid g1
    have B1 := Lib.hid b1
    have cg2 := g1.cellAt (i := 2) rfl
    clear g1 b1
    have hB1 : ∀ m, IsB (w1.drewN m) ad nd cd d := fun m => isB_drewN HB1.out m
    go_quiet (refine Calls.quiet_of_same (in_q _ _ _ _ _ (hB1 _) _ (by rw [HPS.out]; decide) (by rw [HPS.out]; decide)))
    rw [HPE.out]
    obtain ⟨w2, hw2⟩ : ∃ w2, w2 = w1.drewN nq := ⟨_, rfl⟩
    rw [← hw2]
    have G2 : Hid (Has w2 g [.int .u8 (k.toNat : Int), .bool x, .slice ad nd cd, .slice an nn cn, .slice ak nk ck] 30) := Lib.hid (by rw [hw2]; exact G1.out)
    have B2 : Hid (Below g w w2) := Lib.hid (by rw [hw2]; exact below_rf B1.out nq)
    clear hw2 cg2 hB1
    by_cases hd : keyB p <:+: d
    · have HR : Hid (V = true) := Lib.hid (by rw [HV.out, dQ_iff, metT_mk]; exact .inl hd)
      have hq : dQ (fun K => K <:+: d) (keyB p) = true := dQ_iff.2 hd
      rw [hq]
      clear hq hd
      go_wp2_with fail
      go_ret
      exact ⟨by rw [HR.out]; rfl, by rw [← HG.out]; exact B2.out⟩
    · have hq : dQ (fun K => K <:+: d) (keyB p) = false := by
        rw [← Bool.not_eq_true, dQ_iff]; exact hd
      have HND := Lib.hid hd
      rw [hq]
      clear hq hd
      go_wp2_with fail
      go_loopg [5] (nn + 1) (fun gk v5 wr => ∃ i : Nat, gk = nn + 1 - i ∧ i ≤ nn ∧ v5 = .int .i64 i ∧ Has wr g [.int .u8 (k.toNat : Int), .bool x, .slice ad nd cd, .slice an nn cn, .slice ak nk ck] 30 ∧ Below g w wr ∧ g < wr.heap.size ∧ Hid (∀ j, j < i → ¬ keyB p <:+: btsOf (ns.getD j ⟨#[]⟩)))
      case atStart => exact ⟨0, rfl, Nat.zero_le _, rfl, G2.out, B2.out, G2.out.lt, Lib.hid (fun j hj => by omega)⟩
      case round =>
        clear G2 B2
        obtain ⟨i, rfl, hin, rfl, hg, hb, hgl, hno⟩ := hrel
        have cg3 := hg.cellAt (i := 3) rfl
        have HGR := Lib.hid hg
        have HBR := Lib.hid hb
        clear hg hb
        by_cases hlt : i < nn
        · rcases HSS.out.at_ with h0 | ⟨b, off, rfl, hbb, hc⟩
          · omega
          have hii : (i : Int) < (nn : Int) := by omega
          obtain ⟨y, hy⟩ : ∃ y, y = ns.getD i ⟨#[]⟩ := ⟨_, rfl⟩
          have c1 : wr.cell? ⟨b, off + i, none⟩ = some (.string y) := by
            rw [hy]; exact (HBR.out.cell (p := ⟨b, off + i, none⟩) (by rw [HG.out]; exact hbb)).trans (hc i hlt)
          have hil : i < ns.length := by rw [HSS.out.length]; exact hlt
          have hys : y.size ≤ 140737488355328 := by
            rw [hy]; cases HSM.out with | mk h1 _ _ => exact h1 i hil
          have HY := Lib.hid hy
          have HBL := Lib.hid hbb
          have hbg : b < g := by rw [HG.out]; exact hbb
          clear hy hc hbb
          go_upto_region 6 with fail
          clear cg3
          refine wp_region_held_drew (S := fun W => Has W g [.int .u8 (k.toNat : Int), .bool x, .slice ad nd cd, .slice (some ⟨b, off, none⟩) nn cn, .slice ak nk ck] 30 ∧ W.cell? ⟨b, off + i, none⟩ = some (.string y)) (by kernel_rfl) ⟨HGR.out.drew, c1⟩ (fun hHeld => ?_)
          obtain ⟨wd, hwd⟩ : ∃ wd, wd = wr.drew := ⟨_, rfl⟩
          have HGD : Hid (Has wd g [.int .u8 (k.toNat : Int), .bool x, .slice ad nd cd, .slice (some ⟨b, off, none⟩) nn cn, .slice ak nk ck] 30) := Lib.hid (by rw [hwd]; exact HGR.out.drew)
          have HBD : Hid (Below g w wd) := Lib.hid (by rw [hwd]; exact HBR.out.drew)
          have HC1 : Hid (wd.cell? ⟨b, off + i, none⟩ = some (.string y)) := Lib.hid (by rw [hwd]; exact c1)
          rw [← hwd] at hHeld ⊢
          clear hwd c1
          refine wpAnyH_take (i := 0) (oi := { dst := some 19, op := Op.fieldAddr 30 (Operand.tmp 2) 3, type := 0, pos := "ref.go:69", after := #[], guard := none }) (v := .pointer (some ⟨g, 3, none⟩)) rfl (by kernel_rfl) (by kernel_rfl) (by kernel_rfl) (fun _ _ _ h => h)
            (Or.inl ⟨by rfl, by intro w hSw;  clear hSw; go_simp⟩) hHeld ?_
          try simp only [Act.put, List.setIfInBounds_toArray, List.set_cons_zero, List.set_cons_succ]
          refine wpAnyH_take (i := 1) (oi := { dst := some 20, op := Op.load 23 (Operand.tmp 19), type := 23, pos := "ref.go:69", after := #[{ on := 0, ground := Ground.data }], guard := none }) (v := .slice (some ⟨b, off, none⟩) nn cn) rfl (by kernel_rfl) (by kernel_rfl) (by kernel_rfl) (fun _ _ _ h => h)
            (Or.inl ⟨by rfl, by intro w hSw; have hcl := hSw.1.cellAt (i := 3) rfl; clear hSw; go_simp⟩) hHeld ?_
          try simp only [Act.put, List.setIfInBounds_toArray, List.set_cons_zero, List.set_cons_succ]
          refine wpAnyH_take (i := 2) (oi := { dst := some 21, op := Op.move (Operand.tmp 5), type := 3, pos := "ref.go:69", after := #[], guard := none }) (v := .int .i64 (i : Int)) rfl (by kernel_rfl) (by kernel_rfl) (by kernel_rfl) (fun _ _ _ h => h)
            (Or.inl ⟨by rfl, by intro w hSw;  clear hSw; go_simp⟩) hHeld ?_
          try simp only [Act.put, List.setIfInBounds_toArray, List.set_cons_zero, List.set_cons_succ]
          refine wpAnyH_take (i := 3) (oi := { dst := some 22, op := Op.indexAddr 23 (Operand.tmp 20) (Operand.tmp 21), type := 0, pos := "ref.go:69", after := #[{ on := 1, ground := Ground.data }, { on := 2, ground := Ground.data }], guard := none }) (v := .pointer (some ⟨b, off + i, none⟩)) rfl (by kernel_rfl) (by kernel_rfl) (by kernel_rfl) (fun _ _ _ h => h)
            (Or.inl ⟨by rfl, by intro w hSw;  clear hSw; go_simp⟩) hHeld ?_
          try simp only [Act.put, List.setIfInBounds_toArray, List.set_cons_zero, List.set_cons_succ]
          refine wpAnyH_take (i := 4) (oi := { dst := some 23, op := Op.load 9 (Operand.tmp 22), type := 9, pos := "ref.go:69", after := #[{ on := 3, ground := Ground.data }], guard := none }) (v := .string y) rfl (by kernel_rfl) (by kernel_rfl) (by kernel_rfl) (fun _ _ _ h => h)
            (Or.inl ⟨by rfl, by intro w hSw; have hc3 := hSw.2; clear hSw; go_simp⟩) hHeld ?_
          try simp only [Act.put, List.setIfInBounds_toArray, List.set_cons_zero, List.set_cons_succ]
          refine wpAnyH_take (i := 6) (oi := { dst := some 25, op := Op.move (Operand.tmp 1), type := 9, pos := "ref.go:69", after := #[], guard := none }) (v := .string p) rfl (by kernel_rfl) (by kernel_rfl) (by kernel_rfl) (fun _ _ _ h => h)
            (Or.inl ⟨by rfl, by intro w hSw;  clear hSw; go_simp⟩) hHeld ?_
          try simp only [Act.put, List.setIfInBounds_toArray, List.set_cons_zero, List.set_cons_succ]
          refine wpAnyH_take (i := 7) (oi := { dst := some 26, op := Op.slice 9 (Operand.tmp 25) none (some (Operand.const (Value.int IntKind.i64 32))) none, type := 9, pos := "ref.go:69", after := #[{ on := 6, ground := Ground.data }], guard := none }) (v := .string (p.extract 0 32)) rfl (by kernel_rfl) (by kernel_rfl) (by kernel_rfl) (fun _ _ _ h => h)
            (Or.inl ⟨by rfl, by intro w hSw;  clear hSw; go_simp⟩) hHeld ?_
          try simp only [Act.put, List.setIfInBounds_toArray, List.set_cons_zero, List.set_cons_succ]
          have hcv := Lib.run_convert_string_bytes (P := Try.prog) wd 9 22 5 y Try.underlying9 Try.underlying22 Try.underlying5
          refine wpAnyH_ready (rs := [5]) (by kernel_rfl) (by simp) ?_
          refine AllReadyH.cons (o := { dst := some 24, op := Op.convert 9 22 (Operand.tmp 23), type := 22, pos := "ref.go:69", after := #[{ on := 4, ground := Ground.data }], guard := none }) rfl (fun K hK => ?_) AllReadyH.nil
          go_simp
          clear hcv
          obtain ⟨wc, hwc⟩ : ∃ wc, wc = Lib.bytesWorld wd 5 y := ⟨_, rfl⟩
          rw [← hwc]
          have hbc : Below wd.heap.size wd wc := by rw [hwc]; exact below_bytes wd y
          have HYB : Hid (IsB wc (some ⟨wd.heap.size, 0, none⟩) y.size (grownCap wd y.size 0 5) y.data.toList) := Lib.hid (by rw [hwc]; exact convY_isB wd y hys)
          have HGC := Lib.hid (HGD.out.below hbc HGD.out.lt)
          have HBC : Hid (Below g w wc) := Lib.hid (HBD.out.trans (hbc.mono (Nat.le_of_lt HGD.out.lt)))
          have HCC : Hid (wc.cell? ⟨b, off + i, none⟩ = some (.string y)) := Lib.hid ((hbc.cell (p := ⟨b, off + i, none⟩) (Nat.lt_trans hbg HGD.out.lt)).trans HC1.out)
          clear hwc hbc
          refine hK.out _ _ ⟨HGC.out, HCC.out⟩ (fun hHeld2 => ?_)
          clear hK K hHeld
          try simp only [Act.put, List.setIfInBounds_toArray, List.set_cons_zero, List.set_cons_succ]
          refine wpAnyH_ready (rs := [8]) (by kernel_rfl) (by simp) ?_
          refine AllReadyH.cons (o := { dst := some 27, op := Op.call { callee := Callee.value (Operand.func 34), args := #[Operand.tmp 24, Operand.tmp 26], argTypes := #[22, 9] }, type := 4, pos := "ref.go:69", after := #[{ on := 5, ground := Ground.data }, { on := 7, ground := Ground.data }], guard := none }) rfl (fun K hK => ?_) AllReadyH.nil
          go_simp
          refine (in_q _ _ _ _ wc HYB.out (p.extract 0 32) (by rw [HPS.out]; decide) (by rw [HPS.out]; decide)).mono ?_
          rintro e w9 ⟨rfl, rfl⟩
          rw [HPE.out]
          go_wp2_with fail
          refine hK.out _ _ ⟨HGC.out, HCC.out⟩ (fun hHeld3 => ?_)
          clear hK K hHeld2
          try simp only [Act.put, List.setIfInBounds_toArray, List.set_cons_zero, List.set_cons_succ]
          refine wpAnyH_done (by kernel_rfl) ?_ _
          clear hHeld3
          by_cases hm : keyB p <:+: y.data.toList
          · have HR : Hid (V = true) := Lib.hid (by rw [HV.out, dQ_iff, metT_mk]; exact .inr (.inl ⟨i, hil, by rw [← HY.out]; exact hm⟩))
            have hq : dQ (fun K => K <:+: y.data.toList) (keyB p) = true := dQ_iff.2 hm
            rw [hq]
            clear hq hm
            go_wp2_with fail
            go_ret
            exact ⟨by rw [HR.out]; rfl, by rw [← HG.out]; exact HBC.out⟩
          · have hq : dQ (fun K => K <:+: y.data.toList) (keyB p) = false := by
              rw [← Bool.not_eq_true, dQ_iff]; exact hm
            have HNO : Hid (∀ j, j < i + 1 → ¬ keyB p <:+: btsOf (ns.getD j ⟨#[]⟩)) := Lib.hid (fun j hj => by
              by_cases e : j = i
              · rw [e, ← HY.out]; exact hm
              · exact hno.out j (by omega))
            have hroom := HSS.out.room
            unfold maxLen at hroom
            rw [hq]
            clear hq hm
            go_wp2_with fail
            go_roundg (nn + 1 - (i + 1))
            case rel => exact ⟨i + 1, rfl, by omega, by go_num, HGC.out, HBC.out, HGC.out.lt, HNO⟩
            case measure => omega
        · obtain rfl : i = nn := by omega
          have hii : ¬ (i : Int) < (i : Int) := by omega
          have HNN : Hid (¬ ∃ j, j < ns.length ∧ keyB p <:+: btsOf (ns.getD j ⟨#[]⟩)) := Lib.hid (by
            rintro ⟨j, hj, h⟩
            exact hno.out j (by rw [← HSS.out.length]; exact hj) h)
          clear hno
          go_wp2_with fail
          clear cg3
          go_loopg [6] (nk + 1) (fun gk v6 wr => ∃ j : Nat, gk = nk + 1 - j ∧ j ≤ nk ∧ v6 = .int .i64 j ∧ Has wr g [.int .u8 (k.toNat : Int), .bool x, .slice ad nd cd, .slice an i cn, .slice ak nk ck] 30 ∧ Below g w wr ∧ g < wr.heap.size ∧ Hid (∀ l, l < j → ¬ MetT (ks.getD l default) (keyB p)))
          case atStart => exact ⟨0, rfl, Nat.zero_le _, rfl, HGR.out, HBR.out, hgl, Lib.hid (fun j hj => by omega)⟩
          case round =>
            clear HGR HBR
            obtain ⟨j, rfl, hjn, rfl, hg, hb, hgl2, hnk⟩ := hrel
            have cg4 := hg.cellAt (i := 4) rfl
            have HGR := Lib.hid hg
            have HBR := Lib.hid hb
            clear hg hb
            by_cases hlt2 : j < nk
            · rcases HKK.out.at_ with h0 | ⟨b, off, rfl, hbb, hc⟩
              · omega
              obtain ⟨c0, c1, c2, c3, c4, hR, e0, e1, e2, e3, e4⟩ := hc j hlt2
              have hkl : j < ks.length := by rw [HKK.out.length]; exact hlt2
              have hbg : b < g := by rw [HG.out]; exact hbb
              have hrange : wr.rangeAt b (off + j * 5) [c0, c1, c2, c3, c4] := fun j' v hv => by
                rw [Nat.add_assoc]
                match j', hv with
                | 0, hv => cases hv; exact (HBR.out.cell (p := ⟨b, off + (j * 5 + 0), none⟩) hbg).trans e0
                | 1, hv => cases hv; exact (HBR.out.cell (p := ⟨b, off + (j * 5 + 1), none⟩) hbg).trans e1
                | 2, hv => cases hv; exact (HBR.out.cell (p := ⟨b, off + (j * 5 + 2), none⟩) hbg).trans e2
                | 3, hv => cases hv; exact (HBR.out.cell (p := ⟨b, off + (j * 5 + 3), none⟩) hbg).trans e3
                | 4, hv => cases hv; exact (HBR.out.cell (p := ⟨b, off + (j * 5 + 4), none⟩) hbg).trans e4
                | j' + 5, hv => simp at hv
              have HRANGE := Lib.hid hrange
              have hki : (j : Int) < (nk : Int) := by omega
              have hroom := HKK.out.room
              unfold maxLen at hroom
              have hni : (j : Int) + 1 ≤ 9223372036854775807 := by omega
              obtain ⟨L, hL⟩ : ∃ L, L = [c0, c1, c2, c3, c4] := ⟨_, rfl⟩
              rw [← hL] at HRANGE hR
              have hll : Hid ((Try.prog.info? 30).map (·.size) = some L.length) := Lib.hid (by rw [hL]; kernel_rfl)
              have K5 := named_any p hp hpm n L (ks.getD j default) wr (IsT.later (by rw [← HG.out]; exact HBR.out) _ _ _ hR) (small_kid HSM.out hkl)
              have HK5 := Lib.hid K5
              clear hc hR e0 e1 e2 e3 e4 hrange hL K5
              go_wp2_with (refine wpList_load_mid rfl 30 _ rfl b (off + j * 5) rfl L _ HRANGE.out Try.underlying30 rfl hll.out ?_)
              refine HK5.out.mono ?_
              rintro e w6 ⟨rfl, b6⟩
              have B6 := Lib.hid (HBR.out.trans (b6.mono (Nat.le_of_lt hgl2)))
              have G6 := Lib.hid (HGR.out.below b6 hgl2)
              clear b6 HK5
              by_cases hm : MetT (ks.getD j default) (keyB p)
              · have HR : Hid (V = true) := Lib.hid (by rw [HV.out, dQ_iff, metT_mk]; exact .inr (.inr ⟨j, hkl, hm⟩))
                have hq : dQ (MetT (ks.getD j default)) (keyB p) = true := dQ_iff.2 hm
                rw [hq]
                clear hq hm
                go_wp2_with fail
                go_ret
                exact ⟨by rw [HR.out]; rfl, by rw [← HG.out]; exact B6.out⟩
              · have hq : dQ (MetT (ks.getD j default)) (keyB p) = false := by
                  rw [← Bool.not_eq_true, dQ_iff]; exact hm
                have HNO : Hid (∀ l, l < j + 1 → ¬ MetT (ks.getD l default) (keyB p)) := Lib.hid (fun l hl => by
                  by_cases e : l = j
                  · rw [e]; exact hm
                  · exact hnk.out l (by omega))
                rw [hq]
                clear hq hm
                go_wp2_with fail
                go_roundg (nk + 1 - (j + 1))
                case rel => exact ⟨j + 1, rfl, by omega, by go_num, G6.out, B6.out, G6.out.lt, HNO⟩
                case measure => omega
            · obtain rfl : j = nk := by omega
              have hjj : ¬ (j : Int) < (j : Int) := by omega
              have HR : Hid (V = false) := Lib.hid (by
                rw [HV.out, ← Bool.not_eq_true, dQ_iff, metT_mk]
                rintro (h | h | ⟨l, hl, h⟩)
                · exact HND.out h
                · exact HNN.out h
                · exact hnk.out l (by rw [← HKK.out.length]; exact hl) h)
              clear hnk
              go_wp2_with fail
              go_ret
              exact ⟨by rw [HR.out]; rfl, by rw [← HG.out]; exact HBR.out⟩

end Go.Proofs.Ytcmgafehidgkmaa
