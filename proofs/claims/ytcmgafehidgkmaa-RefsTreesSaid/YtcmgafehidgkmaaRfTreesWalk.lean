/-
  The walk of the law RefsTrees. Conditions: bounds on the lengths.
-/
import Derived.Test.YtcmgafehidgkmaaRfPaths
namespace Go.Proofs.Ytcmgafehidgkmaa
open Go.RowKit
set_option linter.unusedVariables false

theorem rangeAt_has {w : World} {b : Nat} {L : List Value} {t : TypeId} (h : Has w b L t) : w.rangeAt b 0 L := fun j v hj => by
  rw [Nat.zero_add]; exact h.cellAt hj

set_option maxRecDepth 100000 in
set_option maxHeartbeats 8000000 in
theorem walk_RefsTrees (w : World) (n : Nat) (cs : List Value) (t : T) (ht : IsT w n cs t) (hsm : Small t) (a : Option Addr) (m cap : Nat) (l : List ByteArray) (hS : IsS w a m cap l) (hsz : ∀ i, i < l.length → (l.getD i ⟨#[]⟩).size ≤ 140737488355328) :
    Calls Try.prog 4 #[.agg cs.toArray, .slice a m cap] w fun e w' => e = .returned (.bool true) ∧ Below w.heap.size w w' := by
  cases n with
  | zero => exact absurd ht (by simp [IsT])
  | succ n =>
  obtain ⟨k, x, d, ns, ks⟩ := t
  have HT := Lib.hid ht
  obtain ⟨ad, nd, cd, an, nn, cn, ak, nk, ck, rfl, hB, _, _⟩ := ht
  have HSZ : Hid (∀ x ∈ l, x.size ≤ 140737488355328) := Lib.hid (fun x hx => by
    obtain ⟨i, hi, rfl⟩ := List.getElem_of_mem hx
    have := hsz i hi
    rwa [List.getD_eq_getElem?_getD, List.getElem?_eq_getElem hi] at this)
  have HSM := Lib.hid hsm
  have HS := Lib.hid hS
  have hll := hS.length
  have HI5 : Hid ((Try.prog.info? 30).map (·.size) = some ([.int .u8 (k.toNat : Int), .bool x, .slice ad nd cd, .slice an nn cn, .slice ak nk ck] : List Value).length) := Lib.hid (by kernel_rfl)
  have HI5' : Hid ((Try.prog.info? 30).map (·.size) = some (#[.int .u8 (k.toNat : Int), .bool x, .slice ad nd cd, .slice an nn cn, .slice ak nk ck] : Array Value).size) := Lib.hid (by kernel_rfl)
  clear hB hsm hS hsz
  go_enter Try.func4, Try.ntmps4
  go_upto_region 1 with fail
  obtain ⟨w1, hw1⟩ : ∃ w1, w1 = w.alloc (.cells #[.int .u8 (k.toNat : Int), .bool x, .slice ad nd cd, .slice an nn cn, .slice ak nk ck] 30) := ⟨_, rfl⟩
  have g1 : Has w1 w.heap.size [.int .u8 (k.toNat : Int), .bool x, .slice ad nd cd, .slice an nn cn, .slice ak nk ck] 30 := by rw [hw1]; exact Has.new w _ _
  have b1 : Below w.heap.size w w1 := by rw [hw1]; exact (Below.refl _ _).alloc (Nat.le_refl _) _
  rw [← hw1]
  obtain ⟨G, hG⟩ : ∃ G, G = w.heap.size := ⟨_, rfl⟩
  rw [← hG] at g1 b1 ⊢
  have HG := Lib.hid hG
  have G1 := Lib.hid g1
  have B1 := Lib.hid b1
  have hg1 := g1.lt
  clear hw1 g1 b1 hG
  go_wp2_with (refine wpList_load_row rfl 30 _ rfl G rfl 30 #[.int .u8 (k.toNat : Int), .bool x, .slice ad nd cd, .slice an nn cn, .slice ak nk ck] (0, 0) _ G1.out Try.underlying30 rfl HI5'.out ?_)
  refine (great_sum (n + 1) _ _ w1 (IsT.later (by rw [← HG.out]; exact B1.out) _ _ _ HT.out) 500 (by decide) (by decide)).mono ?_
  rintro e w2 ⟨⟨gr, rfl, hgr⟩, b2⟩
  have G2 := Lib.hid (G1.out.below b2 G1.out.lt)
  have B2 : Hid (Below G w w2) := Lib.hid (B1.out.trans (b2.mono (by omega)))
  have hg2 := G2.out.lt
  clear b2 G1 B1
  cases gr with
  | true =>
    clear hgr
    go_wp2_with fail
    refine (awake_any w2).mono ?_
    rintro e w9 ⟨rfl, b9⟩
    have B9 : Hid (Below G w w9) := Lib.hid (B2.out.trans (b9.mono (by omega)))
    clear b9
    go_wp2_with fail
    refine bodyPost_ret (results_tmp rfl _ _ _) rfl ?_
    exact ⟨rfl, by rw [← HG.out]; exact B9.out⟩
  | false =>
    have hcn := hgr rfl
    clear hgr
    by_cases hm : m ≤ 30
    · have hm' : ¬ (30 : Int) < (m : Int) := by omega
      go_wp2_with (refine wpList_load_row rfl 30 _ rfl G rfl 30 #[.int .u8 (k.toNat : Int), .bool x, .slice ad nd cd, .slice an nn cn, .slice ak nk ck] (0, 0) _ G2.out Try.underlying30 rfl HI5'.out ?_)
      refine (rpaths_few (n + 1) _ _ w2 (IsT.later (by rw [← HG.out]; exact B2.out) _ _ _ HT.out) HSM.out (by omega)).mono ?_
      rintro e w3 ⟨v3, o3, rfl, ho3, hf3, hb3⟩
      obtain ⟨a3, c3, rfl, hS3, _⟩ := isS_of_owns ho3
      have HS3 := Lib.hid hS3
      have HF3 := Lib.hid hf3
      have G3 := Lib.hid (G2.out.below hb3 G2.out.lt)
      have B3 : Hid (Below G w w3) := Lib.hid (B2.out.trans (hb3.mono (by omega)))
      have hg3 := G3.out.lt
      have hat := hS3.at_
      have hol := hf3.1
      clear ho3 hS3 hf3 hb3 G2 B2
      go_wp2_with fail
      go_loopg [5, 7] (o3.length + 1) (fun gk v5 v7 wr => wr = w3 ∧ ∃ (i : Nat) (r : Int), gk = o3.length + 1 - i ∧ i ≤ o3.length ∧ v7 = .int .i64 i ∧ v5 = .int .i64 r)
      case atStart => exact ⟨rfl, 0, 0, rfl, Nat.zero_le _, rfl, rfl⟩
      case round =>
        obtain ⟨rfl, i, r, rfl, hin, rfl, rfl⟩ := hrel
        by_cases hlt : i < o3.length
        · rcases hat with h0 | ⟨b, off, rfl, hbb, hc⟩
          · omega
          have hii : (i : Int) < (o3.length : Int) := by omega
          have c1 := hc i hlt
          clear hc
          go_wp2_with fail
          go_roundg (o3.length + 1 - (i + 1))
          case rel => exact ⟨rfl, i + 1, _, rfl, by omega, by go_num, rfl⟩
          case measure => omega
        · obtain rfl : i = o3.length := by omega
          have hii : ¬ (o3.length : Int) < (o3.length : Int) := by omega
          clear hat
          go_wp2_with fail
          refine (awake_any wr).mono ?_
          rintro e w5 ⟨rfl, b5⟩
          have G5 := Lib.hid (G3.out.below b5 G3.out.lt)
          have B5 : Hid (Below G w w5) := Lib.hid (B3.out.trans (b5.mono (by omega)))
          have hg5 := G5.out.lt
          have cg2 := G5.out.cellAt (i := 2) rfl
          clear b5 G3 B3
          rcases Int.lt_or_le 20000 r with hr | hr
          · skip
            go_wp2_with fail
            refine (awake_any w5).mono ?_
            rintro e w9 ⟨rfl, b9⟩
            have B9 : Hid (Below G w w9) := Lib.hid (B5.out.trans (b9.mono (by omega)))
            clear b9
            go_wp2_with fail
            refine bodyPost_ret (results_tmp rfl _ _ _) rfl ?_
            exact ⟨rfl, by rw [← HG.out]; exact B9.out⟩
          · have hr' : ¬ (20000 : Int) < r := by omega
            rcases Nat.lt_or_ge 5000 nd with hd | hd
            · have hd' : (5000 : Int) < (nd : Int) := by omega
              go_wp2_with fail
              refine (awake_any w5).mono ?_
              rintro e w9 ⟨rfl, b9⟩
              have B9 : Hid (Below G w w9) := Lib.hid (B5.out.trans (b9.mono (by omega)))
              clear b9
              go_wp2_with fail
              refine bodyPost_ret (results_tmp rfl _ _ _) rfl ?_
              exact ⟨rfl, by rw [← HG.out]; exact B9.out⟩
            · have hd' : ¬ (5000 : Int) < (nd : Int) := by omega
              go_upto_region 11 with fail
              refine wp_region_held_drew (S := fun W => Has W G [.int .u8 (k.toNat : Int), .bool x, .slice ad nd cd, .slice an nn cn, .slice ak nk ck] 30) (by kernel_rfl) G5.out.drew (fun hHeld => ?_)
              obtain ⟨wd, hwd⟩ : ∃ wd, wd = w5.drew := ⟨_, rfl⟩
              have GD : Hid (Has wd G [.int .u8 (k.toNat : Int), .bool x, .slice ad nd cd, .slice an nn cn, .slice ak nk ck] 30) := Lib.hid (by rw [hwd]; exact G5.out.drew)
              have BD : Hid (Below G w wd) := Lib.hid (by rw [hwd]; exact B5.out.drew)
              rw [← hwd] at hHeld ⊢
              clear hwd
              have hu26 := Try.underlying30
              refine wpAnyH_take (i := 0) (oi := { dst := some 44, op := Op.load 30 (Operand.tmp 2), type := 30, pos := "law.go:40", after := #[], guard := none }) rfl (by kernel_rfl) (by kernel_rfl) (by kernel_rfl) (fun _ _ _ h => h)
                (yieldsIf_load_mid (by rfl) 30 (.tmp 2) rfl G (0) rfl [.int .u8 (k.toNat : Int), .bool x, .slice ad nd cd, .slice an nn cn, .slice ak nk ck] _ (fun _ h => rangeAt_has h) hu26 rfl HI5.out) hHeld ?_
              try simp only [Act.put, List.setIfInBounds_toArray, List.set_cons_zero, List.set_cons_succ]
              refine wpAnyH_take (i := 1) (oi := { dst := some 45, op := Op.move (Operand.tmp 1), type := 23, pos := "law.go:40", after := #[], guard := none }) (v := .slice a m cap) rfl (by kernel_rfl) (by kernel_rfl) (by kernel_rfl) (fun _ _ _ h => h)
                (Or.inl ⟨by rfl, by intro w hSw;  clear hSw; go_simp⟩) hHeld ?_
              try simp only [Act.put, List.setIfInBounds_toArray, List.set_cons_zero, List.set_cons_succ]
              refine wpAnyH_take (i := 3) (oi := { dst := some 47, op := Op.load 30 (Operand.tmp 2), type := 30, pos := "law.go:40", after := #[], guard := none }) rfl (by kernel_rfl) (by kernel_rfl) (by kernel_rfl) (fun _ _ _ h => h)
                (yieldsIf_load_mid (by rfl) 30 (.tmp 2) rfl G (0) rfl [.int .u8 (k.toNat : Int), .bool x, .slice ad nd cd, .slice an nn cn, .slice ak nk ck] _ (fun _ h => rangeAt_has h) hu26 rfl HI5.out) hHeld ?_
              try simp only [Act.put, List.setIfInBounds_toArray, List.set_cons_zero, List.set_cons_succ]
              refine wpAnyH_take (i := 4) (oi := { dst := some 48, op := Op.move (Operand.tmp 1), type := 23, pos := "law.go:40", after := #[], guard := none }) (v := .slice a m cap) rfl (by kernel_rfl) (by kernel_rfl) (by kernel_rfl) (fun _ _ _ h => h)
                (Or.inl ⟨by rfl, by intro w hSw;  clear hSw; go_simp⟩) hHeld ?_
              try simp only [Act.put, List.setIfInBounds_toArray, List.set_cons_zero, List.set_cons_succ]
              refine wpAnyH_ready (rs := [2]) (by kernel_rfl) (by simp) ?_
              refine AllReadyH.cons (o := { dst := some 46, op := Op.call { callee := Callee.value (Operand.func 14), args := #[Operand.tmp 44, Operand.tmp 45], argTypes := #[30, 23] }, type := 23, pos := "law.go:40", after := #[{ on := 0, ground := Ground.data }, { on := 1, ground := Ground.data }], guard := none }) rfl (fun K hK => ?_) AllReadyH.nil
              go_simp
              refine (tree_any (n + 1) _ _ a m cap l wd (IsT.later (by rw [← HG.out]; exact BD.out) _ _ _ HT.out) HSM.out (by omega) (HS.out.later (by rw [← HG.out]; exact BD.out)) (by omega)).mono ?_
              rintro e w6 hq
              have HQ := hq
              obtain ⟨v6, o6, rfl, _, _, _, b6⟩ := hq
              have HQ1 := Lib.hid HQ
              have G6 := Lib.hid (GD.out.below b6 GD.out.lt)
              have B6 : Hid (Below G w w6) := Lib.hid (BD.out.trans (b6.mono (Nat.le_of_lt GD.out.lt)))
              clear HQ b6
              go_wp2_with fail
              refine hK.out _ _ G6.out (fun hHeld2 => ?_)
              clear hK K hHeld
              try simp only [Act.put, List.setIfInBounds_toArray, List.set_cons_zero, List.set_cons_succ]
              refine wpAnyH_ready (rs := [5]) (by kernel_rfl) (by simp) ?_
              refine AllReadyH.cons (o := { dst := some 49, op := Op.call { callee := Callee.value (Operand.func 15), args := #[Operand.tmp 47, Operand.tmp 48], argTypes := #[30, 23] }, type := 23, pos := "law.go:40", after := #[{ on := 3, ground := Ground.data }, { on := 4, ground := Ground.data }, { on := 2, ground := Ground.chain }], guard := none }) rfl (fun K hK => ?_) AllReadyH.nil
              go_simp
              refine (rtree_any (n + 1) _ _ a m cap l w6 (IsT.later (by rw [← HG.out]; exact B6.out) _ _ _ HT.out) HSM.out (HS.out.later (by rw [← HG.out]; exact B6.out)) (by omega) HSZ.out).mono ?_
              rintro e w7 hq
              have HQ := hq
              obtain ⟨v7, o7, rfl, _, _, _, b7⟩ := hq
              have HQ2 := Lib.hid HQ
              have G7 := Lib.hid (G6.out.below b7 G6.out.lt)
              have B7 : Hid (Below G w w7) := Lib.hid (B6.out.trans (b7.mono (Nat.le_of_lt G6.out.lt)))
              clear HQ b7
              go_wp2_with fail
              refine hK.out _ _ G7.out (fun hHeld3 => ?_)
              clear hK K hHeld2
              try simp only [Act.put, List.setIfInBounds_toArray, List.set_cons_zero, List.set_cons_succ]
              refine wpAnyH_ready (rs := [6]) (by kernel_rfl) (by simp) ?_
              refine AllReadyH.cons (o := { dst := some 50, op := Op.call { callee := Callee.value (Operand.func 9), args := #[Operand.tmp 46, Operand.tmp 49], argTypes := #[23, 23] }, type := 4, pos := "law.go:40", after := #[{ on := 2, ground := Ground.data }, { on := 5, ground := Ground.data }, { on := 5, ground := Ground.chain }], guard := none }) rfl (fun K hK => ?_) AllReadyH.nil
              go_simp
              refine (same_ans HQ1.out HQ2.out (by omega)).mono ?_
              rintro e w8 ⟨rfl, b8⟩
              have G8 := Lib.hid (G7.out.below b8 G7.out.lt)
              have B8 : Hid (Below G w w8) := Lib.hid (B7.out.trans (b8.mono (Nat.le_of_lt G7.out.lt)))
              clear b8
              go_wp2_with fail
              refine hK.out _ _ G8.out (fun hHeld4 => ?_)
              clear hK K hHeld3
              try simp only [Act.put, List.setIfInBounds_toArray, List.set_cons_zero, List.set_cons_succ]
              refine wpAnyH_take (i := 7) (oi := { dst := some 4, op := Op.assign (Operand.tmp 50), type := 4, pos := "law.go:40", after := #[{ on := 6, ground := Ground.data }, { on := 6, ground := Ground.chain }, { on := 0, ground := Ground.phase }, { on := 1, ground := Ground.phase }, { on := 2, ground := Ground.phase }, { on := 3, ground := Ground.phase }, { on := 4, ground := Ground.phase }, { on := 5, ground := Ground.phase }, { on := 6, ground := Ground.phase }], guard := none }) (v := .bool true) rfl (by kernel_rfl) (by kernel_rfl) (by kernel_rfl) (fun _ _ _ h => h)
                (Or.inl ⟨by rfl, by intro w hSw;  clear hSw; go_simp⟩) hHeld4 ?_
              try simp only [Act.put, List.setIfInBounds_toArray, List.set_cons_zero, List.set_cons_succ]
              refine wpAnyH_done (by kernel_rfl) ?_ _
              clear hHeld4
              go_wp2_with fail
              refine bodyPost_ret (results_tmp rfl _ _ _) rfl ?_
              exact ⟨rfl, by rw [← HG.out]; exact B8.out⟩
    · have hm' : (30 : Int) < (m : Int) := by omega
      go_wp2_with fail
      refine (awake_any w2).mono ?_
      rintro e w9 ⟨rfl, b9⟩
      have B9 : Hid (Below G w w9) := Lib.hid (B2.out.trans (b9.mono (by omega)))
      clear b9
      go_wp2_with fail
      refine bodyPost_ret (results_tmp rfl _ _ _) rfl ?_
      exact ⟨rfl, by rw [← HG.out]; exact B9.out⟩

end Go.Proofs.Ytcmgafehidgkmaa
