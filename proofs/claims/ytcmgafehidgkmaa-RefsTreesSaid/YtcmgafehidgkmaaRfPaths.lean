/-
  The reference's Paths ends, with no more texts than there are parts, of bounded lengths. Conditions: bounds on the parts.
-/
import Derived.Test.YtcmgafehidgkmaaRfGreat
namespace Go.Proofs.Ytcmgafehidgkmaa
open Go.RowKit
set_option linter.unusedVariables false

def capS : Nat := 281474976710656
theorem capS_lt {c n : Nat} (hc : c ≤ 1000) (hn : n ≤ c * capS) : n ≤ 281474976710656000 := by
  have h := Nat.mul_le_mul_right capS hc
  have e : 1000 * capS = 281474976710656000 := by decide
  omega
theorem capS_one {n c m : Nat} (h1 : n ≤ 140737488355328) (h2 : m ≤ c * capS) : n + 1 + m ≤ (c + 1) * capS := by
  rw [Nat.succ_mul]
  have e : capS = 281474976710656 := rfl
  omega
/-- What is asked of the texts of so many parts. -/
def Few (c : Nat) (o : List ByteArray) : Prop := o.length ≤ c ∧ ∀ s ∈ o, s.size ≤ c * capS
theorem Few.push {c C : Nat} {o : List ByteArray} {x : ByteArray} (h : Few c o) (hx : x.size ≤ C * capS) (hC : c + 1 ≤ C) : Few C (o ++ [x]) := by
  refine ⟨?_, fun s hs => ?_⟩
  · have := h.1
    simp only [List.length_append, List.length_cons, List.length_nil]; omega
  · rcases List.mem_append.1 hs with hs | hs
    · exact Nat.le_trans (h.2 s hs) (Nat.mul_le_mul_right _ (by omega))
    · rw [List.mem_singleton.1 hs]; exact hx

theorem isS_grown {w w' : World} {row : Option Nat} {a : Option Addr} {n c : Nat} {l : List ByteArray} (h : IsS w a n c l) (hg : w.grownBy w' row) (hne : ∀ b off, a = some ⟨b, off, none⟩ → some b ≠ row) : IsS w' a n c l := by
  refine ⟨h.length, ?_, h.nil, h.room⟩
  rcases h.at_ with h0 | ⟨b, off, e, hlt, hc⟩
  · exact .inl h0
  · exact .inr ⟨b, off, e, Nat.lt_of_lt_of_le hlt hg.size, fun i hi => hg.cell (a := ⟨b, off + i, none⟩) (hc i hi) (hne b off e)⟩

set_option maxRecDepth 100000 in
set_option maxHeartbeats 8000000 in
theorem rpaths_few : ∀ (n : Nat) (cs : List Value) (t : T) (w : World), IsT w n cs t → Small t → cntT t ≤ 1000 →
    Calls Try.prog 13 #[.agg cs.toArray] w fun e w' => ∃ (v : Value) (o : List ByteArray), e = .returned v ∧ w'.ownsRow w.heap.size 9 1 v o.length (o.map Value.string) ∧ Few (cntT t - 1) o ∧ Below w.heap.size w w'
  | 0, _, _, _, ht => absurd ht (by simp [IsT])
  | n + 1, cs, .mk k x d ns ks, w, ht => by
    intro hsm hcn
    obtain ⟨i0, hi, hz0, hz1, hz2⟩ := info_parts info_str
    have HI := Lib.hid hi
    have HZ0 := Lib.hid hz0
    have HZ1 := Lib.hid hz1
    have HZ2 := Lib.hid hz2
    obtain ⟨ad, nd, cd, an, nn, cn, ak, nk, ck, rfl, hB, hS, hK⟩ := ht
    have HSS := Lib.hid hS
    have HKK := Lib.hid hK
    have HSM := Lib.hid hsm
    have hnl := hS.length
    have hkl := hK.length
    have hck : 1 + cntL ks ≤ 1000 := by rw [← cntT_mk]; exact hcn
    have hct : cntT (.mk k x d ns ks) - 1 = cntL ks := by rw [cntT_mk]; omega
    rw [hct]
    have hkk := cntL_len ks
    clear hB hS hK hsm hi hz0 hz1 hz2 hcn hct
    go_enter Try.func13, Try.ntmps13
    go_wp2_with fail
    obtain ⟨w1, hw1⟩ : ∃ w1, w1 = w.alloc (.cells #[.int .u8 (k.toNat : Int), .bool x, .slice ad nd cd, .slice an nn cn, .slice ak nk ck] 30) := ⟨_, rfl⟩
    have g1 : Has w1 w.heap.size [.int .u8 (k.toNat : Int), .bool x, .slice ad nd cd, .slice an nn cn, .slice ak nk ck] 30 := by rw [hw1]; exact Has.new w _ _
    have b1 : Below w.heap.size w w1 := by rw [hw1]; exact (Below.refl _ _).alloc (Nat.le_refl _) _
    rw [← hw1]
    obtain ⟨g, hg⟩ : ∃ g, g = w.heap.size := ⟨_, rfl⟩
    rw [← hg] at g1 b1 ⊢
    have HG := Lib.hid hg
    have G1 := Lib.hid g1
    have B1 := Lib.hid b1
    clear hg hw1 g1 b1
    go_loopg [3, 4] (nk + 1) (fun gk v3 v4 wr => ∃ (i : Nat) (o : List ByteArray), gk = nk + 1 - i ∧ i ≤ nk ∧ v4 = .int .i64 i ∧ wr.ownsRow g 9 1 v3 o.length (o.map Value.string) ∧ Few (cntL (ks.take i)) o ∧ Has wr g [.int .u8 (k.toNat : Int), .bool x, .slice ad nd cd, .slice an nn cn, .slice ak nk ck] 30 ∧ Below g w wr)
    case atStart => exact ⟨0, [], rfl, Nat.zero_le _, rfl, World.ownsRow_nil _ _ _ _, ⟨by simp, by simp⟩, G1.out, B1.out⟩
    case round =>
      clear G1 B1
      obtain ⟨i, o, rfl, hin, rfl, ho, hfw, hgr, hbr⟩ := hrel
      obtain ⟨ov, oc, rfl⟩ := row_form2 ho
      have HO := Lib.hid ho
      have HFW := Lib.hid hfw
      have HGR := Lib.hid hgr
      have HBR := Lib.hid hbr
      have cg3 := hgr.cellAt (i := 3) rfl
      have cg4 := hgr.cellAt (i := 4) rfl
      have hgl := hgr.lt
      clear ho hfw hgr hbr
      by_cases hlt : i < nk
      · have hii : (i : Int) < (nk : Int) := by omega
        by_cases hln : i < nn
        · have hin2 : (i : Int) < (nn : Int) := by omega
          rcases HSS.out.at_ with h0 | ⟨b, off, rfl, hbb, hc⟩
          · omega
          rcases HKK.out.at_ with h0 | ⟨bk, offk, rfl, hbk, hck2⟩
          · omega
          obtain ⟨c0, c1, c2, c3, c4, hR, e0, e1, e2, e3, e4⟩ := hck2 i hlt
          have hbg : bk < g := by rw [HG.out]; exact hbk
          have HBBG : Hid (b < g) := Lib.hid (by rw [HG.out]; exact hbb)
          obtain ⟨y, hy⟩ : ∃ y, y = ns.getD i ⟨#[]⟩ := ⟨_, rfl⟩
          have hcy : w.cell? ⟨b, off + i, none⟩ = some (.string y) := by rw [hy]; exact hc i hln
          have HCY := Lib.hid hcy
          have cy : wr.cell? ⟨b, off + i, none⟩ = some (.string y) := (HBR.out.cell (p := ⟨b, off + i, none⟩) HBBG.out).trans hcy
          have hys : y.size ≤ 140737488355328 := by
            rw [hy]; cases HSM.out with | mk h1 _ _ => exact h1 i (by omega)
          have hxi := cntT_pos (ks.getD i default)
          have hct := cntL_take (l := ks) (i := i) (by omega)
          have hcl : cntL (ks.take (i + 1)) + cntL (ks.drop (i + 1)) = cntL ks := by rw [← cntL_append, List.take_append_drop]
          obtain ⟨L, hL⟩ : ∃ L, L = [c0, c1, c2, c3, c4] := ⟨_, rfl⟩
          have hrange : ∀ W, Below g w W → W.rangeAt bk (offk + i * 5) L := fun W hW j v hv => by
            rw [hL] at hv
            rw [Nat.add_assoc]
            match j, hv with
            | 0, hv => cases hv; exact (hW.cell (p := ⟨bk, offk + (i * 5 + 0), none⟩) hbg).trans e0
            | 1, hv => cases hv; exact (hW.cell (p := ⟨bk, offk + (i * 5 + 1), none⟩) hbg).trans e1
            | 2, hv => cases hv; exact (hW.cell (p := ⟨bk, offk + (i * 5 + 2), none⟩) hbg).trans e2
            | 3, hv => cases hv; exact (hW.cell (p := ⟨bk, offk + (i * 5 + 3), none⟩) hbg).trans e3
            | 4, hv => cases hv; exact (hW.cell (p := ⟨bk, offk + (i * 5 + 4), none⟩) hbg).trans e4
            | j + 5, hv => simp at hv
          rw [← hL] at hR
          have HR := Lib.hid hR
          have HRANGE := Lib.hid hrange
          have hll : Hid ((Try.prog.info? 30).map (·.size) = some L.length) := Lib.hid (by rw [hL]; kernel_rfl)
          have HKS := Lib.hid (small_kid HSM.out (i := i) (by omega))
          obtain ⟨C, hC⟩ : ∃ C, C = cntL (ks.take i) := ⟨_, rfl⟩
          rw [← hC] at HFW hct
          have HCC := Lib.hid hC
          have hol := HFW.out.1
          clear hc hck2 hR e0 e1 e2 e3 e4 hrange hL hy hcy hbb hbk hC
          go_wp2_with (at_builtin; go_must (refine wpList_append_strs rfl (.tmp 21) (.tmp 27) 23 rfl g 9 i0 Try.underlying23 HI.out HZ0.out HZ1.out HZ2.out _ o.length o rfl (HO.out.alloc _) (some ⟨wr.heap.size, 0, none⟩) 1 1 [y] rfl (isS_one (Has.new wr [.string y] 9)) (by omega) (by simp; omega) ?_))
          intro v5 w5 ho5 hg5
          have hb5 : Below g w w5 := below_grown (HBR.out.alloc (by omega) _) (by simp; omega) (HO.out.alloc _) hg5
          have ho5' : w5.ownsRow g 9 1 v5 (o.length + 1) ((o ++ [y]).map Value.string) := by first | exact ho5 | (rw [List.map_append]; exact ho5)
          have hgw5 : Has w5 g _ 30 := (hg5.block g (HGR.out.alloc (.cells #[.string y] 9)).lt (fun e => own_ne (HO.out.alloc (.cells #[.string y] 9)) (HGR.out.alloc _) (by decide) e.symm)).trans (HGR.out.alloc _)
          have HB5 := Lib.hid hb5
          have HO5 := Lib.hid ho5'
          have HG5 := Lib.hid hgw5
          have hgl5 := hgw5.lt
          have cg3' := hgw5.cellAt (i := 3) rfl
          have cg4' := hgw5.cellAt (i := 4) rfl
          have hF5 : Few (C + 1) (o ++ [y]) := HFW.out.push (by have := capS_one (c := C) (m := 0) hys (by omega); omega) (Nat.le_refl _)
          have HF5 := Lib.hid hF5
          clear hb5 ho5 ho5' hgw5 hg5 HO HGR HBR HFW cg3 cg4 cy hF5
          go_wp2_with (refine wpList_load_mid rfl 30 _ rfl bk (offk + i * 5) rfl L _ (HRANGE.out w5 HB5.out) Try.underlying30 rfl hll.out ?_)
          refine (rpaths_few n L (ks.getD i default) w5 (IsT.later (by rw [← HG.out]; exact HB5.out) _ _ _ HR.out) HKS.out (by omega)).mono ?_
          rintro e w6 ⟨v6, o6, rfl, ho6, hf6, hb6⟩
          obtain ⟨a6, c6, rfl, hS6, _⟩ := isS_of_owns ho6
          have HS6 := Lib.hid hS6
          have HF6 := Lib.hid hf6
          have HO6 := Lib.hid (own_later HO5.out hb6)
          have HG6 := Lib.hid (HG5.out.below hb6 hgl5)
          have HB6 : Hid (Below g w w6) := Lib.hid (HB5.out.trans (hb6.mono (by omega)))
          have hgl6 : g < w6.heap.size := Nat.lt_of_lt_of_le hgl5 hb6.size
          have ho6l := hf6.1
          have hat6 := hS6.at_
          have HV5 : Hid (∀ q, v5.ownBlock = some q → q < w5.heap.size) := Lib.hid (fun q hq => (HO5.out.lt q hq).2)
          obtain ⟨m6, hm6⟩ : ∃ m6, m6 = o6.length := ⟨_, rfl⟩
          rw [← hm6] at HS6 ho6l hat6 ⊢
          have HM6 := Lib.hid hm6
          have ho6' : ∀ b6 off6, a6 = some ⟨b6, off6, none⟩ → m6 ≠ 0 → b6 < w6.heap.size := fun b6 off6 e h0 => by
            rcases hat6 with h | ⟨b', o', e', hb', _⟩
            · exact absurd h h0
            · rw [e] at e'; injection e' with e'; injection e' with e'; rw [e']; exact hb'
          have HF0 : Hid (w6.ownsRow w5.heap.size 9 1 (.slice a6 m6 c6) m6 (o6.map Value.string)) := Lib.hid (by rw [hm6]; exact ho6)
          clear ho6 hf6 hb6 hS6 HO5 HG5 HB5 cg3' cg4' hm6 ho6' hat6
          go_wp2_with fail
          go_loopg [3, 6] (m6 + 1) (fun gk v3 v6 wr => ∃ (j : Nat) (o' : List ByteArray), gk = m6 + 1 - j ∧ j ≤ m6 ∧ v6 = .int .i64 j ∧ wr.ownsRow g 9 1 v3 o'.length (o'.map Value.string) ∧ o'.length ≤ C + 1 + j ∧ Hid (∀ s ∈ o', s.size ≤ (C + cntT (ks.getD i default)) * capS) ∧ Has wr g [.int .u8 (k.toNat : Int), .bool x, .slice ad nd cd, .slice (some ⟨b, off, none⟩) nn cn, .slice (some ⟨bk, offk, none⟩) nk ck] 30 ∧ Below g w wr ∧ IsS wr a6 m6 c6 o6 ∧ Hid (m6 ≠ 0 → ∀ b off, a6 = some ⟨b, off, none⟩ → v3.ownBlock ≠ some b))
          case atStart =>
            refine ⟨0, o ++ [y], rfl, Nat.zero_le _, rfl, by rw [List.length_append]; exact HO6.out, by have := HF5.out.1; omega, Lib.hid (fun s hs => Nat.le_trans (HF5.out.2 s hs) (Nat.mul_le_mul_right _ (by omega))), HG6.out, HB6.out, HS6.out, Lib.hid (fun h0 b off e e2 => ?_)⟩
            have h1 := HV5.out b e2
            have h2 := (HF0.out.lt b (by rw [e]; rfl)).1
            omega
          case round =>
            clear HO6 HG6 HB6 HS6 HF0
            obtain ⟨j, o', rfl, hjm, rfl, ho, hol', hsz', hgr, hbr, hs6, hne⟩ := hrel
            obtain ⟨ov', oc', rfl⟩ := row_form2 ho
            have HO := Lib.hid ho
            have HGR := Lib.hid hgr
            have HBR := Lib.hid hbr
            have HS6 := Lib.hid hs6
            have cg3 := hgr.cellAt (i := 3) rfl
            have cg4 := hgr.cellAt (i := 4) rfl
            have hgl := hgr.lt
            have hat6 := hs6.at_
            clear ho hgr hbr hs6
            by_cases hlt2 : j < m6
            · rcases hat6 with h0 | ⟨b6, off6, rfl, hb6, hc6⟩
              · omega
              have hjj : (j : Int) < (m6 : Int) := by omega
              obtain ⟨z, hz⟩ : ∃ z, z = o6.getD j ⟨#[]⟩ := ⟨_, rfl⟩
              have cz : wr.cell? ⟨b6, off6 + j, none⟩ = some (.string z) := by rw [hz]; exact hc6 j hlt2
              have cy : wr.cell? ⟨b, off + i, none⟩ = some (.string y) := (HBR.out.cell (p := ⟨b, off + i, none⟩) HBBG.out).trans HCY.out
              have hzm : z ∈ o6 := by
                rw [hz, List.getD_eq_getElem?_getD, List.getElem?_eq_getElem (by rw [← HM6.out]; exact hlt2)]; exact List.getElem_mem _
              have hzs := HF6.out.2 z hzm
              have hzb := capS_lt (by omega) hzs
              have hv := hne.out (by omega) b6 off6 rfl
              have HNV := Lib.hid hv
              have HB6B : Hid (b6 < wr.heap.size) := Lib.hid hb6
              have n1 : ¬ 9223372036854775807 < y.size + 1 := by omega
              have n2 : ¬ 9223372036854775807 < y.size + 1 + z.size := by omega
              have HZS := Lib.hid hzs
              clear hc6 hz hzm hb6 hv hzs hne
              go_upto_region 10 with fail
              refine wp_region_held_drew (S := fun W => Has W g [.int .u8 (k.toNat : Int), .bool x, .slice ad nd cd, .slice (some ⟨b, off, none⟩) nn cn, .slice (some ⟨bk, offk, none⟩) nk ck] 30 ∧ W.cell? ⟨b, off + i, none⟩ = some (.string y) ∧ W.cell? ⟨b6, off6 + j, none⟩ = some (.string z)) (by kernel_rfl) ⟨HGR.out.drew, cy, cz⟩ (fun hHeld => ?_)
              obtain ⟨wd, hwd⟩ : ∃ wd, wd = wr.drew := ⟨_, rfl⟩
              have HGD : Hid (Has wd g [.int .u8 (k.toNat : Int), .bool x, .slice ad nd cd, .slice (some ⟨b, off, none⟩) nn cn, .slice (some ⟨bk, offk, none⟩) nk ck] 30) := Lib.hid (by rw [hwd]; exact HGR.out.drew)
              have HBD : Hid (Below g w wd) := Lib.hid (by rw [hwd]; exact HBR.out.drew)
              have HOD : Hid (wd.ownsRow g 9 1 (.slice ov' o'.length oc') o'.length (o'.map Value.string)) := Lib.hid (by rw [hwd]; exact HO.out)
              have HSD : Hid (IsS wd (some ⟨b6, off6, none⟩) m6 c6 o6) := Lib.hid (by rw [hwd]; exact HS6.out.later ((Below.refl _ _).drew))
              have HCY2 : Hid (wd.cell? ⟨b, off + i, none⟩ = some (.string y)) := Lib.hid (by rw [hwd]; exact cy)
              have HCZ2 : Hid (wd.cell? ⟨b6, off6 + j, none⟩ = some (.string z)) := Lib.hid (by rw [hwd]; exact cz)
              have hgd : g < wd.heap.size := HGD.out.lt
              have hb6d : b6 < wd.heap.size := by rw [hwd]; exact HB6B.out
              rw [← hwd] at hHeld ⊢
              clear hwd cy cz HGR HBR HO HS6
              refine wpAnyH_take (i := 0) (oi := { dst := some 41, op := Op.move (Operand.tmp 3), type := 23, pos := "ref.go:157", after := #[], guard := none }) (v := .slice ov' o'.length oc') rfl (by kernel_rfl) (by kernel_rfl) (by kernel_rfl) (fun _ _ _ h => h)
                (Or.inl ⟨by rfl, by intro w hSw;  clear hSw; go_simp⟩) hHeld ?_
              try simp only [Act.put, List.setIfInBounds_toArray, List.set_cons_zero, List.set_cons_succ]
              refine wpAnyH_take (i := 1) (oi := { dst := some 42, op := Op.fieldAddr 30 (Operand.tmp 1) 3, type := 0, pos := "ref.go:157", after := #[], guard := none }) (v := .pointer (some ⟨g, 3, none⟩)) rfl (by kernel_rfl) (by kernel_rfl) (by kernel_rfl) (fun _ _ _ h => h)
                (Or.inl ⟨by rfl, by intro w hSw;  clear hSw; go_simp⟩) hHeld ?_
              try simp only [Act.put, List.setIfInBounds_toArray, List.set_cons_zero, List.set_cons_succ]
              refine wpAnyH_take (i := 2) (oi := { dst := some 43, op := Op.load 23 (Operand.tmp 42), type := 23, pos := "ref.go:157", after := #[{ on := 1, ground := Ground.data }], guard := none }) (v := .slice (some ⟨b, off, none⟩) nn cn) rfl (by kernel_rfl) (by kernel_rfl) (by kernel_rfl) (fun _ _ _ h => h)
                (Or.inl ⟨by rfl, by intro w hSw; have hcl := hSw.1.cellAt (i := 3) rfl; clear hSw; go_simp⟩) hHeld ?_
              try simp only [Act.put, List.setIfInBounds_toArray, List.set_cons_zero, List.set_cons_succ]
              refine wpAnyH_take (i := 3) (oi := { dst := some 44, op := Op.move (Operand.tmp 4), type := 3, pos := "ref.go:157", after := #[], guard := none }) (v := .int .i64 (i : Int)) rfl (by kernel_rfl) (by kernel_rfl) (by kernel_rfl) (fun _ _ _ h => h)
                (Or.inl ⟨by rfl, by intro w hSw;  clear hSw; go_simp⟩) hHeld ?_
              try simp only [Act.put, List.setIfInBounds_toArray, List.set_cons_zero, List.set_cons_succ]
              refine wpAnyH_take (i := 4) (oi := { dst := some 45, op := Op.indexAddr 23 (Operand.tmp 43) (Operand.tmp 44), type := 0, pos := "ref.go:157", after := #[{ on := 2, ground := Ground.data }, { on := 3, ground := Ground.data }], guard := none }) (v := .pointer (some ⟨b, off + i, none⟩)) rfl (by kernel_rfl) (by kernel_rfl) (by kernel_rfl) (fun _ _ _ h => h)
                (Or.inl ⟨by rfl, by intro w hSw;  clear hSw; go_simp⟩) hHeld ?_
              try simp only [Act.put, List.setIfInBounds_toArray, List.set_cons_zero, List.set_cons_succ]
              refine wpAnyH_take (i := 5) (oi := { dst := some 46, op := Op.load 9 (Operand.tmp 45), type := 9, pos := "ref.go:157", after := #[{ on := 4, ground := Ground.data }], guard := none }) (v := .string y) rfl (by kernel_rfl) (by kernel_rfl) (by kernel_rfl) (fun _ _ _ h => h)
                (Or.inl ⟨by rfl, by intro w hSw; have hc3 := hSw.2.1; clear hSw; go_simp⟩) hHeld ?_
              try simp only [Act.put, List.setIfInBounds_toArray, List.set_cons_zero, List.set_cons_succ]
              refine wpAnyH_take (i := 6) (oi := { dst := some 47, op := Op.binOp BinOp.add 9 (Operand.tmp 46) (Operand.const (Value.string { data := #[47] })) 9, type := 9, pos := "ref.go:157", after := #[{ on := 5, ground := Ground.data }], guard := none }) (v := .string (y ++ ⟨#[47]⟩)) rfl (by kernel_rfl) (by kernel_rfl) (by kernel_rfl) (fun _ _ _ h => h)
                (Or.inl ⟨by rfl, by intro w hSw;  clear hSw; go_simp⟩) hHeld ?_
              try simp only [Act.put, List.setIfInBounds_toArray, List.set_cons_zero, List.set_cons_succ]
              refine wpAnyH_take (i := 7) (oi := { dst := some 48, op := Op.move (Operand.tmp 5), type := 23, pos := "ref.go:157", after := #[], guard := none }) (v := .slice (some ⟨b6, off6, none⟩) m6 c6) rfl (by kernel_rfl) (by kernel_rfl) (by kernel_rfl) (fun _ _ _ h => h)
                (Or.inl ⟨by rfl, by intro w hSw;  clear hSw; go_simp⟩) hHeld ?_
              try simp only [Act.put, List.setIfInBounds_toArray, List.set_cons_zero, List.set_cons_succ]
              refine wpAnyH_take (i := 8) (oi := { dst := some 49, op := Op.move (Operand.tmp 6), type := 3, pos := "ref.go:157", after := #[], guard := none }) (v := .int .i64 (j : Int)) rfl (by kernel_rfl) (by kernel_rfl) (by kernel_rfl) (fun _ _ _ h => h)
                (Or.inl ⟨by rfl, by intro w hSw;  clear hSw; go_simp⟩) hHeld ?_
              try simp only [Act.put, List.setIfInBounds_toArray, List.set_cons_zero, List.set_cons_succ]
              refine wpAnyH_take (i := 9) (oi := { dst := some 50, op := Op.indexAddr 23 (Operand.tmp 48) (Operand.tmp 49), type := 0, pos := "ref.go:157", after := #[{ on := 7, ground := Ground.data }, { on := 8, ground := Ground.data }], guard := none }) (v := .pointer (some ⟨b6, off6 + j, none⟩)) rfl (by kernel_rfl) (by kernel_rfl) (by kernel_rfl) (fun _ _ _ h => h)
                (Or.inl ⟨by rfl, by intro w hSw;  clear hSw; go_simp⟩) hHeld ?_
              try simp only [Act.put, List.setIfInBounds_toArray, List.set_cons_zero, List.set_cons_succ]
              refine wpAnyH_take (i := 10) (oi := { dst := some 51, op := Op.load 9 (Operand.tmp 50), type := 9, pos := "ref.go:157", after := #[{ on := 9, ground := Ground.data }], guard := none }) (v := .string z) rfl (by kernel_rfl) (by kernel_rfl) (by kernel_rfl) (fun _ _ _ h => h)
                (Or.inl ⟨by rfl, by intro w hSw; have hc3 := hSw.2.2; clear hSw; go_simp⟩) hHeld ?_
              try simp only [Act.put, List.setIfInBounds_toArray, List.set_cons_zero, List.set_cons_succ]
              refine wpAnyH_take (i := 11) (oi := { dst := some 52, op := Op.binOp BinOp.add 9 (Operand.tmp 47) (Operand.tmp 51) 9, type := 9, pos := "ref.go:157", after := #[{ on := 6, ground := Ground.data }, { on := 10, ground := Ground.data }], guard := none }) (v := .string (y ++ ⟨#[47]⟩ ++ z)) rfl (by kernel_rfl) (by kernel_rfl) (by kernel_rfl) (fun _ _ _ h => h)
                (Or.inl ⟨by rfl, by intro w hSw;  clear hSw; go_simp⟩) hHeld ?_
              try simp only [Act.put, List.setIfInBounds_toArray, List.set_cons_zero, List.set_cons_succ]
              refine wpAnyH_ready (rs := [12]) (by kernel_rfl) (by simp) ?_
              refine AllReadyH.cons (o := { dst := some 53, op := Op.buildSlice 23 1 #[(0, Operand.tmp 52)], type := 23, pos := "ref.go:157", after := #[{ on := 11, ground := Ground.data }], guard := none }) rfl (fun K hK => ?_) AllReadyH.nil
              go_simp
              obtain ⟨X, hX⟩ : ∃ X : ByteArray, X = y ++ ⟨#[47]⟩ ++ z := ⟨_, rfl⟩
              rw [← hX]
              have hXs : X.size = y.size + 1 + z.size := by rw [hX, ByteArray.size_append, ByteArray.size_append]; rfl
              have hba : Below wd.heap.size wd (wd.alloc (.cells #[.string X] 9)) := (Below.refl _ _).alloc (Nat.le_refl _) _
              refine hK.out _ _ ⟨HGD.out.alloc _, (hba.cell (p := ⟨b, off + i, none⟩) (Nat.lt_trans HBBG.out hgd)).trans HCY2.out, (hba.cell (p := ⟨b6, off6 + j, none⟩) hb6d).trans HCZ2.out⟩ (fun hHeld2 => ?_)
              have HXS := Lib.hid hXs
              have HXE := Lib.hid hX
              clear hK K hHeld hX hXs
              try simp only [Act.put, List.setIfInBounds_toArray, List.set_cons_zero, List.set_cons_succ]
              refine wpAnyH_ready (rs := [13]) (by kernel_rfl) (by simp) ?_
              refine AllReadyH.cons (o := { dst := some 54, op := Op.call { callee := Callee.builtin Builtin.append, args := #[Operand.tmp 41, Operand.tmp 53], argTypes := #[23, 23] }, type := 23, pos := "ref.go:157", after := #[{ on := 0, ground := Ground.data }, { on := 12, ground := Ground.data }], guard := none }) rfl (fun K hK => ?_) AllReadyH.nil
              rw [if_pos (by rfl)]
              refine wp_append_lies _ (.tmp 41) (.tmp 53) 23 rfl g 9 i0 (.string ByteArray.empty) 1 16 Try.underlying23 HI.out HZ0.out HZ1.out HZ2.out rfl (by omega) (.slice ov' o'.length oc') o'.length (o'.map Value.string) rfl (HOD.out.alloc _) ⟨wd.heap.size, 0, none⟩ 1 1 [.string X] rfl rfl (fun q u hq => ?_) (fun u hu => ?_) (by omega) (by unfold maxLen; omega) (by omega) (by simp; omega) _ rfl (fun g4 cap4 w4 h4o h4g h4f h4l => ?_)
              · rw [Addr.add_mid]; exact (Has.new wd [.string X] _).cellAt (by rw [Nat.zero_add]; exact hq)
              · simp only [List.mem_cons, List.not_mem_nil, or_false] at hu; rcases hu with rfl; rfl
              have h4b : Below g w w4 := (HBD.out.alloc (by omega) _).grown h4g (by simp; omega) (fun k hk => (HOD.out.lt k hk).1)
              have h4G : Has w4 g [.int .u8 (k.toNat : Int), .bool x, .slice ad nd cd, .slice (some ⟨b, off, none⟩) nn cn, .slice (some ⟨bk, offk, none⟩) nk ck] 30 := (h4g.block g (HGD.out.alloc (.cells #[.string X] 9)).lt (fun e => own_ne (HOD.out.alloc (.cells #[.string X] 9)) (HGD.out.alloc _) (by decide) e.symm)).trans (HGD.out.alloc _)
              have h4S : IsS w4 (some ⟨b6, off6, none⟩) m6 c6 o6 := isS_grown (HSD.out.later hba) h4g (fun b' off' e => by
                injection e with e
                injection e with e
                rw [← e]; exact fun e2 => HNV.out e2.symm)
              have h4c : w4.cell? ⟨b, off + i, none⟩ = some (.string y) := h4g.cell (a := ⟨b, off + i, none⟩) ((hba.cell (p := ⟨b, off + i, none⟩) (Nat.lt_trans HBBG.out hgd)).trans HCY2.out) (fun e => by
                have h1 := (HOD.out.lt b e.symm).1
                have h2 := HBBG.out
                omega)
              have h4d : w4.cell? ⟨b6, off6 + j, none⟩ = some (.string z) := h4g.cell (a := ⟨b6, off6 + j, none⟩) ((hba.cell (p := ⟨b6, off6 + j, none⟩) hb6d).trans HCZ2.out) (fun e => HNV.out e.symm)
              have H4O : Hid (w4.ownsRow g 9 1 (.slice (some ⟨g4, 0, none⟩) (o'.length + 1) cap4) (o'.length + 1) ((o' ++ [X]).map Value.string)) := Lib.hid (by first | exact h4o | (rw [List.map_append]; exact h4o))
              have H4B := Lib.hid h4b
              have H4G := Lib.hid h4G
              have H4S := Lib.hid h4S
              have hgne : g4 ≠ b6 := by
                intro e
                rcases h4f with h | h
                · exact HNV.out (by rw [h, e])
                · have h2 : g4 = wd.heap.size + 1 := by simpa using h
                  omega
              have HGNE := Lib.hid hgne
              refine hK.out _ _ ⟨h4G, h4c, h4d⟩ (fun hHeld3 => ?_)
              clear hK K hHeld2 h4o h4g h4f h4l h4b h4G h4S h4c h4d hba hgne
              try simp only [Act.put, List.setIfInBounds_toArray, List.set_cons_zero, List.set_cons_succ]
              refine wpAnyH_take (i := 14) (oi := { dst := some 3, op := Op.assign (Operand.tmp 54), type := 23, pos := "ref.go:157", after := #[{ on := 13, ground := Ground.data }, { on := 13, ground := Ground.chain }, { on := 0, ground := Ground.phase }, { on := 1, ground := Ground.phase }, { on := 2, ground := Ground.phase }, { on := 3, ground := Ground.phase }, { on := 4, ground := Ground.phase }, { on := 5, ground := Ground.phase }, { on := 6, ground := Ground.phase }, { on := 7, ground := Ground.phase }, { on := 8, ground := Ground.phase }, { on := 9, ground := Ground.phase }, { on := 10, ground := Ground.phase }, { on := 11, ground := Ground.phase }, { on := 12, ground := Ground.phase }, { on := 13, ground := Ground.phase }], guard := none }) (v := .slice (some ⟨g4, 0, none⟩) (o'.length + 1) cap4) rfl (by kernel_rfl) (by kernel_rfl) (by kernel_rfl) (fun _ _ _ h => h)
                (Or.inl ⟨by rfl, by intro w hSw;  clear hSw; go_simp⟩) hHeld3 ?_
              try simp only [Act.put, List.setIfInBounds_toArray, List.set_cons_zero, List.set_cons_succ]
              refine wpAnyH_done (by kernel_rfl) ?_ _
              clear hHeld3
              go_wp2_with fail
              go_roundg (m6 + 1 - (j + 1))
              case rel => exact ⟨j + 1, o' ++ [X], rfl, by omega, by go_num, by rw [List.length_append]; exact H4O.out, by simp only [List.length_append, List.length_cons, List.length_nil]; omega, Lib.hid (fun s hs => by
                rcases List.mem_append.1 hs with hs | hs
                · exact hsz'.out s hs
                · rw [List.mem_singleton.1 hs, HXS.out]
                  have h1 := capS_one (c := cntT (ks.getD i default) - 1) hys HZS.out
                  rw [show cntT (ks.getD i default) - 1 + 1 = cntT (ks.getD i default) by omega] at h1
                  exact Nat.le_trans h1 (Nat.mul_le_mul_right _ (by omega))), H4G.out, H4B.out, H4S.out, Lib.hid (fun _ b off e e2 => by
                injection e with e
                injection e with e
                have e3 : g4 = b := by simpa [Value.ownBlock] using e2
                exact HGNE.out (by rw [e3, e]))⟩
              case measure => omega
            · obtain rfl : j = m6 := by omega
              have hjj : ¬ (j : Int) < (j : Int) := by omega
              clear hat6
              go_wp2_with fail
              go_roundg (nk + 1 - (i + 1))
              case rel => exact ⟨i + 1, o', rfl, by omega, by go_num, HO.out, ⟨by omega, by rw [hct]; exact hsz'.out⟩, HGR.out, HBR.out⟩
              case measure => omega
        · have hin2 : ¬ (i : Int) < (nn : Int) := by omega
          have hcl : cntL (ks.take i) + cntL (ks.drop i) = cntL ks := by rw [← cntL_append, List.take_append_drop]
          go_wp2_with fail
          go_ret
          exact ⟨_, rfl, o, by rw [← HG.out]; exact HO.out, ⟨by have := HFW.out.1; omega, fun s hs => Nat.le_trans (HFW.out.2 s hs) (Nat.mul_le_mul_right _ (by omega))⟩, by rw [← HG.out]; exact HBR.out⟩
      · obtain rfl : i = nk := by omega
        have hii : ¬ (i : Int) < (i : Int) := by omega
        have htk : ks.take i = ks := List.take_of_length_le (by omega)
        rw [htk] at HFW
        go_wp2_with fail
        go_ret
        exact ⟨_, rfl, o, by rw [← HG.out]; exact HO.out, HFW.out, by rw [← HG.out]; exact HBR.out⟩

end Go.Proofs.Ytcmgafehidgkmaa
