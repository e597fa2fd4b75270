/-
  The contract of the reader's directory. Conditions: a contract of the reader's tree, one level deeper.
-/
import Derived.Test.YthjihibocobndaaNDirI
import Derived.Deep.Cut
import Derived.Deep.DeepCutAuto
import Derived.Deep.LoopGhost
import Derived.Deep.AppendLies
import Derived.Deep.RegionHeld
namespace Go.Proofs.Ythjihibocobndaa
open Go.RowKit
set_option linter.unusedVariables false

theorem info_strw : (Try.prog.info? 9).map (fun i => (i.zero, i.size, i.bytes)) = some (some (.string ByteArray.empty), 1, 16) := by kernel_rfl
theorem info_strw_parts : ∃ i, Try.prog.info? 9 = some i ∧ i.zero = some (.string ByteArray.empty) ∧ i.size = 1 ∧ i.bytes = 16 := by
  have h := info_strw
  cases hi : Try.prog.info? 9 with
  | none => rw [hi] at h; cases h
  | some i =>
    rw [hi] at h
    simp only [Option.map_some, Option.some.injEq, Prod.mk.injEq] at h
    exact ⟨i, rfl, h.1, h.2.1, h.2.2⟩
theorem info_treew : (Try.prog.info? 26).map (fun i => (i.zero, i.size, i.bytes)) = some (some (.agg #[.int .u8 0, .bool false, .slice none 0 0, .slice none 0 0, .slice none 0 0]), 5, 80) := by kernel_rfl
theorem info_treew_parts : ∃ i, Try.prog.info? 26 = some i ∧ i.zero = some (.agg #[.int .u8 0, .bool false, .slice none 0 0, .slice none 0 0, .slice none 0 0]) ∧ i.size = 5 ∧ i.bytes = 80 := by
  have h := info_treew
  cases hi : Try.prog.info? 26 with
  | none => rw [hi] at h; cases h
  | some i =>
    rw [hi] at h
    simp only [Option.map_some, Option.some.injEq, Prod.mk.injEq] at h
    exact ⟨i, rfl, h.1, h.2.1, h.2.2⟩

theorem skip_len : ∀ {l : List (List UInt8)} {r q : List UInt8}, skipL l r = some q → q.length ≤ r.length
  | [], r, q, h => by rw [skipL] at h; cases h; exact Nat.le_refl _
  | s :: l, r, q, h => by
    obtain ⟨r', rfl, h2⟩ := skip_some h
    have := skip_len h2
    rw [List.length_append]; omega
theorem tree_len {n : Nat} {r q : List UInt8} {t : T} (h : treeL n r = some (t, q)) : q.length ≤ r.length := by
  have := congrArg List.length (treeL_some _ _ _ _ h)
  rw [List.length_append] at this
  omega
theorem dir_one (an : Option Addr) (nn cn : Nat) (ak : Option Addr) (nk ck : Nat) : (dirC (.slice an nn cn) (.slice ak nk ck)).toArray.all (·.oneCell') = true := by
  refine all_oneCell_toArray ?_
  intro v hv
  simp only [dirC, List.mem_cons, List.not_mem_nil, or_false] at hv
  rcases hv with rfl | rfl | rfl | rfl | rfl <;> rfl

def NameR (rb : Nat) (w0 w : World) (A : Nat) (ns : List ByteArray) (ks : List T) (R : List UInt8) (vk : Value) (wx : World) : Prop :=
  ∃ (nm R' : List UInt8) (vn : Value), nextL R = some (nm, R') ∧ Dir rb w0 w A (ns ++ [⟨nm.toArray⟩]) ks R' vn vk wx
def KidR (m : Nat) (rb : Nat) (w0 w : World) (A : Nat) (ns : List ByteArray) (ks : List T) (R : List UInt8) (vn : Value) (wx : World) : Prop :=
  ∃ (t : T) (R' : List UInt8) (vk : Value), treeL m R = some (t, R') ∧ Dir rb w0 w A ns (ks ++ [t]) R' vn vk wx
def DirR (Z : Option (T × List UInt8)) (m : Nat) (rb : Nat) (w0 w : World) (A : Nat) (R0 : List UInt8) (k : Nat) (wr : World) : Prop :=
  ∃ (ns : List ByteArray) (ks : List T) (R : List UInt8) (vn vk : Value), ns.length = ks.length ∧ ns.length + R.length ≤ R0.length ∧ R.length < k ∧ Z = dirL (treeL m) k ns ks R ∧ Dir rb w0 w A ns ks R vn vk wr

section
variable {rb A : Nat} {w0 w wr : World} {ns : List ByteArray} {ks : List T} {R : List UInt8} {vn vk : Value}
theorem Dir.midN (h : Dir rb w0 w A ns ks R vn vk wr) {w' : World} (hg : wr.grownBy w' vn.ownBlock) : Has w' (A + 1) (dirC vn vk) 26 ∧ Below rb w0 w' := by
  have hlow := h.low
  have hnb : ∀ k, vn.ownBlock = some k → A + 2 ≤ k := fun k hk => (h.names.lt k hk).1
  exact ⟨(hg.block _ h.box.lt (fun e => by have := hnb _ e.symm; omega)).trans h.box, h.rd.below.grown hg (Nat.le_of_lt h.rd.lt) (fun k hk => by have := hnb k hk; omega)⟩
theorem Dir.midK (h : Dir rb w0 w A ns ks R vn vk wr) {LK : List Value} (hk : wr.ownsRow (A + 2) 26 5 vk ks.length LK) {w' : World} (hg : wr.grownBy w' vk.ownBlock) : Has w' (A + 1) (dirC vn vk) 26 ∧ Below rb w0 w' := by
  have hlow := h.low
  have hnb : ∀ k, vk.ownBlock = some k → A + 2 ≤ k := fun k h => (hk.lt k h).1
  exact ⟨(hg.block _ h.box.lt (fun e => by have := hnb _ e.symm; omega)).trans h.box, h.rd.below.grown hg (Nat.le_of_lt h.rd.lt) (fun k hk => by have := hnb k hk; omega)⟩
end

/-- A directory that has been read, and put where it is told. -/
theorem dir_stab {A : Nat} {ns : List ByteArray} {ks : List T} {an ak : Option Addr} {nn cn nk ck : Nat} {L LK : List Value} {w2 w3 : World} (hL : L = dirC (.slice an nn cn) (.slice ak nk ck))
    (hn : w2.ownsRow (A + 2) 9 1 (.slice an nn cn) ns.length (ns.map Value.string)) (hk : w2.ownsRow (A + 2) 26 5 (.slice ak nk ck) ks.length LK)
    (hs : ∀ i, i < ks.length → ∃ n, KStab A (KP A (.slice an nn cn) (.slice ak nk ck)) w2 n (five LK i) (ks.getD i default)) (hb : But w2.heap.size A w2 w3) (hA : A < w2.heap.size) (hks : ks.length ≤ 1000000000) (hl : ns.length = ks.length) :
    ∃ n, Stab A [] w3 n L (.mk 3 false [] ns ks) := by
  obtain ⟨M, hM⟩ : ∃ M, ∀ i, i < ks.length → KStab A (KP A (.slice an nn cn) (.slice ak nk ck)) w2 M (five LK i) (ks.getD i default) := by
    clear hk
    have : ∀ j, j ≤ ks.length → ∃ M, ∀ i, i < j → KStab A (KP A (.slice an nn cn) (.slice ak nk ck)) w2 M (five LK i) (ks.getD i default) := by
      intro j
      induction j with
      | zero => exact fun _ => ⟨0, fun i hi => by omega⟩
      | succ j ih =>
        intro hj
        obtain ⟨M, hM⟩ := ih (by omega)
        obtain ⟨n, hn'⟩ := hs j (by omega)
        refine ⟨max M n, fun i hi => ?_⟩
        rcases Nat.lt_or_ge i j with h' | h'
        · exact fun w' h1 h2 => isT_mono _ _ _ _ (Nat.le_max_left _ _) (hM i h' w' h1 h2)
        · obtain rfl : i = j := by omega
          exact fun w' h1 h2 => isT_mono _ _ _ _ (Nat.le_max_right _ _) (hn' w' h1 h2)
    exact this ks.length (Nat.le_refl _)
  refine ⟨M + 1, fun w' hsz hsame => ?_⟩
  subst hL
  have hh : ∀ k, A + 1 ≤ k → k < w2.heap.size → w'.heap[k]? = w2.heap[k]? := fun k h1 h2 =>
    (hsame k (by omega) (Nat.lt_of_lt_of_le h2 hb.size) (by simp)).trans (hb.block k h2 (by omega))
  have hn' := owns_same hn (fun k h1 h2 => hh k (by omega) h2)
  have hk' := owns_same hk (fun k h1 h2 => hh k (by omega) h2)
  obtain ⟨a1, c1, he1, hS⟩ := isS_owned hn'
  cases he1
  have hkl : LK.length = ks.length * 5 := hk.1
  have hK : IsK (IsT w' M) w' ak nk ck ks ∧ nk = ks.length := by
    rcases hk'.2 with ⟨h0, hz⟩ | ⟨g, cap, cur, h1, h2, h3, h4, h5, h6, h7⟩
    · cases h0
      exact ⟨⟨by omega, .inl rfl, fun _ => ⟨rfl, rfl⟩, ⟨Nat.le_refl _, Nat.zero_le _⟩⟩, hz.symm⟩
    · cases h1
      have hg : g < w'.heap.size := (Array.getElem?_eq_some_iff.1 h3).1
      have hcell : ∀ j, j < ks.length * 5 → w'.cell? ⟨g, j, none⟩ = LK[j]? := fun j hj => World.ownsRow.cellAt hk' j hj
      refine ⟨⟨rfl, .inr ⟨g, 0, rfl, hg, fun i hi => ?_⟩, (fun e => by cases e), ⟨h4, h5⟩⟩, rfl⟩
      have hT : IsT w' M (five LK i) (ks.getD i default) := hM i hi w' (Nat.le_trans hb.size hsz) (fun k h1 h2 h3 => hh k (by
        have : k ≠ A := fun e => h3 (.inl e)
        omega) h2)
      have h5' := isT_five hT
      obtain ⟨c0, c1', c2, c3, c4, h5l⟩ := five_list h5'
      obtain ⟨e0, e1, e2, e3, e4⟩ := five_at h5l
      refine ⟨c0, c1', c2, c3, c4, by rw [← h5l]; exact hT, ?_, ?_, ?_, ?_, ?_⟩
      · rw [Nat.zero_add, hcell _ (by omega)]; simpa using e0
      · rw [Nat.zero_add, hcell _ (by omega)]; simpa using e1
      · rw [Nat.zero_add, hcell _ (by omega)]; simpa using e2
      · rw [Nat.zero_add, hcell _ (by omega)]; simpa using e3
      · rw [Nat.zero_add, hcell _ (by omega)]; simpa using e4
  exact ⟨none, 0, 0, an, _, _, ak, nk, ck, rfl, isB_no w', hS, hK.1⟩

set_option maxRecDepth 100000 in
set_option maxHeartbeats 16000000 in
theorem directory_any (rb : Nat) (w0 : World) (R0 : List UInt8) (w : World) (hrd : Rd rb w0 R0 w) (m dep : Nat) (hdep : dep ≤ 16)
    (htree : ∀ (R : List UInt8) (w' : World), Rd rb w0 R w' → Calls Try.prog 29 #[.pointer (some ⟨rb, 0, none⟩), .int .i64 ((dep : Int) + 1)] w' (RP rb w0 w' (treeL m R) (treeV w'.heap.size))) :
    Calls Try.prog 37 #[.pointer (some ⟨rb, 0, none⟩), .int .i64 (dep : Int)] w (RP rb w0 w (dirL (treeL m) (R0.length + 1) [] [] R0) (treeV w.heap.size)) := by
  obtain ⟨i0, hi, hz0, hz1, hz2⟩ := info_strw_parts
  have HI := Lib.hid hi
  have HZ0 := Lib.hid hz0
  have HZ1 := Lib.hid hz1
  have HZ2 := Lib.hid hz2
  obtain ⟨i1, hi1, hz3, hz4, hz5⟩ := info_treew_parts
  have HI1 := Lib.hid hi1
  have HZ3 := Lib.hid hz3
  have HZ4 := Lib.hid hz4
  have HZ5 := Lib.hid hz5
  clear hi hz0 hz1 hz2 hi1 hz3 hz4 hz5
  have HTREE := Lib.hid htree
  have h0 : w0.heap.size ≤ rb := by obtain ⟨_, _, _, _, _, _, h0, _⟩ := hrd; exact h0
  have h9 : R0.length ≤ 1000000000 := by obtain ⟨_, _, _, _, _, _, _, h9⟩ := hrd; exact h9
  have HRD := Lib.hid hrd
  have hrA0 := hrd.lt
  have HWD : Hid (IntKind.i64.wrap ((dep : Int) + 1) = (dep : Int) + 1) := Lib.hid (by simp [IntKind.wrap, IntKind.bits, IntKind.signed]; omega)
  clear hrd htree
  obtain ⟨Z, hZ⟩ : ∃ Z, Z = dirL (treeL m) (R0.length + 1) [] [] R0 := ⟨_, rfl⟩
  rw [← hZ]
  have HZZ := Lib.hid hZ
  clear hZ
  go_enter Try.func37, Try.ntmps37
  go_wp2_with fail
  obtain ⟨A, hA⟩ : ∃ A, A = w.heap.size := ⟨_, rfl⟩
  rw [← hA] at hrA0 ⊢
  obtain ⟨x1, hx1⟩ : ∃ x1, x1 = w.alloc (.cells #[.int .u8 0, .bool false, .slice none 0 0, .slice none 0 0, .slice none 0 0] 26) := ⟨_, rfl⟩
  obtain ⟨w1, hx2⟩ : ∃ x2, x2 = x1.alloc (.cells #[.int .u8 3, .bool false, .slice none 0 0, .slice none 0 0, .slice none 0 0] 26) := ⟨_, rfl⟩
  rw [← hx1, ← hx2]
  have e1 : x1.heap.size = A + 1 := by rw [hx1, hA]; simp
  have b1 : Below w.heap.size w w1 := by rw [hx2, hx1]; exact ((Below.refl _ _).alloc (Nat.le_refl _) _).alloc (by simp) _
  have D1 : Hid (Dir rb w0 w A [] [] R0 (.slice none 0 0) (.slice none 0 0) w1) := Lib.hid
    ⟨HRD.out.later b1, But.of_below b1, hrA0, by rw [hx2, hx1, hA]; exact (Has.new w zeroL _).alloc _, by rw [hx2, ← e1]; exact Has.new x1 (dirC (.slice none 0 0) (.slice none 0 0)) _,
      World.ownsRow_nil _ _ _ _, ⟨[], World.ownsRow_nil _ _ _ _, fun i hi => by simp at hi⟩, hA⟩
  have HA := Lib.hid hA
  clear hA hx1 hx2 b1 e1 HRD
  go_loopg [] (R0.length + 1) (fun k wr => DirR Z m rb w0 w A R0 k wr)
  case atStart => exact ⟨[], [], R0, _, _, rfl, by simp, by omega, HZZ.out, D1.out⟩
  case round =>
    clear D1
    obtain ⟨ns, ks, R, vn, vk, hl, hlen, hlk, heq, hD⟩ := hrel
    obtain ⟨mm, rfl⟩ : ∃ mm, gk = mm + 1 := ⟨gk - 1, by omega⟩
    have hkl0 : ks.length ≤ 1000000000 := by omega
    have HLL := Lib.hid hl
    clear hl
    rw [dirL] at heq
    have HEQ := Lib.hid heq
    have DW := Lib.hid hD
    clear heq hD
    have HK := Lib.hid (next_any rb w0 R wr DW.out.rd)
    go_wp2_with fail
    refine HK.out.mono ?_
    rintro e w2 ⟨hb, hm⟩
    have BU2 := Lib.hid (DW.out.but.trans (hb.mono DW.out.but.size))
    have HB := Lib.hid hb
    have HM := Lib.hid hm
    clear hb hm HK
    cases ht : nextL R with
    | none =>
      have hm := HM.out
      rw [ht] at hm
      subst hm
      have HF : Hid (Z = none) := Lib.hid (by rw [HEQ.out, ht])
      clear HM ht
      go_wp2_with fail
      exact ⟨rfl, BU2.out, by rw [HF.out]⟩
    | some q =>
      obtain ⟨s1, R1⟩ := q
      have hm := HM.out
      rw [ht] at hm
      obtain ⟨v, rfl, ⟨a0, n0, c0, rfl, hv⟩, hr⟩ := hm
      have D2 := Lib.hid (DW.out.go HB.out hr)
      have hcv := convert_b (hr.isB hv)
      obtain ⟨sx, hsx⟩ : ∃ sx : ByteArray, sx = ⟨s1.toArray⟩ := ⟨_, rfl⟩
      rw [← hsx] at hcv
      have hsx2 : sx.toList = s1 := by rw [hsx, ByteArray.toList_eq]
      have HSX := Lib.hid hsx2
      have hl1 := next_len ht
      have hq := HEQ.out; rw [ht] at hq; dsimp only at hq; replace HEQ := Lib.hid hq; clear hq
      clear hr hv hsx hsx2 HM ht HB DW
      by_cases hs : s1 = sEntry
      · subst hs
        have htest : (sx.toList == [101, 110, 116, 114, 121]) = true := by rw [HSX.out]; rfl
        have hq := HEQ.out; simp only [if_true] at hq; replace HEQ := Lib.hid hq; clear hq
        have HK := Lib.hid (skip_2s rb w0 R1 ⟨#[40]⟩ ⟨#[110, 97, 109, 101]⟩ sOpen sName rfl rfl w2 D2.out.rd)
        go_wp2_with fail
        refine HK.out.mono ?_
        rintro e w3 ⟨hb, hm⟩
        have BU3 := Lib.hid (D2.out.but.trans (hb.mono D2.out.but.size))
        have HB := Lib.hid hb
        have HM := Lib.hid hm
        clear hb hm HK
        cases ht : skipL [sOpen, sName] R1 with
        | none =>
          have hm := HM.out
          rw [ht] at hm
          subst hm
          have HF : Hid (Z = none) := Lib.hid (by rw [HEQ.out, ht])
          clear HM ht
          go_wp2_with fail
          exact ⟨rfl, BU3.out, by rw [HF.out]⟩
        | some Rq =>
          have hm := HM.out
          rw [ht] at hm
          obtain ⟨v, rfl, hv, hr⟩ : ∃ v, e = .returned v ∧ noneV () v w3 ∧ Rd rb w0 Rq w3 := hm
          cases hv
          have D3 := Lib.hid (D2.out.go HB.out hr)
          have HT2 := Lib.hid ht
          clear hr HM ht HB D2 BU3
          have hl2 := skip_len HT2.out
          have hq := HEQ.out; rw [HT2.out] at hq; dsimp only at hq; replace HEQ := Lib.hid hq; clear hq
          obtain ⟨R, hRq⟩ : ∃ R, R = Rq := ⟨_, rfl⟩
          subst hRq
          have HFN : Hid (nextL R = none → Z = none) := Lib.hid (fun h => by rw [HEQ.out, h])
          clear htest hcv
          go_upto_region 6 with fail
          go_cut [] (fun wx => NameR rb w0 w A ns ks R vk wx)
          case first =>
            have hS0 : (∃ u, Has w3.drew (A + 1) (dirC u vk) 26) ∧ Below rb w0 w3.drew := ⟨⟨vn, D3.out.box.drew⟩, D3.out.rd.below.drew⟩
            refine wp_region_held_drew (S := fun W => (∃ u, Has W (A + 1) (dirC u vk) 26) ∧ Below rb w0 W) (by kernel_rfl) hS0 (fun hHeld => ?_)
            clear hS0
            obtain ⟨wd, hwd⟩ : ∃ x, x = w3.drew := ⟨_, rfl⟩
            have DD : Dir rb w0 w A ns ks R vn vk wd := by rw [hwd]; exact D3.out.drew
            rw [← hwd] at hHeld ⊢
            clear hwd
            refine wpAnyH_take (i := 0) (oi := { dst := some 16, op := Op.fieldAddr 26 (Operand.tmp 5) 3, type := 0, pos := "read.go:137", after := #[], guard := none }) (v := .pointer (some ⟨A + 1, 3, none⟩)) rfl (by kernel_rfl) (by kernel_rfl) (by kernel_rfl) (fun _ _ _ h => h)
              (Or.inl ⟨by rfl, by intro w hSw;  clear hSw; go_simp⟩) hHeld ?_
            try simp only [Act.put, List.setIfInBounds_toArray, List.set_cons_zero, List.set_cons_succ]
            refine wpAnyH_take (i := 2) (oi := { dst := some 18, op := Op.move (Operand.tmp 0), type := 63, pos := "read.go:137", after := #[], guard := none }) (v := .pointer (some ⟨rb, 0, none⟩)) rfl (by kernel_rfl) (by kernel_rfl) (by kernel_rfl) (fun _ _ _ h => h)
              (Or.inl ⟨by rfl, by intro w hSw;  clear hSw; go_simp⟩) hHeld ?_
            try simp only [Act.put, List.setIfInBounds_toArray, List.set_cons_zero, List.set_cons_succ]
            refine wpAnyH_ready (rs := [1, 3]) (by kernel_rfl) (by simp) ?_
            refine AllReadyH.cons (o := { dst := some 17, op := Op.load 23 (Operand.tmp 16), type := 23, pos := "read.go:137", after := #[{ on := 0, ground := Ground.data }], guard := none }) rfl (fun K hK => ?_) (AllReadyH.cons (o := { dst := some 19, op := Op.call { callee := Callee.value (Operand.func 34), args := #[Operand.tmp 18], argTypes := #[63] }, type := 22, pos := "read.go:137", after := #[{ on := 2, ground := Ground.data }], guard := none }) rfl (fun K hK => ?_) AllReadyH.nil)
            · skip
              have hcl := DD.box.cellAt (i := 3) rfl
              go_simp
              clear hcl
              refine hK.out _ _ ⟨⟨_, DD.box⟩, DD.rd.below⟩ (fun hHeld1 => ?_)
              clear hK K hHeld 
              try simp only [Act.put, List.setIfInBounds_toArray, List.set_cons_zero, List.set_cons_succ]
              refine wpAnyH_ready (rs := [3]) (by kernel_rfl) (by simp) ?_
              refine AllReadyH.cons (o := { dst := some 19, op := Op.call { callee := Callee.value (Operand.func 34), args := #[Operand.tmp 18], argTypes := #[63] }, type := 22, pos := "read.go:137", after := #[{ on := 2, ground := Ground.data }], guard := none }) rfl (fun K hK => ?_) AllReadyH.nil
              go_simp
              refine (next_any rb w0 R wd DD.rd).mono ?_
              rintro e w4 ⟨hb4, hm4⟩
              cases ht4 : nextL R with
              | none =>
                rw [ht4] at hm4
                subst hm4
                have HF : Hid (Z = none) := Lib.hid (HFN.out ht4)
                have HB : Hid (But w.heap.size rb w w4) := Lib.hid (DD.but.trans (hb4.mono DD.but.size))
                clear ht4 hK hb4
                go_wp2_with fail
                exact ⟨rfl, HB.out, by rw [HF.out]⟩
              | some q =>
                obtain ⟨s, R'⟩ := q
                rw [ht4] at hm4
                obtain ⟨v, rfl, ⟨a4, n4, c4, rfl, hv4⟩, hr4⟩ := hm4
                have D4 := DD.go hb4 hr4
                have HV4 := Lib.hid hv4
                have HT4 := Lib.hid ht4
                clear ht4 hv4
                obtain ⟨nm, hnm⟩ : ∃ nm : ByteArray, nm = ⟨s.toArray⟩ := ⟨_, rfl⟩
                have HNM := Lib.hid hnm
                clear hnm
                go_wp2_with fail
                refine hK.out _ _ ⟨⟨_, D4.box⟩, D4.rd.below⟩ (fun hHeld2 => ?_)
                clear hK K hHeld1 hb4
                try simp only [Act.put, List.setIfInBounds_toArray, List.set_cons_zero, List.set_cons_succ]
                refine wpAnyH_take (i := 4) (oi := { dst := some 20, op := Op.convert 22 9 (Operand.tmp 19), type := 9, pos := "read.go:137", after := #[{ on := 3, ground := Ground.data }], guard := none }) (v := .string nm) rfl (by kernel_rfl) (by kernel_rfl) (by kernel_rfl) (fun _ _ _ h => h)
                  (Or.inl ⟨by rfl, by intro w hSw; have hcv := convert_b (HV4.out.later (hSw.2.mono h0)); rw [← HNM.out] at hcv; clear hSw; go_simp⟩) hHeld2 ?_
                try simp only [Act.put, List.setIfInBounds_toArray, List.set_cons_zero, List.set_cons_succ]
                refine wpAnyH_ready (rs := [5]) (by kernel_rfl) (by simp) ?_
                refine AllReadyH.cons (o := { dst := some 21, op := Op.buildSlice 23 1 #[(0, Operand.tmp 20)], type := 23, pos := "read.go:137", after := #[{ on := 4, ground := Ground.data }], guard := none }) rfl (fun K hK => ?_) AllReadyH.nil
                go_simp
                obtain ⟨w5, hw5⟩ : ∃ w5, w5 = w4.alloc (.cells #[.string nm] 9) := ⟨_, rfl⟩
                have p5 : Has w5 w4.heap.size [.string nm] 9 := by rw [hw5]; exact Has.new w4 [.string nm] _
                have D5 := D4.later (show Below w4.heap.size w4 w5 by rw [hw5]; exact (Below.refl _ _).alloc (Nat.le_refl _) _)
                rw [← hw5]
                have P5 := Lib.hid p5
                clear hw5 p5
                refine hK.out _ _ ⟨⟨_, D5.box⟩, D5.rd.below⟩ (fun hHeld3 => ?_)
                clear hK K hHeld2 
                try simp only [Act.put, List.setIfInBounds_toArray, List.set_cons_zero, List.set_cons_succ]
                refine wpAnyH_ready (rs := [6]) (by kernel_rfl) (by simp) ?_
                refine AllReadyH.cons (o := { dst := some 22, op := Op.call { callee := Callee.builtin Builtin.append, args := #[Operand.tmp 17, Operand.tmp 21], argTypes := #[23, 23] }, type := 23, pos := "read.go:137", after := #[{ on := 1, ground := Ground.data }, { on := 5, ground := Ground.data }, { on := 3, ground := Ground.chain }], guard := none }) rfl (fun K hK => ?_) AllReadyH.nil
                rw [if_pos (by rfl)]
                refine wp_append_lies _ (.tmp 17) (.tmp 21) 23 rfl (A + 2) 9 i0 (.string ByteArray.empty) 1 16 Try.underlying23 HI.out HZ0.out HZ1.out HZ2.out rfl (by omega) vn ns.length (ns.map Value.string) rfl D5.names ⟨w4.heap.size, 0, none⟩ 1 1 [.string nm] rfl rfl (fun j u hj => ?_) (fun u hu => ?_) (by omega) (by unfold maxLen; omega) (by omega) (by have := D5.box.lt; omega) w5.heap.size rfl (fun ga capa w6 h6o h6g h6b h6s => ?_)
                · match j, hj with
                  | 0, hj => cases hj; rw [Addr.add_lit]; exact P5.out.cellAt (i := 0) rfl
                  | j + 1, hj => simp at hj
                · simp at hu; subst hu; rfl
                have D7 := D5.name h6o h6g h6b
                have hm6 := D5.midN h6g
                have c6 := hm6.1.cellAt (i := 3) rfl
                have f6 := hm6.1.frozen 3
                refine hK.out _ _ ⟨⟨_, hm6.1⟩, hm6.2⟩ (fun hHeld6 => ?_)
                clear hK K hHeld3 h6o h6g h6b h6s
                try simp only [Act.put, List.setIfInBounds_toArray, List.set_cons_zero, List.set_cons_succ]
                refine wpAnyH_take (i := 7) (oi := { dst := some 23, op := Op.fieldAddr 26 (Operand.tmp 5) 3, type := 0, pos := "read.go:137", after := #[{ on := 0, ground := Ground.phase }, { on := 1, ground := Ground.phase }, { on := 2, ground := Ground.phase }, { on := 3, ground := Ground.phase }, { on := 4, ground := Ground.phase }, { on := 5, ground := Ground.phase }, { on := 6, ground := Ground.phase }], guard := none }) (v := .pointer (some ⟨A + 1, 3, none⟩)) rfl (by kernel_rfl) (by kernel_rfl) (by kernel_rfl) (fun _ _ _ h => h)
                  (Or.inl ⟨by rfl, by intro w hSw;  clear hSw; go_simp⟩) hHeld6 ?_
                try simp only [Act.put, List.setIfInBounds_toArray, List.set_cons_zero, List.set_cons_succ]
                refine wpAnyH_ready (rs := [8]) (by kernel_rfl) (by simp) ?_
                refine AllReadyH.cons (o := { dst := none, op := Op.store 23 (Operand.tmp 23) (Operand.tmp 22), type := 0, pos := "read.go:137", after := #[{ on := 7, ground := Ground.data }, { on := 6, ground := Ground.data }, { on := 6, ground := Ground.chain }, { on := 0, ground := Ground.phase }, { on := 1, ground := Ground.phase }, { on := 2, ground := Ground.phase }, { on := 3, ground := Ground.phase }, { on := 4, ground := Ground.phase }, { on := 5, ground := Ground.phase }, { on := 6, ground := Ground.phase }], guard := none }) rfl (fun K hK => ?_) AllReadyH.nil
                go_simp
                clear c6 f6
                refine hK.out _ _ ⟨⟨_, D7.box⟩, D7.rd.below⟩ (fun hHeld8 => ?_)
                clear hK K hHeld6 
                try simp only [Act.put]
                refine wpAnyH_done (by kernel_rfl) ?_ _
                have HD7 := Lib.hid D7
                clear hHeld8 D7 D5 hm6
                go_wp2_with fail
                go_meet
                exact ⟨s, R', _, HT4.out, by rw [← HNM.out]; exact HD7.out⟩
            · skip
              go_simp
              refine (next_any rb w0 R wd DD.rd).mono ?_
              rintro e w4 ⟨hb4, hm4⟩
              cases ht4 : nextL R with
              | none =>
                rw [ht4] at hm4
                subst hm4
                have HF : Hid (Z = none) := Lib.hid (HFN.out ht4)
                have HB : Hid (But w.heap.size rb w w4) := Lib.hid (DD.but.trans (hb4.mono DD.but.size))
                clear ht4 hK hb4
                go_wp2_with fail
                exact ⟨rfl, HB.out, by rw [HF.out]⟩
              | some q =>
                obtain ⟨s, R'⟩ := q
                rw [ht4] at hm4
                obtain ⟨v, rfl, ⟨a4, n4, c4, rfl, hv4⟩, hr4⟩ := hm4
                have D4 := DD.go hb4 hr4
                have HV4 := Lib.hid hv4
                have HT4 := Lib.hid ht4
                clear ht4 hv4
                obtain ⟨nm, hnm⟩ : ∃ nm : ByteArray, nm = ⟨s.toArray⟩ := ⟨_, rfl⟩
                have HNM := Lib.hid hnm
                clear hnm
                go_wp2_with fail
                refine hK.out _ _ ⟨⟨_, D4.box⟩, D4.rd.below⟩ (fun hHeld2 => ?_)
                clear hK K hHeld hb4
                try simp only [Act.put, List.setIfInBounds_toArray, List.set_cons_zero, List.set_cons_succ]
                refine wpAnyH_take (i := 4) (oi := { dst := some 20, op := Op.convert 22 9 (Operand.tmp 19), type := 9, pos := "read.go:137", after := #[{ on := 3, ground := Ground.data }], guard := none }) (v := .string nm) rfl (by kernel_rfl) (by kernel_rfl) (by kernel_rfl) (fun _ _ _ h => h)
                  (Or.inl ⟨by rfl, by intro w hSw; have hcv := convert_b (HV4.out.later (hSw.2.mono h0)); rw [← HNM.out] at hcv; clear hSw; go_simp⟩) hHeld2 ?_
                try simp only [Act.put, List.setIfInBounds_toArray, List.set_cons_zero, List.set_cons_succ]
                refine wpAnyH_ready (rs := [1, 5]) (by kernel_rfl) (by simp) ?_
                refine AllReadyH.cons (o := { dst := some 17, op := Op.load 23 (Operand.tmp 16), type := 23, pos := "read.go:137", after := #[{ on := 0, ground := Ground.data }], guard := none }) rfl (fun K hK => ?_) (AllReadyH.cons (o := { dst := some 21, op := Op.buildSlice 23 1 #[(0, Operand.tmp 20)], type := 23, pos := "read.go:137", after := #[{ on := 4, ground := Ground.data }], guard := none }) rfl (fun K hK => ?_) AllReadyH.nil)
                · skip
                  have hcl := D4.box.cellAt (i := 3) rfl
                  go_simp
                  clear hcl
                  refine hK.out _ _ ⟨⟨_, D4.box⟩, D4.rd.below⟩ (fun hHeld3 => ?_)
                  clear hK K hHeld2 
                  try simp only [Act.put, List.setIfInBounds_toArray, List.set_cons_zero, List.set_cons_succ]
                  refine wpAnyH_ready (rs := [5]) (by kernel_rfl) (by simp) ?_
                  refine AllReadyH.cons (o := { dst := some 21, op := Op.buildSlice 23 1 #[(0, Operand.tmp 20)], type := 23, pos := "read.go:137", after := #[{ on := 4, ground := Ground.data }], guard := none }) rfl (fun K hK => ?_) AllReadyH.nil
                  go_simp
                  obtain ⟨w5, hw5⟩ : ∃ w5, w5 = w4.alloc (.cells #[.string nm] 9) := ⟨_, rfl⟩
                  have p5 : Has w5 w4.heap.size [.string nm] 9 := by rw [hw5]; exact Has.new w4 [.string nm] _
                  have D5 := D4.later (show Below w4.heap.size w4 w5 by rw [hw5]; exact (Below.refl _ _).alloc (Nat.le_refl _) _)
                  rw [← hw5]
                  have P5 := Lib.hid p5
                  clear hw5 p5
                  refine hK.out _ _ ⟨⟨_, D5.box⟩, D5.rd.below⟩ (fun hHeld4 => ?_)
                  clear hK K hHeld3 
                  try simp only [Act.put, List.setIfInBounds_toArray, List.set_cons_zero, List.set_cons_succ]
                  refine wpAnyH_ready (rs := [6]) (by kernel_rfl) (by simp) ?_
                  refine AllReadyH.cons (o := { dst := some 22, op := Op.call { callee := Callee.builtin Builtin.append, args := #[Operand.tmp 17, Operand.tmp 21], argTypes := #[23, 23] }, type := 23, pos := "read.go:137", after := #[{ on := 1, ground := Ground.data }, { on := 5, ground := Ground.data }, { on := 3, ground := Ground.chain }], guard := none }) rfl (fun K hK => ?_) AllReadyH.nil
                  rw [if_pos (by rfl)]
                  refine wp_append_lies _ (.tmp 17) (.tmp 21) 23 rfl (A + 2) 9 i0 (.string ByteArray.empty) 1 16 Try.underlying23 HI.out HZ0.out HZ1.out HZ2.out rfl (by omega) vn ns.length (ns.map Value.string) rfl D5.names ⟨w4.heap.size, 0, none⟩ 1 1 [.string nm] rfl rfl (fun j u hj => ?_) (fun u hu => ?_) (by omega) (by unfold maxLen; omega) (by omega) (by have := D5.box.lt; omega) w5.heap.size rfl (fun ga capa w6 h6o h6g h6b h6s => ?_)
                  · match j, hj with
                    | 0, hj => cases hj; rw [Addr.add_lit]; exact P5.out.cellAt (i := 0) rfl
                    | j + 1, hj => simp at hj
                  · simp at hu; subst hu; rfl
                  have D7 := D5.name h6o h6g h6b
                  have hm6 := D5.midN h6g
                  have c6 := hm6.1.cellAt (i := 3) rfl
                  have f6 := hm6.1.frozen 3
                  refine hK.out _ _ ⟨⟨_, hm6.1⟩, hm6.2⟩ (fun hHeld6 => ?_)
                  clear hK K hHeld4 h6o h6g h6b h6s
                  try simp only [Act.put, List.setIfInBounds_toArray, List.set_cons_zero, List.set_cons_succ]
                  refine wpAnyH_take (i := 7) (oi := { dst := some 23, op := Op.fieldAddr 26 (Operand.tmp 5) 3, type := 0, pos := "read.go:137", after := #[{ on := 0, ground := Ground.phase }, { on := 1, ground := Ground.phase }, { on := 2, ground := Ground.phase }, { on := 3, ground := Ground.phase }, { on := 4, ground := Ground.phase }, { on := 5, ground := Ground.phase }, { on := 6, ground := Ground.phase }], guard := none }) (v := .pointer (some ⟨A + 1, 3, none⟩)) rfl (by kernel_rfl) (by kernel_rfl) (by kernel_rfl) (fun _ _ _ h => h)
                    (Or.inl ⟨by rfl, by intro w hSw;  clear hSw; go_simp⟩) hHeld6 ?_
                  try simp only [Act.put, List.setIfInBounds_toArray, List.set_cons_zero, List.set_cons_succ]
                  refine wpAnyH_ready (rs := [8]) (by kernel_rfl) (by simp) ?_
                  refine AllReadyH.cons (o := { dst := none, op := Op.store 23 (Operand.tmp 23) (Operand.tmp 22), type := 0, pos := "read.go:137", after := #[{ on := 7, ground := Ground.data }, { on := 6, ground := Ground.data }, { on := 6, ground := Ground.chain }, { on := 0, ground := Ground.phase }, { on := 1, ground := Ground.phase }, { on := 2, ground := Ground.phase }, { on := 3, ground := Ground.phase }, { on := 4, ground := Ground.phase }, { on := 5, ground := Ground.phase }, { on := 6, ground := Ground.phase }], guard := none }) rfl (fun K hK => ?_) AllReadyH.nil
                  go_simp
                  clear c6 f6
                  refine hK.out _ _ ⟨⟨_, D7.box⟩, D7.rd.below⟩ (fun hHeld8 => ?_)
                  clear hK K hHeld6 
                  try simp only [Act.put]
                  refine wpAnyH_done (by kernel_rfl) ?_ _
                  have HD7 := Lib.hid D7
                  clear hHeld8 D7 D5 hm6
                  go_wp2_with fail
                  go_meet
                  exact ⟨s, R', _, HT4.out, by rw [← HNM.out]; exact HD7.out⟩
                · skip
                  go_simp
                  obtain ⟨w5, hw5⟩ : ∃ w5, w5 = w4.alloc (.cells #[.string nm] 9) := ⟨_, rfl⟩
                  have p5 : Has w5 w4.heap.size [.string nm] 9 := by rw [hw5]; exact Has.new w4 [.string nm] _
                  have D5 := D4.later (show Below w4.heap.size w4 w5 by rw [hw5]; exact (Below.refl _ _).alloc (Nat.le_refl _) _)
                  rw [← hw5]
                  have P5 := Lib.hid p5
                  clear hw5 p5
                  refine hK.out _ _ ⟨⟨_, D5.box⟩, D5.rd.below⟩ (fun hHeld3 => ?_)
                  clear hK K hHeld2 
                  try simp only [Act.put, List.setIfInBounds_toArray, List.set_cons_zero, List.set_cons_succ]
                  refine wpAnyH_ready (rs := [1]) (by kernel_rfl) (by simp) ?_
                  refine AllReadyH.cons (o := { dst := some 17, op := Op.load 23 (Operand.tmp 16), type := 23, pos := "read.go:137", after := #[{ on := 0, ground := Ground.data }], guard := none }) rfl (fun K hK => ?_) AllReadyH.nil
                  have hcl := D5.box.cellAt (i := 3) rfl
                  go_simp
                  clear hcl
                  refine hK.out _ _ ⟨⟨_, D5.box⟩, D5.rd.below⟩ (fun hHeld4 => ?_)
                  clear hK K hHeld3 
                  try simp only [Act.put, List.setIfInBounds_toArray, List.set_cons_zero, List.set_cons_succ]
                  refine wpAnyH_ready (rs := [6]) (by kernel_rfl) (by simp) ?_
                  refine AllReadyH.cons (o := { dst := some 22, op := Op.call { callee := Callee.builtin Builtin.append, args := #[Operand.tmp 17, Operand.tmp 21], argTypes := #[23, 23] }, type := 23, pos := "read.go:137", after := #[{ on := 1, ground := Ground.data }, { on := 5, ground := Ground.data }, { on := 3, ground := Ground.chain }], guard := none }) rfl (fun K hK => ?_) AllReadyH.nil
                  rw [if_pos (by rfl)]
                  refine wp_append_lies _ (.tmp 17) (.tmp 21) 23 rfl (A + 2) 9 i0 (.string ByteArray.empty) 1 16 Try.underlying23 HI.out HZ0.out HZ1.out HZ2.out rfl (by omega) vn ns.length (ns.map Value.string) rfl D5.names ⟨w4.heap.size, 0, none⟩ 1 1 [.string nm] rfl rfl (fun j u hj => ?_) (fun u hu => ?_) (by omega) (by unfold maxLen; omega) (by omega) (by have := D5.box.lt; omega) w5.heap.size rfl (fun ga capa w6 h6o h6g h6b h6s => ?_)
                  · match j, hj with
                    | 0, hj => cases hj; rw [Addr.add_lit]; exact P5.out.cellAt (i := 0) rfl
                    | j + 1, hj => simp at hj
                  · simp at hu; subst hu; rfl
                  have D7 := D5.name h6o h6g h6b
                  have hm6 := D5.midN h6g
                  have c6 := hm6.1.cellAt (i := 3) rfl
                  have f6 := hm6.1.frozen 3
                  refine hK.out _ _ ⟨⟨_, hm6.1⟩, hm6.2⟩ (fun hHeld6 => ?_)
                  clear hK K hHeld4 h6o h6g h6b h6s
                  try simp only [Act.put, List.setIfInBounds_toArray, List.set_cons_zero, List.set_cons_succ]
                  refine wpAnyH_take (i := 7) (oi := { dst := some 23, op := Op.fieldAddr 26 (Operand.tmp 5) 3, type := 0, pos := "read.go:137", after := #[{ on := 0, ground := Ground.phase }, { on := 1, ground := Ground.phase }, { on := 2, ground := Ground.phase }, { on := 3, ground := Ground.phase }, { on := 4, ground := Ground.phase }, { on := 5, ground := Ground.phase }, { on := 6, ground := Ground.phase }], guard := none }) (v := .pointer (some ⟨A + 1, 3, none⟩)) rfl (by kernel_rfl) (by kernel_rfl) (by kernel_rfl) (fun _ _ _ h => h)
                    (Or.inl ⟨by rfl, by intro w hSw;  clear hSw; go_simp⟩) hHeld6 ?_
                  try simp only [Act.put, List.setIfInBounds_toArray, List.set_cons_zero, List.set_cons_succ]
                  refine wpAnyH_ready (rs := [8]) (by kernel_rfl) (by simp) ?_
                  refine AllReadyH.cons (o := { dst := none, op := Op.store 23 (Operand.tmp 23) (Operand.tmp 22), type := 0, pos := "read.go:137", after := #[{ on := 7, ground := Ground.data }, { on := 6, ground := Ground.data }, { on := 6, ground := Ground.chain }, { on := 0, ground := Ground.phase }, { on := 1, ground := Ground.phase }, { on := 2, ground := Ground.phase }, { on := 3, ground := Ground.phase }, { on := 4, ground := Ground.phase }, { on := 5, ground := Ground.phase }, { on := 6, ground := Ground.phase }], guard := none }) rfl (fun K hK => ?_) AllReadyH.nil
                  go_simp
                  clear c6 f6
                  refine hK.out _ _ ⟨⟨_, D7.box⟩, D7.rd.below⟩ (fun hHeld8 => ?_)
                  clear hK K hHeld6 
                  try simp only [Act.put]
                  refine wpAnyH_done (by kernel_rfl) ?_ _
                  have HD7 := Lib.hid D7
                  clear hHeld8 D7 D5 hm6
                  go_wp2_with fail
                  go_meet
                  exact ⟨s, R', _, HT4.out, by rw [← HNM.out]; exact HD7.out⟩
          case rest =>
            obtain ⟨nm, R', vn', htn, hD4⟩ := hcut
            have hl3 := next_len htn
            have hq := HEQ.out; rw [htn] at hq; dsimp only at hq; replace HEQ := Lib.hid hq; clear hq
            obtain ⟨w4, hw4⟩ : ∃ x : World, x = wc := ⟨_, rfl⟩
            subst hw4
            have D4 := Lib.hid hD4
            clear hD4 htn HFN D3
            have HK := Lib.hid (skip_1s rb w0 R' ⟨#[110, 111, 100, 101]⟩ sNode rfl w4 D4.out.rd)
            go_wp2_with fail
            refine HK.out.mono ?_
            rintro e w5 ⟨hb, hm⟩
            have BU5 := Lib.hid (D4.out.but.trans (hb.mono D4.out.but.size))
            have HB := Lib.hid hb
            have HM := Lib.hid hm
            clear hb hm HK
            cases ht : skipL [sNode] R' with
            | none =>
              have hm := HM.out
              rw [ht] at hm
              subst hm
              have HF : Hid (Z = none) := Lib.hid (by rw [HEQ.out, ht])
              clear HM ht
              go_wp2_with fail
              exact ⟨rfl, BU5.out, by rw [HF.out]⟩
            | some Rq =>
              have hm := HM.out
              rw [ht] at hm
              obtain ⟨v, rfl, hv, hr⟩ : ∃ v, e = .returned v ∧ noneV () v w5 ∧ Rd rb w0 Rq w5 := hm
              cases hv
              have D5 := Lib.hid (D4.out.go HB.out hr)
              have HT4 := Lib.hid ht
              clear hr HM ht HB D4 BU5
              have hl4 := skip_len HT4.out
              have hq := HEQ.out; rw [HT4.out] at hq; dsimp only at hq; replace HEQ := Lib.hid hq; clear hq
              obtain ⟨ns', hns⟩ : ∃ ns', ns' = ns ++ [(⟨nm.toArray⟩ : ByteArray)] := ⟨_, rfl⟩
              rw [← hns] at D5 HEQ
              have hnl : ns'.length = ns.length + 1 := by rw [hns]; simp
              have HFK : Hid (treeL m Rq = none → Z = none) := Lib.hid (fun h => by rw [HEQ.out, h])
              go_upto_region 8 with fail
              go_cut [] (fun wx => KidR m rb w0 w A ns' ks Rq vn' wx)
              case first =>
                have hS0 : (∃ u, Has w5.drew (A + 1) (dirC vn' u) 26) ∧ Below rb w0 w5.drew := ⟨⟨vk, D5.out.box.drew⟩, D5.out.rd.below.drew⟩
                refine wp_region_held_drew (S := fun W => (∃ u, Has W (A + 1) (dirC vn' u) 26) ∧ Below rb w0 W) (by kernel_rfl) hS0 (fun hHeld => ?_)
                clear hS0
                obtain ⟨wd, hwd⟩ : ∃ x, x = w5.drew := ⟨_, rfl⟩
                have DD : Dir rb w0 w A ns' ks Rq vn' vk wd := by rw [hwd]; exact D5.out.drew
                rw [← hwd] at hHeld ⊢
                clear hwd
                refine wpAnyH_take (i := 0) (oi := { dst := some 27, op := Op.fieldAddr 26 (Operand.tmp 5) 4, type := 0, pos := "read.go:139", after := #[], guard := none }) (v := .pointer (some ⟨A + 1, 4, none⟩)) rfl (by kernel_rfl) (by kernel_rfl) (by kernel_rfl) (fun _ _ _ h => h)
                  (Or.inl ⟨by rfl, by intro w hSw;  clear hSw; go_simp⟩) hHeld ?_
                try simp only [Act.put, List.setIfInBounds_toArray, List.set_cons_zero, List.set_cons_succ]
                refine wpAnyH_take (i := 2) (oi := { dst := some 29, op := Op.move (Operand.tmp 0), type := 63, pos := "read.go:139", after := #[], guard := none }) (v := .pointer (some ⟨rb, 0, none⟩)) rfl (by kernel_rfl) (by kernel_rfl) (by kernel_rfl) (fun _ _ _ h => h)
                  (Or.inl ⟨by rfl, by intro w hSw;  clear hSw; go_simp⟩) hHeld ?_
                try simp only [Act.put, List.setIfInBounds_toArray, List.set_cons_zero, List.set_cons_succ]
                refine wpAnyH_take (i := 3) (oi := { dst := some 30, op := Op.move (Operand.tmp 1), type := 3, pos := "read.go:139", after := #[], guard := none }) (v := .int .i64 (dep : Int)) rfl (by kernel_rfl) (by kernel_rfl) (by kernel_rfl) (fun _ _ _ h => h)
                  (Or.inl ⟨by rfl, by intro w hSw;  clear hSw; go_simp⟩) hHeld ?_
                try simp only [Act.put, List.setIfInBounds_toArray, List.set_cons_zero, List.set_cons_succ]
                refine wpAnyH_take (i := 4) (oi := { dst := some 31, op := Op.binOp BinOp.add 3 (Operand.tmp 30) (Operand.const (Value.int IntKind.i64 1)) 3, type := 3, pos := "read.go:139", after := #[{ on := 3, ground := Ground.data }], guard := none }) (v := .int .i64 ((dep : Int) + 1)) rfl (by kernel_rfl) (by kernel_rfl) (by kernel_rfl) (fun _ _ _ h => h)
                  (Or.inl ⟨by rfl, by intro w hSw;  clear hSw; go_simp; exact HWD.out⟩) hHeld ?_
                try simp only [Act.put, List.setIfInBounds_toArray, List.set_cons_zero, List.set_cons_succ]
                refine wpAnyH_ready (rs := [1, 5]) (by kernel_rfl) (by simp) ?_
                refine AllReadyH.cons (o := { dst := some 28, op := Op.load 24 (Operand.tmp 27), type := 24, pos := "read.go:139", after := #[{ on := 0, ground := Ground.data }], guard := none }) rfl (fun K hK => ?_) (AllReadyH.cons (o := { dst := some 32, op := Op.call { callee := Callee.value (Operand.func 29), args := #[Operand.tmp 29, Operand.tmp 31], argTypes := #[63, 3] }, type := 26, pos := "read.go:139", after := #[{ on := 2, ground := Ground.data }, { on := 4, ground := Ground.data }], guard := none }) rfl (fun K hK => ?_) AllReadyH.nil)
                · skip
                  have hcl := DD.box.cellAt (i := 4) rfl
                  go_simp
                  clear hcl
                  refine hK.out _ _ ⟨⟨_, DD.box⟩, DD.rd.below⟩ (fun hHeld1 => ?_)
                  clear hK K hHeld 
                  try simp only [Act.put, List.setIfInBounds_toArray, List.set_cons_zero, List.set_cons_succ]
                  refine wpAnyH_ready (rs := [5]) (by kernel_rfl) (by simp) ?_
                  refine AllReadyH.cons (o := { dst := some 32, op := Op.call { callee := Callee.value (Operand.func 29), args := #[Operand.tmp 29, Operand.tmp 31], argTypes := #[63, 3] }, type := 26, pos := "read.go:139", after := #[{ on := 2, ground := Ground.data }, { on := 4, ground := Ground.data }], guard := none }) rfl (fun K hK => ?_) AllReadyH.nil
                  go_simp
                  refine (HTREE.out Rq wd DD.rd).mono ?_
                  rintro e w4 ⟨hb4, hm4⟩
                  cases ht4 : treeL m Rq with
                  | none =>
                    rw [ht4] at hm4
                    subst hm4
                    have HF : Hid (Z = none) := Lib.hid (HFK.out ht4)
                    have HB : Hid (But w.heap.size rb w w4) := Lib.hid (DD.but.trans (hb4.mono DD.but.size))
                    clear ht4 hK hb4
                    go_wp2_with fail
                    exact ⟨rfl, HB.out, by rw [HF.out]⟩
                  | some q =>
                    obtain ⟨t, R'⟩ := q
                    rw [ht4] at hm4
                    obtain ⟨v, rfl, ⟨nt, ct, rfl, hst⟩, hr4⟩ := hm4
                    have D4 := DD.go hb4 hr4
                    have hkp := KP_lt DD
                    have hks : KStab A (KP A vn' vk) w4 nt ct t := KStab.of hst (by have := DD.box.lt; omega) hkp
                    have h5 := isT_five (hst w4 (Nat.le_refl _) (fun _ _ _ _ => rfl))
                    have h1c := isT_one (hst w4 (Nat.le_refl _) (fun _ _ _ _ => rfl))
                    obtain ⟨c0, c1, c2, c3, c4, rfl⟩ : ∃ c0 c1 c2 c3 c4, ct = [c0, c1, c2, c3, c4] := five_list h5
                    have HKS := Lib.hid hks
                    have H1C := Lib.hid h1c
                    have HT4 := Lib.hid ht4
                    clear ht4 hks hst h1c hkp h5
                    go_wp2_with fail
                    refine hK.out _ _ ⟨⟨_, D4.box⟩, D4.rd.below⟩ (fun hHeld2 => ?_)
                    clear hK K hHeld1 hb4
                    try simp only [Act.put, List.setIfInBounds_toArray, List.set_cons_zero, List.set_cons_succ]
                    refine wpAnyH_ready (rs := [6]) (by kernel_rfl) (by simp) ?_
                    refine AllReadyH.cons (o := { dst := some 33, op := Op.buildSlice 24 1 #[(0, Operand.tmp 32)], type := 24, pos := "read.go:139", after := #[{ on := 5, ground := Ground.data }], guard := none }) rfl (fun K hK => ?_) AllReadyH.nil
                    go_simp
                    obtain ⟨w5, hw5⟩ : ∃ w5, w5 = w4.alloc (.cells #[c0, c1, c2, c3, c4] 26) := ⟨_, rfl⟩
                    have hb5 : Below w4.heap.size w4 w5 := by rw [hw5]; exact (Below.refl _ _).alloc (Nat.le_refl _) _
                    have p5 : Has w5 w4.heap.size [c0, c1, c2, c3, c4] 26 := by rw [hw5]; exact Has.new w4 [c0, c1, c2, c3, c4] _
                    have D5 := D4.later hb5
                    have HKS5 := Lib.hid (KStab.step HKS.out hb5.size (fun k _ h _ => hb5.block k h) (fun k _ h => h))
                    rw [← hw5]
                    have P5 := Lib.hid p5
                    clear hw5 p5 hb5
                    refine hK.out _ _ ⟨⟨_, D5.box⟩, D5.rd.below⟩ (fun hHeld3 => ?_)
                    clear hK K hHeld2 
                    try simp only [Act.put, List.setIfInBounds_toArray, List.set_cons_zero, List.set_cons_succ]
                    obtain ⟨LK, hLK, hLS⟩ := D5.kids
                    refine wpAnyH_ready (rs := [7]) (by kernel_rfl) (by simp) ?_
                    refine AllReadyH.cons (o := { dst := some 34, op := Op.call { callee := Callee.builtin Builtin.append, args := #[Operand.tmp 28, Operand.tmp 33], argTypes := #[24, 24] }, type := 24, pos := "read.go:139", after := #[{ on := 1, ground := Ground.data }, { on := 6, ground := Ground.data }, { on := 5, ground := Ground.chain }], guard := none }) rfl (fun K hK => ?_) AllReadyH.nil
                    rw [if_pos (by rfl)]
                    refine wp_append_lies _ (.tmp 28) (.tmp 33) 24 rfl (A + 2) 26 i1 (.agg #[.int .u8 0, .bool false, .slice none 0 0, .slice none 0 0, .slice none 0 0]) 5 80 Try.underlying24 HI1.out HZ3.out HZ4.out HZ5.out rfl (by omega) vk ks.length LK rfl hLK ⟨w4.heap.size, 0, none⟩ 1 1 [c0, c1, c2, c3, c4] rfl rfl (fun j u hj => ?_) (fun u hu => ?_) (by omega) (by unfold maxLen; omega) (by omega) (by have := D5.box.lt; omega) w5.heap.size rfl (fun ga capa w6 h6o h6g h6b h6s => ?_)
                    · rw [Addr.add_mid, Nat.zero_add]; exact P5.out.cellAt hj
                    · have := H1C.out; rw [List.all_toArray, List.all_eq_true] at this; exact this u hu
                    have D7 := D5.kid hLK hLS HKS5.out rfl h6o h6g h6b
                    have hm6 := D5.midK hLK h6g
                    have c6 := hm6.1.cellAt (i := 4) rfl
                    have f6 := hm6.1.frozen 4
                    refine hK.out _ _ ⟨⟨_, hm6.1⟩, hm6.2⟩ (fun hHeld6 => ?_)
                    clear hK K hHeld3 h6o h6g h6b h6s
                    try simp only [Act.put, List.setIfInBounds_toArray, List.set_cons_zero, List.set_cons_succ]
                    refine wpAnyH_take (i := 8) (oi := { dst := some 35, op := Op.fieldAddr 26 (Operand.tmp 5) 4, type := 0, pos := "read.go:139", after := #[{ on := 0, ground := Ground.phase }, { on := 1, ground := Ground.phase }, { on := 2, ground := Ground.phase }, { on := 3, ground := Ground.phase }, { on := 4, ground := Ground.phase }, { on := 5, ground := Ground.phase }, { on := 6, ground := Ground.phase }, { on := 7, ground := Ground.phase }], guard := none }) (v := .pointer (some ⟨A + 1, 4, none⟩)) rfl (by kernel_rfl) (by kernel_rfl) (by kernel_rfl) (fun _ _ _ h => h)
                      (Or.inl ⟨by rfl, by intro w hSw;  clear hSw; go_simp⟩) hHeld6 ?_
                    try simp only [Act.put, List.setIfInBounds_toArray, List.set_cons_zero, List.set_cons_succ]
                    refine wpAnyH_ready (rs := [9]) (by kernel_rfl) (by simp) ?_
                    refine AllReadyH.cons (o := { dst := none, op := Op.store 24 (Operand.tmp 35) (Operand.tmp 34), type := 0, pos := "read.go:139", after := #[{ on := 8, ground := Ground.data }, { on := 7, ground := Ground.data }, { on := 7, ground := Ground.chain }, { on := 0, ground := Ground.phase }, { on := 1, ground := Ground.phase }, { on := 2, ground := Ground.phase }, { on := 3, ground := Ground.phase }, { on := 4, ground := Ground.phase }, { on := 5, ground := Ground.phase }, { on := 6, ground := Ground.phase }, { on := 7, ground := Ground.phase }], guard := none }) rfl (fun K hK => ?_) AllReadyH.nil
                    go_simp
                    clear c6 f6
                    refine hK.out _ _ ⟨⟨_, D7.box⟩, D7.rd.below⟩ (fun hHeld8 => ?_)
                    clear hK K hHeld6 
                    try simp only [Act.put]
                    refine wpAnyH_done (by kernel_rfl) ?_ _
                    have HD7 := Lib.hid D7
                    clear hHeld8 D7 D5 hm6
                    go_wp2_with fail
                    go_meet
                    exact ⟨t, R', _, HT4.out, HD7.out⟩
                · skip
                  go_simp
                  refine (HTREE.out Rq wd DD.rd).mono ?_
                  rintro e w4 ⟨hb4, hm4⟩
                  cases ht4 : treeL m Rq with
                  | none =>
                    rw [ht4] at hm4
                    subst hm4
                    have HF : Hid (Z = none) := Lib.hid (HFK.out ht4)
                    have HB : Hid (But w.heap.size rb w w4) := Lib.hid (DD.but.trans (hb4.mono DD.but.size))
                    clear ht4 hK hb4
                    go_wp2_with fail
                    exact ⟨rfl, HB.out, by rw [HF.out]⟩
                  | some q =>
                    obtain ⟨t, R'⟩ := q
                    rw [ht4] at hm4
                    obtain ⟨v, rfl, ⟨nt, ct, rfl, hst⟩, hr4⟩ := hm4
                    have D4 := DD.go hb4 hr4
                    have hkp := KP_lt DD
                    have hks : KStab A (KP A vn' vk) w4 nt ct t := KStab.of hst (by have := DD.box.lt; omega) hkp
                    have h5 := isT_five (hst w4 (Nat.le_refl _) (fun _ _ _ _ => rfl))
                    have h1c := isT_one (hst w4 (Nat.le_refl _) (fun _ _ _ _ => rfl))
                    obtain ⟨c0, c1, c2, c3, c4, rfl⟩ : ∃ c0 c1 c2 c3 c4, ct = [c0, c1, c2, c3, c4] := five_list h5
                    have HKS := Lib.hid hks
                    have H1C := Lib.hid h1c
                    have HT4 := Lib.hid ht4
                    clear ht4 hks hst h1c hkp h5
                    go_wp2_with fail
                    refine hK.out _ _ ⟨⟨_, D4.box⟩, D4.rd.below⟩ (fun hHeld2 => ?_)
                    clear hK K hHeld hb4
                    try simp only [Act.put, List.setIfInBounds_toArray, List.set_cons_zero, List.set_cons_succ]
                    refine wpAnyH_ready (rs := [1, 6]) (by kernel_rfl) (by simp) ?_
                    refine AllReadyH.cons (o := { dst := some 28, op := Op.load 24 (Operand.tmp 27), type := 24, pos := "read.go:139", after := #[{ on := 0, ground := Ground.data }], guard := none }) rfl (fun K hK => ?_) (AllReadyH.cons (o := { dst := some 33, op := Op.buildSlice 24 1 #[(0, Operand.tmp 32)], type := 24, pos := "read.go:139", after := #[{ on := 5, ground := Ground.data }], guard := none }) rfl (fun K hK => ?_) AllReadyH.nil)
                    · skip
                      have hcl := D4.box.cellAt (i := 4) rfl
                      go_simp
                      clear hcl
                      refine hK.out _ _ ⟨⟨_, D4.box⟩, D4.rd.below⟩ (fun hHeld3 => ?_)
                      clear hK K hHeld2 
                      try simp only [Act.put, List.setIfInBounds_toArray, List.set_cons_zero, List.set_cons_succ]
                      refine wpAnyH_ready (rs := [6]) (by kernel_rfl) (by simp) ?_
                      refine AllReadyH.cons (o := { dst := some 33, op := Op.buildSlice 24 1 #[(0, Operand.tmp 32)], type := 24, pos := "read.go:139", after := #[{ on := 5, ground := Ground.data }], guard := none }) rfl (fun K hK => ?_) AllReadyH.nil
                      go_simp
                      obtain ⟨w5, hw5⟩ : ∃ w5, w5 = w4.alloc (.cells #[c0, c1, c2, c3, c4] 26) := ⟨_, rfl⟩
                      have hb5 : Below w4.heap.size w4 w5 := by rw [hw5]; exact (Below.refl _ _).alloc (Nat.le_refl _) _
                      have p5 : Has w5 w4.heap.size [c0, c1, c2, c3, c4] 26 := by rw [hw5]; exact Has.new w4 [c0, c1, c2, c3, c4] _
                      have D5 := D4.later hb5
                      have HKS5 := Lib.hid (KStab.step HKS.out hb5.size (fun k _ h _ => hb5.block k h) (fun k _ h => h))
                      rw [← hw5]
                      have P5 := Lib.hid p5
                      clear hw5 p5 hb5
                      refine hK.out _ _ ⟨⟨_, D5.box⟩, D5.rd.below⟩ (fun hHeld4 => ?_)
                      clear hK K hHeld3 
                      try simp only [Act.put, List.setIfInBounds_toArray, List.set_cons_zero, List.set_cons_succ]
                      obtain ⟨LK, hLK, hLS⟩ := D5.kids
                      refine wpAnyH_ready (rs := [7]) (by kernel_rfl) (by simp) ?_
                      refine AllReadyH.cons (o := { dst := some 34, op := Op.call { callee := Callee.builtin Builtin.append, args := #[Operand.tmp 28, Operand.tmp 33], argTypes := #[24, 24] }, type := 24, pos := "read.go:139", after := #[{ on := 1, ground := Ground.data }, { on := 6, ground := Ground.data }, { on := 5, ground := Ground.chain }], guard := none }) rfl (fun K hK => ?_) AllReadyH.nil
                      rw [if_pos (by rfl)]
                      refine wp_append_lies _ (.tmp 28) (.tmp 33) 24 rfl (A + 2) 26 i1 (.agg #[.int .u8 0, .bool false, .slice none 0 0, .slice none 0 0, .slice none 0 0]) 5 80 Try.underlying24 HI1.out HZ3.out HZ4.out HZ5.out rfl (by omega) vk ks.length LK rfl hLK ⟨w4.heap.size, 0, none⟩ 1 1 [c0, c1, c2, c3, c4] rfl rfl (fun j u hj => ?_) (fun u hu => ?_) (by omega) (by unfold maxLen; omega) (by omega) (by have := D5.box.lt; omega) w5.heap.size rfl (fun ga capa w6 h6o h6g h6b h6s => ?_)
                      · rw [Addr.add_mid, Nat.zero_add]; exact P5.out.cellAt hj
                      · have := H1C.out; rw [List.all_toArray, List.all_eq_true] at this; exact this u hu
                      have D7 := D5.kid hLK hLS HKS5.out rfl h6o h6g h6b
                      have hm6 := D5.midK hLK h6g
                      have c6 := hm6.1.cellAt (i := 4) rfl
                      have f6 := hm6.1.frozen 4
                      refine hK.out _ _ ⟨⟨_, hm6.1⟩, hm6.2⟩ (fun hHeld6 => ?_)
                      clear hK K hHeld4 h6o h6g h6b h6s
                      try simp only [Act.put, List.setIfInBounds_toArray, List.set_cons_zero, List.set_cons_succ]
                      refine wpAnyH_take (i := 8) (oi := { dst := some 35, op := Op.fieldAddr 26 (Operand.tmp 5) 4, type := 0, pos := "read.go:139", after := #[{ on := 0, ground := Ground.phase }, { on := 1, ground := Ground.phase }, { on := 2, ground := Ground.phase }, { on := 3, ground := Ground.phase }, { on := 4, ground := Ground.phase }, { on := 5, ground := Ground.phase }, { on := 6, ground := Ground.phase }, { on := 7, ground := Ground.phase }], guard := none }) (v := .pointer (some ⟨A + 1, 4, none⟩)) rfl (by kernel_rfl) (by kernel_rfl) (by kernel_rfl) (fun _ _ _ h => h)
                        (Or.inl ⟨by rfl, by intro w hSw;  clear hSw; go_simp⟩) hHeld6 ?_
                      try simp only [Act.put, List.setIfInBounds_toArray, List.set_cons_zero, List.set_cons_succ]
                      refine wpAnyH_ready (rs := [9]) (by kernel_rfl) (by simp) ?_
                      refine AllReadyH.cons (o := { dst := none, op := Op.store 24 (Operand.tmp 35) (Operand.tmp 34), type := 0, pos := "read.go:139", after := #[{ on := 8, ground := Ground.data }, { on := 7, ground := Ground.data }, { on := 7, ground := Ground.chain }, { on := 0, ground := Ground.phase }, { on := 1, ground := Ground.phase }, { on := 2, ground := Ground.phase }, { on := 3, ground := Ground.phase }, { on := 4, ground := Ground.phase }, { on := 5, ground := Ground.phase }, { on := 6, ground := Ground.phase }, { on := 7, ground := Ground.phase }], guard := none }) rfl (fun K hK => ?_) AllReadyH.nil
                      go_simp
                      clear c6 f6
                      refine hK.out _ _ ⟨⟨_, D7.box⟩, D7.rd.below⟩ (fun hHeld8 => ?_)
                      clear hK K hHeld6 
                      try simp only [Act.put]
                      refine wpAnyH_done (by kernel_rfl) ?_ _
                      have HD7 := Lib.hid D7
                      clear hHeld8 D7 D5 hm6
                      go_wp2_with fail
                      go_meet
                      exact ⟨t, R', _, HT4.out, HD7.out⟩
                    · skip
                      go_simp
                      obtain ⟨w5, hw5⟩ : ∃ w5, w5 = w4.alloc (.cells #[c0, c1, c2, c3, c4] 26) := ⟨_, rfl⟩
                      have hb5 : Below w4.heap.size w4 w5 := by rw [hw5]; exact (Below.refl _ _).alloc (Nat.le_refl _) _
                      have p5 : Has w5 w4.heap.size [c0, c1, c2, c3, c4] 26 := by rw [hw5]; exact Has.new w4 [c0, c1, c2, c3, c4] _
                      have D5 := D4.later hb5
                      have HKS5 := Lib.hid (KStab.step HKS.out hb5.size (fun k _ h _ => hb5.block k h) (fun k _ h => h))
                      rw [← hw5]
                      have P5 := Lib.hid p5
                      clear hw5 p5 hb5
                      refine hK.out _ _ ⟨⟨_, D5.box⟩, D5.rd.below⟩ (fun hHeld3 => ?_)
                      clear hK K hHeld2 
                      try simp only [Act.put, List.setIfInBounds_toArray, List.set_cons_zero, List.set_cons_succ]
                      refine wpAnyH_ready (rs := [1]) (by kernel_rfl) (by simp) ?_
                      refine AllReadyH.cons (o := { dst := some 28, op := Op.load 24 (Operand.tmp 27), type := 24, pos := "read.go:139", after := #[{ on := 0, ground := Ground.data }], guard := none }) rfl (fun K hK => ?_) AllReadyH.nil
                      have hcl := D5.box.cellAt (i := 4) rfl
                      go_simp
                      clear hcl
                      refine hK.out _ _ ⟨⟨_, D5.box⟩, D5.rd.below⟩ (fun hHeld4 => ?_)
                      clear hK K hHeld3 
                      try simp only [Act.put, List.setIfInBounds_toArray, List.set_cons_zero, List.set_cons_succ]
                      obtain ⟨LK, hLK, hLS⟩ := D5.kids
                      refine wpAnyH_ready (rs := [7]) (by kernel_rfl) (by simp) ?_
                      refine AllReadyH.cons (o := { dst := some 34, op := Op.call { callee := Callee.builtin Builtin.append, args := #[Operand.tmp 28, Operand.tmp 33], argTypes := #[24, 24] }, type := 24, pos := "read.go:139", after := #[{ on := 1, ground := Ground.data }, { on := 6, ground := Ground.data }, { on := 5, ground := Ground.chain }], guard := none }) rfl (fun K hK => ?_) AllReadyH.nil
                      rw [if_pos (by rfl)]
                      refine wp_append_lies _ (.tmp 28) (.tmp 33) 24 rfl (A + 2) 26 i1 (.agg #[.int .u8 0, .bool false, .slice none 0 0, .slice none 0 0, .slice none 0 0]) 5 80 Try.underlying24 HI1.out HZ3.out HZ4.out HZ5.out rfl (by omega) vk ks.length LK rfl hLK ⟨w4.heap.size, 0, none⟩ 1 1 [c0, c1, c2, c3, c4] rfl rfl (fun j u hj => ?_) (fun u hu => ?_) (by omega) (by unfold maxLen; omega) (by omega) (by have := D5.box.lt; omega) w5.heap.size rfl (fun ga capa w6 h6o h6g h6b h6s => ?_)
                      · rw [Addr.add_mid, Nat.zero_add]; exact P5.out.cellAt hj
                      · have := H1C.out; rw [List.all_toArray, List.all_eq_true] at this; exact this u hu
                      have D7 := D5.kid hLK hLS HKS5.out rfl h6o h6g h6b
                      have hm6 := D5.midK hLK h6g
                      have c6 := hm6.1.cellAt (i := 4) rfl
                      have f6 := hm6.1.frozen 4
                      refine hK.out _ _ ⟨⟨_, hm6.1⟩, hm6.2⟩ (fun hHeld6 => ?_)
                      clear hK K hHeld4 h6o h6g h6b h6s
                      try simp only [Act.put, List.setIfInBounds_toArray, List.set_cons_zero, List.set_cons_succ]
                      refine wpAnyH_take (i := 8) (oi := { dst := some 35, op := Op.fieldAddr 26 (Operand.tmp 5) 4, type := 0, pos := "read.go:139", after := #[{ on := 0, ground := Ground.phase }, { on := 1, ground := Ground.phase }, { on := 2, ground := Ground.phase }, { on := 3, ground := Ground.phase }, { on := 4, ground := Ground.phase }, { on := 5, ground := Ground.phase }, { on := 6, ground := Ground.phase }, { on := 7, ground := Ground.phase }], guard := none }) (v := .pointer (some ⟨A + 1, 4, none⟩)) rfl (by kernel_rfl) (by kernel_rfl) (by kernel_rfl) (fun _ _ _ h => h)
                        (Or.inl ⟨by rfl, by intro w hSw;  clear hSw; go_simp⟩) hHeld6 ?_
                      try simp only [Act.put, List.setIfInBounds_toArray, List.set_cons_zero, List.set_cons_succ]
                      refine wpAnyH_ready (rs := [9]) (by kernel_rfl) (by simp) ?_
                      refine AllReadyH.cons (o := { dst := none, op := Op.store 24 (Operand.tmp 35) (Operand.tmp 34), type := 0, pos := "read.go:139", after := #[{ on := 8, ground := Ground.data }, { on := 7, ground := Ground.data }, { on := 7, ground := Ground.chain }, { on := 0, ground := Ground.phase }, { on := 1, ground := Ground.phase }, { on := 2, ground := Ground.phase }, { on := 3, ground := Ground.phase }, { on := 4, ground := Ground.phase }, { on := 5, ground := Ground.phase }, { on := 6, ground := Ground.phase }, { on := 7, ground := Ground.phase }], guard := none }) rfl (fun K hK => ?_) AllReadyH.nil
                      go_simp
                      clear c6 f6
                      refine hK.out _ _ ⟨⟨_, D7.box⟩, D7.rd.below⟩ (fun hHeld8 => ?_)
                      clear hK K hHeld6 
                      try simp only [Act.put]
                      refine wpAnyH_done (by kernel_rfl) ?_ _
                      have HD7 := Lib.hid D7
                      clear hHeld8 D7 D5 hm6
                      go_wp2_with fail
                      go_meet
                      exact ⟨t, R', _, HT4.out, HD7.out⟩
              case rest =>
                obtain ⟨t, R5, vk', htt, hD6⟩ := hcut
                have hl5 := tree_len htt
                have hq := HEQ.out; rw [htt] at hq; dsimp only at hq; replace HEQ := Lib.hid hq; clear hq
                obtain ⟨w6, hw6⟩ : ∃ x : World, x = wc := ⟨_, rfl⟩
                subst hw6
                have D6 := Lib.hid hD6
                clear hD6 htt HFK D5
                have HK := Lib.hid (skip_1s rb w0 R5 ⟨#[41]⟩ sClose rfl w6 D6.out.rd)
                go_wp2_with fail
                refine HK.out.mono ?_
                rintro e w7 ⟨hb, hm⟩
                have BU7 := Lib.hid (D6.out.but.trans (hb.mono D6.out.but.size))
                have HB := Lib.hid hb
                have HM := Lib.hid hm
                clear hb hm HK
                cases ht : skipL [sClose] R5 with
                | none =>
                  have hm := HM.out
                  rw [ht] at hm
                  subst hm
                  have HF : Hid (Z = none) := Lib.hid (by rw [HEQ.out, ht])
                  clear HM ht
                  go_wp2_with fail
                  exact ⟨rfl, BU7.out, by rw [HF.out]⟩
                | some Rq =>
                  have hm := HM.out
                  rw [ht] at hm
                  obtain ⟨v, rfl, hv, hr⟩ : ∃ v, e = .returned v ∧ noneV () v w7 ∧ Rd rb w0 Rq w7 := hm
                  cases hv
                  have D7 := Lib.hid (D6.out.go HB.out hr)
                  have HT6 := Lib.hid ht
                  clear hr HM ht HB D6 BU7
                  have hl6 := skip_len HT6.out
                  have hq := HEQ.out; rw [HT6.out] at hq; dsimp only at hq; replace HEQ := Lib.hid hq; clear hq
                  have hkl : (ks ++ [t]).length = ks.length + 1 := by simp
                  have HR : Hid (DirR Z m rb w0 w A R0 mm w7) := Lib.hid ⟨ns', ks ++ [t], _, _, _, by have := HLL.out; omega, by omega, by omega, HEQ.out, D7.out⟩
                  clear hkl hnl hns
                  go_wp2_with fail
                  go_roundg mm
                  case rel => exact HR.out
                  case measure => omega
      · have htest : (sx.toList == [101, 110, 116, 114, 121]) = false := by rw [HSX.out]; exact beq_eq_false_iff_ne.2 hs
        have hq := HEQ.out; simp only [hs, if_false] at hq; replace HEQ := Lib.hid hq; clear hq
        by_cases hs2 : s1 = sClose
        · have htest2 : (sx.toList == [41]) = true := by rw [HSX.out, hs2]; rfl
          replace HEQ : Hid (Z = some (.mk 3 false [] ns ks, R1)) := Lib.hid (by rw [HEQ.out, if_pos hs2])
          obtain ⟨L, hL⟩ : ∃ L : List Value, L = dirC vn vk := ⟨_, rfl⟩
          have X2 : Hid (Has w2 (A + 1) L 26) := Lib.hid (by rw [hL]; exact D2.out.box)
          obtain ⟨an, nn, cn, rfl⟩ := row_form D2.out.names
          obtain ⟨LK, hLK, hLS⟩ := D2.out.kids
          obtain ⟨ak, nk, ck, rfl⟩ := row_form hLK
          have hLI : Hid ((Try.prog.info? 26).map (·.size) = some L.toArray.size) := Lib.hid (by rw [hL]; exact infoL rfl)
          have hLSZ : Hid ((#[.int .u8 0, .bool false, .slice none 0 0, .slice none 0 0, .slice none 0 0] : Array Value).size = L.toArray.size) := Lib.hid (by rw [hL]; rfl)
          have hLO : Hid (L.toArray.all (·.oneCell') = true) := Lib.hid (by rw [hL]; exact dir_one _ _ _ _ _ _)
          have HL := Lib.hid hL
          have HG : Hid (w2.heap[A]? = some (.cells #[.int .u8 0, .bool false, .slice none 0 0, .slice none 0 0, .slice none 0 0] 26 (0, 0))) := Lib.hid D2.out.res
          have HLK := Lib.hid hLK
          have HLS := Lib.hid hLS
          clear hL hLK hLS hs hs2
          go_wp2_with (first
            | (refine wpList_load_rowG (by rfl) 26 _ rfl (A + 1) rfl 26 L.toArray (0, 0) _ X2.out Try.underlying26 rfl hLI.out ?_)
            | (refine wpList_store_row rfl 26 _ _ rfl A L.toArray rfl rfl 26 _ HG.out hLI.out hLSZ.out hLO.out ?_))
          refine bodyPost_ret (results_cell_row (fn := Try.f37) (p := 4) (ty := 26) Try.results37 _ _ A 26 L.toArray (0, 0) _ rfl (setRow_heap _ _ _ _ _ _ HG.out) Try.underlying26 rfl hLI.out) rfl ?_
          have hb : But w2.heap.size A w2 (w2.setRow A L.toArray) := (But.refl _ _ _).setRow (.inr rfl) _
          refine ⟨BU2.out.setRow (.inl (by rw [HA.out]; exact Nat.le_refl _)) _, ?_⟩
          rw [HEQ.out]
          obtain ⟨n, hst⟩ := dir_stab HL.out D2.out.names HLK.out HLS.out hb (by have := D2.out.box.lt; omega) (by omega) HLL.out
          exact ⟨_, rfl, ⟨n, L, rfl, hst⟩, D2.out.rd.other hb hrA0⟩
        · have htest2 : (sx.toList == [41]) = false := by rw [HSX.out]; exact beq_eq_false_iff_ne.2 hs2
          have HF : Hid (Z = none) := Lib.hid (by rw [HEQ.out, if_neg hs2])
          clear hs hs2
          go_wp2_with fail
          refine (giveUp_any _).mono ?_
          rintro e wx ⟨rfl, rfl⟩
          go_wp2_with fail
          exact ⟨rfl, BU2.out, by rw [HF.out]⟩

end Go.Proofs.Ythjihibocobndaa
