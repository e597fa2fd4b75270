/-
  The contract of nar's Read: the tree of an archive, or the error. Condition: what is read is no longer than 10^9 bytes.
-/
import Derived.Test.YthjihibocobndaaNWhole
namespace Go.Proofs.Ythjihibocobndaa
open Go.RowKit
set_option linter.unusedVariables false

theorem read_ret {fn : Func} {P : Program} {p u : Tmp} {ty : TypeId} (h : fn.results = #[.cell p ty, .tmp u]) (tmps : Array Value) (w : World) (g : Nat) (t : TypeId) (cs : Array Value) (fr : Nat × Nat) (d : TypeDesc)
    (hp : tmps.getD p undef = .pointer (some ⟨g, 0, none⟩)) (hg : w.heap[g]? = some (.cells cs t fr))
    (hu : P.underlying ty = some d) (hd : (match d with | .struct _ | .array _ _ => true | _ => false) = true) (hi : (P.info? ty).map (·.size) = some cs.size) :
    (results fn tmps).run P w = .ok (.tuple #[.agg cs, tmps.getD u undef]) w := by
  have hp' : tmps[p]?.getD undef = .pointer (some ⟨g, 0, none⟩) := by simpa using hp
  simp [results, h, hp', asAddr, run_loadVar_row w g t ty cs fr d hg hu hd hi]

/-- Behind Read. -/
def ReadP (l : List UInt8) (w : World) (e : Ending) (w' : World) : Prop :=
  Below w.heap.size w w' ∧ match readL l with
    | none => e = .returned (.tuple #[.agg zeroL.toArray, .int .i64 3])
    | some t => ∃ n cs, e = .returned (.tuple #[.agg cs.toArray, .int .i64 0]) ∧ IsT w' n cs t

set_option maxRecDepth 100000 in
set_option maxHeartbeats 8000000 in
theorem read_any (a : Option Addr) (len cap : Nat) (l : List UInt8) (w : World) (hp : IsB w a len cap l) (hl : l.length ≤ 1000000000) :
    Calls Try.prog 10 #[.slice a len cap] w (ReadP l w) := by
  have HP := Lib.hid hp
  have HL := Lib.hid hl
  clear hp hl
  go_enter Try.func10, Try.ntmps10
  go_upto_region 2 with fail
  obtain ⟨A, hA⟩ : ∃ A, A = w.heap.size := ⟨_, rfl⟩
  rw [← hA]
  obtain ⟨w1, hx1⟩ : ∃ x1, x1 = w.alloc (.cells #[.int .u8 0, .bool false, .slice none 0 0, .slice none 0 0, .slice none 0 0] 26) := ⟨_, rfl⟩
  obtain ⟨w2, hx2⟩ : ∃ x2, x2 = w1.alloc (.cells #[.slice a len cap] 50) := ⟨_, rfl⟩
  rw [← hx1, ← hx2]
  have e1 : w1.heap.size = A + 1 := by rw [hx1, hA]; simp
  have G2 : Hid (Has w2 A zeroL 26) := Lib.hid (by rw [hx2, hx1, hA]; exact (Has.new w zeroL _).alloc _)
  have b1 : Below w.heap.size w w1 := by rw [hx1]; exact (Below.refl _ _).alloc (Nat.le_refl _) _
  have b2 : Below w1.heap.size w1 w2 := by rw [hx2]; exact (Below.refl _ _).alloc (Nat.le_refl _) _
  have RD2 : Hid (Rd (A + 1) w1 l w2) := Lib.hid ⟨a, len, cap, by rw [hx2, ← e1]; exact Has.new w1 [.slice a len cap] _, HP.out.later b1, by rw [← e1]; exact b2, by omega, HL.out⟩
  have B2 : Hid (Below w.heap.size w w2) := Lib.hid (b1.trans (b2.mono b1.size))
  have HA := Lib.hid hA
  clear hx1 hx2 e1 b1 b2 hA
  have HK := Lib.hid (whole_any (A + 1) w1 l w2 RD2.out)
  go_wp2_with fail
  refine HK.out.mono ?_
  rintro e w3 ⟨hb, hm⟩
  have G3 := Lib.hid (G2.out.but hb G2.out.lt (by omega))
  have B3 : Hid (Below w.heap.size w w3) := Lib.hid (B2.out.trans ((hb.mono B2.out.size).below (by have := HA.out; omega)))
  have HSZ := Lib.hid B2.out.size
  have HG2 := Lib.hid G2.out.lt
  have HM := Lib.hid hm
  clear hb hm HK G2 RD2 B2
  cases hr : readL l with
  | none =>
    have hm := HM.out
    rw [hr] at hm
    obtain ⟨Z, hZ⟩ : ∃ Z : List Value, Z = zeroL := ⟨_, rfl⟩
    dsimp only at hm
    rw [← hZ] at hm
    subst hm
    have HF := Lib.hid hr
    have HZ := Lib.hid hZ
    have HGH : Hid (w3.heap[A]? = some (.cells zeroL.toArray 26 (0, 0))) := Lib.hid G3.out
    have hLI : Hid ((Try.prog.info? 26).map (·.size) = some Z.toArray.size) := Lib.hid (by rw [hZ]; exact zero_info)
    have hLS : Hid (zeroL.toArray.size = Z.toArray.size) := Lib.hid (by rw [hZ])
    have hLO : Hid (Z.toArray.all (·.oneCell') = true) := Lib.hid (by rw [hZ]; exact cells_one 0 false none 0 0)
    clear HM hr hZ
    go_wp2_with (refine wpList_store_row rfl 26 _ _ rfl A Z.toArray rfl rfl 26 _ HGH.out hLI.out hLS.out hLO.out ?_)
    refine bodyPost_ret (read_ret (fn := Try.f10) (p := 2) (u := 3) (ty := 26) Try.results10 _ _ A 26 Z.toArray (0, 0) _ rfl (setRow_heap _ _ _ _ _ _ HGH.out) Try.underlying26 rfl hLI.out) rfl ?_
    refine ⟨below_setRow B3.out (by rw [HA.out]; exact Nat.le_refl _) _, ?_⟩
    rw [HF.out, HZ.out]; rfl
  | some t =>
    have hm := HM.out
    rw [hr] at hm
    obtain ⟨n, cs, rfl, hst⟩ := hm
    have HF := Lib.hid hr
    have hT := hst w3 (Nat.le_refl _) (fun _ _ _ _ => rfl)
    have h5 := isT_five hT
    have hLI := Lib.hid (infoL h5)
    have hLS : Hid (zeroL.toArray.size = cs.toArray.size) := Lib.hid (by simp [h5, zeroL])
    have hLO := Lib.hid (isT_one hT)
    have HST := Lib.hid hst
    have HGH : Hid (w3.heap[A]? = some (.cells zeroL.toArray 26 (0, 0))) := Lib.hid G3.out
    clear HM hr hst hT h5
    go_wp2_with (refine wpList_store_row rfl 26 _ _ rfl A cs.toArray rfl rfl 26 _ HGH.out hLI.out hLS.out hLO.out ?_)
    refine bodyPost_ret (read_ret (fn := Try.f10) (p := 2) (u := 3) (ty := 26) Try.results10 _ _ A 26 cs.toArray (0, 0) _ rfl (setRow_heap _ _ _ _ _ _ HGH.out) Try.underlying26 rfl hLI.out) rfl ?_
    refine ⟨below_setRow B3.out (by rw [HA.out]; exact Nat.le_refl _) _, ?_⟩
    rw [HF.out]
    have hb4 : But w3.heap.size A w3 (w3.setRow A cs.toArray) := (But.refl _ _ _).setRow (.inr rfl) _
    refine ⟨n, cs, rfl, HST.out _ hb4.size (fun k hk1 hk2 _ => hb4.block k hk2 ?_)⟩
    have := HG2.out
    have := HA.out
    omega

end Go.Proofs.Ythjihibocobndaa
