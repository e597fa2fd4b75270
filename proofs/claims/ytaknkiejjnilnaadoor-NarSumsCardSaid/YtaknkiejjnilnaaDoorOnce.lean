/-
  The contracts of sync.Once with makeWords: not yet done and the lock free; done already. After the guide's worked example of a lazy value.
-/
import Derived.Test.YtaknkiejjnilnaaDoorGC
namespace Go.Proofs.YtaknkiejjnilnaaDoor
open Go.RowKit

theorem rowW_once (L : List Value) (hL : L.length = 140) (h1 : L[1]? = some (.int .i32 0)) :
    (((rowW (L.set 1 (.int .i32 1)) 64).set 0 (.int .u32 1)).set 1 (.int .i32 0)) = (rowW L 64).set 0 (.int .u32 1) := by
  match L, hL, h1 with
  | a :: c :: d :: M, _, h1 =>
    simp at h1
    subst h1
    simp [rowW]

theorem rowW_get1 (L : List Value) (hL : L.length = 140) : (rowW L 64)[1]? = L[1]? := by
  match L, hL with
  | a :: c :: d :: M, _ => simp [rowW]
theorem rowW_get0 (L : List Value) (hL : L.length = 140) : (rowW L 64)[0]? = L[0]? := by
  match L, hL with
  | a :: c :: d :: M, _ => simp [rowW]

set_option maxRecDepth 100000 in
set_option maxHeartbeats 1600000 in
theorem slow_any (b : Nat) (L : List Value) (t : TypeId) (w : World) (hL : L.length = 140) (hb : Has w b L t) (hb1 : 1 < b)
    (h0 : L[0]? = some (.int .u32 0)) (h1 : L[1]? = some (.int .i32 0))
    (hP : ∀ i, i < 64 → w.cell? ⟨1, i, none⟩ = some (.int .u64 ((primesL.getD i 0 : Nat) : Int))) :
    Calls Tryd.prog 40 #[.pointer (some ⟨b, 0, none⟩), .func (.func 34) #[.pointer (some ⟨b, 0, none⟩)] #[]] w fun e w' => e = .returned (.tuple #[]) ∧ Has w' b ((rowW L 64).set 0 (.int .u32 1)) t ∧ But w.heap.size b w w' := by
  have hblt := hb.lt
  have c0 := hb.cellAt h0
  have c1 := hb.cellAt h1
  have f1 := hb.frozen 1
  have hs1 : Has (w.setCell ⟨b, 1, none⟩ (.int .i32 1)) b (L.set 1 (.int .i32 1)) t := hb.set 1 _
  have hL1 : (L.set 1 (.int .i32 1)).length = 140 := by simp [hL]
  have g0 : (L.set 1 (.int .i32 1))[0]? = some (.int .u32 0) := by simp [h0]
  have cd := hs1.cellAt g0
  have hP1 : ∀ i, i < 64 → (w.setCell ⟨b, 1, none⟩ (.int .i32 1)).cell? ⟨1, i, none⟩ = some (.int .u64 ((primesL.getD i 0 : Nat) : Int)) := fun i hi =>
    (World.cell?_setCell_other _ ⟨b, 1, none⟩ ⟨1, i, none⟩ _ (fun h => by have := congrArg Addr.block h; simp at this; omega)).trans (hP i hi)
  have HP1 := Lib.hid hP1
  have HS1 := Lib.hid hs1
  have HB := Lib.hid hb
  have H0 := Lib.hid h0
  have H1 := Lib.hid h1
  have CD := Lib.hid cd
  have G0 := Lib.hid g0
  clear hP hP1 hs1 hb h0 h1 cd g0
  have hnot : ∀ (x : Bool) (w : World), (Op.unary .not (.bool x)).run Tryd.prog w = .ok (.bool (!x)) w := fun _ _ => rfl
  go_enter_defers Tryd.func40, Tryd.ntmps40
  go_wp2_with (go_at_call 46; refine (lock_free ⟨b, 1, none⟩ _ c1 f1).mono ?_; rintro e w' ⟨rfl, rfl⟩)
  go_wp2_with fail
  refine (load_any ⟨b, 0, none⟩ 0 _ CD.out).mono ?_
  rintro e w' ⟨rfl, rfl⟩
  go_wp2_with fail
  refine (words_any b _ t _ hL1 HS1.out hb1 HP1.out).mono ?_
  rintro e w2 ⟨rfl, hw2, hbut2⟩
  go_wp2_with fail
  have q0 : (rowW (L.set 1 (.int .i32 1)) 64)[0]? = some (.int .u32 0) := (rowW_get0 _ hL1).trans G0.out
  have q1 : (rowW (L.set 1 (.int .i32 1)) 64)[1]? = some (.int .i32 1) := (rowW_get1 _ hL1).trans (by simp [hL])
  refine leaves_cons (f := 48) (args := #[.pointer (some ⟨b, 0, none⟩), .bool true]) (by simp) (by simp [go_sem]) ?_
  refine (store_deferred ⟨b, 0, none⟩ (.int .u32 0) .returning _ (hw2.cellAt q0) (hw2.frozen 0)).mono ?_
  rintro e u' w'' ⟨rfl, rfl, rfl⟩
  have hw3 : Has (w2.drew.setCell ⟨b, 0, none⟩ (.int .u32 1)) b ((rowW (L.set 1 (.int .i32 1)) 64).set 0 (.int .u32 1)) t := hw2.drew.set 0 _
  have q2 : ((rowW (L.set 1 (.int .i32 1)) 64).set 0 (.int .u32 1))[1]? = some (.int .i32 1) := by rw [List.getElem?_set_ne (by omega)]; exact q1
  refine leaves_cons (f := 47) (args := #[.pointer (some ⟨b, 1, none⟩)]) (by simp [settle]) (by simp [go_sem]) ?_
  refine (unlock_deferred ⟨b, 1, none⟩ _ _ (hw3.cellAt q2) (hw3.frozen 1)).mono ?_
  rintro e u' w'' ⟨rfl, rfl, rfl⟩
  simp only [Leaves, settle]
  refine ⟨_, results_none rfl _ _ _, rfl, ?_, ?_⟩
  · rw [← rowW_once L hL H1.out]; exact hw3.set 1 _
  · have B1 : But w.heap.size b w (w.setCell ⟨b, 1, none⟩ (.int .i32 1)) := (But.refl _ _ _).setB 1 _
    exact ((B1.trans (hbut2.mono B1.size)).drew.setB 0 _).setB 1 _

set_option maxRecDepth 100000 in
set_option maxHeartbeats 1600000 in
theorem do_first (b : Nat) (L : List Value) (t : TypeId) (w : World) (hL : L.length = 140) (hb : Has w b L t) (hb1 : 1 < b)
    (h0 : L[0]? = some (.int .u32 0)) (h1 : L[1]? = some (.int .i32 0))
    (hP : ∀ i, i < 64 → w.cell? ⟨1, i, none⟩ = some (.int .u64 ((primesL.getD i 0 : Nat) : Int))) :
    Calls Tryd.prog 33 #[.pointer (some ⟨b, 0, none⟩), .func (.func 34) #[.pointer (some ⟨b, 0, none⟩)] #[]] w fun e w' => e = .returned (.tuple #[]) ∧ Has w' b ((rowW L 64).set 0 (.int .u32 1)) t ∧ But w.heap.size b w w' := by
  have C0 := Lib.hid (hb.cellAt h0)
  have hnot : ∀ (x : Bool) (w : World), (Op.unary .not (.bool x)).run Tryd.prog w = .ok (.bool (!x)) w := fun _ _ => rfl
  go_enter Tryd.func33, Tryd.ntmps33
  go_wp2_with fail
  refine (load_any ⟨b, 0, none⟩ 0 _ C0.out).mono ?_
  rintro e w' ⟨rfl, rfl⟩
  go_wp2_with fail
  refine (slow_any b L t _ hL hb hb1 h0 h1 hP).mono ?_
  rintro e w2 ⟨rfl, hw2, hbut2⟩
  go_wp2_with fail
  go_end0
  exact ⟨rfl, hw2, hbut2⟩

theorem do_done (a : Addr) (d : Int) (hd : ¬ d = 0) (fv : Value) (w : World) (h0 : w.cell? a = some (.int .u32 d)) :
    Calls Tryd.prog 33 #[.pointer (some a), fv] w fun e w' => e = .returned (.tuple #[]) ∧ w' = w := by
  have hnot : ∀ (x : Bool) (w : World), (Op.unary .not (.bool x)).run Tryd.prog w = .ok (.bool (!x)) w := fun _ _ => rfl
  have hd' : (d != 0) = true := by simp [hd]
  go_enter Tryd.func33, Tryd.ntmps33
  go_wp2_with fail
  refine (load_any a d _ h0).mono ?_
  rintro e w' ⟨rfl, rfl⟩
  go_wp2_with fail
  go_end0
  exact ⟨rfl, rfl⟩

end Go.Proofs.YtaknkiejjnilnaaDoor
