/-
  The methods of the heap's row of names.
-/
import Derived.Test.YtdliecailkkciaaOGraph
import Derived.Deep.QuietTactic
import Derived.BigQuiet
import Derived.Deep.MidRow
import Derived.Deep.RegionHeld
import Derived.Deep.Cut
import Derived.BigFrame
import Derived.Shelf.Abstract
namespace Go.Proofs.Ytdliecailkkciaa
open Go.RowKit
set_option linter.unusedVariables false

theorem inv_pop (p : Value) (w : World) (n : Nat) : (method (n + 1) 70 p "Pop").run Try.prog w = .ok (79, p) w := by kernel_rfl
theorem inv_push (p : Value) (w : World) (n : Nat) : (method (n + 1) 70 p "Push").run Try.prog w = .ok (80, p) w := by kernel_rfl
theorem call_pop (xs : Array Value) (w : World) : (callFunc 79 xs).run Try.prog w = .ok (.enter 79 xs) w := by kernel_rfl
theorem call_push (xs : Array Value) (w : World) : (callFunc 80 xs).run Try.prog w = .ok (.enter 80 xs) w := by kernel_rfl
theorem inv_val {P : Program} {w : World} (t elem : TypeId) (name : String) (f : FuncId) (a : Addr) (v : Value) (i : TypeInfo) (m : Method) (hi : P.info? t = some i) (hm : i.methods.find? (·.name == name) = some m) (hp : m.path = #[]) (hf : m.func = some (f, false))
    (hu : P.underlying t = some (.pointer elem)) (hl : (loadVar elem a).run P w = .ok v w) (n : Nat) :
    (method (n + 1) t (.pointer (some a)) name).run P w = .ok (f, v) w := by
  have h1 : (typeInfo t).run P w = .ok i w := by
    unfold typeInfo
    simp only [Sem.run_bind, run_program, Result.andThen_ok, hi, Sem.run_pure]
  have hwrap : ∀ nm : String, (Builtin.ssaWrapNilChk_ #[t] t #[.pointer (some a), strVal "", strVal nm]).run P w = .ok (.pointer (some a)) w := fun _ => rfl
  have h2 : ∀ nm : String, (receiverAt t (.val (.pointer (some a))) false (some nm)).run P w = .ok v w := by
    intro nm
    unfold receiverAt
    simp only [Sem.run_bind, run_underlying hu, Result.andThen_ok, Place.get, Sem.run_pure, hwrap]
    show ((asAddr (.pointer (some a))).run P w).andThen _ = _
    have h3 : (asAddr (.pointer (some a))).run P w = .ok a w := rfl
    rw [h3]
    exact hl
  rw [method]
  simp only [Sem.run_bind, h1, Result.andThen_ok, hm, hp, follow, Sem.run_pure, hf, h2, Array.isEmpty_empty, if_true]
theorem less_any (B : Nat) (v : Value) (l : List ByteArray) (w : World) (hO : w.ownsRow B 9 1 v l.length (l.map Value.string)) (i j : Nat) (hi : i < l.length) (hj : j < l.length) (hl : l.length ≤ 100000) :
    Calls Try.prog 77 #[v, .int .i64 (i : Int), .int .i64 (j : Int)] w fun e w' => e = .returned (.bool (decide (btsOf (l.getD i ⟨#[]⟩) < btsOf (l.getD j ⟨#[]⟩)))) ∧ Below w.heap.size w w' := by
  obtain ⟨a, c, rfl, hS⟩ := owns_isS hO
  obtain ⟨b, off, rfl, hb, h1⟩ := hS.cell hi
  rcases hS.at_ with h0 | ⟨b', off', e, _, hc⟩
  · omega
  cases e
  have c1 := hc i hi
  have c2 := hc j hj
  have hki : (i : Int) < (l.length : Int) := by omega
  have hk0 : (0 : Int) ≤ (i : Int) := by omega
  have hkj : (j : Int) < (l.length : Int) := by omega
  have hj0 : (0 : Int) ≤ (j : Int) := by omega
  have hless : Op.bytesLess (l.getD i ⟨#[]⟩).toList (l.getD j ⟨#[]⟩).toList = decide (btsOf (l.getD i ⟨#[]⟩) < btsOf (l.getD j ⟨#[]⟩)) := by
    rw [bytesLess_eq, ByteArray.toList_eq, ByteArray.toList_eq]; rfl
  obtain ⟨x, hx⟩ : ∃ x, x = l.getD i ⟨#[]⟩ := ⟨_, rfl⟩
  obtain ⟨y, hy⟩ : ∃ x, x = l.getD j ⟨#[]⟩ := ⟨_, rfl⟩
  rw [← hx] at c1 hless ⊢
  rw [← hy] at c2 hless ⊢
  have HL := Lib.hid hless
  clear hO hS hc h1 hx hy hless
  go_enter Try.func77, Try.ntmps77
  go_wp2_with fail
  go_quiet (fail)
  go_wp2_with fail
  go_ret
  exact ⟨by rw [HL.out]; rfl, below_rf (Below.refl _ _) _⟩

/-- Two elements are exchanged. -/
def swapL (l : List ByteArray) (i j : Nat) : List ByteArray := (l.set i (l.getD j ⟨#[]⟩)).set j (l.getD i ⟨#[]⟩)
theorem swapL_len (l : List ByteArray) (i j : Nat) : (swapL l i j).length = l.length := by simp [swapL]
theorem gset (w : World) (a : Addr) (u : Value) : w.grownBy (w.setCell a u) (some a.block) :=
  ⟨rfl, rfl, rfl, by simp, fun k _ hk => Below.heap_setCell w a u k (fun e => hk (by rw [e]))⟩
theorem swap_owns {w : World} {g cap B i j : Nat} {l : List ByteArray} {L : List Value} {x y : ByteArray} (h : Has w g ((L.set (i) (.string y)).set (j) (.string x)) 9) (ht : L.take l.length = l.map Value.string) (hc : l.length ≤ cap) (hB : B ≤ g) (hm : cap ≤ maxLen) (hL : L.length = cap) (hi : i < l.length) (hj : j < l.length) (hx : x = l.getD i ⟨#[]⟩) (hy : y = l.getD j ⟨#[]⟩) :
    w.ownsRow B 9 1 (.slice (some ⟨g, 0, none⟩) l.length cap) (swapL l i j).length ((swapL l i j).map Value.string) := by
  have hn := swapL_len l i j
  refine ⟨by simp, .inr ⟨g, cap, ((L.set (i) (.string y)).set (j) (.string x)).toArray, by rw [hn], hB, h, by omega, hm, by simp [hL], ?_⟩⟩
  rw [hn, Nat.mul_one]
  rw [List.take_set, List.take_set, ht, hx, hy]
  unfold swapL
  rw [List.map_set, List.map_set]
theorem find_met (name : String) (f : FuncId) (h : ((Try.prog.info? 70).bind (fun i => (i.methods.find? (·.name == name)).map (fun m => (m.path, m.func)))) = some (#[], some (f, false))) : ∃ i m, Try.prog.info? 70 = some i ∧ i.methods.find? (·.name == name) = some m ∧ m.path = #[] ∧ m.func = some (f, false) := by
  cases hi : Try.prog.info? 70 with
  | none => rw [hi] at h; cases h
  | some i =>
    rw [hi] at h
    simp only [Option.bind_some] at h
    cases hm : i.methods.find? (·.name == name) with
    | none => rw [hm] at h; cases h
    | some m =>
      rw [hm] at h
      simp only [Option.map_some, Option.some.injEq, Prod.mk.injEq] at h
      exact ⟨i, m, rfl, hm, h.1, h.2⟩
theorem load_least {w : World} {q : Nat} {v : Value} (h : w.cell? ⟨q, 0, none⟩ = some v) : (loadVar 50 ⟨q, 0, none⟩).run Try.prog w = .ok v w := by
  unfold loadVar
  simp only [Sem.run_bind, run_isAgg_plain Try.underlying50 rfl, Result.andThen_ok, Bool.false_eq_true, if_false]
  simp [go_sem, h]
theorem met_len : ((Try.prog.info? 70).bind (fun i => (i.methods.find? (·.name == "Len")).map (fun m => (m.path, m.func)))) = some (#[], some (76, false)) := by kernel_rfl
theorem met_less : ((Try.prog.info? 70).bind (fun i => (i.methods.find? (·.name == "Less")).map (fun m => (m.path, m.func)))) = some (#[], some (77, false)) := by kernel_rfl
theorem met_swap : ((Try.prog.info? 70).bind (fun i => (i.methods.find? (·.name == "Swap")).map (fun m => (m.path, m.func)))) = some (#[], some (78, false)) := by kernel_rfl
theorem call_len (xs : Array Value) (w : World) : (callFunc 76 xs).run Try.prog w = .ok (.enter 76 xs) w := by kernel_rfl
theorem call_less (xs : Array Value) (w : World) : (callFunc 77 xs).run Try.prog w = .ok (.enter 77 xs) w := by kernel_rfl
theorem call_swap (xs : Array Value) (w : World) : (callFunc 78 xs).run Try.prog w = .ok (.enter 78 xs) w := by kernel_rfl
theorem inv_len {q : Nat} {v : Value} {w : World} (h : w.cell? ⟨q, 0, none⟩ = some v) (n : Nat) : (method (n + 1) 70 (.pointer (some ⟨q, 0, none⟩)) "Len").run Try.prog w = .ok (76, v) w := by
  obtain ⟨i, m, h1, h2, h3, h4⟩ := find_met "Len" _ met_len
  exact inv_val _ _ _ _ _ v i m h1 h2 h3 h4 Try.underlying70 (load_least h) n
theorem inv_less {q : Nat} {v : Value} {w : World} (h : w.cell? ⟨q, 0, none⟩ = some v) (n : Nat) : (method (n + 1) 70 (.pointer (some ⟨q, 0, none⟩)) "Less").run Try.prog w = .ok (77, v) w := by
  obtain ⟨i, m, h1, h2, h3, h4⟩ := find_met "Less" _ met_less
  exact inv_val _ _ _ _ _ v i m h1 h2 h3 h4 Try.underlying70 (load_least h) n
theorem inv_swap {q : Nat} {v : Value} {w : World} (h : w.cell? ⟨q, 0, none⟩ = some v) (n : Nat) : (method (n + 1) 70 (.pointer (some ⟨q, 0, none⟩)) "Swap").run Try.prog w = .ok (78, v) w := by
  obtain ⟨i, m, h1, h2, h3, h4⟩ := find_met "Swap" _ met_swap
  exact inv_val _ _ _ _ _ v i m h1 h2 h3 h4 Try.underlying70 (load_least h) n

set_option maxRecDepth 100000 in
set_option maxHeartbeats 8000000 in
theorem swap_any (B : Nat) (v : Value) (l : List ByteArray) (w : World) (hO : w.ownsRow B 9 1 v l.length (l.map Value.string)) (i j : Nat) (hi : i < l.length) (hj : j < l.length) (hl : l.length ≤ 100000) :
    Calls Try.prog 78 #[v, .int .i64 (i : Int), .int .i64 (j : Int)] w fun e w' => e = .returned (.tuple #[]) ∧ w'.ownsRow B 9 1 v (swapL l i j).length ((swapL l i j).map Value.string) ∧ w.grownBy w' v.ownBlock := by
  rcases hO.2 with ⟨rfl, h0⟩ | ⟨g, cap, cur, rfl, hgB, hg, hnc, hcm, hcs, htake⟩
  · omega
  have c1 : w.cell? ⟨g, i, none⟩ = some (.string (l.getD i ⟨#[]⟩)) := by
    have h := hO.cells (g := g) rfl i (.string (l.getD i ⟨#[]⟩)) (by rw [List.getElem?_map, List.getElem?_eq_getElem hi, List.getD_eq_getElem?_getD, List.getElem?_eq_getElem hi]; rfl)
    rw [Addr.add_lit, Nat.zero_add] at h
    exact h
  have c2 : w.cell? ⟨g, j, none⟩ = some (.string (l.getD j ⟨#[]⟩)) := by
    have h := hO.cells (g := g) rfl j (.string (l.getD j ⟨#[]⟩)) (by rw [List.getElem?_map, List.getElem?_eq_getElem hj, List.getD_eq_getElem?_getD, List.getElem?_eq_getElem hj]; rfl)
    rw [Addr.add_lit, Nat.zero_add] at h
    exact h
  obtain ⟨x, hx⟩ : ∃ x, x = l.getD i ⟨#[]⟩ := ⟨_, rfl⟩
  obtain ⟨y, hy⟩ : ∃ x, x = l.getD j ⟨#[]⟩ := ⟨_, rfl⟩
  obtain ⟨L, hL⟩ : ∃ L, L = cur.toList := ⟨_, rfl⟩
  rw [← hx] at c1
  rw [← hy] at c2
  rw [← hL, Nat.mul_one] at htake
  have HX := Lib.hid hx
  have HY := Lib.hid hy
  have HH : Hid (Has w g L 9) := Lib.hid (by unfold Has; rw [hL, Array.toArray_toList]; exact hg)
  have HT := Lib.hid htake
  have HLL : Hid (L.length = cap) := Lib.hid (by rw [hL]; simpa using hcs)
  have HCS : Hid (L.length = cap) := Lib.hid (by rw [hL]; simpa using hcs)
  have HC := Lib.hid hnc
  have HCM := Lib.hid hcm
  have HGB := Lib.hid hgB
  have HI := Lib.hid hi
  have HJ := Lib.hid hj
  have hki : (i : Int) < (l.length : Int) := by omega
  have hk0 : (0 : Int) ≤ (i : Int) := by omega
  have hkj : (j : Int) < (l.length : Int) := by omega
  have hj0 : (0 : Int) ≤ (j : Int) := by omega
  have K1 := Lib.hid c1
  have K2 := Lib.hid c2
  clear hO hg hnc hcm hcs htake hL hx hy c1 c2 hgB
  go_enter Try.func78, Try.ntmps78
  go_upto_region 0 with fail
  refine wp_region_held_drew (S := fun _ => True) (by kernel_rfl) trivial (fun hHeld => ?_)
  obtain ⟨v0, hv0⟩ : ∃ v0, v0 = w.drew := ⟨_, rfl⟩
  have H0 : Hid (Has v0 g L 9) := Lib.hid (by rw [hv0]; exact HH.out)
  have C1 : Hid (v0.cell? ⟨g, i, none⟩ = some (.string x)) := Lib.hid (by rw [hv0]; exact K1.out)
  have C2 : Hid (v0.cell? ⟨g, j, none⟩ = some (.string y)) := Lib.hid (by rw [hv0]; exact K2.out)
  have G0 : Hid (w.grownBy v0 (some g)) := Lib.hid (by rw [hv0]; exact ⟨rfl, rfl, rfl, Nat.le_refl _, fun _ _ _ => rfl⟩)
  rw [← hv0]
  clear hv0 HH K1 K2
  refine wpAnyH_take (i := 0) (oi := { dst := some 6, op := Op.move (Operand.tmp 0), type := 50, pos := "queue.go:52", after := #[], guard := none }) (v := .slice (some ⟨g, 0, none⟩) l.length cap) rfl (by kernel_rfl) (by kernel_rfl) (by kernel_rfl) (fun _ _ _ h => h)
    (Or.inl ⟨by rfl, by intro w hSw;  clear hSw; go_simp⟩) hHeld ?_
  try simp only [Act.put, List.setIfInBounds_toArray, List.set_cons_zero, List.set_cons_succ]
  refine wpAnyH_take (i := 1) (oi := { dst := some 7, op := Op.move (Operand.tmp 1), type := 3, pos := "queue.go:52", after := #[], guard := none }) (v := .int .i64 (i : Int)) rfl (by kernel_rfl) (by kernel_rfl) (by kernel_rfl) (fun _ _ _ h => h)
    (Or.inl ⟨by rfl, by intro w hSw;  clear hSw; go_simp⟩) hHeld ?_
  try simp only [Act.put, List.setIfInBounds_toArray, List.set_cons_zero, List.set_cons_succ]
  refine wpAnyH_take (i := 2) (oi := { dst := some 8, op := Op.move (Operand.tmp 0), type := 50, pos := "queue.go:52", after := #[{ on := 13, ground := Ground.gcOnly Departure.lateStores }], guard := none }) (v := .slice (some ⟨g, 0, none⟩) l.length cap) rfl (by kernel_rfl) (by kernel_rfl) (by kernel_rfl) (fun _ _ _ h => h)
    (Or.inl ⟨by rfl, by intro w hSw;  clear hSw; go_simp⟩) hHeld ?_
  try simp only [Act.put, List.setIfInBounds_toArray, List.set_cons_zero, List.set_cons_succ]
  refine wpAnyH_take (i := 3) (oi := { dst := some 9, op := Op.move (Operand.tmp 2), type := 3, pos := "queue.go:52", after := #[{ on := 13, ground := Ground.gcOnly Departure.lateStores }], guard := none }) (v := .int .i64 (j : Int)) rfl (by kernel_rfl) (by kernel_rfl) (by kernel_rfl) (fun _ _ _ h => h)
    (Or.inl ⟨by rfl, by intro w hSw;  clear hSw; go_simp⟩) hHeld ?_
  try simp only [Act.put, List.setIfInBounds_toArray, List.set_cons_zero, List.set_cons_succ]
  refine wpAnyH_take (i := 4) (oi := { dst := some 10, op := Op.move (Operand.tmp 0), type := 50, pos := "queue.go:52", after := #[], guard := none }) (v := .slice (some ⟨g, 0, none⟩) l.length cap) rfl (by kernel_rfl) (by kernel_rfl) (by kernel_rfl) (fun _ _ _ h => h)
    (Or.inl ⟨by rfl, by intro w hSw;  clear hSw; go_simp⟩) hHeld ?_
  try simp only [Act.put, List.setIfInBounds_toArray, List.set_cons_zero, List.set_cons_succ]
  refine wpAnyH_take (i := 5) (oi := { dst := some 11, op := Op.move (Operand.tmp 2), type := 3, pos := "queue.go:52", after := #[], guard := none }) (v := .int .i64 (j : Int)) rfl (by kernel_rfl) (by kernel_rfl) (by kernel_rfl) (fun _ _ _ h => h)
    (Or.inl ⟨by rfl, by intro w hSw;  clear hSw; go_simp⟩) hHeld ?_
  try simp only [Act.put, List.setIfInBounds_toArray, List.set_cons_zero, List.set_cons_succ]
  refine wpAnyH_take (i := 6) (oi := { dst := some 12, op := Op.indexAddr 50 (Operand.tmp 10) (Operand.tmp 11), type := 0, pos := "queue.go:52", after := #[{ on := 4, ground := Ground.data }, { on := 5, ground := Ground.data }], guard := none }) (v := .pointer (some ⟨g, j, none⟩)) rfl (by kernel_rfl) (by kernel_rfl) (by kernel_rfl) (fun _ _ _ h => h)
    (Or.inl ⟨by rfl, by intro w hSw;  clear hSw; go_simp⟩) hHeld ?_
  try simp only [Act.put, List.setIfInBounds_toArray, List.set_cons_zero, List.set_cons_succ]
  refine wpAnyH_take (i := 8) (oi := { dst := some 14, op := Op.move (Operand.tmp 0), type := 50, pos := "queue.go:52", after := #[], guard := none }) (v := .slice (some ⟨g, 0, none⟩) l.length cap) rfl (by kernel_rfl) (by kernel_rfl) (by kernel_rfl) (fun _ _ _ h => h)
    (Or.inl ⟨by rfl, by intro w hSw;  clear hSw; go_simp⟩) hHeld ?_
  try simp only [Act.put, List.setIfInBounds_toArray, List.set_cons_zero, List.set_cons_succ]
  refine wpAnyH_take (i := 9) (oi := { dst := some 15, op := Op.move (Operand.tmp 1), type := 3, pos := "queue.go:52", after := #[], guard := none }) (v := .int .i64 (i : Int)) rfl (by kernel_rfl) (by kernel_rfl) (by kernel_rfl) (fun _ _ _ h => h)
    (Or.inl ⟨by rfl, by intro w hSw;  clear hSw; go_simp⟩) hHeld ?_
  try simp only [Act.put, List.setIfInBounds_toArray, List.set_cons_zero, List.set_cons_succ]
  refine wpAnyH_take (i := 10) (oi := { dst := some 16, op := Op.indexAddr 50 (Operand.tmp 14) (Operand.tmp 15), type := 0, pos := "queue.go:52", after := #[{ on := 8, ground := Ground.data }, { on := 9, ground := Ground.data }], guard := none }) (v := .pointer (some ⟨g, i, none⟩)) rfl (by kernel_rfl) (by kernel_rfl) (by kernel_rfl) (fun _ _ _ h => h)
    (Or.inl ⟨by rfl, by intro w hSw;  clear hSw; go_simp⟩) hHeld ?_
  try simp only [Act.put, List.setIfInBounds_toArray, List.set_cons_zero, List.set_cons_succ]
  refine wpAnyH_ready (rs := [7, 11]) (by kernel_rfl) (by simp) ?_
  refine AllReadyH.cons (o := { dst := some 13, op := Op.load 9 (Operand.tmp 12), type := 9, pos := "queue.go:52", after := #[{ on := 6, ground := Ground.data }], guard := none }) rfl (fun K hK => ?_) (AllReadyH.cons (o := { dst := some 17, op := Op.load 9 (Operand.tmp 16), type := 9, pos := "queue.go:52", after := #[{ on := 10, ground := Ground.data }], guard := none }) rfl (fun K hK => ?_) AllReadyH.nil)
  · have cc := C2.out
    go_simp
    refine hK.out _ _ (trivial) (fun hHw1 => ?_)
    clear hK K hHeld
    try simp only [Act.put, List.setIfInBounds_toArray, List.set_cons_zero, List.set_cons_succ]
    refine wpAnyH_ready (rs := [11]) (by kernel_rfl) (by simp) ?_
    refine AllReadyH.cons (o := { dst := some 17, op := Op.load 9 (Operand.tmp 16), type := 9, pos := "queue.go:52", after := #[{ on := 10, ground := Ground.data }], guard := none }) rfl (fun K hK => ?_) AllReadyH.nil
    have cc := C1.out
    go_simp
    refine hK.out _ _ (trivial) (fun hHw2 => ?_)
    clear hK K hHw1
    try simp only [Act.put, List.setIfInBounds_toArray, List.set_cons_zero, List.set_cons_succ]
    refine wpAnyH_take (i := 12) (oi := { dst := some 18, op := Op.indexAddr 50 (Operand.tmp 6) (Operand.tmp 7), type := 0, pos := "queue.go:52", after := #[{ on := 0, ground := Ground.data }, { on := 1, ground := Ground.data }, { on := 0, ground := Ground.phase }, { on := 1, ground := Ground.phase }, { on := 2, ground := Ground.textOnly Departure.lateStores }, { on := 3, ground := Ground.textOnly Departure.lateStores }, { on := 4, ground := Ground.phase }, { on := 5, ground := Ground.phase }, { on := 6, ground := Ground.phase }, { on := 7, ground := Ground.phase }, { on := 8, ground := Ground.textOnly Departure.lateStores }, { on := 9, ground := Ground.textOnly Departure.lateStores }, { on := 10, ground := Ground.textOnly Departure.lateStoresUnsure }, { on := 11, ground := Ground.phase }], guard := none }) (v := .pointer (some ⟨g, i, none⟩)) rfl (by kernel_rfl) (by kernel_rfl) (by kernel_rfl) (fun _ _ _ h => h)
      (Or.inl ⟨by rfl, by intro w hSw;  clear hSw; go_simp⟩) hHw2 ?_
    try simp only [Act.put, List.setIfInBounds_toArray, List.set_cons_zero, List.set_cons_succ]
    refine wpAnyH_ready (rs := [13]) (by kernel_rfl) (by simp) ?_
    refine AllReadyH.cons (o := { dst := none, op := Op.store 9 (Operand.tmp 18) (Operand.tmp 13), type := 0, pos := "queue.go:52", after := #[{ on := 12, ground := Ground.data }, { on := 7, ground := Ground.data }, { on := 0, ground := Ground.phase }, { on := 1, ground := Ground.phase }, { on := 2, ground := Ground.textOnly Departure.lateStores }, { on := 3, ground := Ground.textOnly Departure.lateStores }, { on := 4, ground := Ground.phase }, { on := 5, ground := Ground.phase }, { on := 6, ground := Ground.phase }, { on := 7, ground := Ground.phase }, { on := 8, ground := Ground.textOnly Departure.lateStores }, { on := 9, ground := Ground.textOnly Departure.lateStores }, { on := 10, ground := Ground.textOnly Departure.lateStoresUnsure }, { on := 11, ground := Ground.phase }], guard := none }) rfl (fun K hK => ?_) AllReadyH.nil
    have cf := H0.out.frozen (i)
    have cc := C1.out
    go_simp
    obtain ⟨v1, hv1⟩ : ∃ v1, v1 = v0.setCell ⟨g, i, none⟩ (.string y) := ⟨_, rfl⟩
    have H1 : Hid (Has v1 g (L.set (i) (.string y)) 9) := Lib.hid (by rw [hv1]; exact H0.out.set _ _)
    have G1 : Hid (v0.grownBy v1 (some g)) := Lib.hid (by rw [hv1]; exact gset v0 ⟨g, i, none⟩ _)
    rw [← hv1]
    clear hv1 cf cc
    refine hK.out _ _ trivial (fun hHw3 => ?_)
    clear hK K hHw2
    try simp only [Act.put]
    refine wpAnyH_take (i := 14) (oi := { dst := some 19, op := Op.indexAddr 50 (Operand.tmp 8) (Operand.tmp 9), type := 0, pos := "queue.go:52", after := #[{ on := 2, ground := Ground.data }, { on := 3, ground := Ground.data }, { on := 0, ground := Ground.phase }, { on := 1, ground := Ground.phase }, { on := 2, ground := Ground.phase }, { on := 3, ground := Ground.phase }, { on := 4, ground := Ground.phase }, { on := 5, ground := Ground.phase }, { on := 6, ground := Ground.phase }, { on := 7, ground := Ground.phase }, { on := 8, ground := Ground.phase }, { on := 9, ground := Ground.phase }, { on := 10, ground := Ground.phase }, { on := 11, ground := Ground.phase }, { on := 12, ground := Ground.phase }, { on := 13, ground := Ground.phase }], guard := none }) (v := .pointer (some ⟨g, j, none⟩)) rfl (by kernel_rfl) (by kernel_rfl) (by kernel_rfl) (fun _ _ _ h => h)
      (Or.inl ⟨by rfl, by intro w hSw;  clear hSw; go_simp⟩) hHw3 ?_
    try simp only [Act.put, List.setIfInBounds_toArray, List.set_cons_zero, List.set_cons_succ]
    refine wpAnyH_ready (rs := [15]) (by kernel_rfl) (by simp) ?_
    refine AllReadyH.cons (o := { dst := none, op := Op.store 9 (Operand.tmp 19) (Operand.tmp 17), type := 0, pos := "queue.go:52", after := #[{ on := 14, ground := Ground.data }, { on := 11, ground := Ground.data }, { on := 13, ground := Ground.chain }, { on := 0, ground := Ground.phase }, { on := 1, ground := Ground.phase }, { on := 2, ground := Ground.phase }, { on := 3, ground := Ground.phase }, { on := 4, ground := Ground.phase }, { on := 5, ground := Ground.phase }, { on := 6, ground := Ground.phase }, { on := 7, ground := Ground.phase }, { on := 8, ground := Ground.phase }, { on := 9, ground := Ground.phase }, { on := 10, ground := Ground.phase }, { on := 11, ground := Ground.phase }, { on := 12, ground := Ground.phase }, { on := 13, ground := Ground.phase }], guard := none }) rfl (fun K hK => ?_) AllReadyH.nil
    have cf := H1.out.frozen (j)
    obtain ⟨u, cc⟩ : ∃ u, v1.cell? ⟨g, j, none⟩ = some u := ⟨_, H1.out.cellAt (i := j) (List.getElem?_eq_getElem (by rw [List.length_set, HLL.out]; have := HJ.out; have := HC.out; omega))⟩
    go_simp
    obtain ⟨v2, hv2⟩ : ∃ v2, v2 = v1.setCell ⟨g, j, none⟩ (.string x) := ⟨_, rfl⟩
    have H2 : Hid (Has v2 g ((L.set (i) (.string y)).set (j) (.string x)) 9) := Lib.hid (by rw [hv2]; exact H1.out.set _ _)
    have G2 : Hid (v1.grownBy v2 (some g)) := Lib.hid (by rw [hv2]; exact gset v1 ⟨g, j, none⟩ _)
    rw [← hv2]
    clear hv2 cf cc
    refine hK.out _ _ trivial (fun hHw4 => ?_)
    clear hK K hHw3
    try simp only [Act.put]
    refine wpAnyH_done (by kernel_rfl) ?_ _
    clear hHw4
    go_wp2_with fail
    first | go_end0 | (simp only [Exit.inBlock, Exit.then]; refine bodyPost_ret (results_none rfl _ _ _) rfl ?_) | (trace_state; fail)
    exact ⟨rfl, swap_owns H2.out HT.out HC.out HGB.out HCM.out HCS.out HI.out HJ.out HX.out HY.out, (G0.out.trans G1.out).trans G2.out⟩
  · have cc := C1.out
    go_simp
    refine hK.out _ _ (trivial) (fun hHw1 => ?_)
    clear hK K hHeld
    try simp only [Act.put, List.setIfInBounds_toArray, List.set_cons_zero, List.set_cons_succ]
    refine wpAnyH_ready (rs := [7]) (by kernel_rfl) (by simp) ?_
    refine AllReadyH.cons (o := { dst := some 13, op := Op.load 9 (Operand.tmp 12), type := 9, pos := "queue.go:52", after := #[{ on := 6, ground := Ground.data }], guard := none }) rfl (fun K hK => ?_) AllReadyH.nil
    have cc := C2.out
    go_simp
    refine hK.out _ _ (trivial) (fun hHw2 => ?_)
    clear hK K hHw1
    try simp only [Act.put, List.setIfInBounds_toArray, List.set_cons_zero, List.set_cons_succ]
    refine wpAnyH_take (i := 12) (oi := { dst := some 18, op := Op.indexAddr 50 (Operand.tmp 6) (Operand.tmp 7), type := 0, pos := "queue.go:52", after := #[{ on := 0, ground := Ground.data }, { on := 1, ground := Ground.data }, { on := 0, ground := Ground.phase }, { on := 1, ground := Ground.phase }, { on := 2, ground := Ground.textOnly Departure.lateStores }, { on := 3, ground := Ground.textOnly Departure.lateStores }, { on := 4, ground := Ground.phase }, { on := 5, ground := Ground.phase }, { on := 6, ground := Ground.phase }, { on := 7, ground := Ground.phase }, { on := 8, ground := Ground.textOnly Departure.lateStores }, { on := 9, ground := Ground.textOnly Departure.lateStores }, { on := 10, ground := Ground.textOnly Departure.lateStoresUnsure }, { on := 11, ground := Ground.phase }], guard := none }) (v := .pointer (some ⟨g, i, none⟩)) rfl (by kernel_rfl) (by kernel_rfl) (by kernel_rfl) (fun _ _ _ h => h)
      (Or.inl ⟨by rfl, by intro w hSw;  clear hSw; go_simp⟩) hHw2 ?_
    try simp only [Act.put, List.setIfInBounds_toArray, List.set_cons_zero, List.set_cons_succ]
    refine wpAnyH_ready (rs := [13]) (by kernel_rfl) (by simp) ?_
    refine AllReadyH.cons (o := { dst := none, op := Op.store 9 (Operand.tmp 18) (Operand.tmp 13), type := 0, pos := "queue.go:52", after := #[{ on := 12, ground := Ground.data }, { on := 7, ground := Ground.data }, { on := 0, ground := Ground.phase }, { on := 1, ground := Ground.phase }, { on := 2, ground := Ground.textOnly Departure.lateStores }, { on := 3, ground := Ground.textOnly Departure.lateStores }, { on := 4, ground := Ground.phase }, { on := 5, ground := Ground.phase }, { on := 6, ground := Ground.phase }, { on := 7, ground := Ground.phase }, { on := 8, ground := Ground.textOnly Departure.lateStores }, { on := 9, ground := Ground.textOnly Departure.lateStores }, { on := 10, ground := Ground.textOnly Departure.lateStoresUnsure }, { on := 11, ground := Ground.phase }], guard := none }) rfl (fun K hK => ?_) AllReadyH.nil
    have cf := H0.out.frozen (i)
    have cc := C1.out
    go_simp
    obtain ⟨v1, hv1⟩ : ∃ v1, v1 = v0.setCell ⟨g, i, none⟩ (.string y) := ⟨_, rfl⟩
    have H1 : Hid (Has v1 g (L.set (i) (.string y)) 9) := Lib.hid (by rw [hv1]; exact H0.out.set _ _)
    have G1 : Hid (v0.grownBy v1 (some g)) := Lib.hid (by rw [hv1]; exact gset v0 ⟨g, i, none⟩ _)
    rw [← hv1]
    clear hv1 cf cc
    refine hK.out _ _ trivial (fun hHw3 => ?_)
    clear hK K hHw2
    try simp only [Act.put]
    refine wpAnyH_take (i := 14) (oi := { dst := some 19, op := Op.indexAddr 50 (Operand.tmp 8) (Operand.tmp 9), type := 0, pos := "queue.go:52", after := #[{ on := 2, ground := Ground.data }, { on := 3, ground := Ground.data }, { on := 0, ground := Ground.phase }, { on := 1, ground := Ground.phase }, { on := 2, ground := Ground.phase }, { on := 3, ground := Ground.phase }, { on := 4, ground := Ground.phase }, { on := 5, ground := Ground.phase }, { on := 6, ground := Ground.phase }, { on := 7, ground := Ground.phase }, { on := 8, ground := Ground.phase }, { on := 9, ground := Ground.phase }, { on := 10, ground := Ground.phase }, { on := 11, ground := Ground.phase }, { on := 12, ground := Ground.phase }, { on := 13, ground := Ground.phase }], guard := none }) (v := .pointer (some ⟨g, j, none⟩)) rfl (by kernel_rfl) (by kernel_rfl) (by kernel_rfl) (fun _ _ _ h => h)
      (Or.inl ⟨by rfl, by intro w hSw;  clear hSw; go_simp⟩) hHw3 ?_
    try simp only [Act.put, List.setIfInBounds_toArray, List.set_cons_zero, List.set_cons_succ]
    refine wpAnyH_ready (rs := [15]) (by kernel_rfl) (by simp) ?_
    refine AllReadyH.cons (o := { dst := none, op := Op.store 9 (Operand.tmp 19) (Operand.tmp 17), type := 0, pos := "queue.go:52", after := #[{ on := 14, ground := Ground.data }, { on := 11, ground := Ground.data }, { on := 13, ground := Ground.chain }, { on := 0, ground := Ground.phase }, { on := 1, ground := Ground.phase }, { on := 2, ground := Ground.phase }, { on := 3, ground := Ground.phase }, { on := 4, ground := Ground.phase }, { on := 5, ground := Ground.phase }, { on := 6, ground := Ground.phase }, { on := 7, ground := Ground.phase }, { on := 8, ground := Ground.phase }, { on := 9, ground := Ground.phase }, { on := 10, ground := Ground.phase }, { on := 11, ground := Ground.phase }, { on := 12, ground := Ground.phase }, { on := 13, ground := Ground.phase }], guard := none }) rfl (fun K hK => ?_) AllReadyH.nil
    have cf := H1.out.frozen (j)
    obtain ⟨u, cc⟩ : ∃ u, v1.cell? ⟨g, j, none⟩ = some u := ⟨_, H1.out.cellAt (i := j) (List.getElem?_eq_getElem (by rw [List.length_set, HLL.out]; have := HJ.out; have := HC.out; omega))⟩
    go_simp
    obtain ⟨v2, hv2⟩ : ∃ v2, v2 = v1.setCell ⟨g, j, none⟩ (.string x) := ⟨_, rfl⟩
    have H2 : Hid (Has v2 g ((L.set (i) (.string y)).set (j) (.string x)) 9) := Lib.hid (by rw [hv2]; exact H1.out.set _ _)
    have G2 : Hid (v1.grownBy v2 (some g)) := Lib.hid (by rw [hv2]; exact gset v1 ⟨g, j, none⟩ _)
    rw [← hv2]
    clear hv2 cf cc
    refine hK.out _ _ trivial (fun hHw4 => ?_)
    clear hK K hHw3
    try simp only [Act.put]
    refine wpAnyH_done (by kernel_rfl) ?_ _
    clear hHw4
    go_wp2_with fail
    first | go_end0 | (simp only [Exit.inBlock, Exit.then]; refine bodyPost_ret (results_none rfl _ _ _) rfl ?_) | (trace_state; fail)
    exact ⟨rfl, swap_owns H2.out HT.out HC.out HGB.out HCM.out HCS.out HI.out HJ.out HX.out HY.out, (G0.out.trans G1.out).trans G2.out⟩

/-- The heap: block q's first cell holds a row of names of its own. -/
structure Hp (w : World) (q B : Nat) (R : List Value) (v : Value) (l : List ByteArray) : Prop where
  box : Has w q (v :: R) 53
  own : w.ownsRow B 9 1 v l.length (l.map Value.string)
  lt : q < B
  size : B ≤ w.heap.size
theorem Hp.cell {w : World} {q B : Nat} {R : List Value} {v : Value} {l : List ByteArray} (h : Hp w q B R v l) : w.cell? ⟨q, 0, none⟩ = some v := h.box.cellAt (i := 0) rfl
theorem Hp.later {w w' : World} {q B : Nat} {R : List Value} {v : Value} {l : List ByteArray} (h : Hp w q B R v l) (hb : Below w.heap.size w w') : Hp w' q B R v l :=
  ⟨h.box.below hb h.box.lt, owns_stay h.own (fun g hg => hb.block g (h.own.lt g hg).2), h.lt, Nat.le_trans h.size hb.size⟩
/-- All but block q and the row of v is as it was; the row of v' is that of v, or a new one. -/
structure HF (q : Nat) (v : Value) (w : World) (v' : Value) (w' : World) : Prop where
  os : w'.os = w.os
  tape : w'.tape = w.tape
  output : w'.output = w.output
  size : w.heap.size ≤ w'.heap.size
  block : ∀ k, k < w.heap.size → k ≠ q → some k ≠ v.ownBlock → w'.heap[k]? = w.heap[k]?
  own : ∀ g, v'.ownBlock = some g → v.ownBlock = some g ∨ w.heap.size ≤ g
theorem HF.of_below {q : Nat} {v : Value} {w w' : World} (h : Below w.heap.size w w') : HF q v w v w' := ⟨h.os, h.tape, h.output, h.size, fun k hk _ _ => h.block k hk, fun g hg => .inl hg⟩
theorem HF.refl (q : Nat) (v : Value) (w : World) : HF q v w v w := .of_below (Below.refl _ _)
theorem HF.trans {q : Nat} {v v1 v2 : Value} {w w1 w2 : World} (h : HF q v w v1 w1) (k : HF q v1 w1 v2 w2) : HF q v w v2 w2 :=
  ⟨k.os.trans h.os, k.tape.trans h.tape, k.output.trans h.output, Nat.le_trans h.size k.size,
    fun i hi hq hv => (k.block i (Nat.lt_of_lt_of_le hi h.size) hq (fun e => by
      rcases h.own i e.symm with h1 | h1
      · exact hv h1.symm
      · omega)).trans (h.block i hi hq hv),
    fun g hg => (k.own g hg).elim (fun h1 => h.own g h1) (fun h1 => .inr (Nat.le_trans h.size h1))⟩
theorem Hp.grown {w w' : World} {q B : Nat} {R : List Value} {v : Value} {l l' : List ByteArray} (h : Hp w q B R v l) (hg : w.grownBy w' v.ownBlock) (ho : w'.ownsRow B 9 1 v l'.length (l'.map Value.string)) : Hp w' q B R v l' ∧ HF q v w v w' :=
  have hq : some q ≠ v.ownBlock := fun e => by have := (h.own.lt q e.symm).1; have := h.lt; omega
  ⟨⟨(hg.block q h.box.lt hq).trans h.box, ho, h.lt, Nat.le_trans h.size hg.size⟩, ⟨hg.os, hg.tape, hg.output, hg.size, fun k hk _ hv => hg.block k hk hv, fun g hg => .inl hg⟩⟩
/-- Another row is laid into the first cell. -/
theorem Hp.lay {w w1 : World} {q B : Nat} {R : List Value} {v v' : Value} {l l' : List ByteArray} (h : Hp w q B R v l) (hb : HF q v w v' w1) (hx : Has w1 q (v :: R) 53) (ho : w1.ownsRow B 9 1 v' l'.length (l'.map Value.string)) : Hp (w1.setCell ⟨q, 0, none⟩ v') q B R v' l' ∧ HF q v w v' (w1.setCell ⟨q, 0, none⟩ v') :=
  ⟨⟨hx.set 0 v', owns_stay ho (fun g hg => heap_setCell_other w1 ⟨q, 0, none⟩ g _ (by show g ≠ q; have := (ho.lt g hg).1; have := h.lt; omega)), h.lt, by simp; exact Nat.le_trans h.size hb.size⟩,
    ⟨hb.os, hb.tape, hb.output, by simp; exact hb.size, fun k hk hq hv => (heap_setCell_other w1 ⟨q, 0, none⟩ k _ hq).trans (hb.block k hk hq hv), hb.own⟩⟩

theorem assert_str (s : ByteArray) (w : World) : (Instr.typeAssert (.iface 9 (.string s)) 20 9 false).run Try.prog w = .ok (.string s) w := by kernel_rfl
theorem len_any (v : Value) (n : Nat) (hv : ∃ a c, v = .slice a n c) (w : World) : Calls Try.prog 76 #[v] w fun e w' => e = .returned (.int .i64 (n : Int)) ∧ w' = w := by
  obtain ⟨a, c, rfl⟩ := hv
  go_enter Try.func76, Try.ntmps76
  go_wp2_with fail
  go_ret
  exact ⟨rfl, rfl⟩

set_option maxRecDepth 100000 in
set_option maxHeartbeats 8000000 in
theorem pop_any (w : World) (q B : Nat) (R : List Value) (v : Value) (l : List ByteArray) (n : Nat) (h : Hp w q B R v l) (hn : l.length = n + 1) (hl : l.length ≤ 100000) :
    Calls Try.prog 79 #[.pointer (some ⟨q, 0, none⟩)] w fun e w' => e = .returned (.iface 9 (.string (l.getD n ⟨#[]⟩))) ∧ ∃ v', Hp w' q B R v' (l.take n) ∧ HF q v w v' w' := by
  have HP := Lib.hid h
  have ho := h.own
  rcases ho.2 with ⟨rfl, h0⟩ | ⟨g, cap, cur, rfl, hgB, hg, hnc, hcm, hcs, htake⟩
  · omega
  have c1 : w.cell? ⟨g, n, none⟩ = some (.string (l.getD n ⟨#[]⟩)) := by
    have h := ho.cells (g := g) rfl n (.string (l.getD n ⟨#[]⟩)) (by rw [List.getElem?_map, List.getElem?_eq_getElem (by omega), List.getD_eq_getElem?_getD, List.getElem?_eq_getElem (by omega)]; rfl)
    rw [Addr.add_lit, Nat.zero_add] at h
    exact h
  have c0 := h.cell
  have cf := h.box.frozen 0
  have hlt : (l.take n).length = n := by rw [List.length_take]; omega
  have HO : Hid (w.ownsRow B 9 1 (.slice (some ⟨g, 0, none⟩) n cap) (l.take n).length ((l.take n).map Value.string)) := Lib.hid (by
    have h2 := owns_take ho (m := n) (by omega)
    rw [hlt, List.map_take]
    exact h2)
  obtain ⟨x, hx⟩ : ∃ x, x = l.getD n ⟨#[]⟩ := ⟨_, rfl⟩
  obtain ⟨k, hk⟩ : ∃ k, k = l.take n := ⟨_, rfl⟩
  rw [← hx] at c1 ⊢
  rw [← hk] at HO ⊢
  rw [hn] at c0 hnc
  have hki : (n : Int) < ((n + 1 : Nat) : Int) := by omega
  have hk0 : (0 : Int) ≤ (n : Int) := by omega
  have hkc : (n : Int) ≤ (cap : Int) := by omega
  have hkn : ((n + 1 : Nat) : Int) - 1 = (n : Int) := by omega
  have HCAP := Lib.hid hnc
  have HN := Lib.hid hn
  clear h ho hg hcs htake hx hk hlt hgB
  go_enter Try.func79, Try.ntmps79
  go_wp2_with fail
  go_ret
  exact ⟨rfl, _, HP.out.lay ⟨rfl, rfl, rfl, Nat.le_refl _, fun _ _ _ _ => rfl, fun g hg => .inl hg⟩ HP.out.box HO.out⟩

set_option maxRecDepth 100000 in
set_option maxHeartbeats 8000000 in
theorem push_any (w : World) (q B : Nat) (R : List Value) (v : Value) (l : List ByteArray) (s : ByteArray) (h : Hp w q B R v l) (hl : l.length ≤ 100000) :
    Calls Try.prog 80 #[.pointer (some ⟨q, 0, none⟩), .iface 9 (.string s)] w fun e w' => e = .returned (.tuple #[]) ∧ ∃ v', Hp w' q B R v' (l ++ [s]) ∧ HF q v w v' w' := by
  obtain ⟨i0, hi0, hz0, hz1, hz2⟩ := info_parts info_str
  have HI := Lib.hid hi0
  have HZ0 := Lib.hid hz0
  have HZ1 := Lib.hid hz1
  have HZ2 := Lib.hid hz2
  have HP := Lib.hid h
  have HLB := Lib.hid hl
  clear h hl hi0 hz0 hz1 hz2
  go_enter Try.func80, Try.ntmps80
  go_upto_region 0 with fail
  refine wp_region_held_drew (S := fun _ => True) (by kernel_rfl) trivial (fun hHeld => ?_)
  obtain ⟨v0, hv0⟩ : ∃ v0, v0 = w.drew := ⟨_, rfl⟩
  have D0 : Hid (Hp v0 q B R v l) := Lib.hid (by rw [hv0]; exact HP.out.later (Below.refl _ _).drew)
  have X0 : Hid (HF q v w v v0) := Lib.hid (by rw [hv0]; exact .of_below (Below.refl _ _).drew)
  rw [← hv0]
  clear hv0
  refine wpAnyH_take (i := 0) (oi := { dst := some 4, op := Op.move (Operand.tmp 0), type := 70, pos := "queue.go:55", after := #[], guard := none }) (v := .pointer (some ⟨q, 0, none⟩)) rfl (by kernel_rfl) (by kernel_rfl) (by kernel_rfl) (fun _ _ _ h => h)
    (Or.inl ⟨by rfl, by intro w hSw;  clear hSw; go_simp⟩) hHeld ?_
  try simp only [Act.put, List.setIfInBounds_toArray, List.set_cons_zero, List.set_cons_succ]
  refine wpAnyH_take (i := 1) (oi := { dst := some 5, op := Op.move (Operand.tmp 0), type := 70, pos := "queue.go:55", after := #[], guard := none }) (v := .pointer (some ⟨q, 0, none⟩)) rfl (by kernel_rfl) (by kernel_rfl) (by kernel_rfl) (fun _ _ _ h => h)
    (Or.inl ⟨by rfl, by intro w hSw;  clear hSw; go_simp⟩) hHeld ?_
  try simp only [Act.put, List.setIfInBounds_toArray, List.set_cons_zero, List.set_cons_succ]
  refine wpAnyH_take (i := 2) (oi := { dst := some 6, op := Op.nilCheck (Operand.tmp 5), type := 0, pos := "queue.go:55", after := #[{ on := 1, ground := Ground.data }], guard := none }) (v := .pointer (some ⟨q, 0, none⟩)) rfl (by kernel_rfl) (by kernel_rfl) (by kernel_rfl) (fun _ _ _ h => h)
    (Or.inl ⟨by rfl, by intro w hSw;  clear hSw; go_simp⟩) hHeld ?_
  try simp only [Act.put, List.setIfInBounds_toArray, List.set_cons_zero, List.set_cons_succ]
  refine wpAnyH_take (i := 4) (oi := { dst := some 8, op := Op.move (Operand.tmp 1), type := 20, pos := "queue.go:55", after := #[], guard := none }) (v := .iface 9 (.string s)) rfl (by kernel_rfl) (by kernel_rfl) (by kernel_rfl) (fun _ _ _ h => h)
    (Or.inl ⟨by rfl, by intro w hSw;  clear hSw; go_simp⟩) hHeld ?_
  try simp only [Act.put, List.setIfInBounds_toArray, List.set_cons_zero, List.set_cons_succ]
  refine wpAnyH_take (i := 5) (oi := { dst := some 9, op := Op.typeAssert (Operand.tmp 8) 20 9 false, type := 9, pos := "queue.go:55", after := #[{ on := 4, ground := Ground.data }], guard := none }) (v := .string s) rfl (by kernel_rfl) (by kernel_rfl) (by kernel_rfl) (fun _ _ _ h => h)
    (Or.inl ⟨by rfl, by intro w hSw; have ha := assert_str s w; clear hSw; go_simp⟩) hHeld ?_
  try simp only [Act.put, List.setIfInBounds_toArray, List.set_cons_zero, List.set_cons_succ]
  refine wpAnyH_ready (rs := [3, 6]) (by kernel_rfl) (by simp) ?_
  refine AllReadyH.cons (o := { dst := some 7, op := Op.load 50 (Operand.tmp 6), type := 50, pos := "queue.go:55", after := #[{ on := 2, ground := Ground.data }], guard := none }) rfl (fun K hK => ?_) (AllReadyH.cons (o := { dst := some 10, op := Op.buildSlice 50 1 #[(0, Operand.tmp 9)], type := 50, pos := "queue.go:55", after := #[{ on := 5, ground := Ground.data }], guard := none }) rfl (fun K hK => ?_) AllReadyH.nil)
  · have cx := D0.out.cell
    go_simp
    clear cx
    refine hK.out _ _ trivial (fun hHw1 => ?_)
    clear hK K hHeld
    try simp only [Act.put, List.setIfInBounds_toArray, List.set_cons_zero, List.set_cons_succ]
    refine wpAnyH_ready (rs := [6]) (by kernel_rfl) (by simp) ?_
    refine AllReadyH.cons (o := { dst := some 10, op := Op.buildSlice 50 1 #[(0, Operand.tmp 9)], type := 50, pos := "queue.go:55", after := #[{ on := 5, ground := Ground.data }], guard := none }) rfl (fun K hK => ?_) AllReadyH.nil
    go_simp
    obtain ⟨w3, hw3⟩ : ∃ w3, w3 = v0.alloc (.cells #[.string s] 9) := ⟨_, rfl⟩
    have b3 : Below v0.heap.size v0 w3 := by rw [hw3]; exact (Below.refl _ _).alloc (Nat.le_refl _) _
    have P3 : Hid (Has w3 v0.heap.size [.string s] 9) := Lib.hid (by rw [hw3]; exact Has.new v0 _ _)
    have D3 := Lib.hid (D0.out.later b3)
    have X3 : Hid (HF q v w v w3) := Lib.hid (X0.out.trans (.of_below b3))
    rw [← hw3]
    clear hw3 b3
    refine hK.out _ _ trivial (fun hHw2 => ?_)
    clear hK K hHw1
    try simp only [Act.put, List.setIfInBounds_toArray, List.set_cons_zero, List.set_cons_succ]
    refine wpAnyH_ready (rs := [7]) (by kernel_rfl) (by simp) ?_
    refine AllReadyH.cons (o := { dst := some 11, op := Op.call { callee := Callee.builtin Builtin.append, args := #[Operand.tmp 7, Operand.tmp 10], argTypes := #[50, 50] }, type := 50, pos := "queue.go:55", after := #[{ on := 3, ground := Ground.data }, { on := 6, ground := Ground.data }], guard := none }) rfl (fun K hK => ?_) AllReadyH.nil
    rw [if_pos (by rfl)]
    refine wp_append_srcL (.tmp 7) (.tmp 10) 50 rfl B 9 i0 (.string ByteArray.empty) 1 16 Try.underlying50 HI.out HZ0.out HZ1.out HZ2.out rfl (by omega) v l.length (l.map Value.string) rfl D3.out.own (some ⟨v0.heap.size, 0, none⟩) 1 1 [.string s] rfl rfl (fun e => by cases e) (fun ad had j u hj => by cases had; rw [Addr.add_lit, Nat.zero_add]; exact P3.out.cellAt hj) (fun u hu => by simp at hu; subst hu; rfl) (by have := HLB.out; unfold maxLen; omega) (by have := HLB.out; omega) D3.out.size (fun v4 w4 h4o h4g h4b => ?_)
    have X4 : HF q v w3 v4 w4 := ⟨h4g.os, h4g.tape, h4g.output, h4g.size, fun k hk _ hv => h4g.block k hk hv, fun x hx => (h4b x hx).imp id (fun e => by omega)⟩
    have B4 : Hid (Has w4 q (v :: R) 53) := Lib.hid ((h4g.block q D3.out.box.lt (fun e => by have := (D3.out.own.lt q e.symm).1; have := D3.out.lt; omega)).trans D3.out.box)
    have O4 : Hid (w4.ownsRow B 9 1 v4 (l ++ [s]).length ((l ++ [s]).map Value.string)) := Lib.hid (by rw [List.length_append, List.map_append]; exact h4o)
    have X5 := Lib.hid (X3.out.trans X4)
    obtain ⟨a4, m4, c4, hv4⟩ := slice_form h4o
    subst hv4
    clear h4o h4g h4b X4
    refine hK.out _ _ trivial (fun hHw3 => ?_)
    clear hK K hHw2
    try simp only [Act.put, List.setIfInBounds_toArray, List.set_cons_zero, List.set_cons_succ]
    refine wpAnyH_take (i := 8) (oi := { dst := some 12, op := Op.nilCheck (Operand.tmp 4), type := 0, pos := "queue.go:55", after := #[{ on := 0, ground := Ground.data }, { on := 0, ground := Ground.phase }, { on := 1, ground := Ground.phase }, { on := 2, ground := Ground.phase }, { on := 3, ground := Ground.phase }, { on := 4, ground := Ground.phase }, { on := 5, ground := Ground.phase }, { on := 6, ground := Ground.phase }, { on := 7, ground := Ground.phase }], guard := none }) (v := .pointer (some ⟨q, 0, none⟩)) rfl (by kernel_rfl) (by kernel_rfl) (by kernel_rfl) (fun _ _ _ h => h)
      (Or.inl ⟨by rfl, by intro w hSw;  clear hSw; go_simp⟩) hHw3 ?_
    try simp only [Act.put, List.setIfInBounds_toArray, List.set_cons_zero, List.set_cons_succ]
    refine wpAnyH_ready (rs := [9]) (by kernel_rfl) (by simp) ?_
    refine AllReadyH.cons (o := { dst := none, op := Op.store 50 (Operand.tmp 12) (Operand.tmp 11), type := 0, pos := "queue.go:55", after := #[{ on := 8, ground := Ground.data }, { on := 7, ground := Ground.data }, { on := 7, ground := Ground.chain }, { on := 0, ground := Ground.phase }, { on := 1, ground := Ground.phase }, { on := 2, ground := Ground.phase }, { on := 3, ground := Ground.phase }, { on := 4, ground := Ground.phase }, { on := 5, ground := Ground.phase }, { on := 6, ground := Ground.phase }, { on := 7, ground := Ground.phase }], guard := none }) rfl (fun K hK => ?_) AllReadyH.nil
    have cx := B4.out.cellAt (i := 0) rfl
    have cf := B4.out.frozen 0
    go_simp
    clear cx cf
    have L5 := Lib.hid (HP.out.lay X5.out B4.out O4.out)
    obtain ⟨w5, hw5⟩ : ∃ w5, w5 = w4.setCell ⟨q, 0, none⟩ (.slice a4 m4 c4) := ⟨_, rfl⟩
    rw [← hw5] at L5 ⊢
    clear hw5
    refine hK.out _ _ trivial (fun hHw4 => ?_)
    clear hK K hHw3
    try simp only [Act.put]
    refine wpAnyH_done (by kernel_rfl) ?_ _
    clear hHw4
    go_wp2_with fail
    first | go_end0 | (simp only [Exit.inBlock, Exit.then]; refine bodyPost_ret (results_none rfl _ _ _) rfl ?_) | (trace_state; fail)
    exact ⟨rfl, _, L5.out.1, L5.out.2⟩
  · go_simp
    obtain ⟨w3, hw3⟩ : ∃ w3, w3 = v0.alloc (.cells #[.string s] 9) := ⟨_, rfl⟩
    have b3 : Below v0.heap.size v0 w3 := by rw [hw3]; exact (Below.refl _ _).alloc (Nat.le_refl _) _
    have P3 : Hid (Has w3 v0.heap.size [.string s] 9) := Lib.hid (by rw [hw3]; exact Has.new v0 _ _)
    have D3 := Lib.hid (D0.out.later b3)
    have X3 : Hid (HF q v w v w3) := Lib.hid (X0.out.trans (.of_below b3))
    rw [← hw3]
    clear hw3 b3
    refine hK.out _ _ trivial (fun hHw1 => ?_)
    clear hK K hHeld
    try simp only [Act.put, List.setIfInBounds_toArray, List.set_cons_zero, List.set_cons_succ]
    refine wpAnyH_ready (rs := [3]) (by kernel_rfl) (by simp) ?_
    refine AllReadyH.cons (o := { dst := some 7, op := Op.load 50 (Operand.tmp 6), type := 50, pos := "queue.go:55", after := #[{ on := 2, ground := Ground.data }], guard := none }) rfl (fun K hK => ?_) AllReadyH.nil
    have cx := D3.out.cell
    go_simp
    clear cx
    refine hK.out _ _ trivial (fun hHw2 => ?_)
    clear hK K hHw1
    try simp only [Act.put, List.setIfInBounds_toArray, List.set_cons_zero, List.set_cons_succ]
    refine wpAnyH_ready (rs := [7]) (by kernel_rfl) (by simp) ?_
    refine AllReadyH.cons (o := { dst := some 11, op := Op.call { callee := Callee.builtin Builtin.append, args := #[Operand.tmp 7, Operand.tmp 10], argTypes := #[50, 50] }, type := 50, pos := "queue.go:55", after := #[{ on := 3, ground := Ground.data }, { on := 6, ground := Ground.data }], guard := none }) rfl (fun K hK => ?_) AllReadyH.nil
    rw [if_pos (by rfl)]
    refine wp_append_srcL (.tmp 7) (.tmp 10) 50 rfl B 9 i0 (.string ByteArray.empty) 1 16 Try.underlying50 HI.out HZ0.out HZ1.out HZ2.out rfl (by omega) v l.length (l.map Value.string) rfl D3.out.own (some ⟨v0.heap.size, 0, none⟩) 1 1 [.string s] rfl rfl (fun e => by cases e) (fun ad had j u hj => by cases had; rw [Addr.add_lit, Nat.zero_add]; exact P3.out.cellAt hj) (fun u hu => by simp at hu; subst hu; rfl) (by have := HLB.out; unfold maxLen; omega) (by have := HLB.out; omega) D3.out.size (fun v4 w4 h4o h4g h4b => ?_)
    have X4 : HF q v w3 v4 w4 := ⟨h4g.os, h4g.tape, h4g.output, h4g.size, fun k hk _ hv => h4g.block k hk hv, fun x hx => (h4b x hx).imp id (fun e => by omega)⟩
    have B4 : Hid (Has w4 q (v :: R) 53) := Lib.hid ((h4g.block q D3.out.box.lt (fun e => by have := (D3.out.own.lt q e.symm).1; have := D3.out.lt; omega)).trans D3.out.box)
    have O4 : Hid (w4.ownsRow B 9 1 v4 (l ++ [s]).length ((l ++ [s]).map Value.string)) := Lib.hid (by rw [List.length_append, List.map_append]; exact h4o)
    have X5 := Lib.hid (X3.out.trans X4)
    obtain ⟨a4, m4, c4, hv4⟩ := slice_form h4o
    subst hv4
    clear h4o h4g h4b X4
    refine hK.out _ _ trivial (fun hHw3 => ?_)
    clear hK K hHw2
    try simp only [Act.put, List.setIfInBounds_toArray, List.set_cons_zero, List.set_cons_succ]
    refine wpAnyH_take (i := 8) (oi := { dst := some 12, op := Op.nilCheck (Operand.tmp 4), type := 0, pos := "queue.go:55", after := #[{ on := 0, ground := Ground.data }, { on := 0, ground := Ground.phase }, { on := 1, ground := Ground.phase }, { on := 2, ground := Ground.phase }, { on := 3, ground := Ground.phase }, { on := 4, ground := Ground.phase }, { on := 5, ground := Ground.phase }, { on := 6, ground := Ground.phase }, { on := 7, ground := Ground.phase }], guard := none }) (v := .pointer (some ⟨q, 0, none⟩)) rfl (by kernel_rfl) (by kernel_rfl) (by kernel_rfl) (fun _ _ _ h => h)
      (Or.inl ⟨by rfl, by intro w hSw;  clear hSw; go_simp⟩) hHw3 ?_
    try simp only [Act.put, List.setIfInBounds_toArray, List.set_cons_zero, List.set_cons_succ]
    refine wpAnyH_ready (rs := [9]) (by kernel_rfl) (by simp) ?_
    refine AllReadyH.cons (o := { dst := none, op := Op.store 50 (Operand.tmp 12) (Operand.tmp 11), type := 0, pos := "queue.go:55", after := #[{ on := 8, ground := Ground.data }, { on := 7, ground := Ground.data }, { on := 7, ground := Ground.chain }, { on := 0, ground := Ground.phase }, { on := 1, ground := Ground.phase }, { on := 2, ground := Ground.phase }, { on := 3, ground := Ground.phase }, { on := 4, ground := Ground.phase }, { on := 5, ground := Ground.phase }, { on := 6, ground := Ground.phase }, { on := 7, ground := Ground.phase }], guard := none }) rfl (fun K hK => ?_) AllReadyH.nil
    have cx := B4.out.cellAt (i := 0) rfl
    have cf := B4.out.frozen 0
    go_simp
    clear cx cf
    have L5 := Lib.hid (HP.out.lay X5.out B4.out O4.out)
    obtain ⟨w5, hw5⟩ : ∃ w5, w5 = w4.setCell ⟨q, 0, none⟩ (.slice a4 m4 c4) := ⟨_, rfl⟩
    rw [← hw5] at L5 ⊢
    clear hw5
    refine hK.out _ _ trivial (fun hHw4 => ?_)
    clear hK K hHw3
    try simp only [Act.put]
    refine wpAnyH_done (by kernel_rfl) ?_ _
    clear hHw4
    go_wp2_with fail
    first | go_end0 | (simp only [Exit.inBlock, Exit.then]; refine bodyPost_ret (results_none rfl _ _ _) rfl ?_) | (trace_state; fail)
    exact ⟨rfl, _, L5.out.1, L5.out.2⟩
end Go.Proofs.Ytdliecailkkciaa
