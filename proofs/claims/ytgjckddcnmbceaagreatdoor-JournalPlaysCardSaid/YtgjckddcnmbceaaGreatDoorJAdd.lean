/-
  The contracts of add, write, Append where there is room and where there is none. Conditions: the journal's block, the device as Dv says, the digest's laid variables.
-/
import Derived.Test.YtgjckddcnmbceaaGreatDoorJBegin
import Derived.Deep.AppendLies
namespace Go.Proofs.YtgjckddcnmbceaaGreatDoor
open Go.RowKit
set_option linter.unusedVariables false

/-- bytes.Clone of any bytes. -/
theorem clone_all (a : Option Addr) (n c : Nat) (l : List UInt8) (w : World) (hp : IsB w a n c l) :
    Calls Tryz.prog 31 #[.slice a n c] w fun e w' => ∃ v', e = .returned v' ∧ w'.ownsRow w.heap.size 5 1 v' l.length (l.map bv) ∧ Below w.heap.size w w' := by
  rw [hp.length]
  cases a with
  | none =>
    obtain ⟨h0, hc⟩ := hp.nil rfl
    subst h0 hc
    obtain rfl : l = [] := List.eq_nil_of_length_eq_zero hp.length
    refine (Tryz.bytes_Clone_nil 0 0 w).mono ?_
    rintro e w' ⟨rfl, rfl⟩
    exact ⟨_, rfl, World.ownsRow_nil _ _ _ _, Below.refl _ _⟩
  | some ad =>
    by_cases h0 : n = 0
    · subst h0
      obtain rfl : l = [] := List.eq_nil_of_length_eq_zero hp.length
      refine (Tryz.bytes_Clone_at ad 0 c [] w rfl (by omega) (fun i hi => by omega)).mono ?_
      rintro e w' ⟨v', rfl, ho, _, hb⟩
      exact ⟨v', rfl, ho, hb⟩
    · rcases hp.at_ with h1 | ⟨b, off, e, _⟩
      · exact absurd h1 h0
      · cases e
        refine (clone_any b off n c l w hp).mono ?_
        rintro e w' ⟨v', rfl, ho, _, hb⟩
        exact ⟨v', rfl, ho, hb⟩
theorem row_slice {w : World} {B n size : Nat} {e : TypeId} {v : Value} {xs : List Value} (h : w.ownsRow B e size v n xs) : ∃ a m c, v = .slice a m c := by
  rcases h.2 with ⟨rfl, _⟩ | ⟨g, cap, cur', rfl, _⟩
  · exact ⟨_, _, _, rfl⟩
  · exact ⟨_, _, _, rfl⟩
theorem owns_lower {w : World} {B B' : Nat} {e : TypeId} {size : Nat} {v : Value} {n : Nat} {xs : List Value} (h : w.ownsRow B e size v n xs) (hB : B' ≤ B) : w.ownsRow B' e size v n xs := by
  refine ⟨h.1, ?_⟩
  rcases h.2 with hn | ⟨g, cap, cur, rfl, hg, rest⟩
  · exact .inl hn
  · exact .inr ⟨g, cap, cur, rfl, by omega, rest⟩
theorem owns_row {w : World} {B G n size : Nat} {e t : TypeId} {v : Value} {xs X : List Value} (h : w.ownsRow B e size v n xs) (hG : Has w G X t) (ht : e ≠ t) (c : Array Value) : (w.setRow G c).ownsRow B e size v n xs := by
  refine ⟨h.1, ?_⟩
  rcases h.2 with hn | ⟨g, cap, cur, rfl, hg, hgg, rest⟩
  · exact .inl hn
  · refine .inr ⟨g, cap, cur, rfl, hg, ?_, rest⟩
    have hne : g ≠ G := fun e' => by
      subst e'
      have := hgg.symm.trans (show w.heap[g]? = some (.cells X.toArray t (0, 0)) from hG)
      simp only [Option.some.injEq, Obj.cells.injEq] at this
      exact ht this.2.1
    exact (setRow_other w G g c hne).trans hgg
theorem owns_set {w : World} {B b n size : Nat} {e e' : TypeId} {v : Value} {xs L : List Value} (h : w.ownsRow B e size v n xs) (hx : Has w b L e') (he : e ≠ e') (i : Nat) (u : Value) : (w.setCell ⟨b, i, none⟩ u).ownsRow B e size v n xs := by
  refine ⟨h.1, ?_⟩
  rcases h.2 with hn | ⟨g, cap, cur, rfl, hg, hgg, rest⟩
  · exact .inl hn
  · refine .inr ⟨g, cap, cur, rfl, hg, ?_, rest⟩
    have hne : g ≠ b := fun e2 => by
      subst e2
      have := hgg.symm.trans (show w.heap[g]? = some (.cells L.toArray e' (0, 0)) from hx)
      simp only [Option.some.injEq, Obj.cells.injEq] at this
      exact he this.2.1
    exact (heap_setCell_other w ⟨b, i, none⟩ g u hne).trans hgg
theorem row_apart {w : World} {B b n size : Nat} {L xs : List Value} {t e : TypeId} {v : Value} (h : w.ownsRow B e size v n xs) (h' : Has w b L t) (ht : e ≠ t) : v.ownBlock ≠ some b := own_type h h' ht
theorem has_grown2 {w w2 : World} {B b n size : Nat} {e e' : TypeId} {v : Value} {xs L : List Value} (hx : Has w b L e') (h : w.ownsRow B e size v n xs) (he : e ≠ e') (hg : w.grownBy w2 v.ownBlock) : Has w2 b L e' :=
  (hg.block b hx.lt (fun e2 => own_type h hx he e2.symm)).trans hx
theorem owns_grown {w w2 : World} {B B' n size n' size' : Nat} {e e' : TypeId} {v v' : Value} {xs xs' : List Value} (hx : w.ownsRow B' e' size' v' n' xs') (h : w.ownsRow B e size v n xs) (he : e ≠ e') (hg : w.grownBy w2 v.ownBlock) : w2.ownsRow B' e' size' v' n' xs' := by
  refine ⟨hx.1, ?_⟩
  rcases hx.2 with hn | ⟨g, cap, cur, rfl, hg', hgg, rest⟩
  · exact .inl hn
  · refine .inr ⟨g, cap, cur, rfl, hg', ?_, rest⟩
    refine (hg.block g (Array.getElem?_eq_some_iff.1 hgg).1 (fun e2 => ?_)).trans hgg
    rcases h.2 with ⟨rfl, _⟩ | ⟨g2, cap2, cur2, rfl, _, hgg2, _⟩
    · cases e2
    · cases e2
      have := hgg.symm.trans hgg2
      simp only [Option.some.injEq, Obj.cells.injEq] at this
      exact he this.2.1.symm

theorem getD_left {α : Type} (l r : List α) (d : α) (i : Nat) (h : i < l.length) : (l ++ r).getD i d = l.getD i d := by simp [List.getD, List.getElem?_append_left h]
/-- Records in memory: a row of slices, each a row of bytes of its own. -/
def Recs (w : World) (B : Nat) (rV : Value) (recs : List (List UInt8)) : Prop :=
  ∃ vs : List Value, w.ownsRow B tBy 1 rV recs.length vs ∧ ∀ i, i < recs.length → w.ownsRow B 5 1 (vs.getD i undef) (recs.getD i []).length ((recs.getD i []).map bv)
theorem Recs.later {w w' : World} {B : Nat} {rV : Value} {recs : List (List UInt8)} (h : Recs w B rV recs) (hb : Below w.heap.size w w') : Recs w' B rV recs := by
  obtain ⟨vs, h1, h2⟩ := h
  exact ⟨vs, own_later h1 hb, fun i hi => own_later (h2 i hi) hb⟩
theorem Recs.kp {w w' : World} {B B' : Nat} {rV : Value} {recs : List (List UInt8)} {ts : List TypeId} (h : Recs w B rV recs) (hk : Kp ts B' w w') (h1 : tBy ∉ ts) (h2 : 5 ∉ ts) : Recs w' B rV recs := by
  obtain ⟨vs, h3, h4⟩ := h
  exact ⟨vs, ownsRow_kp h3 hk h1, fun i hi => ownsRow_kp (h4 i hi) hk h2⟩
theorem Recs.nil (w : World) (B : Nat) : Recs w B (.slice none 0 0) [] := ⟨[], World.ownsRow_nil _ _ _ _, fun i hi => by simp at hi⟩
theorem infoBy : ∃ i, Tryz.prog.info? tBy = some i ∧ i.zero = some (.slice none 0 0) ∧ i.size = 1 ∧ i.bytes = 24 := by
  have h : (Tryz.prog.info? tBy).map (fun i => (i.zero, i.size, i.bytes)) = some (some (.slice none 0 0), 1, 24) := by kernel_rfl
  obtain ⟨i, hi, hx⟩ := Option.map_eq_some_iff.1 h
  simp only [Prod.mk.injEq] at hx
  exact ⟨i, hi, hx.1, hx.2.1, hx.2.2⟩
theorem u64_one (N : Nat) (h : N < 1000000000000) : IntKind.u64.wrap ((N : Int) + 1) = ((N + 1 : Nat) : Int) := by simp [IntKind.wrap, IntKind.bits, IntKind.signed]; omega
theorem i64_head (n : Nat) (h : n ≤ 1000000000) : IntKind.i64.wrap (32 + (n : Int)) = ((32 + n : Nat) : Int) := by rw [IntKind.wrap_i64]; omega
theorem i64_sum (a b : Nat) (h : a + b ≤ 1000000000) : IntKind.i64.wrap ((a : Int) + (b : Int)) = ((a + b : Nat) : Int) := by rw [IntKind.wrap_i64]; omega

/-- What add may turn. -/
def aT : List TypeId := [tJ, tBy]
theorem kp_aT {B : Nat} {w w' : World} (h : Kp aT B w w') : Kp jT B w w' := h.mono (Nat.le_refl _) (fun t ht => by simp only [aT, jT, List.mem_cons, List.not_mem_nil, or_false] at ht ⊢; rcases ht with h | h <;> simp [h])
/-- Behind add. -/
def AddP (pj pd h N : Nat) (bV : Value) (C B : Nat) (base : List UInt8) (recs : List (List UInt8)) (p : List UInt8) (used : Nat) (st lost : Bool) (w : World) (e : Ending) (w' : World) : Prop :=
  e = .returned (.tuple #[]) ∧ Kp aT C w w' ∧ ∃ rV', Has w' pj (jC pd h (N + 1) bV rV' (used + (32 + p.length)) st lost) tJ ∧ Recs w' B rV' (recs ++ [p]) ∧ w'.ownsRow B 5 1 bV base.length (base.map bv)

set_option maxRecDepth 100000 in
set_option maxHeartbeats 4000000 in
theorem add_ok {w : World} {C B pd pj h N used : Nat} {base : List UInt8} {recs : List (List UInt8)} {bV rV : Value} {st lost : Bool} (hj : Has w pj (jC pd h N bV rV used st lost) tJ) (hb : w.ownsRow B 5 1 bV base.length (base.map bv)) (hr : Recs w B rV recs)
    (a : Option Addr) (len cap : Nat) (p : List UInt8) (hp : IsB w a len cap p) (hN : N < 1000000000000) (hu : used + len ≤ 100000000) (hrl : recs.length ≤ 100000000) (hB : B ≤ w.heap.size) (hCB : C ≤ B) (hpj : C ≤ pj) :
    Calls Tryz.prog 30 #[.pointer (some ⟨pj, 0, none⟩), .slice a len cap] w (AddP pj pd h N bV C B base recs p used st lost w) := by
  obtain ⟨i0, hi, hz0, hz1, hz2⟩ := infoBy
  have HI := Lib.hid hi
  have HZ0 := Lib.hid hz0
  have HZ1 := Lib.hid hz1
  have HZ2 := Lib.hid hz2
  have hlen := hp.length
  obtain ⟨vs, hrv, hrs⟩ := hr
  have HJ := Lib.hid hj
  have HBb := Lib.hid hb
  have HRV := Lib.hid hrv
  have HRS := Lib.hid hrs
  have HCL : Hid (∀ x, Below w.heap.size w x → Calls Tryz.prog 31 #[.slice a len cap] x fun e w' => ∃ v', e = .returned v' ∧ w'.ownsRow x.heap.size 5 1 v' p.length (p.map bv) ∧ Below x.heap.size x w') := Lib.hid (fun x hx => clone_all a len cap p x (hp.later hx))
  have JJ : Hid (∀ x, Below w.heap.size w x → Has x pj (jC pd h N bV rV used st lost) tJ) := Lib.hid (fun x hx => (hx.block pj hj.lt).trans hj)
  obtain ⟨ra, rn, rc, rfl⟩ := row_slice hrv
  have HLEN := Lib.hid hlen
  have HB := Lib.hid hB
  have HPJ := Lib.hid hpj
  have HCB := Lib.hid hCB
  obtain ⟨N1, hN1⟩ : ∃ N1, N1 = N + 1 := ⟨_, rfl⟩
  obtain ⟨U1, hU1⟩ : ∃ U1, U1 = 32 + len := ⟨_, rfl⟩
  obtain ⟨U2, hU2⟩ : ∃ U2, U2 = used + U1 := ⟨_, rfl⟩
  have k2 : len ≤ 1000000000 := by omega
  have k3 : used + U1 ≤ 1000000000 := by omega
  have x1 := u64_one N hN
  have x2 := i64_head len k2
  have x2' : wrap64 (32 + (len : Int)) = ((32 + len : Nat) : Int) := (IntWalk.i64_left _).symm.trans x2
  have x3 := i64_sum used U1 k3
  have x3' : wrap64 ((used : Int) + (U1 : Int)) = ((used + U1 : Nat) : Int) := (IntWalk.i64_left _).symm.trans x3
  rw [← hN1] at x1
  rw [← hU1] at x2 x2'
  rw [← hU2] at x3 x3'
  clear k2 k3
  have HN1 := Lib.hid hN1
  have HU1 := Lib.hid hU1
  have HU2 := Lib.hid hU2
  have HRL := Lib.hid hrl
  clear hi hz0 hz1 hz2 hlen hrv hrs hj hb hp hB hpj hCB hN hN1 hU1 hU2 hu hrl
  go_enter Tryz.func30, Tryz.ntmps30
  go_upto_region 0 with fail
  refine wp_region_held_drew (S := fun _ => True) (by kernel_rfl) trivial (fun hHeld => ?_)
  refine wpAnyH_take (i := 0) (oi := { dst := some 4, op := Op.move (Operand.tmp 0), type := 25, pos := "journal.go:109", after := #[], guard := none }) (v := .pointer (some ⟨pj, 0, none⟩)) rfl (by kernel_rfl) (by kernel_rfl) (by kernel_rfl) (fun _ _ _ h => h)
    (Or.inl ⟨by rfl, by intro w hSw;  clear hSw; go_simp⟩) hHeld ?_
  try simp only [Act.put, List.setIfInBounds_toArray, List.set_cons_zero, List.set_cons_succ]
  refine wpAnyH_take (i := 1) (oi := { dst := some 5, op := Op.move (Operand.tmp 0), type := 25, pos := "journal.go:109", after := #[], guard := none }) (v := .pointer (some ⟨pj, 0, none⟩)) rfl (by kernel_rfl) (by kernel_rfl) (by kernel_rfl) (fun _ _ _ h => h)
    (Or.inl ⟨by rfl, by intro w hSw;  clear hSw; go_simp⟩) hHeld ?_
  try simp only [Act.put, List.setIfInBounds_toArray, List.set_cons_zero, List.set_cons_succ]
  refine wpAnyH_take (i := 2) (oi := { dst := some 6, op := Op.nilCheck (Operand.tmp 5), type := 0, pos := "journal.go:109", after := #[{ on := 1, ground := Ground.data }], guard := none }) (v := .pointer (some ⟨pj, 0, none⟩)) rfl (by kernel_rfl) (by kernel_rfl) (by kernel_rfl) (fun _ _ _ h => h)
    (Or.inl ⟨by rfl, by intro w hSw;  clear hSw; go_simp⟩) hHeld ?_
  try simp only [Act.put, List.setIfInBounds_toArray, List.set_cons_zero, List.set_cons_succ]
  refine wpAnyH_take (i := 3) (oi := { dst := some 7, op := Op.fieldAddr 62 (Operand.tmp 6) 4, type := 0, pos := "journal.go:109", after := #[{ on := 2, ground := Ground.data }], guard := none }) (v := .pointer (some ⟨pj, 4, none⟩)) rfl (by kernel_rfl) (by kernel_rfl) (by kernel_rfl) (fun _ _ _ h => h)
    (Or.inl ⟨by rfl, by intro w hSw;  clear hSw; go_simp⟩) hHeld ?_
  try simp only [Act.put, List.setIfInBounds_toArray, List.set_cons_zero, List.set_cons_succ]
  refine wpAnyH_take (i := 5) (oi := { dst := some 9, op := Op.move (Operand.tmp 1), type := 33, pos := "journal.go:109", after := #[], guard := none }) (v := .slice a len cap) rfl (by kernel_rfl) (by kernel_rfl) (by kernel_rfl) (fun _ _ _ h => h)
    (Or.inl ⟨by rfl, by intro w hSw;  clear hSw; go_simp⟩) hHeld ?_
  try simp only [Act.put, List.setIfInBounds_toArray, List.set_cons_zero, List.set_cons_succ]
  refine wpAnyH_ready (rs := [4, 6]) (by kernel_rfl) (by simp) ?_
  refine AllReadyH.cons (o := { dst := some 8, op := Op.load 48 (Operand.tmp 7), type := 48, pos := "journal.go:109", after := #[{ on := 3, ground := Ground.data }], guard := none }) rfl (fun K hK => ?_) (AllReadyH.cons (o := { dst := some 10, op := Op.call { callee := Callee.value (Operand.func 31), args := #[Operand.tmp 9], argTypes := #[33] }, type := 33, pos := "journal.go:109", after := #[{ on := 5, ground := Ground.data }], guard := none }) rfl (fun K hK => ?_) AllReadyH.nil)
  · have q4 := (JJ.out _ ((Below.refl w.heap.size w).drew)).cellAt (i := 4) rfl
    go_simp
    clear q4
    refine hK.out _ _ trivial (fun hHw1 => ?_)
    clear hK K hHeld
    try simp only [Act.put, List.setIfInBounds_toArray, List.set_cons_zero, List.set_cons_succ]
    refine wpAnyH_ready (rs := [6]) (by kernel_rfl) (by simp) ?_
    refine AllReadyH.cons (o := { dst := some 10, op := Op.call { callee := Callee.value (Operand.func 31), args := #[Operand.tmp 9], argTypes := #[33] }, type := 33, pos := "journal.go:109", after := #[{ on := 5, ground := Ground.data }], guard := none }) rfl (fun K hK => ?_) AllReadyH.nil
    go_simp
    refine (HCL.out w.drew (Below.refl w.heap.size w).drew).mono ?_
    rintro e wc ⟨v2, rfl, ho2, hb2⟩
    obtain ⟨va, vn, vc, rfl⟩ := row_slice ho2
    have Bc : Hid (Below w.heap.size w wc) := Lib.hid ((Below.refl w.heap.size w).drew.trans hb2)
    have Oc : Hid (wc.ownsRow w.heap.size 5 1 (.slice va vn vc) p.length (p.map bv)) := Lib.hid ho2
    clear ho2 hb2
    go_wp2_with fail
    refine hK.out _ _ trivial (fun hHw2 => ?_)
    clear hK K hHw1
    try simp only [Act.put, List.setIfInBounds_toArray, List.set_cons_zero, List.set_cons_succ]
    refine wpAnyH_ready (rs := [7]) (by kernel_rfl) (by simp) ?_
    refine AllReadyH.cons (o := { dst := some 11, op := Op.buildSlice 48 1 #[(0, Operand.tmp 10)], type := 48, pos := "journal.go:109", after := #[{ on := 6, ground := Ground.data }], guard := none }) rfl (fun K hK => ?_) AllReadyH.nil
    go_simp
    obtain ⟨wd, hwd⟩ : ∃ wd, wd = wc.alloc (.cells #[.slice va vn vc] tBy) := ⟨_, rfl⟩
    have Bd : Hid (Below w.heap.size w wd) := Lib.hid (by rw [hwd]; exact Bc.out.alloc Bc.out.size _)
    have Od : Hid (wd.ownsRow w.heap.size 5 1 (.slice va vn vc) p.length (p.map bv)) := Lib.hid (by rw [hwd]; exact Oc.out.alloc _)
    have Hd1 : Hid (Has wd wc.heap.size [.slice va vn vc] tBy) := Lib.hid (by rw [hwd]; exact Has.new wc _ _)
    rw [← hwd]
    clear hwd
    refine hK.out _ _ trivial (fun hHw3 => ?_)
    clear hK K hHw2
    try simp only [Act.put, List.setIfInBounds_toArray, List.set_cons_zero, List.set_cons_succ]
    refine wpAnyH_ready (rs := [8]) (by kernel_rfl) (by simp) ?_
    refine AllReadyH.cons (o := { dst := some 12, op := Op.call { callee := Callee.builtin Builtin.append, args := #[Operand.tmp 8, Operand.tmp 11], argTypes := #[48, 48] }, type := 48, pos := "journal.go:109", after := #[{ on := 4, ground := Ground.data }, { on := 7, ground := Ground.data }, { on := 6, ground := Ground.chain }], guard := none }) rfl (fun K hK => ?_) AllReadyH.nil
    rw [if_pos (by rfl)]
    have ORd : Hid (wd.ownsRow B tBy 1 (.slice ra rn rc) recs.length vs) := Lib.hid (own_later HRV.out Bd.out)
    refine wp_append_lies _ (.tmp 8) (.tmp 11) 48 rfl B tBy i0 (.slice none 0 0) 1 24 Tryz.underlying48 HI.out HZ0.out HZ1.out HZ2.out rfl (by omega) _ recs.length vs rfl ORd.out ⟨wc.heap.size, 0, none⟩ 1 1 [.slice va vn vc] rfl rfl (fun j u hj => by rw [Addr.add_mid, Nat.zero_add]; exact Hd1.out.cellAt hj) (fun u hu => by simp at hu; subst hu; rfl) (by omega) (by have := HRL.out; unfold maxLen; omega) (by have := HRL.out; omega) (Nat.le_trans HB.out Bd.out.size) _ rfl (fun ga capa we heo heg hes hei => ?_)
    have Oe := Lib.hid heo
    have Ge := Lib.hid heg
    have Je : Hid (Has we pj (jC pd h N bV (.slice ra rn rc) used st lost) tJ) := Lib.hid (has_grown2 (JJ.out wd Bd.out) ORd.out (by decide) heg)
    have Pe : Hid (we.ownsRow w.heap.size 5 1 (.slice va vn vc) p.length (p.map bv)) := Lib.hid (owns_grown Od.out ORd.out (by decide) heg)
    have Be : Hid (we.ownsRow B 5 1 bV base.length (base.map bv)) := Lib.hid (owns_grown (own_later HBb.out Bd.out) ORd.out (by decide) heg)
    have Re : Hid (∀ i, i < recs.length → we.ownsRow B 5 1 (vs.getD i undef) (recs.getD i []).length ((recs.getD i []).map bv)) := Lib.hid (fun i hi => owns_grown (own_later (HRS.out i hi) Bd.out) ORd.out (by decide) heg)
    have Ke : Hid (Kp aT C w we) := Lib.hid ((Kp.of_below Bd.out).trans (Kp.grown heg ORd.out HCB.out (by decide)))
    clear heo heg hes hei
    refine hK.out _ _ trivial (fun hHw4 => ?_)
    clear hK K hHw3
    try simp only [Act.put, List.setIfInBounds_toArray, List.set_cons_zero, List.set_cons_succ]
    refine wpAnyH_take (i := 9) (oi := { dst := some 13, op := Op.nilCheck (Operand.tmp 4), type := 0, pos := "journal.go:109", after := #[{ on := 0, ground := Ground.data }, { on := 0, ground := Ground.phase }, { on := 1, ground := Ground.phase }, { on := 2, ground := Ground.phase }, { on := 3, ground := Ground.phase }, { on := 4, ground := Ground.phase }, { on := 5, ground := Ground.phase }, { on := 6, ground := Ground.phase }, { on := 7, ground := Ground.phase }, { on := 8, ground := Ground.phase }], guard := none }) (v := .pointer (some ⟨pj, 0, none⟩)) rfl (by kernel_rfl) (by kernel_rfl) (by kernel_rfl) (fun _ _ _ h => h)
      (Or.inl ⟨by rfl, by intro w hSw;  clear hSw; go_simp⟩) hHw4 ?_
    try simp only [Act.put, List.setIfInBounds_toArray, List.set_cons_zero, List.set_cons_succ]
    refine wpAnyH_take (i := 10) (oi := { dst := some 14, op := Op.fieldAddr 62 (Operand.tmp 13) 4, type := 0, pos := "journal.go:109", after := #[{ on := 9, ground := Ground.data }, { on := 0, ground := Ground.phase }, { on := 1, ground := Ground.phase }, { on := 2, ground := Ground.phase }, { on := 3, ground := Ground.phase }, { on := 4, ground := Ground.phase }, { on := 5, ground := Ground.phase }, { on := 6, ground := Ground.phase }, { on := 7, ground := Ground.phase }, { on := 8, ground := Ground.phase }], guard := none }) (v := .pointer (some ⟨pj, 4, none⟩)) rfl (by kernel_rfl) (by kernel_rfl) (by kernel_rfl) (fun _ _ _ h => h)
      (Or.inl ⟨by rfl, by intro w hSw;  clear hSw; go_simp⟩) hHw4 ?_
    try simp only [Act.put, List.setIfInBounds_toArray, List.set_cons_zero, List.set_cons_succ]
    refine wpAnyH_ready (rs := [11]) (by kernel_rfl) (by simp) ?_
    refine AllReadyH.cons (o := { dst := none, op := Op.store 48 (Operand.tmp 14) (Operand.tmp 12), type := 0, pos := "journal.go:109", after := #[{ on := 10, ground := Ground.data }, { on := 8, ground := Ground.data }, { on := 8, ground := Ground.chain }, { on := 0, ground := Ground.phase }, { on := 1, ground := Ground.phase }, { on := 2, ground := Ground.phase }, { on := 3, ground := Ground.phase }, { on := 4, ground := Ground.phase }, { on := 5, ground := Ground.phase }, { on := 6, ground := Ground.phase }, { on := 7, ground := Ground.phase }, { on := 8, ground := Ground.phase }], guard := none }) rfl (fun K hK => ?_) AllReadyH.nil
    have q4 := Je.out.cellAt (i := 4) rfl
    have f4 := Je.out.frozen 4
    go_simp
    clear q4 f4
    obtain ⟨wg, hwg⟩ : ∃ wg, wg = we.setCell ⟨pj, 4, none⟩ (.slice (some ⟨ga, 0, none⟩) (recs.length + 1) capa) := ⟨_, rfl⟩
    have Jg : Hid (Has wg pj (jC pd h N bV (.slice (some ⟨ga, 0, none⟩) (recs.length + 1) capa) used st lost) tJ) := Lib.hid (by rw [hwg]; exact Je.out.set 4 _)
    have Og : Hid (wg.ownsRow B tBy 1 (.slice (some ⟨ga, 0, none⟩) (recs.length + 1) capa) (recs.length + 1) (vs ++ [.slice va vn vc])) := Lib.hid (by rw [hwg]; exact owns_set Oe.out Je.out (by decide) 4 _)
    have Pg : Hid (wg.ownsRow w.heap.size 5 1 (.slice va vn vc) p.length (p.map bv)) := Lib.hid (by rw [hwg]; exact owns_set Pe.out Je.out (by decide) 4 _)
    have Bg : Hid (wg.ownsRow B 5 1 bV base.length (base.map bv)) := Lib.hid (by rw [hwg]; exact owns_set Be.out Je.out (by decide) 4 _)
    have Rg : Hid (∀ i, i < recs.length → wg.ownsRow B 5 1 (vs.getD i undef) (recs.getD i []).length ((recs.getD i []).map bv)) := Lib.hid (fun i hi => by rw [hwg]; exact owns_set (Re.out i hi) Je.out (by decide) 4 _)
    have Kg : Hid (Kp aT C w wg) := Lib.hid (by rw [hwg]; exact Ke.out.trans (Kp.of_but ((But.refl _ _ _).setB 4 _) HPJ.out Je.out (by decide)))
    first | rw [← hwg] | skip
    clear hwg
    refine hK.out _ _ trivial (fun hHw5 => ?_)
    clear hK K hHw4
    try simp only [Act.put, List.setIfInBounds_toArray, List.set_cons_zero, List.set_cons_succ]
    refine wpAnyH_done (by kernel_rfl) ?_ _
    clear hHw5
    have q5 := Jg.out.cellAt (i := 5) rfl
    have g5 := Jg.out.frozen 5
    go_upto_region 2 with fail
    obtain ⟨wh, hwh⟩ : ∃ wh, wh = wg.setCell ⟨pj, 5, none⟩ (.int .i64 (U2 : Int)) := ⟨_, rfl⟩
    have Jh : Hid (Has wh pj (jC pd h N bV (.slice (some ⟨ga, 0, none⟩) (recs.length + 1) capa) U2 st lost) tJ) := Lib.hid (by rw [hwh]; exact Jg.out.set 5 _)
    have Oh : Hid (wh.ownsRow B tBy 1 (.slice (some ⟨ga, 0, none⟩) (recs.length + 1) capa) (recs.length + 1) (vs ++ [.slice va vn vc])) := Lib.hid (by rw [hwh]; exact owns_set Og.out Jg.out (by decide) 5 _)
    have Ph : Hid (wh.ownsRow w.heap.size 5 1 (.slice va vn vc) p.length (p.map bv)) := Lib.hid (by rw [hwh]; exact owns_set Pg.out Jg.out (by decide) 5 _)
    have Bh : Hid (wh.ownsRow B 5 1 bV base.length (base.map bv)) := Lib.hid (by rw [hwh]; exact owns_set Bg.out Jg.out (by decide) 5 _)
    have Rh : Hid (∀ i, i < recs.length → wh.ownsRow B 5 1 (vs.getD i undef) (recs.getD i []).length ((recs.getD i []).map bv)) := Lib.hid (fun i hi => by rw [hwh]; exact owns_set (Rg.out i hi) Jg.out (by decide) 5 _)
    have Kh : Hid (Kp aT C w wh) := Lib.hid (by rw [hwh]; exact Kg.out.trans (Kp.of_but ((But.refl _ _ _).setB 5 _) HPJ.out Jg.out (by decide)))
    rw [← hwh]
    clear hwh q5 g5
    have q2 := Jh.out.cellAt (i := 2) rfl
    have g2 := Jh.out.frozen 2
    go_wp2_with fail
    go_end0
    refine ⟨rfl, Kh.out.trans (Kp.of_but ((But.refl _ _ _).setB 2 _) HPJ.out Jh.out (by decide)), .slice (some ⟨ga, 0, none⟩) (recs.length + 1) capa, ?_, ⟨vs ++ [.slice va vn vc], ?_, fun i hi => ?_⟩, owns_set Bh.out Jh.out (by decide) 2 _⟩
    · have e : used + (32 + p.length) = U2 := by rw [HU2.out, HU1.out, HLEN.out]
      rw [e, ← HN1.out]
      exact Jh.out.set 2 _
    · rw [List.length_append]
      exact owns_set Oh.out Jh.out (by decide) 2 _
    · rw [List.length_append] at hi
      have hvl : vs.length = recs.length := by have := HRV.out.1; omega
      rcases Nat.lt_or_ge i recs.length with h1 | h1
      · rw [getD_left _ _ _ _ (by omega), getD_left _ _ _ _ h1]
        exact owns_set (Rh.out i h1) Jh.out (by decide) 2 _
      · have e : i = recs.length := by simp at hi; omega
        subst e
        have e1 : (vs ++ [Value.slice va vn vc]).getD recs.length undef = .slice va vn vc := by rw [← hvl]; simp [List.getD]
        have e2 : (recs ++ [p]).getD recs.length [] = p := by simp [List.getD]
        rw [e1, e2]
        exact owns_lower (owns_set Ph.out Jh.out (by decide) 2 _) HB.out
  · go_simp
    refine (HCL.out w.drew (Below.refl w.heap.size w).drew).mono ?_
    rintro e wc ⟨v2, rfl, ho2, hb2⟩
    obtain ⟨va, vn, vc, rfl⟩ := row_slice ho2
    have Bc : Hid (Below w.heap.size w wc) := Lib.hid ((Below.refl w.heap.size w).drew.trans hb2)
    have Oc : Hid (wc.ownsRow w.heap.size 5 1 (.slice va vn vc) p.length (p.map bv)) := Lib.hid ho2
    clear ho2 hb2
    go_wp2_with fail
    refine hK.out _ _ trivial (fun hHw1 => ?_)
    clear hK K hHeld
    try simp only [Act.put, List.setIfInBounds_toArray, List.set_cons_zero, List.set_cons_succ]
    refine wpAnyH_ready (rs := [4, 7]) (by kernel_rfl) (by simp) ?_
    refine AllReadyH.cons (o := { dst := some 8, op := Op.load 48 (Operand.tmp 7), type := 48, pos := "journal.go:109", after := #[{ on := 3, ground := Ground.data }], guard := none }) rfl (fun K hK => ?_) (AllReadyH.cons (o := { dst := some 11, op := Op.buildSlice 48 1 #[(0, Operand.tmp 10)], type := 48, pos := "journal.go:109", after := #[{ on := 6, ground := Ground.data }], guard := none }) rfl (fun K hK => ?_) AllReadyH.nil)
    · have q4 := (JJ.out _ (Bc.out)).cellAt (i := 4) rfl
      go_simp
      clear q4
      refine hK.out _ _ trivial (fun hHw2 => ?_)
      clear hK K hHw1
      try simp only [Act.put, List.setIfInBounds_toArray, List.set_cons_zero, List.set_cons_succ]
      refine wpAnyH_ready (rs := [7]) (by kernel_rfl) (by simp) ?_
      refine AllReadyH.cons (o := { dst := some 11, op := Op.buildSlice 48 1 #[(0, Operand.tmp 10)], type := 48, pos := "journal.go:109", after := #[{ on := 6, ground := Ground.data }], guard := none }) rfl (fun K hK => ?_) AllReadyH.nil
      go_simp
      obtain ⟨wd, hwd⟩ : ∃ wd, wd = wc.alloc (.cells #[.slice va vn vc] tBy) := ⟨_, rfl⟩
      have Bd : Hid (Below w.heap.size w wd) := Lib.hid (by rw [hwd]; exact Bc.out.alloc Bc.out.size _)
      have Od : Hid (wd.ownsRow w.heap.size 5 1 (.slice va vn vc) p.length (p.map bv)) := Lib.hid (by rw [hwd]; exact Oc.out.alloc _)
      have Hd1 : Hid (Has wd wc.heap.size [.slice va vn vc] tBy) := Lib.hid (by rw [hwd]; exact Has.new wc _ _)
      rw [← hwd]
      clear hwd
      refine hK.out _ _ trivial (fun hHw3 => ?_)
      clear hK K hHw2
      try simp only [Act.put, List.setIfInBounds_toArray, List.set_cons_zero, List.set_cons_succ]
      refine wpAnyH_ready (rs := [8]) (by kernel_rfl) (by simp) ?_
      refine AllReadyH.cons (o := { dst := some 12, op := Op.call { callee := Callee.builtin Builtin.append, args := #[Operand.tmp 8, Operand.tmp 11], argTypes := #[48, 48] }, type := 48, pos := "journal.go:109", after := #[{ on := 4, ground := Ground.data }, { on := 7, ground := Ground.data }, { on := 6, ground := Ground.chain }], guard := none }) rfl (fun K hK => ?_) AllReadyH.nil
      rw [if_pos (by rfl)]
      have ORd : Hid (wd.ownsRow B tBy 1 (.slice ra rn rc) recs.length vs) := Lib.hid (own_later HRV.out Bd.out)
      refine wp_append_lies _ (.tmp 8) (.tmp 11) 48 rfl B tBy i0 (.slice none 0 0) 1 24 Tryz.underlying48 HI.out HZ0.out HZ1.out HZ2.out rfl (by omega) _ recs.length vs rfl ORd.out ⟨wc.heap.size, 0, none⟩ 1 1 [.slice va vn vc] rfl rfl (fun j u hj => by rw [Addr.add_mid, Nat.zero_add]; exact Hd1.out.cellAt hj) (fun u hu => by simp at hu; subst hu; rfl) (by omega) (by have := HRL.out; unfold maxLen; omega) (by have := HRL.out; omega) (Nat.le_trans HB.out Bd.out.size) _ rfl (fun ga capa we heo heg hes hei => ?_)
      have Oe := Lib.hid heo
      have Ge := Lib.hid heg
      have Je : Hid (Has we pj (jC pd h N bV (.slice ra rn rc) used st lost) tJ) := Lib.hid (has_grown2 (JJ.out wd Bd.out) ORd.out (by decide) heg)
      have Pe : Hid (we.ownsRow w.heap.size 5 1 (.slice va vn vc) p.length (p.map bv)) := Lib.hid (owns_grown Od.out ORd.out (by decide) heg)
      have Be : Hid (we.ownsRow B 5 1 bV base.length (base.map bv)) := Lib.hid (owns_grown (own_later HBb.out Bd.out) ORd.out (by decide) heg)
      have Re : Hid (∀ i, i < recs.length → we.ownsRow B 5 1 (vs.getD i undef) (recs.getD i []).length ((recs.getD i []).map bv)) := Lib.hid (fun i hi => owns_grown (own_later (HRS.out i hi) Bd.out) ORd.out (by decide) heg)
      have Ke : Hid (Kp aT C w we) := Lib.hid ((Kp.of_below Bd.out).trans (Kp.grown heg ORd.out HCB.out (by decide)))
      clear heo heg hes hei
      refine hK.out _ _ trivial (fun hHw4 => ?_)
      clear hK K hHw3
      try simp only [Act.put, List.setIfInBounds_toArray, List.set_cons_zero, List.set_cons_succ]
      refine wpAnyH_take (i := 9) (oi := { dst := some 13, op := Op.nilCheck (Operand.tmp 4), type := 0, pos := "journal.go:109", after := #[{ on := 0, ground := Ground.data }, { on := 0, ground := Ground.phase }, { on := 1, ground := Ground.phase }, { on := 2, ground := Ground.phase }, { on := 3, ground := Ground.phase }, { on := 4, ground := Ground.phase }, { on := 5, ground := Ground.phase }, { on := 6, ground := Ground.phase }, { on := 7, ground := Ground.phase }, { on := 8, ground := Ground.phase }], guard := none }) (v := .pointer (some ⟨pj, 0, none⟩)) rfl (by kernel_rfl) (by kernel_rfl) (by kernel_rfl) (fun _ _ _ h => h)
        (Or.inl ⟨by rfl, by intro w hSw;  clear hSw; go_simp⟩) hHw4 ?_
      try simp only [Act.put, List.setIfInBounds_toArray, List.set_cons_zero, List.set_cons_succ]
      refine wpAnyH_take (i := 10) (oi := { dst := some 14, op := Op.fieldAddr 62 (Operand.tmp 13) 4, type := 0, pos := "journal.go:109", after := #[{ on := 9, ground := Ground.data }, { on := 0, ground := Ground.phase }, { on := 1, ground := Ground.phase }, { on := 2, ground := Ground.phase }, { on := 3, ground := Ground.phase }, { on := 4, ground := Ground.phase }, { on := 5, ground := Ground.phase }, { on := 6, ground := Ground.phase }, { on := 7, ground := Ground.phase }, { on := 8, ground := Ground.phase }], guard := none }) (v := .pointer (some ⟨pj, 4, none⟩)) rfl (by kernel_rfl) (by kernel_rfl) (by kernel_rfl) (fun _ _ _ h => h)
        (Or.inl ⟨by rfl, by intro w hSw;  clear hSw; go_simp⟩) hHw4 ?_
      try simp only [Act.put, List.setIfInBounds_toArray, List.set_cons_zero, List.set_cons_succ]
      refine wpAnyH_ready (rs := [11]) (by kernel_rfl) (by simp) ?_
      refine AllReadyH.cons (o := { dst := none, op := Op.store 48 (Operand.tmp 14) (Operand.tmp 12), type := 0, pos := "journal.go:109", after := #[{ on := 10, ground := Ground.data }, { on := 8, ground := Ground.data }, { on := 8, ground := Ground.chain }, { on := 0, ground := Ground.phase }, { on := 1, ground := Ground.phase }, { on := 2, ground := Ground.phase }, { on := 3, ground := Ground.phase }, { on := 4, ground := Ground.phase }, { on := 5, ground := Ground.phase }, { on := 6, ground := Ground.phase }, { on := 7, ground := Ground.phase }, { on := 8, ground := Ground.phase }], guard := none }) rfl (fun K hK => ?_) AllReadyH.nil
      have q4 := Je.out.cellAt (i := 4) rfl
      have f4 := Je.out.frozen 4
      go_simp
      clear q4 f4
      obtain ⟨wg, hwg⟩ : ∃ wg, wg = we.setCell ⟨pj, 4, none⟩ (.slice (some ⟨ga, 0, none⟩) (recs.length + 1) capa) := ⟨_, rfl⟩
      have Jg : Hid (Has wg pj (jC pd h N bV (.slice (some ⟨ga, 0, none⟩) (recs.length + 1) capa) used st lost) tJ) := Lib.hid (by rw [hwg]; exact Je.out.set 4 _)
      have Og : Hid (wg.ownsRow B tBy 1 (.slice (some ⟨ga, 0, none⟩) (recs.length + 1) capa) (recs.length + 1) (vs ++ [.slice va vn vc])) := Lib.hid (by rw [hwg]; exact owns_set Oe.out Je.out (by decide) 4 _)
      have Pg : Hid (wg.ownsRow w.heap.size 5 1 (.slice va vn vc) p.length (p.map bv)) := Lib.hid (by rw [hwg]; exact owns_set Pe.out Je.out (by decide) 4 _)
      have Bg : Hid (wg.ownsRow B 5 1 bV base.length (base.map bv)) := Lib.hid (by rw [hwg]; exact owns_set Be.out Je.out (by decide) 4 _)
      have Rg : Hid (∀ i, i < recs.length → wg.ownsRow B 5 1 (vs.getD i undef) (recs.getD i []).length ((recs.getD i []).map bv)) := Lib.hid (fun i hi => by rw [hwg]; exact owns_set (Re.out i hi) Je.out (by decide) 4 _)
      have Kg : Hid (Kp aT C w wg) := Lib.hid (by rw [hwg]; exact Ke.out.trans (Kp.of_but ((But.refl _ _ _).setB 4 _) HPJ.out Je.out (by decide)))
      first | rw [← hwg] | skip
      clear hwg
      refine hK.out _ _ trivial (fun hHw5 => ?_)
      clear hK K hHw4
      try simp only [Act.put, List.setIfInBounds_toArray, List.set_cons_zero, List.set_cons_succ]
      refine wpAnyH_done (by kernel_rfl) ?_ _
      clear hHw5
      have q5 := Jg.out.cellAt (i := 5) rfl
      have g5 := Jg.out.frozen 5
      go_upto_region 2 with fail
      obtain ⟨wh, hwh⟩ : ∃ wh, wh = wg.setCell ⟨pj, 5, none⟩ (.int .i64 (U2 : Int)) := ⟨_, rfl⟩
      have Jh : Hid (Has wh pj (jC pd h N bV (.slice (some ⟨ga, 0, none⟩) (recs.length + 1) capa) U2 st lost) tJ) := Lib.hid (by rw [hwh]; exact Jg.out.set 5 _)
      have Oh : Hid (wh.ownsRow B tBy 1 (.slice (some ⟨ga, 0, none⟩) (recs.length + 1) capa) (recs.length + 1) (vs ++ [.slice va vn vc])) := Lib.hid (by rw [hwh]; exact owns_set Og.out Jg.out (by decide) 5 _)
      have Ph : Hid (wh.ownsRow w.heap.size 5 1 (.slice va vn vc) p.length (p.map bv)) := Lib.hid (by rw [hwh]; exact owns_set Pg.out Jg.out (by decide) 5 _)
      have Bh : Hid (wh.ownsRow B 5 1 bV base.length (base.map bv)) := Lib.hid (by rw [hwh]; exact owns_set Bg.out Jg.out (by decide) 5 _)
      have Rh : Hid (∀ i, i < recs.length → wh.ownsRow B 5 1 (vs.getD i undef) (recs.getD i []).length ((recs.getD i []).map bv)) := Lib.hid (fun i hi => by rw [hwh]; exact owns_set (Rg.out i hi) Jg.out (by decide) 5 _)
      have Kh : Hid (Kp aT C w wh) := Lib.hid (by rw [hwh]; exact Kg.out.trans (Kp.of_but ((But.refl _ _ _).setB 5 _) HPJ.out Jg.out (by decide)))
      rw [← hwh]
      clear hwh q5 g5
      have q2 := Jh.out.cellAt (i := 2) rfl
      have g2 := Jh.out.frozen 2
      go_wp2_with fail
      go_end0
      refine ⟨rfl, Kh.out.trans (Kp.of_but ((But.refl _ _ _).setB 2 _) HPJ.out Jh.out (by decide)), .slice (some ⟨ga, 0, none⟩) (recs.length + 1) capa, ?_, ⟨vs ++ [.slice va vn vc], ?_, fun i hi => ?_⟩, owns_set Bh.out Jh.out (by decide) 2 _⟩
      · have e : used + (32 + p.length) = U2 := by rw [HU2.out, HU1.out, HLEN.out]
        rw [e, ← HN1.out]
        exact Jh.out.set 2 _
      · rw [List.length_append]
        exact owns_set Oh.out Jh.out (by decide) 2 _
      · rw [List.length_append] at hi
        have hvl : vs.length = recs.length := by have := HRV.out.1; omega
        rcases Nat.lt_or_ge i recs.length with h1 | h1
        · rw [getD_left _ _ _ _ (by omega), getD_left _ _ _ _ h1]
          exact owns_set (Rh.out i h1) Jh.out (by decide) 2 _
        · have e : i = recs.length := by simp at hi; omega
          subst e
          have e1 : (vs ++ [Value.slice va vn vc]).getD recs.length undef = .slice va vn vc := by rw [← hvl]; simp [List.getD]
          have e2 : (recs ++ [p]).getD recs.length [] = p := by simp [List.getD]
          rw [e1, e2]
          exact owns_lower (owns_set Ph.out Jh.out (by decide) 2 _) HB.out
    · go_simp
      obtain ⟨wd, hwd⟩ : ∃ wd, wd = wc.alloc (.cells #[.slice va vn vc] tBy) := ⟨_, rfl⟩
      have Bd : Hid (Below w.heap.size w wd) := Lib.hid (by rw [hwd]; exact Bc.out.alloc Bc.out.size _)
      have Od : Hid (wd.ownsRow w.heap.size 5 1 (.slice va vn vc) p.length (p.map bv)) := Lib.hid (by rw [hwd]; exact Oc.out.alloc _)
      have Hd1 : Hid (Has wd wc.heap.size [.slice va vn vc] tBy) := Lib.hid (by rw [hwd]; exact Has.new wc _ _)
      rw [← hwd]
      clear hwd
      refine hK.out _ _ trivial (fun hHw2 => ?_)
      clear hK K hHw1
      try simp only [Act.put, List.setIfInBounds_toArray, List.set_cons_zero, List.set_cons_succ]
      refine wpAnyH_ready (rs := [4]) (by kernel_rfl) (by simp) ?_
      refine AllReadyH.cons (o := { dst := some 8, op := Op.load 48 (Operand.tmp 7), type := 48, pos := "journal.go:109", after := #[{ on := 3, ground := Ground.data }], guard := none }) rfl (fun K hK => ?_) AllReadyH.nil
      have q4 := (JJ.out _ (Bd.out)).cellAt (i := 4) rfl
      go_simp
      clear q4
      refine hK.out _ _ trivial (fun hHw3 => ?_)
      clear hK K hHw2
      try simp only [Act.put, List.setIfInBounds_toArray, List.set_cons_zero, List.set_cons_succ]
      refine wpAnyH_ready (rs := [8]) (by kernel_rfl) (by simp) ?_
      refine AllReadyH.cons (o := { dst := some 12, op := Op.call { callee := Callee.builtin Builtin.append, args := #[Operand.tmp 8, Operand.tmp 11], argTypes := #[48, 48] }, type := 48, pos := "journal.go:109", after := #[{ on := 4, ground := Ground.data }, { on := 7, ground := Ground.data }, { on := 6, ground := Ground.chain }], guard := none }) rfl (fun K hK => ?_) AllReadyH.nil
      rw [if_pos (by rfl)]
      have ORd : Hid (wd.ownsRow B tBy 1 (.slice ra rn rc) recs.length vs) := Lib.hid (own_later HRV.out Bd.out)
      refine wp_append_lies _ (.tmp 8) (.tmp 11) 48 rfl B tBy i0 (.slice none 0 0) 1 24 Tryz.underlying48 HI.out HZ0.out HZ1.out HZ2.out rfl (by omega) _ recs.length vs rfl ORd.out ⟨wc.heap.size, 0, none⟩ 1 1 [.slice va vn vc] rfl rfl (fun j u hj => by rw [Addr.add_mid, Nat.zero_add]; exact Hd1.out.cellAt hj) (fun u hu => by simp at hu; subst hu; rfl) (by omega) (by have := HRL.out; unfold maxLen; omega) (by have := HRL.out; omega) (Nat.le_trans HB.out Bd.out.size) _ rfl (fun ga capa we heo heg hes hei => ?_)
      have Oe := Lib.hid heo
      have Ge := Lib.hid heg
      have Je : Hid (Has we pj (jC pd h N bV (.slice ra rn rc) used st lost) tJ) := Lib.hid (has_grown2 (JJ.out wd Bd.out) ORd.out (by decide) heg)
      have Pe : Hid (we.ownsRow w.heap.size 5 1 (.slice va vn vc) p.length (p.map bv)) := Lib.hid (owns_grown Od.out ORd.out (by decide) heg)
      have Be : Hid (we.ownsRow B 5 1 bV base.length (base.map bv)) := Lib.hid (owns_grown (own_later HBb.out Bd.out) ORd.out (by decide) heg)
      have Re : Hid (∀ i, i < recs.length → we.ownsRow B 5 1 (vs.getD i undef) (recs.getD i []).length ((recs.getD i []).map bv)) := Lib.hid (fun i hi => owns_grown (own_later (HRS.out i hi) Bd.out) ORd.out (by decide) heg)
      have Ke : Hid (Kp aT C w we) := Lib.hid ((Kp.of_below Bd.out).trans (Kp.grown heg ORd.out HCB.out (by decide)))
      clear heo heg hes hei
      refine hK.out _ _ trivial (fun hHw4 => ?_)
      clear hK K hHw3
      try simp only [Act.put, List.setIfInBounds_toArray, List.set_cons_zero, List.set_cons_succ]
      refine wpAnyH_take (i := 9) (oi := { dst := some 13, op := Op.nilCheck (Operand.tmp 4), type := 0, pos := "journal.go:109", after := #[{ on := 0, ground := Ground.data }, { on := 0, ground := Ground.phase }, { on := 1, ground := Ground.phase }, { on := 2, ground := Ground.phase }, { on := 3, ground := Ground.phase }, { on := 4, ground := Ground.phase }, { on := 5, ground := Ground.phase }, { on := 6, ground := Ground.phase }, { on := 7, ground := Ground.phase }, { on := 8, ground := Ground.phase }], guard := none }) (v := .pointer (some ⟨pj, 0, none⟩)) rfl (by kernel_rfl) (by kernel_rfl) (by kernel_rfl) (fun _ _ _ h => h)
        (Or.inl ⟨by rfl, by intro w hSw;  clear hSw; go_simp⟩) hHw4 ?_
      try simp only [Act.put, List.setIfInBounds_toArray, List.set_cons_zero, List.set_cons_succ]
      refine wpAnyH_take (i := 10) (oi := { dst := some 14, op := Op.fieldAddr 62 (Operand.tmp 13) 4, type := 0, pos := "journal.go:109", after := #[{ on := 9, ground := Ground.data }, { on := 0, ground := Ground.phase }, { on := 1, ground := Ground.phase }, { on := 2, ground := Ground.phase }, { on := 3, ground := Ground.phase }, { on := 4, ground := Ground.phase }, { on := 5, ground := Ground.phase }, { on := 6, ground := Ground.phase }, { on := 7, ground := Ground.phase }, { on := 8, ground := Ground.phase }], guard := none }) (v := .pointer (some ⟨pj, 4, none⟩)) rfl (by kernel_rfl) (by kernel_rfl) (by kernel_rfl) (fun _ _ _ h => h)
        (Or.inl ⟨by rfl, by intro w hSw;  clear hSw; go_simp⟩) hHw4 ?_
      try simp only [Act.put, List.setIfInBounds_toArray, List.set_cons_zero, List.set_cons_succ]
      refine wpAnyH_ready (rs := [11]) (by kernel_rfl) (by simp) ?_
      refine AllReadyH.cons (o := { dst := none, op := Op.store 48 (Operand.tmp 14) (Operand.tmp 12), type := 0, pos := "journal.go:109", after := #[{ on := 10, ground := Ground.data }, { on := 8, ground := Ground.data }, { on := 8, ground := Ground.chain }, { on := 0, ground := Ground.phase }, { on := 1, ground := Ground.phase }, { on := 2, ground := Ground.phase }, { on := 3, ground := Ground.phase }, { on := 4, ground := Ground.phase }, { on := 5, ground := Ground.phase }, { on := 6, ground := Ground.phase }, { on := 7, ground := Ground.phase }, { on := 8, ground := Ground.phase }], guard := none }) rfl (fun K hK => ?_) AllReadyH.nil
      have q4 := Je.out.cellAt (i := 4) rfl
      have f4 := Je.out.frozen 4
      go_simp
      clear q4 f4
      obtain ⟨wg, hwg⟩ : ∃ wg, wg = we.setCell ⟨pj, 4, none⟩ (.slice (some ⟨ga, 0, none⟩) (recs.length + 1) capa) := ⟨_, rfl⟩
      have Jg : Hid (Has wg pj (jC pd h N bV (.slice (some ⟨ga, 0, none⟩) (recs.length + 1) capa) used st lost) tJ) := Lib.hid (by rw [hwg]; exact Je.out.set 4 _)
      have Og : Hid (wg.ownsRow B tBy 1 (.slice (some ⟨ga, 0, none⟩) (recs.length + 1) capa) (recs.length + 1) (vs ++ [.slice va vn vc])) := Lib.hid (by rw [hwg]; exact owns_set Oe.out Je.out (by decide) 4 _)
      have Pg : Hid (wg.ownsRow w.heap.size 5 1 (.slice va vn vc) p.length (p.map bv)) := Lib.hid (by rw [hwg]; exact owns_set Pe.out Je.out (by decide) 4 _)
      have Bg : Hid (wg.ownsRow B 5 1 bV base.length (base.map bv)) := Lib.hid (by rw [hwg]; exact owns_set Be.out Je.out (by decide) 4 _)
      have Rg : Hid (∀ i, i < recs.length → wg.ownsRow B 5 1 (vs.getD i undef) (recs.getD i []).length ((recs.getD i []).map bv)) := Lib.hid (fun i hi => by rw [hwg]; exact owns_set (Re.out i hi) Je.out (by decide) 4 _)
      have Kg : Hid (Kp aT C w wg) := Lib.hid (by rw [hwg]; exact Ke.out.trans (Kp.of_but ((But.refl _ _ _).setB 4 _) HPJ.out Je.out (by decide)))
      first | rw [← hwg] | skip
      clear hwg
      refine hK.out _ _ trivial (fun hHw5 => ?_)
      clear hK K hHw4
      try simp only [Act.put, List.setIfInBounds_toArray, List.set_cons_zero, List.set_cons_succ]
      refine wpAnyH_done (by kernel_rfl) ?_ _
      clear hHw5
      have q5 := Jg.out.cellAt (i := 5) rfl
      have g5 := Jg.out.frozen 5
      go_upto_region 2 with fail
      obtain ⟨wh, hwh⟩ : ∃ wh, wh = wg.setCell ⟨pj, 5, none⟩ (.int .i64 (U2 : Int)) := ⟨_, rfl⟩
      have Jh : Hid (Has wh pj (jC pd h N bV (.slice (some ⟨ga, 0, none⟩) (recs.length + 1) capa) U2 st lost) tJ) := Lib.hid (by rw [hwh]; exact Jg.out.set 5 _)
      have Oh : Hid (wh.ownsRow B tBy 1 (.slice (some ⟨ga, 0, none⟩) (recs.length + 1) capa) (recs.length + 1) (vs ++ [.slice va vn vc])) := Lib.hid (by rw [hwh]; exact owns_set Og.out Jg.out (by decide) 5 _)
      have Ph : Hid (wh.ownsRow w.heap.size 5 1 (.slice va vn vc) p.length (p.map bv)) := Lib.hid (by rw [hwh]; exact owns_set Pg.out Jg.out (by decide) 5 _)
      have Bh : Hid (wh.ownsRow B 5 1 bV base.length (base.map bv)) := Lib.hid (by rw [hwh]; exact owns_set Bg.out Jg.out (by decide) 5 _)
      have Rh : Hid (∀ i, i < recs.length → wh.ownsRow B 5 1 (vs.getD i undef) (recs.getD i []).length ((recs.getD i []).map bv)) := Lib.hid (fun i hi => by rw [hwh]; exact owns_set (Rg.out i hi) Jg.out (by decide) 5 _)
      have Kh : Hid (Kp aT C w wh) := Lib.hid (by rw [hwh]; exact Kg.out.trans (Kp.of_but ((But.refl _ _ _).setB 5 _) HPJ.out Jg.out (by decide)))
      rw [← hwh]
      clear hwh q5 g5
      have q2 := Jh.out.cellAt (i := 2) rfl
      have g2 := Jh.out.frozen 2
      go_wp2_with fail
      go_end0
      refine ⟨rfl, Kh.out.trans (Kp.of_but ((But.refl _ _ _).setB 2 _) HPJ.out Jh.out (by decide)), .slice (some ⟨ga, 0, none⟩) (recs.length + 1) capa, ?_, ⟨vs ++ [.slice va vn vc], ?_, fun i hi => ?_⟩, owns_set Bh.out Jh.out (by decide) 2 _⟩
      · have e : used + (32 + p.length) = U2 := by rw [HU2.out, HU1.out, HLEN.out]
        rw [e, ← HN1.out]
        exact Jh.out.set 2 _
      · rw [List.length_append]
        exact owns_set Oh.out Jh.out (by decide) 2 _
      · rw [List.length_append] at hi
        have hvl : vs.length = recs.length := by have := HRV.out.1; omega
        rcases Nat.lt_or_ge i recs.length with h1 | h1
        · rw [getD_left _ _ _ _ (by omega), getD_left _ _ _ _ h1]
          exact owns_set (Rh.out i h1) Jh.out (by decide) 2 _
        · have e : i = recs.length := by simp at hi; omega
          subst e
          have e1 : (vs ++ [Value.slice va vn vc]).getD recs.length undef = .slice va vn vc := by rw [← hvl]; simp [List.getD]
          have e2 : (recs ++ [p]).getD recs.length [] = p := by simp [List.getD]
          rw [e1, e2]
          exact owns_lower (owns_set Ph.out Jh.out (by decide) 2 _) HB.out

end Go.Proofs.YtgjckddcnmbceaaGreatDoor
