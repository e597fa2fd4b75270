/-
  A change is handed down to the directory in which the last of some names stands: the program's down, for any closure that keeps its word at a spot.
-/
import Derived.Test.YtbempgdndmchlaaDoorEActs
import Derived.Test.YtbempgdndmchlaaDoorELay
namespace Go.Proofs.YtbempgdndmchlaaDoor
open Go.RowKit
set_option linter.unusedVariables false

theorem search_p {w : World} {a : Option Addr} {n c : Nat} {ns : List ByteArray} {x : ByteArray} (h : IsS w a n c ns) (hn : n ≤ 1000000) :
    Calls Tryd.prog 66 #[.slice a n c, .string x] w fun e w' => e = .returned (.tuple #[.int .i64 (plc ns x : Nat), .bool (tkn ns x)]) ∧ Below w.heap.size w w' := by
  have hl := h.length
  subst hl
  refine (search_any h hn (x := x)).mono ?_
  rintro e w' ⟨rfl, hb⟩
  exact ⟨rfl, hb⟩

/-- The names behind the first one. -/
theorem isS_tail {w : World} {nb off n c : Nat} {nm : ByteArray} {l : List ByteArray} (h : IsS w (some ⟨nb, off, none⟩) n c (nm :: l)) (hlt : nb < w.heap.size) (hc : ∀ i, i < n → w.cell? ⟨nb, off + i, none⟩ = some (.string ((nm :: l).getD i ⟨#[]⟩))) : IsS w (some ⟨nb, off + 1, none⟩) (n - 1) (c - 1) l := by
  have hl := h.length
  have hr := h.room
  simp only [List.length_cons] at hl
  refine ⟨by omega, .inr ⟨nb, off + 1, rfl, hlt, fun i hi => ?_⟩, (fun e => by cases e), by omega, by have := hr.2; omega⟩
  have := hc (i + 1) (by omega)
  rw [show off + (i + 1) = off + 1 + i by omega] at this
  simpa using this

theorem WP.below {w w' w'' : World} {B p db o : Nat} {X : List Value} {ty : TypeId} {R : List Value} {S Z Sx : List Nat} {q : Option Nat} {gt : T} {r : ER} {e : Ending} (hb : Below w.heap.size w w') (h : WP w' B p db o X ty R S Z Sx q gt r e w'') : WP w B p db o X ty R S Z Sx q gt r e w'' :=
  ⟨h.1, ((Fr.of_below (S := []) hb).mono (fun g hg _ => by cases hg)).trans h.2.1 (fun g hg _ => hg), fun h0 => ((Fr.of_below (S := []) hb).mono (fun g hg _ => by cases hg)).trans (h.2.2.1 h0) (fun g hg _ => hg), fun h0 => (h.2.2.2 h0).frame hb⟩

theorem down_nums (dep : Nat) (h : dep ≤ 17) : IntKind.i64.wrap ((dep : Int) + 1) = ((dep + 1 : Nat) : Int) := by rw [IntKind.wrap_i64]; omega

set_option maxRecDepth 100000 in
set_option maxHeartbeats 20000000 in
theorem down_any {B p : Nat} (ed : Ed) (E : World → Prop) (hE : ∀ w w' : World, Below w.heap.size w w' → E w → E w') (f : Nat) (caps : Array Value) (he : ∀ args w, (callFunc f args).run Tryd.prog w = .ok (.enter f args) w) (Z Sx : List Nat) (q : Option Nat) (hZr : ∀ w, E w → Rows w Z)
    (hact : ∀ (w : World) (db o : Nat) (X cs : List Value) (ty : TypeId) (R : List Value) (a b : Nat) (k : UInt8) (x : Bool) (d : List UInt8) (ns : List ByteArray) (ks : List T) (S : List Nat) (nm : ByteArray) (dep : Nat), E w → WS w B p db o X cs ty R a b (.mk k x d ns ks) S → (∀ g ∈ Z, g ∉ S ∧ g ≠ db ∧ g ≠ p) → (∀ g ∈ Sx, g ∉ S ∧ g ≠ db ∧ g ≠ p) → B ≤ w.heap.size → Lim (.mk k x d ns ks) dep a b →
      Calls Tryd.prog f (#[.agg (spC db o nm (plc ns nm) dep (tkn ns nm)).toArray] ++ caps) w (WP w B p db o X ty R S Z Sx q (ks.getD (plc ns nm) default) (actE ed nm dep (.mk k x d ns ks) a b))) :
    ∀ (l : List ByteArray), l ≠ [] → ∀ (t : T) (w : World) (db o : Nat) (X cs : List Value) (ty : TypeId) (R : List Value) (a b : Nat) (S : List Nat) (dep : Nat) (na : Option Addr) (n c : Nat), E w → WS w B p db o X cs ty R a b t S → (∀ g ∈ Z, g ∉ S ∧ g ≠ db ∧ g ≠ p) → (∀ g ∈ Sx, g ∉ S ∧ g ≠ db ∧ g ≠ p) → B ≤ w.heap.size → Lim t dep a b → IsS w na n c l →
      Calls Tryd.prog 54 #[.pointer (some ⟨db, o, none⟩), .slice na n c, .int .i64 (dep : Int), .func (.func f) #[] caps] w (WP w B p db o X ty R S Z Sx q (getE l t) (chgE ed l dep t a b))
  | [], hne, _, _, _, _, _, _, _, _, _, _, _, _, _, _, _, _, _, _, _, _, _, _ => absurd rfl hne
  | nm :: l2, _, .mk k x d ns ks, w, db, o, X, cs, ty, R, a, b, S, dep, na, n, c, hEw, h, hZ, hSx, hB, hlim, hl => by
    obtain ⟨vd, vn, vk, L, Ss, hcs, hS, hd, hn, hk, hs, hnd⟩ := mt_inv h.mt
    obtain ⟨an, cn, rfl, iS⟩ := isS_owned hn
    have hx0 : X[o]? = some (.int .u8 (k.toNat : Int)) := by have := h.hc 0 (by omega); rw [hcs] at this; simpa using this
    have hx3 : X[o + 3]? = some (.slice an ns.length cn) := by rw [h.hc 3 (by omega), hcs]; rfl
    have hx4 : X[o + 4]? = some vk := by rw [h.hc 4 (by omega), hcs]; rfl
    have hnl : n = l2.length + 1 := by have := hl.length; simp only [List.length_cons] at this; omega
    obtain ⟨nb, off, rfl, hnb, hnc⟩ : ∃ nb off, na = some ⟨nb, off, none⟩ ∧ nb < w.heap.size ∧ ∀ i, i < n → w.cell? ⟨nb, off + i, none⟩ = some (.string ((nm :: l2).getD i ⟨#[]⟩)) := by
      rcases hl.at_ with h0 | ⟨nb, off, e, h1, h2⟩
      · omega
      · exact ⟨nb, off, e, h1, h2⟩
    have hc0 : w.cell? ⟨nb, off, none⟩ = some (.string nm) := by have := hnc 0 (by omega); simpa using this
    have hnc2 := hl.room
    have hdep : dep ≤ 17 := by have := hlim.2.2.1; omega
    have hns : ns.length ≤ 100000 := by have h1 := hlim.small.2.1; have h2 := sizeNL_len ks; rw [sizeN_mk] at h1; rw [hlim.lens]; omega
    have hkid : tkn ns nm = true → plc ns nm < ks.length := fun e => by rw [← hlim.lens]; exact (tkn_spec e).1
    have HW := Lib.hid h
    have HX0 := Lib.hid hx0
    have HX3 := Lib.hid hx3
    have HX4 := Lib.hid hx4
    have HIS := Lib.hid iS
    have HLS := Lib.hid hl
    have HNB := Lib.hid hnb
    have HNC := Lib.hid hnc
    have HC0 := Lib.hid hc0
    have HNL := Lib.hid hnl
    have HEW := Lib.hid hEw
    have HZ := Lib.hid hZ
    have HSX := Lib.hid hSx
    have HB := Lib.hid hB
    have HLM := Lib.hid hlim
    have HNS := Lib.hid hns
    have HKD := Lib.hid hkid
    have HDW := Lib.hid (down_nums dep hdep)
    have HCS := Lib.hid hcs
    have hcm : (n : Int) ≤ (c : Int) ∧ (c : Int) ≤ 9223372036854775807 := by have := hnc2.2; unfold maxLen at this; omega
    have HCM := Lib.hid hcm
    have hin : ¬ n = 0 := by omega
    have HE := Lib.hid hE
    have HACT := Lib.hid hact
    have HZR := Lib.hid (hZr w hEw)
    have HDL : Hid (db < w.heap.size) := Lib.hid h.hX.lt
    by_cases hk3 : k = 3
    · subst hk3
      have hchg : Hid (chgE ed (nm :: l2) dep (.mk 3 x d ns ks) a b = if l2 = [] then actE ed nm dep (.mk 3 x d ns ks) a b else if tkn ns nm then
          ((chgE ed l2 (dep + 1) (ks.getD (plc ns nm) default) a b).1, .mk 3 x d ns (ks.set (plc ns nm) (chgE ed l2 (dep + 1) (ks.getD (plc ns nm) default) a b).2.1), (chgE ed l2 (dep + 1) (ks.getD (plc ns nm) default) a b).2.2) else (6, .mk 3 x d ns ks, a, b)) := Lib.hid (by
        rw [chgE]
        show (if ((3 : UInt8) ≠ 3) then _ else _) = _
        rw [if_neg (by decide)]
        rfl)
      have hget : Hid (getE (nm :: l2) (.mk 3 x d ns ks) = getE l2 (ks.getD (plc ns nm) default)) := Lib.hid rfl
      have IH := Lib.hid (fun (hne : l2 ≠ []) => down_any ed E hE f caps he Z Sx q hZr hact l2 hne)
      clear h hx0 hx3 hx4 iS hl hnb hnc hc0 hnl hEw hZ hSx hB hlim hns hkid hcs hcm hact hE hZr hnc2 hd hn hk hs hnd hS hdep
      have hq0 : Hid (World.cell? w ⟨db, o, none⟩ = some (.int .u8 3)) := Lib.hid (Has.cellAt HW.out.hX HX0.out)
      go_enter Tryd.func54, Tryd.ntmps54
      have hq0' := hq0.out
      go_upto_region 3 with fail
      clear hq0'
      refine wp_region_held_drew (S := fun W => Has W db X ty ∧ W.cell? ⟨nb, off, none⟩ = some (.string nm)) (by kernel_rfl) ⟨HW.out.hX.drew, HC0.out⟩ (fun hHeld => ?_)
      refine wpAnyH_take (i := 0) (oi := { dst := some 17, op := Op.move (Operand.tmp 0), type := 80, pos := "spot.go:28", after := #[], guard := none }) (v := .pointer (some ⟨db, o, none⟩)) rfl (by kernel_rfl) (by kernel_rfl) (by kernel_rfl) (fun _ _ _ h => h)
        (Or.inl ⟨by rfl, by intro w hSw;  clear hSw; go_simp⟩) hHeld ?_
      try simp only [Act.put, List.setIfInBounds_toArray, List.set_cons_zero, List.set_cons_succ]
      refine wpAnyH_take (i := 1) (oi := { dst := some 18, op := Op.nilCheck (Operand.tmp 17), type := 0, pos := "spot.go:28", after := #[{ on := 0, ground := Ground.data }], guard := none }) (v := .pointer (some ⟨db, o, none⟩)) rfl (by kernel_rfl) (by kernel_rfl) (by kernel_rfl) (fun _ _ _ h => h)
        (Or.inl ⟨by rfl, by intro w hSw;  clear hSw; go_simp⟩) hHeld ?_
      try simp only [Act.put, List.setIfInBounds_toArray, List.set_cons_zero, List.set_cons_succ]
      refine wpAnyH_take (i := 2) (oi := { dst := some 19, op := Op.fieldAddr 26 (Operand.tmp 18) 3, type := 0, pos := "spot.go:28", after := #[{ on := 1, ground := Ground.data }], guard := none }) (v := .pointer (some ⟨db, o + 3, none⟩)) rfl (by kernel_rfl) (by kernel_rfl) (by kernel_rfl) (fun _ _ _ h => h)
        (Or.inl ⟨by rfl, by intro w hSw;  clear hSw; go_simp⟩) hHeld ?_
      try simp only [Act.put, List.setIfInBounds_toArray, List.set_cons_zero, List.set_cons_succ]
      refine wpAnyH_take (i := 3) (oi := { dst := some 20, op := Op.load 23 (Operand.tmp 19), type := 23, pos := "spot.go:28", after := #[{ on := 2, ground := Ground.data }], guard := none }) (v := .slice an ns.length cn) rfl (by kernel_rfl) (by kernel_rfl) (by kernel_rfl) (fun _ _ _ h => h)
        (Or.inl ⟨by rfl, by intro w hSw; have hq := Has.cellAt hSw.1 HX3.out; clear hSw; go_simp⟩) hHeld ?_
      try simp only [Act.put, List.setIfInBounds_toArray, List.set_cons_zero, List.set_cons_succ]
      refine wpAnyH_take (i := 4) (oi := { dst := some 21, op := Op.move (Operand.tmp 1), type := 23, pos := "spot.go:28", after := #[], guard := none }) (v := .slice (some ⟨nb, off, none⟩) n c) rfl (by kernel_rfl) (by kernel_rfl) (by kernel_rfl) (fun _ _ _ h => h)
        (Or.inl ⟨by rfl, by intro w hSw;  clear hSw; go_simp⟩) hHeld ?_
      try simp only [Act.put, List.setIfInBounds_toArray, List.set_cons_zero, List.set_cons_succ]
      refine wpAnyH_take (i := 5) (oi := { dst := some 22, op := Op.indexAddr 23 (Operand.tmp 21) (Operand.const (Value.int IntKind.i64 0)), type := 0, pos := "spot.go:28", after := #[{ on := 4, ground := Ground.data }], guard := none }) (v := .pointer (some ⟨nb, off, none⟩)) rfl (by kernel_rfl) (by kernel_rfl) (by kernel_rfl) (fun _ _ _ h => h)
        (Or.inl ⟨by rfl, by intro w hSw;  clear hSw; go_simp⟩) hHeld ?_
      try simp only [Act.put, List.setIfInBounds_toArray, List.set_cons_zero, List.set_cons_succ]
      refine wpAnyH_take (i := 6) (oi := { dst := some 23, op := Op.load 9 (Operand.tmp 22), type := 9, pos := "spot.go:28", after := #[{ on := 5, ground := Ground.data }], guard := none }) (v := .string nm) rfl (by kernel_rfl) (by kernel_rfl) (by kernel_rfl) (fun _ _ _ h => h)
        (Or.inl ⟨by rfl, by intro w hSw; have hq := hSw.2; clear hSw; go_simp⟩) hHeld ?_
      try simp only [Act.put, List.setIfInBounds_toArray, List.set_cons_zero, List.set_cons_succ]
      refine wpAnyH_ready (rs := [7]) (by kernel_rfl) (by simp) ?_
      refine AllReadyH.cons (o := { dst := some 24, op := Op.call { callee := Callee.value (Operand.func 66), args := #[Operand.tmp 20, Operand.tmp 23], argTypes := #[23, 9] }, type := 102, pos := "spot.go:28", after := #[{ on := 3, ground := Ground.data }, { on := 6, ground := Ground.data }], guard := none }) rfl (fun K hK => ?_) AllReadyH.nil
      go_simp
      refine (search_p (x := nm) (HIS.out.later (Below.refl _ _).drew) (by have := HNS.out; omega)).mono ?_
      rintro e w2 ⟨rfl, hb2⟩
      have B2 := Lib.hid ((Below.refl w.heap.size w).drew.trans hb2)
      have X2 : Hid (Has w2 db X ty) := Lib.hid (has_fr HW.out.hX (Fr.of_below (S := []) B2.out) (by simp))
      have C2 : Hid (w2.cell? ⟨nb, off, none⟩ = some (.string nm)) := Lib.hid ((B2.out.cell (p := ⟨nb, off, none⟩) HNB.out).trans HC0.out)
      clear hb2
      obtain ⟨i, hi⟩ : ∃ i, i = plc ns nm := ⟨_, rfl⟩
      obtain ⟨tk, htk⟩ : ∃ tk, tk = tkn ns nm := ⟨_, rfl⟩
      rw [← hi, ← htk]
      have HII := Lib.hid hi
      have HTK := Lib.hid htk
      clear hi htk
      go_wp2_with fail
      refine hK.out _ _ (⟨X2.out, C2.out⟩) (fun hHw1 => ?_)
      clear hK K hHeld
      try simp only [Act.put, List.setIfInBounds_toArray, List.set_cons_zero, List.set_cons_succ]
      refine wpAnyH_take (i := 8) (oi := { dst := some 16, op := Op.move (Operand.tmp 24), type := 102, pos := "spot.go:28", after := #[{ on := 7, ground := Ground.data }], guard := none }) (v := .tuple #[.int .i64 (i : Int), .bool tk]) rfl (by kernel_rfl) (by kernel_rfl) (by kernel_rfl) (fun _ _ _ h => h)
        (Or.inl ⟨by rfl, by intro w hSw;  clear hSw; go_simp⟩) hHw1 ?_
      try simp only [Act.put, List.setIfInBounds_toArray, List.set_cons_zero, List.set_cons_succ]
      refine wpAnyH_take (i := 9) (oi := { dst := some 25, op := Op.extract (Operand.tmp 16) 0, type := 3, pos := "spot.go:28", after := #[{ on := 8, ground := Ground.data }], guard := none }) (v := .int .i64 (i : Int)) rfl (by kernel_rfl) (by kernel_rfl) (by kernel_rfl) (fun _ _ _ h => h)
        (Or.inl ⟨by rfl, by intro w hSw;  clear hSw; go_simp⟩) hHw1 ?_
      try simp only [Act.put, List.setIfInBounds_toArray, List.set_cons_zero, List.set_cons_succ]
      refine wpAnyH_take (i := 10) (oi := { dst := some 26, op := Op.extract (Operand.tmp 16) 1, type := 4, pos := "spot.go:28", after := #[{ on := 8, ground := Ground.data }, { on := 11, ground := Ground.gcOnly Departure.lateStores }], guard := none }) (v := .bool tk) rfl (by kernel_rfl) (by kernel_rfl) (by kernel_rfl) (fun _ _ _ h => h)
        (Or.inl ⟨by rfl, by intro w hSw;  clear hSw; go_simp⟩) hHw1 ?_
      try simp only [Act.put, List.setIfInBounds_toArray, List.set_cons_zero, List.set_cons_succ]
      refine wpAnyH_take (i := 11) (oi := { dst := some 9, op := Op.assign (Operand.tmp 25), type := 3, pos := "spot.go:28", after := #[{ on := 9, ground := Ground.data }, { on := 7, ground := Ground.chain }, { on := 0, ground := Ground.phase }, { on := 1, ground := Ground.phase }, { on := 2, ground := Ground.phase }, { on := 3, ground := Ground.phase }, { on := 4, ground := Ground.phase }, { on := 5, ground := Ground.phase }, { on := 6, ground := Ground.phase }, { on := 7, ground := Ground.phase }, { on := 8, ground := Ground.phase }, { on := 9, ground := Ground.phase }, { on := 10, ground := Ground.textOnly Departure.lateStores }], guard := none }) (v := .int .i64 (i : Int)) rfl (by kernel_rfl) (by kernel_rfl) (by kernel_rfl) (fun _ _ _ h => h)
        (Or.inl ⟨by rfl, by intro w hSw;  clear hSw; go_simp⟩) hHw1 ?_
      try simp only [Act.put, List.setIfInBounds_toArray, List.set_cons_zero, List.set_cons_succ]
      refine wpAnyH_take (i := 12) (oi := { dst := some 10, op := Op.assign (Operand.tmp 26), type := 4, pos := "spot.go:28", after := #[{ on := 10, ground := Ground.data }, { on := 11, ground := Ground.chain }, { on := 0, ground := Ground.phase }, { on := 1, ground := Ground.phase }, { on := 2, ground := Ground.phase }, { on := 3, ground := Ground.phase }, { on := 4, ground := Ground.phase }, { on := 5, ground := Ground.phase }, { on := 6, ground := Ground.phase }, { on := 7, ground := Ground.phase }, { on := 8, ground := Ground.phase }, { on := 9, ground := Ground.phase }, { on := 10, ground := Ground.phase }, { on := 11, ground := Ground.phase }], guard := none }) (v := .bool tk) rfl (by kernel_rfl) (by kernel_rfl) (by kernel_rfl) (fun _ _ _ h => h)
        (Or.inl ⟨by rfl, by intro w hSw;  clear hSw; go_simp⟩) hHw1 ?_
      try simp only [Act.put, List.setIfInBounds_toArray, List.set_cons_zero, List.set_cons_succ]
      refine wpAnyH_done (by kernel_rfl) ?_ _
      clear hHw1
      have W2 := Lib.hid (HW.out.later B2.out)
      have hlen : ((l2 = []) ∧ n = 1) ∨ (l2 ≠ [] ∧ ¬ n = 1) := by
        have := HNL.out
        rcases l2 with _ | ⟨y, r⟩
        · exact .inl ⟨rfl, by simpa using this⟩
        · refine .inr ⟨by simp, ?_⟩
          simp only [List.length_cons] at this
          omega
      rcases hlen with ⟨hl2, hn1⟩ | ⟨hl2, hn1⟩
      · have hn1i : (n : Int) = 1 := by omega
        have hc2 := C2.out
        clear hn1 hn1i
        have hn1' : n = 1 := by have := HNL.out; rw [hl2] at this; simpa using this
        subst hn1'
        go_upto_region 5 with fail
        go_wp2_with fail
        have hcl := HACT.out w2 db o X cs ty R a b 3 x d ns ks S nm dep (HE.out w w2 B2.out HEW.out) W2.out HZ.out HSX.out (Nat.le_trans HB.out B2.out.size) HLM.out
        rw [← HII.out, ← HTK.out] at hcl
        refine Calls.mono (show Calls Tryd.prog f (#[.agg #[.pointer (some ⟨db, o, none⟩), .string nm, .int .i64 (i : Int), .int .i64 (dep : Int), .bool tk]] ++ caps) w2 _ from hcl) ?_
        rintro e w3 ⟨rfl, hf3, hg3, hq3⟩
        obtain ⟨C3, hC3⟩ : ∃ C3, C3 = actE ed nm dep (.mk 3 x d ns ks) a b := ⟨_, rfl⟩
        rw [← hC3] at hq3 hg3 ⊢
        obtain ⟨D3, hD3⟩ : ∃ D3, D3 = C3.1 := ⟨_, rfl⟩
        rw [← hD3] at hq3 hg3 ⊢
        have HFIN : Hid (WP w B p db o X ty R S Z Sx q (ks.getD i default) C3 (.returned (.int .i64 (D3 : Int))) w3) := Lib.hid (WP.below B2.out ⟨by rw [hD3], hf3, by rw [← hD3]; exact hg3, by rw [← hD3]; exact hq3⟩)
        have HC3 := Lib.hid hC3
        clear hcl hf3 hq3 hg3 hC3 hD3 hc2
        go_wp2_with fail
        go_ret
        rw [hchg.out, hget.out, if_pos hl2, hl2, ← HC3.out, ← HII.out]
        exact HFIN.out
      · have hn1i : ¬ (n : Int) = 1 := by omega
        rcases Bool.eq_false_or_eq_true tk with htk | htk
        · subst htk
          have hkl : i < ks.length := by rw [HII.out]; exact HKD.out HTK.out.symm
          obtain ⟨vd', vn', kb, cap, cur, Si, hcs', hn', hle, hmx, hkb, hsi, hkw, hup⟩ := ws_down (Sx := Sx) (q := q) (Z := Z) W2.out hkl HZ.out (fun g hg => by
            obtain ⟨L0, t0, h0, h1⟩ := HZR.out g hg
            exact ⟨L0, t0, (B2.out.block g ((Array.getElem?_eq_some_iff.1 h0).1)).trans h0, h1⟩) HSX.out
          have hvk : vk = .slice (some ⟨kb, 0, none⟩) ks.length cap := by
            have e := HCS.out.symm.trans hcs'
            simp only [List.cons.injEq, and_true] at e
            exact e.2.2.2.2
          subst hvk
          have HX4' := HX4
          have HKB := Lib.hid hkb
          have HSI := Lib.hid hsi
          have HKW := Lib.hid hkw
          have HUP := Lib.hid hup
          have HKL := Lib.hid (HLM.out.kid hkl)
          have HTL := Lib.hid (isS_tail HLS.out HNB.out HNC.out)
          have BD : Hid (Below w.heap.size w w2.drew) := Lib.hid B2.out.drew
          have hki : (i : Int) < (ks.length : Int) := by omega
          have hcap1 : ¬ (c = 1) := by have := HCM.out; have := HNL.out; omega
          have hc1 : (1 : Int) ≤ (n : Int) ∧ (n : Int) ≤ (c : Int) := by have := HCM.out; omega
          obtain ⟨hc11, hc12⟩ := hc1
          clear hcs' hn' hle hmx hkb hsi hkw hup
          go_upto_region 8 with fail
          refine wp_region_held_drew (S := fun _ => True) (by kernel_rfl) trivial (fun hHeld8 => ?_)
          refine wpAnyH_take (i := 0) (oi := { dst := some 42, op := Op.move (Operand.tmp 0), type := 80, pos := "spot.go:35", after := #[], guard := none }) (v := .pointer (some ⟨db, o, none⟩)) rfl (by kernel_rfl) (by kernel_rfl) (by kernel_rfl) (fun _ _ _ h => h)
            (Or.inl ⟨by rfl, by intro w hSw;  clear hSw; go_simp⟩) hHeld8 ?_
          try simp only [Act.put, List.setIfInBounds_toArray, List.set_cons_zero, List.set_cons_succ]
          refine wpAnyH_take (i := 1) (oi := { dst := some 43, op := Op.nilCheck (Operand.tmp 42), type := 0, pos := "spot.go:35", after := #[{ on := 0, ground := Ground.data }], guard := none }) (v := .pointer (some ⟨db, o, none⟩)) rfl (by kernel_rfl) (by kernel_rfl) (by kernel_rfl) (fun _ _ _ h => h)
            (Or.inl ⟨by rfl, by intro w hSw;  clear hSw; go_simp⟩) hHeld8 ?_
          try simp only [Act.put, List.setIfInBounds_toArray, List.set_cons_zero, List.set_cons_succ]
          refine wpAnyH_take (i := 2) (oi := { dst := some 44, op := Op.fieldAddr 26 (Operand.tmp 43) 4, type := 0, pos := "spot.go:35", after := #[{ on := 1, ground := Ground.data }], guard := none }) (v := .pointer (some ⟨db, o + 4, none⟩)) rfl (by kernel_rfl) (by kernel_rfl) (by kernel_rfl) (fun _ _ _ h => h)
            (Or.inl ⟨by rfl, by intro w hSw;  clear hSw; go_simp⟩) hHeld8 ?_
          try simp only [Act.put, List.setIfInBounds_toArray, List.set_cons_zero, List.set_cons_succ]
          refine wpAnyH_take (i := 4) (oi := { dst := some 46, op := Op.move (Operand.tmp 9), type := 3, pos := "spot.go:35", after := #[], guard := none }) (v := .int .i64 (i : Int)) rfl (by kernel_rfl) (by kernel_rfl) (by kernel_rfl) (fun _ _ _ h => h)
            (Or.inl ⟨by rfl, by intro w hSw;  clear hSw; go_simp⟩) hHeld8 ?_
          try simp only [Act.put, List.setIfInBounds_toArray, List.set_cons_zero, List.set_cons_succ]
          refine wpAnyH_take (i := 6) (oi := { dst := some 48, op := Op.move (Operand.tmp 1), type := 23, pos := "spot.go:35", after := #[], guard := none }) (v := .slice (some ⟨nb, off, none⟩) n c) rfl (by kernel_rfl) (by kernel_rfl) (by kernel_rfl) (fun _ _ _ h => h)
            (Or.inl ⟨by rfl, by intro w hSw;  clear hSw; go_simp⟩) hHeld8 ?_
          try simp only [Act.put, List.setIfInBounds_toArray, List.set_cons_zero, List.set_cons_succ]
          refine wpAnyH_take (i := 7) (oi := { dst := some 49, op := Op.slice 23 (Operand.tmp 48) (some (Operand.const (Value.int IntKind.i64 1))) none none, type := 23, pos := "spot.go:35", after := #[{ on := 6, ground := Ground.data }], guard := none }) (v := .slice (some ⟨nb, off + 1, none⟩) (n - 1) (c - 1)) rfl (by kernel_rfl) (by kernel_rfl) (by kernel_rfl) (fun _ _ _ h => h)
            (Or.inl ⟨by rfl, by intro w hSw;  clear hSw; go_simp⟩) hHeld8 ?_
          try simp only [Act.put, List.setIfInBounds_toArray, List.set_cons_zero, List.set_cons_succ]
          refine wpAnyH_take (i := 8) (oi := { dst := some 50, op := Op.move (Operand.tmp 2), type := 3, pos := "spot.go:35", after := #[], guard := none }) (v := .int .i64 (dep : Int)) rfl (by kernel_rfl) (by kernel_rfl) (by kernel_rfl) (fun _ _ _ h => h)
            (Or.inl ⟨by rfl, by intro w hSw;  clear hSw; go_simp⟩) hHeld8 ?_
          try simp only [Act.put, List.setIfInBounds_toArray, List.set_cons_zero, List.set_cons_succ]
          refine wpAnyH_take (i := 9) (oi := { dst := some 51, op := Op.binOp BinOp.add 3 (Operand.tmp 50) (Operand.const (Value.int IntKind.i64 1)) 3, type := 3, pos := "spot.go:35", after := #[{ on := 8, ground := Ground.data }], guard := none }) (v := .int .i64 ((dep + 1 : Nat) : Int)) rfl (by kernel_rfl) (by kernel_rfl) (by kernel_rfl) (fun _ _ _ h => h)
            (Or.inl ⟨by rfl, by intro w hSw;  clear hSw; go_simp <;> exact HDW.out⟩) hHeld8 ?_
          try simp only [Act.put, List.setIfInBounds_toArray, List.set_cons_zero, List.set_cons_succ]
          refine wpAnyH_take (i := 10) (oi := { dst := some 52, op := Op.move (Operand.tmp 3), type := 84, pos := "spot.go:35", after := #[], guard := none }) (v := .func (.func f) #[] caps) rfl (by kernel_rfl) (by kernel_rfl) (by kernel_rfl) (fun _ _ _ h => h)
            (Or.inl ⟨by rfl, by intro w hSw;  clear hSw; go_simp⟩) hHeld8 ?_
          try simp only [Act.put, List.setIfInBounds_toArray, List.set_cons_zero, List.set_cons_succ]
          refine wpAnyH_ready (rs := [3]) (by kernel_rfl) (by simp) ?_
          refine AllReadyH.cons (o := { dst := some 45, op := Op.load 24 (Operand.tmp 44), type := 24, pos := "spot.go:35", after := #[{ on := 2, ground := Ground.data }], guard := none }) rfl (fun K hK => ?_) AllReadyH.nil
          have q3 : World.cell? w2.drew ⟨db, o + 4, none⟩ = some (.slice (some ⟨kb, 0, none⟩) ks.length cap) := Has.cellAt (X2.out.drew) HX4'.out
          go_simp
          clear q3
          refine hK.out _ _ trivial (fun hHw1 => ?_)
          clear hK K hHeld8
          try simp only [Act.put, List.setIfInBounds_toArray, List.set_cons_zero, List.set_cons_succ]
          refine wpAnyH_take (i := 5) (oi := { dst := some 47, op := Op.indexAddr 24 (Operand.tmp 45) (Operand.tmp 46), type := 0, pos := "spot.go:35", after := #[{ on := 3, ground := Ground.data }, { on := 4, ground := Ground.data }], guard := none }) (v := .pointer (some ⟨kb, i * 5, none⟩)) rfl (by kernel_rfl) (by kernel_rfl) (by kernel_rfl) (fun _ _ _ h => h)
            (Or.inl ⟨by rfl, by intro w hSw;  clear hSw; go_simp⟩) hHw1 ?_
          try simp only [Act.put, List.setIfInBounds_toArray, List.set_cons_zero, List.set_cons_succ]
          refine wpAnyH_ready (rs := [11]) (by kernel_rfl) (by simp) ?_
          refine AllReadyH.cons (o := { dst := some 53, op := Op.call { callee := Callee.value (Operand.func 54), args := #[Operand.tmp 47, Operand.tmp 49, Operand.tmp 51, Operand.tmp 52], argTypes := #[80, 23, 3, 84] }, type := 31, pos := "spot.go:35", after := #[{ on := 5, ground := Ground.data }, { on := 7, ground := Ground.data }, { on := 9, ground := Ground.data }, { on := 10, ground := Ground.data }], guard := none }) rfl (fun K hK => ?_) AllReadyH.nil
          go_simp
          have hcl := IH.out hl2 (ks.getD i default) w2.drew kb (i * 5) cur (five cur i) 26 R a b Si (dep + 1) (some ⟨nb, off + 1, none⟩) (n - 1) (c - 1) (HE.out w _ BD.out HEW.out) (HKW.out.later (Below.refl _ _).drew) (fun g hg => ⟨fun hm => (HZ.out g hg).1 (HSI.out g hm), fun e => (HZ.out g hg).1 (e ▸ HKB.out), (HZ.out g hg).2.2⟩) (fun g hg => ⟨fun hm => (HSX.out g hg).1 (HSI.out g hm), fun e => (HSX.out g hg).1 (e ▸ HKB.out), (HSX.out g hg).2.2⟩) (Nat.le_trans HB.out BD.out.size) HKL.out (HTL.out.later BD.out)
          refine hcl.mono ?_
          rintro e w3 ⟨rfl, hf3, hg3, hq3⟩
          obtain ⟨C3, hC3⟩ : ∃ C3, C3 = (chgE ed l2 (dep + 1) (ks.getD i default) a b).1 := ⟨_, rfl⟩
          rw [← hC3] at hq3 hg3 ⊢
          have HC3 := Lib.hid hC3
          have HF3 := Lib.hid hf3
          have HQ3 := Lib.hid hq3
          have HFIN : Hid (WP w B p db o X ty R S Z Sx q (getE l2 (ks.getD i default)) (C3, .mk 3 x d ns (ks.set i (chgE ed l2 (dep + 1) (ks.getD i default) a b).2.1), (chgE ed l2 (dep + 1) (ks.getD i default) a b).2.2) (.returned (.int .i64 (C3 : Int))) w3) := Lib.hid (by
            have hfd : Fr (p :: kb :: (Si ++ Z)) w2 w3 := ((Fr.of_below (S := []) ((Below.refl w2.heap.size w2).drew)).mono (fun g hg _ => by cases hg)).trans hf3 (fun g hg _ => hg)
            have hfw : Fr (p :: db :: (S ++ Z)) w w3 := ((Fr.of_below (S := []) B2.out).mono (fun g hg _ => by cases hg)).trans (hfd.mono (fun g hg _ => by
              simp only [List.mem_cons, List.mem_append] at hg
              rcases hg with h1 | h1 | h1 | h1
              · exact List.mem_cons.2 (.inl h1)
              · exact List.mem_cons_of_mem _ (List.mem_cons_of_mem _ (List.mem_append_left _ (h1 ▸ HKB.out)))
              · exact List.mem_cons_of_mem _ (List.mem_cons_of_mem _ (List.mem_append_left _ (HSI.out g h1)))
              · exact List.mem_cons_of_mem _ (List.mem_cons_of_mem _ (List.mem_append_right _ h1)))) (fun g hg _ => hg)
            have hfe : C3 ≠ 0 → Fr (p :: db :: S) w w3 := fun h0 => ((Fr.of_below (S := []) B2.out).mono (fun g hg _ => by cases hg)).trans ((((Fr.of_below (S := []) ((Below.refl w2.heap.size w2).drew)).mono (fun g hg _ => by cases hg)).trans (hg3 h0) (fun g hg _ => hg)).mono (fun g hg _ => by
              simp only [List.mem_cons] at hg
              rcases hg with h1 | h1 | h1
              · exact List.mem_cons.2 (.inl h1)
              · exact List.mem_cons_of_mem _ (List.mem_cons_of_mem _ (h1 ▸ HKB.out))
              · exact List.mem_cons_of_mem _ (List.mem_cons_of_mem _ (HSI.out g h1)))) (fun g hg _ => hg)
            exact ⟨rfl, hfw, hfe, fun h0 => (HUP.out w3 _ _ _ _ hfd ((hq3 h0).frame ((Below.refl w2.heap.size w2).drew))).frame B2.out⟩)
          clear hcl hf3 hq3 hg3 hC3
          go_wp2_with fail
          refine hK.out _ _ trivial (fun hHw2 => ?_)
          clear hK K hHw1
          try simp only [Act.put, List.setIfInBounds_toArray, List.set_cons_zero, List.set_cons_succ]
          refine wpAnyH_take (i := 12) (oi := { dst := some 8, op := Op.assign (Operand.tmp 53), type := 31, pos := "spot.go:35", after := #[{ on := 11, ground := Ground.data }, { on := 11, ground := Ground.chain }, { on := 0, ground := Ground.phase }, { on := 1, ground := Ground.phase }, { on := 2, ground := Ground.phase }, { on := 3, ground := Ground.phase }, { on := 4, ground := Ground.phase }, { on := 5, ground := Ground.phase }, { on := 6, ground := Ground.phase }, { on := 7, ground := Ground.phase }, { on := 8, ground := Ground.phase }, { on := 9, ground := Ground.phase }, { on := 10, ground := Ground.phase }, { on := 11, ground := Ground.phase }], guard := none }) (v := .int .i64 (C3 : Int)) rfl (by kernel_rfl) (by kernel_rfl) (by kernel_rfl) (fun _ _ _ h => h)
            (Or.inl ⟨by rfl, by intro w hSw;  clear hSw; go_simp⟩) hHw2 ?_
          try simp only [Act.put, List.setIfInBounds_toArray, List.set_cons_zero, List.set_cons_succ]
          refine wpAnyH_done (by kernel_rfl) ?_ _
          clear hHw2
          go_wp2_with fail
          go_ret
          rw [hchg.out, hget.out, if_neg hl2, ← HTK.out, if_pos rfl, ← HII.out, ← HC3.out]
          exact HFIN.out
        · subst htk
          go_wp2_with fail
          go_ret
          rw [hchg.out, if_neg hl2, ← HTK.out, if_neg (by decide)]
          exact ⟨rfl, (Fr.of_below (S := []) B2.out).mono (fun g hg _ => by cases hg), fun _ => (Fr.of_below (S := []) B2.out).mono (fun g hg _ => by cases hg), fun h => by simp at h⟩
    · have hk3i : ¬ ((k.toNat : Int) = 3) := fun e => hk3 (UInt8.toNat_inj.1 (show k.toNat = 3 by omega))
      have hchg : Hid (chgE ed (nm :: l2) dep (.mk k x d ns ks) a b = (8, .mk k x d ns ks, a, b)) := Lib.hid (by
        rw [chgE]
        show (if (k ≠ 3) then _ else _) = _
        rw [if_pos hk3])
      clear h hx0 hx3 hx4 iS hl hnb hnc hc0 hnl hEw hZ hSx hB hlim hns hkid hcs hcm hact hE hZr hnc2 hd hn hk hs hnd hS hdep hin hk3
      have hq0 := Has.cellAt HW.out.hX HX0.out
      go_enter Tryd.func54, Tryd.ntmps54
      go_wp2_with fail
      go_ret
      rw [hchg.out]
      exact ⟨rfl, Fr.refl _ _, fun _ => Fr.refl _ _, fun h => by simp at h⟩

end Go.Proofs.YtbempgdndmchlaaDoor
