/-
  The changes of a tree that is worked on, from its root: mkdir, put, drop, move. Conditions: the tree reads as one in rows of its own, within the limits.
-/
import Derived.Test.YtnfhmndepfmmoaaDoorEDown
namespace Go.Proofs.YtnfhmndepfmmoaaDoor
open Go.RowKit
set_option linter.unusedVariables false

/-- A tree that is worked on, with how many trees and bytes it has. -/
def WK (w : World) (B p : Nat) (t : T) (a b : Nat) (S : List Nat) : Prop := ∃ R, WS w B p p 0 (R ++ [.int .i64 (a : Int), .int .i64 (b : Int)]) R 52 R a b t S
/-- Behind a change of it. -/
def TopP (w : World) (B p : Nat) (S Sx : List Nat) (q : Option Nat) (gt : T) (r : ER) (w' : World) : Prop :=
  Fr (p :: S) w w' ∧ (r.1 = 0 → ∃ S', WK w' B p r.2.1 r.2.2.1 r.2.2.2 S' ∧ (∀ g ∈ S', g ∈ S ∨ g ∈ Sx ∨ w.heap.size ≤ g) ∧ Got w' B q gt S S')

theorem WK.later {w w' : World} {B p a b : Nat} {t : T} {S : List Nat} (h : WK w B p t a b S) (hb : Below w.heap.size w w') : WK w' B p t a b S := by
  obtain ⟨R, h⟩ := h
  exact ⟨R, h.later hb⟩
theorem WK.lt {w : World} {B p a b : Nat} {t : T} {S : List Nat} (h : WK w B p t a b S) : p < w.heap.size ∧ ∀ g ∈ S, g < w.heap.size := by
  obtain ⟨R, h⟩ := h
  exact ⟨h.hX.lt, fun g hg => h.mt.lt hg⟩

theorem wk_of {wz w' : World} {B p : Nat} {X : List Value} {R : List Value} {S Sx : List Nat} {q : Option Nat} {gt t' : T} {a' b' : Nat} (h : WQ wz B p p 0 X 52 R S Sx q gt t' a' b' w') :
    ∃ S', WK w' B p t' a' b' S' ∧ (∀ g ∈ S', g ∈ S ∨ g ∈ Sx ∨ wz.heap.size ≤ g) ∧ Got w' B q gt S S' := by
  obtain ⟨X', cs', R', S', k1, k2, k3, k4, k5, k6⟩ := h
  refine ⟨S', ⟨R', ?_⟩, k5, k6⟩
  rcases k1.hp with ⟨_, _, _, e4, e5⟩ | ⟨e1, _⟩
  · rw [e4, ← e5] at k1
    exact k1
  · exact absurd rfl e1
theorem fr_dup {p : Nat} {S : List Nat} {w w' : World} (h : Fr (p :: p :: S) w w') : Fr (p :: S) w w' := h.mono (fun g hg _ => by
  rcases List.mem_cons.1 hg with h | h
  · exact List.mem_cons.2 (.inl h)
  · exact h)
theorem top_fr {w wz w' : World} {p : Nat} {S Z : List Nat} (hb : Below w.heap.size w wz) (hZ : ∀ g ∈ Z, w.heap.size ≤ g) (h : Fr (p :: p :: (S ++ Z)) wz w') : Fr (p :: S) w w' :=
  ((Fr.of_below (S := []) hb).mono (S' := p :: S) (fun g hg _ => by cases hg)).trans (fr_dup h) (fun g hg hl => by
      simp only [List.mem_cons, List.mem_append] at hg
      rcases hg with h | h | h
      · exact List.mem_cons.2 (.inl h)
      · exact List.mem_cons_of_mem _ h
      · have := hZ g h; omega)
theorem top_of {w wz w' : World} {B p : Nat} {X : List Value} {R : List Value} {S Z Sx : List Nat} {q : Option Nat} {gt : T} {r : ER} {e : Ending} (hb : Below w.heap.size w wz) (hZ : ∀ g ∈ Z, w.heap.size ≤ g) (h : WP wz B p p 0 X 52 R S Z Sx q gt r e w') :
    e = .returned (.int .i64 (r.1 : Int)) ∧ TopP w B p S Sx q gt r w' := by
  obtain ⟨h1, h2, h3, h4⟩ := h
  refine ⟨h1, top_fr hb hZ h2, fun h0 => ?_⟩
  obtain ⟨S', k1, k2, k3⟩ := wk_of (h4 h0)
  refine ⟨S', k1, fun g hg => ?_, k3⟩
  rcases k2 g hg with h | h | h
  · exact .inl h
  · exact .inr (.inl h)
  · exact .inr (.inr (Nat.le_trans hb.size h))

set_option maxRecDepth 100000 in
set_option maxHeartbeats 2000000 in
theorem change_any {B p : Nat} (ed : Ed) (E : World → Prop) (hE : ∀ w w' : World, Below w.heap.size w w' → E w → E w') (f : Nat) (caps : Array Value) (he : ∀ args w, (callFunc f args).run Tryd.prog w = .ok (.enter f args) w) (Z Sx : List Nat) (q : Option Nat) (hZr : ∀ w, E w → Rows w Z)
    (hact : ∀ (w : World) (db o : Nat) (X cs : List Value) (ty : TypeId) (R : List Value) (a b : Nat) (k : UInt8) (x : Bool) (d : List UInt8) (ns : List ByteArray) (ks : List T) (S : List Nat) (nm : ByteArray) (dep : Nat), E w → WS w B p db o X cs ty R a b (.mk k x d ns ks) S → (∀ g ∈ Z, g ∉ S ∧ g ≠ db ∧ g ≠ p) → (∀ g ∈ Sx, g ∉ S ∧ g ≠ db ∧ g ≠ p) → B ≤ w.heap.size → Lim (.mk k x d ns ks) dep a b →
      Calls Tryd.prog f (#[.agg (spC db o nm (plc ns nm) dep (tkn ns nm)).toArray] ++ caps) w (WP w B p db o X ty R S Z Sx q (ks.getD (plc ns nm) default) (actE ed nm dep (.mk k x d ns ks) a b)))
    (l : List ByteArray) (hne : l ≠ []) (t : T) (w : World) (R : List Value) (a b : Nat) (S : List Nat) (na : Option Addr) (n c : Nat) (hEw : E w) (h : WS w B p p 0 (R ++ [.int .i64 (a : Int), .int .i64 (b : Int)]) R 52 R a b t S) (hZ : ∀ g ∈ Z, g ∉ S ∧ g ≠ p) (hSx : ∀ g ∈ Sx, g ∉ S ∧ g ≠ p) (hB : B ≤ w.heap.size) (hlim : Lim t 1 a b) (hl : IsS w na n c l) :
      Calls Tryd.prog 41 #[.pointer (some ⟨p, 0, none⟩), .slice na n c, .func (.func f) #[] caps] w (WP w B p p 0 (R ++ [.int .i64 (a : Int), .int .i64 (b : Int)]) 52 R S Z Sx q (getE l t) (chgE ed l 1 t a b)) := by
  have HC := Lib.hid (down_any ed E hE f caps he Z Sx q hZr hact l hne t w p 0 _ R _ R a b S 1 na n c hEw h (fun g hg => ⟨(hZ g hg).1, (hZ g hg).2, (hZ g hg).2⟩) (fun g hg => ⟨(hSx g hg).1, (hSx g hg).2, (hSx g hg).2⟩) hB hlim hl)
  clear hE hact hZr hEw h hZ hSx hB hlim hl he
  obtain ⟨G, hG⟩ : ∃ G, G = chgE ed l 1 t a b := ⟨_, rfl⟩
  rw [← hG] at HC ⊢
  clear hG
  go_enter Tryd.func41, Tryd.ntmps41
  go_wp2_with fail
  refine HC.out.mono ?_
  rintro e w1 ⟨rfl, h2⟩
  obtain ⟨D, hD⟩ : ∃ D, D = G.1 := ⟨_, rfl⟩
  rw [← hD] at h2 ⊢
  have H2 := Lib.hid h2
  have HD := Lib.hid hD
  clear h2 hD
  go_wp2_with fail
  go_ret
  exact ⟨by rw [← HD.out]; rfl, by rw [← HD.out]; exact H2.out⟩

theorem results_ct {P : Program} {fn : Func} {p u : Tmp} {ty : TypeId} (h : fn.results = #[.cell p ty, .tmp u]) (tmps : Array Value) (w : World) (g : Nat) (t : TypeId) (cs : Array Value) (fr : Nat × Nat) (d : TypeDesc)
    (hp : tmps.getD p undef = .pointer (some ⟨g, 0, none⟩)) (hg : w.heap[g]? = some (.cells cs t fr))
    (hu : P.underlying ty = some d) (hd : (match d with | .struct _ | .array _ _ => true | _ => false) = true) (hi : (P.info? ty).map (·.size) = some cs.size) :
    (results fn tmps).run P w = .ok (.tuple #[.agg cs, tmps.getD u undef]) w := by
  have hp' : tmps[p]?.getD undef = .pointer (some ⟨g, 0, none⟩) := by simpa using hp
  simp [results, h, hp', asAddr, run_loadVar_row w g t ty cs fr d hg hu hd hi]
theorem app1 (x y : Value) : (#[x] ++ #[y] : Array Value) = #[x, y] := rfl
theorem app2 (x y z : Value) : (#[x] ++ #[y, z] : Array Value) = #[x, y, z] := rfl

set_option maxRecDepth 100000 in
set_option maxHeartbeats 2000000 in
theorem mkdir_any {w : World} {B p a b : Nat} {t : T} {S : List Nat} {na : Option Addr} {n c : Nat} {l : List ByteArray} (h : WK w B p t a b S) (hB : B ≤ w.heap.size) (hlim : Lim t 1 a b) (hl : IsS w na n c l) (hne : l ≠ []) :
    Calls Tryd.prog 27 #[.pointer (some ⟨p, 0, none⟩), .slice na n c] w fun e w' => e = .returned (.int .i64 ((chgE .mk l 1 t a b).1 : Int)) ∧ TopP w B p S [] none (getE l t) (chgE .mk l 1 t a b) w' := by
  obtain ⟨R, h⟩ := h
  obtain ⟨w1, hw1⟩ : ∃ w1, w1 = w.alloc (.cells #[.pointer (some ⟨p, 0, none⟩)] 47) := ⟨_, rfl⟩
  have b1 : Below w.heap.size w w1 := by rw [hw1]; exact (Below.refl _ _).alloc (Nat.le_refl _) _
  have g1 : Has w1 w.heap.size [.pointer (some ⟨p, 0, none⟩)] 47 := by rw [hw1]; exact Has.new w [.pointer (some ⟨p, 0, none⟩)] _
  have HCH := Lib.hid (change_any (B := B) (p := p) .mk (fun W => Has W w.heap.size [.pointer (some ⟨p, 0, none⟩)] 47) (fun W W' hb hh => has_fr hh (Fr.of_below (S := []) hb) (by simp)) 42 #[.pointer (some ⟨w.heap.size, 0, none⟩)] (enters_of Tryd.func42 (by kernel_rfl) rfl) [] [] none (fun W _ => Rows.nil W)
    (fun W db o X cs ty R a b k x d ns ks S nm dep hEW hW _ _ hBW hL => by rw [app1]; exact mkdir_act hEW hW hBW hL) l hne t w1 R a b S na n c g1 (h.later b1) (fun g hg => by cases hg) (fun g hg => by cases hg) (Nat.le_trans hB b1.size) hlim (hl.later b1))
  have B1 := Lib.hid b1
  have HW1 := Lib.hid hw1
  have hld := Has.cellAt g1 (i := 0) rfl
  clear h hB hlim hl hne g1 b1
  obtain ⟨G, hG⟩ : ∃ G, G = chgE .mk l 1 t a b := ⟨_, rfl⟩
  rw [← hG] at HCH ⊢
  clear hG hw1
  have hmf : ∀ (fn : Fn) (first cap : Array Value) (w : World), (Instr.makeFunc fn first cap).run Tryd.prog w = .ok (.func fn first cap) w := fun _ _ _ _ => rfl
  go_enter Tryd.func27, Tryd.ntmps27
  go_upto_region 1 with fail
  rw [← HW1.out]
  go_wp2_with fail
  refine HCH.out.mono ?_
  intro e w2 h2
  obtain ⟨q1, q2⟩ := top_of B1.out (fun g hg => by cases hg) h2
  subst q1
  obtain ⟨D, hD⟩ : ∃ D, D = G.1 := ⟨_, rfl⟩
  rw [← hD]
  have H2 := Lib.hid q2
  have HD := Lib.hid hD
  clear h2 hD q2
  go_wp2_with fail
  go_ret
  exact ⟨by rw [← HD.out]; rfl, H2.out⟩

set_option maxRecDepth 100000 in
set_option maxHeartbeats 2000000 in
theorem put_any {w : World} {B p a b : Nat} {t tt : T} {S Sx : List Nat} {na : Option Addr} {n c : Nat} {l : List ByteArray} {ct : List Value} (h : WK w B p t a b S) (hB : B ≤ w.heap.size) (hlim : Lim t 1 a b) (hl : IsS w na n c l) (hne : l ≠ [])
    (hm : MT w B ct tt Sx) (hSx : ∀ g ∈ Sx, g ∉ S ∧ g ≠ p) (hsm : Small tt) (hz : sizeT tt = some (sizeN tt, bytesT tt)) (hN : sizeN tt ≤ 1000000) :
    Calls Tryd.prog 29 #[.pointer (some ⟨p, 0, none⟩), .slice na n c, .agg ct.toArray] w fun e w' => e = .returned (.int .i64 ((chgE (.put tt) l 1 t a b).1 : Int)) ∧ TopP w B p S Sx none (getE l t) (chgE (.put tt) l 1 t a b) w' := by
  obtain ⟨R, h⟩ := h
  obtain ⟨w0, hw0⟩ : ∃ w0, w0 = w.alloc (.cells #[.pointer (some ⟨p, 0, none⟩)] 47) := ⟨_, rfl⟩
  have s0 : w0.heap.size = w.heap.size + 1 := by rw [hw0]; simp
  obtain ⟨w1, hw1⟩ : ∃ w1, w1 = w0.alloc (.cells ct.toArray 26) := ⟨_, rfl⟩
  have b1 : Below w.heap.size w w1 := by rw [hw1, hw0]; exact ((Below.refl _ _).alloc (Nat.le_refl _) _).alloc (by simp) _
  have g1 : Has w1 w.heap.size [.pointer (some ⟨p, 0, none⟩)] 47 := by rw [hw1, hw0]; exact (Has.new w [.pointer (some ⟨p, 0, none⟩)] _).alloc _
  have t1 : Has w1 (w.heap.size + 1) ct 26 := by rw [hw1, ← s0]; exact Has.new w0 ct _
  have hpl : p < w.heap.size := h.hX.lt
  have hSl : ∀ g ∈ S, g < w.heap.size := fun g hg => h.mt.lt hg
  have HCH := Lib.hid (change_any (B := B) (p := p) (.put tt) (fun W => Has W w.heap.size [.pointer (some ⟨p, 0, none⟩)] 47 ∧ Has W (w.heap.size + 1) ct 26 ∧ MT W B ct tt Sx) (fun W W' hb hh => ⟨has_fr hh.1 (Fr.of_below (S := []) hb) (by simp), has_fr hh.2.1 (Fr.of_below (S := []) hb) (by simp), hh.2.2.later hb⟩)
    44 #[.pointer (some ⟨w.heap.size, 0, none⟩), .pointer (some ⟨w.heap.size + 1, 0, none⟩)] (enters_of Tryd.func44 (by kernel_rfl) rfl) [w.heap.size, w.heap.size + 1] Sx none (fun W hW => Rows.cons hW.1 (by decide) (Rows.cons hW.2.1 (by decide) (Rows.nil W)))
    (fun W db o X cs ty R a b k x d ns ks S nm dep hEW hW hZ hSX hBW hL => by rw [app2]; exact put_act hEW.1 hEW.2.1 hEW.2.2 hSX (hZ _ (by simp)) (hZ _ (by simp)) hsm hz hN hW hBW hL) l hne t w1 R a b S na n c ⟨g1, t1, hm.later b1⟩ (h.later b1) (fun g hg => by
      simp only [List.mem_cons, List.not_mem_nil, or_false] at hg
      rcases hg with rfl | rfl
      · exact ⟨fun hm => by have := hSl _ hm; omega, by omega⟩
      · exact ⟨fun hm => by have := hSl _ hm; omega, by omega⟩) hSx (Nat.le_trans hB b1.size) hlim (hl.later b1))
  have B1 := Lib.hid b1
  have HW1 : Hid (w1 = (w.alloc (.cells #[.pointer (some ⟨p, 0, none⟩)] 47)).alloc (.cells ct.toArray 26)) := Lib.hid (by rw [hw1, hw0])
  have hld := Has.cellAt g1 (i := 0) rfl
  clear h hB hlim hl hne g1 b1 t1 hm hSx hsm hz hN hpl hSl hw1 hw0 s0
  obtain ⟨G, hG⟩ : ∃ G, G = chgE (.put tt) l 1 t a b := ⟨_, rfl⟩
  rw [← hG] at HCH ⊢
  clear hG
  have hmf : ∀ (fn : Fn) (first cap : Array Value) (w : World), (Instr.makeFunc fn first cap).run Tryd.prog w = .ok (.func fn first cap) w := fun _ _ _ _ => rfl
  go_enter Tryd.func29, Tryd.ntmps29
  go_upto_region 1 with fail
  rw [← HW1.out]
  go_wp2_with fail
  refine HCH.out.mono ?_
  intro e w2 h2
  obtain ⟨q1, q2⟩ := top_of B1.out (fun g hg => by
    simp only [List.mem_cons, List.not_mem_nil, or_false] at hg
    omega) h2
  subst q1
  obtain ⟨D, hD⟩ : ∃ D, D = G.1 := ⟨_, rfl⟩
  rw [← hD]
  have H2 := Lib.hid q2
  have HD := Lib.hid hD
  clear h2 hD q2
  go_wp2_with fail
  go_ret
  exact ⟨by rw [← HD.out]; rfl, H2.out⟩

/-- What drop tells: five cells; they read as what was there. -/
def DropP (w : World) (B p : Nat) (S : List Nat) (gt : T) (r : ER) (e : Ending) (w' : World) : Prop :=
  ∃ gcs, e = .returned (.tuple #[.agg gcs.toArray, .int .i64 (r.1 : Int)]) ∧ gcs.length = 5 ∧ gcs.toArray.all (·.oneCell') = true ∧ Fr (p :: S) w w' ∧ (r.1 = 0 → ∃ S' Sg, WK w' B p r.2.1 r.2.2.1 r.2.2.2 S' ∧ (∀ g ∈ S', g ∈ S ∨ w.heap.size ≤ g) ∧ MT w' B gcs gt Sg ∧ (∀ g ∈ Sg, g ∈ S ∧ g ∉ S'))

theorem WK.fr {w w' : World} {F : List Nat} {B p a b : Nat} {t : T} {S : List Nat} (h : WK w B p t a b S) (hf : Fr F w w') (hF : Rows w F) (h1 : p ∉ F) (h3 : ∀ g ∈ S, g ∉ F) : WK w' B p t a b S := by
  obtain ⟨R, h⟩ := h
  exact ⟨R, h.fr hf hF h1 h1 h3⟩

set_option maxRecDepth 100000 in
set_option maxHeartbeats 4000000 in
theorem drop_any {w : World} {B p a b : Nat} {t : T} {S : List Nat} {na : Option Addr} {n c : Nat} {l : List ByteArray} (h : WK w B p t a b S) (hB : B ≤ w.heap.size) (hlim : Lim t 1 a b) (hl : IsS w na n c l) (hne : l ≠ []) :
    Calls Tryd.prog 31 #[.pointer (some ⟨p, 0, none⟩), .slice na n c] w (DropP w B p S (getE l t) (chgE .drop l 1 t a b)) := by
  obtain ⟨R, h⟩ := h
  obtain ⟨w0, hw0⟩ : ∃ w0, w0 = w.alloc (.cells #[.pointer (some ⟨p, 0, none⟩)] 47) := ⟨_, rfl⟩
  have s0 : w0.heap.size = w.heap.size + 1 := by rw [hw0]; simp
  obtain ⟨wy, hwy⟩ : ∃ wy, wy = w0.alloc (.cells #[.int .u8 0, .bool false, .slice none 0 0, .slice none 0 0, .slice none 0 0] 26) := ⟨_, rfl⟩
  have sy : wy.heap.size = w.heap.size + 1 + 1 := by rw [hwy]; simp [s0]
  obtain ⟨w1, hw1⟩ : ∃ w1, w1 = wy.alloc (.cells #[.int .u8 0, .bool false, .slice none 0 0, .slice none 0 0, .slice none 0 0] 26) := ⟨_, rfl⟩
  have b1 : Below w.heap.size w w1 := by rw [hw1, hwy, hw0]; exact (((Below.refl _ _).alloc (Nat.le_refl _) _).alloc (by simp) _).alloc (by simp; omega) _
  have g1 : Has w1 w.heap.size [.pointer (some ⟨p, 0, none⟩)] 47 := by rw [hw1, hwy, hw0]; exact ((Has.new w [.pointer (some ⟨p, 0, none⟩)] _).alloc _).alloc _
  have r1 : Has w1 (w.heap.size + 1) zK 26 := by rw [hw1, hwy, ← s0]; exact (Has.new w0 zK _).alloc _
  have q1 : Has w1 (w.heap.size + 1 + 1) zK 26 := by rw [hw1, ← sy]; exact Has.new wy zK _
  have hpl : p < w.heap.size := h.hX.lt
  have hSl : ∀ g ∈ S, g < w.heap.size := fun g hg => h.mt.lt hg
  have HCH := Lib.hid (change_any (B := B) (p := p) .drop (fun W => Has W w.heap.size [.pointer (some ⟨p, 0, none⟩)] 47 ∧ Has W (w.heap.size + 1 + 1) zK 26) (fun W W' hb hh => ⟨has_fr hh.1 (Fr.of_below (S := []) hb) (by simp), has_fr hh.2 (Fr.of_below (S := []) hb) (by simp)⟩)
    47 #[.pointer (some ⟨w.heap.size, 0, none⟩), .pointer (some ⟨w.heap.size + 1 + 1, 0, none⟩)] (enters_of Tryd.func47 (by kernel_rfl) rfl) [w.heap.size + 1 + 1] [] (some (w.heap.size + 1 + 1)) (fun W hW => Rows.cons hW.2 (by decide) (Rows.nil W))
    (fun W db o X cs ty R a b k x d ns ks S nm dep hEW hW hZ hSX hBW hL => by rw [app2]; exact drop_act hEW.1 hEW.2 rfl (hZ _ (by simp)) (by simp) hW hL) l hne t w1 R a b S na n c ⟨g1, q1⟩ (h.later b1) (fun g hg => by
      simp only [List.mem_cons, List.not_mem_nil, or_false] at hg
      subst hg
      exact ⟨fun hm => by have := hSl _ hm; omega, by omega⟩) (fun g hg => by cases hg) (Nat.le_trans hB b1.size) hlim (hl.later b1))
  have B1 := Lib.hid b1
  have R1 := Lib.hid r1
  have Q1 := Lib.hid q1
  have HPL := Lib.hid hpl
  have HSL := Lib.hid hSl
  have HW1 : Hid (w1 = ((w.alloc (.cells #[.pointer (some ⟨p, 0, none⟩)] 47)).alloc (.cells #[.int .u8 0, .bool false, .slice none 0 0, .slice none 0 0, .slice none 0 0] 26)).alloc (.cells #[.int .u8 0, .bool false, .slice none 0 0, .slice none 0 0, .slice none 0 0] 26)) := Lib.hid (by rw [hw1, hwy, hw0])
  have hld := Has.cellAt g1 (i := 0) rfl
  clear h hB hlim hl hne g1 b1 r1 q1 hpl hSl hw1 hw0 hwy s0 sy
  obtain ⟨G, hG⟩ : ∃ G, G = chgE .drop l 1 t a b := ⟨_, rfl⟩
  rw [← hG] at HCH ⊢
  clear hG
  have hmf : ∀ (fn : Fn) (first cap : Array Value) (w : World), (Instr.makeFunc fn first cap).run Tryd.prog w = .ok (.func fn first cap) w := fun _ _ _ _ => rfl
  go_enter Tryd.func31, Tryd.ntmps31
  go_upto_region 2 with fail
  rw [← HW1.out]
  go_wp2_with fail
  refine HCH.out.mono ?_
  intro e w2 h2
  obtain ⟨e1, hfp, hfe, hwq⟩ := h2
  have hsz : w.heap.size + 1 + 1 < w1.heap.size := Q1.out.lt
  have hft := top_fr B1.out (fun g hg => by
    simp only [List.mem_cons, List.not_mem_nil, or_false] at hg
    omega) hfp
  subst e1
  have hr2 : Has w2 (w.heap.size + 1) zK 26 := has_fr R1.out hfp (fun hm => by
    simp only [List.mem_cons, List.mem_append, List.not_mem_nil, or_false] at hm
    have := HPL.out
    rcases hm with h | h | h | h
    · omega
    · omega
    · have := HSL.out _ h; omega
    · omega)
  have hgot : ∃ gcs, Has w2 (w.heap.size + 1 + 1) gcs 26 ∧ gcs.length = 5 ∧ gcs.toArray.all (·.oneCell') = true ∧ (G.1 = 0 → ∃ S' Sg, WK w2 B p G.2.1 G.2.2.1 G.2.2.2 S' ∧ (∀ g ∈ S', g ∈ S ∨ w1.heap.size ≤ g) ∧ MT w2 B gcs (getE l t) Sg ∧ (∀ g ∈ Sg, g ∈ S ∧ g ∉ S')) := by
    by_cases h0 : G.1 = 0
    · obtain ⟨S', k1, k2, k3⟩ := wk_of (hwq h0)
      obtain ⟨gcs, Sg, m1, m2, m3, m4⟩ := k3 _ rfl
      refine ⟨gcs, m1, m2.five, ?_, fun _ => ⟨S', Sg, k1, fun g hg => ?_, m2, fun g hg => ⟨m3 g hg, m4 g hg⟩⟩⟩
      · rw [Array.all_eq_true_iff_forall_mem]
        intro u hu
        exact m2.one u (by simpa using hu)
      · rcases k2 g hg with h | h | h
        · exact .inl h
        · cases h
        · exact .inr h
    · refine ⟨zK, has_fr Q1.out (hfe h0) (fun hm => ?_), rfl, by decide +kernel, fun h => absurd h h0⟩
      simp only [List.mem_cons] at hm
      have := HPL.out
      rcases hm with h | h | h
      · omega
      · omega
      · have := HSL.out _ h; omega
  obtain ⟨gcs, hgc, hg5, hg1, hgo⟩ := hgot
  obtain ⟨D, hD⟩ : ∃ D, D = G.1 := ⟨_, rfl⟩
  rw [← hD]
  have HD := Lib.hid hD
  have HGO := Lib.hid hgo
  have HGR : Hid (w2.heap[w.heap.size + 1 + 1]? = some (.cells gcs.toArray 26 (0, 0))) := Lib.hid hgc
  have HRR : Hid (w2.heap[w.heap.size + 1]? = some (.cells zK.toArray 26 (0, 0))) := Lib.hid hr2
  have HG5 := Lib.hid (infoL hg5)
  have HGS : Hid (zK.toArray.size = gcs.toArray.size) := Lib.hid (by simp [zK, hg5])
  have HG1 := Lib.hid hg1
  have HGL := Lib.hid hg5
  have HFIN : Hid (DropP w B p S (getE l t) G (.returned (.tuple #[.agg gcs.toArray, .int .i64 (D : Int)])) (w2.setRow (w.heap.size + 1) gcs.toArray)) := Lib.hid (by
    have hf3 : Fr [w.heap.size + 1] w2 (w2.setRow (w.heap.size + 1) gcs.toArray) := (Fr.refl _ _).setRow (.inl (by simp)) _
    have hr3 : Rows w2 [w.heap.size + 1] := Rows.cons hr2 (by decide) (Rows.nil _)
    have hnp : p ∉ [w.heap.size + 1] := fun hm => by simp only [List.mem_cons, List.not_mem_nil, or_false] at hm; have := HPL.out; omega
    have hn1 : ∀ g, g ∈ S ∨ w1.heap.size ≤ g → g ∉ [w.heap.size + 1] := fun g hg hm => by
      simp only [List.mem_cons, List.not_mem_nil, or_false] at hm
      rcases hg with h | h
      · have := HSL.out g h; omega
      · omega
    have hft3 : Fr (p :: S) w (w2.setRow (w.heap.size + 1) gcs.toArray) := hft.trans hf3 (fun g hg hl => by simp only [List.mem_cons, List.not_mem_nil, or_false] at hg; omega)
    refine ⟨gcs, by rw [hD], hg5, hg1, hft3, fun h0 => ?_⟩
    obtain ⟨S', Sg, k1, k2, k3, k4⟩ := hgo h0
    exact ⟨S', Sg, k1.fr hf3 hr3 hnp (fun g hg => hn1 g (k2 g hg)), fun g hg => (k2 g hg).imp id (fun h => by omega), k3.frame hf3 hr3 (fun g hg => hn1 g (.inl (k4 g hg).1)), k4⟩)
  clear hgo hgc hr2 hg5 hg1 hfp hfe hwq hD hft hsz
  go_wp2_with (first
    | (refine wpList_load_row rfl 26 _ rfl (w.heap.size + 1 + 1) rfl 26 gcs.toArray (0, 0) _ HGR.out Tryd.underlying26 rfl HG5.out ?_)
    | (refine wpList_store_row rfl 26 _ _ rfl (w.heap.size + 1) gcs.toArray rfl rfl 26 zK.toArray HRR.out HG5.out HGS.out HG1.out ?_))
  refine bodyPost_ret (results_ct (fn := Tryd.f31) (p := 4) (u := 5) (ty := 26) Tryd.results31 _ _ (w.heap.size + 1) 26 gcs.toArray (0, 0) _ rfl (setRow_heap _ _ _ _ _ _ HRR.out) Tryd.underlying26 rfl HG5.out) rfl ?_
  exact HFIN.out

end Go.Proofs.YtnfhmndepfmmoaaDoor
