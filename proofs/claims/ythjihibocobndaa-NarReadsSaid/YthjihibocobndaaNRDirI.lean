/-
  A directory that the reference is reading: what the memory holds between two steps; a tree's Stab. No program text but the reference's want.
-/
import Derived.Test.YthjihibocobndaaNDir
import Derived.Test.YthjihibocobndaaNROMath
import Derived.Lib.ConvBytes
namespace Go.Proofs.Ythjihibocobndaa
open Go.RowKit
set_option linter.unusedVariables false

structure RDir (w : World) (A : Nat) (ns : List ByteArray) (ks : List T) (vn vk : Value) (wr : World) : Prop where
  bel : Below w.heap.size w wr
  res : Has wr A zeroL 26
  box : Has wr (A + 1) (dirC vn vk) 26
  names : wr.ownsRow (A + 2) 9 1 vn ns.length (ns.map Value.string)
  kids : ∃ LK, wr.ownsRow (A + 2) 26 5 vk ks.length LK ∧ ∀ i, i < ks.length → ∃ n, KStab A (KP A vn vk) wr n (five LK i) (ks.getD i default)
  base : A = w.heap.size

section
variable {A : Nat} {w wr : World} {ns : List ByteArray} {ks : List T} {vn vk : Value}

theorem RDir.keep (h : RDir w A ns ks vn vk wr) {w' : World} (hbel : Below w.heap.size w w') (hsz : wr.heap.size ≤ w'.heap.size) (hne : ∀ k, A ≤ k → k < wr.heap.size → w'.heap[k]? = wr.heap[k]?) : RDir w A ns ks vn vk w' := by
  obtain ⟨LK, hk, hst⟩ := h.kids
  exact ⟨hbel, (hne A (Nat.le_refl _) h.res.lt).trans h.res, (hne (A + 1) (by omega) h.box.lt).trans h.box,
    owns_keep h.names (fun g hg => by have := h.names.lt g hg; exact hne g (by omega) this.2), ⟨LK, owns_keep hk (fun g hg => by have := hk.lt g hg; exact hne g (by omega) this.2), fun i hi => by
      obtain ⟨n, hn⟩ := hst i hi
      exact ⟨n, hn.step hsz (fun k h1 h2 _ => hne k h1 h2) (fun k _ hp => hp)⟩⟩, h.base⟩
theorem RDir.later (h : RDir w A ns ks vn vk wr) {w' : World} (hb : Below wr.heap.size wr w') : RDir w A ns ks vn vk w' :=
  h.keep (h.bel.trans (hb.mono h.bel.size)) hb.size (fun k _ h2 => hb.block k h2)

theorem KP_ltR (h : RDir w A ns ks vn vk wr) : ∀ k, KP A vn vk k → k < wr.heap.size := by
  intro k hk
  have h1 := h.res.lt
  have h2 := h.box.lt
  obtain ⟨LK, hkk, _⟩ := h.kids
  rcases hk with rfl | rfl | hk | hk
  · exact h1
  · exact h2
  · exact (h.names.lt k hk).2
  · exact (hkk.lt k hk).2

/-- A name more. -/
theorem RDir.name (h : RDir w A ns ks vn vk wr) {nm : ByteArray} {w' : World} {g cap : Nat} (ho : w'.ownsRow (A + 2) 9 1 (.slice (some ⟨g, 0, none⟩) (ns.length + 1) cap) (ns.length + 1) (ns.map Value.string ++ [.string nm]))
    (hg : wr.grownBy w' vn.ownBlock) (hn : vn.ownBlock = some g ∨ g = wr.heap.size) :
    RDir w A (ns ++ [nm]) ks (.slice (some ⟨g, 0, none⟩) (ns.length + 1) cap) vk (w'.setCell ⟨A + 1, 3, none⟩ (.slice (some ⟨g, 0, none⟩) (ns.length + 1) cap)) := by
  have hbase := h.base
  have hob := ho.lt g rfl
  have e1 : ∀ k, k < wr.heap.size → k ≠ A + 1 → vn.ownBlock ≠ some k → (w'.setCell ⟨A + 1, 3, none⟩ (.slice (some ⟨g, 0, none⟩) (ns.length + 1) cap)).heap[k]? = wr.heap[k]? := fun k h1 h2 h3 =>
    (heap_setCell_other w' ⟨A + 1, 3, none⟩ k _ h2).trans (hg.block k h1 (fun e => h3 e.symm))
  have hsz : wr.heap.size ≤ (w'.setCell ⟨A + 1, 3, none⟩ (.slice (some ⟨g, 0, none⟩) (ns.length + 1) cap)).heap.size := by simp only [World.setCell, Array.size_modify]; exact hg.size
  have hnb : ∀ k, vn.ownBlock = some k → A + 2 ≤ k := fun k hk => (h.names.lt k hk).1
  obtain ⟨LK, hk, hst⟩ := h.kids
  have hB1 : Has w' (A + 1) (dirC vn vk) 26 := (hg.block _ h.box.lt (fun e => by have := hnb _ e.symm; omega)).trans h.box
  have hbelx : Below w.heap.size w (w'.setCell ⟨A + 1, 3, none⟩ (.slice (some ⟨g, 0, none⟩) (ns.length + 1) cap)) :=
    (h.bel.grown hg h.bel.size (fun k hk => by have := hnb k hk; omega)).setCell (p := ⟨A + 1, 3, none⟩) (by show w.heap.size ≤ A + 1; omega) _
  refine ⟨hbelx, (e1 A h.res.lt (by omega) (fun e => by have := hnb _ e; omega)).trans h.res, hB1.set 3 _, ?_, ⟨LK, ?_, fun i hi => ?_⟩, hbase⟩
  · rw [List.length_append, List.map_append]
    exact owns_keep ho (fun q hq => heap_setCell_other w' ⟨A + 1, 3, none⟩ q _ (by
      have := (ho.lt q hq).1
      show q ≠ A + 1; omega))
  · exact owns_keep hk (fun q hq => e1 q (hk.lt q hq).2 (by have := (hk.lt q hq).1; omega) (fun e => by
      rcases hk.2 with ⟨h0, _⟩ | ⟨g2, cap2, cur2, h1, _, h3, _⟩
      · rw [h0] at hq; cases hq
      · rw [h1] at hq
        simp only [Value.ownBlock, Option.some.injEq] at hq
        subst hq
        exact row_block_type h.names h3 (by decide) e))
  · obtain ⟨n, hn'⟩ := hst i hi
    refine ⟨n, hn'.step hsz (fun k h1 h2 h3 => e1 k h2 (fun e => h3 (.inr (.inl e))) (fun e => h3 (.inr (.inr (.inl e))))) (fun k hk hp => ?_)⟩
    rcases hp with hp | hp | hp | hp
    · exact .inl hp
    · exact .inr (.inl hp)
    · simp only [Value.ownBlock, Option.some.injEq] at hp
      rcases hn with hn | hn
      · exact .inr (.inr (.inl (by rw [hn, hp])))
      · omega
    · exact .inr (.inr (.inr hp))

/-- A kid more. -/
theorem RDir.kid (h : RDir w A ns ks vn vk wr) {LK : List Value} (hk : wr.ownsRow (A + 2) 26 5 vk ks.length LK) (hst : ∀ i, i < ks.length → ∃ n, KStab A (KP A vn vk) wr n (five LK i) (ks.getD i default))
    {t : T} {cs : List Value} {m : Nat} (ht : KStab A (KP A vn vk) wr m cs t) (hc : cs.length = 5) {w' : World} {g cap : Nat}
    (ho : w'.ownsRow (A + 2) 26 5 (.slice (some ⟨g, 0, none⟩) (ks.length + 1) cap) (ks.length + 1) (LK ++ cs)) (hg : wr.grownBy w' vk.ownBlock) (hn : vk.ownBlock = some g ∨ g = wr.heap.size) :
    RDir w A ns (ks ++ [t]) vn (.slice (some ⟨g, 0, none⟩) (ks.length + 1) cap) (w'.setCell ⟨A + 1, 4, none⟩ (.slice (some ⟨g, 0, none⟩) (ks.length + 1) cap)) := by
  have hbase := h.base
  have e1 : ∀ k, k < wr.heap.size → k ≠ A + 1 → vk.ownBlock ≠ some k → (w'.setCell ⟨A + 1, 4, none⟩ (.slice (some ⟨g, 0, none⟩) (ks.length + 1) cap)).heap[k]? = wr.heap[k]? := fun k h1 h2 h3 =>
    (heap_setCell_other w' ⟨A + 1, 4, none⟩ k _ h2).trans (hg.block k h1 (fun e => h3 e.symm))
  have hsz : wr.heap.size ≤ (w'.setCell ⟨A + 1, 4, none⟩ (.slice (some ⟨g, 0, none⟩) (ks.length + 1) cap)).heap.size := by simp only [World.setCell, Array.size_modify]; exact hg.size
  have hnb : ∀ k, vk.ownBlock = some k → A + 2 ≤ k := fun k hq => (hk.lt k hq).1
  have hB1 : Has w' (A + 1) (dirC vn vk) 26 := (hg.block _ h.box.lt (fun e => by have := hnb _ e.symm; omega)).trans h.box
  have hbelx : Below w.heap.size w (w'.setCell ⟨A + 1, 4, none⟩ (.slice (some ⟨g, 0, none⟩) (ks.length + 1) cap)) :=
    (h.bel.grown hg h.bel.size (fun k hk => by have := hnb k hk; omega)).setCell (p := ⟨A + 1, 4, none⟩) (by show w.heap.size ≤ A + 1; omega) _
  have hstep : ∀ {n : Nat} {ds : List Value} {u : T}, KStab A (KP A vn vk) wr n ds u → KStab A (KP A vn (.slice (some ⟨g, 0, none⟩) (ks.length + 1) cap)) (w'.setCell ⟨A + 1, 4, none⟩ (.slice (some ⟨g, 0, none⟩) (ks.length + 1) cap)) n ds u := fun hn' =>
    hn'.step hsz (fun k h1 h2 h3 => e1 k h2 (fun e => h3 (.inr (.inl e))) (fun e => h3 (.inr (.inr (.inr e))))) (fun k hk hp => by
      rcases hp with hp | hp | hp | hp
      · exact .inl hp
      · exact .inr (.inl hp)
      · exact .inr (.inr (.inl hp))
      · simp only [Value.ownBlock, Option.some.injEq] at hp
        rcases hn with hn | hn
        · exact .inr (.inr (.inr (by rw [hn, hp])))
        · omega)
  refine ⟨hbelx, (e1 A h.res.lt (by omega) (fun e => by have := hnb _ e; omega)).trans h.res, hB1.set 4 _, ?_, ⟨LK ++ cs, ?_, fun i hi => ?_⟩, hbase⟩
  · exact owns_keep h.names (fun q hq => e1 q (h.names.lt q hq).2 (by have := (h.names.lt q hq).1; omega) (fun e => by
      rcases hk.2 with ⟨h0, _⟩ | ⟨g2, cap2, cur2, h1, _, h3, _⟩
      · rw [h0] at e; cases e
      · rw [h1] at e
        simp only [Value.ownBlock, Option.some.injEq] at e
        subst e
        exact row_block_type h.names h3 (by decide) hq))
  · rw [List.length_append]
    exact owns_keep ho (fun q hq => heap_setCell_other w' ⟨A + 1, 4, none⟩ q _ (by
      have := (ho.lt q hq).1
      show q ≠ A + 1; omega))
  · have hl : LK.length = ks.length * 5 := hk.1
    rw [List.length_append, List.length_singleton] at hi
    rcases Nat.lt_or_ge i ks.length with h' | h'
    · obtain ⟨n, hn'⟩ := hst i h'
      refine ⟨n, ?_⟩
      rw [five_append_old hl h', List.getD_eq_getElem?_getD, List.getElem?_append_left h', ← List.getD_eq_getElem?_getD]
      exact hstep hn'
    · obtain rfl : i = ks.length := by omega
      refine ⟨m, ?_⟩
      rw [five_append_new hl hc, List.getD_eq_getElem?_getD, List.getElem?_append_right (Nat.le_refl _), Nat.sub_self]
      exact hstep ht

end

/-! Of a tree that the reference tells. -/
theorem isB_keep {w w' : World} {a : Option Addr} {n c : Nat} {l : List UInt8} (h : IsB w a n c l) (hsz : w.heap.size ≤ w'.heap.size) (hs : ∀ b off, a = some ⟨b, off, none⟩ → w'.heap[b]? = w.heap[b]?) : IsB w' a n c l := by
  refine ⟨h.length, ?_, h.nil, h.room, h.most⟩
  rcases h.at_ with h0 | ⟨b, off, rfl, hlt, hc⟩
  · exact .inl h0
  · refine .inr ⟨b, off, rfl, Nat.lt_of_lt_of_le hlt hsz, fun i hi => ?_⟩
    rw [← hc i hi]
    exact World.cell?_of_block (w := w) (hs b off rfl)

/-- The bytes of a string that is no constant. -/
theorem conv_isB (w : World) (s : ByteArray) (h : s.size ≤ 2000000) : IsB (Lib.bytesWorld w 5 s) (some ⟨w.heap.size, 0, none⟩) s.size (grownCap w s.size 0 5) s.data.toList := by
  refine ⟨by simp, .inr ⟨_, 0, rfl, by rw [Lib.bytesWorld_size]; omega, fun i hi => ?_⟩, (fun e => by cases e), ⟨grownCap_ge _ _ _ _, grownCap_le_maxLen _ _ _ _ (by unfold maxLen; omega)⟩, by omega⟩
  rw [Nat.zero_add]
  exact Lib.bytesWorld_cell w 5 s i hi
theorem conv_bel {B : Nat} {w0 : World} (w : World) (s : ByteArray) (hb : Below B w0 w) (hB : B ≤ w.heap.size) : Below B w0 (Lib.bytesWorld w 5 s) :=
  ⟨hb.os, hb.tape, hb.output, Nat.le_trans hb.size (by rw [Lib.bytesWorld_size]; omega), fun k hk => (Lib.bytesWorld_at_old w _ s k (by omega)).trans (hb.block k hk)⟩

/-- A file, a link, or what is none, that stands in five cells. -/
theorem leafR {lo : Nat} {w : World} {a : Option Addr} {n c : Nat} (k : UInt8) (x : Bool) (d : List UInt8) (h : IsB w a n c d) (hlo : ∀ b off, a = some ⟨b, off, none⟩ → lo ≤ b ∧ b < w.heap.size) :
    Stab lo [] w 1 [.int .u8 (k.toNat : Int), .bool x, .slice a n c, .slice none 0 0, .slice none 0 0] (.mk k x d [] []) := by
  intro w' hsz hs
  exact ⟨_, _, _, _, _, _, _, _, _, rfl, isB_keep h hsz (fun b off e => by obtain ⟨h1, h2⟩ := hlo b off e; exact hs b h1 h2 (by simp)), isS_no w', isK_no _ w'⟩
theorem zeroR (lo : Nat) (w : World) : Stab lo [] w 1 zeroL zT := by
  intro w' _ _
  exact ⟨_, _, _, _, _, _, _, _, _, rfl, isB_no w', isS_no w', isK_no _ w'⟩

/-- What the reference's tree answers. -/
def RTreeV (R : List UInt8) (p : T × Option (List UInt8)) (w : World) (e : Ending) (w' : World) : Prop :=
  ∃ n cs, e = .returned (.tuple #[.agg cs.toArray, .int .i64 (posI R p.2)]) ∧ Stab w.heap.size [] w' n cs p.1 ∧ Below w.heap.size w w'

theorem rwant_1s {a : Option Addr} {n cap : Nat} {R : List UInt8} {o : Option (List UInt8)} (b1 : ByteArray) (s1 : List UInt8) (h1 : b1.data.toList = s1) (w : World) (hB : IsB w a n cap R) (h9 : R.length ≤ 1000000) (ho : At R o) :
    Calls Try.prog 22 #[.slice a n cap, .int .i64 (posI R o), .slice (some ⟨w.heap.size, 0, none⟩) 1 1] (w.alloc (.cells #[.string b1] 9)) fun e w' => e = .returned (.int .i64 (posI R (wantO [s1] o))) ∧ Below w.heap.size w w' := by
  subst h1
  have b0 : Below w.heap.size w (w.alloc (.cells #[.string b1] 9)) := (Below.refl _ _).alloc (Nat.le_refl _) _
  exact (rwant_any a n cap R [b1] w.heap.size _ (hB.later b0) h9 o ho (Has.new w [.string b1] _) (by simp)).mono fun e w' h => ⟨h.1, b0.trans (h.2.mono b0.size)⟩
theorem rwant_2s {a : Option Addr} {n cap : Nat} {R : List UInt8} {o : Option (List UInt8)} (b1 b2 : ByteArray) (s1 s2 : List UInt8) (h1 : b1.data.toList = s1) (h2 : b2.data.toList = s2) (w : World) (hB : IsB w a n cap R) (h9 : R.length ≤ 1000000) (ho : At R o) :
    Calls Try.prog 22 #[.slice a n cap, .int .i64 (posI R o), .slice (some ⟨w.heap.size, 0, none⟩) 2 2] (w.alloc (.cells #[.string b1, .string b2] 9)) fun e w' => e = .returned (.int .i64 (posI R (wantO [s1, s2] o))) ∧ Below w.heap.size w w' := by
  subst h1 h2
  have b0 : Below w.heap.size w (w.alloc (.cells #[.string b1, .string b2] 9)) := (Below.refl _ _).alloc (Nat.le_refl _) _
  exact (rwant_any a n cap R [b1, b2] w.heap.size _ (hB.later b0) h9 o ho (Has.new w [.string b1, .string b2] _) (by simp)).mono fun e w' h => ⟨h.1, b0.trans (h.2.mono b0.size)⟩
theorem rwant_3s {a : Option Addr} {n cap : Nat} {R : List UInt8} {o : Option (List UInt8)} (b1 b2 b3 : ByteArray) (s1 s2 s3 : List UInt8) (h1 : b1.data.toList = s1) (h2 : b2.data.toList = s2) (h3 : b3.data.toList = s3) (w : World) (hB : IsB w a n cap R) (h9 : R.length ≤ 1000000) (ho : At R o) :
    Calls Try.prog 22 #[.slice a n cap, .int .i64 (posI R o), .slice (some ⟨w.heap.size, 0, none⟩) 3 3] (w.alloc (.cells #[.string b1, .string b2, .string b3] 9)) fun e w' => e = .returned (.int .i64 (posI R (wantO [s1, s2, s3] o))) ∧ Below w.heap.size w w' := by
  subst h1 h2 h3
  have b0 : Below w.heap.size w (w.alloc (.cells #[.string b1, .string b2, .string b3] 9)) := (Below.refl _ _).alloc (Nat.le_refl _) _
  exact (rwant_any a n cap R [b1, b2, b3] w.heap.size _ (hB.later b0) h9 o ho (Has.new w [.string b1, .string b2, .string b3] _) (by simp)).mono fun e w' h => ⟨h.1, b0.trans (h.2.mono b0.size)⟩

theorem results_cell_tmp {P : Program} {fn : Func} {p u : Tmp} {ty : TypeId} (h : fn.results = #[.cell p ty, .tmp u]) (tmps : Array Value) (w : World) (g : Nat) (t : TypeId) (cs : Array Value) (fr : Nat × Nat) (d : TypeDesc)
    (hp : tmps.getD p undef = .pointer (some ⟨g, 0, none⟩)) (hg : w.heap[g]? = some (.cells cs t fr))
    (hu : P.underlying ty = some d) (hd : (match d with | .struct _ | .array _ _ => true | _ => false) = true) (hi : (P.info? ty).map (·.size) = some cs.size) :
    (results fn tmps).run P w = .ok (.tuple #[.agg cs, tmps.getD u undef]) w := by
  have hp' : tmps[p]?.getD undef = .pointer (some ⟨g, 0, none⟩) := by simpa using hp
  simp [results, h, hp', asAddr, run_loadVar_row w g t ty cs fr d hg hu hd hi]

end Go.Proofs.Ythjihibocobndaa
