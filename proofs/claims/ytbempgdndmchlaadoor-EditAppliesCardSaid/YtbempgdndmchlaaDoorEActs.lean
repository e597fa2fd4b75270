/-
  What is done at a spot: the closures of mkdir, put, drop. Conditions: the spot reads as a tree in rows of its own, within the limits.
-/
import Derived.Test.YtbempgdndmchlaaDoorEStep
namespace Go.Proofs.YtbempgdndmchlaaDoor
open Go.RowKit
set_option linter.unusedVariables false

theorem mt_shape {w : World} {B : Nat} {cs : List Value} {t : T} {S : List Nat} (h : MT w B cs t S) : ∃ (tk0 : UInt8) (tx0 : Bool) (a1 : Option Addr) (n1 m1 : Nat) (a2 : Option Addr) (n2 m2 : Nat) (a3 : Option Addr) (n3 m3 : Nat), cs = [.int .u8 (tk0.toNat : Int), .bool tx0, .slice a1 n1 m1, .slice a2 n2 m2, .slice a3 n3 m3] := by
  cases h with
  | @mk k x d ns ks vd vn vk L Ss hd hn hk hs hnd =>
    obtain ⟨a1, n1, m1, rfl⟩ := slice_owned hd
    obtain ⟨a2, n2, m2, rfl⟩ := slice_owned hn
    obtain ⟨a3, n3, m3, rfl⟩ := slice_owned hk
    exact ⟨_, _, _, _, _, _, _, _, _, _, _, rfl⟩
theorem row_one {L : List Value} {n : Nat} (hL : L.length = n * 5) (h : ∀ i, i < n → ∀ u ∈ five L i, u.oneCell' = true) : ∀ u ∈ L, u.oneCell' = true := fun u hu => by
  obtain ⟨m, hm, rfl⟩ := List.mem_iff_getElem.1 hu
  refine h (m / 5) (by omega) _ (List.mem_iff_getElem?.2 ⟨m % 5, ?_⟩)
  rw [five_get (m % 5) (by omega), show m / 5 * 5 + m % 5 = m by omega, List.getElem?_eq_getElem hm]
theorem five_of {R : List Value} (h : R.length = 5) : ∃ c0 c1 c2 c3 c4, R = [c0, c1, c2, c3, c4] := five_list h

theorem emptyDir_mt (w : World) (B : Nat) : MT w B [.int .u8 3, .bool false, .slice none 0 0, .slice none 0 0, .slice none 0 0] emptyDir [] :=
  MT.mk (k := 3) (x := false) (d := []) (ns := []) (ks := []) (L := []) (Ss := fun _ => []) (World.ownsRow_nil _ _ _ _) (World.ownsRow_nil _ _ _ _) (World.ownsRow_nil _ _ _ _) (fun i hi => by simp at hi) (by simp [blk, Value.ownBlock])
theorem emptyDir_size : sizeT emptyDir = some (1, 0) ∧ sizeN emptyDir = 1 ∧ bytesT emptyDir = 0 ∧ heightT emptyDir = 0 := ⟨by decide +kernel, by unfold emptyDir; rw [sizeN_mk]; rfl, by unfold emptyDir; rw [bytesT_mk]; rfl, by unfold emptyDir; rw [heightT_mk, heightL_nil]⟩

/-- The footprint of a spot holds no bytes. -/
theorem ws_foot {w : World} {B p db o a b : Nat} {X cs : List Value} {ty : TypeId} {R : List Value} {k : UInt8} {x : Bool} {d : List UInt8} {ns : List ByteArray} {ks : List T} {S : List Nat} {vn vk : Value} {L : List Value} (h : WS w B p db o X cs ty R a b (.mk k x d ns ks) S)
    (hn : w.ownsRow B 9 1 vn ns.length (ns.map Value.string)) (hk : w.ownsRow B 26 5 vk ks.length L) : Rows w (p :: db :: (blk vn ++ blk vk)) :=
  Rows.cons h.hR (by decide) (Rows.cons h.hX (by
    rcases h.hp with ⟨_, e, _⟩ | ⟨_, e⟩
    · rw [e]; decide
    · rw [e]; decide) ((Rows.of_owns hn (by decide)).append (Rows.of_owns hk (by decide))))

/-- What lay tells. -/
def layC (a b dep xx yy : Nat) (tt : T) : Nat := if 4096 < a + xx ∨ 65536 < b + yy ∨ 16 < dep + heightT tt then 2 else 0

/-- lay, at a spot. -/
theorem lay_s {w : World} {B p db o a b i dep : Nat} {X cs ct : List Value} {ty : TypeId} {R : List Value} {k : UInt8} {x : Bool} {d : List UInt8} {ns : List ByteArray} {ks : List T} {S Sx : List Nat} {nm : ByteArray} {xx yy : Nat} {tt : T} {tk : Bool}
    (h : WS w B p db o X cs ty R a b (.mk k x d ns ks) S) (hl : ns.length = ks.length) (hks : ks.length ≤ 100000) (hi : i ≤ ks.length) (hB : B ≤ w.heap.size) (hm : MT w B ct tt Sx) (hSx : ∀ g ∈ Sx, g ∉ S ∧ g ≠ db ∧ g ≠ p)
    (hsm : Small tt) (hz : sizeT tt = some (xx, yy)) (hN : sizeN tt ≤ 1000000) (ha : a ≤ 1000000) (hb : b ≤ 1000000) (hdep : dep ≤ 1000000) :
    Calls Tryd.prog 43 #[.pointer (some ⟨p, 0, none⟩), .agg (spC db o nm i dep tk).toArray, .agg ct.toArray] w fun e w' =>
      e = .returned (.int .i64 (layC a b dep xx yy tt : Int)) ∧ Fr (p :: db :: S) w w' ∧ ∀ gt, WQ w B p db o X ty R S Sx none gt (insT (.mk k x d ns ks) i nm tt) (a + xx) (b + yy) w' := by
  obtain ⟨vd, vn, vk, L, Ss, hcs, hS, hd, hn, hk, hs, hnd⟩ := mt_inv h.mt
  obtain ⟨c0, c1, c2, c3, c4, rfl⟩ := five_of h.r5
  have hX3 : X[o + 3]? = some vn := by rw [h.hc 3 (by omega), hcs]; rfl
  have hX4 : X[o + 4]? = some vk := by rw [h.hc 4 (by omega), hcs]; rfl
  have hnS : ∀ g ∈ blk vn, g ∈ S := fun g hg => by rw [hS]; exact mem_S.2 (.inl hg)
  have hkS : ∀ g ∈ blk vk, g ∈ S := fun g hg => by rw [hS]; exact mem_S.2 (.inr (.inl hg))
  have hFr := ws_foot h hn hk
  have hT : ∀ W, Fr (p :: db :: (blk vn ++ blk vk)) w W → IsT W (sizeN tt) ct tt := fun W hf => (hm.frame hf hFr (fun g hg hm' => by
    obtain ⟨q1, q2, q3⟩ := hSx g hg
    simp only [List.mem_cons, List.mem_append] at hm'
    rcases hm' with e | e | e | e
    · exact q3 e
    · exact q2 e
    · exact q1 (hnS g e)
    · exact q1 (hkS g e))).isT _ (Nat.le_refl _) hsm
  rw [← hl] at hk
  refine (lay_w (q := 0) (B := B) (X := X) (L := L) (ty := ty) (c0 := c0) (c1 := c1) (c2 := c2) (c3 := c3) (c4 := c4) (lv := sizeN tt) h.hX hX3 hX4 hn hk hB (by omega) (by omega) (fun e => h.ndb (hnS db (mem_blk.2 e))) (fun e => h.ndb (hkS db (mem_blk.2 e))) (mt_shape hm) hm.one
    (row_one (n := ks.length) (by rw [hk.1, hl]) (fun j hj u hu => (hs j hj).one u hu)) ?_ hT hz hN ha hb hdep).mono ?_
  · rcases h.hp with ⟨e1, e2, e3, e4, e5⟩ | ⟨e1, e2⟩
    · rw [hcs] at e5
      simp only [List.cons.injEq, and_true] at e5
      obtain ⟨rfl, rfl, rfl, rfl, rfl⟩ := e5
      exact .inl ⟨e1, e2, e3, e4⟩
    · exact .inr ⟨e1, h.hR⟩
  · intro e w' hP
    rw [hl] at hk
    obtain ⟨h1, h2, h3⟩ := ws_lay h hcs hS hd hn hk hs hl hi hm hSx hP
    refine ⟨?_, h2, h3⟩
    rw [h1]
    unfold layC
    by_cases hc : 4096 < a + xx ∨ 65536 < b + yy ∨ 16 < dep + heightT tt
    · rw [if_pos hc, if_pos hc]; rfl
    · rw [if_neg hc, if_neg hc]; rfl

/-- take, at a spot. -/
theorem take_s {w : World} {B p db o a b i dep : Nat} {X cs : List Value} {ty : TypeId} {R : List Value} {k : UInt8} {x : Bool} {d : List UInt8} {ns : List ByteArray} {ks : List T} {S : List Nat} {nm : ByteArray} {tk : Bool}
    (h : WS w B p db o X cs ty R a b (.mk k x d ns ks) S) (hl : ns.length = ks.length) (hks : ks.length ≤ 100000) (hi : i < ks.length) (hsm : Small (ks.getD i default)) (hz : sizeT (ks.getD i default) = some (sizeN (ks.getD i default), bytesT (ks.getD i default)))
    (ha : a ≤ 1000000) (hb : b ≤ 1000000) (hxa : sizeN (ks.getD i default) ≤ a) (hyb : bytesT (ks.getD i default) ≤ b) :
    Calls Tryd.prog 45 #[.pointer (some ⟨p, 0, none⟩), .agg (spC db o nm i dep tk).toArray] w fun e w' =>
      ∃ gcs Sg, e = .returned (.agg gcs.toArray) ∧ Fr (p :: db :: S) w w' ∧ ∃ X' cs' R' S', WS w' B p db o X' cs' ty R' (a - sizeN (ks.getD i default)) (b - bytesT (ks.getD i default)) (delT (.mk k x d ns ks) i) S' ∧ X'.length = X.length ∧ (∀ j, j ≠ o + 3 → j ≠ o + 4 → p ≠ db → X'[j]? = X[j]?) ∧ (p ≠ db → R' = R) ∧
        (∀ g ∈ S', g ∈ S) ∧ MT w' B gcs (ks.getD i default) Sg ∧ (∀ g ∈ Sg, g ∈ S ∧ g ∉ S') := by
  obtain ⟨vd, vn, vk, L, Ss, hcs, hS, hd, hn, hk, hs, hnd⟩ := mt_inv h.mt
  obtain ⟨c0, c1, c2, c3, c4, rfl⟩ := five_of h.r5
  have hX3 : X[o + 3]? = some vn := by rw [h.hc 3 (by omega), hcs]; rfl
  have hX4 : X[o + 4]? = some vk := by rw [h.hc 4 (by omega), hcs]; rfl
  have hnd2 : (blk vn ++ blk vk ++ (List.range ks.length).flatMap Ss).Nodup := hnd
  have hnd3 := nd_iff.1 hnd2
  have hnS : ∀ g ∈ blk vn, g ∈ S := fun g hg => by rw [hS]; exact mem_S.2 (.inl hg)
  have hkS : ∀ g ∈ blk vk, g ∈ S := fun g hg => by rw [hS]; exact mem_S.2 (.inr (.inl hg))
  have hsS : ∀ g ∈ Ss i, g ∈ S := fun g hg => by rw [hS]; exact mem_S.2 (.inr (.inr ⟨i, hi, hg⟩))
  have hFr := ws_foot h hn hk
  have hT : ∀ W, Fr (p :: db :: (blk vn ++ blk vk)) w W → IsT W (sizeN (ks.getD i default)) (five L i) (ks.getD i default) := fun W hf => ((hs i hi).frame hf hFr (fun g hg hm' => by
    simp only [List.mem_cons, List.mem_append] at hm'
    rcases hm' with e | e | e | e
    · exact h.np (e ▸ hsS g hg)
    · exact h.ndb (e ▸ hsS g hg)
    · exact (hnd3.1 g e).2 i hi hg
    · exact hnd3.2.1 g e i hi hg)).isT _ (Nat.le_refl _) hsm
  rw [← hl] at hk
  refine (take_w (B := B) (X := X) (L := L) (ty := ty) (c0 := c0) (c1 := c1) (c2 := c2) (c3 := c3) (c4 := c4) (lv := sizeN (ks.getD i default)) (tt := ks.getD i default) h.hX hX3 hX4 hn hk (by omega) (by omega) (fun e => h.ndb (hnS db (mem_blk.2 e))) (fun e => h.ndb (hkS db (mem_blk.2 e)))
    (row_one (n := ks.length) (by rw [hk.1, hl]) (fun j hj u hu => (hs j hj).one u hu)) ?_ hT hz ha hb).mono ?_
  · rcases h.hp with ⟨e1, e2, e3, e4, e5⟩ | ⟨e1, e2⟩
    · rw [hcs] at e5
      simp only [List.cons.injEq, and_true] at e5
      obtain ⟨rfl, rfl, rfl, rfl, rfl⟩ := e5
      exact .inl ⟨e1, e2, e3, e4⟩
    · exact .inr ⟨e1, h.hR⟩
  · intro e w' hP
    rw [hl] at hk
    obtain ⟨h1, h2, X', cs', R', S', h3⟩ := ws_take h hcs hS hd hn hk hs hl hi hxa hyb hP
    exact ⟨_, Ss i, h1, h2, X', cs', R', S', h3⟩

theorem WQ.frame {w w' w'' : World} {B p db o : Nat} {X : List Value} {ty : TypeId} {R : List Value} {S Sx : List Nat} {q : Option Nat} {gt t' : T} {a' b' : Nat} (hb : Below w.heap.size w w') (h : WQ w' B p db o X ty R S Sx q gt t' a' b' w'') : WQ w B p db o X ty R S Sx q gt t' a' b' w'' := by
  obtain ⟨X', cs', R', S', h1, h2, h3, h4, h5, h6⟩ := h
  refine ⟨X', cs', R', S', h1, h2, h3, h4, fun g hg => ?_, h6⟩
  rcases h5 g hg with h | h | h
  · exact .inl h
  · exact .inr (.inl h)
  · exact .inr (.inr (Nat.le_trans hb.size h))

theorem foot_more {p db g : Nat} {S Z : List Nat} (hg : g ∈ p :: db :: S) : g ∈ p :: db :: (S ++ Z) := by
  rcases List.mem_cons.1 hg with h1 | h1
  · exact List.mem_cons.2 (.inl h1)
  · rcases List.mem_cons.1 h1 with h2 | h2
    · exact List.mem_cons.2 (.inr (List.mem_cons.2 (.inl h2)))
    · exact List.mem_cons.2 (.inr (List.mem_cons.2 (.inr (List.mem_append_left _ h2))))
theorem foot_sub {p db g : Nat} {S S' : List Nat} (h : ∀ g ∈ S', g ∈ S) (hg : g ∈ p :: db :: S') : g ∈ p :: db :: S := by
  rcases List.mem_cons.1 hg with h1 | h1
  · exact List.mem_cons.2 (.inl h1)
  · rcases List.mem_cons.1 h1 with h2 | h2
    · exact List.mem_cons.2 (.inr (List.mem_cons.2 (.inl h2)))
    · exact List.mem_cons.2 (.inr (List.mem_cons.2 (.inr (h g h2))))

set_option maxRecDepth 100000 in
set_option maxHeartbeats 4000000 in
/-- A new directory at a spot. -/
theorem mkdir_act {w : World} {B p db o a b dep bw : Nat} {X cs : List Value} {ty : TypeId} {R : List Value} {k : UInt8} {x : Bool} {d : List UInt8} {ns : List ByteArray} {ks : List T} {S Z : List Nat} {nm : ByteArray} {gt : T}
    (hE : Has w bw [.pointer (some ⟨p, 0, none⟩)] 47) (h : WS w B p db o X cs ty R a b (.mk k x d ns ks) S) (hB : B ≤ w.heap.size) (hlim : Lim (.mk k x d ns ks) dep a b) :
    Calls Tryd.prog 42 #[.agg (spC db o nm (plc ns nm) dep (tkn ns nm)).toArray, .pointer (some ⟨bw, 0, none⟩)] w (WP w B p db o X ty R S Z [] none gt (actE .mk nm dep (.mk k x d ns ks) a b)) := by
  obtain ⟨i, hi⟩ : ∃ i, i = plc ns nm := ⟨_, rfl⟩
  obtain ⟨tk, htk⟩ : ∃ tk, tk = tkn ns nm := ⟨_, rfl⟩
  rw [← hi, ← htk]
  have hin : i ≤ ks.length := by rw [hi, ← hlim.lens]; exact plc_le _ _
  have hact : (tk = false → actE .mk nm dep (.mk k x d ns ks) a b = (layC a b dep 1 0 emptyDir, insT (.mk k x d ns ks) i nm emptyDir, a + 1, b + 0)) ∧ (tk = true → actE .mk nm dep (.mk k x d ns ks) a b = (7, .mk k x d ns ks, a, b)) := by
    constructor
    · intro e
      rw [e] at htk
      unfold actE
      show (if tkn ns nm = true then _ else _) = _
      rw [← htk, if_neg (by decide), hi]
      unfold layE layC
      rw [emptyDir_size.2.1, emptyDir_size.2.2.1]
      rfl
    · intro e
      rw [e] at htk
      unfold actE
      show (if tkn ns nm = true then _ else _) = _
      rw [← htk, if_pos rfl]
  have hks : ks.length ≤ 100000 := by have h1 := hlim.small.2.1; have h2 := sizeNL_len ks; rw [sizeN_mk] at h1; omega
  have hab : a ≤ 1000000 ∧ b ≤ 1000000 ∧ dep ≤ 1000000 := by obtain ⟨_, _, h3, _, h5, _, h7⟩ := hlim; omega
  have HE := Lib.hid hE
  have HW := Lib.hid h
  have HB := Lib.hid hB
  have HI := Lib.hid hin
  have HA := Lib.hid hact
  have HK := Lib.hid hks
  have HAB := Lib.hid hab
  have HL := Lib.hid hlim.lens
  have HDL : Hid (Has (w.alloc (.cells (spC db o nm i dep tk).toArray 82)) bw [.pointer (some ⟨p, 0, none⟩)] 47) := Lib.hid (hE.alloc _)
  clear hE h hB hlim hact hks hab hi htk hin
  cases tk
  · go_enter Tryd.func42, Tryd.ntmps42
    go_upto_region 1 with fail
    obtain ⟨w1, hw1⟩ : ∃ w1, w1 = w.alloc (.cells (spC db o nm i dep false).toArray 82) := ⟨_, rfl⟩
    have b1 : Below w.heap.size w w1 := by rw [hw1]; exact (Below.refl _ _).alloc (Nat.le_refl _) _
    have gg1 : Has w1 w.heap.size (spC db o nm i dep false) 82 := by rw [hw1]; exact Has.new w (spC db o nm i dep false) _
    have g1 : Hid (w1.heap[w.heap.size]? = some (.cells (spC db o nm i dep false).toArray 82 (0, 0))) := Lib.hid gg1
    have hq4 := Has.cellAt gg1 (i := 4) rfl
    have hbw := Has.cellAt (show Has w1 bw _ _ by rw [hw1]; exact HDL.out) (i := 0) rfl
    clear gg1
    first | rw [← hw1] | skip
    have WS1 := Lib.hid (HW.out.later b1)
    have B1 := Lib.hid b1
    have hS5 : Hid ((Tryd.prog.info? 82).map (·.size) = some (spC db o nm i dep false).toArray.size) := Lib.hid (by kernel_rfl)
    clear hw1 b1
    go_wp2_with (refine wpList_load_row rfl 82 _ rfl w.heap.size rfl 82 (spC db o nm i dep false).toArray (0, 0) _ g1.out Tryd.underlying82 rfl hS5.out ?_)
    refine (lay_s (tk := false) WS1.out HL.out HK.out HI.out (Nat.le_trans HB.out B1.out.size) (emptyDir_mt _ _) (fun g hg => by cases hg) (small_of 1 emptyDir (by rw [emptyDir_size.2.1]; omega) (by unfold emptyDir; rw [fmA_mk]; exact ⟨by decide +kernel, trivial⟩) (by rw [emptyDir_size.2.2.1]; omega) (by rw [emptyDir_size.2.1]; omega)) emptyDir_size.1 (by rw [emptyDir_size.2.1]; omega) HAB.out.1 HAB.out.2.1 HAB.out.2.2).mono ?_
    rintro e w2 ⟨rfl, hf, hq⟩
    have ha := HA.out.1 (by first | trivial | rfl)
    obtain ⟨C, hC⟩ : ∃ C, C = layC a b dep 1 0 emptyDir := ⟨_, rfl⟩
    rw [← hC] at ha ⊢
    have HA' := Lib.hid ha
    clear hC ha
    have HQ := Lib.hid hq
    have HF := Lib.hid hf
    clear hq hf hbw hq4
    go_wp2_with fail
    go_ret
    rw [HA'.out]
    have hfr : Fr (p :: db :: S) w w2 := ((Fr.of_below (S := []) B1.out).mono (fun g hg _ => by cases hg)).trans HF.out (fun g hg _ => hg)
    exact ⟨rfl, hfr.mono (fun g hg _ => foot_more hg), fun _ => hfr, fun _ => (HQ.out gt).frame B1.out⟩
  · go_enter Tryd.func42, Tryd.ntmps42
    go_upto_region 1 with fail
    have hq4 := Has.cellAt (Has.new w (spC db o nm i dep true) 82) (i := 4) rfl
    go_wp2_with fail
    go_ret
    rw [HA.out.2 (by first | trivial | rfl)]
    exact ⟨rfl, (Fr.of_below (S := []) ((Below.refl _ _).alloc (Nat.le_refl _) _)).mono (fun g hg _ => by cases hg), fun _ => (Fr.of_below (S := []) ((Below.refl _ _).alloc (Nat.le_refl _) _)).mono (fun g hg _ => by cases hg), fun h => by simp at h⟩

set_option maxRecDepth 100000 in
set_option maxHeartbeats 8000000 in
/-- A tree that is put at a spot. -/
theorem put_act {w : World} {B p db o a b dep bw bt : Nat} {X cs ct : List Value} {ty : TypeId} {R : List Value} {k : UInt8} {x : Bool} {d : List UInt8} {ns : List ByteArray} {ks : List T} {S Sx Z : List Nat} {nm : ByteArray} {gt tt : T}
    (hE : Has w bw [.pointer (some ⟨p, 0, none⟩)] 47) (hT : Has w bt ct 26) (hm : MT w B ct tt Sx) (hSx : ∀ g ∈ Sx, g ∉ S ∧ g ≠ db ∧ g ≠ p) (hbw : bw ∉ S ∧ bw ≠ db ∧ bw ≠ p) (hbt : bt ∉ S ∧ bt ≠ db ∧ bt ≠ p)
    (hsm : Small tt) (hz : sizeT tt = some (sizeN tt, bytesT tt)) (hN : sizeN tt ≤ 1000000) (h : WS w B p db o X cs ty R a b (.mk k x d ns ks) S) (hB : B ≤ w.heap.size) (hlim : Lim (.mk k x d ns ks) dep a b) :
    Calls Tryd.prog 44 #[.agg (spC db o nm (plc ns nm) dep (tkn ns nm)).toArray, .pointer (some ⟨bw, 0, none⟩), .pointer (some ⟨bt, 0, none⟩)] w (WP w B p db o X ty R S Z Sx none gt (actE (.put tt) nm dep (.mk k x d ns ks) a b)) := by
  obtain ⟨i, hi⟩ : ∃ i, i = plc ns nm := ⟨_, rfl⟩
  obtain ⟨tk, htk⟩ : ∃ tk, tk = tkn ns nm := ⟨_, rfl⟩
  rw [← hi, ← htk]
  have hin : i ≤ ks.length := by rw [hi, ← hlim.lens]; exact plc_le _ _
  have hilt : tk = true → i < ks.length := fun e => by rw [hi, ← hlim.lens]; exact (tkn_spec (htk ▸ e)).1
  obtain ⟨kd, hkd⟩ : ∃ kd, kd = ks.getD i default := ⟨_, rfl⟩
  have hact : (tk = false → actE (.put tt) nm dep (.mk k x d ns ks) a b = (layC a b dep (sizeN tt) (bytesT tt) tt, insT (.mk k x d ns ks) i nm tt, a + sizeN tt, b + bytesT tt)) ∧
      (tk = true → actE (.put tt) nm dep (.mk k x d ns ks) a b = (layC (a - sizeN kd) (b - bytesT kd) dep (sizeN tt) (bytesT tt) tt, insT (delT (.mk k x d ns ks) i) i nm tt, a - sizeN kd + sizeN tt, b - bytesT kd + bytesT tt)) := by
    constructor
    · intro e
      rw [e] at htk
      unfold actE
      show (if tkn ns nm = true then _ else _) = _
      rw [← htk, if_neg (by decide), hi]
      rfl
    · intro e
      rw [e] at htk
      unfold actE
      show (if tkn ns nm = true then _ else _) = _
      rw [← htk, if_pos rfl, hkd, hi]
      rfl
  have hks : ks.length ≤ 100000 := by have h1 := hlim.small.2.1; have h2 := sizeNL_len ks; rw [sizeN_mk] at h1; omega
  have hab : a ≤ 1000000 ∧ b ≤ 1000000 ∧ dep ≤ 1000000 := by obtain ⟨_, _, h3, _, h5, _, h7⟩ := hlim; omega
  have hkid : tk = true → Small kd ∧ sizeT kd = some (sizeN kd, bytesT kd) ∧ sizeN kd ≤ a ∧ bytesT kd ≤ b := fun e => by
    have hq := hlim.kid (hilt e)
    rw [← hkd] at hq
    exact ⟨hq.small.1, hq.size, hq.2.2.2.1, hq.2.2.2.2.2.1⟩
  have HE := Lib.hid hE
  have HT := Lib.hid hT
  have HM := Lib.hid hm
  have HSX := Lib.hid hSx
  have HBW := Lib.hid hbw
  have HBT := Lib.hid hbt
  have HSM := Lib.hid hsm
  have HZ := Lib.hid hz
  have HNN := Lib.hid hN
  have HW := Lib.hid h
  have HB := Lib.hid hB
  have HI := Lib.hid hin
  have HIL := Lib.hid hilt
  have HKD := Lib.hid hkid
  have HKE := Lib.hid hkd
  have HA := Lib.hid hact
  have HK := Lib.hid hks
  have HAB := Lib.hid hab
  have HL := Lib.hid hlim.lens
  have hS5 : Hid ((Tryd.prog.info? 82).map (·.size) = some (spC db o nm i dep tk).toArray.size) := Lib.hid (by show _ = some 5; kernel_rfl)
  have hT5 : Hid ((Tryd.prog.info? 26).map (·.size) = some ct.toArray.size) := Lib.hid (infoL hm.five)
  clear hE hT hm hSx hbw hbt hsm hz hN h hB hlim hact hks hab hi htk hin hilt hkid hkd
  go_enter Tryd.func44, Tryd.ntmps44
  go_upto_region 1 with fail
  obtain ⟨w1, hw1⟩ : ∃ w1, w1 = w.alloc (.cells (spC db o nm i dep tk).toArray 82) := ⟨_, rfl⟩
  have b1 : Below w.heap.size w w1 := by rw [hw1]; exact (Below.refl _ _).alloc (Nat.le_refl _) _
  have gg1 : Has w1 w.heap.size (spC db o nm i dep tk) 82 := by rw [hw1]; exact Has.new w (spC db o nm i dep tk) _
  have e1 : Has w1 bw [.pointer (some ⟨p, 0, none⟩)] 47 := by rw [hw1]; exact HE.out.alloc _
  have t1 : Has w1 bt ct 26 := by rw [hw1]; exact HT.out.alloc _
  first | rw [← hw1] | skip
  have G1 := Lib.hid gg1
  have E1 := Lib.hid e1
  have T1 := Lib.hid t1
  have B1 := Lib.hid b1
  have W1 := Lib.hid (HW.out.later b1)
  have M1 := Lib.hid (HM.out.later b1)
  have SZ1 : Hid (w.heap.size < w1.heap.size) := Lib.hid gg1.lt
  have FB1 : Hid (Fr (p :: db :: S) w w1) := Lib.hid ((Fr.of_below (S := []) b1).mono (fun g hg _ => by cases hg))
  have G1r : Hid (w1.heap[w.heap.size]? = some (.cells (spC db o nm i dep tk).toArray 82 (0, 0))) := Lib.hid gg1
  have T1r : Hid (w1.heap[bt]? = some (.cells ct.toArray 26 (0, 0))) := Lib.hid t1
  have hq4 := Has.cellAt gg1 (i := 4) rfl
  have hbw := Has.cellAt e1 (i := 0) rfl
  clear hw1 gg1 e1 t1 b1
  cases tk
  · go_wp2_with (first
      | refine wpList_load_row rfl 82 _ rfl w.heap.size rfl 82 (spC db o nm i dep false).toArray (0, 0) _ G1r.out Tryd.underlying82 rfl hS5.out ?_
      | refine wpList_load_row rfl 26 _ rfl bt rfl 26 ct.toArray (0, 0) _ T1r.out Tryd.underlying26 rfl hT5.out ?_)
    refine (lay_s (tk := false) W1.out HL.out HK.out HI.out (Nat.le_trans HB.out B1.out.size) M1.out HSX.out HSM.out HZ.out HNN.out HAB.out.1 HAB.out.2.1 HAB.out.2.2).mono ?_
    rintro e w2 ⟨rfl, hf, hq⟩
    have ha := HA.out.1 (by first | trivial | rfl)
    obtain ⟨C, hC⟩ : ∃ C, C = layC a b dep (sizeN tt) (bytesT tt) tt := ⟨_, rfl⟩
    rw [← hC] at ha ⊢
    have HA' := Lib.hid ha
    clear hC ha
    have HQ := Lib.hid hq
    have HF := Lib.hid hf
    clear hq hf hbw hq4
    go_wp2_with fail
    go_ret
    rw [HA'.out]
    exact ⟨rfl, (FB1.out.trans HF.out (fun g hg _ => hg)).mono (fun g hg _ => foot_more hg), fun _ => FB1.out.trans HF.out (fun g hg _ => hg), fun _ => (HQ.out gt).frame B1.out⟩
  · go_wp2_with (refine wpList_load_row rfl 82 _ rfl w.heap.size rfl 82 (spC db o nm i dep true).toArray (0, 0) _ G1r.out Tryd.underlying82 rfl hS5.out ?_)
    have hkd := HKD.out (by first | trivial | rfl)
    have hil := HIL.out (by first | trivial | rfl)
    rw [HKE.out] at hkd
    refine (take_s (tk := true) (nm := nm) W1.out HL.out HK.out hil hkd.1 hkd.2.1 HAB.out.1 HAB.out.2.1 hkd.2.2.1 hkd.2.2.2).mono ?_
    rintro e w2 ⟨gcs, Sg, rfl, hf, X', cs', R', S', hw2, hxl, hxe, hr, hsub, hgm, hgs⟩
    rw [← HKE.out] at hw2
    have ha := HA.out.2 (by first | trivial | rfl)
    obtain ⟨C, hC⟩ : ∃ C, C = layC (a - sizeN kd) (b - bytesT kd) dep (sizeN tt) (bytesT tt) tt := ⟨_, rfl⟩
    have HC := Lib.hid hC
    rw [← hC] at ha
    have HA' := Lib.hid ha
    have W2 := Lib.hid hw2
    have HR := Lib.hid hr
    have HXL := Lib.hid hxl
    have HXE := Lib.hid hxe
    have HSUB := Lib.hid hsub
    have F2 := Lib.hid hf
    have HIL2 := Lib.hid hil
    have hfr := W1.out.rows
    have hbo := HBW.out
    have hto := HBT.out
    have hnb : ∀ g, (g ∉ S ∧ g ≠ db ∧ g ≠ p) → g ∉ (p :: db :: S) := fun g hg hm => by
      simp only [List.mem_cons] at hm
      rcases hm with e | e | e
      · exact hg.2.2 e
      · exact hg.2.1 e
      · exact hg.1 e
    have e2 : Has w2 bw [.pointer (some ⟨p, 0, none⟩)] 47 := has_fr E1.out hf (hnb bw hbo)
    have t2 : Hid (w2.heap[bt]? = some (.cells ct.toArray 26 (0, 0))) := Lib.hid (has_fr T1.out hf (hnb bt hto))
    have M2 := Lib.hid (M1.out.frame hf hfr (fun g hg => hnb g (HSX.out g hg)))
    have hns : w.heap.size ∉ (p :: db :: S) := fun hm => by
      simp only [List.mem_cons] at hm
      rcases hm with e | e | e
      · have := HW.out.hR.lt; omega
      · have := HW.out.hX.lt; omega
      · have := HW.out.mt.lt e; omega
    have g2 : Hid (w2.heap[w.heap.size]? = some (.cells (spC db o nm i dep true).toArray 82 (0, 0))) := Lib.hid (has_fr G1.out hf hns)
    have hbw2 := Has.cellAt e2 (i := 0) rfl
    have HL2 : Hid ((ns.take i ++ ns.drop (i + 1)).length = (ks.take i ++ ks.drop (i + 1)).length ∧ (ks.take i ++ ks.drop (i + 1)).length ≤ 100000 ∧ i ≤ (ks.take i ++ ks.drop (i + 1)).length) := Lib.hid (by
      have q1 := HL.out
      have q2 := HK.out
      simp only [List.length_append, List.length_take, List.length_drop]
      omega)
    have SX2 : Hid (∀ g ∈ Sx, g ∉ S' ∧ g ≠ db ∧ g ≠ p) := Lib.hid (fun g hg => ⟨fun hm => (HSX.out g hg).1 (hsub g hm), (HSX.out g hg).2⟩)
    clear hC ha hw2 hr hxl hxe hsub hf hil hfr hbo hto hnb e2 hns hgm hgs hbw hq4 hkd
    go_wp2_with (first
      | refine wpList_load_row rfl 82 _ rfl w.heap.size rfl 82 (spC db o nm i dep true).toArray (0, 0) _ g2.out Tryd.underlying82 rfl hS5.out ?_
      | refine wpList_load_row rfl 26 _ rfl bt rfl 26 ct.toArray (0, 0) _ t2.out Tryd.underlying26 rfl hT5.out ?_)
    refine (lay_s (tk := true) (show WS w2 B p db o X' cs' ty R' (a - sizeN kd) (b - bytesT kd) (.mk k x d (ns.take i ++ ns.drop (i + 1)) (ks.take i ++ ks.drop (i + 1))) S' from W2.out) HL2.out.1 HL2.out.2.1 HL2.out.2.2 (Nat.le_trans HB.out (Nat.le_trans B1.out.size F2.out.size)) M2.out SX2.out HSM.out HZ.out HNN.out (by have := HAB.out; omega) (by have := HAB.out; omega) HAB.out.2.2).mono ?_
    rintro e w3 ⟨rfl, hf3, hq3⟩
    rw [← HC.out]
    have HQ := Lib.hid hq3
    have HF := Lib.hid hf3
    clear hq3 hf3 hbw2
    go_wp2_with fail
    go_ret
    rw [HA'.out]
    refine ⟨rfl, ((FB1.out.trans F2.out (fun g hg _ => hg)).trans HF.out (fun g hg _ => foot_sub HSUB.out hg)).mono (fun g hg _ => foot_more hg), fun _ => (FB1.out.trans F2.out (fun g hg _ => hg)).trans HF.out (fun g hg _ => foot_sub HSUB.out hg), fun _ => ?_⟩
    obtain ⟨X3, cs3, R3, S3, k1, k2, k3, k4, k5, k6⟩ := HQ.out gt
    refine ⟨X3, cs3, R3, S3, k1, k2.trans HXL.out, fun j h3 h4 hne => (k3 j h3 h4 hne).trans (HXE.out j h3 h4 hne), fun hne => (k4 hne).trans (HR.out hne), fun g hg => ?_, Got.none _ _ _ _ _⟩
    rcases k5 g hg with h1 | h1 | h1
    · exact .inl (HSUB.out g h1)
    · exact .inr (.inl h1)
    · exact .inr (.inr (by have := F2.out.size; have := B1.out.size; omega))

set_option maxRecDepth 100000 in
set_option maxHeartbeats 8000000 in
/-- What stands at a spot is dropped. -/
theorem drop_act {w : World} {B p db o a b dep bw qb : Nat} {X cs qc : List Value} {ty : TypeId} {R : List Value} {k : UInt8} {x : Bool} {d : List UInt8} {ns : List ByteArray} {ks : List T} {S Z : List Nat} {nm : ByteArray}
    (hE : Has w bw [.pointer (some ⟨p, 0, none⟩)] 47) (hQ : Has w qb qc 26) (hq5 : qc.length = 5) (hqb : qb ∉ S ∧ qb ≠ db ∧ qb ≠ p) (hZ : qb ∈ Z)
    (h : WS w B p db o X cs ty R a b (.mk k x d ns ks) S) (hlim : Lim (.mk k x d ns ks) dep a b) :
    Calls Tryd.prog 47 #[.agg (spC db o nm (plc ns nm) dep (tkn ns nm)).toArray, .pointer (some ⟨bw, 0, none⟩), .pointer (some ⟨qb, 0, none⟩)] w (WP w B p db o X ty R S Z [] (some qb) (ks.getD (plc ns nm) default) (actE .drop nm dep (.mk k x d ns ks) a b)) := by
  obtain ⟨i, hi⟩ : ∃ i, i = plc ns nm := ⟨_, rfl⟩
  obtain ⟨tk, htk⟩ : ∃ tk, tk = tkn ns nm := ⟨_, rfl⟩
  rw [← hi, ← htk]
  have hilt : tk = true → i < ks.length := fun e => by rw [hi, ← hlim.lens]; exact (tkn_spec (htk ▸ e)).1
  obtain ⟨kd, hkd⟩ : ∃ kd, kd = ks.getD i default := ⟨_, rfl⟩
  have hact : (tk = false → actE .drop nm dep (.mk k x d ns ks) a b = (6, .mk k x d ns ks, a, b)) ∧
      (tk = true → actE .drop nm dep (.mk k x d ns ks) a b = (0, delT (.mk k x d ns ks) i, a - sizeN kd, b - bytesT kd)) := by
    constructor
    · intro e
      rw [e] at htk
      unfold actE
      show (if tkn ns nm = true then _ else _) = _
      rw [← htk, if_neg (by decide)]
    · intro e
      rw [e] at htk
      unfold actE
      show (if tkn ns nm = true then _ else _) = _
      rw [← htk, if_pos rfl, hkd, hi]
      rfl
  have hks : ks.length ≤ 100000 := by have h1 := hlim.small.2.1; have h2 := sizeNL_len ks; rw [sizeN_mk] at h1; omega
  have hab : a ≤ 1000000 ∧ b ≤ 1000000 := by obtain ⟨_, _, h3, _, h5, _, h7⟩ := hlim; omega
  have hkid : tk = true → Small kd ∧ sizeT kd = some (sizeN kd, bytesT kd) ∧ sizeN kd ≤ a ∧ bytesT kd ≤ b := fun e => by
    have hq := hlim.kid (hilt e)
    rw [← hkd] at hq
    exact ⟨hq.small.1, hq.size, hq.2.2.2.1, hq.2.2.2.2.2.1⟩
  have HE := Lib.hid hE
  have HQB := Lib.hid hqb
  have HQC := Lib.hid hQ
  have HQ5 := Lib.hid hq5
  have HZ := Lib.hid hZ
  have HW := Lib.hid h
  have HIL := Lib.hid hilt
  have HKD := Lib.hid hkid
  have HKE := Lib.hid hkd
  have HA := Lib.hid hact
  have HK := Lib.hid hks
  have HAB := Lib.hid hab
  have HL := Lib.hid hlim.lens
  have hS5 : Hid ((Tryd.prog.info? 82).map (·.size) = some (spC db o nm i dep tk).toArray.size) := Lib.hid (by show _ = some 5; kernel_rfl)
  clear hE hQ hq5 hqb hZ h hlim hact hks hab hi htk hilt hkid hkd
  go_enter Tryd.func47, Tryd.ntmps47
  go_upto_region 1 with fail
  obtain ⟨w1, hw1⟩ : ∃ w1, w1 = w.alloc (.cells (spC db o nm i dep tk).toArray 82) := ⟨_, rfl⟩
  have b1 : Below w.heap.size w w1 := by rw [hw1]; exact (Below.refl _ _).alloc (Nat.le_refl _) _
  have gg1 : Has w1 w.heap.size (spC db o nm i dep tk) 82 := by rw [hw1]; exact Has.new w (spC db o nm i dep tk) _
  have e1 : Has w1 bw [.pointer (some ⟨p, 0, none⟩)] 47 := by rw [hw1]; exact HE.out.alloc _
  have q1 : Has w1 qb qc 26 := by rw [hw1]; exact HQC.out.alloc _
  first | rw [← hw1] | skip
  have Q1 := Lib.hid q1
  have B1 := Lib.hid b1
  have W1 := Lib.hid (HW.out.later b1)
  have FB1 : Hid (Fr (p :: db :: S) w w1) := Lib.hid ((Fr.of_below (S := []) b1).mono (fun g hg _ => by cases hg))
  have G1r : Hid (w1.heap[w.heap.size]? = some (.cells (spC db o nm i dep tk).toArray 82 (0, 0))) := Lib.hid gg1
  have hq4 := Has.cellAt gg1 (i := 4) rfl
  have hbw := Has.cellAt e1 (i := 0) rfl
  clear hw1 gg1 e1 q1 b1
  cases tk
  · go_wp2_with fail
    go_ret
    rw [HA.out.1 (by first | trivial | rfl)]
    exact ⟨rfl, FB1.out.mono (fun g hg _ => foot_more hg), fun _ => FB1.out, fun h => by simp at h⟩
  · go_wp2_with (refine wpList_load_row rfl 82 _ rfl w.heap.size rfl 82 (spC db o nm i dep true).toArray (0, 0) _ G1r.out Tryd.underlying82 rfl hS5.out ?_)
    have hkd := HKD.out (by first | trivial | rfl)
    have hil := HIL.out (by first | trivial | rfl)
    rw [HKE.out] at hkd
    refine (take_s (tk := true) (nm := nm) W1.out HL.out HK.out hil hkd.1 hkd.2.1 HAB.out.1 HAB.out.2 hkd.2.2.1 hkd.2.2.2).mono ?_
    rintro e w2 ⟨gcs, Sg, rfl, hf, X', cs', R', S', hw2, hxl, hxe, hr, hsub, hgm, hgs⟩
    rw [← HKE.out] at hw2
    have HA' := Lib.hid (HA.out.2 (by first | trivial | rfl))
    have hqF : qb ∉ (p :: db :: S) := fun hm => by
      have hg := HQB.out
      simp only [List.mem_cons] at hm
      rcases hm with e | e | e
      · exact hg.2.2 e
      · exact hg.2.1 e
      · exact hg.1 e
    have q2 : Has w2 qb qc 26 := has_fr Q1.out hf hqF
    have Q2r : Hid (w2.heap[qb]? = some (.cells qc.toArray 26 (0, 0))) := Lib.hid q2
    have hG5 : Hid ((Tryd.prog.info? 26).map (·.size) = some gcs.toArray.size) := Lib.hid (infoL hgm.five)
    have hGs : Hid (qc.toArray.size = gcs.toArray.size) := Lib.hid (by simp [HQ5.out, hgm.five])
    have hG1 : Hid (gcs.toArray.all (·.oneCell') = true) := Lib.hid (by
      rw [Array.all_eq_true_iff_forall_mem]
      intro u hu
      exact hgm.one u (by simpa using hu))
    have HFIN : Hid (WP w B p db o X ty R S Z [] (some qb) (ks.getD i default) (0, delT (.mk k x d ns ks) i, a - sizeN kd, b - bytesT kd) (.returned (.int .i64 0)) (w2.setRow qb gcs.toArray)) := Lib.hid (by
      have hf3 : Fr [qb] w2 (w2.setRow qb gcs.toArray) := (Fr.refl _ _).setRow (.inl (by simp)) _
      have hr3 : Rows w2 [qb] := Rows.cons q2 (by decide) (Rows.nil _)
      refine ⟨rfl, ((FB1.out.trans hf (fun g hg _ => hg)).mono (fun g hg _ => foot_more hg)).trans hf3 (fun g hg _ => by
        simp only [List.mem_cons, List.not_mem_nil, or_false] at hg
        subst hg
        exact List.mem_cons_of_mem _ (List.mem_cons_of_mem _ (List.mem_append_right _ HZ.out))), fun h => by simp at h, fun _ => ?_⟩
      refine ⟨X', cs', R', S', hw2.fr hf3 hr3 (by simp; exact fun e => HQB.out.2.2 e.symm) (by simp; exact fun e => HQB.out.2.1 e.symm) (fun g hg hm => by
        simp only [List.mem_cons, List.not_mem_nil, or_false] at hm
        subst hm
        exact HQB.out.1 (hsub g hg)), hxl, hxe, hr, fun g hg => .inl (hsub g hg), fun q0 hq0 => ?_⟩
      cases hq0
      exact ⟨gcs, Sg, has_setRow q2, hgm.frame hf3 hr3 (fun g hg hm => by
        simp only [List.mem_cons, List.not_mem_nil, or_false] at hm
        subst hm
        exact HQB.out.1 (hgs g hg).1), fun g hg => (hgs g hg).1, fun g hg => (hgs g hg).2⟩)
    clear hw2 hr hxl hxe hsub hf hil hqF q2 hgm hgs hbw hq4 hkd
    go_wp2_with (refine wpList_store_row rfl 26 _ _ rfl qb gcs.toArray rfl rfl 26 qc.toArray Q2r.out hG5.out hGs.out hG1.out ?_)
    go_ret
    rw [HA'.out]
    exact HFIN.out

end Go.Proofs.YtbempgdndmchlaaDoor
