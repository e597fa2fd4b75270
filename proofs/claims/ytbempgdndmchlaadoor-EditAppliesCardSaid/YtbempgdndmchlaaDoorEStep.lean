/-
  A spot of a tree that is worked on, behind a change: below it, at it. No program text but the types' numbers.
-/
import Derived.Test.YtbempgdndmchlaaDoorEWork
namespace Go.Proofs.YtbempgdndmchlaaDoor
open Go.RowKit
set_option linter.unusedVariables false

theorem blk_types {w : World} {B B' n n' size size' : Nat} {t t' : TypeId} {v v' : Value} {xs xs' : List Value} (h : w.ownsRow B t size v n xs) (h' : w.ownsRow B' t' size' v' n' xs') (ht : t ≠ t') {g : Nat} (hg : g ∈ blk v) : g ∉ blk v' := fun hg' => by
  rw [mem_blk] at hg hg'
  rcases h.2 with ⟨rfl, _⟩ | ⟨q, cap, cur, rfl, _, hq, _⟩
  · cases hg
  · rcases h'.2 with ⟨rfl, _⟩ | ⟨q', cap', cur', rfl, _, hq', _⟩
    · cases hg'
    · cases hg; cases hg'
      rw [hq] at hq'
      cases hq'
      exact ht rfl
theorem mem_blk_lt {w : World} {B size n : Nat} {t : TypeId} {v : Value} {xs : List Value} (h : w.ownsRow B t size v n xs) {g : Nat} (hg : g ∈ blk v) : g < w.heap.size := blk_lt h (mem_blk.1 hg)
theorem MT.lt {w : World} {B : Nat} {cs : List Value} {t : T} {S : List Nat} (h : MT w B cs t S) {g : Nat} (hg : g ∈ S) : g < w.heap.size := h.rows.lt hg

/-- A change elsewhere. -/
theorem WS.fr {w w' : World} {F : List Nat} {B p db o a b : Nat} {X cs : List Value} {ty : TypeId} {R : List Value} {t : T} {S : List Nat} (h : WS w B p db o X cs ty R a b t S) (hf : Fr F w w') (hF : Rows w F) (h1 : p ∉ F) (h2 : db ∉ F) (h3 : ∀ g ∈ S, g ∉ F) :
    WS w' B p db o X cs ty R a b t S :=
  ⟨has_fr h.hX hf h2, h.hc, h.mt.frame hf hF h3, h.ndb, h.np, has_fr h.hR hf h1, h.r5, h.hp⟩

/-- A spot's kid is a spot, and what is done there is done to the whole. -/
theorem ws_down {w : World} {B p db o a b i : Nat} {X cs : List Value} {ty : TypeId} {R : List Value} {k : UInt8} {x : Bool} {d : List UInt8} {ns : List ByteArray} {ks : List T} {S Z Sx : List Nat} {q : Option Nat}
    (h : WS w B p db o X cs ty R a b (.mk k x d ns ks) S) (hi : i < ks.length) (hZ : ∀ g ∈ Z, g ∉ S ∧ g ≠ db ∧ g ≠ p) (hZr : Rows w Z) (hSx : ∀ g ∈ Sx, g ∉ S ∧ g ≠ db ∧ g ≠ p) :
    ∃ vd vn kb cap cur Si, cs = [.int .u8 (k.toNat : Int), .bool x, vd, vn, .slice (some ⟨kb, 0, none⟩) ks.length cap] ∧ w.ownsRow B 9 1 vn ns.length (ns.map Value.string) ∧ ks.length ≤ cap ∧ cap ≤ maxLen ∧ kb ∈ S ∧ (∀ g ∈ Si, g ∈ S) ∧
      WS w B p kb (i * 5) cur (five cur i) 26 R a b (ks.getD i default) Si ∧
      (∀ w' t' a' b' gt, Fr (p :: kb :: (Si ++ Z)) w w' → WQ w B p kb (i * 5) cur 26 R Si Sx q gt t' a' b' w' → WQ w B p db o X ty R S Sx q gt (.mk k x d ns (ks.set i t')) a' b' w') := by
  obtain ⟨vd, vn, vk, L, Ss, rfl, rfl, hd, hn, hk, hs, hnd⟩ := mt_inv h.mt
  obtain ⟨kb, cap, cur, rfl, hkB, hkg, hle, hmx, hcs, hL⟩ : ∃ kb cap cur, vk = .slice (some ⟨kb, 0, none⟩) ks.length cap ∧ B ≤ kb ∧ w.heap[kb]? = some (.cells cur tT (0, 0)) ∧ ks.length ≤ cap ∧ cap ≤ maxLen ∧ cur.size = cap * 5 ∧ cur.toList.take (ks.length * 5) = L := by
    rcases hk.2 with ⟨h1, h2⟩ | ⟨g, cap, cur, h1, h2, h3, h4, h5, h6, h7⟩
    · omega
    · exact ⟨g, cap, cur, h1, h2, h3, h4, h5, h6, h7⟩
  have hnd2 := nd_iff.1 hnd
  have hkb : kb ∈ blk vn ++ blk (.slice (some ⟨kb, 0, none⟩) ks.length cap) ++ (List.range ks.length).flatMap Ss := mem_S.2 (.inr (.inl (mem_blk.2 rfl)))
  have hSi : ∀ j, j < ks.length → ∀ g ∈ Ss j, g ∈ blk vn ++ blk (.slice (some ⟨kb, 0, none⟩) ks.length cap) ++ (List.range ks.length).flatMap Ss := fun j hj g hg => mem_S.2 (.inr (.inr ⟨j, hj, hg⟩))
  have hpk : p ≠ kb := fun e => h.np (e ▸ hkb)
  have hdk : db ≠ kb := fun e => h.ndb (e ▸ hkb)
  have hcl : cur.toList.length = cap * 5 := by simpa using hcs
  have hHk : Has w kb cur.toList tT := show w.heap[kb]? = some (.cells cur.toList.toArray tT (0, 0)) by simpa using hkg
  have hfc : ∀ j, j < ks.length → five L j = five cur.toList j := fun j hj => by rw [← hL, five_take hj]
  have hkS : ∀ j, j < ks.length → kb ∉ Ss j := fun j hj hm => hnd2.2.1 kb (mem_blk.2 rfl) j hj hm
  refine ⟨vd, vn, kb, cap, cur.toList, Ss i, rfl, hn, hle, hmx, hkb, hSi i hi, ⟨hHk, fun j hj => by rw [five_get j hj], by rw [← hfc i hi]; exact hs i hi, hkS i hi, fun hm => h.np (hSi i hi p hm), h.hR, h.r5, .inr ⟨hpk, rfl⟩⟩, ?_⟩
  rintro w' t' a' b' gt hf ⟨X', cs', R', S', hw, hxl, hxe, hr, hsub, hgot⟩
  obtain rfl := hr hpk
  have hpl : p < w.heap.size := h.hR.lt
  have hdl : db < w.heap.size := h.hX.lt
  -- the footprint
  have hFr : Rows w (p :: kb :: (Ss i ++ Z)) := Rows.cons h.hR (by decide) (Rows.cons hHk (by decide) ((hs i hi).rows.append hZr))
  have hF : ∀ g, g ∈ (p :: kb :: (Ss i ++ Z)) → g = p ∨ g = kb ∨ g ∈ Ss i ∨ g ∈ Z := fun g hg => by
    simpa [List.mem_cons, List.mem_append] using hg
  have hvnF : ∀ g ∈ blk vn, g ∉ (p :: kb :: (Ss i ++ Z)) := fun g hg hm => by
    have hgS : g ∈ blk vn ++ blk (.slice (some ⟨kb, 0, none⟩) ks.length cap) ++ (List.range ks.length).flatMap Ss := mem_S.2 (.inl hg)
    rcases hF g hm with rfl | rfl | hm | hm
    · exact h.np hgS
    · exact (hnd2.1 g hg).1 (mem_blk.2 rfl)
    · exact (hnd2.1 g hg).2 i hi hm
    · exact (hZ g hm).1 hgS
  have hsF : ∀ j, j < ks.length → j ≠ i → ∀ g ∈ Ss j, g ∉ (p :: kb :: (Ss i ++ Z)) := fun j hj hji g hg hm => by
    rcases hF g hm with rfl | rfl | hm | hm
    · exact h.np (hSi j hj g hg)
    · exact hkS j hj hg
    · exact hnd2.2.2.2 j i hj hi hji g hg hm
    · exact (hZ g hm).1 (hSi j hj g hg)
  have hdF : p ≠ db → db ∉ (p :: kb :: (Ss i ++ Z)) := fun hpd hm => by
    rcases hF db hm with e | e | hm | hm
    · exact hpd e.symm
    · exact hdk e
    · exact h.ndb (hSi i hi db hm)
    · exact (hZ db hm).2.1 rfl
  -- the row of the kids
  have hxc : X'.length = cap * 5 := by rw [hxl, hcl]
  have hLl : (X'.take (ks.length * 5)).length = ks.length * 5 := by rw [List.length_take, hxc]; omega
  have hrow : w'.ownsRow B tT 5 (.slice (some ⟨kb, 0, none⟩) ks.length cap) ks.length (X'.take (ks.length * 5)) := ⟨hLl, .inr ⟨kb, cap, X'.toArray, rfl, hkB, hw.hX, hle, hmx, by simpa using hxc, by simp⟩⟩
  have hfi : five X' i = cs' := by
    refine List.ext_getElem? fun j => ?_
    by_cases hj : j < 5
    · rw [five_get j hj]; exact hw.hc j hj
    · rw [List.getElem?_eq_none (by unfold five; rw [List.length_take]; omega), List.getElem?_eq_none (by rw [hw.mt.five]; omega)]
  have hfj : ∀ j, j ≠ i → five X' j = five cur.toList j := fun j hj => by
    refine List.ext_getElem? fun m => ?_
    by_cases hm : m < 5
    · rw [five_get m hm, five_get m hm]; exact hxe _ (by omega) (by omega) hpk
    · rw [List.getElem?_eq_none (by unfold five; rw [List.length_take]; omega), List.getElem?_eq_none (by unfold five; rw [List.length_take]; omega)]
  obtain ⟨Sn, hSn⟩ : ∃ Sn : Nat → List Nat, Sn = fun j => if j = i then S' else Ss j := ⟨_, rfl⟩
  have hSn1 : Sn i = S' := by rw [hSn]; simp
  have hSn2 : ∀ j, j ≠ i → Sn j = Ss j := fun j hj => by rw [hSn]; simp [hj]
  have hln : (ks.set i t').length = ks.length := List.length_set
  have hnd' : (blk vn ++ blk (.slice (some ⟨kb, 0, none⟩) ks.length cap) ++ (List.range ks.length).flatMap Sn).Nodup := by
    refine nd_iff.2 ⟨fun g hg => ⟨(hnd2.1 g hg).1, fun j hj hm => ?_⟩, fun g hg j hj hm => ?_, fun j hj => ?_, fun j m hj hm hjm g hg hg' => ?_⟩
    · have hgS : g ∈ blk vn ++ blk (.slice (some ⟨kb, 0, none⟩) ks.length cap) ++ (List.range ks.length).flatMap Ss := mem_S.2 (.inl hg)
      by_cases e : j = i
      · subst e
        rw [hSn1] at hm
        rcases hsub g hm with h1 | h1 | h1
        · exact (hnd2.1 g hg).2 j hj h1
        · exact (hSx g h1).1 hgS
        · have := mem_blk_lt hn hg; omega
      · rw [hSn2 j e] at hm; exact (hnd2.1 g hg).2 j hj hm
    · have hgS : g ∈ blk vn ++ blk (.slice (some ⟨kb, 0, none⟩) ks.length cap) ++ (List.range ks.length).flatMap Ss := mem_S.2 (.inr (.inl hg))
      by_cases e : j = i
      · subst e
        rw [hSn1] at hm
        rcases hsub g hm with h1 | h1 | h1
        · exact hnd2.2.1 g hg j hj h1
        · exact (hSx g h1).1 hgS
        · have := mem_blk_lt hk hg; omega
      · rw [hSn2 j e] at hm; exact hnd2.2.1 g hg j hj hm
    · by_cases e : j = i
      · subst e; rw [hSn1]; exact hw.mt.nodup
      · rw [hSn2 j e]; exact hnd2.2.2.1 j hj
    · have hcross : ∀ j, j < ks.length → j ≠ i → ∀ g ∈ Ss j, g ∉ S' := fun j hj hji g hg hm' => by
        rcases hsub g hm' with h1 | h1 | h1
        · exact hnd2.2.2.2 j i hj hi hji g hg h1
        · exact (hSx g h1).1 (hSi j hj g hg)
        · have := (hs j hj).lt hg; omega
      by_cases e : j = i
      · subst e
        rw [hSn1] at hg
        rw [hSn2 m (fun e => hjm e.symm)] at hg'
        exact hcross m hm (fun e => hjm e.symm) g hg' hg
      · rw [hSn2 j e] at hg
        by_cases e' : m = i
        · subst e'
          rw [hSn1] at hg'
          exact hcross j hj e g hg hg'
        · rw [hSn2 m e'] at hg'
          exact hnd2.2.2.2 j m hj hm hjm g hg hg'
  have hmt : MT w' B [.int .u8 (k.toNat : Int), .bool x, vd, vn, .slice (some ⟨kb, 0, none⟩) ks.length cap] (.mk k x d ns (ks.set i t')) (blk vn ++ blk (.slice (some ⟨kb, 0, none⟩) ks.length cap) ++ (List.range (ks.set i t').length).flatMap Sn) := by
    refine MT.mk (L := X'.take (ks.length * 5)) (owns_bytes hd hf hFr) (owns_fr hn hf hvnF) (by rw [hln]; exact hrow) (fun j hj => ?_) (by rw [hln]; exact hnd')
    rw [hln] at hj
    rw [five_take hj, getD_set hi]
    by_cases e : j = i
    · subst e
      rw [if_pos rfl, hfi, hSn1]
      exact hw.mt
    · rw [if_neg e, hfj j e, hSn2 j e, ← hfc j hj]
      exact (hs j hj).frame hf hFr (hsF j hj e)
  rw [hln] at hmt
  have hsub' : ∀ g ∈ blk vn ++ blk (.slice (some ⟨kb, 0, none⟩) ks.length cap) ++ (List.range ks.length).flatMap Sn, g ∈ (blk vn ++ blk (.slice (some ⟨kb, 0, none⟩) ks.length cap) ++ (List.range ks.length).flatMap Ss) ∨ g ∈ Sx ∨ w.heap.size ≤ g := fun g hg => by
    rcases mem_S.1 hg with h1 | h1 | ⟨j, hj, h1⟩
    · exact .inl (mem_S.2 (.inl h1))
    · exact .inl (mem_S.2 (.inr (.inl h1)))
    · by_cases e : j = i
      · subst e
        rw [hSn1] at h1
        rcases hsub g h1 with h2 | h2 | h2
        · exact .inl (hSi j hj g h2)
        · exact .inr (.inl h2)
        · exact .inr (.inr h2)
      · rw [hSn2 j e] at h1; exact .inl (hSi j hj g h1)
  have hnew : ∀ z, z ∉ (blk vn ++ blk (.slice (some ⟨kb, 0, none⟩) ks.length cap) ++ (List.range ks.length).flatMap Ss) → z ∉ Sx → z < w.heap.size → z ∉ blk vn ++ blk (.slice (some ⟨kb, 0, none⟩) ks.length cap) ++ (List.range ks.length).flatMap Sn := fun z h1 h2 h3 hm => by
    rcases hsub' z hm with h4 | h4 | h4
    · exact h1 h4
    · exact h2 h4
    · omega
  have hgot' : Got w' B q gt (blk vn ++ blk (.slice (some ⟨kb, 0, none⟩) ks.length cap) ++ (List.range ks.length).flatMap Ss) (blk vn ++ blk (.slice (some ⟨kb, 0, none⟩) ks.length cap) ++ (List.range ks.length).flatMap Sn) := fun qb hq => by
    obtain ⟨gcs, Sg, g1, g2, g3, g4⟩ := hgot qb hq
    refine ⟨gcs, Sg, g1, g2, fun g hg => hSi i hi g (g3 g hg), fun g hg hm => ?_⟩
    rcases mem_S.1 hm with h1 | h1 | ⟨j, hj, h1⟩
    · exact (hnd2.1 g h1).2 i hi (g3 g hg)
    · exact hnd2.2.1 g h1 i hi (g3 g hg)
    · by_cases e : j = i
      · subst e; rw [hSn1] at h1; exact g4 g hg h1
      · rw [hSn2 j e] at h1; exact hnd2.2.2.2 j i hj hi e g h1 (g3 g hg)
  have hnp := hnew p h.np (fun hm => (hSx p hm).2.2 rfl) hpl
  have hndb := hnew db h.ndb (fun hm => (hSx db hm).2.1 rfl) hdl
  rcases h.hp with ⟨rfl, e2, e3, e4, e5⟩ | ⟨e1, e2⟩
  · refine ⟨R' ++ [.int .i64 (a' : Int), .int .i64 (b' : Int)], _, R', _, ⟨by rw [e2]; exact hw.hR, fun j hj => ?_, hmt, hndb, hnp, hw.hR, hw.r5, .inl ⟨rfl, e2, e3, rfl, e5⟩⟩, by rw [e4]; simp, fun j _ _ hne => absurd rfl hne, fun hne => absurd rfl hne, hsub', hgot'⟩
    rw [e3, Nat.zero_add, List.getElem?_append_left (by rw [hw.r5]; omega), e5]
  · exact ⟨X, _, R', _, ⟨has_fr h.hX hf (hdF e1), h.hc, hmt, hndb, hnp, hw.hR, hw.r5, .inr ⟨e1, e2⟩⟩, rfl, fun _ _ _ _ => rfl, fun _ => rfl, hsub', hgot'⟩

/-- A tree laid at a spot is in the whole. -/
theorem ws_lay {w w' : World} {B p db o a b i dep : Nat} {X cs L ct : List Value} {ty : TypeId} {c0 c1 c2 c3 c4 : Value} {k : UInt8} {x : Bool} {d : List UInt8} {ns : List ByteArray} {ks : List T} {S Sx : List Nat} {vd vn vk : Value} {Ss : Nat → List Nat} {nm : ByteArray} {xx yy : Nat} {tt : T} {e : Ending}
    (h : WS w B p db o X cs ty [c0, c1, c2, c3, c4] a b (.mk k x d ns ks) S) (hcs : cs = [.int .u8 (k.toNat : Int), .bool x, vd, vn, vk]) (hS : S = blk vn ++ blk vk ++ (List.range ks.length).flatMap Ss) (hd : w.ownsRow B 5 1 vd d.length (d.map bv))
    (hn : w.ownsRow B 9 1 vn ns.length (ns.map Value.string)) (hk : w.ownsRow B 26 5 vk ks.length L) (hs : ∀ i, i < ks.length → MT w B (five L i) (ks.getD i default) (Ss i)) (hl : ns.length = ks.length) (hi : i ≤ ks.length)
    (hm : MT w B ct tt Sx) (hSx : ∀ g ∈ Sx, g ∉ S ∧ g ≠ db ∧ g ≠ p) (hP : LayP w B p db o X L ct ty vn vk c0 c1 c2 c3 c4 ns nm i a b xx yy dep tt e w') :
    e = .returned (.int .i64 (if 4096 < a + xx ∨ 65536 < b + yy ∨ 16 < dep + heightT tt then 2 else 0)) ∧ Fr (p :: db :: S) w w' ∧ ∀ gt, WQ w B p db o X ty [c0, c1, c2, c3, c4] S Sx none gt (insT (.mk k x d ns ks) i nm tt) (a + xx) (b + yy) w' := by
  obtain ⟨un, uk, he, hp1, hp2, hun, huk, hf, hbn, hbk⟩ := hP
  have hf' : Fr (p :: db :: S) w w' := hf.mono (fun g hg _ => by
    rcases List.mem_cons.1 hg with h1 | h1
    · simp [h1]
    · rcases List.mem_cons.1 h1 with h2 | h2
      · simp [h2]
      · refine List.mem_cons_of_mem _ (List.mem_cons_of_mem _ ?_)
        rw [hS]
        exact List.mem_append_left _ h2)
  refine ⟨he, hf', fun gt => ?_⟩
  have hnd := h.mt.nodup
  rw [hS] at hnd
  have hnd2 := nd_iff.1 hnd
  have hpl : p < w.heap.size := h.hR.lt
  have hdl : db < w.heap.size := h.hX.lt
  have hmS : ∀ {g : Nat}, g ∈ S ↔ g ∈ blk vn ∨ g ∈ blk vk ∨ ∃ i, i < ks.length ∧ g ∈ Ss i := fun {g} => by rw [hS]; exact mem_S
  have hdn : db ∉ blk vn ++ blk vk := fun hm => h.ndb (by rw [hS]; exact List.mem_append_left _ hm)
  have hFr : Rows w (p :: db :: (blk vn ++ blk vk)) := Rows.cons h.hR (by decide) (Rows.cons h.hX (by
    rcases h.hp with ⟨_, e, _⟩ | ⟨_, e⟩
    · rw [e]; decide
    · rw [e]; decide) ((Rows.of_owns hn (by decide)).append (Rows.of_owns hk (by decide))))
  have hF : ∀ g, g ∈ (p :: db :: (blk vn ++ blk vk)) → g = p ∨ g = db ∨ g ∈ blk vn ∨ g ∈ blk vk := fun g hg => by
    simpa [List.mem_cons, List.mem_append] using hg
  have hsF : ∀ j, j < ks.length → ∀ g ∈ Ss j, g ∉ (p :: db :: (blk vn ++ blk vk)) := fun j hj g hg hm => by
    rcases hF g hm with rfl | rfl | h1 | h1
    · exact h.np (hmS.2 (.inr (.inr ⟨j, hj, hg⟩)))
    · exact h.ndb (hmS.2 (.inr (.inr ⟨j, hj, hg⟩)))
    · exact (hnd2.1 g h1).2 j hj hg
    · exact hnd2.2.1 g h1 j hj hg
  have hxF : ∀ g ∈ Sx, g ∉ (p :: db :: (blk vn ++ blk vk)) := fun g hg hm => by
    obtain ⟨q1, q2, q3⟩ := hSx g hg
    rcases hF g hm with h1 | h1 | h1 | h1
    · exact q3 h1
    · exact q2 h1
    · exact q1 (hmS.2 (.inl h1))
    · exact q1 (hmS.2 (.inr (.inl h1)))
  have hxS : ∀ g ∈ Sx, g < w.heap.size := fun g hg => hm.lt hg
  have hsS : ∀ j, j < ks.length → ∀ g ∈ Ss j, g < w.heap.size := fun j hj g hg => (hs j hj).lt hg
  have hLl : L.length = ks.length * 5 := hk.1
  have hNl : (ns.take i ++ nm :: ns.drop i).length = ns.length + 1 := by simp; omega
  have hKl : (ks.take i ++ tt :: ks.drop i).length = ks.length + 1 := by simp; omega
  have hct : ct.length = 5 := hm.five
  obtain ⟨Sn, hSn⟩ : ∃ Sn : Nat → List Nat, Sn = fun j => if j < i then Ss j else if j = i then Sx else Ss (j - 1) := ⟨_, rfl⟩
  have hSn1 : ∀ j, j < i → Sn j = Ss j := fun j hj => by rw [hSn]; simp [hj]
  have hSn2 : Sn i = Sx := by rw [hSn]; simp
  have hSn3 : ∀ j, ¬ j < i → j ≠ i → Sn j = Ss (j - 1) := fun j hj hj' => by rw [hSn]; simp [hj, hj']
  have hbnS : ∀ g ∈ blk un, g ∈ blk vn ∨ w.heap.size ≤ g := fun g hg => by
    rcases hbn g (mem_blk.1 hg) with h1 | h1
    · exact .inl (mem_blk.2 h1)
    · exact .inr h1
  have hbkS : ∀ g ∈ blk uk, g ∈ blk vk ∨ w.heap.size ≤ g := fun g hg => by
    rcases hbk g (mem_blk.1 hg) with h1 | h1
    · exact .inl (mem_blk.2 h1)
    · exact .inr h1
  have hcase : ∀ j, j < ks.length + 1 → (∃ m, m < ks.length ∧ Sn j = Ss m ∧ (m = j ∧ j < i ∨ m + 1 = j ∧ i < j)) ∨ (j = i ∧ Sn j = Sx) := fun j hj => by
    by_cases h1 : j < i
    · exact .inl ⟨j, by omega, hSn1 j h1, .inl ⟨rfl, h1⟩⟩
    · by_cases h2 : j = i
      · exact .inr ⟨h2, by rw [h2]; exact hSn2⟩
      · exact .inl ⟨j - 1, by omega, hSn3 j h1 h2, .inr ⟨by omega, by omega⟩⟩
  have hnk : ∀ g, (g ∈ blk vn ∨ g ∈ blk vk ∨ w.heap.size ≤ g) → ∀ j, j < ks.length + 1 → g ∉ Sn j := fun g hg j hj hm' => by
    rcases hcase j hj with ⟨m, h1, h2, _⟩ | ⟨h1, h2⟩
    · rw [h2] at hm'
      rcases hg with hg | hg | hg
      · exact (hnd2.1 g hg).2 m h1 hm'
      · exact hnd2.2.1 g hg m h1 hm'
      · have := hsS m h1 g hm'; omega
    · rw [h2] at hm'
      rcases hg with hg | hg | hg
      · exact (hSx g hm').1 (hmS.2 (.inl hg))
      · exact (hSx g hm').1 (hmS.2 (.inr (.inl hg)))
      · have := hxS g hm'; omega
  have hnd' : (blk un ++ blk uk ++ (List.range (ks.length + 1)).flatMap Sn).Nodup := by
    refine nd_iff.2 ⟨fun g hg => ⟨blk_types hun huk (by decide) hg, fun j hj => hnk g ?_ j hj⟩, fun g hg j hj => hnk g ?_ j hj, fun j hj => ?_, fun j m hj hm' hjm g hg hg' => ?_⟩
    · rcases hbnS g hg with h1 | h1
      · exact .inl h1
      · exact .inr (.inr h1)
    · rcases hbkS g hg with h1 | h1
      · exact .inr (.inl h1)
      · exact .inr (.inr h1)
    · rcases hcase j hj with ⟨m, h1, h2, _⟩ | ⟨h1, h2⟩
      · rw [h2]; exact hnd2.2.2.1 m h1
      · rw [h2]; exact hm.nodup
    · rcases hcase j hj with ⟨m1, h1, h2, h3⟩ | ⟨h1, h2⟩
      · rw [h2] at hg
        rcases hcase m hm' with ⟨m2, k1, k2, k3⟩ | ⟨k1, k2⟩
        · rw [k2] at hg'
          exact hnd2.2.2.2 m1 m2 h1 k1 (by omega) g hg hg'
        · rw [k2] at hg'
          exact (hSx g hg').1 (hmS.2 (.inr (.inr ⟨m1, h1, hg⟩)))
      · rw [h2] at hg
        rcases hcase m hm' with ⟨m2, k1, k2, k3⟩ | ⟨k1, k2⟩
        · rw [k2] at hg'
          exact (hSx g hg).1 (hmS.2 (.inr (.inr ⟨m2, k1, hg'⟩)))
        · omega
  have hmt : MT w' B [.int .u8 (k.toNat : Int), .bool x, vd, un, uk] (insT (.mk k x d ns ks) i nm tt) (blk un ++ blk uk ++ (List.range (ks.take i ++ tt :: ks.drop i).length).flatMap Sn) := by
    refine MT.mk (L := L.take (i * 5) ++ ct ++ L.drop (i * 5)) (owns_bytes hd hf hFr) (by rw [hNl]; exact hun) (by rw [hKl, ← hl]; exact huk) (fun j hj => ?_) (by rw [hKl]; exact hnd')
    rw [hKl] at hj
    rw [five_ins hLl hct hi, getD_ins hi]
    by_cases h1 : j < i
    · rw [if_pos h1, if_pos h1, hSn1 j h1]
      exact (hs j (by omega)).frame hf hFr (hsF j (by omega))
    · rw [if_neg h1, if_neg h1]
      by_cases h2 : j = i
      · rw [if_pos h2, if_pos h2, h2, hSn2]
        exact hm.frame hf hFr hxF
      · rw [if_neg h2, if_neg h2, hSn3 j h1 h2]
        exact (hs (j - 1) (by omega)).frame hf hFr (hsF (j - 1) (by omega))
  rw [hKl] at hmt
  have hsub' : ∀ g ∈ blk un ++ blk uk ++ (List.range (ks.length + 1)).flatMap Sn, g ∈ S ∨ g ∈ Sx ∨ w.heap.size ≤ g := fun g hg => by
    rcases mem_S.1 hg with h1 | h1 | ⟨j, hj, h1⟩
    · rcases hbnS g h1 with h2 | h2
      · exact .inl (hmS.2 (.inl h2))
      · exact .inr (.inr h2)
    · rcases hbkS g h1 with h2 | h2
      · exact .inl (hmS.2 (.inr (.inl h2)))
      · exact .inr (.inr h2)
    · rcases hcase j hj with ⟨m, k1, k2, _⟩ | ⟨k1, k2⟩
      · rw [k2] at h1; exact .inl (hmS.2 (.inr (.inr ⟨m, k1, h1⟩)))
      · rw [k2] at h1; exact .inr (.inl h1)
  have hnew : ∀ z, z ∉ S → z ∉ Sx → z < w.heap.size → z ∉ blk un ++ blk uk ++ (List.range (ks.length + 1)).flatMap Sn := fun z h1 h2 h3 hm => by
    rcases hsub' z hm with h4 | h4 | h4
    · exact h1 h4
    · exact h2 h4
    · omega
  have hnp := hnew p h.np (fun hm => (hSx p hm).2.2 rfl) hpl
  have hndb := hnew db h.ndb (fun hm => (hSx db hm).2.1 rfl) hdl
  rcases h.hp with ⟨e1, e2, e3, e4, e5⟩ | ⟨e1, e2⟩
  · have hh := hp1 e1
    subst e1
    rw [hcs] at e5
    simp only [List.cons.injEq, and_true] at e5
    obtain ⟨rfl, rfl, rfl, rfl, rfl⟩ := e5
    have hh' : Has w' p ([.int .u8 (k.toNat : Int), .bool x, c2, un, uk] ++ [.int .i64 ((a + xx : Nat) : Int), .int .i64 ((b + yy : Nat) : Int)]) 52 := hh
    refine ⟨_, _, [.int .u8 (k.toNat : Int), .bool x, c2, un, uk], _, ⟨by rw [e2]; exact hh', fun j hj => ?_, hmt, hndb, hnp, hh', rfl, .inl ⟨rfl, e2, e3, rfl, rfl⟩⟩, by rw [e4]; rfl, fun j _ _ hne => absurd rfl hne, fun hne => absurd rfl hne, hsub', Got.none _ _ _ _ _⟩
    rw [e3, Nat.zero_add, List.getElem?_append_left (by simp; omega)]
  · obtain ⟨hh, hh2⟩ := hp2 e1
    have hc3 := h.hc 3 (by omega)
    have hc4 := h.hc 4 (by omega)
    rw [hcs] at hc3 hc4
    have l3 : o + 3 < X.length := (List.getElem?_eq_some_iff.1 hc3).1
    have l4 : o + 4 < X.length := (List.getElem?_eq_some_iff.1 hc4).1
    refine ⟨_, _, [c0, c1, c2, c3, c4], _, ⟨hh, fun j hj => ?_, hmt, hndb, hnp, hh2, rfl, .inr ⟨e1, e2⟩⟩, by simp, fun j h3 h4 _ => ?_, fun _ => rfl, hsub', Got.none _ _ _ _ _⟩
    · rw [List.getElem?_set, List.getElem?_set, List.length_set]
      have hcj := h.hc j hj
      rw [hcs] at hcj
      match j, hj with
      | 0, _ => rw [if_neg (by omega), if_neg (by omega), hcj]; rfl
      | 1, _ => rw [if_neg (by omega), if_neg (by omega), hcj]; rfl
      | 2, _ => rw [if_neg (by omega), if_neg (by omega), hcj]; rfl
      | 3, _ => rw [if_neg (by omega), if_pos rfl, if_pos l3]; rfl
      | 4, _ => rw [if_pos rfl, if_pos l4]; rfl
    · rw [List.getElem?_set, List.getElem?_set, if_neg (by omega), if_neg (by omega)]

/-- A tree taken from a spot is out of the whole, in rows of its own. -/
theorem ws_take {w w' : World} {B p db o a b i : Nat} {X cs L : List Value} {ty : TypeId} {c0 c1 c2 c3 c4 : Value} {k : UInt8} {x : Bool} {d : List UInt8} {ns : List ByteArray} {ks : List T} {S : List Nat} {vd vn vk : Value} {Ss : Nat → List Nat} {xx yy : Nat} {e : Ending}
    (h : WS w B p db o X cs ty [c0, c1, c2, c3, c4] a b (.mk k x d ns ks) S) (hcs : cs = [.int .u8 (k.toNat : Int), .bool x, vd, vn, vk]) (hS : S = blk vn ++ blk vk ++ (List.range ks.length).flatMap Ss) (hd : w.ownsRow B 5 1 vd d.length (d.map bv))
    (hn : w.ownsRow B 9 1 vn ns.length (ns.map Value.string)) (hk : w.ownsRow B 26 5 vk ks.length L) (hs : ∀ i, i < ks.length → MT w B (five L i) (ks.getD i default) (Ss i)) (hl : ns.length = ks.length) (hi : i < ks.length)
    (hxa : xx ≤ a) (hyb : yy ≤ b) (hP : TakeP w B p db o X L ty vn vk c0 c1 c2 c3 c4 ns i a b xx yy e w') :
    e = .returned (.agg (five L i).toArray) ∧ Fr (p :: db :: S) w w' ∧ ∃ X' cs' R' S', WS w' B p db o X' cs' ty R' (a - xx) (b - yy) (delT (.mk k x d ns ks) i) S' ∧ X'.length = X.length ∧ (∀ j, j ≠ o + 3 → j ≠ o + 4 → p ≠ db → X'[j]? = X[j]?) ∧ (p ≠ db → R' = [c0, c1, c2, c3, c4]) ∧
      (∀ g ∈ S', g ∈ S) ∧ MT w' B (five L i) (ks.getD i default) (Ss i) ∧ (∀ g ∈ Ss i, g ∈ S ∧ g ∉ S') := by
  obtain ⟨un, uk, he, hp1, hp2, hun, huk, hf, hbn, hbk⟩ := hP
  have ea : (a : Int) + -(xx : Int) = ((a - xx : Nat) : Int) := by omega
  have eb : (b : Int) + -(yy : Int) = ((b - yy : Nat) : Int) := by omega
  rw [ea, eb] at hp1 hp2
  have hf' : Fr (p :: db :: S) w w' := hf.mono (fun g hg _ => by
    rcases List.mem_cons.1 hg with h1 | h1
    · simp [h1]
    · rcases List.mem_cons.1 h1 with h2 | h2
      · simp [h2]
      · refine List.mem_cons_of_mem _ (List.mem_cons_of_mem _ ?_)
        rw [hS]
        exact List.mem_append_left _ h2)
  refine ⟨he, hf', ?_⟩
  have hnd := h.mt.nodup
  rw [hS] at hnd
  have hnd2 := nd_iff.1 hnd
  have hmS : ∀ {g : Nat}, g ∈ S ↔ g ∈ blk vn ∨ g ∈ blk vk ∨ ∃ i, i < ks.length ∧ g ∈ Ss i := fun {g} => by rw [hS]; exact mem_S
  have hFr : Rows w (p :: db :: (blk vn ++ blk vk)) := Rows.cons h.hR (by decide) (Rows.cons h.hX (by
    rcases h.hp with ⟨_, e, _⟩ | ⟨_, e⟩
    · rw [e]; decide
    · rw [e]; decide) ((Rows.of_owns hn (by decide)).append (Rows.of_owns hk (by decide))))
  have hF : ∀ g, g ∈ (p :: db :: (blk vn ++ blk vk)) → g = p ∨ g = db ∨ g ∈ blk vn ∨ g ∈ blk vk := fun g hg => by
    simpa [List.mem_cons, List.mem_append] using hg
  have hsF : ∀ j, j < ks.length → ∀ g ∈ Ss j, g ∉ (p :: db :: (blk vn ++ blk vk)) := fun j hj g hg hm => by
    rcases hF g hm with rfl | rfl | h1 | h1
    · exact h.np (hmS.2 (.inr (.inr ⟨j, hj, hg⟩)))
    · exact h.ndb (hmS.2 (.inr (.inr ⟨j, hj, hg⟩)))
    · exact (hnd2.1 g h1).2 j hj hg
    · exact hnd2.2.1 g h1 j hj hg
  have hLl : L.length = ks.length * 5 := hk.1
  have hNl : (ns.take i ++ ns.drop (i + 1)).length = ns.length - 1 := by simp; omega
  have hKl : (ks.take i ++ ks.drop (i + 1)).length = ks.length - 1 := by simp; omega
  have hbn' : blk un = blk vn := by unfold blk; rw [hbn]
  have hbk' : blk uk = blk vk := by unfold blk; rw [hbk]
  obtain ⟨Sn, hSn⟩ : ∃ Sn : Nat → List Nat, Sn = fun j => if j < i then Ss j else Ss (j + 1) := ⟨_, rfl⟩
  have hcase : ∀ j, j < ks.length - 1 → ∃ m, m < ks.length ∧ m ≠ i ∧ Sn j = Ss m ∧ (m = j ∧ j < i ∨ m = j + 1 ∧ i ≤ j) := fun j hj => by
    by_cases h1 : j < i
    · exact ⟨j, by omega, by omega, by rw [hSn]; simp [h1], .inl ⟨rfl, h1⟩⟩
    · exact ⟨j + 1, by omega, by omega, by rw [hSn]; simp [h1], .inr ⟨rfl, by omega⟩⟩
  have hnd' : (blk un ++ blk uk ++ (List.range (ks.length - 1)).flatMap Sn).Nodup := by
    rw [hbn', hbk']
    refine nd_iff.2 ⟨fun g hg => ⟨(hnd2.1 g hg).1, fun j hj => ?_⟩, fun g hg j hj => ?_, fun j hj => ?_, fun j m hj hm' hjm g hg hg' => ?_⟩
    · obtain ⟨m, k1, k2, k3, _⟩ := hcase j hj
      rw [k3]; exact (hnd2.1 g hg).2 m k1
    · obtain ⟨m, k1, k2, k3, _⟩ := hcase j hj
      rw [k3]; exact hnd2.2.1 g hg m k1
    · obtain ⟨m, k1, k2, k3, _⟩ := hcase j hj
      rw [k3]; exact hnd2.2.2.1 m k1
    · obtain ⟨m1, k1, k2, k3, k4⟩ := hcase j hj
      obtain ⟨m2, q1, q2, q3, q4⟩ := hcase m hm'
      rw [k3] at hg
      rw [q3] at hg'
      exact hnd2.2.2.2 m1 m2 k1 q1 (by omega) g hg hg'
  have hmt : MT w' B [.int .u8 (k.toNat : Int), .bool x, vd, un, uk] (delT (.mk k x d ns ks) i) (blk un ++ blk uk ++ (List.range (ks.take i ++ ks.drop (i + 1)).length).flatMap Sn) := by
    refine MT.mk (L := L.take (i * 5) ++ L.drop ((i + 1) * 5)) (owns_bytes hd hf hFr) (by rw [hNl]; exact hun) (by rw [hKl, ← hl]; exact huk) (fun j hj => ?_) (by rw [hKl]; exact hnd')
    rw [hKl] at hj
    rw [five_del hLl hi, getD_del hi]
    by_cases h1 : j < i
    · rw [if_pos h1, if_pos h1, show Sn j = Ss j by rw [hSn]; simp [h1]]
      exact (hs j (by omega)).frame hf hFr (hsF j (by omega))
    · rw [if_neg h1, if_neg h1, show Sn j = Ss (j + 1) by rw [hSn]; simp [h1]]
      exact (hs (j + 1) (by omega)).frame hf hFr (hsF (j + 1) (by omega))
  rw [hKl] at hmt
  have hsub' : ∀ g ∈ blk un ++ blk uk ++ (List.range (ks.length - 1)).flatMap Sn, g ∈ S := fun g hg => by
    rcases mem_S.1 hg with h1 | h1 | ⟨j, hj, h1⟩
    · rw [hbn'] at h1; exact hmS.2 (.inl h1)
    · rw [hbk'] at h1; exact hmS.2 (.inr (.inl h1))
    · obtain ⟨m, k1, k2, k3, _⟩ := hcase j hj
      rw [k3] at h1; exact hmS.2 (.inr (.inr ⟨m, k1, h1⟩))
  have hnp : p ∉ blk un ++ blk uk ++ (List.range (ks.length - 1)).flatMap Sn := fun hm => h.np (hsub' p hm)
  have hndb : db ∉ blk un ++ blk uk ++ (List.range (ks.length - 1)).flatMap Sn := fun hm => h.ndb (hsub' db hm)
  have hgot : MT w' B (five L i) (ks.getD i default) (Ss i) := (hs i hi).frame hf hFr (hsF i hi)
  have hgS : ∀ g ∈ Ss i, g ∈ S ∧ g ∉ blk un ++ blk uk ++ (List.range (ks.length - 1)).flatMap Sn := fun g hg => ⟨hmS.2 (.inr (.inr ⟨i, hi, hg⟩)), fun hm => by
    rcases mem_S.1 hm with h1 | h1 | ⟨j, hj, h1⟩
    · rw [hbn'] at h1; exact (hnd2.1 g h1).2 i hi hg
    · rw [hbk'] at h1; exact hnd2.2.1 g h1 i hi hg
    · obtain ⟨m, k1, k2, k3, _⟩ := hcase j hj
      rw [k3] at h1; exact hnd2.2.2.2 m i k1 hi k2 g h1 hg⟩
  rcases h.hp with ⟨e1, e2, e3, e4, e5⟩ | ⟨e1, e2⟩
  · have hh := hp1 e1
    subst e1
    rw [hcs] at e5
    simp only [List.cons.injEq, and_true] at e5
    obtain ⟨rfl, rfl, rfl, rfl, rfl⟩ := e5
    have hh' : Has w' p ([.int .u8 (k.toNat : Int), .bool x, c2, un, uk] ++ [.int .i64 ((a - xx : Nat) : Int), .int .i64 ((b - yy : Nat) : Int)]) 52 := hh
    refine ⟨_, _, [.int .u8 (k.toNat : Int), .bool x, c2, un, uk], _, ⟨by rw [e2]; exact hh', fun j hj => ?_, hmt, hndb, hnp, hh', rfl, .inl ⟨rfl, e2, e3, rfl, rfl⟩⟩, by rw [e4]; rfl, fun j _ _ hne => absurd rfl hne, fun hne => absurd rfl hne, hsub', hgot, hgS⟩
    rw [e3, Nat.zero_add, List.getElem?_append_left (by simp; omega)]
  · obtain ⟨hh, hh2⟩ := hp2 e1
    have hc3 := h.hc 3 (by omega)
    have hc4 := h.hc 4 (by omega)
    rw [hcs] at hc3 hc4
    have l3 : o + 3 < X.length := (List.getElem?_eq_some_iff.1 hc3).1
    have l4 : o + 4 < X.length := (List.getElem?_eq_some_iff.1 hc4).1
    refine ⟨_, _, [c0, c1, c2, c3, c4], _, ⟨hh, fun j hj => ?_, hmt, hndb, hnp, hh2, rfl, .inr ⟨e1, e2⟩⟩, by simp, fun j h3 h4 _ => ?_, fun _ => rfl, hsub', hgot, hgS⟩
    · rw [List.getElem?_set, List.getElem?_set, List.length_set]
      have hcj := h.hc j hj
      rw [hcs] at hcj
      match j, hj with
      | 0, _ => rw [if_neg (by omega), if_neg (by omega), hcj]; rfl
      | 1, _ => rw [if_neg (by omega), if_neg (by omega), hcj]; rfl
      | 2, _ => rw [if_neg (by omega), if_neg (by omega), hcj]; rfl
      | 3, _ => rw [if_neg (by omega), if_pos rfl, if_pos l3]; rfl
      | 4, _ => rw [if_pos rfl, if_pos l4]; rfl
    · rw [List.getElem?_set, List.getElem?_set, if_neg (by omega), if_neg (by omega)]

end Go.Proofs.YtbempgdndmchlaaDoor
