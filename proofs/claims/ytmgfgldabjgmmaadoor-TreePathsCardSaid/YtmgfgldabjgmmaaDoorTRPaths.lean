/-
  All paths of a tree: the reference's Paths. Conditions: the tree is one.
-/
import Derived.Test.YtmgfgldabjgmmaaDoorTRAt
import Derived.Test.YtmgfgldabjgmmaaDoorTPaths
namespace Go.Proofs.YtmgfgldabjgmmaaDoor
open Go.RowKit
set_option linter.unusedVariables false

theorem bytes_empty (x : ByteArray) : (⟨#[]⟩ ++ x : ByteArray) = x := bytes_ext (by simp)
theorem bytes_assoc (x y z : ByteArray) : x ++ y ++ z = x ++ (y ++ z) := bytes_ext (by simp)

mutual
theorem pathsT_map : ∀ (t : T) (a : ByteArray), pathsT t a = (pathsT t ⟨#[]⟩).map (a ++ ·)
  | .mk k x d ns ks, a => by rw [pathsT, pathsT]; exact pathsL_map ks ns a
theorem pathsL_map : ∀ (ks : List T) (ns : List ByteArray) (a : ByteArray), pathsL ks ns a = (pathsL ks ns ⟨#[]⟩).map (a ++ ·)
  | [], ns, a => by simp [pathsL]
  | k :: r, [], a => by simp [pathsL]
  | k :: r, nm :: s, a => by
    rw [pathsL, pathsL, pathsT_map k (a ++ nm ++ ⟨#[47]⟩), pathsT_map k (⟨#[]⟩ ++ nm ++ ⟨#[47]⟩), pathsL_map r s a, bytes_empty]
    simp [bytes_assoc]
end

mutual
theorem pathsT_len : ∀ (t : T) (D c b : Nat) (r : Nat × Nat) (a : ByteArray), takeT t D c b = some r → (pathsT t a).length + 1 = sizeN t ∧ ∀ p ∈ pathsT t a, p.size + 1 ≤ a.size + 81 * (17 - D)
  | .mk k x d ns ks, D, c, b, r, a, h => by
    have hf := takeT_facts h
    have hl := formed_lens hf.2.2.1
    have := pathsL_len ks ns (D + 1) _ _ r a hf.2.2.2 hl.1 hl.2
    rw [pathsT, sizeN_mk]
    refine ⟨by omega, fun p hp => ?_⟩
    have := this.2 p hp
    have := hf.1
    omega
theorem pathsL_len : ∀ (ks : List T) (ns : List ByteArray) (D c b : Nat) (r : Nat × Nat) (a : ByteArray), takeL ks D c b = some r → ns.length = ks.length → (∀ i, i < ns.length → (ns.getD i ⟨#[]⟩).size ≤ 80) →
    (pathsL ks ns a).length = sizeNL ks ∧ ∀ p ∈ pathsL ks ns a, p.size ≤ a.size + 81 * (17 - D) + 80
  | [], ns, D, c, b, r, a, h, hl, h8 => by simp [pathsL, sizeNL]
  | k :: l, [], D, c, b, r, a, h, hl, h8 => by simp at hl
  | k :: l, nm :: s, D, c, b, r, a, h, hl, h8 => by
    rw [takeL] at h
    cases hk : takeT k D c b with
    | none => rw [hk] at h; cases h
    | some q =>
      rw [hk] at h
      have h1 := pathsT_len k D c b q (a ++ nm ++ ⟨#[47]⟩) hk
      have h2 := pathsL_len l s D _ _ r a h (by simpa using hl) (fun i hi => by have := h8 (i + 1) (by simpa using hi); simpa using this)
      have hn : nm.size ≤ 80 := by have := h8 0 (by simp); simpa using this
      have hD : D ≤ 16 := by
        obtain ⟨k', x', d', ns', ks'⟩ := k
        exact (takeT_facts hk).1
      have es : (a ++ nm ++ ⟨#[47]⟩ : ByteArray).size = a.size + nm.size + 1 := by rw [ByteArray.size_append, ByteArray.size_append]; rfl
      have en : (a ++ nm : ByteArray).size = a.size + nm.size := ByteArray.size_append
      rw [pathsL, sizeNL_cons]
      refine ⟨by rw [List.length_cons, List.length_append]; omega, fun p hp => ?_⟩
      rcases List.mem_cons.1 hp with rfl | hp
      · omega
      · rcases List.mem_append.1 hp with hp | hp
        · have := h1.2 p hp; omega
        · exact h2.2 p hp
end

theorem Good.paths {t : T} (h : Good t) (a : ByteArray) : sizeN t ≤ 4096 ∧ (pathsT t a).length + 1 = sizeN t ∧ ∀ p ∈ pathsT t a, p.size ≤ a.size + 1457 := by
  obtain ⟨D, c, b, r, h⟩ := h
  have h1 := take_size t _ _ _ r h
  have h2 := takeT_le t _ _ _ r h
  have h3 := pathsT_len t D c b r a h
  exact ⟨by omega, h3.1, fun p hp => by have := h3.2 p hp; omega⟩

theorem Good.names {k : UInt8} {x : Bool} {d : List UInt8} {ns : List ByteArray} {ks : List T} (h : Good (.mk k x d ns ks)) : ∀ i, i < ns.length → (ns.getD i ⟨#[]⟩).size ≤ 80 := by
  obtain ⟨D, c, b, r, h⟩ := h
  exact (formed_lens (takeT_facts h).2.2.1).2

theorem pathsL_prefix {ks : List T} {ns : List ByteArray} {i : Nat} (h : ns.length = ks.length) (hi : i ≤ ks.length) (a : ByteArray) : (pathsL (ks.take i) (ns.take i) a).length ≤ (pathsL ks ns a).length := by
  have e1 := List.take_append_drop i ks
  have e2 := List.take_append_drop i ns
  have := pathsL_append (ks.take i) (ns.take i) (ns.drop i) (ks.drop i) a (by simp [h])
  rw [e1, e2] at this
  rw [this, List.length_append]; omega

def RPPost (t : T) (w : World) (e : Ending) (w' : World) : Prop := ∃ v, e = .returned v ∧ w'.ownsRow w.heap.size 9 1 v (pathsT t ⟨#[]⟩).length ((pathsT t ⟨#[]⟩).map Value.string) ∧ Below w.heap.size w w'

theorem isS_but {w w' : World} {q : Nat} {a : Option Addr} {n c : Nat} {l : List ByteArray} (h : IsS w a n c l) (hb : But w.heap.size q w w') (hq : ∀ x, a = some x → x.block ≠ q) : IsS w' a n c l := by
  refine ⟨h.length, ?_, h.nil, h.room⟩
  rcases h.at_ with h0 | ⟨b, off, rfl, hlt, hc⟩
  · exact .inl h0
  · have hne : b ≠ q := hq _ rfl
    exact .inr ⟨b, off, rfl, Nat.lt_of_lt_of_le hlt hb.size, fun i hi => (World.cell?_of_block (w := w) (a := ⟨b, off + i, none⟩) (hb.block b hlt hne)).trans (hc i hi)⟩

theorem isS_grown {w w' : World} {v : Value} {a : Option Addr} {n c : Nat} {l : List ByteArray} (h : IsS w a n c l) (hg : w.grownBy w' v.ownBlock) (hq : ∀ x q, a = some x → v.ownBlock = some q → x.block ≠ q) : IsS w' a n c l := by
  cases hv : v.ownBlock with
  | none =>
    rw [hv] at hg
    exact h.later ⟨hg.os, hg.tape, hg.output, hg.size, fun k hk => hg.block k hk (by simp)⟩
  | some q =>
    rw [hv] at hg
    exact isS_but h (q := q) ⟨hg.os, hg.tape, hg.output, hg.size, fun k hk hne => hg.block k hk (by simpa using hne)⟩ (fun x hx => hq x q hx hv)

theorem has_grown {w w' : World} {v : Value} {B n g : Nat} {xs L : List Value} {e : TypeId} (h : Has w g L 26) (hown : w.ownsRow B e 1 v n xs) (he : e ≠ 26) (hg : w.grownBy w' v.ownBlock) : Has w' g L 26 := by
  have h' : w.heap[g]? = some (.cells L.toArray 26 (0, 0)) := h
  refine (hg.block g h.lt (fun e' => ?_)).trans h
  rcases hown.2 with ⟨rfl, _⟩ | ⟨q, cap, cur, rfl, _, hq, _⟩
  · simp [Value.ownBlock] at e'
  · simp only [Value.ownBlock, Option.some.injEq] at e'
    subst e'
    rw [h'] at hq; cases hq; exact he rfl

set_option maxRecDepth 100000 in
set_option maxHeartbeats 20000000 in
theorem rpaths_any : ∀ (n : Nat) (cs : List Value) (t : T) (w : World), IsT w n cs t → Good t → Calls Tryd.prog 24 #[.agg cs.toArray] w (RPPost t w)
  | 0, _, _, _, ht => absurd ht (by simp [IsT])
  | n + 1, cs, .mk k x d ns ks, w, ht => by
    intro hgood
    obtain ⟨ad, nd, cd, an, nn, cn, ak, nk, ck, rfl, hB, hS, hK⟩ := ht
    have hnn : nn = nk := by rw [← hS.length, ← hK.length]; exact hgood.lens
    subst hnn
    have HS := Lib.hid hS
    have HK := Lib.hid hK
    have HGD := Lib.hid hgood
    obtain ⟨i0, hi, hz0, hz1, hz2⟩ := info_str_parts
    have HI := Lib.hid hi
    have HZ0 := Lib.hid hz0
    have HZ1 := Lib.hid hz1
    have HZ2 := Lib.hid hz2
    have hroom := hS.room
    unfold maxLen at hroom
    have hpl := hgood.paths ⟨#[]⟩
    rw [sizeN_mk, pathsT] at hpl
    have hpl4 : (pathsL ks ns ⟨#[]⟩).length ≤ 4096 := by omega
    clear hB hS hK hi hz0 hz1 hz2 hgood hpl
    go_enter Tryd.func24, Tryd.ntmps24
    go_upto_region 1 with fail
    obtain ⟨w1, hw1⟩ : ∃ w1, w1 = w.alloc (.cells #[.int .u8 (k.toNat : Int), .bool x, .slice ad nd cd, .slice an nn cn, .slice ak nn ck] 26) := ⟨_, rfl⟩
    have g1 : Has w1 w.heap.size [.int .u8 (k.toNat : Int), .bool x, .slice ad nd cd, .slice an nn cn, .slice ak nn ck] 26 := by rw [hw1]; exact Has.new w _ _
    have b1 : Below w.heap.size w w1 := by rw [hw1]; exact (Below.refl _ _).alloc (Nat.le_refl _) _
    have s1 : w1.heap.size = w.heap.size + 1 := by rw [hw1]; simp
    rw [← hw1]
    obtain ⟨g, hg⟩ : ∃ g, g = w.heap.size := ⟨_, rfl⟩
    rw [← hg] at g1 s1 b1 ⊢
    have HG := Lib.hid hg
    clear hg hw1
    have G1 := Lib.hid g1
    have B1 := Lib.hid b1
    clear g1 b1
    go_wp2_with fail
    go_loopw [3, 4] (fun v ii wr => ∃ (i : Nat) (Q : List ByteArray), i ≤ nn ∧ ii = .int .i64 i ∧ Q = pathsL (ks.take i) (ns.take i) ⟨#[]⟩ ∧ wr.ownsRow g 9 1 v Q.length (Q.map Value.string) ∧ Has wr g [.int .u8 (k.toNat : Int), .bool x, .slice ad nd cd, .slice an nn cn, .slice ak nn ck] 26 ∧ Below g w wr ∧ g + 1 ≤ wr.heap.size) (fun _ ii _ => nn - (intOf ii).toNat)
    case atStart => exact ⟨0, [], Nat.zero_le _, rfl, by simp [pathsL], World.ownsRow_nil _ _ _ _, G1.out, B1.out, by omega⟩
    case round =>
      clear G1 B1
      obtain ⟨i, Q, hi, rfl, hQ, hown, hg, hbel, hsz⟩ := hrel
      have cg4 := hg.cellAt (i := 4) rfl
      have cg3 := hg.cellAt (i := 3) rfl
      have HGG := Lib.hid hg
      have HOWN := Lib.hid hown
      have HBE := Lib.hid hbel
      have HQ := Lib.hid hQ
      by_cases hlt : i < nn
      · rcases HK.out.at_ with h0 | ⟨b, off, rfl, hb, hc⟩
        · omega
        rcases HS.out.at_ with h0 | ⟨bs, os, rfl, hbs, hcs⟩
        · omega
        have hkl : i < ks.length := by rw [HK.out.length]; exact hlt
        have hnl : i < ns.length := by rw [HS.out.length]; exact hlt
        obtain ⟨nm, hnm⟩ : ∃ nm, nm = ns.getD i ⟨#[]⟩ := ⟨_, rfl⟩
        have hcn : wr.cell? ⟨bs, os + i, none⟩ = some (.string nm) := by rw [hnm]; exact (hbel.cell (p := ⟨bs, os + i, none⟩) (by rw [HG.out]; exact hbs)).trans (hcs i hlt)
        have hn80 : nm.size ≤ 80 := by rw [hnm]; exact HGD.out.names i hnl
        have HBS : Hid (bs < g) := Lib.hid (by rw [HG.out]; exact hbs)
        have HBB : Hid (b < g) := Lib.hid (by rw [HG.out]; exact hb)
        obtain ⟨e0, e1, e2, e3, e4, hR, k0, k1, k2, k3, k4⟩ := hc i hlt
        have hrange : wr.rangeAt b (off + i * 5) [e0, e1, e2, e3, e4] := fun j v hv => by
          rw [Nat.add_assoc]
          match j, hv with
          | 0, hv => cases hv; exact (hbel.cell (p := ⟨b, off + (i * 5 + 0), none⟩) HBB.out).trans k0
          | 1, hv => cases hv; exact (hbel.cell (p := ⟨b, off + (i * 5 + 1), none⟩) HBB.out).trans k1
          | 2, hv => cases hv; exact (hbel.cell (p := ⟨b, off + (i * 5 + 2), none⟩) HBB.out).trans k2
          | 3, hv => cases hv; exact (hbel.cell (p := ⟨b, off + (i * 5 + 3), none⟩) HBB.out).trans k3
          | 4, hv => cases hv; exact (hbel.cell (p := ⟨b, off + (i * 5 + 4), none⟩) HBB.out).trans k4
          | j + 5, hv => simp at hv
        obtain ⟨L5, hL5⟩ : ∃ L, L = [e0, e1, e2, e3, e4] := ⟨_, rfl⟩
        rw [← hL5] at hrange hR
        have HL5 : Hid ((Tryd.prog.info? 26).map (·.size) = some L5.length) := Lib.hid (by rw [info5, hL5]; rfl)
        have HGK := Lib.hid (HGD.out.kid i hkl)
        have hpk := HGK.out.paths ⟨#[]⟩
        have hstep := pathsL_step ⟨#[]⟩ HGD.out.lens hkl
        rw [bytes_empty, ← hnm, pathsT_map] at hstep
        have hlen1 := pathsL_prefix (i := i + 1) HGD.out.lens (by omega) ⟨#[]⟩
        rw [hstep, ← hQ] at hlen1
        simp only [List.length_append, List.length_cons, List.length_map] at hlen1
        rw [← hQ] at hstep
        obtain ⟨PK, hPK⟩ : ∃ PK, PK = pathsT (ks.getD i default) ⟨#[]⟩ := ⟨_, rfl⟩
        rw [← hPK] at hstep hlen1 hpk
        have HPK := Lib.hid hPK
        have HSTEP := Lib.hid hstep
        have HPS := Lib.hid hpk.2.2
        have hQ4 : Q.length ≤ 4095 := by omega
        have hQP : Q.length + (PK.length + 1) ≤ 4096 := by omega
        have HRG := Lib.hid hrange
        have HRK := Lib.hid hR
        have HNM := Lib.hid hnm
        have HLT := Lib.hid hlt
        have hki : (i : Int) < (nn : Int) := by omega
        have hni : (i : Int) + 1 ≤ 9223372036854775807 := by omega
        have HCN := Lib.hid hcn
        have HCW : Hid (w.cell? ⟨bs, os + i, none⟩ = some (.string nm)) := Lib.hid (by rw [hnm]; exact hcs i hlt)
        clear hc hcs k0 k1 k2 k3 k4 hrange hR hL5 hnm hpk hstep hlen1 hPK hQ hg hown hbel
        go_wp2_with (at_builtin; refine wpList_append_lies _ rfl _ _ 23 rfl g 9 i0 (.string ByteArray.empty) 1 16 Tryd.underlying23 HI.out HZ0.out HZ1.out HZ2.out rfl (by omega) u3 Q.length (Q.map Value.string) rfl (HOWN.out.alloc _) ⟨wr.heap.size, 0, none⟩ 1 1 [.string nm] rfl rfl (fun j u hj => by rw [Addr.add_mid, Nat.zero_add, cell_of_row _ _ _ _ _ _ (heap_alloc_new wr _)]; simpa using hj) (fun u hu => by simp at hu; subst hu; rfl) (by omega) (by unfold maxLen; omega) (by omega) (by simp; omega) _ rfl ?_)
        intro ga capa w3 h3o h3g h3b h3s
        have HO3 : Hid (w3.ownsRow g 9 1 (.slice (some ⟨ga, 0, none⟩) (Q.length + 1) capa) (Q ++ [nm]).length ((Q ++ [nm]).map Value.string)) := Lib.hid (by simpa using h3o)
        have H3 := Lib.hid (has_grown (HGG.out.alloc (.cells #[.string nm] 9)) (HOWN.out.alloc (.cells #[.string nm] 9)) (by decide) h3g)
        have B3 : Hid (Below g w w3) := Lib.hid ((HBE.out.alloc (by omega) _).grown h3g (by simp; omega) (fun q hq => (HOWN.out.lt q hq).1))
        have s3 : wr.heap.size + 1 ≤ w3.heap.size := by have := h3g.size; simpa using this
        have HGA : Hid (g ≤ ga ∧ ga < w3.heap.size) := Lib.hid (HO3.out.lt ga rfl)
        have R3 : Hid (w3.rangeAt b (off + i * 5) L5) := Lib.hid (fun j v hv => by
          have h1 : (wr.alloc (.cells #[.string nm] 9)).cell? ⟨b, off + i * 5 + j, none⟩ = some v := (World.cell?_alloc_lt _ _ _ (by show b < wr.heap.size; have := HBB.out; omega)).trans (HRG.out j v hv)
          exact h3g.cell h1 (fun e => by have := (HOWN.out.lt b e.symm).1; have := HBB.out; omega))
        have KP := Lib.hid (rpaths_any n L5 (ks.getD i default) w3 (IsT.later (by rw [← HG.out]; exact B3.out) _ _ _ HRK.out) HGK.out)
        clear h3o h3g h3b h3s cg3 cg4 hcn
        have cg4 := H3.out.cellAt (i := 4) rfl
        go_wp2_with (refine wpList_load_mid rfl 26 _ rfl b (off + i * 5) rfl L5 _ R3.out Tryd.underlying26 rfl HL5.out ?_)
        refine KP.out.mono ?_
        rintro e w5 ⟨v5, rfl, o5, b5⟩
        rw [← HPK.out] at o5
        obtain ⟨a5, c5, rfl, i5, l5⟩ := isS_of_owns o5
        have HLT5 : Hid (∀ x, a5 = some x → w3.heap.size ≤ x.block ∧ x.block < w5.heap.size) := Lib.hid (fun x hx => ⟨l5 x hx, by subst hx; exact (o5.lt x.block rfl).2⟩)
        have HI5 := Lib.hid i5
        have HO5 := Lib.hid (row_later HO3.out b5)
        have H5 := Lib.hid (H3.out.below b5 (by omega))
        have B5 := Lib.hid (B3.out.trans (b5.mono (by omega)))
        have s5 := b5.size
        obtain ⟨lk, hlk⟩ : ∃ lk, lk = PK.length := ⟨_, rfl⟩
        rw [← hlk] at HI5 i5 hQP ⊢
        have HLK := Lib.hid hlk
        have hlk6 : lk ≤ 4096 := by omega
        clear o5 b5 i5 l5 KP hlk cg4
        go_wp2_with fail
        obtain ⟨wo, hwo⟩ : ∃ wo : World, wo = wr := ⟨_, rfl⟩
        go_loopw [3, 6] (fun v jj wx => ∃ (j : Nat) (Q2 : List ByteArray), j ≤ lk ∧ jj = .int .i64 j ∧ Q2 = Q ++ nm :: (PK.take j).map ((nm ++ ⟨#[47]⟩) ++ ·) ∧ wx.ownsRow g 9 1 v Q2.length (Q2.map Value.string) ∧ (∀ q, v.ownBlock = some q → q < w3.heap.size ∨ w5.heap.size ≤ q) ∧ IsS wx a5 lk c5 PK ∧ Has wx g [.int .u8 (k.toNat : Int), .bool x, .slice ad nd cd, .slice (some ⟨bs, os, none⟩) nn cn, .slice (some ⟨b, off, none⟩) nn ck] 26 ∧ Below g w wx ∧ w5.heap.size ≤ wx.heap.size) (fun _ jj _ => lk - (intOf jj).toNat)
        case atStart => exact ⟨0, Q ++ [nm], Nat.zero_le _, rfl, by simp, HO5.out, (fun q hq => by simp only [Value.ownBlock, Option.some.injEq] at hq; subst hq; exact .inl HGA.out.2), HI5.out, H5.out, B5.out, Nat.le_refl _⟩
        case round =>
          clear HO3 HO5 HI5 H5 B5 H3 B3
          obtain ⟨j, Q2, hj, rfl, hQ2, hown, hvb, hI, hg, hbel, hsz5⟩ := hrel
          have HQ2 := Lib.hid hQ2
          have HOW := Lib.hid hown
          have HVB := Lib.hid hvb
          have HII := Lib.hid hI
          have HGX := Lib.hid hg
          have HBX := Lib.hid hbel
          by_cases hjl : j < lk
          · skip
            rcases HII.out.at_ with h0 | ⟨b5, o5, rfl, hb5, hc5⟩
            · omega
            obtain ⟨pj, hpj⟩ : ∃ p, p = PK.getD j ⟨#[]⟩ := ⟨_, rfl⟩
            have hjp : j < PK.length := by rw [← HLK.out]; exact hjl
            have hps : pj.size ≤ 1457 := by
              have := HPS.out pj (by rw [hpj, List.getD_eq_getElem?_getD, List.getElem?_eq_getElem hjp]; exact List.getElem_mem _)
              have h0 : (⟨#[]⟩ : ByteArray).size = 0 := rfl
              omega
            have hcp : wr.cell? ⟨b5, o5 + j, none⟩ = some (.string pj) := by rw [hpj]; exact hc5 j hjl
            have hcn : wr.cell? ⟨bs, os + i, none⟩ = some (.string nm) := (hbel.cell (p := ⟨bs, os + i, none⟩) HBS.out).trans HCW.out
            have HST2 : Hid (Q2 ++ [nm ++ ⟨#[47]⟩ ++ pj] = Q ++ nm :: (PK.take (j + 1)).map ((nm ++ ⟨#[47]⟩) ++ ·)) := Lib.hid (by
              have e : PK.take (j + 1) = PK.take j ++ [pj] := by rw [List.take_succ_eq_append_getElem hjp, hpj, List.getD_eq_getElem?_getD, List.getElem?_eq_getElem hjp]; rfl
              rw [HQ2.out, e, List.map_append, List.map_cons, List.map_nil, List.append_assoc, List.cons_append])
            have hq2l : Q2.length + 1 ≤ 4096 := by rw [HQ2.out]; simp; omega
            have HL5B := Lib.hid (HLT5.out _ rfl)
            have HJL := Lib.hid hjl
            have hjk : (j : Int) < (lk : Int) := by omega
            have hnj : (j : Int) + 1 ≤ 9223372036854775807 := by omega
            have hcat1 : ¬ 9223372036854775807 < nm.size + 1 := by omega
            have hcat2 : ¬ 9223372036854775807 < nm.size + 1 + pj.size := by omega
            have hcat3 : ¬ 9223372036854775807 < (nm ++ ⟨#[47]⟩).size + pj.size := by
              have : (nm ++ ⟨#[47]⟩ : ByteArray).size = nm.size + 1 := ByteArray.size_append
              omega
            obtain ⟨A5, hA5⟩ : ∃ A5 : List Value, A5 = [.int .u8 (k.toNat : Int), .bool x, .slice ad nd cd, .slice (some ⟨bs, os, none⟩) nn cn, .slice (some ⟨b, off, none⟩) nn ck] := ⟨_, rfl⟩
            have HA5 := Lib.hid hA5
            have HGA5 : Hid (Has wr g A5 26) := Lib.hid (by rw [hA5]; exact hg)
            have HCN2 := Lib.hid hcn
            have HCP := Lib.hid hcp
            have hroom5 := HII.out.room
            unfold maxLen at hroom5
            clear hpj hc5 hQ2 hown hvb hI hg hbel hA5 hcn hcp hps
            go_upto_region 10 with fail
            refine wp_region_held_drew (S := fun W => Has W g A5 26 ∧ W.cell? ⟨bs, os + i, none⟩ = some (.string nm) ∧ W.cell? ⟨b5, o5 + j, none⟩ = some (.string pj)) (by kernel_rfl) ⟨HGA5.out.drew, HCN2.out, HCP.out⟩ (fun hHeld => ?_)
            refine wpAnyH_take (i := 0) (oi := { dst := some 41, op := Op.move (Operand.tmp 3), type := 23, pos := "ref.go:157", after := #[], guard := none }) (v := u3) rfl (by kernel_rfl) (by kernel_rfl) (by kernel_rfl) (fun _ _ _ h => h)
              (Or.inl ⟨by rfl, by intro w hSw; have hSc := Has.cellAt hSw.1 (i := 3) (v := .slice (some ⟨bs, os, none⟩) nn cn) (by rw [HA5.out]; rfl); have hS1 := hSw.2.1; have hS2 := hSw.2.2; clear hSw; go_simp⟩) hHeld ?_
            try simp only [Act.put, List.setIfInBounds_toArray, List.set_cons_zero, List.set_cons_succ]
            refine wpAnyH_take (i := 1) (oi := { dst := some 42, op := Op.fieldAddr 26 (Operand.tmp 1) 3, type := 0, pos := "ref.go:157", after := #[], guard := none }) (v := .pointer (some ⟨g, 3, none⟩)) rfl (by kernel_rfl) (by kernel_rfl) (by kernel_rfl) (fun _ _ _ h => h)
              (Or.inl ⟨by rfl, by intro w hSw; have hSc := Has.cellAt hSw.1 (i := 3) (v := .slice (some ⟨bs, os, none⟩) nn cn) (by rw [HA5.out]; rfl); have hS1 := hSw.2.1; have hS2 := hSw.2.2; clear hSw; go_simp⟩) hHeld ?_
            try simp only [Act.put, List.setIfInBounds_toArray, List.set_cons_zero, List.set_cons_succ]
            refine wpAnyH_take (i := 2) (oi := { dst := some 43, op := Op.load 23 (Operand.tmp 42), type := 23, pos := "ref.go:157", after := #[{ on := 1, ground := Ground.data }], guard := none }) (v := .slice (some ⟨bs, os, none⟩) nn cn) rfl (by kernel_rfl) (by kernel_rfl) (by kernel_rfl) (fun _ _ _ h => h)
              (Or.inl ⟨by rfl, by intro w hSw; have hSc := Has.cellAt hSw.1 (i := 3) (v := .slice (some ⟨bs, os, none⟩) nn cn) (by rw [HA5.out]; rfl); have hS1 := hSw.2.1; have hS2 := hSw.2.2; clear hSw; go_simp⟩) hHeld ?_
            try simp only [Act.put, List.setIfInBounds_toArray, List.set_cons_zero, List.set_cons_succ]
            refine wpAnyH_take (i := 3) (oi := { dst := some 44, op := Op.move (Operand.tmp 4), type := 3, pos := "ref.go:157", after := #[], guard := none }) (v := .int .i64 (i : Int)) rfl (by kernel_rfl) (by kernel_rfl) (by kernel_rfl) (fun _ _ _ h => h)
              (Or.inl ⟨by rfl, by intro w hSw; have hSc := Has.cellAt hSw.1 (i := 3) (v := .slice (some ⟨bs, os, none⟩) nn cn) (by rw [HA5.out]; rfl); have hS1 := hSw.2.1; have hS2 := hSw.2.2; clear hSw; go_simp⟩) hHeld ?_
            try simp only [Act.put, List.setIfInBounds_toArray, List.set_cons_zero, List.set_cons_succ]
            refine wpAnyH_take (i := 4) (oi := { dst := some 45, op := Op.indexAddr 23 (Operand.tmp 43) (Operand.tmp 44), type := 0, pos := "ref.go:157", after := #[{ on := 2, ground := Ground.data }, { on := 3, ground := Ground.data }], guard := none }) (v := .pointer (some ⟨bs, os + i, none⟩)) rfl (by kernel_rfl) (by kernel_rfl) (by kernel_rfl) (fun _ _ _ h => h)
              (Or.inl ⟨by rfl, by intro w hSw; have hSc := Has.cellAt hSw.1 (i := 3) (v := .slice (some ⟨bs, os, none⟩) nn cn) (by rw [HA5.out]; rfl); have hS1 := hSw.2.1; have hS2 := hSw.2.2; clear hSw; go_simp⟩) hHeld ?_
            try simp only [Act.put, List.setIfInBounds_toArray, List.set_cons_zero, List.set_cons_succ]
            refine wpAnyH_take (i := 5) (oi := { dst := some 46, op := Op.load 9 (Operand.tmp 45), type := 9, pos := "ref.go:157", after := #[{ on := 4, ground := Ground.data }], guard := none }) (v := .string nm) rfl (by kernel_rfl) (by kernel_rfl) (by kernel_rfl) (fun _ _ _ h => h)
              (Or.inl ⟨by rfl, by intro w hSw; have hSc := Has.cellAt hSw.1 (i := 3) (v := .slice (some ⟨bs, os, none⟩) nn cn) (by rw [HA5.out]; rfl); have hS1 := hSw.2.1; have hS2 := hSw.2.2; clear hSw; go_simp⟩) hHeld ?_
            try simp only [Act.put, List.setIfInBounds_toArray, List.set_cons_zero, List.set_cons_succ]
            refine wpAnyH_take (i := 6) (oi := { dst := some 47, op := Op.binOp BinOp.add 9 (Operand.tmp 46) (Operand.const (Value.string { data := #[47] })) 9, type := 9, pos := "ref.go:157", after := #[{ on := 5, ground := Ground.data }], guard := none }) (v := .string (nm ++ ⟨#[47]⟩)) rfl (by kernel_rfl) (by kernel_rfl) (by kernel_rfl) (fun _ _ _ h => h)
              (Or.inl ⟨by rfl, by intro w hSw; have hSc := Has.cellAt hSw.1 (i := 3) (v := .slice (some ⟨bs, os, none⟩) nn cn) (by rw [HA5.out]; rfl); have hS1 := hSw.2.1; have hS2 := hSw.2.2; clear hSw; go_simp⟩) hHeld ?_
            try simp only [Act.put, List.setIfInBounds_toArray, List.set_cons_zero, List.set_cons_succ]
            refine wpAnyH_take (i := 7) (oi := { dst := some 48, op := Op.move (Operand.tmp 5), type := 23, pos := "ref.go:157", after := #[], guard := none }) (v := .slice (some ⟨b5, o5, none⟩) lk c5) rfl (by kernel_rfl) (by kernel_rfl) (by kernel_rfl) (fun _ _ _ h => h)
              (Or.inl ⟨by rfl, by intro w hSw; have hSc := Has.cellAt hSw.1 (i := 3) (v := .slice (some ⟨bs, os, none⟩) nn cn) (by rw [HA5.out]; rfl); have hS1 := hSw.2.1; have hS2 := hSw.2.2; clear hSw; go_simp⟩) hHeld ?_
            try simp only [Act.put, List.setIfInBounds_toArray, List.set_cons_zero, List.set_cons_succ]
            refine wpAnyH_take (i := 8) (oi := { dst := some 49, op := Op.move (Operand.tmp 6), type := 3, pos := "ref.go:157", after := #[], guard := none }) (v := .int .i64 (j : Int)) rfl (by kernel_rfl) (by kernel_rfl) (by kernel_rfl) (fun _ _ _ h => h)
              (Or.inl ⟨by rfl, by intro w hSw; have hSc := Has.cellAt hSw.1 (i := 3) (v := .slice (some ⟨bs, os, none⟩) nn cn) (by rw [HA5.out]; rfl); have hS1 := hSw.2.1; have hS2 := hSw.2.2; clear hSw; go_simp⟩) hHeld ?_
            try simp only [Act.put, List.setIfInBounds_toArray, List.set_cons_zero, List.set_cons_succ]
            refine wpAnyH_take (i := 9) (oi := { dst := some 50, op := Op.indexAddr 23 (Operand.tmp 48) (Operand.tmp 49), type := 0, pos := "ref.go:157", after := #[{ on := 7, ground := Ground.data }, { on := 8, ground := Ground.data }], guard := none }) (v := .pointer (some ⟨b5, o5 + j, none⟩)) rfl (by kernel_rfl) (by kernel_rfl) (by kernel_rfl) (fun _ _ _ h => h)
              (Or.inl ⟨by rfl, by intro w hSw; have hSc := Has.cellAt hSw.1 (i := 3) (v := .slice (some ⟨bs, os, none⟩) nn cn) (by rw [HA5.out]; rfl); have hS1 := hSw.2.1; have hS2 := hSw.2.2; clear hSw; go_simp⟩) hHeld ?_
            try simp only [Act.put, List.setIfInBounds_toArray, List.set_cons_zero, List.set_cons_succ]
            refine wpAnyH_take (i := 10) (oi := { dst := some 51, op := Op.load 9 (Operand.tmp 50), type := 9, pos := "ref.go:157", after := #[{ on := 9, ground := Ground.data }], guard := none }) (v := .string pj) rfl (by kernel_rfl) (by kernel_rfl) (by kernel_rfl) (fun _ _ _ h => h)
              (Or.inl ⟨by rfl, by intro w hSw; have hSc := Has.cellAt hSw.1 (i := 3) (v := .slice (some ⟨bs, os, none⟩) nn cn) (by rw [HA5.out]; rfl); have hS1 := hSw.2.1; have hS2 := hSw.2.2; clear hSw; go_simp⟩) hHeld ?_
            try simp only [Act.put, List.setIfInBounds_toArray, List.set_cons_zero, List.set_cons_succ]
            refine wpAnyH_take (i := 11) (oi := { dst := some 52, op := Op.binOp BinOp.add 9 (Operand.tmp 47) (Operand.tmp 51) 9, type := 9, pos := "ref.go:157", after := #[{ on := 6, ground := Ground.data }, { on := 10, ground := Ground.data }], guard := none }) (v := .string (nm ++ ⟨#[47]⟩ ++ pj)) rfl (by kernel_rfl) (by kernel_rfl) (by kernel_rfl) (fun _ _ _ h => h)
              (Or.inl ⟨by rfl, by intro w hSw; have hSc := Has.cellAt hSw.1 (i := 3) (v := .slice (some ⟨bs, os, none⟩) nn cn) (by rw [HA5.out]; rfl); have hS1 := hSw.2.1; have hS2 := hSw.2.2; clear hSw; go_simp⟩) hHeld ?_
            try simp only [Act.put, List.setIfInBounds_toArray, List.set_cons_zero, List.set_cons_succ]
            refine wpAnyH_ready (rs := [12]) (by kernel_rfl) (by simp) ?_
            refine AllReadyH.cons (o := { dst := some 53, op := Op.buildSlice 23 1 #[(0, Operand.tmp 52)], type := 23, pos := "ref.go:157", after := #[{ on := 11, ground := Ground.data }], guard := none }) rfl (fun K hK => ?_) AllReadyH.nil
            go_simp
            obtain ⟨PT, hPT⟩ : ∃ PT, PT = nm ++ ⟨#[47]⟩ ++ pj := ⟨_, rfl⟩
            rw [← hPT]
            rw [← hPT] at HST2
            obtain ⟨w6, hw6⟩ : ∃ w6, w6 = (wr.alloc (.cells #[.string PT] 9)).drew := ⟨_, rfl⟩
            have p6 : Has w6 wr.heap.size [.string PT] 9 := by rw [hw6]; exact (Has.new wr [.string PT] _).drew
            have o6 : w6.ownsRow g 9 1 u3 Q2.length (Q2.map Value.string) := by rw [hw6]; exact HOW.out.alloc _
            have g6 : Has w6 g A5 26 := by rw [hw6]; exact (HGA5.out.alloc _).drew
            have x6 : w6.cell? ⟨bs, os + i, none⟩ = some (.string nm) := by rw [hw6]; exact (World.cell?_alloc_lt _ _ _ (World.block_lt_of_cell? wr _ HCN2.out)).trans HCN2.out
            have y6 : w6.cell? ⟨b5, o5 + j, none⟩ = some (.string pj) := by rw [hw6]; exact (World.cell?_alloc_lt _ _ _ (World.block_lt_of_cell? wr _ HCP.out)).trans HCP.out
            have b6 : Below g w w6 := by rw [hw6]; exact (HBX.out.alloc (by omega) _).drew
            have i6 : IsS w6 (some ⟨b5, o5, none⟩) lk c5 PK := by
              have h := HII.out.later ((Below.refl _ wr).alloc (Nat.le_refl _) (.cells #[.string PT] 9))
              rw [hw6]; exact h.later (below_drewT (Below.refl _ _))
            have s6 : w6.heap.size = wr.heap.size + 1 := by rw [hw6]; simp
            rw [← hw6]
            have P6 := Lib.hid p6
            have O6 := Lib.hid o6
            have G6 := Lib.hid g6
            have X6 := Lib.hid x6
            have Y6 := Lib.hid y6
            have BB6 := Lib.hid b6
            have I6 := Lib.hid i6
            clear hw6 p6 o6 g6 x6 y6 b6 i6 hPT
            refine hK.out _ _ ⟨G6.out, X6.out, Y6.out⟩ (fun hHeld2 => ?_)
            clear hK K hHeld
            try simp only [Act.put, List.setIfInBounds_toArray, List.set_cons_zero, List.set_cons_succ]
            refine wpAnyH_ready (rs := [13]) (by kernel_rfl) (by simp) ?_
            refine AllReadyH.cons (o := { dst := some 54, op := Op.call { callee := Callee.builtin Builtin.append, args := #[Operand.tmp 41, Operand.tmp 53], argTypes := #[23, 23] }, type := 23, pos := "ref.go:157", after := #[{ on := 0, ground := Ground.data }, { on := 12, ground := Ground.data }], guard := none }) rfl (fun K hK => ?_) AllReadyH.nil
            rw [if_pos (by rfl)]
            refine wp_append_lies _ (.tmp 41) (.tmp 53) 23 rfl g 9 i0 (.string ByteArray.empty) 1 16 Tryd.underlying23 HI.out HZ0.out HZ1.out HZ2.out rfl (by omega) u3 Q2.length (Q2.map Value.string) rfl O6.out ⟨wr.heap.size, 0, none⟩ 1 1 [.string PT] rfl rfl (fun j u hj => ?_) (fun u hu => ?_) (by omega) (by unfold maxLen; omega) (by omega) (by omega) w6.heap.size rfl (fun ga2 capa2 w7 h7o h7g h7b h7s => ?_)
            · match j, hj with
              | 0, hj => cases hj; rw [Addr.add_mid]; exact P6.out.cellAt (i := 0) rfl
              | j + 1, hj => simp at hj
            · simp at hu; subst hu; rfl
            have hg7 : Has w7 g A5 26 := has_grown G6.out O6.out (by decide) h7g
            have hne1 : some bs ≠ u3.ownBlock := fun e => by have := (O6.out.lt bs e.symm).1; have := HBS.out; omega
            have hne2 : some b5 ≠ u3.ownBlock := fun e => by
              have h1 := HL5B.out
              have h2 := HVB.out b5 e.symm
              have h3 : (⟨b5, o5, none⟩ : Addr).block = b5 := rfl
              rw [h3] at h1
              omega
            have hx7 : w7.cell? ⟨bs, os + i, none⟩ = some (.string nm) := h7g.cell X6.out hne1
            have hy7 : w7.cell? ⟨b5, o5 + j, none⟩ = some (.string pj) := h7g.cell Y6.out hne2
            refine hK.out _ _ ⟨hg7, hx7, hy7⟩ (fun hHeld3 => ?_)
            clear hK K hHeld2
            try simp only [Act.put, List.setIfInBounds_toArray, List.set_cons_zero, List.set_cons_succ]
            refine wpAnyH_take (i := 14) (oi := { dst := some 3, op := Op.assign (Operand.tmp 54), type := 23, pos := "ref.go:157", after := #[{ on := 13, ground := Ground.data }, { on := 13, ground := Ground.chain }, { on := 0, ground := Ground.phase }, { on := 1, ground := Ground.phase }, { on := 2, ground := Ground.phase }, { on := 3, ground := Ground.phase }, { on := 4, ground := Ground.phase }, { on := 5, ground := Ground.phase }, { on := 6, ground := Ground.phase }, { on := 7, ground := Ground.phase }, { on := 8, ground := Ground.phase }, { on := 9, ground := Ground.phase }, { on := 10, ground := Ground.phase }, { on := 11, ground := Ground.phase }, { on := 12, ground := Ground.phase }, { on := 13, ground := Ground.phase }], guard := none }) (v := .slice (some ⟨ga2, 0, none⟩) (Q2.length + 1) capa2) rfl (by kernel_rfl) (by kernel_rfl) (by kernel_rfl) (fun _ _ _ h => h)
              (Or.inl ⟨by rfl, by intro w hSw; have hSc := Has.cellAt hSw.1 (i := 3) (v := .slice (some ⟨bs, os, none⟩) nn cn) (by rw [HA5.out]; rfl); have hS1 := hSw.2.1; have hS2 := hSw.2.2; clear hSw; go_simp⟩) hHeld3 ?_
            try simp only [Act.put, List.setIfInBounds_toArray, List.set_cons_zero, List.set_cons_succ]
            refine wpAnyH_done (by kernel_rfl) ?_ _
            have HO7 : Hid (w7.ownsRow g 9 1 (.slice (some ⟨ga2, 0, none⟩) (Q2.length + 1) capa2) (Q2 ++ [PT]).length ((Q2 ++ [PT]).map Value.string)) := Lib.hid (by simpa using h7o)
            have HV7 : Hid (∀ q, (Value.slice (some ⟨ga2, 0, none⟩) (Q2.length + 1) capa2).ownBlock = some q → q < w3.heap.size ∨ w5.heap.size ≤ q) := Lib.hid (fun q hq => by
              simp only [Value.ownBlock, Option.some.injEq] at hq
              subst hq
              rcases h7b with h | h
              · exact HVB.out _ h
              · right; omega)
            have HI7 : Hid (IsS w7 (some ⟨b5, o5, none⟩) lk c5 PK) := Lib.hid (isS_grown I6.out h7g (fun x q hx hq e => by
              cases hx
              exact hne2 (by rw [hq, ← e])))
            have HG7 := Lib.hid (show Has w7 g [.int .u8 (k.toNat : Int), .bool x, .slice ad nd cd, .slice (some ⟨bs, os, none⟩) nn cn, .slice (some ⟨b, off, none⟩) nn ck] 26 by rw [← HA5.out]; exact hg7)
            have HB7 := Lib.hid (BB6.out.grown h7g (by omega) (fun q hq => (O6.out.lt q hq).1))
            have s7 : w5.heap.size ≤ w7.heap.size := by have := h7g.size; omega
            clear h7o h7g h7b h7s hg7 hne1 hne2 hx7 hy7 hHeld3
            go_wp2_with fail
            go_roundw
            case rel => exact ⟨j + 1, Q2 ++ [PT], by have := HJL.out; omega, by go_num, HST2.out, HO7.out, HV7.out, HI7.out, HG7.out, HB7.out, s7⟩
            case measure =>
              have := HJL.out
              simp only [intOf]; omega
          · obtain rfl : lk = j := by omega
            have HQF : Hid (Q2 = pathsL (ks.take (i + 1)) (ns.take (i + 1)) ⟨#[]⟩) := Lib.hid (by rw [HSTEP.out, HQ2.out, List.take_of_length_le (by rw [HLK.out]; exact Nat.le_refl _)])
            clear hQ2 hown hvb hI hg hbel
            go_wp2_with fail
            go_roundw
            case rel => exact ⟨i + 1, Q2, by have := HLT.out; omega, by go_num, HQF.out, HOW.out, HGX.out, HBX.out, by omega⟩
            case measure =>
              have := HLT.out
              simp only [intOf]; omega
      · obtain rfl : nn = i := by omega
        have HFI : Hid (Q = pathsT (.mk k x d ns ks) ⟨#[]⟩) := Lib.hid (by rw [HQ.out, pathsT, List.take_of_length_le (by rw [HK.out.length]; exact Nat.le_refl _), List.take_of_length_le (by rw [HS.out.length]; exact Nat.le_refl _)])
        clear hQ hg hown hbel
        go_wp2_with fail
        go_ret
        exact ⟨u3, rfl, by rw [← HFI.out, ← HG.out]; exact HOWN.out, by rw [← HG.out]; exact HBE.out⟩

end Go.Proofs.YtmgfgldabjgmmaaDoor
