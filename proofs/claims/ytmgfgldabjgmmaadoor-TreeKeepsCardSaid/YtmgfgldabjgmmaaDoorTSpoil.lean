/-
  Writing over all of a tree in memory of its own: the law's spoil. Conditions: the tree is in rows of its own.
-/
import Derived.Test.YtmgfgldabjgmmaaDoorTAtOk
import Derived.Test.YtmgfgldabjgmmaaDoorTRSame
namespace Go.Proofs.YtmgfgldabjgmmaaDoor
open Go.RowKit
set_option linter.unusedVariables false

/-- A row of one's own of some bytes, of some texts. -/
def AnyB (w : World) (B : Nat) (v : Value) (n : Nat) : Prop := ∃ d : List UInt8, d.length = n ∧ w.ownsRow B 5 1 v n (d.map bv)
def AnyS (w : World) (B : Nat) (v : Value) (n : Nat) : Prop := ∃ l : List ByteArray, l.length = n ∧ w.ownsRow B 9 1 v n (l.map Value.string)

/-- What writing over trees keeps: all below B; trees' cells; rows of bytes and of texts as such. -/
structure Spo (B : Nat) (w w' : World) : Prop where
  below : Below B w w'
  tree : ∀ q L, Has w q L 26 → Has w' q L 26
  anyB : ∀ v n, AnyB w B v n → AnyB w' B v n
  anyS : ∀ v n, AnyS w B v n → AnyS w' B v n

theorem Spo.refl (B : Nat) (w : World) : Spo B w w := ⟨Below.refl _ _, fun _ _ h => h, fun _ _ h => h, fun _ _ h => h⟩
theorem Spo.trans {B : Nat} {x y z : World} (h : Spo B x y) (k : Spo B y z) : Spo B x z :=
  ⟨h.below.trans k.below, fun q L hq => k.tree q L (h.tree q L hq), fun v n hv => k.anyB v n (h.anyB v n hv), fun v n hv => k.anyS v n (h.anyS v n hv)⟩
theorem Spo.of_below {B : Nat} {w w' : World} (h : Below w.heap.size w w') (hB : B ≤ w.heap.size) : Spo B w w' :=
  ⟨h.mono hB, fun q L hq => hq.below h hq.lt, fun v n ⟨d, hl, ho⟩ => ⟨d, hl, row_later ho h⟩, fun v n ⟨d, hl, ho⟩ => ⟨d, hl, row_later ho h⟩⟩

theorem grown_set (w : World) (q j : Nat) (u : Value) : w.grownBy (w.setCell ⟨q, j, none⟩ u) (some q) :=
  ⟨rfl, rfl, rfl, by simp, fun k _ hk => heap_setCell_other w ⟨q, j, none⟩ k u (fun e => hk (by simp [e]))⟩

theorem own_block_type {w : World} {B q n size : Nat} {e e' : TypeId} {v : Value} {xs : List Value} {cur : Array Value} {f : Nat × Nat} (h : w.ownsRow B e size v n xs) (hq : w.heap[q]? = some (.cells cur e' f)) (he : e ≠ e') : v.ownBlock ≠ some q := by
  intro hv
  rcases h.2 with ⟨rfl, _⟩ | ⟨g, cap, cur', rfl, _, hg, _⟩
  · cases hv
  · simp only [Value.ownBlock, Option.some.injEq] at hv
    subst hv
    rw [hg] at hq; cases hq; exact he rfl

theorem has_set_other {w : World} {q q' j : Nat} {L : List Value} {u : Value} {cur : Array Value} {f : Nat × Nat} {e : TypeId} (h : Has w q' L 26) (hq : w.heap[q]? = some (.cells cur e f)) (he : e ≠ 26) : Has (w.setCell ⟨q, j, none⟩ u) q' L 26 := by
  refine h.setOther (fun e' => ?_) _
  have h' : w.heap[q']? = some (.cells L.toArray 26 (0, 0)) := h
  have e2 : q' = q := e'
  rw [e2, hq] at h'
  cases h'
  exact he rfl

/-- A byte is stored into a row of bytes. -/
theorem Spo.setB {B q j : Nat} {w : World} {cur : Array Value} (hB : B ≤ q) (hq : w.heap[q]? = some (.cells cur 5 (0, 0))) (x : UInt8) : Spo B w (w.setCell ⟨q, j, none⟩ (bv x)) := by
  refine ⟨(Below.refl _ _).setCell (by exact hB) _, fun q' L h => has_set_other h hq (by decide), fun v n ⟨d, hl, ho⟩ => ?_, fun v n ⟨d, hl, ho⟩ => ⟨d, hl, ho.kept (grown_set _ _ _ _) (.inr (own_block_type ho hq (by decide)))⟩⟩
  by_cases hv : v.ownBlock = some q
  · rcases ho.2 with ⟨rfl, _⟩ | ⟨g, cap, cur', rfl, _⟩
    · cases hv
    · simp only [Value.ownBlock, Option.some.injEq] at hv
      subst hv
      refine ⟨d.set j x, by simpa using hl, ?_⟩
      have := (World.ownsRow.stored ho j (bv x)).1
      rwa [← List.map_set] at this
  · exact ⟨d, hl, ho.kept (grown_set _ _ _ _) (.inr hv)⟩

/-- A text is stored into a row of texts. -/
theorem Spo.setS {B q j : Nat} {w : World} {cur : Array Value} (hB : B ≤ q) (hq : w.heap[q]? = some (.cells cur 9 (0, 0))) (x : ByteArray) : Spo B w (w.setCell ⟨q, j, none⟩ (.string x)) := by
  refine ⟨(Below.refl _ _).setCell (by exact hB) _, fun q' L h => has_set_other h hq (by decide), fun v n ⟨d, hl, ho⟩ => ⟨d, hl, ho.kept (grown_set _ _ _ _) (.inr (own_block_type ho hq (by decide)))⟩, fun v n ⟨d, hl, ho⟩ => ?_⟩
  by_cases hv : v.ownBlock = some q
  · rcases ho.2 with ⟨rfl, _⟩ | ⟨g, cap, cur', rfl, _⟩
    · cases hv
    · simp only [Value.ownBlock, Option.some.injEq] at hv
      subst hv
      refine ⟨d.set j x, by simpa using hl, ?_⟩
      have := (World.ownsRow.stored ho j (.string x)).1
      rwa [← List.map_set] at this
  · exact ⟨d, hl, ho.kept (grown_set _ _ _ _) (.inr hv)⟩

/-- Five cells of the form of this tree, whatever stands in its rows. -/
def SFlat (w : World) (B : Nat) (G : Nat → Option (List T)) (cs : List Value) : T → Prop
  | .mk k x d ns ks => ∃ vd vn ak nk ck, cs = [.int .u8 (k.toNat : Int), .bool x, vd, vn, .slice ak nk ck] ∧ AnyB w B vd d.length ∧ AnyS w B vn ns.length ∧
      nk = ks.length ∧ nk ≤ ck ∧ ck ≤ maxLen ∧ ((ks = [] ∧ (ak = none → ck = 0)) ∨ ∃ b, ak = some ⟨b, 0, none⟩ ∧ ks ≠ [] ∧ G b = some ks)
def SAll (w : World) (B : Nat) (G : Nat → Option (List T)) : Prop := ∀ b ks, G b = some ks → ∃ L, Has w b L 26 ∧ ∀ i, i < ks.length → SFlat w B G (five L i) (ks.getD i default)

theorem SFlat.step {w w' : World} {B : Nat} {G : Nat → Option (List T)} {cs : List Value} {t : T} (h : SFlat w B G cs t) (hs : Spo B w w') : SFlat w' B G cs t := by
  obtain ⟨k, x, d, ns, ks⟩ := t
  obtain ⟨vd, vn, ak, nk, ck, hcs, hd, hn, h1⟩ := h
  exact ⟨vd, vn, ak, nk, ck, hcs, hs.anyB _ _ hd, hs.anyS _ _ hn, h1⟩
theorem SAll.step {w w' : World} {B : Nat} {G : Nat → Option (List T)} (h : SAll w B G) (hs : Spo B w w') : SAll w' B G := fun b ks hg => by
  obtain ⟨L, hL, hF⟩ := h b ks hg
  exact ⟨L, hs.tree _ _ hL, fun i hi => (hF i hi).step hs⟩
theorem Flat.any {w : World} {B : Nat} {G : Nat → Option (List T)} {cs : List Value} {t : T} (h : Flat w B G cs t) : SFlat w B G cs t := by
  obtain ⟨k, x, d, ns, ks⟩ := t
  obtain ⟨vd, vn, ak, nk, ck, hcs, hd, hn, h1⟩ := h
  exact ⟨vd, vn, ak, nk, ck, hcs, ⟨d, rfl, hd⟩, ⟨ns, rfl, hn⟩, h1⟩
theorem Closed.any {w : World} {B : Nat} {G : Nat → Option (List T)} {cs : List Value} {t : T} (h : Closed w B G cs t) : SFlat w B G cs t ∧ SAll w B G :=
  ⟨h.2.any, fun b ks hg => by
    obtain ⟨_, L, hL, hF⟩ := h.1 b ks hg
    exact ⟨L, hL, fun i hi => (hF i hi).any⟩⟩

theorem AnyB.slice {w : World} {B : Nat} {v : Value} {n : Nat} (h : AnyB w B v n) : ∃ a c, v = .slice a n c ∧ n ≤ maxLen := by
  obtain ⟨d, hl, ho⟩ := h
  rcases ho.2 with ⟨rfl, rfl⟩ | ⟨g, cap, cur, rfl, _, _, h1, h2, _⟩
  · exact ⟨_, _, rfl, Nat.zero_le _⟩
  · exact ⟨_, _, rfl, Nat.le_trans h1 h2⟩
theorem AnyS.slice {w : World} {B : Nat} {v : Value} {n : Nat} (h : AnyS w B v n) : ∃ a c, v = .slice a n c ∧ n ≤ maxLen := by
  obtain ⟨d, hl, ho⟩ := h
  rcases ho.2 with ⟨rfl, rfl⟩ | ⟨g, cap, cur, rfl, _, _, h1, h2, _⟩
  · exact ⟨_, _, rfl, Nat.zero_le _⟩
  · exact ⟨_, _, rfl, Nat.le_trans h1 h2⟩
theorem AnyB.cell {w : World} {B : Nat} {a : Option Addr} {n c i : Nat} (h : AnyB w B (.slice a n c) n) (hi : i < n) : ∃ q cur x, a = some ⟨q, 0, none⟩ ∧ B ≤ q ∧ w.heap[q]? = some (.cells cur 5 (0, 0)) ∧ w.cell? ⟨q, i, none⟩ = some (bv x) := by
  obtain ⟨d, hl, ho⟩ := h
  rcases ho.2 with ⟨_, h0⟩ | ⟨g, cap, cur, he, hB, hg, _⟩
  · omega
  · cases he
    refine ⟨g, cur, d.getD i 0, rfl, hB, hg, ?_⟩
    rw [World.ownsRow.cellAt ho i (by omega), List.getElem?_map, List.getElem?_eq_getElem (by omega)]
    simp [List.getD, List.getElem?_eq_getElem (show i < d.length by omega)]
theorem AnyS.cell {w : World} {B : Nat} {a : Option Addr} {n c i : Nat} (h : AnyS w B (.slice a n c) n) (hi : i < n) : ∃ q cur x, a = some ⟨q, 0, none⟩ ∧ B ≤ q ∧ w.heap[q]? = some (.cells cur 9 (0, 0)) ∧ w.cell? ⟨q, i, none⟩ = some (.string x) := by
  obtain ⟨d, hl, ho⟩ := h
  rcases ho.2 with ⟨_, h0⟩ | ⟨g, cap, cur, he, hB, hg, _⟩
  · omega
  · cases he
    refine ⟨g, cur, d.getD i ⟨#[]⟩, rfl, hB, hg, ?_⟩
    rw [World.ownsRow.cellAt ho i (by omega), List.getElem?_map, List.getElem?_eq_getElem (by omega)]
    simp [List.getD, List.getElem?_eq_getElem (show i < d.length by omega)]

theorem xor_byte (y : Int) : ∃ x : UInt8, Value.int .u8 (bits .xor .u8 y 1) = bv x := by
  have h : ∃ m : Int, bits .xor .u8 y 1 = m % 256 := ⟨_, by simp only [bits]; exact IntKind.wrap_u8 _⟩
  obtain ⟨m, hm⟩ := h
  refine ⟨UInt8.ofNat (m % 256).toNat, ?_⟩
  have e : (((UInt8.ofNat (m % 256).toNat).toNat : Nat) : Int) = m % 256 := by rw [UInt8.toNat_ofNat']; omega
  unfold bv
  rw [hm, e]

theorem Spo.drew (B : Nat) (w : World) : Spo B w w.drew := ⟨(Below.refl _ _).drew, fun _ _ h => h, fun _ _ h => h, fun _ _ h => h⟩

def kindT : T → UInt8 | .mk k _ _ _ _ => k
def execT : T → Bool | .mk _ x _ _ _ => x

set_option maxRecDepth 100000 in
set_option maxHeartbeats 20000000 in
theorem spoil_any (B : Nat) (G : Nat → Option (List T)) : ∀ (N : Nat) (t : T) (cs : List Value) (w : World), sizeN t ≤ N → SFlat w B G cs t → SAll w B G → B ≤ w.heap.size →
    Calls Tryd.prog 27 #[.agg cs.toArray] w fun e w' => e = .returned (.tuple #[]) ∧ Spo B w w'
  | 0, t, _, _, hN => by have := sizeN_pos t; omega
  | N + 1, .mk k x d ns ks, cs, w, hN => by
    intro hF hA hBw
    obtain ⟨vd, vn, ak, nk, ck, rfl, hd, hn, hk1, hk2, hk3, hk4⟩ := hF
    obtain ⟨ad, cd, rfl, hdm⟩ := hd.slice
    obtain ⟨an, cn, rfl, hnm⟩ := hn.slice
    have HD := Lib.hid hd
    have HNS := Lib.hid hn
    have HA := Lib.hid hA
    have HK4 := Lib.hid hk4
    have HK1 := Lib.hid hk1
    have HN := Lib.hid hN
    obtain ⟨nd, hnd⟩ : ∃ nd, nd = d.length := ⟨_, rfl⟩
    obtain ⟨nn, hnn⟩ : ∃ nn, nn = ns.length := ⟨_, rfl⟩
    rw [← hnd] at HD hdm ⊢
    rw [← hnn] at HNS hnm ⊢
    unfold maxLen at hdm hnm hk3
    clear hd hn hA hk4 hk1 hN hnd hnn
    go_enter Tryd.func27, Tryd.ntmps27
    go_upto_region 1 with fail
    obtain ⟨w1, hw1⟩ : ∃ w1, w1 = w.alloc (.cells #[.int .u8 (k.toNat : Int), .bool x, .slice ad nd cd, .slice an nn cn, .slice ak nk ck] 26) := ⟨_, rfl⟩
    have g1 : Has w1 w.heap.size [.int .u8 (k.toNat : Int), .bool x, .slice ad nd cd, .slice an nn cn, .slice ak nk ck] 26 := by rw [hw1]; exact Has.new w _ _
    have b1 : Spo B w w1 := by rw [hw1]; exact Spo.of_below ((Below.refl _ _).alloc (Nat.le_refl _) _) hBw
    rw [← hw1]
    obtain ⟨g, hg⟩ : ∃ g, g = w.heap.size := ⟨_, rfl⟩
    rw [← hg] at g1 ⊢
    have G1 := Lib.hid g1
    have B1 := Lib.hid b1
    clear hg hw1 g1 b1
    go_wp2_with fail
    go_loopw [2] (fun ii wr => ∃ i : Nat, i ≤ nd ∧ ii = .int .i64 i ∧ Has wr g [.int .u8 (k.toNat : Int), .bool x, .slice ad nd cd, .slice an nn cn, .slice ak nk ck] 26 ∧ Spo B w wr) (fun ii _ => nd - (intOf ii).toNat)
    case atStart => exact ⟨0, Nat.zero_le _, rfl, G1.out, B1.out⟩
    case round =>
      clear G1 B1
      obtain ⟨i, hi, rfl, hg, hsp⟩ := hrel
      have HG := Lib.hid hg
      have HSP := Lib.hid hsp
      have cg2 := hg.cellAt (i := 2) rfl
      by_cases hlt : i < nd
      · obtain ⟨q, cur, z, rfl, hBq, hq, hcz⟩ := (hsp.anyB _ _ HD.out).cell hlt
        have hki : (i : Int) < (nd : Int) := by omega
        have hni : (i : Int) + 1 ≤ 9223372036854775807 := by omega
        have hfz := frozen_of_row wr q i cur _ hq
        obtain ⟨y, hy⟩ : ∃ y : Int, y = (z.toNat : Int) := ⟨_, rfl⟩
        have hcy : wr.cell? ⟨q, i, none⟩ = some (.int .u8 y) := by rw [hcz, hy]; rfl
        have hy0 : 0 ≤ y := by omega
        have hy1 : y ≤ 255 := by have := UInt8.toNat_lt z; omega
        clear hg hsp hcz hy
        have HQ := Lib.hid hq
        have HLT := Lib.hid hlt
        obtain ⟨xx, hxx⟩ := xor_byte y
        have HXX := Lib.hid hxx
        clear hq hxx
        go_upto_region 4 with fail
        go_region
        go_wp2_with fail
        go_roundw
        case rel =>
          refine ⟨i + 1, by have := HLT.out; omega, by go_num, ?_, ?_⟩
          · exact (has_set_other HG.out HQ.out (by decide)).drew
          · rw [HXX.out]
            exact HSP.out.trans ((Spo.setB hBq HQ.out xx).trans (Spo.drew _ _))
        case measure =>
          have := HLT.out
          simp only [intOf]; omega
      · clear hg hsp
        go_wp2_with fail
        go_loopw [3] (fun ii wx => ∃ i : Nat, i ≤ nk ∧ ii = .int .i64 i ∧ Has wx g [.int .u8 (k.toNat : Int), .bool x, .slice ad nd cd, .slice an nn cn, .slice ak nk ck] 26 ∧ Spo B w wx) (fun ii _ => nk - (intOf ii).toNat)
        case atStart => exact ⟨0, Nat.zero_le _, rfl, HG.out, HSP.out⟩
        case round =>
          clear HG HSP cg2
          obtain ⟨i, hi, rfl, hg, hsp⟩ := hrel
          have HG := Lib.hid hg
          have HSP := Lib.hid hsp
          have cg4 := hg.cellAt (i := 4) rfl
          by_cases hlt : i < nk
          · have hik : i < ks.length := by have := HK1.out; omega
            rcases HK4.out with ⟨h0, _⟩ | ⟨b, rfl, _, hgb⟩
            · rw [h0] at hik; simp at hik
            obtain ⟨L, hL, hF⟩ := (HA.out.step hsp) b ks hgb
            have hf := hF i hik
            have h5 : (five L i).length = 5 := by
              obtain ⟨vd, vn, ak', nk', ck', he, _⟩ : ∃ vd vn ak' nk' ck', five L i = [.int .u8 ((kindT (ks.getD i default)).toNat : Int), .bool (execT (ks.getD i default)), vd, vn, .slice ak' nk' ck'] ∧ True := by
                generalize ks.getD i default = tt at hf
                obtain ⟨k', x', d', ns', ks'⟩ := tt
                obtain ⟨vd, vn, ak', nk', ck', he, _⟩ := hf
                exact ⟨vd, vn, ak', nk', ck', he, trivial⟩
              rw [he]; rfl
            have hrange : wr.rangeAt b (i * 5) (five L i) := fun j v hv => by
              have hj : j < 5 := by have := (List.getElem?_eq_some_iff.1 hv).1; omega
              rw [five_get j hj] at hv
              exact hL.cellAt hv
            have HRG := Lib.hid hrange
            have HL5 : Hid ((Tryd.prog.info? 26).map (·.size) = some (five L i).length) := Lib.hid (by rw [info5, h5])
            have KS := Lib.hid (spoil_any B G N (ks.getD i default) (five L i) wr (by have := HN.out; rw [sizeN_mk] at this; have := sizeNL_get hik; omega) hf (HA.out.step hsp) (Nat.le_trans hBw hsp.below.size))
            have hki : (i : Int) < (nk : Int) := by omega
            have hni : (i : Int) + 1 ≤ 9223372036854775807 := by omega
            have HLT := Lib.hid hlt
            generalize five L i = L5 at *
            clear hg hsp hL hF hf h5 hrange hgb
            go_wp2_with (refine wpList_load_mid rfl 26 _ rfl b (i * 5) rfl L5 _ HRG.out Tryd.underlying26 rfl HL5.out ?_)
            refine KS.out.mono ?_
            rintro e w5 ⟨rfl, s5⟩
            have HS5 := Lib.hid s5
            clear s5 KS
            go_wp2_with fail
            go_roundw
            case rel => exact ⟨i + 1, by have := HLT.out; omega, by go_num, HS5.out.tree _ _ HG.out, HSP.out.trans HS5.out⟩
            case measure =>
              have := HLT.out
              simp only [intOf]; omega
          · clear hg hsp
            go_wp2_with fail
            go_loopw [4] (fun ii wy => ∃ i : Nat, i ≤ nn ∧ ii = .int .i64 i ∧ Has wy g [.int .u8 (k.toNat : Int), .bool x, .slice ad nd cd, .slice an nn cn, .slice ak nk ck] 26 ∧ Spo B w wy) (fun ii _ => nn - (intOf ii).toNat)
            case atStart => exact ⟨0, Nat.zero_le _, rfl, HG.out, HSP.out⟩
            case round =>
              clear HG HSP cg4
              obtain ⟨i, hi, rfl, hg, hsp⟩ := hrel
              have HG := Lib.hid hg
              have HSP := Lib.hid hsp
              have cg3 := hg.cellAt (i := 3) rfl
              by_cases hlt : i < nn
              · obtain ⟨q, cur, z, rfl, hBq, hq, hcz⟩ := (hsp.anyS _ _ HNS.out).cell hlt
                have hki : (i : Int) < (nn : Int) := by omega
                have hni : (i : Int) + 1 ≤ 9223372036854775807 := by omega
                have hfz := frozen_of_row wr q i cur _ hq
                have HQ := Lib.hid hq
                have HLT := Lib.hid hlt
                clear hg hsp hq
                go_wp2_with fail
                go_roundw
                case rel => exact ⟨i + 1, by have := HLT.out; omega, by go_num, has_set_other HG.out HQ.out (by decide), HSP.out.trans (Spo.setS hBq HQ.out _)⟩
                case measure =>
                  have := HLT.out
                  simp only [intOf]; omega
              · clear hg hsp
                go_wp2_with fail
                go_end0
                exact ⟨rfl, HSP.out⟩

end Go.Proofs.YtmgfgldabjgmmaaDoor
