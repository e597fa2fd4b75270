/-
  Writing over all of a tree in memory of its own: the law's spoil. Conditions: the tree is in rows of its own.
-/
import Derived.Test.YtbempgdndmchlaaDoorERApp
import Derived.Test.YtbempgdndmchlaaDoorEAwake
import Derived.Test.YtbempgdndmchlaaDoorTRSame
import Derived.Test.YtbempgdndmchlaaDoorTGreat
import Derived.BigFrame
namespace Go.Proofs.YtbempgdndmchlaaDoor
open Go.RowKit
set_option linter.unusedVariables false

/-- A row of one's own of some bytes, of some texts. -/
def AnyB (w : World) (B : Nat) (v : Value) (n : Nat) : Prop := ∃ d : List UInt8, d.length = n ∧ w.ownsRow B 5 1 v n (d.map bv)
def AnyS (w : World) (B : Nat) (v : Value) (n : Nat) : Prop := ∃ l : List ByteArray, l.length = n ∧ w.ownsRow B 9 1 v n (l.map Value.string)

/-- What writing over trees keeps: all below B; trees' cells; rows of bytes and of texts as such. -/
structure Spo (B : Nat) (w w' : World) : Prop where
  below : Below B w w'
  tree : ∀ q L, Has w q L 26 → Has w' q L 26
  anyB : ∀ v n, AnyB w B v n → AnyB w' B v n
  anyS : ∀ v n, AnyS w B v n → AnyS w' B v n

theorem Spo.refl (B : Nat) (w : World) : Spo B w w := ⟨Below.refl _ _, fun _ _ h => h, fun _ _ h => h, fun _ _ h => h⟩
theorem Spo.trans {B : Nat} {x y z : World} (h : Spo B x y) (k : Spo B y z) : Spo B x z :=
  ⟨h.below.trans k.below, fun q L hq => k.tree q L (h.tree q L hq), fun v n hv => k.anyB v n (h.anyB v n hv), fun v n hv => k.anyS v n (h.anyS v n hv)⟩
theorem Spo.of_below {B : Nat} {w w' : World} (h : Below w.heap.size w w') (hB : B ≤ w.heap.size) : Spo B w w' :=
  ⟨h.mono hB, fun q L hq => hq.below h hq.lt, fun v n ⟨d, hl, ho⟩ => ⟨d, hl, row_later ho h⟩, fun v n ⟨d, hl, ho⟩ => ⟨d, hl, row_later ho h⟩⟩

theorem grown_set (w : World) (q j : Nat) (u : Value) : w.grownBy (w.setCell ⟨q, j, none⟩ u) (some q) :=
  ⟨rfl, rfl, rfl, by simp, fun k _ hk => heap_setCell_other w ⟨q, j, none⟩ k u (fun e => hk (by simp [e]))⟩

theorem own_block_type {w : World} {B q n size : Nat} {e e' : TypeId} {v : Value} {xs : List Value} {cur : Array Value} {f : Nat × Nat} (h : w.ownsRow B e size v n xs) (hq : w.heap[q]? = some (.cells cur e' f)) (he : e ≠ e') : v.ownBlock ≠ some q := by
  intro hv
  rcases h.2 with ⟨rfl, _⟩ | ⟨g, cap, cur', rfl, _, hg, _⟩
  · cases hv
  · simp only [Value.ownBlock, Option.some.injEq] at hv
    subst hv
    rw [hg] at hq; cases hq; exact he rfl

theorem has_set_other {w : World} {q q' j : Nat} {L : List Value} {u : Value} {cur : Array Value} {f : Nat × Nat} {e : TypeId} (h : Has w q' L 26) (hq : w.heap[q]? = some (.cells cur e f)) (he : e ≠ 26) : Has (w.setCell ⟨q, j, none⟩ u) q' L 26 := by
  refine h.setOther (fun e' => ?_) _
  have h' : w.heap[q']? = some (.cells L.toArray 26 (0, 0)) := h
  have e2 : q' = q := e'
  rw [e2, hq] at h'
  cases h'
  exact he rfl

/-- A byte is stored into a row of bytes. -/
theorem Spo.setB {B q j : Nat} {w : World} {cur : Array Value} (hB : B ≤ q) (hq : w.heap[q]? = some (.cells cur 5 (0, 0))) (x : UInt8) : Spo B w (w.setCell ⟨q, j, none⟩ (bv x)) := by
  refine ⟨(Below.refl _ _).setCell (by exact hB) _, fun q' L h => has_set_other h hq (by decide), fun v n ⟨d, hl, ho⟩ => ?_, fun v n ⟨d, hl, ho⟩ => ⟨d, hl, ho.kept (grown_set _ _ _ _) (.inr (own_block_type ho hq (by decide)))⟩⟩
  by_cases hv : v.ownBlock = some q
  · rcases ho.2 with ⟨rfl, _⟩ | ⟨g, cap, cur', rfl, _⟩
    · cases hv
    · simp only [Value.ownBlock, Option.some.injEq] at hv
      subst hv
      refine ⟨d.set j x, by simpa using hl, ?_⟩
      have := (World.ownsRow.stored ho j (bv x)).1
      rwa [← List.map_set] at this
  · exact ⟨d, hl, ho.kept (grown_set _ _ _ _) (.inr hv)⟩

/-- A text is stored into a row of texts. -/
theorem Spo.setS {B q j : Nat} {w : World} {cur : Array Value} (hB : B ≤ q) (hq : w.heap[q]? = some (.cells cur 9 (0, 0))) (x : ByteArray) : Spo B w (w.setCell ⟨q, j, none⟩ (.string x)) := by
  refine ⟨(Below.refl _ _).setCell (by exact hB) _, fun q' L h => has_set_other h hq (by decide), fun v n ⟨d, hl, ho⟩ => ⟨d, hl, ho.kept (grown_set _ _ _ _) (.inr (own_block_type ho hq (by decide)))⟩, fun v n ⟨d, hl, ho⟩ => ?_⟩
  by_cases hv : v.ownBlock = some q
  · rcases ho.2 with ⟨rfl, _⟩ | ⟨g, cap, cur', rfl, _⟩
    · cases hv
    · simp only [Value.ownBlock, Option.some.injEq] at hv
      subst hv
      refine ⟨d.set j x, by simpa using hl, ?_⟩
      have := (World.ownsRow.stored ho j (.string x)).1
      rwa [← List.map_set] at this
  · exact ⟨d, hl, ho.kept (grown_set _ _ _ _) (.inr hv)⟩

/-- Five cells of the form of this tree, whatever stands in its rows of bytes and of texts. -/
inductive SM (w : World) (B : Nat) : List Value → T → Prop where
  | mk {k : UInt8} {x : Bool} {d : List UInt8} {ns : List ByteArray} {ks : List T} {vd vn vk : Value} {L : List Value}
      (hd : AnyB w B vd d.length) (hn : AnyS w B vn ns.length) (hk : w.ownsRow B 26 5 vk ks.length L) (hs : ∀ i, i < ks.length → SM w B (five L i) (ks.getD i default)) :
      SM w B [.int .u8 (k.toNat : Int), .bool x, vd, vn, vk] (.mk k x d ns ks)
theorem SM.of {w : World} {B : Nat} {cs : List Value} {t : T} {S : List Nat} (h : MT w B cs t S) : SM w B cs t := by
  induction h with
  | mk hd hn hk hs hnd ih => exact .mk ⟨_, rfl, hd⟩ ⟨_, rfl, hn⟩ hk ih
theorem owns_spo {w w' : World} {B B' n : Nat} {v : Value} {xs : List Value} (h : w.ownsRow B' 26 5 v n xs) (hs : Spo B w w') : w'.ownsRow B' 26 5 v n xs := by
  refine ⟨h.1, ?_⟩
  rcases h.2 with h0 | ⟨g, cap, cur, h1, h2, h3, h4⟩
  · exact .inl h0
  · refine .inr ⟨g, cap, cur, h1, h2, ?_, h4⟩
    have hq : Has w g cur.toList 26 := show w.heap[g]? = some (.cells cur.toList.toArray _ (0, 0)) by simpa using h3
    have := hs.tree g _ hq
    simpa [Has] using this
theorem SM.step {w w' : World} {B : Nat} {cs : List Value} {t : T} (h : SM w B cs t) (hs : Spo B w w') : SM w' B cs t := by
  induction h with
  | mk hd hn hk _ ih => exact .mk (hs.anyB _ _ hd) (hs.anyS _ _ hn) (owns_spo hk hs) ih
theorem SM.inv {w : World} {B : Nat} {cs : List Value} {k : UInt8} {x : Bool} {d : List UInt8} {ns : List ByteArray} {ks : List T} (h : SM w B cs (.mk k x d ns ks)) :
    ∃ vd vn vk L, cs = [.int .u8 (k.toNat : Int), .bool x, vd, vn, vk] ∧ AnyB w B vd d.length ∧ AnyS w B vn ns.length ∧ w.ownsRow B 26 5 vk ks.length L ∧ ∀ i, i < ks.length → SM w B (five L i) (ks.getD i default) := by
  cases h with
  | mk hd hn hk hs => exact ⟨_, _, _, _, rfl, hd, hn, hk, hs⟩
theorem SM.five {w : World} {B : Nat} {cs : List Value} {t : T} (h : SM w B cs t) : cs.length = 5 := by
  cases h with
  | mk => rfl

theorem AnyB.slice {w : World} {B : Nat} {v : Value} {n : Nat} (h : AnyB w B v n) : ∃ a c, v = .slice a n c ∧ n ≤ maxLen := by
  obtain ⟨d, hl, ho⟩ := h
  rcases ho.2 with ⟨rfl, rfl⟩ | ⟨g, cap, cur, rfl, _, _, h1, h2, _⟩
  · exact ⟨_, _, rfl, Nat.zero_le _⟩
  · exact ⟨_, _, rfl, Nat.le_trans h1 h2⟩
theorem AnyS.slice {w : World} {B : Nat} {v : Value} {n : Nat} (h : AnyS w B v n) : ∃ a c, v = .slice a n c ∧ n ≤ maxLen := by
  obtain ⟨d, hl, ho⟩ := h
  rcases ho.2 with ⟨rfl, rfl⟩ | ⟨g, cap, cur, rfl, _, _, h1, h2, _⟩
  · exact ⟨_, _, rfl, Nat.zero_le _⟩
  · exact ⟨_, _, rfl, Nat.le_trans h1 h2⟩
theorem AnyB.cell {w : World} {B : Nat} {a : Option Addr} {n c i : Nat} (h : AnyB w B (.slice a n c) n) (hi : i < n) : ∃ q cur x, a = some ⟨q, 0, none⟩ ∧ B ≤ q ∧ w.heap[q]? = some (.cells cur 5 (0, 0)) ∧ w.cell? ⟨q, i, none⟩ = some (bv x) := by
  obtain ⟨d, hl, ho⟩ := h
  rcases ho.2 with ⟨_, h0⟩ | ⟨g, cap, cur, he, hB, hg, _⟩
  · omega
  · cases he
    refine ⟨g, cur, d.getD i 0, rfl, hB, hg, ?_⟩
    rw [World.ownsRow.cellAt ho i (by omega), List.getElem?_map, List.getElem?_eq_getElem (by omega)]
    simp [List.getD, List.getElem?_eq_getElem (show i < d.length by omega)]
theorem AnyS.cell {w : World} {B : Nat} {a : Option Addr} {n c i : Nat} (h : AnyS w B (.slice a n c) n) (hi : i < n) : ∃ q cur x, a = some ⟨q, 0, none⟩ ∧ B ≤ q ∧ w.heap[q]? = some (.cells cur 9 (0, 0)) ∧ w.cell? ⟨q, i, none⟩ = some (.string x) := by
  obtain ⟨d, hl, ho⟩ := h
  rcases ho.2 with ⟨_, h0⟩ | ⟨g, cap, cur, he, hB, hg, _⟩
  · omega
  · cases he
    refine ⟨g, cur, d.getD i ⟨#[]⟩, rfl, hB, hg, ?_⟩
    rw [World.ownsRow.cellAt ho i (by omega), List.getElem?_map, List.getElem?_eq_getElem (by omega)]
    simp [List.getD, List.getElem?_eq_getElem (show i < d.length by omega)]

theorem xor_byte (y : Int) : ∃ x : UInt8, Value.int .u8 (bits .xor .u8 y 1) = bv x := by
  have h : ∃ m : Int, bits .xor .u8 y 1 = m % 256 := ⟨_, by simp only [bits]; exact IntKind.wrap_u8 _⟩
  obtain ⟨m, hm⟩ := h
  refine ⟨UInt8.ofNat (m % 256).toNat, ?_⟩
  have e : (((UInt8.ofNat (m % 256).toNat).toNat : Nat) : Int) = m % 256 := by rw [UInt8.toNat_ofNat']; omega
  unfold bv
  rw [hm, e]

theorem Spo.drew (B : Nat) (w : World) : Spo B w w.drew := ⟨(Below.refl _ _).drew, fun _ _ h => h, fun _ _ h => h, fun _ _ h => h⟩

theorem own_len {w : World} {B n nk ck : Nat} {ak : Option Addr} {xs : List Value} (h : w.ownsRow B 26 5 (.slice ak nk ck) n xs) : nk = n ∧ nk ≤ maxLen := by
  rcases h.2 with ⟨h0, h1⟩ | ⟨g, cap, cur, h1, _, _, h2, h3, _⟩
  · cases h0; exact ⟨h1.symm, Nat.zero_le _⟩
  · cases h1; exact ⟨rfl, Nat.le_trans h2 h3⟩
theorem own_range {w : World} {B n nk ck i : Nat} {ak : Option Addr} {L : List Value} (h : w.ownsRow B 26 5 (.slice ak nk ck) n L) (hi : i < n) : ∃ b, ak = some ⟨b, 0, none⟩ ∧ w.rangeAt b (i * 5) (five L i) := by
  have hl := h.1
  have hx := h
  rcases h.2 with ⟨h0, h1⟩ | ⟨g, cap, cur, h1, _⟩
  · omega
  · cases h1
    refine ⟨g, rfl, fun j v hv => ?_⟩
    have hj : j < 5 := by
      have h2 := (List.getElem?_eq_some_iff.1 hv).1
      unfold five at h2
      rw [List.length_take] at h2
      omega
    rw [five_get j hj] at hv
    rw [World.ownsRow.cellAt hx (i * 5 + j) (by omega)]
    exact hv

set_option maxRecDepth 100000 in
set_option maxHeartbeats 20000000 in
theorem spoil_any (B : Nat) : ∀ (N : Nat) (t : T) (cs : List Value) (w : World), sizeN t ≤ N → SM w B cs t → B ≤ w.heap.size →
    Calls Tryd.prog 16 #[.agg cs.toArray] w fun e w' => e = .returned (.tuple #[]) ∧ Spo B w w'
  | 0, t, _, _, hN => by have := sizeN_pos t; omega
  | N + 1, .mk k x d ns ks, cs, w, hN => by
    intro hF hBw
    obtain ⟨vd, vn, vk, L, rfl, hd, hn, hk, hs⟩ := hF.inv
    obtain ⟨ak, nk, ck, rfl⟩ := slice_owned hk
    have hk1 : nk = ks.length ∧ nk ≤ maxLen := own_len hk
    obtain ⟨hk1, hk3⟩ := hk1
    obtain ⟨ad, cd, rfl, hdm⟩ := hd.slice
    obtain ⟨an, cn, rfl, hnm⟩ := hn.slice
    have HD := Lib.hid hd
    have HNS := Lib.hid hn
    have HOK := Lib.hid hk
    have HKS := Lib.hid hs
    have HK1 := Lib.hid hk1
    have HN := Lib.hid hN
    obtain ⟨nd, hnd⟩ : ∃ nd, nd = d.length := ⟨_, rfl⟩
    obtain ⟨nn, hnn⟩ : ∃ nn, nn = ns.length := ⟨_, rfl⟩
    rw [← hnd] at HD hdm ⊢
    rw [← hnn] at HNS hnm ⊢
    unfold maxLen at hdm hnm hk3
    clear hF hd hn hk hs hk1 hN hnd hnn
    go_enter Tryd.func16, Tryd.ntmps16
    go_upto_region 1 with fail
    obtain ⟨w1, hw1⟩ : ∃ w1, w1 = w.alloc (.cells #[.int .u8 (k.toNat : Int), .bool x, .slice ad nd cd, .slice an nn cn, .slice ak nk ck] 26) := ⟨_, rfl⟩
    have g1 : Has w1 w.heap.size [.int .u8 (k.toNat : Int), .bool x, .slice ad nd cd, .slice an nn cn, .slice ak nk ck] 26 := by rw [hw1]; exact Has.new w _ _
    have b1 : Spo B w w1 := by rw [hw1]; exact Spo.of_below ((Below.refl _ _).alloc (Nat.le_refl _) _) hBw
    rw [← hw1]
    obtain ⟨g, hg⟩ : ∃ g, g = w.heap.size := ⟨_, rfl⟩
    rw [← hg] at g1 ⊢
    have G1 := Lib.hid g1
    have B1 := Lib.hid b1
    clear hg hw1 g1 b1
    go_wp2_with fail
    go_loopw [2] (fun ii wr => ∃ i : Nat, i ≤ nd ∧ ii = .int .i64 i ∧ Has wr g [.int .u8 (k.toNat : Int), .bool x, .slice ad nd cd, .slice an nn cn, .slice ak nk ck] 26 ∧ Spo B w wr) (fun ii _ => nd - (intOf ii).toNat)
    case atStart => exact ⟨0, Nat.zero_le _, rfl, G1.out, B1.out⟩
    case round =>
      clear G1 B1
      obtain ⟨i, hi, rfl, hg, hsp⟩ := hrel
      have HG := Lib.hid hg
      have HSP := Lib.hid hsp
      have cg2 := hg.cellAt (i := 2) rfl
      by_cases hlt : i < nd
      · obtain ⟨q, cur, z, rfl, hBq, hq, hcz⟩ := (hsp.anyB _ _ HD.out).cell hlt
        have hki : (i : Int) < (nd : Int) := by omega
        have hni : (i : Int) + 1 ≤ 9223372036854775807 := by omega
        have hfz := frozen_of_row wr q i cur _ hq
        obtain ⟨y, hy⟩ : ∃ y : Int, y = (z.toNat : Int) := ⟨_, rfl⟩
        have hcy : wr.cell? ⟨q, i, none⟩ = some (.int .u8 y) := by rw [hcz, hy]; rfl
        have hy0 : 0 ≤ y := by omega
        have hy1 : y ≤ 255 := by have := UInt8.toNat_lt z; omega
        clear hg hsp hcz hy
        have HQ := Lib.hid hq
        have HLT := Lib.hid hlt
        obtain ⟨xx, hxx⟩ := xor_byte y
        have HXX := Lib.hid hxx
        clear hq hxx
        go_upto_region 4 with fail
        go_region
        go_wp2_with fail
        go_roundw
        case rel =>
          refine ⟨i + 1, by have := HLT.out; omega, by go_num, ?_, ?_⟩
          · exact (has_set_other HG.out HQ.out (by decide)).drew
          · rw [HXX.out]
            exact HSP.out.trans ((Spo.setB hBq HQ.out xx).trans (Spo.drew _ _))
        case measure =>
          have := HLT.out
          simp only [intOf]; omega
      · clear hg hsp
        go_wp2_with fail
        go_loopw [3] (fun ii wx => ∃ i : Nat, i ≤ nk ∧ ii = .int .i64 i ∧ Has wx g [.int .u8 (k.toNat : Int), .bool x, .slice ad nd cd, .slice an nn cn, .slice ak nk ck] 26 ∧ Spo B w wx) (fun ii _ => nk - (intOf ii).toNat)
        case atStart => exact ⟨0, Nat.zero_le _, rfl, HG.out, HSP.out⟩
        case round =>
          clear HG HSP cg2
          obtain ⟨i, hi, rfl, hg, hsp⟩ := hrel
          have HG := Lib.hid hg
          have HSP := Lib.hid hsp
          have cg4 := hg.cellAt (i := 4) rfl
          by_cases hlt : i < nk
          · have hik : i < ks.length := by have := HK1.out; omega
            have hf := (HKS.out i hik).step hsp
            have h5 : (five L i).length = 5 := hf.five
            obtain ⟨b, rfl, hrange⟩ := own_range (owns_spo HOK.out hsp) hik
            have HRG := Lib.hid hrange
            have HL5 : Hid ((Tryd.prog.info? 26).map (·.size) = some (five L i).length) := Lib.hid (by rw [info5, h5])
            have KS := Lib.hid (spoil_any B N (ks.getD i default) (five L i) wr (by have := HN.out; rw [sizeN_mk] at this; have := sizeNL_get hik; omega) hf (Nat.le_trans hBw hsp.below.size))
            have hki : (i : Int) < (nk : Int) := by omega
            have hni : (i : Int) + 1 ≤ 9223372036854775807 := by omega
            have HLT := Lib.hid hlt
            generalize five L i = L5 at *
            clear hg hsp hf h5 hrange
            go_wp2_with (refine wpList_load_mid rfl 26 _ rfl b (i * 5) rfl L5 _ HRG.out Tryd.underlying26 rfl HL5.out ?_)
            refine KS.out.mono ?_
            rintro e w5 ⟨rfl, s5⟩
            have HS5 := Lib.hid s5
            clear s5 KS
            go_wp2_with fail
            go_roundw
            case rel => exact ⟨i + 1, by have := HLT.out; omega, by go_num, HS5.out.tree _ _ HG.out, HSP.out.trans HS5.out⟩
            case measure =>
              have := HLT.out
              simp only [intOf]; omega
          · clear hg hsp
            go_wp2_with fail
            go_loopw [4] (fun ii wy => ∃ i : Nat, i ≤ nn ∧ ii = .int .i64 i ∧ Has wy g [.int .u8 (k.toNat : Int), .bool x, .slice ad nd cd, .slice an nn cn, .slice ak nk ck] 26 ∧ Spo B w wy) (fun ii _ => nn - (intOf ii).toNat)
            case atStart => exact ⟨0, Nat.zero_le _, rfl, HG.out, HSP.out⟩
            case round =>
              clear HG HSP cg4
              obtain ⟨i, hi, rfl, hg, hsp⟩ := hrel
              have HG := Lib.hid hg
              have HSP := Lib.hid hsp
              have cg3 := hg.cellAt (i := 3) rfl
              by_cases hlt : i < nn
              · obtain ⟨q, cur, z, rfl, hBq, hq, hcz⟩ := (hsp.anyS _ _ HNS.out).cell hlt
                have hki : (i : Int) < (nn : Int) := by omega
                have hni : (i : Int) + 1 ≤ 9223372036854775807 := by omega
                have hfz := frozen_of_row wr q i cur _ hq
                have HQ := Lib.hid hq
                have HLT := Lib.hid hlt
                clear hg hsp hq
                go_wp2_with fail
                go_roundw
                case rel => exact ⟨i + 1, by have := HLT.out; omega, by go_num, has_set_other HG.out HQ.out (by decide), HSP.out.trans (Spo.setS hBq HQ.out _)⟩
                case measure =>
                  have := HLT.out
                  simp only [intOf]; omega
              · clear hg hsp
                go_wp2_with fail
                go_end0
                exact ⟨rfl, HSP.out⟩

end Go.Proofs.YtbempgdndmchlaaDoor

namespace Go.Proofs.YtbempgdndmchlaaDoor
open Go.RowKit
set_option linter.unusedVariables false

set_option maxRecDepth 100000 in
set_option maxHeartbeats 20000000 in
theorem walk_EditKeeps (w : World) (n : Nat) (cs : List Value) (t : T) (ht : IsT w n cs t) (hs : Small t) (m : Nat) (a : Option Addr) (k c : Nat) (l : List EdD) (hl : IsXs w m a k c l) (hls : ∀ i, i < l.length → Small (l.getD i default).tree) (_ : k * 120 ≤ 140737488355328) (hm : MaxW w) (hmx : 0 < w.heap.size) :
    Calls Tryd.prog 7 #[.agg cs.toArray, .slice a k c] w fun e w' => e = .returned (.bool true) ∧ Below w.heap.size w w' := by
  obtain ⟨w1, hw1⟩ : ∃ w1, w1 = w.alloc (.cells cs.toArray 26) := ⟨_, rfl⟩
  have b1 : Below w.heap.size w w1 := by rw [hw1]; exact (Below.refl _ _).alloc (Nat.le_refl _) _
  have Vt : Hid (w1.heap[w.heap.size]? = some (.cells cs.toArray 26 (0, 0))) := Lib.hid (by rw [hw1]; exact Has.new w cs _)
  have It := Lib.hid (infoL (isT_five ht))
  have Tt := Lib.hid (IsT.later b1 _ _ _ ht)
  have HAW := Lib.hid (fun (W : World) (hW : Below w.heap.size w W) => awake_any W (hm.below hW hmx) (Nat.lt_of_lt_of_le hmx hW.size))
  have HS := Lib.hid hs
  have HX := Lib.hid hl
  have HLS := Lib.hid hls
  have HM := Lib.hid hm
  have HMX := Lib.hid hmx
  have HW1 : Hid (w1 = w.alloc (.cells cs.toArray 26)) := Lib.hid hw1
  have BW := Lib.hid b1
  obtain ⟨V, hV⟩ : ∃ V, V = runR t l := ⟨_, rfl⟩
  have HV := Lib.hid hV
  have HRA : Hid ((runE t l).1 = V.1 ∧ (V.1 = 0 → (runE t l).2.1 = V.2) ∧ (V.1 ≠ 0 → V.2 = zeroT)) := Lib.hid (by rw [hV]; exact run_as t l)
  have hkk : k ≤ 9223372036854775807 := by have := hl.room; unfold maxLen at this; omega
  clear ht hs hl hls hm hmx hw1 b1 hV
  go_enter Tryd.func7, Tryd.ntmps7
  go_upto_region 1 with fail
  rw [← HW1.out]
  go_wp2_with (refine wpList_load_row rfl 26 _ rfl (w.heap.size) rfl 26 cs.toArray (0, 0) _ Vt.out Tryd.underlying26 rfl It.out ?_)
  refine (great_any _ _ _ _ Tt.out 300 (by omega) (by omega)).mono ?_
  rintro e w2 ⟨⟨g, rfl⟩, hb⟩
  have BN := Lib.hid hb
  have BW := Lib.hid (BW.out.trans (BN.out.mono BW.out.size))
  have Vt : Hid (w2.heap[w.heap.size]? = some (.cells cs.toArray 26 (0, 0))) := Lib.hid ((BN.out.block _ (Array.getElem?_eq_some_iff.1 Vt.out).1).trans Vt.out)
  have Tt := Lib.hid (IsT.later BN.out _ _ _ Tt.out)
  clear hb
  rcases Bool.eq_false_or_eq_true g with rfl | rfl
  · go_wp2_with fail
    refine (HAW.out w2 BW.out).mono ?_
    rintro e wz ⟨rfl, hb⟩
    have BZ := Lib.hid (BW.out.trans (hb.mono BW.out.size))
    clear hb
    go_wp2_with fail
    go_ret
    exact ⟨rfl, BZ.out⟩
  by_cases hkm : (10 : Int) < (k : Int)
  · go_wp2_with fail
    refine (HAW.out w2 BW.out).mono ?_
    rintro e wz ⟨rfl, hb⟩
    have BZ := Lib.hid (BW.out.trans (hb.mono BW.out.size))
    clear hb
    go_wp2_with fail
    go_ret
    exact ⟨rfl, BZ.out⟩
  go_wp2_with fail
  refine (greatX_any (HX.out.later BW.out) 100 (by omega) (by omega)).mono ?_
  rintro e w3 ⟨⟨g, rfl⟩, hb⟩
  have BN := Lib.hid hb
  have BW := Lib.hid (BW.out.trans (BN.out.mono BW.out.size))
  have Vt : Hid (w3.heap[w.heap.size]? = some (.cells cs.toArray 26 (0, 0))) := Lib.hid ((BN.out.block _ (Array.getElem?_eq_some_iff.1 Vt.out).1).trans Vt.out)
  have Tt := Lib.hid (IsT.later BN.out _ _ _ Tt.out)
  clear hb
  rcases Bool.eq_false_or_eq_true g with rfl | rfl
  · go_wp2_with fail
    refine (HAW.out w3 BW.out).mono ?_
    rintro e wz ⟨rfl, hb⟩
    have BZ := Lib.hid (BW.out.trans (hb.mono BW.out.size))
    clear hb
    go_wp2_with fail
    go_ret
    exact ⟨rfl, BZ.out⟩
  go_wp2_with fail
  refine (HAW.out w3 BW.out).mono ?_
  rintro e w4 ⟨rfl, hb⟩
  have BN := Lib.hid hb
  have BW := Lib.hid (BW.out.trans (BN.out.mono BW.out.size))
  have Vt : Hid (w4.heap[w.heap.size]? = some (.cells cs.toArray 26 (0, 0))) := Lib.hid ((BN.out.block _ (Array.getElem?_eq_some_iff.1 Vt.out).1).trans Vt.out)
  have Tt := Lib.hid (IsT.later BN.out _ _ _ Tt.out)
  clear hb hkm hkk
  have HAP := Lib.hid (rapply_any _ _ _ w4 Tt.out HS.out m a k c l (HX.out.later BW.out) HLS.out)
  rw [← HV.out] at HAP
  go_wp2_with (refine wpList_load_row rfl 26 _ rfl (w.heap.size) rfl 26 cs.toArray (0, 0) _ Vt.out Tryd.underlying26 rfl It.out ?_)
  refine HAP.out.mono ?_
  rintro e w5 ⟨Nwz, wz, rfl, hT, hb⟩
  have Twz := Lib.hid hT
  have BN := Lib.hid hb
  have BW := Lib.hid (BW.out.trans (BN.out.mono BW.out.size))
  have Vt : Hid (w5.heap[w.heap.size]? = some (.cells cs.toArray 26 (0, 0))) := Lib.hid ((BN.out.block _ (Array.getElem?_eq_some_iff.1 Vt.out).1).trans Vt.out)
  have Tt := Lib.hid (IsT.later BN.out _ _ _ Tt.out)
  clear hT hb HAP
  have OI := Lib.hid (infoL (isT_five Twz.out))
  have OO : Hid (wz.toArray.all (·.oneCell') = true) := Lib.hid (isT_one Twz.out)
  have OS : Hid ((#[.int .u8 0, .bool false, .slice none 0 0, .slice none 0 0, .slice none 0 0] : Array Value).size = wz.toArray.size) := Lib.hid (by have := isT_five Twz.out; simp [this])
  obtain ⟨w5s1, hw⟩ : ∃ X, X = (w5.alloc (.cells #[.int .u8 0, .bool false, .slice none 0 0, .slice none 0 0, .slice none 0 0] 26)).setRow w5.heap.size wz.toArray := ⟨_, rfl⟩
  have hb : Below w5.heap.size w5 w5s1 := by rw [hw]; exact below_setRow ((Below.refl _ _).alloc (Nat.le_refl _) _) (Nat.le_refl _) _
  have hv : w5s1.heap[w5.heap.size]? = some (.cells wz.toArray 26 (0, 0)) := by rw [hw]; exact setRow_heap _ _ _ _ _ _ (heap_alloc_new w5 _)
  have HW := Lib.hid hw
  have BN := Lib.hid hb
  have BW := Lib.hid (BW.out.trans (BN.out.mono BW.out.size))
  have Vt : Hid (w5s1.heap[w.heap.size]? = some (.cells cs.toArray 26 (0, 0))) := Lib.hid ((BN.out.block _ (Array.getElem?_eq_some_iff.1 Vt.out).1).trans Vt.out)
  have Tt := Lib.hid (IsT.later BN.out _ _ _ Tt.out)
  have Twz := Lib.hid (IsT.later BN.out _ _ _ Twz.out)
  have Vwz := Lib.hid hv
  have Iwz := OI
  clear hb hv hw
  go_upto_region 6 with (refine wpList_store_row rfl 26 _ _ rfl w5.heap.size wz.toArray rfl rfl 26 _ (heap_alloc_new w5 _) OI.out OS.out OO.out ?_)
  rw [← HW.out]
  clear HW OO OS
  have HBX : Hid (w.heap.size ≤ w5s1.heap.size) := Lib.hid BW.out.size
  have P0t := Vt
  have P0wz := Vwz
  have Q0t := Tt
  have Q0wz := Twz
  have BY0 : Hid (Below w5s1.heap.size w5s1 w5s1) := Lib.hid (Below.refl _ _)
  have HAP := Lib.hid (applyA_any _ _ _ w5s1 Tt.out m a k c l (HX.out.later BW.out) (HM.out.below BW.out HMX.out) (Nat.lt_of_lt_of_le HMX.out BW.out.size))
  go_wp2_with (refine wpList_load_row rfl 26 _ rfl (w.heap.size) rfl 26 cs.toArray (0, 0) _ Vt.out Tryd.underlying26 rfl It.out ?_)
  refine HAP.out.mono ?_
  rintro e w6 ⟨ou, rfl, ho5, ho1, hb, hok, hbad⟩
  rw [HRA.out.1] at hok hbad ⊢
  have HMTou : Hid (V.1 = 0 → ∃ S, MT w6 w5s1.heap.size ou V.2 S) := Lib.hid (fun h0 => by
    obtain ⟨S, hmt⟩ := hok h0
    rw [HRA.out.2.1 h0] at hmt
    exact ⟨S, hmt⟩)
  obtain ⟨Nou, hT⟩ : ∃ N, IsT w6 N ou V.2 := by
    by_cases h0 : V.1 = 0
    · obtain ⟨S, hmt⟩ := HMTou.out h0
      have hsm := (run_small (t := t) (l := l) (by rw [HRA.out.1]; exact h0)).1
      rw [HRA.out.2.1 h0] at hsm
      exact ⟨_, hmt.isT _ (Nat.le_refl _) hsm⟩
    · rw [hbad h0, HRA.out.2.2 h0]
      exact ⟨1, isT_zero _⟩
  have Tou := Lib.hid hT
  have HO5 := Lib.hid ho5
  have HO1 := Lib.hid ho1
  have BN := Lib.hid hb
  have BW := Lib.hid (BW.out.trans (BN.out.mono BW.out.size))
  have Vt : Hid (w6.heap[w.heap.size]? = some (.cells cs.toArray 26 (0, 0))) := Lib.hid ((BN.out.block _ (Array.getElem?_eq_some_iff.1 Vt.out).1).trans Vt.out)
  have Vwz : Hid (w6.heap[w5.heap.size]? = some (.cells wz.toArray 26 (0, 0))) := Lib.hid ((BN.out.block _ (Array.getElem?_eq_some_iff.1 Vwz.out).1).trans Vwz.out)
  have Tt := Lib.hid (IsT.later BN.out _ _ _ Tt.out)
  have Twz := Lib.hid (IsT.later BN.out _ _ _ Twz.out)
  clear hT hok hbad ho5 ho1 HAP
  have BBou := Lib.hid hb
  clear hb
  have OI := Lib.hid (infoL (HO5.out))
  have OO : Hid (ou.toArray.all (·.oneCell') = true) := Lib.hid (HO1.out)
  have OS : Hid ((#[.int .u8 0, .bool false, .slice none 0 0, .slice none 0 0, .slice none 0 0] : Array Value).size = ou.toArray.size) := Lib.hid (by have := HO5.out; simp [this])
  obtain ⟨w6s2, hw⟩ : ∃ X, X = (w6.alloc (.cells #[.int .u8 0, .bool false, .slice none 0 0, .slice none 0 0, .slice none 0 0] 26)).setRow w6.heap.size ou.toArray := ⟨_, rfl⟩
  have hb : Below w6.heap.size w6 w6s2 := by rw [hw]; exact below_setRow ((Below.refl _ _).alloc (Nat.le_refl _) _) (Nat.le_refl _) _
  have hv : w6s2.heap[w6.heap.size]? = some (.cells ou.toArray 26 (0, 0)) := by rw [hw]; exact setRow_heap _ _ _ _ _ _ (heap_alloc_new w6 _)
  have HW := Lib.hid hw
  have BN := Lib.hid hb
  have BW := Lib.hid (BW.out.trans (BN.out.mono BW.out.size))
  have Vt : Hid (w6s2.heap[w.heap.size]? = some (.cells cs.toArray 26 (0, 0))) := Lib.hid ((BN.out.block _ (Array.getElem?_eq_some_iff.1 Vt.out).1).trans Vt.out)
  have Vwz : Hid (w6s2.heap[w5.heap.size]? = some (.cells wz.toArray 26 (0, 0))) := Lib.hid ((BN.out.block _ (Array.getElem?_eq_some_iff.1 Vwz.out).1).trans Vwz.out)
  have Tt := Lib.hid (IsT.later BN.out _ _ _ Tt.out)
  have Twz := Lib.hid (IsT.later BN.out _ _ _ Twz.out)
  have Tou := Lib.hid (IsT.later BN.out _ _ _ Tou.out)
  have Vou := Lib.hid hv
  have Iou := OI
  clear hb hv hw
  go_upto_region 7 with (refine wpList_store_row rfl 26 _ _ rfl w6.heap.size ou.toArray rfl rfl 26 _ (heap_alloc_new w6 _) OI.out OS.out OO.out ?_)
  rw [← HW.out]
  clear HW OO OS
  by_cases h0 : V.1 = 0
  rotate_left
  · have hz0 : ¬ (V.1 : Int) = 0 := by omega
    obtain ⟨cv, hcv⟩ : ∃ z : Int, z = (V.1 : Int) := ⟨_, rfl⟩
    rw [← hcv] at hz0 ⊢
    have hz1 : (cv != 0) = true := by rw [bne_iff_ne]; exact hz0
    have hz2 : (cv == 0) = false := by rw [beq_eq_false_iff_ne]; exact hz0
    clear hcv h0
    go_wp2_with fail
    go_ret
    exact ⟨rfl, BW.out⟩
  have HZ0 := Lib.hid h0
  rw [h0]
  obtain ⟨S, hmt⟩ := HMTou.out h0
  have hsm0 : SM w6 w5s1.heap.size ou V.2 := SM.of hmt
  have HSM0 : Hid (SM w6s2 w5s1.heap.size ou V.2) := Lib.hid (hsm0.step (Spo.of_below BN.out BBou.out.size))
  have HBS : Hid (w5s1.heap.size ≤ w6s2.heap.size) := Lib.hid (Nat.le_trans BBou.out.size BN.out.size)
  have BUS : Hid (Below w5s1.heap.size w5s1 w6s2) := Lib.hid (BBou.out.trans (BN.out.mono BBou.out.size))
  have HSPO := Lib.hid (spoil_any w5s1.heap.size _ V.2 ou w6s2 (Nat.le_refl _) HSM0.out HBS.out)
  clear hmt hsm0 h0
  go_wp2_with (refine wpList_load_row rfl 26 _ rfl (w6.heap.size) rfl 26 ou.toArray (0, 0) _ Vou.out Tryd.underlying26 rfl Iou.out ?_)
  refine HSPO.out.mono ?_
  rintro e w8 ⟨rfl, hsp⟩
  have BX8 : Hid (Below w5s1.heap.size w6s2 w8) := Lib.hid hsp.below
  have BY8 : Hid (Below w5s1.heap.size w5s1 w8) := Lib.hid (BUS.out.trans BX8.out)
  have BW0 : Hid (Below w.heap.size w w8) := Lib.hid (BW.out.trans (BX8.out.mono (HBX.out)))
  clear hsp HSPO
  have Vt : Hid (w8.heap[w.heap.size]? = some (.cells cs.toArray 26 (0, 0))) := Lib.hid ((BY8.out.block _ (Array.getElem?_eq_some_iff.1 P0t.out).1).trans P0t.out)
  have Vwz : Hid (w8.heap[w5.heap.size]? = some (.cells wz.toArray 26 (0, 0))) := Lib.hid ((BY8.out.block _ (Array.getElem?_eq_some_iff.1 P0wz.out).1).trans P0wz.out)
  have Tt := Lib.hid (IsT.later BY8.out _ _ _ Q0t.out)
  have Twz := Lib.hid (IsT.later BY8.out _ _ _ Q0wz.out)
  have BW := BW0
  have HAP := Lib.hid (applyA_any _ _ _ w8 Tt.out m a k c l (HX.out.later BW.out) (HM.out.below BW.out HMX.out) (Nat.lt_of_lt_of_le HMX.out BW.out.size))
  go_wp2_with (refine wpList_load_row rfl 26 _ rfl (w.heap.size) rfl 26 cs.toArray (0, 0) _ Vt.out Tryd.underlying26 rfl It.out ?_)
  refine HAP.out.mono ?_
  rintro e w9 ⟨ov, rfl, ho5, ho1, hb, hok, hbad⟩
  rw [HRA.out.1] at hok hbad ⊢
  have HMTov : Hid (V.1 = 0 → ∃ S, MT w9 w8.heap.size ov V.2 S) := Lib.hid (fun h0 => by
    obtain ⟨S, hmt⟩ := hok h0
    rw [HRA.out.2.1 h0] at hmt
    exact ⟨S, hmt⟩)
  obtain ⟨Nov, hT⟩ : ∃ N, IsT w9 N ov V.2 := by
    by_cases h0 : V.1 = 0
    · obtain ⟨S, hmt⟩ := HMTov.out h0
      have hsm := (run_small (t := t) (l := l) (by rw [HRA.out.1]; exact h0)).1
      rw [HRA.out.2.1 h0] at hsm
      exact ⟨_, hmt.isT _ (Nat.le_refl _) hsm⟩
    · rw [hbad h0, HRA.out.2.2 h0]
      exact ⟨1, isT_zero _⟩
  have Tov := Lib.hid hT
  have HO5 := Lib.hid ho5
  have HO1 := Lib.hid ho1
  have BN := Lib.hid hb
  have BW := Lib.hid (BW.out.trans (BN.out.mono BW.out.size))
  have Vt : Hid (w9.heap[w.heap.size]? = some (.cells cs.toArray 26 (0, 0))) := Lib.hid ((BN.out.block _ (Array.getElem?_eq_some_iff.1 Vt.out).1).trans Vt.out)
  have Vwz : Hid (w9.heap[w5.heap.size]? = some (.cells wz.toArray 26 (0, 0))) := Lib.hid ((BN.out.block _ (Array.getElem?_eq_some_iff.1 Vwz.out).1).trans Vwz.out)
  have Tt := Lib.hid (IsT.later BN.out _ _ _ Tt.out)
  have Twz := Lib.hid (IsT.later BN.out _ _ _ Twz.out)
  clear hT hok hbad ho5 ho1 HAP hb HMTov
  have OI := Lib.hid (infoL (HO5.out))
  have OO : Hid (ov.toArray.all (·.oneCell') = true) := Lib.hid (HO1.out)
  have OS : Hid ((#[.int .u8 0, .bool false, .slice none 0 0, .slice none 0 0, .slice none 0 0] : Array Value).size = ov.toArray.size) := Lib.hid (by have := HO5.out; simp [this])
  obtain ⟨w9s3, hw⟩ : ∃ X, X = (w9.alloc (.cells #[.int .u8 0, .bool false, .slice none 0 0, .slice none 0 0, .slice none 0 0] 26)).setRow w9.heap.size ov.toArray := ⟨_, rfl⟩
  have hb : Below w9.heap.size w9 w9s3 := by rw [hw]; exact below_setRow ((Below.refl _ _).alloc (Nat.le_refl _) _) (Nat.le_refl _) _
  have hv : w9s3.heap[w9.heap.size]? = some (.cells ov.toArray 26 (0, 0)) := by rw [hw]; exact setRow_heap _ _ _ _ _ _ (heap_alloc_new w9 _)
  have HW := Lib.hid hw
  have BN := Lib.hid hb
  have BW := Lib.hid (BW.out.trans (BN.out.mono BW.out.size))
  have Vt : Hid (w9s3.heap[w.heap.size]? = some (.cells cs.toArray 26 (0, 0))) := Lib.hid ((BN.out.block _ (Array.getElem?_eq_some_iff.1 Vt.out).1).trans Vt.out)
  have Vwz : Hid (w9s3.heap[w5.heap.size]? = some (.cells wz.toArray 26 (0, 0))) := Lib.hid ((BN.out.block _ (Array.getElem?_eq_some_iff.1 Vwz.out).1).trans Vwz.out)
  have Tt := Lib.hid (IsT.later BN.out _ _ _ Tt.out)
  have Twz := Lib.hid (IsT.later BN.out _ _ _ Twz.out)
  have Tov := Lib.hid (IsT.later BN.out _ _ _ Tov.out)
  have Vov := Lib.hid hv
  have Iov := OI
  clear hb hv hw
  go_upto_region 11 with (refine wpList_store_row rfl 26 _ _ rfl w9.heap.size ov.toArray rfl rfl 26 _ (heap_alloc_new w9 _) OI.out OS.out OO.out ?_)
  rw [← HW.out]
  clear HW OO OS
  rw [HZ0.out]
  have HSM := Lib.hid (rsame_any _ _ _ _ _ _ w9s3 Tov.out Twz.out)
  go_wp2_with (first
    | (refine ld_rowG (by rfl) 26 _ rfl (w9.heap.size) rfl 26 ov.toArray (0, 0) _ Vov.out Tryd.underlying26 rfl Iov.out ?_)
    | (refine ld_rowG (by rfl) 26 _ rfl (w5.heap.size) rfl 26 wz.toArray (0, 0) _ Vwz.out Tryd.underlying26 rfl Iwz.out ?_))
  refine HSM.out.mono ?_
  rintro e w10 ⟨⟨r, rfl, hr⟩, hb⟩
  have hrt : r = true := hr.2 (rfl)
  subst hrt
  have BN := Lib.hid hb
  have BW := Lib.hid (BW.out.trans (BN.out.mono BW.out.size))
  have Vt : Hid (w10.heap[w.heap.size]? = some (.cells cs.toArray 26 (0, 0))) := Lib.hid ((BN.out.block _ (Array.getElem?_eq_some_iff.1 Vt.out).1).trans Vt.out)
  have Vwz : Hid (w10.heap[w5.heap.size]? = some (.cells wz.toArray 26 (0, 0))) := Lib.hid ((BN.out.block _ (Array.getElem?_eq_some_iff.1 Vwz.out).1).trans Vwz.out)
  have Vov : Hid (w10.heap[w9.heap.size]? = some (.cells ov.toArray 26 (0, 0))) := Lib.hid ((BN.out.block _ (Array.getElem?_eq_some_iff.1 Vov.out).1).trans Vov.out)
  have Tt := Lib.hid (IsT.later BN.out _ _ _ Tt.out)
  have Twz := Lib.hid (IsT.later BN.out _ _ _ Twz.out)
  have Tov := Lib.hid (IsT.later BN.out _ _ _ Tov.out)
  clear hr hb HSM
  go_wp2_with fail
  go_ret
  exact ⟨rfl, BW.out⟩

end Go.Proofs.YtbempgdndmchlaaDoor
