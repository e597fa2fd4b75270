/-
  Whether two trees are alike: the program's Same. Condition: the first has at most a million parts.
-/
import Derived.Test.YtmgfgldabjgmmaaDoorTAlike
import Derived.Deep.LoopGhost
import Derived.Deep.DeepCutAuto
import Derived.Deep.AppendSrc
import Derived.Deep.Upon
import Derived.Deep.RegionHeld3
import Derived.Deep.AppendLies
namespace Go.Proofs.YtmgfgldabjgmmaaDoor
open Go.RowKit
set_option linter.unusedVariables false

def Two (w : World) (cs ds : List Value) (v1 v2 : Value) (wx : World) : Prop :=
  ∃ b1 b2, v1 = .slice (some ⟨b1, 0, none⟩) 1 1 ∧ v2 = .slice (some ⟨b2, 0, none⟩) 1 1 ∧ b1 ≠ b2 ∧ Has wx b1 cs 26 ∧ Has wx b2 ds 26 ∧ Below w.heap.size w wx ∧ w.heap.size ≤ b1 ∧ w.heap.size ≤ b2

def kidsT : T → List T | .mk _ _ _ _ ks => ks

theorem two_a {w w2 : World} {cs ds : List Value} (hb : Below w.heap.size w w2) (hs : w2.heap.size = w.heap.size + 1 + 1) :
    Two w cs ds (.slice (some ⟨w.heap.size + 1 + 1, 0, none⟩) 1 1) (.slice (some ⟨w.heap.size + 1 + 1 + 1, 0, none⟩) 1 1) ((w2.alloc (.cells cs.toArray 26)).alloc (.cells ds.toArray 26)).drew := by
  have h1 : (w2.alloc (.cells cs.toArray 26)).heap.size = w.heap.size + 1 + 1 + 1 := by rw [← hs]; simp
  refine ⟨_, _, rfl, rfl, by omega, ?_, ?_, ((hb.alloc (by omega) _).alloc (by omega) _).drew, by omega, by omega⟩
  · rw [← hs]; exact ((Has.new w2 cs _).alloc _).drew
  · rw [← h1]; exact (Has.new _ ds _).drew
theorem two_b {w w2 : World} {cs ds : List Value} (hb : Below w.heap.size w w2) (hs : w2.heap.size = w.heap.size + 1 + 1) :
    Two w cs ds (.slice (some ⟨w.heap.size + 1 + 1 + 1, 0, none⟩) 1 1) (.slice (some ⟨w.heap.size + 1 + 1, 0, none⟩) 1 1) ((w2.alloc (.cells ds.toArray 26)).alloc (.cells cs.toArray 26)).drew := by
  have h1 : (w2.alloc (.cells ds.toArray 26)).heap.size = w.heap.size + 1 + 1 + 1 := by rw [← hs]; simp
  refine ⟨_, _, rfl, rfl, by omega, ?_, ?_, ((hb.alloc (by omega) _).alloc (by omega) _).drew, by omega, by omega⟩
  · rw [← h1]; exact (Has.new _ cs _).drew
  · rw [← hs]; exact ((Has.new w2 ds _).alloc _).drew

theorem wp_append_srcL {P : Program} {w : World} {o : Oper} {a : Act} {K : Act → World → Prop} {Q : Exit → Act → World → Prop} (s x : Operand) (t : TypeId)
    (ho : o.op = .call { callee := .builtin .append, args := #[s, x], argTypes := #[t, t] })
    (base : Nat) (e : TypeId) (i : TypeInfo) (z : Value) (size bytes : Nat) (ht : P.underlying t = some (.slice e)) (hi : P.info? e = some i) (hz : i.zero = some z)
    (hsize : i.size = size) (hby : i.bytes = bytes) (hzs : z.cells.size = size) (hsz : 0 < size)
    (v : Value) (n : Nat) (xs : List Value) (hs : a.eval s = v) (hown : w.ownsRow base e size v n xs)
    (ao : Option Addr) (m c : Nat) (news : List Value) (hx : a.eval x = .slice ao m c) (hl : news.length = m * size) (hnone : ao = none → m = 0 ∧ c = 0)
    (hnews : ∀ ad, ao = some ad → ∀ j u, news[j]? = some u → w.cell? (ad.add j) = some u) (h1 : ∀ u ∈ news, u.oneCell' = true)
    (h63 : n + m ≤ maxLen) (hbytes : (n + m) * bytes ≤ 140737488355328) (hbase : base ≤ w.heap.size)
    (h : ∀ v' w', w'.ownsRow base e size v' (n + m) (xs ++ news) → w.grownBy w' v.ownBlock → (∀ q, v'.ownBlock = some q → v.ownBlock = some q ∨ q = w.heap.size) → K (a.put o.dst v') w') : o.wp P a w K Q := by
  rcases Nat.eq_zero_or_pos m with h0 | h0
  · subst h0
    obtain rfl : news = [] := List.eq_nil_of_length_eq_zero (by simpa using hl)
    have hform : ∃ b cap, v = .slice b n cap ∧ n ≤ cap := by
      rcases hown.2 with ⟨rfl, rfl⟩ | ⟨g, cap, cur, rfl, _, _, h2, _⟩
      · exact ⟨_, _, rfl, Nat.le_refl _⟩
      · exact ⟨_, _, rfl, h2⟩
    obtain ⟨b, cap, rfl, hle⟩ := hform
    have hsrc : Src P i.size t (.slice ao 0 c) 0 [] w := by
      cases ao with
      | none => exact Src.ofNil w ht c
      | some ad => exact Src.ofSlice w ht ad 0 c [] (by simp) (fun j u hj => by simp at hj) (fun u hu => by simp at hu)
    have hr := run_append_nothing (P := P) w t t o.type e i ht hi b n cap hle (.slice ao 0 c) hsrc
    unfold Oper.wp execOp
    simp only [ho, resolve, invoke, builtin, Sem.run_bind, Sem.run_pure, Result.andThen_ok, List.map_toArray, List.map_cons, List.map_nil, hs, hx, hr]
    exact h _ _ (by simpa using hown) (World.grownBy.refl w _) (fun q hq => .inl hq)
  · cases ao with
    | none => have := (hnone rfl).1; omega
    | some ad =>
      exact wp_append_lies w s x t ho base e i z size bytes ht hi hz hsize hby hzs hsz v n xs hs hown ad m c news hx hl (hnews ad rfl) h1 h0 h63 hbytes hbase w.heap.size rfl (fun g cap w' h2 h3 h4 h5 => h _ _ h2 h3 (fun q hq => by
        simp only [Value.ownBlock, Option.some.injEq] at hq
        subst hq
        exact h4))

theorem owns_take {w : World} {B : Nat} {e : TypeId} {g n cap size : Nat} {xs : List Value} (h : w.ownsRow B e size (.slice (some ⟨g, 0, none⟩) (n + 1) cap) (n + 1) xs) : w.ownsRow B e size (.slice (some ⟨g, 0, none⟩) n cap) n (xs.take (n * size)) := by
  have hl := h.1
  have hm : n * size ≤ (n + 1) * size := Nat.mul_le_mul_right _ (by omega)
  rcases h.2 with ⟨h0, _⟩ | ⟨g', cap', cur, he, hg, hgg, hle, hmx, hsz, htk⟩
  · cases h0
  · cases he
    refine ⟨by rw [List.length_take]; omega, .inr ⟨g, cap, cur, rfl, hg, hgg, by omega, hmx, hsz, ?_⟩⟩
    rw [← htk, List.take_take]
    congr 1
    omega

theorem five_append_left {A C : List Value} {i m : Nat} (hA : A.length = m * 5) (hi : i < m) : five (A ++ C) i = five A i := by
  apply List.ext_getElem?
  intro q
  by_cases hq : q < 5
  · rw [five_get q hq, five_get q hq, List.getElem?_append_left (by omega)]
  · unfold five
    rw [List.getElem?_eq_none (by rw [List.length_take]; omega), List.getElem?_eq_none (by rw [List.length_take]; omega)]
theorem five_append_right {A C : List Value} {i m : Nat} (hA : A.length = m * 5) (hi : m ≤ i) : five (A ++ C) i = five C (i - m) := by
  apply List.ext_getElem?
  intro q
  by_cases hq : q < 5
  · rw [five_get q hq, five_get q hq, List.getElem?_append_right (by omega)]
    congr 1
    omega
  · unfold five
    rw [List.getElem?_eq_none (by rw [List.length_take]; omega), List.getElem?_eq_none (by rw [List.length_take]; omega)]

def muP (P : List (T × T)) : Nat := (P.map fun p => sizeN p.1).sum
theorem muP_append (P R : List (T × T)) : muP (P ++ R) = muP P + muP R := by simp [muP]
theorem muP_len : ∀ P : List (T × T), P.length ≤ muP P
  | [] => by simp
  | p :: P => by
    have h1 := muP_len P
    have h2 := sizeN_pos p.1
    have e : muP (p :: P) = sizeN p.1 + muP P := by simp [muP]
    rw [e, List.length_cons]; omega
theorem muP_zip : ∀ (l r : List T), l.length = r.length → muP (l.zip r) = sizeNL l
  | [], r, _ => by simp [muP, sizeNL]
  | x :: l, [], h => by simp at h
  | x :: l, y :: r, h => by
    have := muP_zip l r (by simpa using h)
    rw [sizeNL_cons, ← this]; simp [muP]
theorem zip_eq : ∀ (l r : List T), l.length = r.length → ((∀ p ∈ l.zip r, p.1 = p.2) ↔ l = r)
  | [], [], _ => by simp
  | [], y :: r, h => by simp at h
  | x :: l, [], h => by simp at h
  | x :: l, y :: r, h => by
    have := zip_eq l r (by simpa using h)
    simp only [List.zip_cons_cons, List.mem_cons, forall_eq_or_imp, this]
    simp
theorem head_eq {x y : T} (h : headEq x y) : (x = y ↔ ∀ p ∈ (kidsT x).zip (kidsT y), p.1 = p.2) ∧ (kidsT x).length = (kidsT y).length ∧ sizeN x = 1 + sizeNL (kidsT x) := by
  obtain ⟨k, e, d, ns, ks⟩ := x
  obtain ⟨k', e', d', ns', ks'⟩ := y
  obtain ⟨rfl, rfl, rfl, rfl, hl⟩ := h
  refine ⟨?_, hl.symm, sizeN_mk _ _ _ _ _⟩
  show _ ↔ ∀ p ∈ ks.zip ks', p.1 = p.2
  rw [zip_eq ks ks' hl.symm]
  simp

/-- At the head of the loop: pairs that must still be looked at. -/
def SIn (w : World) (a b : T) (k : Nat) (v1 v2 : Value) (wr : World) : Prop :=
  ∃ (N : Nat) (LL RR : List Value) (P : List (T × T)), P.length = N ∧ wr.ownsRow w.heap.size 26 5 v1 N LL ∧ wr.ownsRow w.heap.size 26 5 v2 N RR ∧ (∀ q, v1.ownBlock = some q → v2.ownBlock ≠ some q) ∧
    (∀ i, i < N → ∃ n m, IsT w n (five LL i) (P.getD i default).1 ∧ IsT w m (five RR i) (P.getD i default).2) ∧ (a = b ↔ ∀ p ∈ P, p.1 = p.2) ∧ muP P = k ∧ k ≤ 1000000 ∧ Below w.heap.size w wr

/-- Two boxes, each with a tree. -/
def Box2 (w : World) (X Y : List Value) (v1 v2 : Value) (wx : World) : Prop :=
  ∃ g1 g2, v1 = .pointer (some ⟨g1, 0, none⟩) ∧ v2 = .pointer (some ⟨g2, 0, none⟩) ∧ Has wx g1 X 26 ∧ Has wx g2 Y 26 ∧ Below w.heap.size w wx ∧ w.heap.size ≤ g1 ∧ w.heap.size ≤ g2

theorem box2_a {w : World} {cs ds : List Value} : Box2 w cs ds (.pointer (some ⟨w.heap.size, 0, none⟩)) (.pointer (some ⟨w.heap.size + 1, 0, none⟩)) ((w.alloc (.cells cs.toArray 26)).alloc (.cells ds.toArray 26)).drew := by
  have h1 : (w.alloc (.cells cs.toArray 26)).heap.size = w.heap.size + 1 := by simp
  refine ⟨_, _, rfl, rfl, ((Has.new w cs _).alloc _).drew, ?_, (((Below.refl _ _).alloc (Nat.le_refl _) _).alloc (by omega) _).drew, by omega, by omega⟩
  rw [← h1]; exact (Has.new _ ds _).drew
theorem box2_b {w : World} {cs ds : List Value} : Box2 w cs ds (.pointer (some ⟨w.heap.size + 1, 0, none⟩)) (.pointer (some ⟨w.heap.size, 0, none⟩)) ((w.alloc (.cells ds.toArray 26)).alloc (.cells cs.toArray 26)).drew := by
  have h1 : (w.alloc (.cells ds.toArray 26)).heap.size = w.heap.size + 1 := by simp
  refine ⟨_, _, rfl, rfl, ?_, ((Has.new w ds _).alloc _).drew, (((Below.refl _ _).alloc (Nat.le_refl _) _).alloc (by omega) _).drew, by omega, by omega⟩
  rw [← h1]; exact (Has.new _ cs _).drew

theorem two_start {w wx : World} {n m : Nat} {a b : T} {cs ds : List Value} {v1 v2 : Value} (h : Two w cs ds v1 v2 wx) (ht : IsT w n cs a) (ht' : IsT w m ds b) (hN : sizeN a ≤ 1000000) : SIn w a b (sizeN a) v1 v2 wx := by
  obtain ⟨b1, b2, rfl, rfl, hne, h1, h2, hb, hb1, hb2⟩ := h
  have l1 := isT_five ht
  have l2 := isT_five ht'
  have own : ∀ (q : Nat) (L : List Value), Has wx q L 26 → L.length = 5 → w.heap.size ≤ q → wx.ownsRow w.heap.size 26 5 (.slice (some ⟨q, 0, none⟩) 1 1) 1 L := fun q L hq hl hB =>
    ⟨by omega, .inr ⟨q, 1, L.toArray, rfl, hB, hq, Nat.le_refl _, by unfold maxLen; omega, by simp [hl], by rw [List.toList_toArray, List.take_of_length_le (by omega)]⟩⟩
  have f1 : ∀ L : List Value, L.length = 5 → five L 0 = L := fun L hl => by
    unfold five
    rw [Nat.zero_mul, List.drop_zero, List.take_of_length_le (by omega)]
  refine ⟨1, cs, ds, [(a, b)], rfl, own b1 cs h1 l1 hb1, own b2 ds h2 l2 hb2, (fun q hq e => ?_), fun i hi => ?_, by simp, by simp [muP], hN, hb⟩
  · simp only [Value.ownBlock, Option.some.injEq] at hq e
    exact hne (hq.trans e.symm)
  · obtain rfl : i = 0 := by omega
    exact ⟨n, m, by rw [f1 cs l1]; exact ht, by rw [f1 ds l2]; exact ht'⟩

set_option maxRecDepth 100000 in
set_option maxHeartbeats 20000000 in
theorem same_any (n : Nat) (cs : List Value) (a : T) (m : Nat) (ds : List Value) (b : T) (w : World) (ht : IsT w n cs a) (ht' : IsT w m ds b) (hN : sizeN a ≤ 1000000) :
    Calls Tryd.prog 25 #[.agg cs.toArray, .agg ds.toArray] w (SamePost a b w) := by
  have HT := Lib.hid ht
  have HT' := Lib.hid ht'
  obtain ⟨c0, c1, c2, c3, c4, rfl⟩ := five_list (isT_five ht)
  obtain ⟨d0, d1, d2, d3, d4, rfl⟩ := five_list (isT_five ht')
  clear ht ht'
  go_enter Tryd.func25, Tryd.ntmps25
  go_upto_region 1 with fail
  obtain ⟨w1, hw1⟩ : ∃ w1, w1 = w.alloc (.cells #[c0, c1, c2, c3, c4] 26) := ⟨_, rfl⟩
  have e1 : w1.heap.size = w.heap.size + 1 := by rw [hw1]; simp
  have x1 : Has w1 w.heap.size [c0, c1, c2, c3, c4] 26 := by rw [hw1]; exact Has.new w _ _
  have b1 : Below w.heap.size w w1 := by rw [hw1]; exact (Below.refl _ _).alloc (Nat.le_refl _) _
  rw [← hw1]
  obtain ⟨w2, hw2⟩ : ∃ w2, w2 = w1.alloc (.cells #[d0, d1, d2, d3, d4] 26) := ⟨_, rfl⟩
  have y2 : Has w2 (w.heap.size + 1) [d0, d1, d2, d3, d4] 26 := by rw [hw2, ← e1]; exact Has.new w1 _ _
  have x2 : Has w2 w.heap.size [c0, c1, c2, c3, c4] 26 := by rw [hw2]; exact x1.alloc _
  have b2 : Below w.heap.size w w2 := by rw [hw2]; exact b1.alloc b1.size _
  have e2 : w2.heap.size = w.heap.size + 1 + 1 := by rw [hw2, ← e1]; simp
  rw [← hw2]
  have cx0 := x2.cellAt (i := 0) rfl
  have cx1 := x2.cellAt (i := 1) rfl
  have cx2 := x2.cellAt (i := 2) rfl
  have cx3 := x2.cellAt (i := 3) rfl
  have cx4 := x2.cellAt (i := 4) rfl
  have cy0 := y2.cellAt (i := 0) rfl
  have cy1 := y2.cellAt (i := 1) rfl
  have cy2 := y2.cellAt (i := 2) rfl
  have cy3 := y2.cellAt (i := 3) rfl
  have cy4 := y2.cellAt (i := 4) rfl
  have B2 := Lib.hid b2
  have X2 := Lib.hid x2
  have Y2 := Lib.hid y2
  clear hw1 hw2 x1 b1 e1 x2 y2 b2
  go_cut [5, 6] (fun s5 s6 wx => Two w [c0, c1, c2, c3, c4] [d0, d1, d2, d3, d4] s5 s6 wx)
  case first =>
    go_region
    · go_wp2_with fail
      go_meet
      exact two_a (cs := [c0, c1, c2, c3, c4]) (ds := [d0, d1, d2, d3, d4]) B2.out e2
    · go_wp2_with fail
      go_meet
      exact two_b (cs := [c0, c1, c2, c3, c4]) (ds := [d0, d1, d2, d3, d4]) B2.out e2
  case rest =>
    have HST := Lib.hid (two_start hcut HT.out HT'.out hN)
    clear hcut cx0 cx1 cx2 cx3 cx4 cy0 cy1 cy2 cy3 cy4 B2 X2 Y2
    obtain ⟨i0, hi0, hz0, hz1, hz2⟩ := info_tree_parts
    have HI := Lib.hid hi0
    have HZ0 := Lib.hid hz0
    have HZ1 := Lib.hid hz1
    have HZ2 := Lib.hid hz2
    clear hi0 hz0 hz1 hz2
    go_wp2_with fail
    go_loopg [5, 6] (sizeN a) (fun k v1 v2 wr => SIn w a b k v1 v2 wr)
    case atStart => exact HST.out
    case round =>
      clear HST
      obtain ⟨N, LL, RR, P, hPN, hl, hr, hne, hf, hab, hmu, hk, hbel⟩ := hrel
      have hN6 : N ≤ 1000000 := by have := muP_len P; omega
      have HBE := Lib.hid hbel
      cases N with
      | zero =>
        have hform : ∃ a' c, u5 = .slice a' 0 c := by
          rcases hl.2 with ⟨rfl, _⟩ | ⟨g, cap, cur, rfl, _⟩
          · exact ⟨_, _, rfl⟩
          · exact ⟨_, _, rfl⟩
        obtain ⟨a', c, rfl⟩ := hform
        have HAB : Hid (a = b) := Lib.hid (hab.2 (fun p hp => by
          have : P = [] := List.eq_nil_of_length_eq_zero hPN
          rw [this] at hp; simp at hp))
        clear hl hr hne hf hab hbel hmu
        go_wp2_with fail
        go_ret
        exact same_yes rfl HAB.out HBE.out
      | succ m' =>
        obtain ⟨q1, cap1, hq1, rfl⟩ : ∃ q cap, m' + 1 ≤ cap ∧ u5 = .slice (some ⟨q, 0, none⟩) (m' + 1) cap := by
          rcases hl.2 with ⟨_, h0⟩ | ⟨g, cap, cur, rfl, _, _, h1, _⟩
          · omega
          · exact ⟨_, _, h1, rfl⟩
        obtain ⟨q2, cap2, hq2, rfl⟩ : ∃ q cap, m' + 1 ≤ cap ∧ u6 = .slice (some ⟨q, 0, none⟩) (m' + 1) cap := by
          rcases hr.2 with ⟨_, h0⟩ | ⟨g, cap, cur, rfl, _, _, h1, _⟩
          · omega
          · exact ⟨_, _, h1, rfl⟩
        obtain ⟨nx, ny, hTx, hTy⟩ := hf m' (by omega)
        obtain ⟨P', p, rfl⟩ : ∃ P' p, P = P' ++ [p] := by
          rcases List.eq_nil_or_concat P with h | ⟨P', p, h⟩
          · rw [h] at hPN; simp at hPN
          · exact ⟨P', p, by rw [h, List.concat_eq_append]⟩
        have hP' : P'.length = m' := by simp at hPN; exact hPN
        have hlast : (P' ++ [p]).getD m' default = p := by simp [List.getD, ← hP']
        rw [hlast] at hTx hTy
        obtain ⟨x, y⟩ := p
        cases nx with
        | zero => exact absurd hTx (by simp [IsT])
        | succ nx =>
        cases ny with
        | zero => exact absurd hTy (by simp [IsT])
        | succ ny =>
        obtain ⟨k, e, d, ns, ks⟩ := x
        obtain ⟨k', e', d', ns', ks'⟩ := y
        have hTx' := hTx
        have hTy' := hTy
        obtain ⟨ad, nd, cd, an, nn, cn, ak, nk, ck, hx5, _, _, hKx⟩ := hTx'
        obtain ⟨ad', nd', cd', an', nn', cn', ak', nk', ck', hy5, _, _, hKy⟩ := hTy'
        have HKX := Lib.hid hKx
        have HKY := Lib.hid hKy
        clear hKx hKy
        rw [hx5] at hTx
        rw [hy5] at hTy
        obtain ⟨p0, p1, p2, p3, p4⟩ := five_at hx5
        obtain ⟨r0, r1, r2, r3, r4⟩ := five_at hy5
        have fx := fun j (hj : j < (m' + 1) * 5) => World.ownsRow.cellAt hl j hj
        have fy := fun j (hj : j < (m' + 1) * 5) => World.ownsRow.cellAt hr j hj
        have cx0 := (fx _ (by omega)).trans p0
        have cx1 := (fx _ (by omega)).trans p1
        have cx2 := (fx _ (by omega)).trans p2
        have cx3 := (fx _ (by omega)).trans p3
        have cx4 := (fx _ (by omega)).trans p4
        have cy0 := (fy _ (by omega)).trans r0
        have cy1 := (fy _ (by omega)).trans r1
        have cy2 := (fy _ (by omega)).trans r2
        have cy3 := (fy _ (by omega)).trans r3
        have cy4 := (fy _ (by omega)).trans r4
        have HL := Lib.hid hl
        have HR := Lib.hid hr
        have HNE := Lib.hid hne
        have HF := Lib.hid hf
        have HAB := Lib.hid hab
        have HMU := Lib.hid hmu
        have HTX := Lib.hid hTx
        have HTY := Lib.hid hTy
        have HPL := Lib.hid hP'
        have hwr : wrap64 (((m' + 1 : Nat) : Int) - 1) = (m' : Int) := by
          rw [show ((m' + 1 : Nat) : Int) - 1 = (m' : Int) by omega]
          unfold wrap64; omega
        clear hl hr hne hf hab hmu hPN hP' hlast hTx hTy hx5 hy5 p0 p1 p2 p3 p4 r0 r1 r2 r3 r4 fx fy hbel
        have z1 : q1 < wr.heap.size := World.block_lt_of_cell? wr _ cx0
        have z2 : q2 < wr.heap.size := World.block_lt_of_cell? wr _ cy0
        have z3 : ¬ q1 = wr.heap.size := by omega
        have z4 : ¬ q2 = wr.heap.size := by omega
        have z5 : ¬ q1 = wr.heap.size + 1 := by omega
        have z6 : ¬ q2 = wr.heap.size + 1 := by omega
        have z7 : wr.heap.size ≠ q1 := by omega
        have z8 : wr.heap.size ≠ q2 := by omega
        have z9 : wr.heap.size + 1 ≠ q1 := by omega
        have z0 : wr.heap.size + 1 ≠ q2 := by omega
        go_upto_region 4 with fail
        go_cut [8, 9] (fun s8 s9 wx => Box2 wr [.int .u8 (k.toNat : Int), .bool e, .slice ad nd cd, .slice an nn cn, .slice ak nk ck] [.int .u8 (k'.toNat : Int), .bool e', .slice ad' nd' cd', .slice an' nn' cn', .slice ak' nk' ck'] s8 s9 wx)
        case first =>
          go_region
          · go_wp2_with fail
            go_meet
            exact box2_a (cs := [.int .u8 (k.toNat : Int), .bool e, .slice ad nd cd, .slice an nn cn, .slice ak nk ck]) (ds := [.int .u8 (k'.toNat : Int), .bool e', .slice ad' nd' cd', .slice an' nn' cn', .slice ak' nk' ck'])
          · go_wp2_with fail
            go_meet
            exact box2_b (cs := [.int .u8 (k.toNat : Int), .bool e, .slice ad nd cd, .slice an nn cn, .slice ak nk ck]) (ds := [.int .u8 (k'.toNat : Int), .bool e', .slice ad' nd' cd', .slice an' nn' cn', .slice ak' nk' ck'])
        case rest =>
          obtain ⟨g1, g2, rfl, rfl, hX, hY, hb, hg1, hg2⟩ := hcut
          obtain ⟨X5, hX5⟩ : ∃ X5 : List Value, X5 = [.int .u8 (k.toNat : Int), .bool e, .slice ad nd cd, .slice an nn cn, .slice ak nk ck] := ⟨_, rfl⟩
          obtain ⟨Y5, hY5⟩ : ∃ Y5 : List Value, Y5 = [.int .u8 (k'.toNat : Int), .bool e', .slice ad' nd' cd', .slice an' nn' cn', .slice ak' nk' ck'] := ⟨_, rfl⟩
          rw [← hX5] at hX
          rw [← hY5] at hY
          have HX5 := Lib.hid hX5
          have HY5 := Lib.hid hY5
          have HX := Lib.hid hX
          have HY := Lib.hid hY
          have HXI : Hid ((Tryd.prog.info? 26).map (·.size) = some X5.toArray.size) := Lib.hid (by rw [hX5]; exact infoL rfl)
          have HYI : Hid ((Tryd.prog.info? 26).map (·.size) = some Y5.toArray.size) := Lib.hid (by rw [hY5]; exact infoL rfl)
          have HBC := Lib.hid (HBE.out.trans (hb.mono HBE.out.size))
          have HBR := Lib.hid hb
          have sc := hb.size
          have hmx : nk ≤ 1000000 := by
            have h1 := HMU.out
            rw [muP_append] at h1
            have h2 : muP [(T.mk k e d ns ks, T.mk k' e' d' ns' ks')] = 1 + sizeNL ks := by simp [muP, sizeN_mk]
            have h3 := sizeNL_len ks
            have h4 := HKX.out.length
            omega
          have KA := Lib.hid (alike_any _ X5 _ _ Y5 _ wc (by rw [hX5]; exact IsT.later HBC.out _ _ _ HTX.out) (by rw [hY5]; exact IsT.later HBC.out _ _ _ HTY.out))
          clear hX hY hX5 hY5 hb cx0 cx1 cx2 cx3 cx4 cy0 cy1 cy2 cy3 cy4 z3 z4 z5 z6 z7 z8 z9 z0
          go_wp2_with (first
            | (refine wpList_load_row rfl 26 _ rfl g1 rfl 26 X5.toArray (0, 0) _ HX.out Tryd.underlying26 rfl HXI.out ?_)
            | (refine wpList_load_row rfl 26 _ rfl g2 rfl 26 Y5.toArray (0, 0) _ HY.out Tryd.underlying26 rfl HYI.out ?_))
          refine KA.out.mono ?_
          rintro en w3 ⟨⟨r, rfl, hr⟩, b3⟩
          have HB3 := Lib.hid (HBC.out.trans (b3.mono HBC.out.size))
          have HX3 := Lib.hid (HX.out.below b3 HX.out.lt)
          have HY3 := Lib.hid (HY.out.below b3 HY.out.lt)
          have s3 := b3.size
          have HBR3 := Lib.hid (HBR.out.trans (b3.mono sc))
          have HL3 := Lib.hid (row_later HL.out HBR3.out)
          have HR3 := Lib.hid (row_later HR.out HBR3.out)
          clear b3 KA HX HY HBC HBR HL HR
          cases r
          · have HNO : Hid (a ≠ b) := Lib.hid (fun eab => by
              have h1 := HAB.out.1 eab (T.mk k e d ns ks, T.mk k' e' d' ns' ks') (by simp)
              have h2 : headEq (T.mk k e d ns ks) (T.mk k' e' d' ns' ks') := by
                simp only [T.mk.injEq] at h1
                obtain ⟨rfl, rfl, rfl, rfl, rfl⟩ := h1
                exact ⟨rfl, rfl, rfl, rfl, rfl⟩
              exact absurd (hr.2 h2) (by simp))
            clear hr
            go_wp2_with fail
            go_ret
            exact same_no rfl HNO.out HB3.out
          · have HE := Lib.hid (hr.1 rfl)
            clear hr
            have hnk : nk' = nk := by rw [← HKX.out.length, ← HKY.out.length]; exact HE.out.2.2.2.2
            have hq1' : ¬ cap1 < m' := by omega
            have hq2' : ¬ cap2 < m' := by omega
            go_upto_region 7 with fail
            obtain ⟨KL, hKL, hKF, hKS, hK1⟩ := srcK (HKX.out.mono (w' := w3.drew) (HB3.out.trans (below_drewT (Below.refl _ _))) (fun _ _ h => h))
            have HKF := Lib.hid hKF
            have HKS := Lib.hid hKS
            have HK1 := Lib.hid hK1
            have HKLL := Lib.hid hKL
            clear hKF hKS hK1 hKL
            refine wp_region_held_drew (S := fun W => Has W g1 X5 26) (by kernel_rfl) HX3.out.drew (fun hHeld => ?_)
            refine wpAnyH_take (i := 0) (oi := { dst := some 32, op := Op.move (Operand.tmp 5), type := 24, pos := "tree.go:109", after := #[], guard := none }) (v := .slice (some ⟨q1, 0, none⟩) (m' + 1) cap1) rfl (by kernel_rfl) (by kernel_rfl) (by kernel_rfl) (fun _ _ _ h => h)
              (Or.inl ⟨by rfl, by intro w hSw; have hSc := Has.cellAt hSw (i := 4) (v := .slice ak nk ck) (by rw [HX5.out]; rfl); clear hSw; go_simp⟩) hHeld ?_
            try simp only [Act.put, List.setIfInBounds_toArray, List.set_cons_zero, List.set_cons_succ]
            refine wpAnyH_take (i := 1) (oi := { dst := some 33, op := Op.move (Operand.tmp 7), type := 3, pos := "tree.go:109", after := #[], guard := none }) (v := .int .i64 (m' : Int)) rfl (by kernel_rfl) (by kernel_rfl) (by kernel_rfl) (fun _ _ _ h => h)
              (Or.inl ⟨by rfl, by intro w hSw; have hSc := Has.cellAt hSw (i := 4) (v := .slice ak nk ck) (by rw [HX5.out]; rfl); clear hSw; go_simp⟩) hHeld ?_
            try simp only [Act.put, List.setIfInBounds_toArray, List.set_cons_zero, List.set_cons_succ]
            refine wpAnyH_take (i := 2) (oi := { dst := some 34, op := Op.slice 24 (Operand.tmp 32) none (some (Operand.tmp 33)) none, type := 24, pos := "tree.go:109", after := #[{ on := 0, ground := Ground.data }, { on := 1, ground := Ground.data }], guard := none }) (v := .slice (some ⟨q1, 0, none⟩) m' cap1) rfl (by kernel_rfl) (by kernel_rfl) (by kernel_rfl) (fun _ _ _ h => h)
              (Or.inl ⟨by rfl, by intro w hSw; have hSc := Has.cellAt hSw (i := 4) (v := .slice ak nk ck) (by rw [HX5.out]; rfl); clear hSw; go_simp⟩) hHeld ?_
            try simp only [Act.put, List.setIfInBounds_toArray, List.set_cons_zero, List.set_cons_succ]
            refine wpAnyH_take (i := 3) (oi := { dst := some 35, op := Op.fieldAddr 26 (Operand.tmp 8) 4, type := 0, pos := "tree.go:109", after := #[], guard := none }) (v := .pointer (some ⟨g1, 4, none⟩)) rfl (by kernel_rfl) (by kernel_rfl) (by kernel_rfl) (fun _ _ _ h => h)
              (Or.inl ⟨by rfl, by intro w hSw; have hSc := Has.cellAt hSw (i := 4) (v := .slice ak nk ck) (by rw [HX5.out]; rfl); clear hSw; go_simp⟩) hHeld ?_
            try simp only [Act.put, List.setIfInBounds_toArray, List.set_cons_zero, List.set_cons_succ]
            refine wpAnyH_take (i := 4) (oi := { dst := some 36, op := Op.load 24 (Operand.tmp 35), type := 24, pos := "tree.go:109", after := #[{ on := 3, ground := Ground.data }], guard := none }) (v := .slice ak nk ck) rfl (by kernel_rfl) (by kernel_rfl) (by kernel_rfl) (fun _ _ _ h => h)
              (Or.inl ⟨by rfl, by intro w hSw; have hSc := Has.cellAt hSw (i := 4) (v := .slice ak nk ck) (by rw [HX5.out]; rfl); clear hSw; go_simp⟩) hHeld ?_
            try simp only [Act.put, List.setIfInBounds_toArray, List.set_cons_zero, List.set_cons_succ]
            refine wpAnyH_ready (rs := [5]) (by kernel_rfl) (by simp) ?_
            refine AllReadyH.cons (o := { dst := some 37, op := Op.call { callee := Callee.builtin Builtin.append, args := #[Operand.tmp 34, Operand.tmp 36], argTypes := #[24, 24] }, type := 24, pos := "tree.go:109", after := #[{ on := 2, ground := Ground.data }, { on := 4, ground := Ground.data }], guard := none }) rfl (fun K hK => ?_) AllReadyH.nil
            rw [if_pos (by rfl)]
            refine wp_append_srcL (.tmp 34) (.tmp 36) 24 rfl w.heap.size 26 i0 (.agg #[.int .u8 0, .bool false, .slice none 0 0, .slice none 0 0, .slice none 0 0]) 5 80 Tryd.underlying24 HI.out HZ0.out HZ1.out HZ2.out rfl (by omega) (.slice (some ⟨q1, 0, none⟩) m' cap1) m' (LL.take (m' * 5)) rfl (owns_take HL3.out).drew ak nk ck KL rfl HKLL.out HKX.out.nil HKS.out HK1.out (by unfold maxLen; omega) (by omega) (HB3.out.size) (fun v7 w7 h7o h7g h7q => ?_)
            have hx7 : Has w7 g1 X5 26 := (h7g.block g1 (by have := HX3.out.lt; exact this) (fun e' => by simp only [Value.ownBlock, Option.some.injEq] at e'; omega)).trans HX3.out.drew
            refine hK.out _ _ hx7 (fun hHeld2 => ?_)
            clear hK K hHeld
            try simp only [Act.put, List.setIfInBounds_toArray, List.set_cons_zero, List.set_cons_succ]
            refine wpAnyH_take (i := 6) (oi := { dst := some 5, op := Op.assign (Operand.tmp 37), type := 24, pos := "tree.go:109", after := #[{ on := 5, ground := Ground.data }, { on := 5, ground := Ground.chain }, { on := 0, ground := Ground.phase }, { on := 1, ground := Ground.phase }, { on := 2, ground := Ground.phase }, { on := 3, ground := Ground.phase }, { on := 4, ground := Ground.phase }, { on := 5, ground := Ground.phase }], guard := none }) (v := v7) rfl (by kernel_rfl) (by kernel_rfl) (by kernel_rfl) (fun _ _ _ h => h)
              (Or.inl ⟨by rfl, by intro w hSw; have hSc := Has.cellAt hSw (i := 4) (v := .slice ak nk ck) (by rw [HX5.out]; rfl); clear hSw; go_simp⟩) hHeld2 ?_
            try simp only [Act.put, List.setIfInBounds_toArray, List.set_cons_zero, List.set_cons_succ]
            refine wpAnyH_done (by kernel_rfl) ?_ _
            have HO7 := Lib.hid h7o
            have HY7 : Hid (Has w7 g2 Y5 26) := Lib.hid ((h7g.block g2 (by have := HY3.out.lt; exact this) (fun e' => by simp only [Value.ownBlock, Option.some.injEq] at e'; omega)).trans HY3.out.drew)
            have HR7 := Lib.hid (HR3.out.drew.kept h7g (.inr (HNE.out q1 rfl)))
            have HB7 := Lib.hid ((HB3.out.trans (below_drewT (Below.refl _ _))).grown h7g HB3.out.size (fun q hq => by simp only [Value.ownBlock, Option.some.injEq] at hq; subst hq; exact (HL3.out.lt q1 rfl).1))
            have s7 : w3.heap.size ≤ w7.heap.size := h7g.size
            have HQ7 : Hid (∀ q, v7.ownBlock = some q → (q = q1 ∨ q = w3.heap.size) ∧ q < w7.heap.size) := Lib.hid (fun q hq => ⟨by
              rcases h7q q hq with h | h
              · simp only [Value.ownBlock, Option.some.injEq] at h; exact .inl h.symm
              · exact .inr h, (HO7.out.lt q hq).2⟩)
            clear h7o h7g h7q hx7 hHeld2
            go_upto_region 8 with fail
            obtain ⟨KR, hKR, hKF', hKS', hK1'⟩ := srcK (HKY.out.mono (w' := w7.drew) (HB7.out.trans (below_drewT (Below.refl _ _))) (fun _ _ h => h))
            have HKF' := Lib.hid hKF'
            have HKS' := Lib.hid hKS'
            have HK1' := Lib.hid hK1'
            have HKRL := Lib.hid hKR
            clear hKF' hKS' hK1' hKR
            have hq12 : q1 ≠ q2 := fun e' => HNE.out q1 rfl (by rw [e']; rfl)
            refine wp_region_held_drew (S := fun W => Has W g2 Y5 26) (by kernel_rfl) HY7.out.drew (fun hHeld => ?_)
            refine wpAnyH_take (i := 0) (oi := { dst := some 38, op := Op.move (Operand.tmp 6), type := 24, pos := "tree.go:110", after := #[], guard := none }) (v := .slice (some ⟨q2, 0, none⟩) (m' + 1) cap2) rfl (by kernel_rfl) (by kernel_rfl) (by kernel_rfl) (fun _ _ _ h => h)
              (Or.inl ⟨by rfl, by intro w hSw; have hSc := Has.cellAt hSw (i := 4) (v := .slice ak' nk' ck') (by rw [HY5.out]; rfl); clear hSw; go_simp⟩) hHeld ?_
            try simp only [Act.put, List.setIfInBounds_toArray, List.set_cons_zero, List.set_cons_succ]
            refine wpAnyH_take (i := 1) (oi := { dst := some 39, op := Op.move (Operand.tmp 7), type := 3, pos := "tree.go:110", after := #[], guard := none }) (v := .int .i64 (m' : Int)) rfl (by kernel_rfl) (by kernel_rfl) (by kernel_rfl) (fun _ _ _ h => h)
              (Or.inl ⟨by rfl, by intro w hSw; have hSc := Has.cellAt hSw (i := 4) (v := .slice ak' nk' ck') (by rw [HY5.out]; rfl); clear hSw; go_simp⟩) hHeld ?_
            try simp only [Act.put, List.setIfInBounds_toArray, List.set_cons_zero, List.set_cons_succ]
            refine wpAnyH_take (i := 2) (oi := { dst := some 40, op := Op.slice 24 (Operand.tmp 38) none (some (Operand.tmp 39)) none, type := 24, pos := "tree.go:110", after := #[{ on := 0, ground := Ground.data }, { on := 1, ground := Ground.data }], guard := none }) (v := .slice (some ⟨q2, 0, none⟩) m' cap2) rfl (by kernel_rfl) (by kernel_rfl) (by kernel_rfl) (fun _ _ _ h => h)
              (Or.inl ⟨by rfl, by intro w hSw; have hSc := Has.cellAt hSw (i := 4) (v := .slice ak' nk' ck') (by rw [HY5.out]; rfl); clear hSw; go_simp⟩) hHeld ?_
            try simp only [Act.put, List.setIfInBounds_toArray, List.set_cons_zero, List.set_cons_succ]
            refine wpAnyH_take (i := 3) (oi := { dst := some 41, op := Op.fieldAddr 26 (Operand.tmp 9) 4, type := 0, pos := "tree.go:110", after := #[], guard := none }) (v := .pointer (some ⟨g2, 4, none⟩)) rfl (by kernel_rfl) (by kernel_rfl) (by kernel_rfl) (fun _ _ _ h => h)
              (Or.inl ⟨by rfl, by intro w hSw; have hSc := Has.cellAt hSw (i := 4) (v := .slice ak' nk' ck') (by rw [HY5.out]; rfl); clear hSw; go_simp⟩) hHeld ?_
            try simp only [Act.put, List.setIfInBounds_toArray, List.set_cons_zero, List.set_cons_succ]
            refine wpAnyH_take (i := 4) (oi := { dst := some 42, op := Op.load 24 (Operand.tmp 41), type := 24, pos := "tree.go:110", after := #[{ on := 3, ground := Ground.data }], guard := none }) (v := .slice ak' nk' ck') rfl (by kernel_rfl) (by kernel_rfl) (by kernel_rfl) (fun _ _ _ h => h)
              (Or.inl ⟨by rfl, by intro w hSw; have hSc := Has.cellAt hSw (i := 4) (v := .slice ak' nk' ck') (by rw [HY5.out]; rfl); clear hSw; go_simp⟩) hHeld ?_
            try simp only [Act.put, List.setIfInBounds_toArray, List.set_cons_zero, List.set_cons_succ]
            refine wpAnyH_ready (rs := [5]) (by kernel_rfl) (by simp) ?_
            refine AllReadyH.cons (o := { dst := some 43, op := Op.call { callee := Callee.builtin Builtin.append, args := #[Operand.tmp 40, Operand.tmp 42], argTypes := #[24, 24] }, type := 24, pos := "tree.go:110", after := #[{ on := 2, ground := Ground.data }, { on := 4, ground := Ground.data }], guard := none }) rfl (fun K hK => ?_) AllReadyH.nil
            rw [if_pos (by rfl)]
            refine wp_append_srcL (.tmp 40) (.tmp 42) 24 rfl w.heap.size 26 i0 (.agg #[.int .u8 0, .bool false, .slice none 0 0, .slice none 0 0, .slice none 0 0]) 5 80 Tryd.underlying24 HI.out HZ0.out HZ1.out HZ2.out rfl (by omega) (.slice (some ⟨q2, 0, none⟩) m' cap2) m' (RR.take (m' * 5)) rfl (owns_take HR7.out).drew ak' nk' ck' KR rfl HKRL.out HKY.out.nil HKS'.out HK1'.out (by unfold maxLen; omega) (by omega) (HB7.out.size) (fun v8 w8 h8o h8g h8q => ?_)
            have hy8 : Has w8 g2 Y5 26 := (h8g.block g2 (by have := HY7.out.lt; exact this) (fun e' => by simp only [Value.ownBlock, Option.some.injEq] at e'; omega)).trans HY7.out.drew
            refine hK.out _ _ hy8 (fun hHeld2 => ?_)
            clear hK K hHeld
            try simp only [Act.put, List.setIfInBounds_toArray, List.set_cons_zero, List.set_cons_succ]
            refine wpAnyH_take (i := 6) (oi := { dst := some 6, op := Op.assign (Operand.tmp 43), type := 24, pos := "tree.go:110", after := #[{ on := 5, ground := Ground.data }, { on := 5, ground := Ground.chain }, { on := 0, ground := Ground.phase }, { on := 1, ground := Ground.phase }, { on := 2, ground := Ground.phase }, { on := 3, ground := Ground.phase }, { on := 4, ground := Ground.phase }, { on := 5, ground := Ground.phase }], guard := none }) (v := v8) rfl (by kernel_rfl) (by kernel_rfl) (by kernel_rfl) (fun _ _ _ h => h)
              (Or.inl ⟨by rfl, by intro w hSw; have hSc := Has.cellAt hSw (i := 4) (v := .slice ak' nk' ck') (by rw [HY5.out]; rfl); clear hSw; go_simp⟩) hHeld2 ?_
            try simp only [Act.put, List.setIfInBounds_toArray, List.set_cons_zero, List.set_cons_succ]
            refine wpAnyH_done (by kernel_rfl) ?_ _
            have HO8 := Lib.hid (HO7.out.drew.kept h8g (.inr (fun e' => by
              have h1 := (HQ7.out q2 e').1
              omega)))
            have HP8 := Lib.hid h8o
            have HB8 := Lib.hid ((HB7.out.trans (below_drewT (Below.refl _ _))).grown h8g HB7.out.size (fun q hq => by simp only [Value.ownBlock, Option.some.injEq] at hq; subst hq; exact (HR7.out.lt q2 rfl).1))
            have HN8 : Hid (∀ q, v7.ownBlock = some q → v8.ownBlock ≠ some q) := Lib.hid (fun q hq e' => by
              have h1 := HQ7.out q hq
              rcases h8q q e' with h | h
              · simp only [Value.ownBlock, Option.some.injEq] at h; omega
              · have h2 : (w7.drew).heap.size = w7.heap.size := rfl
                omega)
            clear h8o h8g h8q hy8 hHeld2
            go_wp2_with fail
            go_roundg (muP (P' ++ ks.zip ks'))
            case measure =>
              have h1 := HMU.out
              rw [muP_append] at h1
              have h2 : muP [(T.mk k e d ns ks, T.mk k' e' d' ns' ks')] = 1 + sizeNL ks := by simp [muP, sizeN_mk]
              rw [muP_append, muP_zip ks ks' HE.out.2.2.2.2.symm]
              omega
            case rel =>
              have hzl : (ks.zip ks').length = nk := by
                rw [List.length_zip, HE.out.2.2.2.2, HKX.out.length]; omega
              refine ⟨m' + nk, _, _, P' ++ ks.zip ks', by rw [List.length_append, HPL.out, hzl], HO8.out, by have := HP8.out; rw [hnk] at this; exact this, HN8.out, fun i hi => ?_, ?_, rfl, ?_, HB8.out⟩
              · by_cases him : i < m'
                · obtain ⟨n1, m1, h1, h2⟩ := HF.out i (by omega)
                  have hg : (P' ++ ks.zip ks').getD i default = (P' ++ [(T.mk k e d ns ks, T.mk k' e' d' ns' ks')]).getD i default := by
                    have := HPL.out
                    rw [List.getD_eq_getElem?_getD, List.getD_eq_getElem?_getD, List.getElem?_append_left (by omega), List.getElem?_append_left (by omega)]
                  rw [hg]
                  have hL := (owns_take HL3.out).1
                  have hR := (owns_take HR7.out).1
                  exact ⟨n1, m1, by rw [five_append_left hL him, five_take him]; exact h1, by rw [five_append_left hR him, five_take him]; exact h2⟩
                · have hL := (owns_take HL3.out).1
                  have hR := (owns_take HR7.out).1
                  have hik : i - m' < ks.length := by rw [HKX.out.length]; omega
                  have hik' : i - m' < ks'.length := by rw [HKY.out.length]; omega
                  have hg : (P' ++ ks.zip ks').getD i default = (ks.getD (i - m') default, ks'.getD (i - m') default) := by
                    have := HPL.out
                    have hz : i - m' < (ks.zip ks').length := by rw [hzl]; omega
                    rw [List.getD_eq_getElem?_getD, List.getElem?_append_right (by omega), this, List.getElem?_eq_getElem hz, List.getElem_zip]
                    simp [List.getD, List.getElem?_eq_getElem hik, List.getElem?_eq_getElem hik']
                  rw [hg, five_append_right hL (by omega), five_append_right hR (by omega)]
                  exact ⟨_, _, HKF.out _ hik, HKF'.out _ hik'⟩
              · have h1 := HAB.out
                have h2 := (head_eq HE.out).1
                rw [h1]
                simp only [List.mem_append, List.mem_cons, List.not_mem_nil, or_false]
                constructor
                · intro h p hp
                  rcases hp with hp | hp
                  · exact h p (.inl hp)
                  · exact (h2.1 (h _ (.inr rfl))) p hp
                · intro h p hp
                  rcases hp with hp | hp
                  · exact h p (.inl hp)
                  · subst hp
                    exact h2.2 (fun p hp => h p (.inr hp))
              · have h1 := HMU.out
                rw [muP_append] at h1
                have h2 : muP [(T.mk k e d ns ks, T.mk k' e' d' ns' ks')] = 1 + sizeNL ks := by simp [muP, sizeN_mk]
                rw [muP_append, muP_zip ks ks' HE.out.2.2.2.2.symm]
                omega
end Go.Proofs.YtmgfgldabjgmmaaDoor
