/-
  A list in memory of its own: the program's own, of bytes, of texts, of trees. Conditions: the lists' bounds.
-/
import Derived.Test.YtbempgdndmchlaaDoorTFlat
import Derived.Test.YtbempgdndmchlaaDoorTRSplit
import Derived.Test.YtbempgdndmchlaaDoorTSize
import Derived.Laws.AppendOwnNone
import Derived.OwnWalk
namespace Go.Proofs.YtbempgdndmchlaaDoor
open Go.RowKit
set_option linter.unusedVariables false

/-- 'append' of what came in, nil and empty lists too, onto nil or onto a row of the call's own. -/
theorem wpList_append_src {P : Program} {w : World} {ops : Array Oper} {rest : List Oper} {o : Oper} {a : Act} {Q : Exit → Act → World → Prop} (hgd : o.guard = none) (s x : Operand) (t : TypeId)
    (ho : o.op = .call { callee := .builtin .append, args := #[s, x], argTypes := #[t, t] })
    (base : Nat) (e : TypeId) (i : TypeInfo) (z : Value) (size bytes : Nat) (ht : P.underlying t = some (.slice e)) (hi : P.info? e = some i) (hz : i.zero = some z)
    (hsize : i.size = size) (hby : i.bytes = bytes) (hzs : z.cells.size = size) (hsz : 0 < size)
    (v : Value) (n : Nat) (xs : List Value) (hs : a.eval s = v) (hown : w.ownsRow base e size v n xs)
    (ao : Option Addr) (m c : Nat) (news : List Value) (hx : a.eval x = .slice ao m c) (hl : news.length = m * size) (hnone : ao = none → m = 0 ∧ c = 0)
    (hnews : ∀ ad, ao = some ad → ∀ j u, news[j]? = some u → w.cell? (ad.add j) = some u) (h1 : ∀ u ∈ news, u.oneCell' = true)
    (h63 : n + m ≤ maxLen) (hbytes : (n + m) * bytes ≤ 140737488355328) (hbase : base ≤ w.heap.size)
    (h : ∀ v' w', w'.ownsRow base e size v' (n + m) (xs ++ news) → w.grownBy w' v.ownBlock → wpList P ops Q rest (a.put o.dst v') w') : wpList P ops Q (o :: rest) a w := by
  cases ao with
  | none =>
    obtain ⟨rfl, rfl⟩ := hnone rfl
    obtain rfl : news = [] := List.eq_nil_of_length_eq_zero (by simpa using hl)
    refine wpList_append_own_none hgd s x t ho base e i size ht hi v n xs hs hown hx ?_
    exact h v w (by simpa using hown) (World.grownBy.refl w _)
  | some ad => exact wpList_append_own w hgd s x t ho base e i z size bytes ht hi hz hsize hby hzs hsz v n xs hs hown ad m c news hx hl (hnews ad rfl) h1 h63 hbytes hbase (fun v' w' h2 h3 _ => h v' w' h2 h3)

theorem info_u8 : (Tryd.prog.info? 5).map (fun i => (i.zero, i.size, i.bytes)) = some (some (.int .u8 0), 1, 1) := by kernel_rfl
theorem info_u8_parts : ∃ i, Tryd.prog.info? 5 = some i ∧ i.zero = some (.int .u8 0) ∧ i.size = 1 ∧ i.bytes = 1 := by
  have h := info_u8
  cases hi : Tryd.prog.info? 5 with
  | none => rw [hi] at h; cases h
  | some i =>
    rw [hi] at h
    simp only [Option.map_some, Option.some.injEq, Prod.mk.injEq] at h
    exact ⟨i, rfl, h.1, h.2.1, h.2.2⟩
theorem info_tree : (Tryd.prog.info? 26).map (fun i => (i.zero, i.size, i.bytes)) = some (some (.agg #[.int .u8 0, .bool false, .slice none 0 0, .slice none 0 0, .slice none 0 0]), 5, 80) := by kernel_rfl
theorem info_tree_parts : ∃ i, Tryd.prog.info? 26 = some i ∧ i.zero = some (.agg #[.int .u8 0, .bool false, .slice none 0 0, .slice none 0 0, .slice none 0 0]) ∧ i.size = 5 ∧ i.bytes = 80 := by
  have h := info_tree
  cases hi : Tryd.prog.info? 26 with
  | none => rw [hi] at h; cases h
  | some i =>
    rw [hi] at h
    simp only [Option.map_some, Option.some.injEq, Prod.mk.injEq] at h
    exact ⟨i, rfl, h.1, h.2.1, h.2.2⟩

theorem bv_one (l : List UInt8) : ∀ u ∈ l.map bv, u.oneCell' = true := fun u hu => by
  obtain ⟨_, _, rfl⟩ := List.mem_map.1 hu; rfl
theorem str_one (l : List ByteArray) : ∀ u ∈ l.map Value.string, u.oneCell' = true := fun u hu => by
  obtain ⟨_, _, rfl⟩ := List.mem_map.1 hu; rfl

theorem srcB {w : World} {a : Option Addr} {n c : Nat} {l : List UInt8} (h : IsB w a n c l) : ∀ ad, a = some ad → ∀ j u, (l.map bv)[j]? = some u → w.cell? (ad.add j) = some u := by
  intro ad had j u hj
  rw [List.getElem?_map] at hj
  have hlt : j < l.length := by
    rcases Nat.lt_or_ge j l.length with h' | h'
    · exact h'
    · rw [List.getElem?_eq_none h'] at hj; cases hj
  have hln := h.length
  rcases h.at_ with h0 | ⟨b, off, he, hb, hc⟩
  · omega
  · rw [had] at he; cases he
    rw [Addr.add_mid, hc j (by omega)]
    rw [List.getElem?_eq_getElem hlt] at hj
    simp [bv] at hj
    rw [← hj]
    simp [List.getD, List.getElem?_eq_getElem hlt]

theorem srcS {w : World} {a : Option Addr} {n c : Nat} {l : List ByteArray} (h : IsS w a n c l) : ∀ ad, a = some ad → ∀ j u, (l.map Value.string)[j]? = some u → w.cell? (ad.add j) = some u := by
  intro ad had j u hj
  rw [List.getElem?_map] at hj
  have hlt : j < l.length := by
    rcases Nat.lt_or_ge j l.length with h' | h'
    · exact h'
    · rw [List.getElem?_eq_none h'] at hj; cases hj
  have hln := h.length
  rcases h.at_ with h0 | ⟨b, off, he, hb, hc⟩
  · omega
  · rw [had] at he; cases he
    rw [Addr.add_mid, hc j (by omega)]
    rw [List.getElem?_eq_getElem hlt] at hj
    simp at hj
    rw [← hj]
    simp [List.getD, List.getElem?_eq_getElem hlt]

/-- The cells of a row of trees that came in. -/
theorem srcK {w w0 : World} {m : Nat} {a : Option Addr} {n c : Nat} {ks : List T} (h : IsK (IsT w0 m) w a n c ks) :
    ∃ L : List Value, L.length = n * 5 ∧ (∀ i, i < ks.length → IsT w0 m (five L i) (ks.getD i default)) ∧ (∀ ad, a = some ad → ∀ j u, L[j]? = some u → w.cell? (ad.add j) = some u) ∧ ∀ u ∈ L, u.oneCell' = true := by
  have hln := h.length
  rcases h.at_ with h0 | ⟨b, off, rfl, hb, hc⟩
  · exact ⟨[], by simp [h0], fun i hi => by omega, fun ad _ j u hj => by simp at hj, fun u hu => by simp at hu⟩
  · obtain ⟨L, hL⟩ : ∃ L, L = (List.range (n * 5)).map (fun j => (w.cell? ⟨b, off + j, none⟩).getD undef) := ⟨_, rfl⟩
    have hlen : L.length = n * 5 := by rw [hL]; simp
    have hget : ∀ j, j < n * 5 → L[j]? = some ((w.cell? ⟨b, off + j, none⟩).getD undef) := fun j hj => by rw [hL]; simp [hj]
    have hfive : ∀ i, i < n → ∃ c0 c1 c2 c3 c4, five L i = [c0, c1, c2, c3, c4] ∧ IsT w0 m [c0, c1, c2, c3, c4] (ks.getD i default) ∧ w.cell? ⟨b, off + i * 5, none⟩ = some c0 ∧ w.cell? ⟨b, off + (i * 5 + 1), none⟩ = some c1 ∧ w.cell? ⟨b, off + (i * 5 + 2), none⟩ = some c2 ∧ w.cell? ⟨b, off + (i * 5 + 3), none⟩ = some c3 ∧ w.cell? ⟨b, off + (i * 5 + 4), none⟩ = some c4 := fun i hi => by
      obtain ⟨c0, c1, c2, c3, c4, hT, h0, h1, h2, h3, h4⟩ := hc i hi
      refine ⟨c0, c1, c2, c3, c4, ?_, hT, h0, h1, h2, h3, h4⟩
      apply List.ext_getElem?
      intro q
      by_cases hq : q < 5
      · rw [five_get q hq, hget _ (by omega)]
        match q, hq with
        | 0, _ => rw [Nat.add_zero, h0]; rfl
        | 1, _ => rw [h1]; rfl
        | 2, _ => rw [h2]; rfl
        | 3, _ => rw [h3]; rfl
        | 4, _ => rw [h4]; rfl
      · unfold five
        rw [List.getElem?_eq_none (by rw [List.length_take]; omega), List.getElem?_eq_none (by simp; omega)]
    have hsome : ∀ j, j < n * 5 → ∃ u, w.cell? ⟨b, off + j, none⟩ = some u ∧ u.oneCell' = true := fun j hj => by
      obtain ⟨c0, c1, c2, c3, c4, _, hT, h0, h1, h2, h3, h4⟩ := hfive (j / 5) (by omega)
      have h1c := isT_one hT
      simp only [List.all_toArray, List.all_cons, List.all_nil, Bool.and_true, Bool.and_eq_true] at h1c
      have hm : j % 5 < 5 := Nat.mod_lt _ (by omega)
      have hj' : j = j / 5 * 5 + j % 5 := by omega
      generalize j / 5 = i at hj' h0 h1 h2 h3 h4
      generalize j % 5 = q at hj' hm
      subst hj'
      match q, hm with
      | 0, _ => exact ⟨c0, h0, h1c.1⟩
      | 1, _ => exact ⟨c1, h1, h1c.2.1⟩
      | 2, _ => exact ⟨c2, h2, h1c.2.2.1⟩
      | 3, _ => exact ⟨c3, h3, h1c.2.2.2.1⟩
      | 4, _ => exact ⟨c4, h4, h1c.2.2.2.2⟩
    refine ⟨L, hlen, fun i hi => ?_, fun ad had j u hj => ?_, fun u hu => ?_⟩
    · obtain ⟨c0, c1, c2, c3, c4, he, hT, _⟩ := hfive i (by omega)
      rw [he]; exact hT
    · cases had
      have hlt : j < n * 5 := by
        have := (List.getElem?_eq_some_iff.1 hj).1
        omega
      obtain ⟨u', hu', _⟩ := hsome j hlt
      rw [hget j hlt, hu'] at hj
      rw [Addr.add_mid, hu']
      simpa using hj
    · obtain ⟨j, hj⟩ := List.getElem?_of_mem hu
      have hlt : j < n * 5 := by
        have := (List.getElem?_eq_some_iff.1 hj).1
        omega
      obtain ⟨u', hu', h1⟩ := hsome j hlt
      rw [hget j hlt, hu'] at hj
      simp at hj
      rw [← hj]; exact h1

def OwnPost (e : TypeId) (size : Nat) (n : Nat) (xs : List Value) (w : World) (en : Ending) (w' : World) : Prop := ∃ v, en = .returned v ∧ w'.ownsRow w.heap.size e size v n xs ∧ Below w.heap.size w w'

set_option maxRecDepth 100000 in
set_option maxHeartbeats 2000000 in
theorem ownB_any (a : Option Addr) (n cap : Nat) (l : List UInt8) (w : World) (hl : IsB w a n cap l) :
    Calls Tryd.prog 37 #[.slice a n cap] w (OwnPost 5 1 n (l.map bv) w) := by
  obtain ⟨i0, hi, hz0, hz1, hz2⟩ := info_u8_parts
  have hr := hl.room
  have hm := hl.most
  have HL := Lib.hid hl
  have HI := Lib.hid hi
  have HZ0 := Lib.hid hz0
  have HZ1 := Lib.hid hz1
  have HZ2 := Lib.hid hz2
  clear hl hi hz0 hz1 hz2
  go_enter Tryd.func37, Tryd.ntmps37
  go_wp2_with (at_builtin; refine wpList_append_src rfl _ _ 22 rfl w.heap.size 5 i0 (.int .u8 0) 1 1 Tryd.underlying22 HI.out HZ0.out HZ1.out HZ2.out rfl (by omega) (.slice none 0 0) 0 [] rfl (World.ownsRow_nil _ _ _ _) a n cap (l.map bv) rfl (by simp [HL.out.length]) HL.out.nil (srcB HL.out) (bv_one l) (by omega) (by omega) (Nat.le_refl _) ?_)
  intro v' w1 hown hgr
  have HO := Lib.hid hown
  have HG := Lib.hid hgr
  clear hown hgr
  go_wp2_with fail
  go_ret
  exact ⟨v', rfl, by have := HO.out; simpa using this, (Below.refl _ _).grown HG.out (Nat.le_refl _) (fun q hq => by cases hq)⟩

set_option maxRecDepth 100000 in
set_option maxHeartbeats 2000000 in
theorem ownS_any (a : Option Addr) (n cap : Nat) (l : List ByteArray) (w : World) (hl : IsS w a n cap l) (hm : n * 16 ≤ 140737488355328) :
    Calls Tryd.prog 38 #[.slice a n cap] w (OwnPost 9 1 n (l.map Value.string) w) := by
  obtain ⟨i0, hi, hz0, hz1, hz2⟩ := info_str_parts
  have hr := hl.room
  have HL := Lib.hid hl
  have HI := Lib.hid hi
  have HZ0 := Lib.hid hz0
  have HZ1 := Lib.hid hz1
  have HZ2 := Lib.hid hz2
  clear hl hi hz0 hz1 hz2
  go_enter Tryd.func38, Tryd.ntmps38
  go_wp2_with (at_builtin; refine wpList_append_src rfl _ _ 23 rfl w.heap.size 9 i0 (.string ByteArray.empty) 1 16 Tryd.underlying23 HI.out HZ0.out HZ1.out HZ2.out rfl (by omega) (.slice none 0 0) 0 [] rfl (World.ownsRow_nil _ _ _ _) a n cap (l.map Value.string) rfl (by simp [HL.out.length]) HL.out.nil (srcS HL.out) (str_one l) (by omega) (by omega) (Nat.le_refl _) ?_)
  intro v' w1 hown hgr
  have HO := Lib.hid hown
  have HG := Lib.hid hgr
  clear hown hgr
  go_wp2_with fail
  go_ret
  exact ⟨v', rfl, by have := HO.out; simpa using this, (Below.refl _ _).grown HG.out (Nat.le_refl _) (fun q hq => by cases hq)⟩

def OwnKPost (w0 : World) (m : Nat) (ks : List T) (w : World) (en : Ending) (w' : World) : Prop := ∃ v L, en = .returned v ∧ w'.ownsRow w.heap.size 26 5 v ks.length L ∧ (∀ i, i < ks.length → IsT w0 m (five L i) (ks.getD i default)) ∧ Below w.heap.size w w'

set_option maxRecDepth 100000 in
set_option maxHeartbeats 2000000 in
theorem ownK_any (w0 : World) (m : Nat) (a : Option Addr) (n cap : Nat) (ks : List T) (w : World) (hl : IsK (IsT w0 m) w a n cap ks) (hm : n * 80 ≤ 140737488355328) :
    Calls Tryd.prog 39 #[.slice a n cap] w (OwnKPost w0 m ks w) := by
  obtain ⟨i0, hi, hz0, hz1, hz2⟩ := info_tree_parts
  have hr := hl.room
  have hn := hl.length
  obtain ⟨L, hL, hF, hS, hO⟩ := srcK hl
  have HL := Lib.hid hl.nil
  have HN := Lib.hid hn
  have HI := Lib.hid hi
  have HZ0 := Lib.hid hz0
  have HZ1 := Lib.hid hz1
  have HZ2 := Lib.hid hz2
  have HLL := Lib.hid hL
  have HF := Lib.hid hF
  have HS := Lib.hid hS
  have HO := Lib.hid hO
  clear hl hi hz0 hz1 hz2 hL hF hS hO hn
  go_enter Tryd.func39, Tryd.ntmps39
  go_wp2_with (at_builtin; refine wpList_append_src rfl _ _ 24 rfl w.heap.size 26 i0 (.agg #[.int .u8 0, .bool false, .slice none 0 0, .slice none 0 0, .slice none 0 0]) 5 80 Tryd.underlying24 HI.out HZ0.out HZ1.out HZ2.out rfl (by omega) (.slice none 0 0) 0 [] rfl (World.ownsRow_nil _ _ _ _) a n cap L rfl HLL.out HL.out HS.out HO.out (by omega) (by omega) (Nat.le_refl _) ?_)
  intro v' w1 hown hgr
  have HO' := Lib.hid hown
  have HG := Lib.hid hgr
  clear hown hgr
  go_wp2_with fail
  go_ret
  exact ⟨v', L, rfl, by have := HO'.out; rw [HN.out]; simpa using this, HF.out, (Below.refl _ _).grown HG.out (Nat.le_refl _) (fun q hq => by cases hq)⟩

end Go.Proofs.YtbempgdndmchlaaDoor
