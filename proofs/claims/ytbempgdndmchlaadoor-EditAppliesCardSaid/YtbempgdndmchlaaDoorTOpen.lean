/-
  A tree that came in, opened to the tree that it reads as.
-/
import Derived.Test.YtbempgdndmchlaaDoorTree
import Derived.Deep.Slices
import Derived.Deep.MidRow
import Derived.ProofKit
import Derived.OpenShut
import Derived.SizedLaws
namespace Go.Proofs.YtbempgdndmchlaaDoor
open Go.RowKit Go.ChangeShapes Go.WideShapes
set_option linter.unusedVariables false

theorem isT_up {w : World} : ∀ (n : Nat) (cs : List Value) (t : T), IsT w n cs t → IsT w (n + 1) cs t
  | 0, _, _, h => False.elim h
  | n + 1, cs, .mk k x d ns ks, h => by
    obtain ⟨ad, nd, cd, an, nn, cn, ak, nk, ck, hcs, hB, hS, hK⟩ := h
    exact ⟨ad, nd, cd, an, nn, cn, ak, nk, ck, hcs, hB, hS, hK.mono (Below.refl _ _) (fun cs t => isT_up n cs t)⟩

theorem weights_all {H : Type} {P : Program} {e : TypeId} : ∀ (l : List (DataW H)) (i : Nat) (d : DataW H), l[i]? = some d → ∀ n ∈ d.weights P e, n ∈ DataW.weightsAll P e l
  | [], i, d, h, n, hn => by simp at h
  | d0 :: l, 0, d, h, n, hn => by
    simp only [List.getElem?_cons_zero, Option.some.injEq] at h
    subst h
    rw [DataW.weightsAll]
    exact List.mem_append_left _ hn
  | d0 :: l, i + 1, d, h, n, hn => by
    rw [DataW.weightsAll]
    exact List.mem_append_right _ (weights_all l i d (by simpa using h) n hn)

theorem byte_range {z : Int} (h : (Lit.int .u8 z).wf = true) : 0 ≤ z ∧ z ≤ 255 := by
  simp only [Lit.wf, Bool.and_eq_true, decide_eq_true_eq] at h
  have hmin : IntKind.u8.min = 0 := rfl
  have hmax : IntKind.u8.max = 255 := rfl
  omega

theorem byte_back {z : Int} (h : (Lit.int .u8 z).wf = true) : (((UInt8.ofNat z.toNat).toNat : Nat) : Int) = z := by
  have := byte_range h
  rw [UInt8.toNat_ofNat']
  omega

theorem five_list {α : Type} {l : List α} (h : l.length = 5) : ∃ a b c d e, l = [a, b, c, d, e] := by
  match l, h with
  | [a, b, c, d, e], _ => exact ⟨a, b, c, d, e, rfl⟩

/-- The names of a tree, its lists, and those of all in it, are no longer than memory. -/
inductive Small : T → Prop where
  | mk {k : UInt8} {x : Bool} {d : List UInt8} {ns : List ByteArray} {ks : List T} : (∀ i, i < ns.length → (ns.getD i ⟨#[]⟩).size ≤ 140737488355328) → (∀ i, i < ks.length → Small (ks.getD i default)) →
    d.length ≤ 140737488355328 ∧ ns.length * 16 ≤ 140737488355328 ∧ ks.length * 80 ≤ 140737488355328 → Small (.mk k x d ns ks)

section
variable {H : Type} {enc : TypeId × Value → H} {w : World} {base : Nat} {held : Bool}

theorem isB_of {fuel : Nat} {c : Value} {x : DataW H × List MemPlace} (h : DataW.trod enc Tryd.prog w base (fun _ => true) held fuel 22 [c] = some x)
    (hw : ∀ m ∈ x.1.weights Tryd.prog 22, m ≤ reachBytes) : ∃ a len cap l, c = .slice a len cap ∧ IsB w a len cap l := by
  rcases open_ints Tryd.underlying22 Tryd.underlying5 (by kernel_rfl) h with ⟨hc, _⟩ | ⟨y, len, cap, zs, hc, _, hl, hm, hz, hx, hcell, hwz⟩
  · simp at hc
    exact ⟨none, 0, 0, [], hc, rfl, .inl rfl, fun _ => ⟨rfl, rfl⟩, ⟨Nat.le_refl _, Nat.zero_le _⟩, Nat.zero_le _⟩
  · simp at hc
    have hz' : zs.length = cap := by simpa using hz
    have hb1 : Tryd.prog.bytesOf 5 = 1 := by kernel_rfl
    have hcap : cap ≤ reachBytes := by
      have := hw (((lits .u8 (zs.take len) : List (DataW H)).length + (lits .u8 (zs.drop len) : List (DataW H)).length) * Tryd.prog.bytesOf 5) (by rw [hx]; simp [DataW.weights, Tryd.underlying22])
      rw [hb1] at this
      simp [lits] at this
      omega
    refine ⟨some y, len, cap, (zs.take len).map (fun z => UInt8.ofNat z.toNat), hc, by simp; omega, ?_, (fun h => by cases h), ⟨hl, hm⟩, by unfold reachBytes at hcap; omega⟩
    rcases Nat.eq_zero_or_pos len with h0 | h0
    · exact .inl h0
    · right
      obtain ⟨b, off, spot⟩ := y
      have hc0 := hcell 0 (by omega)
      have hspot : spot = none := by simpa [Addr.add] using World.cell?_spot hc0
      subst hspot
      have hb := World.block_lt_of_cell? w _ hc0
      refine ⟨b, off, rfl, by simpa [Addr.add] using hb, fun i hi => ?_⟩
      have hci := hcell i (by omega)
      rw [Addr.add_mid] at hci
      have hz2 : zs.getD i 0 = zs[i]'(by omega) := by simp [List.getD, List.getElem?_eq_getElem (show i < zs.length by omega)]
      have hr := byte_back (hwz (zs[i]'(by omega)) (List.getElem_mem _))
      rw [hci, hz2]
      have e1 : ((zs.take len).map (fun z => UInt8.ofNat z.toNat)).getD i 0 = UInt8.ofNat (zs[i]'(by omega)).toNat := by
        simp [List.getD, hi, List.getElem?_eq_getElem (show i < zs.length by omega)]
      rw [e1, hr]

theorem isS_of {fuel : Nat} {c : Value} {x : DataW H × List MemPlace} (h : DataW.trod enc Tryd.prog w base (fun _ => true) held fuel 23 [c] = some x)
    (hw : ∀ m ∈ x.1.weights Tryd.prog 23, m ≤ reachBytes) : ∃ a len cap l, c = .slice a len cap ∧ IsS w a len cap l ∧ (∀ i, i < l.length → (l.getD i ⟨#[]⟩).size ≤ 140737488355328) ∧ l.length * 16 ≤ 140737488355328 := by
  rcases Deep.open_slice1 Tryd.underlying23 (by kernel_rfl) h with ⟨hc, _⟩ | ⟨y, len, cap, m, n, V, D, Pl, hc, _, hl, hm, hmm, hxx, hx⟩
  · simp at hc
    exact ⟨none, 0, 0, [], hc, ⟨rfl, .inl rfl, fun _ => ⟨rfl, rfl⟩, ⟨Nat.le_refl _, Nat.zero_le _⟩⟩, fun i hi => by simp at hi, by simp⟩
  · simp at hc
    have hb16 : Tryd.prog.bytesOf 9 = 16 := by kernel_rfl
    have h16 : len * 16 ≤ 140737488355328 := by
      have := hw ((len + (m - len)) * Tryd.prog.bytesOf 9) (by rw [hxx]; simp [DataW.weights, Tryd.underlying23])
      rw [hb16] at this
      unfold reachBytes at this
      omega
    have hle : len ≤ m := by rw [hmm]; split <;> omega
    have hall : ∀ i, i < len → ∃ s : ByteArray, V i = .string s ∧ s.size ≤ 140737488355328 := fun i hi => by
      obtain ⟨s, hs, hd, _⟩ := DataW.trod_string Tryd.underlying9 (hx i (by omega)).2
      have hD : D i = .lit (.string s.data.toList) := congrArg (·.1) hd
      have := hw s.data.toList.length (by
        rw [hxx]
        simp only [DataW.weights, Tryd.underlying23, List.mem_cons, List.mem_append]
        refine .inr (.inl (weights_all _ i (D i) (by rw [List.getElem?_map, List.getElem?_range hi]; rfl) _ ?_))
        rw [hD]; simp [DataW.weights])
      unfold reachBytes at this
      refine ⟨s, by simpa using hs, ?_⟩
      have e : s.data.toList.length = s.size := by rw [Array.length_toList]; rfl
      omega
    obtain ⟨f, hf⟩ := Deep.choose_lt hall
    refine ⟨some y, len, cap, (List.range len).map f, hc, ⟨by simp, ?_, (fun h => by cases h), ⟨hl, hm⟩⟩, fun i hi => by
      have hi' : i < len := by simpa using hi
      have e1 : ((List.range len).map f).getD i ⟨#[]⟩ = f i := by simp [List.getD, hi']
      rw [e1]; exact (hf i hi').2, by simpa using h16⟩
    rcases Nat.eq_zero_or_pos len with h0 | h0
    · exact .inl h0
    · right
      obtain ⟨b, off, spot⟩ := y
      have hc0 := (hx 0 (by omega)).1
      have hspot : spot = none := by simpa [Addr.add] using World.cell?_spot hc0
      subst hspot
      have hb := World.block_lt_of_cell? w _ hc0
      refine ⟨b, off, rfl, by simpa [Addr.add] using hb, fun i hi => ?_⟩
      have hci := (hx i (by omega)).1
      rw [Addr.add_mid, (hf i hi).1] at hci
      rw [hci]
      have e1 : ((List.range len).map f).getD i ⟨#[]⟩ = f i := by simp [List.getD, hi]
      rw [e1]

theorem isT_of : ∀ (fuel : Nat) (cs : List Value) (x : DataW H × List MemPlace), DataW.trod enc Tryd.prog w base (fun _ => true) held fuel 26 cs = some x →
    (∀ m ∈ x.1.weights Tryd.prog 26, m ≤ reachBytes) → ∃ t, IsT w fuel cs t ∧ Small t := by
  intro fuel
  induction fuel using Nat.strongRecOn with
  | _ fuel ih =>
  intro cs x h hw
  obtain ⟨xs, n, rfl, hx, hlen, hxl, hg⟩ := DataW.trod_struct Tryd.underlying26 h
  have hC : Tryd.prog.cellsOf 26 = 5 := by kernel_rfl
  have k0 : Tryd.prog.cellsOf 5 = 1 := by kernel_rfl
  have k1 : Tryd.prog.cellsOf 4 = 1 := by kernel_rfl
  have k2 : Tryd.prog.cellsOf 22 = 1 := by kernel_rfl
  have k3 : Tryd.prog.cellsOf 23 = 1 := by kernel_rfl
  have k4 : Tryd.prog.cellsOf 24 = 1 := by kernel_rfl
  rw [hC] at hlen
  have hW : ∀ m ∈ DataW.weightsEach Tryd.prog [5, 4, 22, 23, 24] (xs.map (·.1)), m ≤ reachBytes := by
    rw [hx] at hw
    simpa [DataW.weights, Tryd.underlying26] using hw
  obtain ⟨c0, c1, c2, c3, c4, rfl⟩ := five_list hlen
  obtain ⟨y0, y1, y2, y3, y4, rfl⟩ := five_list (show xs.length = 5 from hxl)
  have g0 : DataW.trod enc Tryd.prog w base (fun _ => true) held n 5 [c0] = some y0 := by simpa [k0] using hg 0 _ rfl
  have g1 : DataW.trod enc Tryd.prog w base (fun _ => true) held n 4 [c1] = some y1 := by simpa [k1] using hg 1 _ rfl
  have g2 : DataW.trod enc Tryd.prog w base (fun _ => true) held n 22 [c2] = some y2 := by simpa [k2] using hg 2 _ rfl
  have g3 : DataW.trod enc Tryd.prog w base (fun _ => true) held n 23 [c3] = some y3 := by simpa [k3] using hg 3 _ rfl
  have g4 : DataW.trod enc Tryd.prog w base (fun _ => true) held n 24 [c4] = some y4 := by simpa [k4] using hg 4 _ rfl
  obtain ⟨z, hz, _, hzw⟩ := DataW.trod_int Tryd.underlying5 g0
  obtain ⟨b, hb, _⟩ := DataW.trod_bool Tryd.underlying4 g1
  obtain ⟨ad, nd, cd, d, rfl, hB⟩ := isB_of g2 (fun m hm => hW m (DataW.weights_mem_each (j := 2) rfl rfl m hm))
  obtain ⟨an, nn, cn, ns, rfl, hS, hsm, h16⟩ := isS_of g3 (fun m hm => hW m (DataW.weights_mem_each (j := 3) rfl rfl m hm))
  have hW4 : ∀ m ∈ y4.1.weights Tryd.prog 24, m ≤ reachBytes := fun m hm => hW m (DataW.weights_mem_each (j := 4) rfl rfl m hm)
  have hk : ∃ ak nk ck ks, c4 = .slice ak nk ck ∧ IsK (IsT w n) w ak nk ck ks ∧ (∀ i, i < ks.length → Small (ks.getD i default)) ∧ ks.length * 80 ≤ 140737488355328 := by
    rcases DataW.trod_slice Tryd.underlying24 g4 with ⟨hc, _⟩ | ⟨y, len, cap, elems, rest, n', rfl, hc, hy, _, hl, hm, hel, hget, _, _⟩
    · simp at hc
      exact ⟨none, 0, 0, [], hc, ⟨rfl, .inl rfl, fun _ => ⟨rfl, rfl⟩, ⟨Nat.le_refl _, Nat.zero_le _⟩⟩, fun i hi => by simp at hi, by simp⟩
    · simp at hc
      have hb80 : Tryd.prog.bytesOf 26 = 80 := by kernel_rfl
      have h80 : len * 80 ≤ 140737488355328 := by
        have := hW4 (((elems.map (·.1)).length + (rest.map (·.1)).length) * Tryd.prog.bytesOf 26) (by rw [hy]; simp [DataW.weights, Tryd.underlying24])
        rw [hb80, List.length_map, hel] at this
        unfold reachBytes at this
        omega
      have hall : ∀ i, i < len → ∃ t : T, Small t ∧ ∃ c0 c1 c2 c3 c4, IsT w (n' + 1) [c0, c1, c2, c3, c4] t ∧ w.cell? (y.add (i * 5)) = some c0 ∧ w.cell? (y.add (i * 5 + 1)) = some c1 ∧ w.cell? (y.add (i * 5 + 2)) = some c2 ∧ w.cell? (y.add (i * 5 + 3)) = some c3 ∧ w.cell? (y.add (i * 5 + 4)) = some c4 := by
        intro i hi
        have he : elems[i]? = some (elems[i]'(by omega)) := List.getElem?_eq_getElem (by omega)
        have h1 := hget i hi
        rw [he, hC] at h1
        obtain ⟨cs', hcs', ht⟩ := Option.bind_eq_some_iff.1 h1
        obtain ⟨_, hl5, hat⟩ := World.cells?_some hcs'
        obtain ⟨t, hT, hsm'⟩ := ih n' (by omega) cs' _ ht (fun m hm => hW4 m (by
          rw [hy]
          simp only [DataW.weights, Tryd.underlying24, List.mem_cons, List.mem_append]
          refine .inr (.inl (weights_all _ i (elems[i]'(by omega)).1 ?_ m hm))
          rw [List.getElem?_map, he]; rfl))
        obtain ⟨d0, d1, d2, d3, d4, rfl⟩ := five_list hl5
        refine ⟨t, hsm', d0, d1, d2, d3, d4, isT_up _ _ _ hT, ?_, ?_, ?_, ?_, ?_⟩
        · simpa [Deep.add_add] using hat 0 (by omega)
        · simpa [Deep.add_add] using hat 1 (by omega)
        · simpa [Deep.add_add] using hat 2 (by omega)
        · simpa [Deep.add_add] using hat 3 (by omega)
        · simpa [Deep.add_add] using hat 4 (by omega)
      obtain ⟨f, hf⟩ := Deep.choose_lt hall
      refine ⟨some y, len, cap, (List.range len).map f, hc, ⟨by simp, ?_, (fun h => by cases h), ⟨hl, hm⟩⟩, fun i hi => by
        have hi' : i < len := by simpa using hi
        have e1 : ((List.range len).map f).getD i default = f i := by simp [List.getD, hi']
        rw [e1]; exact (hf i hi').1, by simpa using h80⟩
      rcases Nat.eq_zero_or_pos len with h0 | h0
      · exact .inl h0
      · right
        obtain ⟨b, off, spot⟩ := y
        obtain ⟨_, _, _, _, _, _, _, hc0, _⟩ := hf 0 (by omega)
        have hspot : spot = none := by simpa [Addr.add] using World.cell?_spot hc0
        subst hspot
        have hb := World.block_lt_of_cell? w _ hc0
        refine ⟨b, off, rfl, by simpa [Addr.add] using hb, fun i hi => ?_⟩
        obtain ⟨_, d0, d1, d2, d3, d4, hT, h0, h1, h2, h3, h4⟩ := hf i hi
        have e1 : ((List.range len).map f).getD i default = f i := by simp [List.getD, hi]
        rw [Addr.add_mid] at h0 h1 h2 h3 h4
        exact ⟨d0, d1, d2, d3, d4, by rw [e1]; exact hT, h0, h1, h2, h3, h4⟩
  obtain ⟨ak, nk, ck, ks, rfl, hK, hks, h80⟩ := hk
  simp only [List.cons.injEq, and_true] at hz hb
  subst hz hb
  exact ⟨.mk (UInt8.ofNat z.toNat) b d ns ks, ⟨ad, nd, cd, an, nn, cn, ak, nk, ck, by rw [byte_back hzw], hB, hS, hK⟩, .mk hsm hks ⟨by rw [hB.length]; exact hB.most, h16, h80⟩⟩

set_option maxRecDepth 100000 in
/-- A tree that came in. -/
theorem open_tree {r : Reach} {b0 : Nat} {v : Value} {d : DataW H} {p : List MemPlace} (hv : Value.okWide Tryd.prog w r b0 26 v) (h : DataW.Trod enc Tryd.prog w base (fun _ => true) held 26 v d p)
    (hw : ∀ m ∈ d.weights Tryd.prog 26, m ≤ reachBytes) : ∃ n cs t, v = .agg cs.toArray ∧ IsT w n cs t ∧ Small t := by
  obtain ⟨cs, rfl, hsz⟩ := okWide_struct Tryd.underlying26 hv
  obtain ⟨fuel, hf⟩ := h
  obtain ⟨t, ht, hs⟩ := isT_of fuel _ _ hf hw
  exact ⟨fuel, cs.toList, t, by simp, by simpa [Value.cells] using ht, hs⟩
end
end Go.Proofs.YtbempgdndmchlaaDoor
