/-
  What stands at a path of a tree, as functions; a struct's slot and a number as results. No program text.
-/
import Derived.Test.YtbempgdndmchlaaDoorTSplit
import Derived.Test.YtbempgdndmchlaaDoorTGood
import Derived.Test.YtbempgdndmchlaaDoorTOpen
import Derived.Test.YtbempgdndmchlaaDoorTCount
import Derived.Test.YtbempgdndmchlaaDoorECopy
import Derived.Laws.ResultCell
import Derived.Laws.Rows
import Derived.Test.YtbempgdndmchlaaDoorTRSame
import Derived.Deep.RegionHeld3
namespace Go.Proofs.YtbempgdndmchlaaDoor
open Go.RowKit
set_option linter.unusedVariables false

/-- What stands behind some names, or the error's number. -/
def findT : List ByteArray → T → Int ⊕ T
  | [], t => .inr t
  | nm :: r, .mk k x d ns ks => if k ≠ 3 then .inl 8 else if Lib.idxOfS ns nm < 0 ∨ (ks.length : Int) ≤ Lib.idxOfS ns nm then .inl 6 else findT r (ks.getD (Lib.idxOfS ns nm).toNat default)

theorem at_ret {fn : Func} {P : Program} {p u : Tmp} {ty : TypeId} (h : fn.results = #[.cell p ty, .tmp u]) (tmps : Array Value) (w : World) (g : Nat) (t : TypeId) (cs : Array Value) (fr : Nat × Nat) (d : TypeDesc)
    (hp : tmps.getD p undef = .pointer (some ⟨g, 0, none⟩)) (hg : w.heap[g]? = some (.cells cs t fr))
    (hu : P.underlying ty = some d) (hd : (match d with | .struct _ | .array _ _ => true | _ => false) = true) (hi : (P.info? ty).map (·.size) = some cs.size) :
    (results fn tmps).run P w = .ok (.tuple #[.agg cs, tmps.getD u undef]) w := by
  have hp' : tmps[p]?.getD undef = .pointer (some ⟨g, 0, none⟩) := by simpa using hp
  simp [results, h, hp', asAddr, run_loadVar_row w g t ty cs fr d hg hu hd hi]

def mkB (l : List UInt8) : ByteArray := ⟨l.toArray⟩

theorem mkB_of {l : List ByteArray} {p : List (List UInt8)} (h : l.map (·.data.toList) = p) : l = p.map mkB := by
  subst h
  rw [List.map_map]
  have : (mkB ∘ fun x : ByteArray => x.data.toList) = id := by funext x; simp [mkB]
  rw [this]; simp

def atT (s : List UInt8) (t : T) : Int ⊕ T := if (splitT s).2 = 0 then findT ((splitT s).1.map mkB) t else .inl (splitT s).2

theorem findT_small : ∀ (l : List ByteArray) (t x : T), findT l t = .inr x → Small t → Small x ∧ sizeN x ≤ sizeN t
  | [], t, x, h, hs => by rw [findT] at h; cases h; exact ⟨hs, Nat.le_refl _⟩
  | nm :: r, .mk k e d ns ks, x, h, hs => by
    rw [findT] at h
    split at h
    · cases h
    · split at h
      · cases h
      · rename_i h1 h2
        have hj : (Lib.idxOfS ns nm).toNat < ks.length := by omega
        have := findT_small r _ x h (hs.kid _ hj)
        have h3 := sizeNL_get hj
        rw [sizeN_mk]
        exact ⟨this.1, by omega⟩

theorem atT_small {s : List UInt8} {t x : T} (h : atT s t = .inr x) (hs : Small t) : Small x ∧ sizeN x ≤ sizeN t := by
  unfold atT at h
  split at h
  · exact findT_small _ _ _ h hs
  · cases h

theorem findT_code : ∀ (l : List ByteArray) (t : T) (c : Int), findT l t = .inl c → c = 8 ∨ c = 6
  | [], t, c, h => by rw [findT] at h; cases h
  | nm :: r, .mk k e d ns ks, c, h => by
    rw [findT] at h
    split at h
    · cases h; exact .inl rfl
    · split at h
      · cases h; exact .inr rfl
      · exact findT_code r _ c h

theorem splitT_code (s : List UInt8) : (splitT s).2 = 0 ∨ (splitT s).2 = 2 ∨ (splitT s).2 = 4 := by
  unfold splitT
  split
  · simp
  · split
    · simp
    · split <;> simp

theorem atT_code {s : List UInt8} {t : T} {c : Int} (h : atT s t = .inl c) : c = 2 ∨ c = 4 ∨ c = 6 ∨ c = 8 := by
  unfold atT at h
  split at h
  · have := findT_code _ _ _ h; omega
  · cases h
    have := splitT_code s; omega

theorem findT_append : ∀ (p q : List ByteArray) (t : T), findT (p ++ q) t = match findT p t with | .inl c => .inl c | .inr y => findT q y
  | [], q, t => by simp [findT]
  | nm :: p, q, .mk k x d ns ks => by
    rw [List.cons_append, findT, findT]
    by_cases h1 : k ≠ 3
    · rw [if_pos h1, if_pos h1]
    · rw [if_neg h1, if_neg h1]
      by_cases h2 : Lib.idxOfS ns nm < 0 ∨ (ks.length : Int) ≤ Lib.idxOfS ns nm
      · rw [if_pos h2, if_pos h2]
      · rw [if_neg h2, if_neg h2]
        exact findT_append p q _

/-- No tree. -/
def zeroT : T := .mk 0 false [] [] []

def codeR : Int ⊕ T → Int
  | .inl c => c
  | .inr _ => 0

def resT : Int ⊕ T → T
  | .inl _ => zeroT
  | .inr x => x

theorem isB_none (w : World) : IsB w none 0 0 [] := ⟨rfl, .inl rfl, fun _ => ⟨rfl, rfl⟩, ⟨Nat.le_refl _, Nat.zero_le _⟩, Nat.zero_le _⟩
theorem isS_none (w : World) : IsS w none 0 0 [] := ⟨rfl, .inl rfl, fun _ => ⟨rfl, rfl⟩, ⟨Nat.le_refl _, Nat.zero_le _⟩⟩
theorem isK_none (R : List Value → T → Prop) (w : World) : IsK R w none 0 0 [] := ⟨rfl, .inl rfl, fun _ => ⟨rfl, rfl⟩, ⟨Nat.le_refl _, Nat.zero_le _⟩⟩
theorem isT_zero (w : World) : IsT w 1 zT zeroT := ⟨none, 0, 0, none, 0, 0, none, 0, 0, rfl, isB_none w, isS_none w, isK_none _ w⟩
theorem small_zero : Small zeroT := .mk (fun i hi => by simp at hi) (fun i hi => by simp at hi) (by simp)

end Go.Proofs.YtbempgdndmchlaaDoor

namespace Go.Proofs.YtbempgdndmchlaaDoor
open Go.RowKit
set_option linter.unusedVariables false

theorem idxFromS_lt (x : ByteArray) : ∀ (zs : List ByteArray) (i : Nat), Lib.idxFromS zs x i < ((i + zs.length : Nat) : Int) ∨ Lib.idxFromS zs x i = -1
  | [], i => .inr rfl
  | z :: zs, i => by
    rw [Lib.idxFromS]
    split
    · left; simp; omega
    · have := idxFromS_lt x zs (i + 1)
      rw [List.length_cons]
      omega
theorem idxOfS_lt (zs : List ByteArray) (x : ByteArray) : Lib.idxOfS zs x < (zs.length : Int) := by
  have h := idxFromS_lt x zs 0
  rw [Nat.zero_add] at h
  have h2 : (0 : Int) ≤ (zs.length : Int) := by omega
  show Lib.idxFromS zs x 0 < (zs.length : Int)
  rcases h with h | h
  · exact h
  · omega
theorem idxOfS_ge (zs : List ByteArray) (x : ByteArray) : -1 ≤ Lib.idxOfS zs x := by
  have gen : ∀ (zs : List ByteArray) (i : Nat), -1 ≤ Lib.idxFromS zs x i := by
    intro zs
    induction zs with
    | nil => intro i; simp [Lib.idxFromS]
    | cons z zs ih =>
      intro i
      rw [Lib.idxFromS]
      split
      · omega
      · exact ih (i + 1)
  exact gen zs 0

theorem empty_eq : (ByteArray.empty : ByteArray) = ⟨#[]⟩ := rfl

set_option maxRecDepth 100000 in
set_option maxHeartbeats 8000000 in
theorem find_any (n : Nat) (cs : List Value) (k : UInt8) (x : Bool) (d : List UInt8) (ns : List ByteArray) (ks : List T) (nm : ByteArray) (w : World) (ht : IsT w n cs (.mk k x d ns ks)) :
    Calls Tryd.prog 23 #[.agg cs.toArray, .string nm] w fun e w' => e = .returned (.int .i64 (Lib.idxOfS ns nm)) ∧ Below w.heap.size w w' := by
  cases n with
  | zero => exact absurd ht (by simp [IsT])
  | succ n =>
  obtain ⟨ad, nd, cd, an, nn, cn, ak, nk, ck, rfl, hB, hS, hK⟩ := ht
  have HS := Lib.hid hS
  clear hB hS hK
  go_enter Tryd.func23, Tryd.ntmps23
  go_upto_region 1 with fail
  obtain ⟨w1, hw1⟩ : ∃ w1, w1 = w.alloc (.cells #[.int .u8 (k.toNat : Int), .bool x, .slice ad nd cd, .slice an nn cn, .slice ak nk ck] 26) := ⟨_, rfl⟩
  have g1 : Has w1 w.heap.size [.int .u8 (k.toNat : Int), .bool x, .slice ad nd cd, .slice an nn cn, .slice ak nk ck] 26 := by rw [hw1]; exact Has.new w _ _
  have b1 : Below w.heap.size w w1 := by rw [hw1]; exact (Below.refl _ _).alloc (Nat.le_refl _) _
  rw [← hw1]
  have c3 := g1.cellAt (i := 3) rfl
  have B1 := Lib.hid b1
  clear hw1 g1 b1
  go_wp2_with fail
  go_loopw [5] (fun ii wr => ∃ i : Nat, i ≤ nn ∧ ii = .int .i64 i ∧ (∀ j, j < i → ns.getD j ⟨#[]⟩ ≠ nm) ∧ w1 = wr) (fun ii _ => nn - (intOf ii).toNat)
  case atStart => exact ⟨0, Nat.zero_le _, rfl, fun j hj => by omega, rfl⟩
  case round =>
    obtain ⟨i, hi, rfl, hok, rfl⟩ := hrel
    have HOK := Lib.hid hok
    clear hok
    by_cases hlt : i < nn
    · rcases HS.out.at_ with h0 | ⟨b, off, rfl, hb, hc⟩
      · omega
      obtain ⟨s, hs⟩ : ∃ s, s = ns.getD i ⟨#[]⟩ := ⟨_, rfl⟩
      have hci : w1.cell? ⟨b, off + i, none⟩ = some (.string s) := by rw [hs]; exact (B1.out.cell (p := ⟨b, off + i, none⟩) hb).trans (hc i hlt)
      have HSS := Lib.hid hs
      have hki : (i : Int) < (nn : Int) := by omega
      have hroom := HS.out.room
      unfold maxLen at hroom
      have hni : (i : Int) + 1 ≤ 9223372036854775807 := by omega
      have HLT := Lib.hid hlt
      clear hs hc
      by_cases hsn : s = nm
      · have HR : Hid (Lib.idxOfS ns nm = (i : Int)) := Lib.hid (by
          have h := Lib.idxOfS_hit ns nn i nm hlt (by rw [HS.out.length]; exact Nat.le_refl _) (by rw [empty_eq, ← HSS.out]; exact hsn) (fun j hj => by rw [empty_eq]; exact HOK.out j hj)
          rwa [List.take_of_length_le (by rw [HS.out.length]; exact Nat.le_refl _)] at h)
        subst hsn
        go_wp2_with fail
        go_ret
        exact ⟨by rw [HR.out]; rfl, B1.out⟩
      · have h1 : (s.toList == nm.toList) = false := by rw [Lib.bytes_beq_false_iff]; exact hsn
        have HST : Hid (∀ j, j < i + 1 → ns.getD j ⟨#[]⟩ ≠ nm) := Lib.hid (fun j hj => by
          by_cases e : j = i
          · subst e; rw [← HSS.out]; exact hsn
          · exact HOK.out j (by omega))
        clear hsn
        go_wp2_with fail
        go_roundw
        case rel => exact ⟨i + 1, by have := HLT.out; omega, by go_num, HST.out, by trivial⟩
        case measure =>
          have := HLT.out
          simp only [intOf]; omega
    · obtain rfl : nn = i := by omega
      have HR : Hid (Lib.idxOfS ns nm = -1) := Lib.hid (by
        have h := Lib.idxOfS_miss ns nn nm (fun j hj => by rw [empty_eq]; exact HOK.out j hj)
        rwa [List.take_of_length_le (by rw [HS.out.length]; exact Nat.le_refl _)] at h)
      clear HOK
      go_wp2_with fail
      go_ret
      exact ⟨by rw [HR.out]; rfl, B1.out⟩

/-- What the reference's At tells: the tree itself. -/
def RAtU (r : Int ⊕ T) (w : World) (e : Ending) (w' : World) : Prop := ∃ n cs, e = .returned (.tuple #[.agg cs.toArray, .int .i64 (codeR r)]) ∧ IsT w n cs (resT r) ∧ Below w.heap.size w w'

set_option maxRecDepth 100000 in
set_option maxHeartbeats 20000000 in
theorem rat_any (n : Nat) (cs : List Value) (t : T) (s : ByteArray) (w : World) (ht : IsT w n cs t) (hgood : Good t) :
    Calls Tryd.prog 15 #[.agg cs.toArray, .string s] w (RAtU (atT s.data.toList t) w) := by
  have hI := Lib.hid (infoL (isT_five ht))
  have HT := Lib.hid ht
  have HGD := Lib.hid hgood
  obtain ⟨r, hr⟩ : ∃ r, r = atT s.data.toList t := ⟨_, rfl⟩
  rw [← hr]
  have HR := Lib.hid hr
  clear ht hgood hr
  go_enter Tryd.func15, Tryd.ntmps15
  go_upto_region 1 with fail
  obtain ⟨w1, hw1⟩ : ∃ w1, w1 = (w.alloc (.cells cs.toArray 26)).alloc (.cells #[.int .u8 0, .bool false, .slice none 0 0, .slice none 0 0, .slice none 0 0] 26) := ⟨_, rfl⟩
  have sz : (w.alloc (.cells cs.toArray 26)).heap.size = w.heap.size + 1 := by simp
  have r1 : Has w1 (w.heap.size + 1) zT 26 := by rw [hw1, ← sz]; exact Has.new _ zT _
  have g1 : Has w1 w.heap.size cs 26 := by rw [hw1]; exact (Has.new w cs _).alloc _
  have b1 : Below w.heap.size w w1 := by rw [hw1]; exact ((Below.refl _ _).alloc (Nat.le_refl _) _).alloc (by simp) _
  have s1 : w1.heap.size = w.heap.size + 1 + 1 := by rw [hw1]; simp
  rw [← hw1]
  obtain ⟨G, hG⟩ : ∃ G, G = w.heap.size := ⟨_, rfl⟩
  obtain ⟨R, hR⟩ : ∃ R, R = w.heap.size + 1 := ⟨_, rfl⟩
  rw [← hR] at r1 s1
  rw [← hG] at g1
  have hGR : G < R := by omega
  have hwG : w.heap.size ≤ G := by omega
  have hwR : w.heap.size ≤ R := by omega
  have hs1 : w1.heap.size = R + 1 := s1
  have HGS : Hid (G = w.heap.size) := Lib.hid hG
  rw [← hR, ← hG]
  have HK := Lib.hid (rsplit_any s w1)
  have R1 := Lib.hid r1
  have G1 := Lib.hid g1
  have B1 := Lib.hid b1
  have HZI : Hid ((Tryd.prog.info? 26).map (·.size) = some zT.toArray.size) := Lib.hid (by rw [info5]; rfl)
  have HZO : Hid (zT.toArray.all (·.oneCell') = true) := Lib.hid (all_oneCell_toArray (fun v hv => by
    simp only [zT, List.mem_cons, List.not_mem_nil, or_false] at hv
    rcases hv with rfl | rfl | rfl | rfl | rfl <;> rfl))
  clear hw1 sz r1 g1 b1 s1 hG hR
  go_wp2_with fail
  refine HK.out.mono ?_
  rintro e w2 ⟨⟨a, nl, cap, l, hIS, hlm, rfl, hge⟩, b2⟩
  have R2 := Lib.hid (R1.out.below b2 (by omega))
  have G2 := Lib.hid (G1.out.below b2 (by omega))
  have B2 := Lib.hid (B1.out.trans (b2.mono B1.out.size))
  have HIS := Lib.hid hIS
  have HGE : Hid (∀ x, a = some x → R < x.block) := Lib.hid (fun x hx => by have := hge x hx; omega)
  have HLM := Lib.hid hlm
  have hroom := hIS.room
  unfold maxLen at hroom
  clear b2 hIS hge hlm HK R1 G1 B1
  by_cases hsp : (splitT s.data.toList).2 = 0
  · have HF : Hid (findT l t = r) := Lib.hid (by rw [HR.out]; unfold atT; rw [if_pos hsp, mkB_of HLM.out])
    rw [hsp]
    clear hsp
    go_wp2_with fail
    go_loopw [8] (fun ii wr => ∃ (i n' : Nat) (cs' : List Value) (t' : T), i ≤ nl ∧ ii = .int .i64 i ∧ Has wr G cs' 26 ∧ Has wr R zT 26 ∧ IsT w n' cs' t' ∧ findT (l.drop i) t' = r ∧ Below w.heap.size w wr ∧ IsS wr a nl cap l ∧ Good t') (fun ii _ => nl - (intOf ii).toNat)
    case atStart => exact ⟨0, n, cs, t, Nat.zero_le _, rfl, G2.out, R2.out, HT.out, by rw [List.drop_zero]; exact HF.out, B2.out, HIS.out, HGD.out⟩
    case round =>
      clear G2 R2 B2 HIS HF
      obtain ⟨i, n', cs', t', hi, rfl, hg, hr, hT, hfd, hbel, hIS, hgd⟩ := hrel
      by_cases hlt : i < nl
      · rcases hIS.at_ with h0 | ⟨b, off, rfl, hb, hc⟩
        · omega
        have hll : i < l.length := by rw [hIS.length]; exact hlt
        have hbR : R < b := HGE.out _ rfl
        obtain ⟨nm, hnm⟩ : ∃ nm, nm = l.getD i ⟨#[]⟩ := ⟨_, rfl⟩
        have hcn : wr.cell? ⟨b, off + i, none⟩ = some (.string nm) := by rw [hnm]; exact hc i hlt
        have hdrop : l.drop i = nm :: l.drop (i + 1) := by
          rw [hnm, List.getD_eq_getElem?_getD, List.getElem?_eq_getElem hll]; exact List.drop_eq_getElem_cons hll
        rw [hdrop] at hfd
        have HTT := Lib.hid (IsT.later hbel _ _ _ hT)
        have h5 := isT_five hT
        cases n' with
        | zero => exact absurd hT (by simp [IsT])
        | succ m =>
        obtain ⟨k, x, d, ns, ks⟩ := t'
        obtain ⟨ad, nd, cd, an, nn, cn, ak, nk, ck, hcs, hB, hSS, hK⟩ := hT
        have cg0 : wr.cell? ⟨G, 0, none⟩ = some (.int .u8 (k.toNat : Int)) := hg.cellAt (i := 0) (by rw [hcs]; rfl)
        have cg4 : wr.cell? ⟨G, 4, none⟩ = some (.slice ak nk ck) := hg.cellAt (i := 4) (by rw [hcs]; rfl)
        have HCS := Lib.hid hcs
        have HXG := Lib.hid hg
        have HXR := Lib.hid hr
        have HBE := Lib.hid hbel
        have HIS := Lib.hid hIS
        have HKK := Lib.hid hK
        have HGD' := Lib.hid hgd
        have H5 := Lib.hid h5
        have hki : (i : Int) < (nl : Int) := by omega
        have hni : (i : Int) + 1 ≤ 9223372036854775807 := by omega
        rw [findT] at hfd
        have HFD := Lib.hid hfd
        have HLT := Lib.hid hlt
        have hbsz := hbel.size
        have HCN := Lib.hid hcn
        have HBS := Lib.hid hb
        clear hg hr hbel hIS hSS hK hB hc hnm hdrop hfd hgd h5 hcs hcn
        by_cases hk3 : k = 3
        · subst hk3
          have hfd2 : (if Lib.idxOfS ns nm < 0 ∨ (ks.length : Int) ≤ Lib.idxOfS ns nm then Sum.inl 6 else findT (l.drop (i + 1)) (ks.getD (Lib.idxOfS ns nm).toNat default)) = (r : Int ⊕ T) := by
            have := HFD.out; rwa [if_neg (by simp)] at this
          have hlens := HGD'.out.lens
          have hixl := idxOfS_lt ns nm
          have hixg := idxOfS_ge ns nm
          have HFI := Lib.hid (fun W (hb : IsT W (m + 1) cs' (.mk 3 x d ns ks)) => find_any (m + 1) cs' 3 x d ns ks nm W hb)
          obtain ⟨ix, hix⟩ : ∃ ix, ix = Lib.idxOfS ns nm := ⟨_, rfl⟩
          rw [← hix] at hfd2 hixl hixg
          have HIX := Lib.hid hix
          have HF2 := Lib.hid hfd2
          have HLK := HKK.out.length
          have hixk : ix < (nk : Int) := by omega
          clear hix hfd2 HFD hlens hixl
          have hu26 := Tryd.underlying26
          have hiL : (Tryd.prog.info? 26).map (·.size) = some cs'.length := by rw [info5, H5.out]
          go_upto_region 9 with fail
          refine wp_region_held_drew (S := fun W => Has W G cs' 26 ∧ W.cell? ⟨b, off + i, none⟩ = some (.string nm)) (by kernel_rfl) ⟨HXG.out.drew, HCN.out⟩ (fun hHeld => ?_)
          refine wpAnyH_take (i := 0) (oi := { dst := some 29, op := Op.load 26 (Operand.tmp 2), type := 26, pos := "ref.go:131", after := #[], guard := none }) rfl (by kernel_rfl) (by kernel_rfl) (by kernel_rfl) (fun _ _ _ h => h)
            (yieldsIf_load_mid (by rfl) 26 (.tmp 2) rfl G (0) rfl cs' _ (fun _ h => rangeAt_has h.1) hu26 rfl hiL) hHeld ?_
          try simp only [Act.put, List.setIfInBounds_toArray, List.set_cons_zero, List.set_cons_succ]
          refine wpAnyH_take (i := 1) (oi := { dst := some 30, op := Op.move (Operand.tmp 6), type := 23, pos := "ref.go:131", after := #[], guard := none }) (v := .slice (some ⟨b, off, none⟩) nl cap) rfl (by kernel_rfl) (by kernel_rfl) (by kernel_rfl) (fun _ _ _ h => h)
            (Or.inl ⟨by rfl, by intro w hSw; have hSd := hSw.2; clear hSw; go_simp⟩) hHeld ?_
          try simp only [Act.put, List.setIfInBounds_toArray, List.set_cons_zero, List.set_cons_succ]
          refine wpAnyH_take (i := 2) (oi := { dst := some 31, op := Op.move (Operand.tmp 8), type := 3, pos := "ref.go:131", after := #[], guard := none }) (v := .int .i64 (i : Int)) rfl (by kernel_rfl) (by kernel_rfl) (by kernel_rfl) (fun _ _ _ h => h)
            (Or.inl ⟨by rfl, by intro w hSw; have hSd := hSw.2; clear hSw; go_simp⟩) hHeld ?_
          try simp only [Act.put, List.setIfInBounds_toArray, List.set_cons_zero, List.set_cons_succ]
          refine wpAnyH_take (i := 3) (oi := { dst := some 32, op := Op.indexAddr 23 (Operand.tmp 30) (Operand.tmp 31), type := 0, pos := "ref.go:131", after := #[{ on := 1, ground := Ground.data }, { on := 2, ground := Ground.data }], guard := none }) (v := .pointer (some ⟨b, off + i, none⟩)) rfl (by kernel_rfl) (by kernel_rfl) (by kernel_rfl) (fun _ _ _ h => h)
            (Or.inl ⟨by rfl, by intro w hSw; have hSd := hSw.2; clear hSw; go_simp⟩) hHeld ?_
          try simp only [Act.put, List.setIfInBounds_toArray, List.set_cons_zero, List.set_cons_succ]
          refine wpAnyH_take (i := 4) (oi := { dst := some 33, op := Op.load 9 (Operand.tmp 32), type := 9, pos := "ref.go:131", after := #[{ on := 3, ground := Ground.data }], guard := none }) (v := .string nm) rfl (by kernel_rfl) (by kernel_rfl) (by kernel_rfl) (fun _ _ _ h => h)
            (Or.inl ⟨by rfl, by intro w hSw; have hSd := hSw.2; clear hSw; go_simp⟩) hHeld ?_
          try simp only [Act.put, List.setIfInBounds_toArray, List.set_cons_zero, List.set_cons_succ]
          refine wpAnyH_ready (rs := [5]) (by kernel_rfl) (by simp) ?_
          refine AllReadyH.cons (o := { dst := some 34, op := Op.call { callee := Callee.value (Operand.func 23), args := #[Operand.tmp 29, Operand.tmp 33], argTypes := #[26, 9] }, type := 3, pos := "ref.go:131", after := #[{ on := 0, ground := Ground.data }, { on := 4, ground := Ground.data }], guard := none }) rfl (fun K hK => ?_) AllReadyH.nil
          go_simp
          refine (HFI.out _ (IsT.later (w := wr) (below_drewT (Below.refl _ wr)) _ _ _ HTT.out)).mono ?_
          rintro e w9 ⟨rfl, b9⟩
          rw [← HIX.out]
          go_wp2_with fail
          have b9' : Below wr.heap.size wr w9 := ⟨b9.os.trans rfl, b9.tape.trans rfl, b9.output, b9.size, b9.block⟩
          have s9 : wr.heap.size ≤ w9.heap.size := b9'.size
          have hx9 : Has w9 G cs' 26 := HXG.out.below b9' HXG.out.lt
          have hc9 : w9.cell? ⟨b, off + i, none⟩ = some (.string nm) := (b9'.cell (p := ⟨b, off + i, none⟩) HBS.out).trans HCN.out
          refine hK.out _ _ ⟨hx9, hc9⟩ (fun hHeld2 => ?_)
          clear hK K hHeld HFI
          try simp only [Act.put, List.setIfInBounds_toArray, List.set_cons_zero, List.set_cons_succ]
          refine wpAnyH_take (i := 6) (oi := { dst := some 9, op := Op.assign (Operand.tmp 34), type := 3, pos := "ref.go:131", after := #[{ on := 5, ground := Ground.data }, { on := 5, ground := Ground.chain }, { on := 0, ground := Ground.phase }, { on := 1, ground := Ground.phase }, { on := 2, ground := Ground.phase }, { on := 3, ground := Ground.phase }, { on := 4, ground := Ground.phase }, { on := 5, ground := Ground.phase }], guard := none }) (v := .int .i64 ix) rfl (by kernel_rfl) (by kernel_rfl) (by kernel_rfl) (fun _ _ _ h => h)
            (Or.inl ⟨by rfl, by intro w hSw; have hSd := hSw.2; clear hSw; go_simp⟩) hHeld2 ?_
          try simp only [Act.put, List.setIfInBounds_toArray, List.set_cons_zero, List.set_cons_succ]
          refine wpAnyH_done (by kernel_rfl) ?_ _
          have HX9 := Lib.hid hx9
          have HR9 := Lib.hid (HXR.out.below b9' HXR.out.lt)
          have HB9 := Lib.hid (HBE.out.trans (b9'.mono hbsz))
          have HI9 := Lib.hid (HIS.out.later b9')
          have cx4 : w9.cell? ⟨G, 4, none⟩ = some (.slice ak nk ck) := hx9.cellAt (i := 4) (by rw [HCS.out]; rfl)
          clear hHeld2 hx9 hc9 b9 b9' hiL hu26 cg0 cg4
          by_cases hneg : ix < 0
          · have HRR : Hid (r = .inl 6) := Lib.hid (by have := HF2.out; rw [if_pos (.inl hneg)] at this; exact this.symm)
            go_wp2_with (refine wpList_store_row rfl 26 _ _ rfl R zT.toArray rfl rfl 26 _ HR9.out HZI.out rfl HZO.out ?_)
            refine bodyPost_ret (at_ret (fn := Tryd.f15) (p := 4) (u := 5) (ty := 26) Tryd.results15 _ _ R 26 zT.toArray (0, 0) _ rfl (setRow_heap _ _ _ _ _ _ HR9.out) Tryd.underlying26 rfl HZI.out) rfl ?_
            rw [HRR.out]
            exact ⟨1, zT, rfl, isT_zero w, below_setRow HB9.out (by omega) _⟩
          · obtain ⟨j, rfl⟩ : ∃ j : Nat, ix = (j : Int) := ⟨ix.toNat, by omega⟩
            have hjn : j < nk := by omega
            have hf3 : findT (l.drop (i + 1)) (ks.getD j default) = r := by
              have := HF2.out
              rw [if_neg (by rw [HLK]; omega)] at this
              simpa using this
            rcases HKK.out.at_ with h0 | ⟨bk, ok, rfl, hbk, hck⟩
            · omega
            obtain ⟨e0, e1, e2, e3, e4, hRk, k0, k1, k2, k3, k4⟩ := hck j hjn
            have hrange : w9.rangeAt bk (ok + j * 5) [e0, e1, e2, e3, e4] := fun q v hv => by
              rw [Nat.add_assoc]
              match q, hv with
              | 0, hv => cases hv; exact (HB9.out.cell (p := ⟨bk, ok + (j * 5 + 0), none⟩) hbk).trans k0
              | 1, hv => cases hv; exact (HB9.out.cell (p := ⟨bk, ok + (j * 5 + 1), none⟩) hbk).trans k1
              | 2, hv => cases hv; exact (HB9.out.cell (p := ⟨bk, ok + (j * 5 + 2), none⟩) hbk).trans k2
              | 3, hv => cases hv; exact (HB9.out.cell (p := ⟨bk, ok + (j * 5 + 3), none⟩) hbk).trans k3
              | 4, hv => cases hv; exact (HB9.out.cell (p := ⟨bk, ok + (j * 5 + 4), none⟩) hbk).trans k4
              | q + 5, hv => simp at hv
            have HGK : Hid (Good (ks.getD j default)) := Lib.hid (HGD'.out.kid j (by omega))
            obtain ⟨L5, hL5⟩ : ∃ L, L = [e0, e1, e2, e3, e4] := ⟨_, rfl⟩
            rw [← hL5] at hrange hRk
            have HRG := Lib.hid hrange
            have HRK := Lib.hid hRk
            have HLI := Lib.hid (infoL (isT_five hRk))
            have HL5 : Hid ((Tryd.prog.info? 26).map (·.size) = some L5.length) := Lib.hid (by rw [info5, isT_five hRk])
            have HLO := Lib.hid (isT_one hRk)
            have HLS : Hid (cs'.toArray.size = L5.toArray.size) := Lib.hid (by simp [H5.out, isT_five hRk])
            have HF3 := Lib.hid hf3
            have hjk : (j : Int) < (nk : Int) := by omega
            have hq1 : decide ((j : Int) < 0) = false := by simp
            have hq2 : ¬ (j : Int) < 0 := by omega
            clear hf3 hck k0 k1 k2 k3 k4 hrange hRk hL5 hneg hjn HLK
            go_wp2_with (first
              | (refine wpList_load_mid rfl 26 _ rfl bk (ok + j * 5) rfl L5 _ HRG.out Tryd.underlying26 rfl HL5.out ?_)
              | (refine wpList_store_row rfl 26 _ _ rfl G L5.toArray rfl rfl 26 _ HX9.out HLI.out HLS.out HLO.out ?_))
            go_roundw
            case rel =>
              refine ⟨i + 1, m, L5, _, by have := HLT.out; omega, by go_num, HX9.out.row L5, HR9.out.rowOther (by omega) _, HRK.out, HF3.out, below_setRow HB9.out (by omega) _, ?_, HGK.out⟩
              have hS := HI9.out
              refine ⟨hS.length, ?_, hS.nil, hS.room⟩
              rcases hS.at_ with h0 | ⟨b', off', he, hb', hc'⟩
              · exact .inl h0
              · cases he
                exact .inr ⟨b, off, rfl, by simpa using hb', fun q hq => (World.cell?_of_block (w := w9) (a := ⟨b, off + q, none⟩) (setRow_other _ _ _ _ (by show b ≠ G; omega))).trans (hc' q hq)⟩
            case measure =>
              have := HLT.out
              simp only [intOf]; omega
        · have HRR : Hid (r = .inl 8) := Lib.hid (by have := HFD.out; rw [if_pos hk3] at this; exact this.symm)
          obtain ⟨z, hz⟩ : ∃ z : Int, z = (k.toNat : Int) := ⟨_, rfl⟩
          rw [← hz] at cg0
          have hz3 : (z == 3) = false := by
            have : k.toNat ≠ 3 := fun h => hk3 (UInt8.toNat_inj.1 h)
            rw [beq_eq_false_iff_ne]; omega
          have hz3' : ¬ z = 3 := by simpa using hz3
          have hz4 : (z != 3) = true := by rw [bne_iff_ne]; exact hz3'
          clear hk3 HFD hz
          go_wp2_with (refine wpList_store_row rfl 26 _ _ rfl R zT.toArray rfl rfl 26 _ HXR.out HZI.out rfl HZO.out ?_)
          refine bodyPost_ret (at_ret (fn := Tryd.f15) (p := 4) (u := 5) (ty := 26) Tryd.results15 _ _ R 26 zT.toArray (0, 0) _ rfl (setRow_heap _ _ _ _ _ _ HXR.out) Tryd.underlying26 rfl HZI.out) rfl ?_
          rw [HRR.out]
          exact ⟨1, zT, rfl, isT_zero w, below_setRow HBE.out (by omega) _⟩
      · obtain rfl : nl = i := by omega
        have HRR : Hid (r = .inr t') := Lib.hid (by
          have : l.drop nl = [] := List.drop_eq_nil_of_le (by rw [hIS.length]; exact Nat.le_refl _)
          rw [this] at hfd
          exact hfd.symm)
        have HCS := Lib.hid (infoL (isT_five hT))
        have HSS : Hid (zT.toArray.size = cs'.toArray.size) := Lib.hid (by simp [isT_five hT, zT])
        have HSO := Lib.hid (isT_one hT)
        have HXG := Lib.hid hg
        have HXR := Lib.hid hr
        have HBE := Lib.hid hbel
        have HTT := Lib.hid hT
        clear hg hr hbel hT hfd hIS hgd
        go_wp2_with (first
          | (refine wpList_load_row rfl 26 _ rfl G rfl 26 cs'.toArray (0, 0) _ HXG.out Tryd.underlying26 rfl HCS.out ?_)
          | (refine wpList_store_row rfl 26 _ _ rfl R cs'.toArray rfl rfl 26 _ HXR.out HCS.out HSS.out HSO.out ?_))
        refine bodyPost_ret (at_ret (fn := Tryd.f15) (p := 4) (u := 5) (ty := 26) Tryd.results15 _ _ R 26 cs'.toArray (0, 0) _ rfl (setRow_heap _ _ _ _ _ _ HXR.out) Tryd.underlying26 rfl HCS.out) rfl ?_
        rw [HRR.out]
        exact ⟨n', cs', rfl, HTT.out, below_setRow HBE.out (by omega) _⟩
  · have HRR : Hid (r = .inl (splitT s.data.toList).2) := Lib.hid (by rw [HR.out]; unfold atT; rw [if_neg hsp])
    obtain ⟨code, hcode⟩ : ∃ c, c = (splitT s.data.toList).2 := ⟨_, rfl⟩
    rw [← hcode] at HRR hsp ⊢
    have hne1 : (code != 0) = true := by rw [bne_iff_ne]; exact hsp
    have hne2 : (code == 0) = false := by rw [beq_eq_false_iff_ne]; exact hsp
    clear hcode hsp
    go_wp2_with (refine wpList_store_row rfl 26 _ _ rfl R zT.toArray rfl rfl 26 _ R2.out HZI.out rfl HZO.out ?_)
    refine bodyPost_ret (at_ret (fn := Tryd.f15) (p := 4) (u := 5) (ty := 26) Tryd.results15 _ _ R 26 zT.toArray (0, 0) _ rfl (setRow_heap _ _ _ _ _ _ R2.out) Tryd.underlying26 rfl HZI.out) rfl ?_
    rw [HRR.out]
    exact ⟨1, zT, rfl, isT_zero w, below_setRow B2.out (by omega) _⟩

end Go.Proofs.YtbempgdndmchlaaDoor
