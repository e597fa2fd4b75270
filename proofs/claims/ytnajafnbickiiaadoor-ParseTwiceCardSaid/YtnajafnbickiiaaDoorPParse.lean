/-
  Parse, where nothing is at fault. Conditions: the listed variables of the lexer and of the parser lie as the text lays them.
-/
import Derived.Test.YtnajafnbickiiaaDoorPWhole
import Derived.Test.YtnajafnbickiiaaDoorLTokens
namespace Go.Proofs.YtnajafnbickiiaaDoor
open Go.RowKit
set_option linter.unusedVariables false

def numB (T : List UInt8) : Bool := !T.isEmpty && T.all digL && decide (decV T ≤ 9223372036854775807) && decide (T.length ≤ 8000)
def endsB : List Tk → Bool
  | [] => false
  | [t] => t.kind == 0
  | t :: u :: r => t.kind != 0 && endsB (u :: r)
def goodB (ts : List Tk) : Bool := endsB ts && decide (ts.length ≤ 100000) && ts.all fun t => decide (t.at_ ≤ 100000) && decide (t.text.length ≤ 100000) && decide (t.kind ≤ 8) && (t.kind != 3 || numB t.text)
theorem endsB_ok : ∀ {ts : List Tk}, endsB ts = true → endsT ts
  | [], h => by simp [endsB] at h
  | [t], h => by simpa [endsB, endsT] using h
  | t :: u :: r, h => by
    simp only [endsB, Bool.and_eq_true, bne_iff_ne, ne_eq] at h
    exact ⟨h.1, endsB_ok h.2⟩
theorem numB_ok {T : List UInt8} (h : numB T = true) : numOk T := by
  simp only [numB, Bool.and_eq_true, decide_eq_true_eq, Bool.not_eq_true', List.isEmpty_eq_false_iff, List.all_eq_true] at h
  exact ⟨h.1.1.1, h.1.1.2, h.1.2, h.2⟩
theorem ps_new {w : World} {pb g cap B : Nat} {ts : List Tk} {rm : Int} (hrow : Has w pb [.slice (some ⟨g, 0, none⟩) ts.length cap, .int .i64 0, .int .i64 rm] 38)
    (ho : w.ownsRow B 50 3 (.slice (some ⟨g, 0, none⟩) ts.length cap) ts.length (tksC ts)) (hne : g ≠ pb) (hgood : goodB ts = true) (hlp : LaidP w) (hlt : 2 < pb) : Ps w pb g 0 cap ts 0 rm := by
  simp only [goodB, Bool.and_eq_true, decide_eq_true_eq, List.all_eq_true, Bool.or_eq_true, bne_iff_ne, ne_eq] at hgood
  have hc : g < w.heap.size ∧ ts.length ≤ cap ∧ cap ≤ maxLen := by
    rcases ho.2 with ⟨h', _⟩ | ⟨g', cap', cur, h', _, hg, hnc, hcm, _, _⟩
    · simp at h'
    · simp only [Value.slice.injEq, Option.some.injEq, Addr.mk.injEq, and_true, true_and] at h'
      obtain ⟨rfl, rfl⟩ := h'
      exact ⟨(Array.getElem?_eq_some_iff.1 hg).1, hnc, hcm⟩
  refine ⟨hrow, hc.1, hne, hc.2, fun i t ht j v hj => ?_, endsB_ok hgood.1.1, hgood.1.2, fun t ht => ?_, hlp, hlt⟩
  · have hi := (List.getElem?_eq_some_iff.1 ht).1
    have hj3 : j < 3 := (List.getElem?_eq_some_iff.1 hj).1
    rw [show 0 + i * 3 + j = i * 3 + j by omega, World.ownsRow.cellAt ho (i * 3 + j) (by omega), tksC_get ts i t ht j hj3]
    exact hj
  · have := hgood.2 t ht
    exact ⟨this.1.1.1, this.1.1.2, this.1.2, fun h3 => numB_ok (this.2.resolve_left fun hn => hn h3)⟩

theorem results_cell2 {fn : Func} {P : Program} {p q r : Tmp} {ty : TypeId} (h : fn.results = #[.cell p ty, .tmp q, .tmp r]) (tmps : Array Value) (w : World) (g : Nat) (t : TypeId) (cs : Array Value) (fr : Nat × Nat) (d : TypeDesc)
    (hp : tmps.getD p undef = .pointer (some ⟨g, 0, none⟩)) (hg : w.heap[g]? = some (.cells cs t fr))
    (hu : P.underlying ty = some d) (hd : (match d with | .struct _ | .array _ _ => true | _ => false) = true) (hi : (P.info? ty).map (·.size) = some cs.size) :
    (results fn tmps).run P w = .ok (.tuple #[.agg cs, tmps.getD q undef, tmps.getD r undef]) w := by
  have hp' : tmps[p]?.getD undef = .pointer (some ⟨g, 0, none⟩) := by simpa using hp
  simp [results, h, hp', asAddr, run_loadVar_row w g t ty cs fr d hg hu hd hi]

set_option maxRecDepth 100000 in
set_option maxHeartbeats 8000000 in
theorem parse_good (s : ByteArray) {w : World} (hl : LaidL w) (hlp : LaidP w) (n : Nat) (ts : List Tk) (x : Ex) (t : Tk) (q : List Tk) (hlex : lexTop s.data.toList = .ok ts) (hgood : goodB ts = true) (hp : pg n .expr 0 ts = .ok x (t :: q)) (hk : t.kind = 0) :
    Calls Tryd.prog 7 #[.string s] w fun e w' => ∃ cs, e = .returned (.tuple #[.agg cs.toArray, .int .i64 0, .int .i64 0]) ∧ IsX w' w.heap.size cs x ∧ Below w.heap.size w w' := by
  have HLP := Lib.hid hlp
  have HL := Lib.hid hl
  have HX := Lib.hid hlex
  have HGD := Lib.hid hgood
  have HP := Lib.hid hp
  have HK := Lib.hid hk
  have hpos : 0 < ts.length := by
    cases ts with
    | nil => simp [goodB, endsB] at hgood
    | cons a b => simp
  have HPOS := Lib.hid hpos
  clear hl hlp hlex hgood hp hk hpos
  go_enter Tryd.func7, Tryd.ntmps7
  go_upto_region 1 with fail
  obtain ⟨G, hG⟩ : ∃ G, G = w.heap.size := ⟨_, rfl⟩
  rw [← hG]
  obtain ⟨w1, hx1⟩ : ∃ x, x = w.alloc (.cells #[.int .u8 0, .int .i64 0, .string ⟨#[]⟩, .slice none 0 0, .slice none 0 0, .bool false, .slice none 0 0, .int .i64 0] 28) := ⟨_, rfl⟩
  rw [← hx1]
  have Z1 : Hid (Has w1 G exZ 28) := Lib.hid (by rw [hx1, hG]; exact Has.new w exZ _)
  have B1 : Hid (Below G w w1) := Lib.hid (by rw [hx1, hG]; exact (Below.refl _ _).alloc (Nat.le_refl _) _)
  have HSG : Hid (2 < G) := Lib.hid (by rw [hG]; exact HLP.out.lt)
  have L1 : Hid (LaidL w1) := Lib.hid (HL.out.below B1.out (by rw [hG]; exact HL.out.size))
  have LP1 : Hid (LaidP w1) := Lib.hid (HLP.out.below B1.out HSG.out)
  have HG := Lib.hid hG
  clear hx1 hG HL HLP
  have HT := Lib.hid (tokens_any s w1 L1.out)
  go_wp2_with fail
  refine HT.out.mono ?_
  rintro e w2 hpost
  rw [HX.out] at hpost
  obtain ⟨⟨v, rfl, ho⟩, hb⟩ := hpost
  obtain ⟨g, cap, rfl, hle⟩ := row_some ho HPOS.out
  have HO := Lib.hid ho
  have HLE := Lib.hid hle
  have Z2 := Lib.hid (Z1.out.below hb Z1.out.lt)
  have B2 : Hid (Below G w w2) := Lib.hid (B1.out.trans (hb.mono (Nat.le_of_lt Z1.out.lt)))
  have LP2 : Hid (LaidP w2) := Lib.hid (LP1.out.below hb LP1.out.lt)
  obtain ⟨nn, hnn⟩ : ∃ nn, nn = ts.length := ⟨_, rfl⟩
  rw [← hnn]
  have HNN := Lib.hid hnn
  clear hb ho hle hnn HT L1 LP1 Z1 B1
  go_upto_region 4 with fail
  go_upto_region 5 with fail
  obtain ⟨pb, hpb⟩ : ∃ pb, pb = w2.heap.size := ⟨_, rfl⟩
  obtain ⟨w3, hw3⟩ : ∃ y, y = w2.alloc (.cells #[.slice (some ⟨g, 0, none⟩) nn cap, .int .i64 0, .int .i64 21474836] 38) := ⟨_, rfl⟩
  rw [← hw3, ← hpb]
  have D3 : Hid (Below pb w2 w3) := Lib.hid (by rw [hw3, hpb]; exact (Below.refl _ _).alloc (Nat.le_refl _) _)
  have Z3 := Lib.hid (Z2.out.below D3.out (by rw [hpb]; exact Z2.out.lt))
  have B3 : Hid (Below G w w3) := Lib.hid (B2.out.trans (D3.out.mono (by rw [hpb]; exact Nat.le_of_lt Z2.out.lt)))
  have HPB : Hid (G < pb) := Lib.hid (by rw [hpb]; exact Z2.out.lt)
  have hgl : g < pb := by
    rcases HO.out.2 with ⟨h', _⟩ | ⟨g', cap', cur, h', _, hg, _, _, _, _⟩
    · simp at h'
    · simp only [Value.slice.injEq, Option.some.injEq, Addr.mk.injEq, and_true, true_and] at h'
      obtain ⟨rfl, _⟩ := h'
      rw [hpb]; exact (Array.getElem?_eq_some_iff.1 hg).1
  have hr3 : Has w3 pb [.slice (some ⟨g, 0, none⟩) ts.length cap, .int .i64 0, .int .i64 21474836] 38 := by
    rw [hw3, hpb, ← HNN.out]; exact Has.new w2 [.slice (some ⟨g, 0, none⟩) nn cap, .int .i64 0, .int .i64 21474836] _
  have ho3 := HO.out.kept (w' := w3) (row := none) (by rw [hw3]; exact World.grownBy_alloc w2 _ none) (.inr (by simp [Value.ownBlock]))
  have hl3 : LaidP w3 := LP2.out.below D3.out (by rw [hpb]; exact LP2.out.lt)
  have hs3 : 2 < pb := Nat.lt_trans HSG.out HPB.out
  have HPS : Hid (Ps w3 pb g 0 cap ts 0 21474836) := Lib.hid (ps_new hr3 ho3 (Nat.ne_of_lt hgl) HGD.out hl3 hs3)
  clear hr3 ho3 hl3 hs3
  have HLT3 := Lib.hid Z3.out.lt
  have HW := Lib.hid (whole_ok HPS.out n x t q HP.out HK.out)
  clear hpb hw3 hgl D3 Z2 B2 LP2 HO HPS
  go_wp2_with fail
  refine HW.out.mono ?_
  rintro e w4 ⟨cs, rfl, ix, bt⟩
  have Z4 := Lib.hid (Z3.out.but bt Z3.out.lt (by have := HPB.out; omega))
  have B4 : Hid (But G pb w w4) := Lib.hid ((But.of_below B3.out).trans (bt.mono (Nat.le_of_lt Z3.out.lt)))
  obtain ⟨E, hE⟩ : ∃ E, E = cs.toArray := ⟨_, rfl⟩
  rw [← hE]
  have HE := Lib.hid hE
  have HEI : Hid ((Tryd.prog.info? 28).map (·.size) = some E.size) := Lib.hid (by rw [hE, List.size_toArray, ix.len]; exact info_ex)
  have HEO : Hid (E.all (·.oneCell') = true) := Lib.hid (by rw [hE]; exact ix.one)
  have HES : Hid (exZ.toArray.size = E.size) := Lib.hid (by rw [hE, List.size_toArray, List.size_toArray, ix.len]; rfl)
  have IX : Hid (IsXS w4 (fun k => G < k) cs x) := Lib.hid (IsXS.mono ix fun k h1 h2 => by have := HLT3.out; omega)
  clear ix bt hE HW Z3 B3
  go_wp2_with (refine wpList_store_row rfl 28 _ _ rfl G E rfl rfl 28 _ Z4.out HEI.out HES.out HEO.out ?_)
  refine bodyPost_ret (results_cell2 (fn := Tryd.f7) (p := 2) (q := 3) (r := 4) Tryd.results7 _ _ G 28 E (0, 0) _ rfl (setRow_heap _ _ _ _ _ _ Z4.out) Tryd.underlying28 rfl HEI.out) rfl ?_
  have b4 : Below G w w4 := { os := B4.out.os, tape := B4.out.tape, output := B4.out.output, size := B4.out.size, block := fun k hk => B4.out.block k hk (by have := HPB.out; omega) }
  refine ⟨cs, by rw [HE.out]; rfl, ?_, ?_⟩
  · rw [← HG.out]
    exact IsXS.mono (IX.out.keep (by simp) fun k h1 h2 => setRow_other _ _ _ _ (by omega)) fun k h1 _ => by omega
  · rw [← HG.out]; exact below_setRow b4 (Nat.le_refl _) _
end Go.Proofs.YtnajafnbickiiaaDoor
