/-
  The paths of derivations: what they are, and the law's awake. Conditions: bounds on the texts' sizes.
-/
import Derived.Test.YtokbakpbhpknfaaGreatDoorMake
import Derived.Test.YtokbakpbhpknfaaGreatDoorDvTextP
import Derived.Test.YtokbakpbhpknfaaGreatDoorDvOpenN
import Derived.Deep.RegionHeld3
namespace Go.Proofs.YtokbakpbhpknfaaGreatDoor
open Go.RowKit
set_option linter.unusedVariables false

theorem bs_back (s : ByteArray) : bs s.data.toList = s := by unfold bs; rfl
theorem map_back (l : List ByteArray) : (lsts l).map bs = l := by
  unfold lsts; rw [List.map_map]; exact List.map_id l
theorem dlist_le (l : List ByteArray) (hn : l.length ≤ 32) (hs : ∀ s ∈ l, s.size ≤ 100) : (dlist (lsts l)).length ≤ 10000 := by
  have h := joinD_len 202 ((lsts l).map dquote) (fun a ha => by
    obtain ⟨b, hb, rfl⟩ := List.mem_map.1 ha
    obtain ⟨s, hs', rfl⟩ := List.mem_map.1 hb
    have := dquote_len s.data.toList
    have := hs s hs'
    have e : s.data.toList.length = s.size := by simp
    omega)
  have hl : (lsts l).length = l.length := by simp [lsts]
  simp only [List.length_map] at h
  rw [hl] at h
  have : l.length * (202 + 1) ≤ 32 * (202 + 1) := Nat.mul_le_mul_right _ hn
  unfold dlist; simp only [List.length_cons, List.length_append, List.length_nil]; omega
theorem formB_text {s0 : ByteArray} {l1 l2 : List ByteArray} {s3 s4 : ByteArray} (h : formB s0 l1 l2 s3 s4 = true) : (dtextB s0 l1 l2 s3 s4).length ≤ 1000000 := by
  have h' := h
  unfold formB at h
  simp only [Bool.and_eq_true, decide_eq_true_eq] at h
  obtain ⟨⟨⟨⟨h0, h1⟩, h2⟩, h3⟩, h4⟩ := h
  have hz : ∀ s : ByteArray, s.size = s.data.toList.length := fun s => by simp
  have a0 := isName_len (show Nam.isName s0.data.toList = true by
    rw [dName_eq] at h0; simp only [Bool.and_eq_true] at h0; exact h0.1.1)
  have a1 := needT_len h1
  have a2 := needT_len h2
  have a4 := fixed_len h4
  have d1 := dlist_le l1 a1.1 (fun s hs => by rw [hz]; have := dPath_len (a1.2 s hs); omega)
  have d2 := dlist_le l2 a2.1 (fun s hs => by rw [hz]; have := isP_len (a2.2 s hs); omega)
  have q0 := dquote_len s0.data.toList
  have q3 := dquote_len s3.data.toList
  have q4 := dquote_len s4.data.toList
  rw [hz] at h3
  unfold dtextB dtext dopen
  simp only [List.length_cons, List.length_append, List.length_nil]
  omega

theorem isS_nil (w : World) : IsS w none 0 0 [] := ⟨rfl, .inl rfl, fun _ => ⟨rfl, rfl⟩, ⟨Nat.le_refl _, Nat.zero_le _⟩⟩
theorem at_ret {fn : Func} {P : Program} {p u : Tmp} {ty : TypeId} (h : fn.results = #[.cell p ty, .tmp u]) (tmps : Array Value) (w : World) (g : Nat) (t : TypeId) (cs : Array Value) (fr : Nat × Nat) (d : TypeDesc)
    (hp : tmps.getD p undef = .pointer (some ⟨g, 0, none⟩)) (hg : w.heap[g]? = some (.cells cs t fr))
    (hu : P.underlying ty = some d) (hd : (match d with | .struct _ | .array _ _ => true | _ => false) = true) (hi : (P.info? ty).map (·.size) = some cs.size) :
    (results fn tmps).run P w = .ok (.tuple #[.agg cs, tmps.getD u undef]) w := by
  have hp' : tmps[p]?.getD undef = .pointer (some ⟨g, 0, none⟩) := by simpa using hp
  simp [results, h, hp', asAddr, run_loadVar_row w g t ty cs fr d hg hu hd hi]
/-- The noughts of a derivation. -/
def dzL : List Value := [.string ⟨#[]⟩, .slice none 0 0, .slice none 0 0, .string ⟨#[]⟩, .string ⟨#[]⟩]
theorem info_dL (s0 s3 s4 : ByteArray) (a1 a2 : Option Addr) (k1 c1 k2 c2 : Nat) : (Tryz.prog.info? 24).map (·.size) = some ([.string s0, .slice a1 k1 c1, .slice a2 k2 c2, .string s3, .string s4] : List Value).toArray.size := by rw [info_drv]; rfl

theorem awake_form : formB ⟨#[97]⟩ [] [] ⟨#[120]⟩ ⟨#[]⟩ = true := by decide +kernel
theorem awake_text : bs (dtextB ⟨#[97]⟩ [] [] ⟨#[120]⟩ ⟨#[]⟩) = ⟨#[68, 101, 114, 105, 118, 101, 40, 34, 97, 34, 44, 91, 93, 44, 91, 93, 44, 34, 120, 34, 44, 34, 34, 41]⟩ := by
  apply ByteArray.ext; decide +kernel

set_option maxRecDepth 100000 in
set_option maxHeartbeats 4000000 in
theorem awake_any (w : World) : Calls Tryz.prog 7 #[] w fun e w' => e = .returned (.bool true) ∧ Below w.heap.size w w' := by
  have hk := dtext_any ⟨#[97]⟩ ⟨#[120]⟩ ⟨#[]⟩ none none 0 0 0 0 [] [] w (isS_nil w) (isS_nil w) (fun s hs => by cases hs) (fun s hs => by cases hs) (by decide) (by decide) (by decide)
  have HK := Lib.hid hk
  clear hk
  go_enter Tryz.func7, Tryz.ntmps7
  go_wp2_with fail
  refine HK.out.mono ?_
  rintro e w2 ⟨p1, _, b2⟩
  have he := p1 awake_form
  rw [awake_text] at he
  subst he
  have B2 := Lib.hid b2
  clear p1 b2 HK
  go_wp2_with fail
  go_ret
  exact ⟨rfl, B2.out⟩


theorem LaidW.later {w w' : World} (l : LaidW w) (hb : Below w.heap.size w w') : LaidW w' := l.below hb l.two
theorem rangeAt_has {w : World} {b : Nat} {L : List Value} {t : TypeId} (h : Has w b L t) : w.rangeAt b 0 L := fun j v hj => by
  rw [Nat.zero_add]; exact h.cellAt hj
/-- A text's digest, as bytes. -/
def dgB (X : List UInt8) : List UInt8 := (dig (nats X)).map UInt8.ofNat
theorem dgB_length (X : List UInt8) : (dgB X).length = 32 := by unfold dgB; rw [List.length_map]; exact dig_length _
theorem dgB_cells (X : List UInt8) : (dig (nats X)).map byv = (dgB X).map Nam.bv := by
  rw [dgB, Nam.bv_byv, List.map_map, List.map_map]
  refine List.map_congr_left fun x hx => ?_
  have := dig_lt _ x hx
  simp only [Function.comp, UInt8.toNat_ofNat']
  congr 1; omega
theorem isName_ext {l : List UInt8} (h : Nam.isName l = true) (h36 : l.length ≤ 36) : Nam.isName (l ++ dExt) = true := by
  unfold Nam.isName at h ⊢
  simp only [Bool.and_eq_true, decide_eq_true_eq] at h ⊢
  obtain ⟨⟨⟨h1, h2⟩, h3⟩, h4⟩ := h
  refine ⟨⟨⟨by simp; omega, by simp [dExt]; omega⟩, ?_⟩, ?_⟩
  · cases l with
    | nil => simp at h1
    | cons c r => simpa using h3
  · rw [List.all_append, h4]; decide
theorem ends_ext (l : List UInt8) : endsD (l ++ dExt) = true := by
  unfold endsD; rw [List.isSuffixOf_iff_suffix]; exact List.suffix_append _ _
theorem dPath_path (d : List UInt8) (s : ByteArray) (hd : d.length = 20) (hn : Nam.isName s.data.toList = true) : dPath (Nam.pathB d s).data.toList = endsD s.data.toList := by
  unfold dPath; rw [Nam.path_list, Nam.parse_path d _ hd hn]
/-- A derivation's path. -/
def dpathB (s0 : ByteArray) (l1 l2 : List ByteArray) (s3 s4 : ByteArray) : ByteArray :=
  Nam.pathB (fd (mkT [116, 101, 120, 116] (dgB (dtextB s0 l1 l2 s3 s4)) (s0.data.toList ++ dExt))) (s0 ++ ⟨#[46, 100, 114, 118]⟩)
theorem name_of {s0 : ByteArray} {l1 l2 : List ByteArray} {s3 s4 : ByteArray} (h : formB s0 l1 l2 s3 s4 = true) : Nam.isName s0.data.toList = true ∧ s0.size ≤ 36 ∧ endsD s0.data.toList = false := by
  unfold formB at h
  simp only [Bool.and_eq_true, decide_eq_true_eq, dName_eq, Bool.not_eq_true'] at h
  refine ⟨h.1.1.1.1.1.1, ?_, h.1.1.1.1.2⟩
  have := h.1.1.1.1.1.2
  have e : s0.data.toList.length = s0.size := by simp
  omega
theorem ext_list (s0 : ByteArray) : (s0 ++ (⟨#[46, 100, 114, 118]⟩ : ByteArray)).data.toList = s0.data.toList ++ dExt := by
  simp [ByteArray.data_append, dExt]
theorem dpathB_is {s0 : ByteArray} {l1 l2 : List ByteArray} {s3 s4 : ByteArray} (h : formB s0 l1 l2 s3 s4 = true) : dPath (dpathB s0 l1 l2 s3 s4).data.toList = true := by
  obtain ⟨h1, h2, _⟩ := name_of h
  unfold dpathB
  rw [dPath_path _ _ (fd_length _) (by rw [ext_list]; exact isName_ext h1 (by simpa using h2)), ext_list]
  exact ends_ext _
theorem makeV_name {kind name : ByteArray} {d : List UInt8} (h : Nam.isName name.data.toList = true) : makeV kind name d = .tuple #[.string (Nam.pathB (fd (mkT kind.data.toList d name.data.toList)) name), .int .i64 0] := by
  unfold makeV isName'; rw [if_pos h]
theorem below_bytes (w : World) (s : ByteArray) : Below w.heap.size w (Lib.bytesWorld w 5 s) :=
  ⟨rfl, rfl, rfl, by rw [Lib.bytesWorld_size]; omega, fun k hk => Lib.bytesWorld_at_old w _ s k hk⟩
/-- hash.Of of a text's bytes. -/
theorem of_text (X : ByteArray) (w : World) (hX : X.size ≤ 100000000000) (hl : LaidW w) : Calls Tryz.prog 19 #[.slice (some ⟨w.heap.size, 0, none⟩) X.size (grownCap w X.size 0 5)] (Lib.bytesWorld w 5 X) fun e w' => e = .returned (.agg ((dgB X.data.toList).map Nam.bv).toArray) ∧ Below w.heap.size w w' := by
  refine (of_n _ _ _ (nats X.data.toList) _ (conv_isN w X (by unfold maxLen; omega)) (by omega) (hl.later (below_bytes w X))).mono ?_
  rintro e w' ⟨he, hb⟩
  exact ⟨by rw [he, dgB_cells], (below_bytes w X).trans (hb.mono (below_bytes w X).size)⟩
/-- The reference's Sum of a text's bytes. -/
theorem sum_text (X : ByteArray) (w : World) (hX : X.size ≤ 100000000000) : Calls Tryz.prog 29 #[.slice (some ⟨w.heap.size, 0, none⟩) X.size (grownCap w X.size 0 5)] (Lib.bytesWorld w 5 X) fun e w' => e = .returned (.agg ((dgB X.data.toList).map Nam.bv).toArray) ∧ Below w.heap.size w w' := by
  refine (rsum_n _ _ _ (nats X.data.toList) _ (conv_isN w X (by unfold maxLen; omega)) (by omega)).mono ?_
  rintro e w' ⟨he, hb⟩
  exact ⟨by rw [he, dgB_cells], (below_bytes w X).trans (hb.mono (below_bytes w X).size)⟩
/-- What Path tells. -/
def DPathP (s0 : ByteArray) (l1 l2 : List ByteArray) (s3 s4 : ByteArray) (w : World) (e : Ending) (w' : World) : Prop :=
  (formB s0 l1 l2 s3 s4 = true → e = .returned (.tuple #[.string (dpathB s0 l1 l2 s3 s4), .int .i64 0])) ∧ (formB s0 l1 l2 s3 s4 = false → e = .returned (.tuple #[.string ⟨#[]⟩, .int .i64 3])) ∧ Below w.heap.size w w'
end Go.Proofs.YtokbakpbhpknfaaGreatDoor
