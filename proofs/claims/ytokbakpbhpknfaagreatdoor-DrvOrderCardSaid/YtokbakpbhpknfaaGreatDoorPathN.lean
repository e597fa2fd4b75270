/-
  The path of a digest and a name: the two Paths' contracts. Conditions: 20 bytes, the name's bound.
-/
import Derived.Test.YtokbakpbhpknfaaGreatDoorNames
import Derived.Test.YtokbakpbhpknfaaGreatDoorArr20
import Derived.Test.YtokbakpbhpknfaaGreatDoorRHexN
import Derived.Below
import Derived.Test.YtokbakpbhpknfaaGreatDoorDecN
import Derived.Laws.ResultCell
import Derived.Laws.CopyOwn
import Derived.Laws.Rows
import Derived.Deep.RegionHeld3
import Derived.BigFrame
namespace Go.Proofs.YtokbakpbhpknfaaGreatDoor.Nam
open Go.RowKit
set_option linter.unusedVariables false

def pathB (d : List UInt8) (s : ByteArray) : ByteArray := (⟨(enc d).toArray⟩ ++ ⟨#[45]⟩) ++ s

theorem name_small {l : List UInt8} (h : isName l = true) : 1 ≤ l.length ∧ l.length ≤ 40 := by
  simp only [isName, Bool.and_eq_true, decide_eq_true_eq] at h
  exact ⟨h.1.1.1, h.1.1.2⟩

set_option maxRecDepth 100000 in
set_option maxHeartbeats 4000000 in
theorem path_no (d : List UInt8) (s : ByteArray) (w : World) (hn : isName s.data.toList = false) :
    Calls Tryz.prog 36 #[.agg (d.map bv).toArray, .string s] w fun e w' => e = .returned (.tuple #[.string ⟨#[]⟩, .int .i64 4]) ∧ Below w.heap.size w w' := by
  obtain ⟨C, hC⟩ : ∃ C, C = (d.map bv).toArray := ⟨_, rfl⟩
  rw [← hC]
  clear hC
  go_enter Tryz.func36, Tryz.ntmps36
  go_wp2_with fail
  refine (name_any s _).mono ?_
  rintro e w1 ⟨rfl, rfl⟩
  rw [hn]
  go_wp2_with fail
  go_ret2
  exact ⟨rfl, (Below.refl _ _).alloc (Nat.le_refl _) _⟩

set_option maxRecDepth 100000 in
set_option maxHeartbeats 4000000 in
theorem path_yes (d : List UInt8) (s : ByteArray) (w : World) (hd : d.length = 20) (hn : isName s.data.toList = true) :
    Calls Tryz.prog 36 #[.agg (d.map bv).toArray, .string s] w fun e w' => e = .returned (.tuple #[.string (pathB d s), .int .i64 0]) ∧ Below w.heap.size w w' := by
  obtain ⟨C, hC⟩ : ∃ C, C = (d.map bv).toArray := ⟨_, rfl⟩
  have hs := name_small hn
  rw [← hC]
  have hel : (enc d).length = 32 := by rw [enc_length, hd]; rfl
  have hsl : s.data.toList.length = s.size := by simp
  have hA : ¬ 9223372036854775807 < (enc d).length + 1 := by omega
  have hB : ¬ 9223372036854775807 < (enc d).length + 1 + s.size := by omega
  have HC := Lib.hid hC
  have HN := Lib.hid hn
  clear hC hn
  go_enter Tryz.func36, Tryz.ntmps36
  go_wp2_with fail
  refine (name_any s _).mono ?_
  rintro e w1 ⟨rfl, rfl⟩
  rw [HN.out]
  go_wp2_with fail
  have x1 : Has (w.alloc (.cells C 53)) w.heap.size (d.map bv) 53 := by rw [HC.out]; exact Has.new w _ _
  have b1 : Below w.heap.size w (w.alloc (.cells C 53)) := (Below.refl _ _).alloc (Nat.le_refl _) _
  have I1 := Has.isB x1 (by omega)
  rw [hd] at I1
  refine (encode_b _ _ _ d _ I1 (by omega)).mono ?_
  rintro e w2 ⟨rfl, b2⟩
  have b3 : Below w.heap.size w w2 := b1.trans (b2.mono b1.size)
  clear x1 b1 b2 I1
  go_wp2_with fail
  go_ret2
  exact ⟨rfl, b3⟩

set_option maxRecDepth 100000 in
set_option maxHeartbeats 4000000 in
theorem rpath_yes (d : List UInt8) (s : ByteArray) (w : World) (hd : d.length = 20) (hs : s.size ≤ 40) :
    Calls Tryz.prog 50 #[.agg (d.map bv).toArray, .string s] w fun e w' => e = .returned (.string (pathB d s)) ∧ Below w.heap.size w w' := by
  obtain ⟨C, hC⟩ : ∃ C, C = (d.map bv).toArray := ⟨_, rfl⟩
  rw [← hC]
  have hel : (enc d).length = 32 := by rw [enc_length, hd]; rfl
  have hA : ¬ 9223372036854775807 < (enc d).length + 1 := by omega
  have hB : ¬ 9223372036854775807 < (enc d).length + 1 + s.size := by omega
  have HC := Lib.hid hC
  clear hC
  go_enter Tryz.func50, Tryz.ntmps50
  go_wp2_with fail
  have x1 : Has (w.alloc (.cells C 53)) w.heap.size (d.map bv) 53 := by rw [HC.out]; exact Has.new w _ _
  have b1 : Below w.heap.size w (w.alloc (.cells C 53)) := (Below.refl _ _).alloc (Nat.le_refl _) _
  have I1 := Has.isB x1 (by omega)
  rw [hd] at I1
  refine (rencode_b _ _ _ d _ I1 (by omega)).mono ?_
  rintro e w2 ⟨rfl, b2⟩
  have b3 : Below w.heap.size w w2 := b1.trans (b2.mono b1.size)
  clear x1 b1 b2 I1
  go_wp2_with fail
  go_ret
  exact ⟨rfl, b3⟩

theorem ext_data (s : ByteArray) (a b : Nat) : (s.extract a b).data.toList = (s.data.toList.drop a).take (b - a) := by
  rw [ByteArray.data_extract, Array.toList_extract]

theorem bytes_ext {s t : ByteArray} (h : s.data.toList = t.data.toList) : s = t := by
  cases s; cases t
  congr 1
  exact Array.toList_inj.1 h

/-- Does a text begin with a dash? -/
def dash (l : List UInt8) : Bool := decide (1 ≤ l.length) && (l.getD 0 0 == 45)

set_option maxRecDepth 100000 in
set_option maxHeartbeats 4000000 in
theorem prefix_dash (s : ByteArray) (w : World) :
    Calls Tryz.prog 104 #[.string s, .string ⟨#[45]⟩] w fun e w' => e = .returned (.bool (dash s.data.toList)) ∧ w = w' := by
  have hlen : s.data.toList.length = s.size := by simp
  by_cases h : 1 ≤ s.size
  · have h1 : decide ((1 : Int) ≤ (s.size : Int)) = true := by simp; omega
    have h2 : (1 : Int) ≤ (s.size : Int) := by omega
    have he : ((s.extract 0 1).toList == [45]) = dash s.data.toList := by
      rw [ByteArray.toList_eq, ext_data]
      cases hs : s.data.toList with
      | nil => rw [hs] at hlen; simp at hlen; omega
      | cons a t => simp [dash]
    have HE := Lib.hid he
    clear hlen he
    go_enter Tryz.func104, Tryz.ntmps104
    go_wp2_with fail
    go_ret
    exact ⟨by rw [← HE.out]; rfl, rfl⟩
  · have h1 : decide ((1 : Int) ≤ (s.size : Int)) = false := by simp; omega
    have hd : dash s.data.toList = false := by
      have : decide (1 ≤ s.data.toList.length) = false := by rw [hlen]; simpa using h
      simp only [dash, this, Bool.false_and]
    rw [hd]
    clear hlen hd
    go_enter Tryz.func104, Tryz.ntmps104
    go_wp2_with fail
    go_ret
    exact ⟨rfl, rfl⟩

def cutP (s : ByteArray) : Value := if dash s.data.toList = true then .tuple #[.string (s.extract 1 s.size), .bool true] else .tuple #[.string s, .bool false]

set_option maxRecDepth 100000 in
set_option maxHeartbeats 4000000 in
theorem cutl_dash (s : ByteArray) (w : World) :
    Calls Tryz.prog 85 #[.string s, .string ⟨#[45]⟩] w fun e w' => e = .returned (cutP s) ∧ w = w' := by
  obtain ⟨V, hV⟩ : ∃ V, V = cutP s := ⟨_, rfl⟩
  have HV := Lib.hid hV
  rw [← hV]
  clear hV
  cases hd : dash s.data.toList
  · have HD := Lib.hid hd
    clear hd
    go_enter Tryz.func85, Tryz.ntmps85
    go_wp2_with fail
    refine (prefix_dash s _).mono ?_
    rintro e w' ⟨rfl, rfl⟩
    rw [HD.out]
    go_wp2_with fail
    go_ret2
    refine ⟨?_, rfl⟩
    rw [HV.out]
    unfold cutP
    rw [if_neg (by rw [HD.out]; decide)]
    rfl
  · have HD := Lib.hid hd
    have h1 : (1 : Int) ≤ (s.size : Int) := by
      simp only [dash, Bool.and_eq_true, decide_eq_true_eq] at hd
      have hlen : s.data.toList.length = s.size := by simp
      omega
    clear hd
    go_enter Tryz.func85, Tryz.ntmps85
    go_wp2_with fail
    refine (prefix_dash s _).mono ?_
    rintro e w' ⟨rfl, rfl⟩
    rw [HD.out]
    go_wp2_with fail
    go_ret2
    refine ⟨?_, rfl⟩
    rw [HV.out]
    unfold cutP
    rw [if_pos HD.out]
    rfl

set_option maxRecDepth 100000 in
set_option maxHeartbeats 4000000 in
theorem cut_dash (s : ByteArray) (w : World) :
    Calls Tryz.prog 57 #[.string s, .string ⟨#[45]⟩] w fun e w' => e = .returned (cutP s) ∧ w = w' := by
  obtain ⟨V, hV⟩ : ∃ V, V = cutP s := ⟨_, rfl⟩
  have HV := Lib.hid hV
  obtain ⟨t, b, hp⟩ : ∃ t b, cutP s = .tuple #[.string t, .bool b] := by
    unfold cutP
    split
    · exact ⟨_, _, rfl⟩
    · exact ⟨_, _, rfl⟩
  have HP := Lib.hid hp
  rw [← hV]
  clear hV hp
  go_enter Tryz.func57, Tryz.ntmps57
  go_wp2_with fail
  refine (cutl_dash s _).mono ?_
  rintro e w' ⟨rfl, rfl⟩
  rw [HP.out]
  go_wp2_with fail
  go_ret2
  exact ⟨by rw [HV.out, HP.out]; rfl, rfl⟩

end Go.Proofs.YtokbakpbhpknfaaGreatDoor.Nam

namespace Go.Proofs.YtokbakpbhpknfaaGreatDoor.Nam
open Go.RowKit
set_option linter.unusedVariables false

/-- The digest and the name of a text. -/
def parseP (l : List UInt8) : Option (List UInt8 × List UInt8) :=
  if 32 ≤ l.length ∧ dash (l.drop 32) = true ∧ isName (l.drop 33) = true then (dec (l.take 32)).map (·, l.drop 33) else none

theorem results_cell_tmp2 {P : Program} {fn : Func} {p u v : Tmp} {ty : TypeId} (h : fn.results = #[.cell p ty, .tmp u, .tmp v]) (tmps : Array Value) (w : World) (g : Nat) (t : TypeId) (cs : Array Value) (fr : Nat × Nat) (d : TypeDesc)
    (hp : tmps.getD p undef = .pointer (some ⟨g, 0, none⟩)) (hg : w.heap[g]? = some (.cells cs t fr))
    (hu : P.underlying ty = some d) (hd : (match d with | .struct _ | .array _ _ => true | _ => false) = true) (hi : (P.info? ty).map (·.size) = some cs.size) :
    (results fn tmps).run P w = .ok (.tuple #[.agg cs, tmps.getD u undef, tmps.getD v undef]) w := by
  have hp' : tmps[p]?.getD undef = .pointer (some ⟨g, 0, none⟩) := by simpa using hp
  simp [results, h, hp', asAddr, run_loadVar_row w g t ty cs fr d hg hu hd hi]



def zU : List UInt8 := List.replicate 20 0

def ParsePost (o : Option (List UInt8 × List UInt8)) (w : World) (e : Ending) (w' : World) : Prop :=
  (∀ d n, o = some (d, n) → d.length = 20 ∧ e = .returned (.tuple #[.agg (d.map bv).toArray, .string ⟨n.toArray⟩, .int .i64 0])) ∧
  (o = none → e = .returned (.tuple #[.agg (zU.map bv).toArray, .string ⟨#[]⟩, .int .i64 4])) ∧ Below w.heap.size w w'

theorem dec_20 {l p : List UInt8} (h : dec l = some p) (hl : l.length = 32) : p.length = 20 := by
  have h1 := dec_enc_of _ _ h
  have h2 := enc_length p
  rw [h1, hl] at h2
  unfold slen at h2
  omega

theorem zerosz : (#[.int .u8 0, .int .u8 0, .int .u8 0, .int .u8 0, .int .u8 0, .int .u8 0, .int .u8 0, .int .u8 0, .int .u8 0, .int .u8 0, .int .u8 0, .int .u8 0, .int .u8 0, .int .u8 0, .int .u8 0, .int .u8 0, .int .u8 0, .int .u8 0, .int .u8 0, .int .u8 0] : Array Value) = (zU.map bv).toArray := rfl

theorem cut_parts (t : ByteArray) : ∃ u b, cutP t = .tuple #[.string u, .bool b] ∧ b = dash t.data.toList ∧ (b = true → u.data.toList = t.data.toList.drop 1) := by
  cases hd : dash t.data.toList
  · exact ⟨t, false, by unfold cutP; rw [if_neg (by rw [hd]; decide)], rfl, fun h => by cases h⟩
  · refine ⟨_, true, by unfold cutP; rw [if_pos hd], rfl, fun _ => ?_⟩
    rw [ext_data]
    apply List.take_of_length_le
    simp

/-- A row of the call's own that is full holds just these cells. -/
theorem owns_full {w : World} {base g n : Nat} {l : List UInt8} (h : w.ownsRow base 5 1 (.slice (some ⟨g, 0, none⟩) n n) n (l.map bv)) : base ≤ g ∧ Has w g (l.map bv) 5 := by
  rcases h.2 with ⟨hx, _⟩ | ⟨g', cap, cur, hv, hb, hg, hnc, hcm, hcs, htake⟩
  · cases hx
  · cases hv
    refine ⟨hb, ?_⟩
    have e : cur.toList = l.map bv := by rw [← htake, List.take_of_length_le]; simp; omega
    show w.heap[g]? = some (.cells (l.map bv).toArray _ (0, 0))
    rw [hg, ← e]

theorem zHas (w : World) : Has (w.alloc (.cells #[.int .u8 0, .int .u8 0, .int .u8 0, .int .u8 0, .int .u8 0, .int .u8 0, .int .u8 0, .int .u8 0, .int .u8 0, .int .u8 0, .int .u8 0, .int .u8 0, .int .u8 0, .int .u8 0, .int .u8 0, .int .u8 0, .int .u8 0, .int .u8 0, .int .u8 0, .int .u8 0] 53)) w.heap.size (zU.map bv) 53 := Has.new w (zU.map bv) _

set_option maxRecDepth 100000 in
theorem parse_ret (w wz : World) (g : Nat) (L d : List UInt8) (n : ByteArray) (k : Int) (tmps : Array Value) (hx : Has wz g (L.map bv) 53) (hd : d.length = 20) (hp : tmps.getD 2 undef = .pointer (some ⟨g, 0, none⟩)) (h3 : tmps.getD 3 undef = .string n) (h4 : tmps.getD 4 undef = .int .i64 k) :
    (results Tryz.f31 tmps).run Tryz.prog (wz.setRow g (d.map bv).toArray) = .ok (.tuple #[.agg (d.map bv).toArray, .string n, .int .i64 k]) (wz.setRow g (d.map bv).toArray) := by
  rw [results_cell_tmp2 (fn := Tryz.f31) (p := 2) (u := 3) (v := 4) (ty := 53) Tryz.results31 tmps _ g 53 (d.map bv).toArray (0, 0) _ hp (setRow_heap _ _ _ _ _ _ hx) Tryz.underlying53 rfl (info_u20 d hd), h3, h4]

set_option maxRecDepth 100000 in
set_option maxHeartbeats 4000000 in
theorem parse_short (s : ByteArray) (w : World) (h : s.size < 32) :
    Calls Tryz.prog 31 #[.string s] w fun e w' => ParsePost (parseP s.data.toList) w e w' := by
  have hlen : s.data.toList.length = s.size := by simp
  have hp : parseP s.data.toList = none := by unfold parseP; rw [if_neg]; omega
  have h1 : decide ((s.size : Int) < 32) = true := by simp; omega
  rw [hp]
  clear hlen hp
  have i1 := Lib.hid (info_u20 zU rfl)
  have i2 := Lib.hid (one_bv zU)
  obtain ⟨Z, hZ⟩ : ∃ Z, Z = (zU.map bv).toArray := ⟨_, rfl⟩
  have HZ := Lib.hid hZ
  have hz := zHas w
  have hx0 : (w.alloc (.cells #[.int .u8 0, .int .u8 0, .int .u8 0, .int .u8 0, .int .u8 0, .int .u8 0, .int .u8 0, .int .u8 0, .int .u8 0, .int .u8 0, .int .u8 0, .int .u8 0, .int .u8 0, .int .u8 0, .int .u8 0, .int .u8 0, .int .u8 0, .int .u8 0, .int .u8 0, .int .u8 0] 53)).heap[w.heap.size]? = some (.cells (zU.map bv).toArray 53 (0, 0)) := hz
  have HX := Lib.hid hx0
  clear hZ hz hx0
  go_enter Tryz.func31, Tryz.ntmps31
  go_wp2_with (refine wpList_store_row rfl 53 _ _ rfl w.heap.size (zU.map bv).toArray rfl rfl 53 _ HX.out i1.out rfl i2.out ?_)
  try simp only [Exit.inBlock, Exit.then]
  refine bodyPost_ret (parse_ret w _ w.heap.size zU zU ⟨#[]⟩ 4 _ HX.out rfl rfl rfl rfl) rfl ?_
  exact ⟨(fun d n h => by cases h), (fun _ => rfl), below_setRow ((Below.refl _ _).alloc (Nat.le_refl _) _) (Nat.le_refl _) _⟩

set_option maxRecDepth 100000 in
set_option maxHeartbeats 4000000 in
theorem parse_long (s : ByteArray) (w : World) (h : 32 ≤ s.size) :
    Calls Tryz.prog 31 #[.string s] w fun e w' => ParsePost (parseP s.data.toList) w e w' := by
  have hlen : s.data.toList.length = s.size := by simp
  have h1 : decide ((s.size : Int) < 32) = false := by simp; omega
  have h2 : (32 : Int) ≤ (s.size : Int) := by omega
  have e1 : (s.extract 0 32).data.toList = s.data.toList.take 32 := by rw [ext_data]; simp
  have e2 : (s.extract 32 s.size).data.toList = s.data.toList.drop 32 := by
    rw [ext_data]; apply List.take_of_length_le; simp
  have e3 : (s.extract 0 32).size ≤ 100000 := by simp; omega
  obtain ⟨u, b, hc, hb, hu⟩ := cut_parts (s.extract 32 s.size)
  rw [e2] at hb hu
  rw [List.drop_drop] at hu
  have hpp : parseP s.data.toList = if b = true ∧ isName (s.data.toList.drop 33) = true then (dec (s.data.toList.take 32)).map (·, s.data.toList.drop 33) else none := by
    unfold parseP
    rw [← hb]
    simp only [hlen, h, true_and]
  obtain ⟨O, hO⟩ : ∃ O, O = parseP s.data.toList := ⟨_, rfl⟩
  rw [← hO] at hpp ⊢
  have HL := Lib.hid hlen
  have E1 := Lib.hid e1
  have E3 := Lib.hid e3
  have HC := Lib.hid hc
  have HU := Lib.hid hu
  have HP := Lib.hid hpp
  have i1 := Lib.hid (info_u20 zU rfl)
  have i2 := Lib.hid (one_bv zU)
  clear hlen e1 e2 e3 hc hb hu hpp hO
  go_enter Tryz.func31, Tryz.ntmps31
  go_wp2_with fail
  obtain ⟨w1, hw1⟩ : ∃ w1, w1 = w.alloc (.cells (zU.map bv).toArray 53) := ⟨_, rfl⟩
  rw [show (w.alloc (.cells #[.int .u8 0, .int .u8 0, .int .u8 0, .int .u8 0, .int .u8 0, .int .u8 0, .int .u8 0, .int .u8 0, .int .u8 0, .int .u8 0, .int .u8 0, .int .u8 0, .int .u8 0, .int .u8 0, .int .u8 0, .int .u8 0, .int .u8 0, .int .u8 0, .int .u8 0, .int .u8 0] 53)) = w1 from by rw [hw1]; rfl]
  have x1 : Has w1 w.heap.size (zU.map bv) 53 := by rw [hw1]; exact Has.new w _ _
  have b1 : Below w.heap.size w w1 := by rw [hw1]; exact (Below.refl _ _).alloc (Nat.le_refl _) _
  have s1 : w.heap.size < w1.heap.size := x1.lt
  clear hw1
  refine (decode_any (s.extract 0 32) w1 E3.out).mono ?_
  rintro e w2 ⟨hs2, hn2, b2⟩
  have x2 := x1.below b2 s1
  have b3 : Below w.heap.size w w2 := b1.trans (b2.mono b1.size)
  rw [E1.out] at hs2 hn2
  have X2 := Lib.hid (show w2.heap[w.heap.size]? = some (.cells (zU.map bv).toArray 53 (0, 0)) from x2)
  have B3 := Lib.hid b3
  clear x1 b1 b2 x2 b3 s1
  rcases hd : dec (s.data.toList.take 32) with _ | p
  · obtain rfl := hn2 hd
    have HN : Hid (O = none) := Lib.hid (by rw [HP.out, hd]; split <;> rfl)
    clear hs2 hn2 hd
    go_wp2_with fail
    refine (cut_dash (s.extract 32 s.size) _).mono ?_
    rintro e w3 ⟨rfl, rfl⟩
    rw [HC.out]
    go_wp2_with (refine wpList_store_row rfl 53 _ _ rfl w.heap.size (zU.map bv).toArray rfl rfl 53 _ X2.out i1.out rfl i2.out ?_)
    try simp only [Exit.inBlock, Exit.then]
    refine bodyPost_ret (parse_ret w _ w.heap.size zU zU ⟨#[]⟩ 4 _ X2.out rfl rfl rfl rfl) rfl ?_
    rw [HN.out]
    exact ⟨(fun d n h => by cases h), (fun _ => rfl), below_setRow B3.out (Nat.le_refl _) _⟩
  · obtain ⟨g, rfl, hq⟩ := hs2 p hd
    have hp20 := dec_20 hd (by rw [List.length_take, HL.out]; omega)
    have hown := owns_full hq
    have HD := Lib.hid hd
    have HG := Lib.hid (show w2.heap[g]? = some (.cells (p.map bv).toArray 5 (0, 0)) from hown.2)
    have HP20 := Lib.hid hp20
    rw [hp20]
    clear hs2 hn2 hd hq hown hp20
    cases b
    · have HN : Hid (O = none) := Lib.hid (by rw [HP.out, if_neg]; rintro ⟨h, _⟩; cases h)
      go_wp2_with fail
      refine (cut_dash (s.extract 32 s.size) _).mono ?_
      rintro e w3 ⟨rfl, rfl⟩
      rw [HC.out]
      go_wp2_with (refine wpList_store_row rfl 53 _ _ rfl w.heap.size (zU.map bv).toArray rfl rfl 53 _ X2.out i1.out rfl i2.out ?_)
      try simp only [Exit.inBlock, Exit.then]
      refine bodyPost_ret (parse_ret w _ w.heap.size zU zU ⟨#[]⟩ 4 _ X2.out rfl rfl rfl rfl) rfl ?_
      rw [HN.out]
      exact ⟨(fun d n h => by cases h), (fun _ => rfl), below_setRow B3.out (Nat.le_refl _) _⟩
    · cases hn : isName (s.data.toList.drop 33)
      · have HN : Hid (O = none) := Lib.hid (by rw [HP.out, if_neg]; rintro ⟨_, h⟩; rw [hn] at h; cases h)
        have HI : Hid (isName u.data.toList = false) := Lib.hid (by rw [HU.out rfl]; exact hn)
        clear hn
        go_wp2_with fail
        refine (cut_dash (s.extract 32 s.size) _).mono ?_
        rintro e w3 ⟨rfl, rfl⟩
        rw [HC.out]
        go_wp2_with fail
        refine (name_any u _).mono ?_
        rintro e w3 ⟨rfl, rfl⟩
        rw [HI.out]
        go_wp2_with (refine wpList_store_row rfl 53 _ _ rfl w.heap.size (zU.map bv).toArray rfl rfl 53 _ X2.out i1.out rfl i2.out ?_)
        try simp only [Exit.inBlock, Exit.then]
        refine bodyPost_ret (parse_ret w _ w.heap.size zU zU ⟨#[]⟩ 4 _ X2.out rfl rfl rfl rfl) rfl ?_
        rw [HN.out]
        exact ⟨(fun d n h => by cases h), (fun _ => rfl), below_setRow B3.out (Nat.le_refl _) _⟩
      · have HN : Hid (O = some (p, s.data.toList.drop 33)) := Lib.hid (by rw [HP.out, if_pos ⟨rfl, hn⟩, HD.out]; rfl)
        have HI : Hid (isName u.data.toList = true) := Lib.hid (by rw [HU.out rfl]; exact hn)
        have hun : u = ⟨(s.data.toList.drop 33).toArray⟩ := bytes_ext (by rw [HU.out rfl])
        have HUN := Lib.hid hun
        have i3 := info_u20 p HP20.out
        have i4 := Lib.hid (one_bv p)
        have i5 : (zU.map bv).toArray.size = (p.map bv).toArray.size := by simp [HP20.out, zU]
        obtain ⟨C, hC⟩ : ∃ C, C = (p.map bv).toArray := ⟨_, rfl⟩
        rw [← hC] at i3 i5
        have HCC := Lib.hid hC
        have I3 := Lib.hid i3
        have I5 := Lib.hid i5
        clear hn hun i3 i5 hC
        go_wp2_with fail
        refine (cut_dash (s.extract 32 s.size) _).mono ?_
        rintro e w3 ⟨rfl, rfl⟩
        rw [HC.out]
        go_wp2_with fail
        refine (name_any u _).mono ?_
        rintro e w3 ⟨rfl, rfl⟩
        rw [HI.out]
        have HG' : Hid (w2.heap[g]? = some (.cells C 5 (0, 0))) := Lib.hid (by rw [HCC.out]; exact HG.out)
        have I4 : Hid (C.all (·.oneCell') = true) := Lib.hid (by rw [HCC.out]; exact i4.out)
        have hat : ∀ W, (Instr.arrayAt 53 (.slice (some ⟨g, 0, none⟩) 20 20)).run Tryz.prog W = .ok (.pointer (some ⟨g, 0, none⟩)) W := fun W => by kernel_rfl
        go_wp2_with (first
          | (refine wpList_load_row rfl 53 _ rfl g rfl 5 C (0, 0) _ HG'.out Tryz.underlying53 rfl I3.out ?_)
          | (refine wpList_store_row rfl 53 _ _ rfl w.heap.size C rfl rfl 53 _ X2.out I3.out I5.out I4.out ?_))
        try simp only [Exit.inBlock, Exit.then]
        rw [HCC.out]
        refine bodyPost_ret (parse_ret w _ w.heap.size zU p u 0 _ X2.out HP20.out rfl rfl rfl) rfl ?_
        rw [HN.out]
        refine ⟨(fun d n h => ?_), (fun h => by cases h), below_setRow B3.out (Nat.le_refl _) _⟩
        cases h
        exact ⟨HP20.out, by rw [HUN.out]⟩

theorem parse_any (s : ByteArray) (w : World) :
    Calls Tryz.prog 31 #[.string s] w fun e w' => ParsePost (parseP s.data.toList) w e w' := by
  by_cases h : s.size < 32
  · exact parse_short s w h
  · exact parse_long s w (by omega)

end Go.Proofs.YtokbakpbhpknfaaGreatDoor.Nam

namespace Go.Proofs.YtokbakpbhpknfaaGreatDoor.Nam
open Go.RowKit
set_option linter.unusedVariables false

/-- What Parse tells, in one form. -/
theorem parse_form {o : Option (List UInt8 × List UInt8)} {w w' : World} {e : Ending} (h : ParsePost o w e w') :
    ∃ (D : List UInt8) (n : ByteArray) (k : Int), e = .returned (.tuple #[.agg (D.map bv).toArray, .string n, .int .i64 k]) ∧ D.length = 20 ∧
      ((∃ m, o = some (D, m) ∧ n = ⟨m.toArray⟩ ∧ k = 0) ∨ (o = none ∧ D = zU ∧ n = ⟨#[]⟩ ∧ k = 4)) := by
  obtain ⟨hs, hn, _⟩ := h
  cases o with
  | none => exact ⟨zU, _, _, hn rfl, rfl, .inr ⟨rfl, rfl, rfl, rfl⟩⟩
  | some q =>
    obtain ⟨d, m⟩ := q
    obtain ⟨hd, he⟩ := hs d m rfl
    exact ⟨d, _, _, he, hd, .inl ⟨m, rfl, rfl, rfl⟩⟩

/-- The cells of twenty bytes, ready for a store. -/
structure C20 (C : Array Value) : Prop where
  info : (Tryz.prog.info? 53).map (·.size) = some C.size
  size : C.size = 20
  one : C.all (·.oneCell') = true

theorem c20 (D : List UInt8) (h : D.length = 20) : C20 (D.map bv).toArray := ⟨info_u20 D h, by simp [h], one_bv D⟩

set_option maxRecDepth 100000 in
set_option maxHeartbeats 4000000 in
theorem is_any (s : ByteArray) (w : World) :
    Calls Tryz.prog 43 #[.string s] w fun e w' => e = .returned (.bool (parseP s.data.toList).isSome) ∧ Below w.heap.size w w' := by
  obtain ⟨O, hO⟩ : ∃ O, O = parseP s.data.toList := ⟨_, rfl⟩
  have HO := Lib.hid hO
  rw [← hO]
  clear hO
  go_enter Tryz.func43, Tryz.ntmps43
  go_wp2_with fail
  refine (parse_any s _).mono ?_
  rintro e w1 hq
  have b1 := hq.2.2
  obtain ⟨D, n, k, rfl, hD, hk⟩ := parse_form hq
  rw [← HO.out] at hk
  have hc := c20 D hD
  obtain ⟨C, hC⟩ : ∃ C, C = (D.map bv).toArray := ⟨_, rfl⟩
  rw [← hC] at hc ⊢
  have hkb : (k == 0) = O.isSome := by
    rcases hk with ⟨m, rfl, _, rfl⟩ | ⟨rfl, _, _, rfl⟩ <;> rfl
  obtain ⟨r, hr⟩ : ∃ r, r = O.isSome := ⟨_, rfl⟩
  have HR := Lib.hid hr
  rw [← hr] at hkb
  have I1 := Lib.hid hc.info
  have I2 := Lib.hid hc.size
  have I3 := Lib.hid hc.one
  have B1 := Lib.hid b1
  clear hq hk hC hc b1 hr hD
  go_wp2_with (refine wpList_store_row rfl 53 _ _ rfl w1.heap.size C rfl rfl 53 _ (heap_alloc_new w1 _) I1.out I2.out.symm I3.out ?_)
  go_ret
  exact ⟨by rw [← HR.out]; rfl, below_setRow (B1.out.alloc B1.out.size _) B1.out.size _⟩

end Go.Proofs.YtokbakpbhpknfaaGreatDoor.Nam

namespace Go.Proofs.YtokbakpbhpknfaaGreatDoor.Nam
open Go.RowKit
set_option linter.unusedVariables false

theorem path_list (d : List UInt8) (s : ByteArray) : (pathB d s).data.toList = enc d ++ 45 :: s.data.toList := by
  simp [pathB, ByteArray.data_append]

theorem parse_path (d n : List UInt8) (hd : d.length = 20) (hn : isName n = true) : parseP (enc d ++ 45 :: n) = some (d, n) := by
  have hl : (enc d).length = 32 := by rw [enc_length, hd]; rfl
  have h1 : (enc d ++ 45 :: n).take 32 = enc d := by rw [← hl]; simp
  have h2 : (enc d ++ 45 :: n).drop 32 = 45 :: n := by rw [← hl]; simp
  have h3 : (enc d ++ 45 :: n).drop 33 = n := by
    have : (enc d ++ 45 :: n).drop 33 = ((enc d ++ 45 :: n).drop 32).drop 1 := by rw [List.drop_drop]
    rw [this, h2]; rfl
  unfold parseP
  rw [h1, h2, h3, if_pos ⟨by simp; omega, by simp [dash], hn⟩, dec_enc]
  rfl

theorem enc_zero : enc zU = List.replicate 32 48 := by decide +kernel
theorem path_zero : pathB zU ⟨#[97]⟩ = ⟨#[48, 48, 48, 48, 48, 48, 48, 48, 48, 48, 48, 48, 48, 48, 48, 48, 48, 48, 48, 48, 48, 48, 48, 48, 48, 48, 48, 48, 48, 48, 48, 48, 45, 97]⟩ := by
  apply bytes_ext
  rw [path_list, enc_zero]
  rfl
theorem zero_is : parseP [48, 48, 48, 48, 48, 48, 48, 48, 48, 48, 48, 48, 48, 48, 48, 48, 48, 48, 48, 48, 48, 48, 48, 48, 48, 48, 48, 48, 48, 48, 48, 48, 45, 97] = some (zU, [97]) := by
  have h := parse_path zU [97] rfl (by decide)
  rw [enc_zero] at h
  exact h

/-- The load of a whole row, at an operation whose guard says yes. -/
theorem wpList_load_rowG {P : Program} {ops : Array Oper} {rest : List Oper} {o : Oper} {a : Act} {w : World} {Q : Exit → Act → World → Prop} (hw : Region.wanted o (yielded ops a.tmps) = true) (ty : TypeId) (x : Operand) (ho : o.op = .load ty x)
    (g : Nat) (hx : a.eval x = .pointer (some ⟨g, 0, none⟩)) (t : TypeId) (cs : Array Value) (fr : Nat × Nat) (d : TypeDesc) (hg : w.heap[g]? = some (.cells cs t fr))
    (hu : P.underlying ty = some d) (hd : (match d with | .struct _ | .array _ _ => true | _ => false) = true) (hi : (P.info? ty).map (·.size) = some cs.size)
    (h : wpList P ops Q rest (a.put o.dst (.agg cs)) w) : wpList P ops Q (o :: rest) a w :=
  BigFrame.wpList_want hw fun _ hK => wp_load_row ty x ho g hx t cs fr d hg hu hd hi (hK _ _ h)

end Go.Proofs.YtokbakpbhpknfaaGreatDoor.Nam
