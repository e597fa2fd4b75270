/-
  A text as a derivation: the contract of the program's Read. Condition: it has at most 10^6 bytes.
-/
import Derived.Test.YtokbakpbhpknfaaDvTextP
namespace Go.Proofs.Ytokbakpbhpknfaa
open Go.RowKit
set_option linter.unusedVariables false

def dzD : Dv := ⟨[], [], [], [], []⟩
def formDv (D : Dv) : Bool := formB (bs D.name) (D.drvs.map bs) (D.srcs.map bs) (bs D.recipe) (bs D.fixed)
/-- What Read tells of a text: a derivation and a number. -/
def readD (R : List UInt8) : Dv × Int :=
  match dwhole R with
  | some (D, []) => if formDv D = true ∧ dtext D D.drvs = R then (D, 0) else (dzD, 3)
  | _ => (dzD, 4)
theorem readD_bad {R : List UInt8} (h : ∀ d, dwhole R ≠ some (d, [])) : readD R = (dzD, 4) := by
  unfold readD
  split
  · rename_i D he; exact absurd he (h D)
  · rfl
theorem readD_some {R : List UInt8} {D : Dv} (h : dwhole R = some (D, [])) : readD R = if formDv D = true ∧ dtext D D.drvs = R then (D, 0) else (dzD, 3) := by unfold readD; rw [h]

/-- A value that reads as a derivation. -/
def IsDv (w : World) (v : Value) (D : Dv) : Prop := ∃ (a1 : Option Addr) (n1 c1 : Nat) (a2 : Option Addr) (n2 c2 : Nat), v = .agg #[.string (bs D.name), .slice a1 n1 c1, .slice a2 n2 c2, .string (bs D.recipe), .string (bs D.fixed)] ∧ IsS w a1 n1 c1 (D.drvs.map bs) ∧ IsS w a2 n2 c2 (D.srcs.map bs)
theorem isS_nil (w : World) : IsS w none 0 0 [] := ⟨rfl, .inl rfl, fun _ => ⟨rfl, rfl⟩, ⟨Nat.le_refl _, Nat.zero_le _⟩⟩
theorem isDv_zero (w : World) : IsDv w (.agg #[.string ⟨#[]⟩, .slice none 0 0, .slice none 0 0, .string ⟨#[]⟩, .string ⟨#[]⟩]) dzD := ⟨_, _, _, _, _, _, rfl, isS_nil w, isS_nil w⟩
theorem isDv_later {w w' : World} {v : Value} {D : Dv} (h : IsDv w v D) (hb : Below w.heap.size w w') : IsDv w' v D := by
  obtain ⟨a1, n1, c1, a2, n2, c2, h1, h2, h3⟩ := h
  exact ⟨a1, n1, c1, a2, n2, c2, h1, h2.later hb, h3.later hb⟩
theorem bs_data (l : List UInt8) : (bs l).data.toList = l := rfl
theorem lsts_map (l : List (List UInt8)) : lsts (l.map bs) = l := by
  unfold lsts; rw [List.map_map]
  exact List.map_id l
theorem dtextB_dv (D : Dv) : dtextB (bs D.name) (D.drvs.map bs) (D.srcs.map bs) (bs D.recipe) (bs D.fixed) = dtext D D.drvs := by
  unfold dtextB; rw [lsts_map, lsts_map]; rfl
theorem map_take33 (l : List (List UInt8)) : (l.take 33).map bs = (l.map bs).take 33 := by rw [List.map_take]
theorem formB_take (s0 s3 s4 : ByteArray) (l1 l2 : List (List UInt8)) : formB s0 ((l1.take 33).map bs) ((l2.take 33).map bs) s3 s4 = formB s0 (l1.map bs) (l2.map bs) s3 s4 := by
  unfold formB; rw [map_take33, map_take33, needT_take, needT_take]
theorem take33_all {s0 s3 s4 : ByteArray} {l1 l2 : List (List UInt8)} (h : formB s0 (l1.map bs) (l2.map bs) s3 s4 = true) : l1.take 33 = l1 ∧ l2.take 33 = l2 := by
  have hz := formB_good h
  have h1 := hz.n1
  have h2 := hz.n2
  rw [List.length_map] at h1 h2
  exact ⟨List.take_of_length_le (by omega), List.take_of_length_le (by omega)⟩
theorem at_ret {fn : Func} {P : Program} {p u : Tmp} {ty : TypeId} (h : fn.results = #[.cell p ty, .tmp u]) (tmps : Array Value) (w : World) (g : Nat) (t : TypeId) (cs : Array Value) (fr : Nat × Nat) (d : TypeDesc)
    (hp : tmps.getD p undef = .pointer (some ⟨g, 0, none⟩)) (hg : w.heap[g]? = some (.cells cs t fr))
    (hu : P.underlying ty = some d) (hd : (match d with | .struct _ | .array _ _ => true | _ => false) = true) (hi : (P.info? ty).map (·.size) = some cs.size) :
    (results fn tmps).run P w = .ok (.tuple #[.agg cs, tmps.getD u undef]) w := by
  have hp' : tmps[p]?.getD undef = .pointer (some ⟨g, 0, none⟩) := by simpa using hp
  simp [results, h, hp', asAddr, run_loadVar_row w g t ty cs fr d hg hu hd hi]
/-- The noughts of a derivation. -/
def dzL : List Value := [.string ⟨#[]⟩, .slice none 0 0, .slice none 0 0, .string ⟨#[]⟩, .string ⟨#[]⟩]
theorem info_dL (s0 s3 s4 : ByteArray) (a1 a2 : Option Addr) (k1 c1 k2 c2 : Nat) : (Try.prog.info? 24).map (·.size) = some ([.string s0, .slice a1 k1 c1, .slice a2 k2 c2, .string s3, .string s4] : List Value).toArray.size := by rw [info_drv]; rfl

/-- What Read has told. -/
def ReadP (R : List UInt8) (w : World) (e : Ending) (w' : World) : Prop := ∃ v, e = .returned (.tuple #[v, .int .i64 (readD R).2]) ∧ IsDv w' v (readD R).1 ∧ Below w.heap.size w w'
end Go.Proofs.Ytokbakpbhpknfaa
