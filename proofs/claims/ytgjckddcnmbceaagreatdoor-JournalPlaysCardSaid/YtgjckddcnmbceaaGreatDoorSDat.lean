/-
  The device in memory: its own block, two rows of sectors, a row of writes; what stays as it was. No program text but types.
-/
import Derived.Test.YtgjckddcnmbceaaGreatDoorSMath
import Derived.Laws.AppendOwn
import Derived.Deep.AppendLies
import Derived.Deep.MidRow
import Derived.ProofKit
import Derived.OpenShut
namespace Go.Proofs.YtgjckddcnmbceaaGreatDoor
open Go.RowKit
set_option linter.unusedVariables false

/-- All is as it was but for blocks of these types from B on, and new ones. -/
structure Kp (ts : List TypeId) (B : Nat) (w w' : World) : Prop where
  os : w'.os = w.os
  tape : w'.tape = w.tape
  output : w'.output = w.output
  size : w.heap.size ≤ w'.heap.size
  block : ∀ k, k < w.heap.size → (k < B ∨ ∀ cs t fr, w.heap[k]? = some (.cells cs t fr) → t ∉ ts) → w'.heap[k]? = w.heap[k]?

theorem Kp.refl (ts : List TypeId) (B : Nat) (w : World) : Kp ts B w w := ⟨rfl, rfl, rfl, Nat.le_refl _, fun _ _ _ => rfl⟩
theorem Kp.trans {ts : List TypeId} {B : Nat} {x y z : World} (h : Kp ts B x y) (k : Kp ts B y z) : Kp ts B x z :=
  ⟨k.os.trans h.os, k.tape.trans h.tape, k.output.trans h.output, Nat.le_trans h.size k.size, fun i hi ht => by
    have e := h.block i hi ht
    refine (k.block i (Nat.lt_of_lt_of_le hi h.size) ?_).trans e
    rcases ht with ht | ht
    · exact .inl ht
    · exact .inr fun cs t fr hc => ht cs t fr (e.symm.trans hc)⟩
theorem Kp.of_below {ts : List TypeId} {B : Nat} {w w' : World} (h : Below w.heap.size w w') : Kp ts B w w' := ⟨h.os, h.tape, h.output, h.size, fun k hk _ => h.block k hk⟩
theorem Kp.of_but {ts : List TypeId} {B b : Nat} {w w' : World} (h : But w.heap.size b w w') (hb : B ≤ b) {cs : Array Value} {t : TypeId} {fr : Nat × Nat} (hc : w.heap[b]? = some (.cells cs t fr)) (ht : t ∈ ts) : Kp ts B w w' :=
  ⟨h.os, h.tape, h.output, h.size, fun k hk hx => h.block k hk (fun e => by
    subst e
    rcases hx with hx | hx
    · omega
    · exact hx cs t fr hc ht)⟩
theorem Kp.below {ts : List TypeId} {B : Nat} {w w' : World} (h : Kp ts B w w') (hB : B ≤ w.heap.size) : Below B w w' := ⟨h.os, h.tape, h.output, h.size, fun k hk => h.block k (by omega) (.inl hk)⟩
theorem Kp.mono {ts ts' : List TypeId} {B B' : Nat} {w w' : World} (h : Kp ts B w w') (hB : B' ≤ B) (ht : ∀ t, t ∈ ts → t ∈ ts') : Kp ts' B' w w' :=
  ⟨h.os, h.tape, h.output, h.size, fun k hk hx => h.block k hk (by
    rcases hx with hx | hx
    · exact .inl (by omega)
    · exact .inr fun cs t fr hc hm => hx cs t fr hc (ht t hm))⟩
theorem Kp.grown {ts : List TypeId} {B : Nat} {w w' : World} {B' : Nat} {e : TypeId} {size : Nat} {v : Value} {n : Nat} {xs : List Value} (h : w.grownBy w' v.ownBlock) (ho : w.ownsRow B' e size v n xs) (hB : B ≤ B') (ht : e ∈ ts) : Kp ts B w w' :=
  ⟨h.os, h.tape, h.output, h.size, fun k hk hx => h.block k hk (fun ek => by
    rcases ho.2 with ⟨rfl, _⟩ | ⟨g, cap, cur, rfl, hb, hg, _⟩
    · cases ek
    · cases ek
      rcases hx with hx | hx
      · have := hb; simp at hx; omega
      · exact hx _ _ _ hg ht)⟩
theorem Has.kp {ts : List TypeId} {B : Nat} {w w' : World} {b : Nat} {L : List Value} {t : TypeId} (h : Has w b L t) (hk : Kp ts B w w') (ht : t ∉ ts) : Has w' b L t :=
  (hk.block b h.lt (.inr fun cs t' fr hc => by
    have e := hc.symm.trans (show w.heap[b]? = some (.cells L.toArray t (0, 0)) from h)
    simp only [Option.some.injEq, Obj.cells.injEq] at e
    rw [e.2.1]; exact ht)).trans h
theorem ownsRow_kp {ts : List TypeId} {B B' : Nat} {w w' : World} {e : TypeId} {size : Nat} {v : Value} {n : Nat} {xs : List Value} (h : w.ownsRow B' e size v n xs) (hk : Kp ts B w w') (ht : e ∉ ts) : w'.ownsRow B' e size v n xs := by
  refine ⟨h.1, ?_⟩
  rcases h.2 with h0 | ⟨g, cap, cur, hv, hb, hg, h1, h2, h3, h4⟩
  · exact .inl h0
  · refine .inr ⟨g, cap, cur, hv, hb, ?_, h1, h2, h3, h4⟩
    have hlt : g < w.heap.size := (Array.getElem?_eq_some_iff.1 hg).1
    refine (hk.block g hlt (.inr fun cs t' fr hc => ?_)).trans hg
    have e' := hc.symm.trans hg
    simp only [Option.some.injEq, Obj.cells.injEq] at e'
    rw [e'.2.1]; exact ht
theorem ownsRow_but {B B' b : Nat} {w w' : World} {e : TypeId} {size : Nat} {v : Value} {n : Nat} {xs : List Value} (h : w.ownsRow B' e size v n xs) (hk : But B b w w') (hB : w.heap.size ≤ B) (hne : v.ownBlock ≠ some b) : w'.ownsRow B' e size v n xs := by
  refine ⟨h.1, ?_⟩
  rcases h.2 with h0 | ⟨g, cap, cur, hv, hb, hg, h1, h2, h3, h4⟩
  · exact .inl h0
  · refine .inr ⟨g, cap, cur, hv, hb, ?_, h1, h2, h3, h4⟩
    have hlt : g < w.heap.size := (Array.getElem?_eq_some_iff.1 hg).1
    exact (hk.block g (by omega) (fun e => hne (by subst hv; subst e; rfl))).trans hg

/-- The cells of a write; of a row of them. -/
def wcells (x : Wr) : List Value := .int .i64 (x.1 : Int) :: x.2.map bv
def wayV : List Wr → List Value
  | [] => []
  | x :: r => wcells x ++ wayV r
theorem wayV_length {n : Nat} : ∀ {way : List Wr}, Good n way → (wayV way).length = way.length * 257
  | [], _ => rfl
  | x :: r, h => by
    have h0 := (h 0 (by simp)).2
    have hr : Good n r := fun k hk => by have := h (k + 1) (by simpa using hk); simpa using this
    simp only [List.getD_cons_zero] at h0
    simp only [wayV, wcells, List.length_append, List.length_cons, List.length_map, h0, wayV_length hr]
    omega
theorem wayV_snoc (way : List Wr) (x : Wr) : wayV (way ++ [x]) = wayV way ++ wcells x := by
  induction way with
  | nil => simp [wayV]
  | cons y r ih => simp [wayV, ih]
theorem wayV_get {n : Nat} : ∀ {way : List Wr}, Good n way → ∀ k, k < way.length → ∀ j, j < 257 → (wayV way)[k * 257 + j]? = (wcells (way.getD k (0, [])))[j]?
  | [], _, k, hk, _, _ => by simp at hk
  | x :: r, h, k, hk, j, hj => by
    have h0 := (h 0 (by simp)).2
    have hr : Good n r := fun k hk => by have := h (k + 1) (by simpa using hk); simpa using this
    simp only [List.getD_cons_zero] at h0
    have hl : (wcells x).length = 257 := by simp [wcells, h0]
    match k, hk with
    | 0, _ => simp only [wayV, List.getD_cons_zero, Nat.zero_mul, Nat.zero_add]; rw [List.getElem?_append_left (by omega)]
    | k + 1, hk =>
      simp only [wayV, List.getD_cons_succ]
      rw [List.getElem?_append_right (by omega), hl, show (k + 1) * 257 + j - 257 = k * 257 + j by omega]
      exact wayV_get hr k (by simpa using hk) j hj

abbrev tDev : TypeId := 72
abbrev tArr : TypeId := 75
abbrev tWri : TypeId := 77
def devT : List TypeId := [tDev, tArr, tWri]

/-- A device of n sectors. -/
structure Dev (w : World) (B pb bd bl : Nat) (v : Value) (n : Nat) (D L : List UInt8) (way : List Wr) (ops fall : Nat) (off : Bool) : Prop where
  box : Has w pb [.slice (some ⟨bd, 0, none⟩) n n, .slice (some ⟨bl, 0, none⟩) n n, v, .int .u64 (ops : Int), .int .u64 (fall : Int), .bool off] 72
  dur : Has w bd (D.map bv) 75
  lat : Has w bl (L.map bv) 75
  wrs : w.ownsRow B 77 257 v way.length (wayV way)
  dl : D.length = 256 * n
  ll : L.length = 256 * n
  good : Good n way
  pbB : B ≤ pb
  bdB : B ≤ bd
  blB : B ≤ bl
  ne : bd ≠ bl
  room : n ≤ 8192

theorem Dev.kp {w w' : World} {B pb bd bl : Nat} {v : Value} {n : Nat} {D L : List UInt8} {way : List Wr} {ops fall : Nat} {off : Bool} {ts : List TypeId} {B' : Nat} (h : Dev w B pb bd bl v n D L way ops fall off) (hk : Kp ts B' w w')
    (h1 : tDev ∉ ts) (h2 : tArr ∉ ts) (h3 : tWri ∉ ts) : Dev w' B pb bd bl v n D L way ops fall off :=
  ⟨h.box.kp hk h1, h.dur.kp hk h2, h.lat.kp hk h2, ownsRow_kp h.wrs hk h3, h.dl, h.ll, h.good, h.pbB, h.bdB, h.blB, h.ne, h.room⟩
theorem has_type {w : World} {b b' : Nat} {L L' : List Value} {t t' : TypeId} (h : Has w b L t) (h' : Has w b' L' t') (ht : t ≠ t') : b ≠ b' := fun e => by
  subst e
  have := h.symm.trans h'
  simp only [Option.some.injEq, Obj.cells.injEq] at this
  exact ht this.2.1
theorem own_type {w : World} {B b size n : Nat} {L xs : List Value} {t e : TypeId} {v : Value} (h : w.ownsRow B e size v n xs) (h' : Has w b L t) (ht : e ≠ t) : v.ownBlock ≠ some b := fun ek => by
  rcases h.2 with ⟨rfl, _⟩ | ⟨g, cap, cur, rfl, hb, hg, _⟩
  · cases ek
  · cases ek
    have := hg.symm.trans (show w.heap[g]? = some (.cells L.toArray t (0, 0)) from h')
    simp only [Option.some.injEq, Obj.cells.injEq] at this
    exact ht this.2.1
/-- A slice of bytes as the list of its bytes. -/
structure IsB (w : World) (a : Option Addr) (len cap : Nat) (l : List UInt8) : Prop where
  length : l.length = len
  at_ : len = 0 ∨ ∃ b off, a = some ⟨b, off, none⟩ ∧ b < w.heap.size ∧ ∀ i, i < len → w.cell? ⟨b, off + i, none⟩ = some (.int .u8 ((l.getD i 0).toNat : Int))
  nil : a = none → len = 0 ∧ cap = 0
  room : len ≤ cap ∧ cap ≤ maxLen
  most : len ≤ 140737488355328
theorem IsB.later {w w' : World} {a : Option Addr} {len cap : Nat} {l : List UInt8} (h : IsB w a len cap l) (hb : Below w.heap.size w w') : IsB w' a len cap l := by
  refine ⟨h.length, ?_, h.nil, h.room, h.most⟩
  rcases h.at_ with h0 | ⟨b, off, rfl, hlt, hc⟩
  · exact .inl h0
  · exact .inr ⟨b, off, rfl, Nat.lt_of_lt_of_le hlt hb.size, fun i hi => (hb.cell (p := ⟨b, off + i, none⟩) hlt).trans (hc i hi)⟩
theorem map_bv_get (l : List UInt8) (i : Nat) (h : i < l.length) : (l.map bv)[i]? = some (bv (l.getD i 0)) := by
  rw [List.getElem?_map, List.getElem?_eq_getElem h, List.getD_eq_getElem?_getD, List.getElem?_eq_getElem h]; rfl
theorem bv_one (l : List UInt8) : ∀ v ∈ l.map bv, v.oneCell' = true := by
  intro v hv; obtain ⟨x, _, rfl⟩ := List.mem_map.1 hv; rfl

end Go.Proofs.YtgjckddcnmbceaaGreatDoor
