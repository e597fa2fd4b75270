/-
  A digest's signs as a key of a map. Conditions: 32 bytes.
-/
import Derived.Test.YtcmgafehidgkmaaBut
import Derived.Test.YtcmgafehidgkmaaRfMath
import Derived.Test.YtcmgafehidgkmaaRowMore
import Derived.Maps.OwnSet
import Derived.Maps.OwnOps
import Derived.WideKeyArr
namespace Go.Proofs.Ytcmgafehidgkmaa
open Go.RowKit Go.WideMaps
set_option linter.unusedVariables false

theorem arrD : ArrKey Try.prog 63 5 32 := ⟨Try.underlying63, by kernel_rfl, by kernel_rfl, by kernel_rfl⟩
theorem lawD : Go.Maps.Keyed Try.prog 63 := Go.Maps.Keyed.of_law arrD.law
/-- The lits of bytes. -/
def litsD (K : List UInt8) : List Lit := K.map fun x => .int .u8 (x.toNat : Int)
def kl (K : List UInt8) : Lit := .string (keyBytes (litsD K))
theorem bv_wf (x : UInt8) : (Lit.int .u8 (x.toNat : Int)).wf = true := by
  have := x.toNat_lt
  simp only [Lit.wf, Bool.and_eq_true, decide_eq_true_eq]
  exact ⟨by show (0 : Int) ≤ _; omega, by show _ ≤ (255 : Int); omega⟩

theorem lits_one {P : Program} {t : TypeId} (hu : P.underlying t = some (.int .u8)) (d : Nat) (x : UInt8) : P.keyLits (d + 1) t [Nam.bv x] = some [.int .u8 (x.toNat : Int)] := by
  unfold Program.keyLits
  rw [hu]
  simp [Nam.bv, bv_wf]
theorem lits_all {P : Program} {t : TypeId} (hu : P.underlying t = some (.int .u8)) (d : Nat) (K : List UInt8) : ∀ (L : List Nat), (∀ i ∈ L, i < K.length) → L.mapM (fun i => P.keyLits (d + 1) t (((K.map Nam.bv).drop (i * 1)).take 1)) = some (L.map fun i => [.int .u8 ((K.getD i 0).toNat : Int)])
  | [], _ => rfl
  | i :: L, h => by
    have hi := h i (by simp)
    have e : ((K.map Nam.bv).drop (i * 1)).take 1 = [Nam.bv (K.getD i 0)] := by
      rw [Nat.mul_one, ← List.map_drop, ← List.map_take, List.drop_eq_getElem_cons hi, List.take_succ_cons, List.take_zero, List.getD_eq_getElem?_getD, List.getElem?_eq_getElem hi]; rfl
    rw [List.mapM_cons, e, lits_one hu, lits_all hu d K L (fun j hj => h j (by simp [hj]))]
    rfl
theorem flat_one {α β : Type} (f : α → β) : ∀ l : List α, (l.map fun i => [f i]).flatten = l.map f
  | [] => rfl
  | i :: l => by rw [List.map_cons, List.flatten_cons, flat_one f l]; rfl
theorem range_map (K : List UInt8) : ((List.range K.length).map fun i => ([.int .u8 ((K.getD i 0).toNat : Int)] : List Lit)).flatten = litsD K := by
  rw [flat_one]
  unfold litsD
  apply List.ext_getElem (by simp)
  intro i h1 h2
  simp only [List.getElem_map, List.getElem_range]
  rw [List.getD_eq_getElem?_getD, List.getElem?_eq_getElem (by simpa using h1)]; rfl
theorem cells1 : Try.prog.cellsOf 5 = 1 := by kernel_rfl
theorem typesPos : ∃ m, Try.prog.types.size = m + 1 := by
  have h : (0 : Nat) < Try.prog.types.size := of_decide_eq_true (by kernel_rfl)
  exact ⟨Try.prog.types.size - 1, by omega⟩
theorem lits_kl {P : Program} {t : TypeId} (hu : P.underlying t = some (.int .u8)) (d : Nat) (K : List UInt8) (n : Nat) (h : K.length = n) :
    (((List.range n).mapM fun i => P.keyLits (d + 1) t (((K.map Nam.bv).drop (i * 1)).take 1)).map List.flatten).map (fun ls => Lit.string (keyBytes ls)) = some (kl K) := by
  subst h
  rw [lits_all hu d K _ (fun i hi => by simpa using hi), Option.map_some, Option.map_some, range_map, kl]
theorem und_u8 (t : TypeId) (h : t = 5) : Try.prog.underlying t = some (.int .u8) := by subst h; exact Try.underlying5
theorem key_some {K : List UInt8} (h : K.length = 32) : keyOf Try.prog 63 (.agg (K.map Nam.bv).toArray) = some (kl K) := by
  have hkt := arrD.keyType typesPos
  obtain ⟨m, hm⟩ := typesPos
  unfold keyOf
  simp only [Try.underlying63]
  rw [if_pos (by simp [hkt, Value.formed, Try.underlying63, arrD.size, h]), hm]
  unfold Program.keyLits
  simp only [Try.underlying63, Value.cells]
  rw [if_pos (by rw [arrD.size]; simpa using h), cells1]
  refine lits_kl ?_ m K 32 h
  exact und_u8 _ rfl
theorem kl_inj {K K' : List UInt8} (h : K.length = 32) (h' : K'.length = 32) (e : kl K = kl K') : K = K' := by
  have h1 := key_some h
  rw [e] at h1
  have h2 := lawD.inj h1 (key_some h')
  have h3 : K.map Nam.bv = K'.map Nam.bv := congrArg Array.toList (Value.agg.inj h2)
  have hinj : Function.Injective Nam.bv := fun a b h => by
    have h2 : (a.toNat : Int) = (b.toNat : Int) := (Value.int.inj h).2
    exact UInt8.toNat_inj.1 (by omega)
  exact (List.map_inj_right hinj).1 h3
theorem kl_key (K : List UInt8) : WideAt.IsKeyLit (kl K) := by
  unfold kl; simp [WideAt.IsKeyLit]

end Go.Proofs.Ytcmgafehidgkmaa
