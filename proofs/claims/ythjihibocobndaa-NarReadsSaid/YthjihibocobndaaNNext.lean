/-
  Writing on: what put does, said by what is still to be written. Conditions: the whole is no longer than 10^9 bytes.
-/
import Derived.Test.YthjihibocobndaaNPut
namespace Go.Proofs.Ythjihibocobndaa
open Go.RowKit
set_option linter.unusedVariables false

/-- Behind a call that writes: of the whole F the bytes r are still to be written. -/
def Next (wb : Nat) (w0 : World) (F r : List UInt8) (w : World) (e : Ending) (w' : World) : Prop :=
  e = .returned (.tuple #[]) ∧ ∃ (v : Value) (M : List UInt8), Wr wb w0 M v w' ∧ M ++ r = F ∧ Kp w w'

theorem strsN_nil : strsN [] = [] := rfl
theorem strsN_cons (a : ByteArray) (l : List ByteArray) : strsN (a :: l) = strN a.data.toList ++ strsN l := rfl

theorem put_next (wb : Nat) (w0 : World) (l : List ByteArray) (F M r : List UInt8) (b : Nat) (v : Value) (w : World) (hw : Wr wb w0 M v w) (hr : M ++ (strsN l ++ r) = F) (hF : F.length ≤ 1000000000)
    (hl : Has w b (l.map Value.string) 9) (hll : l.length ≤ 1000) :
    Calls Try.prog 16 #[.pointer (some ⟨wb, 0, none⟩), .slice (some ⟨b, 0, none⟩) l.length l.length] w (Next wb w0 F r w) :=
  (put_any wb w0 l M b v w hw hl (by rw [← hr, ← List.append_assoc, List.length_append] at hF; omega) hll).mono fun e w' h =>
    ⟨h.1, by obtain ⟨v', h'⟩ := h.2.1; exact ⟨v', _, h', by rw [List.append_assoc]; exact hr, h.2.2⟩⟩

theorem put_1 (wb : Nat) (w0 : World) (a : ByteArray) (F M r : List UInt8) (b : Nat) (v : Value) (w : World) (hw : Wr wb w0 M v w) (hr : M ++ (strN a.data.toList ++ r) = F) (hF : F.length ≤ 1000000000)
    (hl : Has w b [.string a] 9) :
    Calls Try.prog 16 #[.pointer (some ⟨wb, 0, none⟩), .slice (some ⟨b, 0, none⟩) 1 1] w (Next wb w0 F r w) :=
  put_next wb w0 [a] F M r b v w hw (by rw [strsN_cons, strsN_nil, List.append_nil]; exact hr) hF hl (by simp)
theorem put_2 (wb : Nat) (w0 : World) (a c : ByteArray) (F M r : List UInt8) (b : Nat) (v : Value) (w : World) (hw : Wr wb w0 M v w) (hr : M ++ (strN a.data.toList ++ (strN c.data.toList ++ r)) = F) (hF : F.length ≤ 1000000000)
    (hl : Has w b [.string a, .string c] 9) :
    Calls Try.prog 16 #[.pointer (some ⟨wb, 0, none⟩), .slice (some ⟨b, 0, none⟩) 2 2] w (Next wb w0 F r w) :=
  put_next wb w0 [a, c] F M r b v w hw (by simp only [strsN_cons, strsN_nil, List.append_nil, List.append_assoc]; exact hr) hF hl (by simp)
theorem put_3 (wb : Nat) (w0 : World) (a c d : ByteArray) (F M r : List UInt8) (b : Nat) (v : Value) (w : World) (hw : Wr wb w0 M v w) (hr : M ++ (strN a.data.toList ++ (strN c.data.toList ++ (strN d.data.toList ++ r))) = F) (hF : F.length ≤ 1000000000)
    (hl : Has w b [.string a, .string c, .string d] 9) :
    Calls Try.prog 16 #[.pointer (some ⟨wb, 0, none⟩), .slice (some ⟨b, 0, none⟩) 3 3] w (Next wb w0 F r w) :=
  put_next wb w0 [a, c, d] F M r b v w hw (by simp only [strsN_cons, strsN_nil, List.append_nil, List.append_assoc]; exact hr) hF hl (by simp)
theorem put_5 (wb : Nat) (w0 : World) (a c d f g : ByteArray) (F M r : List UInt8) (b : Nat) (v : Value) (w : World) (hw : Wr wb w0 M v w)
    (hr : M ++ (strN a.data.toList ++ (strN c.data.toList ++ (strN d.data.toList ++ (strN f.data.toList ++ (strN g.data.toList ++ r))))) = F) (hF : F.length ≤ 1000000000)
    (hl : Has w b [.string a, .string c, .string d, .string f, .string g] 9) :
    Calls Try.prog 16 #[.pointer (some ⟨wb, 0, none⟩), .slice (some ⟨b, 0, none⟩) 5 5] w (Next wb w0 F r w) :=
  put_next wb w0 [a, c, d, f, g] F M r b v w hw (by simp only [strsN_cons, strsN_nil, List.append_nil, List.append_assoc]; exact hr) hF hl (by simp)

theorem node_file (d : List UInt8) (ns : List ByteArray) (ks : List T) (r : List UInt8) : nodeT (.mk 1 false d ns ks) ++ r = strN sOpen ++ (strN sType ++ (strN sRegular ++ (strN sContents ++ (strN d ++ (strN sClose ++ r))))) := by
  rw [nodeT_1]; simp only [Bool.false_eq_true, if_false, List.nil_append, List.append_assoc]
theorem node_exec (d : List UInt8) (ns : List ByteArray) (ks : List T) (r : List UInt8) : nodeT (.mk 1 true d ns ks) ++ r = strN sOpen ++ (strN sType ++ (strN sRegular ++ (strN sExec ++ (strN [] ++ (strN sContents ++ (strN d ++ (strN sClose ++ r))))))) := by
  rw [nodeT_1]; simp only [if_true, List.append_assoc]
theorem node_link (x : Bool) (d : List UInt8) (ns : List ByteArray) (ks : List T) (r : List UInt8) : nodeT (.mk 2 x d ns ks) ++ r = strN sOpen ++ (strN sType ++ (strN sSymlink ++ (strN sTarget ++ (strN d ++ (strN sClose ++ r))))) := by
  rw [nodeT_2]; simp only [List.append_assoc]
theorem node_dir (x : Bool) (d : List UInt8) (ns : List ByteArray) (ks : List T) (r : List UInt8) : nodeT (.mk 3 x d ns ks) ++ r = strN sOpen ++ (strN sType ++ (strN sDirectory ++ (entsT ks ns ++ (strN sClose ++ r)))) := by
  rw [nodeT_3]; simp only [List.append_assoc]

theorem ents_step (ks : List T) (ns : List ByteArray) (i : Nat) (hn : i < ns.length) (hk : i < ks.length) (r : List UInt8) :
    entsT (ks.drop i) (ns.drop i) ++ r = strN sEntry ++ (strN sOpen ++ (strN sName ++ (strN (ns.getD i ⟨#[]⟩).data.toList ++ (strN sNode ++ (nodeT (ks.getD i default) ++ (strN sClose ++ (entsT (ks.drop (i + 1)) (ns.drop (i + 1)) ++ r))))))) := by
  rw [List.drop_eq_getElem_cons hn, List.drop_eq_getElem_cons hk, entsT, List.getD_eq_getElem?_getD, List.getElem?_eq_getElem hn, List.getD_eq_getElem?_getD, List.getElem?_eq_getElem hk]
  simp only [List.append_assoc, Option.getD_some]

end Go.Proofs.Ythjihibocobndaa
