/-
  The parser as a function of tokens: what it tells of names, numbers, brackets, what is taken of a thing, calls and signs (of all else it tells nothing). No program text.
-/
import Derived.Test.YtnajafnbickiiaaDoorLMath
namespace Go.Proofs.YtnajafnbickiiaaDoor
open Go.RowKit
set_option linter.unusedVariables false

/-- An expression: its kind, number, text, parts, place (names, else's and openness are empty here). -/
inductive Ex where
  | mk (kind : Nat) (num : Nat) (text : List UInt8) (kids : List Ex) (at_ : Nat)
deriving Inhabited
def Ex.kind : Ex → Nat | .mk k _ _ _ _ => k
def Ex.num : Ex → Nat | .mk _ n _ _ _ => n
def Ex.text : Ex → List UInt8 | .mk _ _ t _ _ => t
def Ex.kids : Ex → List Ex | .mk _ _ _ k _ => k
def Ex.at_ : Ex → Nat | .mk _ _ _ _ a => a

/-- Is the i-th token this sign or word? A name? -/
def stT (ts : List Tk) (i : Nat) (g : List UInt8) : Bool := match ts[i]? with
  | some t => t.text == g && (t.kind == 4 || t.kind == 2)
  | none => false
def nmT (ts : List Tk) (i : Nat) : Bool := match ts[i]? with
  | some t => t.kind == 1
  | none => false
/-- Can the first token begin a thing? -/
def thingT (ts : List Tk) : Bool := match ts with
  | t :: _ => t.kind == 3 || t.kind == 1 || t.kind == 5 || stT ts 0 [40] || stT ts 0 [91] || stT ts 0 [123] || stT ts 0 [114, 101, 99]
  | [] => false
/-- The signs between operands: how strongly each holds, and whether from the right. -/
def signsP : List (List UInt8 × Nat × Bool) := [([124, 124], 1, false), ([38, 38], 2, false), ([61, 61], 3, false), ([33, 61], 3, false), ([60], 4, false), ([47, 47], 5, true), ([43], 6, false), ([45], 6, false), ([42], 7, false), ([43, 43], 8, true)]
def signT (ts : List Tk) : Option (List UInt8 × Nat × Bool) := signsP.find? fun g => stT ts 0 g.1
def atT (ts : List Tk) : Nat := match ts with
  | t :: _ => t.at_
  | [] => 0

/-- What is read: an expr; op; op's loop; a sign's right side; pre; its loop; sel; its loop; a thing. -/
inductive Nt where
  | expr | op (s : Nat) | ops (s : Nat) (x : Ex) | right (g : List UInt8 × Nat × Bool) | pre | calls (x : Ex) | sel | sels (x : Ex) | thing
/-- Nothing is told; a fault and its place; an expression and what is behind it. -/
inductive PR where
  | out | bad (place : Nat) (e : Nat) | ok (x : Ex) (rest : List Tk)

def pg : Nat → Nt → Nat → List Tk → PR
  | 0, _, _, _ => .out
  | n + 1, .expr, d, ts =>
    if d = 60 then .bad (atT ts) 5
    else if nmT ts 0 && stT ts 1 [58] then .out
    else if stT ts 0 [123] then .out
    else if stT ts 0 [108, 101, 116] || stT ts 0 [105, 102] || stT ts 0 [119, 105, 116, 104] || stT ts 0 [97, 115, 115, 101, 114, 116] then .out
    else pg n (.op 1) (d + 1) ts
  | n + 1, .op s, d, ts => match pg n .pre d ts with
    | .ok x r => pg n (.ops s x) d r
    | o => o
  | n + 1, .ops s x, d, ts => match signT ts with
    | some g => if s ≤ g.2.1 then (match pg n (.right g) d ts.tail with
        | .ok y r => pg n (.ops s (.mk 15 0 g.1 [x, y] (atT ts))) d r
        | o => o) else .ok x ts
    | none => .ok x ts
  | n + 1, .right g, d, ts => if d = 60 then .bad (atT ts) 5 else pg n (.op (if g.2.2 = true then g.2.1 else g.2.1 + 1)) (d + 1) ts
  | n + 1, .pre, d, ts => if stT ts 0 [33] || stT ts 0 [45] then .out else match pg n .sel d ts with
    | .ok x r => pg n (.calls x) d r
    | o => o
  | n + 1, .calls x, d, ts => if thingT ts then (match pg n .sel d ts with
      | .ok y r => pg n (.calls (.mk 8 0 [] [x, y] (atT ts))) d r
      | o => o) else .ok x ts
  | n + 1, .sel, d, ts => match pg n .thing d ts with
    | .ok x r => pg n (.sels x) d r
    | o => o
  | n + 1, .sels x, d, ts => if stT ts 0 [46] then (match ts.tail with
      | t :: r => if t.kind = 1 then (if stT r 0 [111, 114] then (match pg n .thing d r.tail with
            | .ok y r' => pg n (.sels (.mk 7 0 t.text [x, y] (atT ts))) d r'
            | o => o) else pg n (.sels (.mk 7 0 t.text [x] (atT ts))) d r)
          else .bad t.at_ 4
      | [] => .out) else .ok x ts
  | n + 1, .thing, d, ts => if d = 60 then .bad (atT ts) 5 else if thingT ts = false then .bad (atT ts) 4 else match ts with
    | t :: r => if t.kind = 3 then .ok (.mk 1 (decV t.text) [] [] t.at_) r
        else if t.kind = 1 then .ok (.mk 3 0 t.text [] t.at_) r
        else if t.kind = 5 then .out
        else if t.kind = 4 ∧ t.text = [40] then (match pg n .expr (d + 1) r with
            | .ok x r' => if stT r' 0 [41] then .ok x r'.tail else .bad (atT r') 4
            | o => o)
        else .out
    | [] => .out
end Go.Proofs.YtnajafnbickiiaaDoor
