package eval_test

import (
	"testing"

	"staddle/api"
)

func TestP11_1_ToString(t *testing.T) {
	gives(t, "toString 12", `"12"`, 5)
	gives(t, "toString (-12)", `"-12"`, 6)
	gives(t, `toString "a b"`, `"a b"`, 5)
	gives(t, "toString true", `"1"`, 5)
	gives(t, "toString false", `""`, 5)
	gives(t, "toString null", `""`, 5)
	gives(t, "toString []", `""`, 5)
	gives(t, "toString [1]", `"1"`, 7)
	gives(t, `toString [1 "a" true]`, `"1 a 1"`, 11)
	gives(t, `toString [[] 1 [] [2 [null]] false]`, `" 1  2  "`, 21)
	gives(t, `toString {outPath = "p"; a = throw "x";}`, `"p"`, 7)
	gives(t, `toString {outPath = 3;}`, `"3"`, 7)
	gives(t, `toString [{outPath = "p";} {outPath = {outPath = 3;};}]`, `"p 3"`, 15)
	gives(t, `toString (1 + 1)`, `"2"`, 7)
	gives(t, "let l = [(1 + 1)]; in toString (l ++ l)", `"2 2"`, 14)
	// The value is needed, then a step, then the set's text's step, and only then what it has is asked.
	stops(t, "toString {}", 5, api.ErrKind)
	stops(t, "toString (x: x)", 4, api.ErrKind)
	stops(t, "toString map", 4, api.ErrKind)
	stops(t, "toString [1 map]", 8, api.ErrKind)
	stops(t, `toString [map (throw "x")]`, 6, api.ErrKind)
	stops(t, "toString {outPath = true;}", 6, api.ErrKind)
	stops(t, "toString {outPath = [];}", 6, api.ErrKind)
	stops(t, "toString {outPath = x: x;}", 6, api.ErrKind)
	stops(t, `toString (throw "x")`, 5, api.ErrThrow)
	gives(t, "toString", "<fn>", 2)
}

func TestP11_1_Map(t *testing.T) {
	gives(t, "map (x: x + 1) [1 2 3]", "[2 3 4]", 24)
	gives(t, `map (throw "x") []`, "[]", 5)
	gives(t, `length (map (throw "x") [1 2])`, "2", 9)
	gives(t, `length (map 5 [1 2])`, "2", 9)
	gives(t, `length (map (x: x) [(throw "x")])`, "1", 8)
	gives(t, `map (x: 1) [(throw "x")]`, "[1]", 9)
	gives(t, "elemAt (map (x: x) [(throw \"x\") 2]) 1", "2", 14)
	gives(t, "let l = map (x: x + 1) [1]; in [(elemAt l 0) (elemAt l 0)]", "[2 2]", 25)
	gives(t, "map (map (x: x)) [[1] [2 3]]", "[[1] [2 3]]", 26)
	gives(t, "map isList [1 []]", "[false true]", 12)
	gives(t, "map length [[1] []]", "[1 0]", 12)
	gives(t, "map (elemAt [5 6]) [1 0]", "[6 5]", 16)
	gives(t, "map ({a}: a) [{a = 1;}]", "[1]", 11)
	gives(t, "map toString [1]", `["1"]`, 10)
	gives(t, "map attrNames [{a = 1;}]", `[["a"]]`, 10)
	gives(t, "map throw", "<fn>", 3)
	stops(t, "map (x: x) 1", 4, api.ErrKind)
	stops(t, `map (throw "x") 1`, 4, api.ErrKind)
	stops(t, "map (x: x) {}", 4, api.ErrKind)
	stops(t, `map (x: x) "a"`, 4, api.ErrKind)
	stops(t, `map (throw "x") (throw "y")`, 6, api.ErrThrow)
	stops(t, "map 5 [1]", 7, api.ErrKind)
	stops(t, `map (throw "x") [1]`, 9, api.ErrThrow)
	stops(t, "map x [1]", 7, api.ErrName)
	stops(t, "map ({a}: a) [{}]", 8, api.ErrNone)
	stops(t, "map throw [1]", 8, api.ErrKind)
	stops(t, `map throw ["x"]`, 8, api.ErrThrow)
}

func TestP11_1_Lists(t *testing.T) {
	gives(t, "length []", "0", 4)
	gives(t, `length [(throw "x") 1]`, "2", 4)
	gives(t, "elemAt [1 2] 0", "1", 7)
	gives(t, "elemAt [1 2] 1", "2", 7)
	gives(t, `elemAt [(throw "x") 2] 1`, "2", 7)
	gives(t, "let l = [(1 + 1)]; in elemAt l 0 + elemAt l 0", "4", 17)
	gives(t, "isList []", "true", 4)
	gives(t, "isList [1]", "true", 4)
	gives(t, "isList (map 1 [])", "true", 7)
	for _, s := range []string{"1", `"a"`, "true", "null", "{}", "(x: x)", "isList"} {
		gives(t, "isList "+s, "false", 4)
		stops(t, "length "+s, 3, api.ErrKind)
		stops(t, "elemAt "+s+" 0", 4, api.ErrKind)
	}
	for _, s := range []string{`"0"`, "true", "null", "[]", "{}", "(x: x)"} {
		stops(t, "elemAt [1] "+s, 5, api.ErrKind)
	}
	stops(t, `isList (throw "x")`, 5, api.ErrThrow)
	stops(t, "elemAt [] 0", 5, api.ErrNone)
	stops(t, "elemAt [1 2] 2", 5, api.ErrNone)
	stops(t, "elemAt [1 2] (-1)", 6, api.ErrNone)
	stops(t, "elemAt [1 2] 4294967296", 5, api.ErrNone)
	stops(t, "elemAt [1 2] (-9223372036854775807 - 1)", 8, api.ErrNone)
	stops(t, `elemAt [(throw "x")] 0`, 8, api.ErrThrow)
	stops(t, `elemAt [] (throw "x")`, 7, api.ErrThrow)
	stops(t, `elemAt (throw "x") y`, 6, api.ErrThrow)
	gives(t, "elemAt", "<fn>", 2)
	gives(t, "elemAt x", "<fn>", 3)
}

func TestP11_1_AttrNames(t *testing.T) {
	gives(t, "attrNames {}", "[]", 4)
	gives(t, `attrNames {b = throw "x"; a = 1; a-b = 1; B = 1; _ = 1; a' = 2;}`, `["B" "_" "a" "a'" "a-b" "b"]`, 10)
	gives(t, "attrNames ({b = 1;} // {a = 1; b = 2;})", `["a" "b"]`, 8)
	gives(t, `length (attrNames {a = 1; b = 1;})`, "2", 6)
	for _, s := range []string{"1", `"a"`, "true", "null", "[]", "(x: x)"} {
		stops(t, "attrNames "+s, 3, api.ErrKind)
	}
}

func TestP11_1_Throw(t *testing.T) {
	stops(t, `throw "x"`, 3, api.ErrThrow)
	stops(t, `throw ""`, 3, api.ErrThrow)
	stops(t, `throw "${1}"`, 4, api.ErrThrow)
	for _, s := range []string{"1", "true", "null", "[]", "{}", `{outPath = "p";}`, "(x: x)", "throw"} {
		stops(t, "throw "+s, 3, api.ErrKind)
	}
	stops(t, "throw x", 3, api.ErrName)
	gives(t, "throw", "<fn>", 2)
}

func TestP11_1_StorePath(t *testing.T) {
	path := noughts + "-a"
	gives(t, `storePath "`+path+`"`, `"`+path+`"`, 4)
	gives(t, `storePath "${"`+noughts+`"}-a.drv"`, `"`+noughts+`-a.drv"`, 6)
	for _, s := range []string{"", "a", noughts, noughts + "-", noughts + "-.a", noughts[1:] + "-a", "e" + noughts[1:] + "-a", "/staddle/" + path, path + "/f", path + " "} {
		stops(t, `storePath "`+s+`"`, 3, api.ErrText)
	}
	for _, s := range []string{"1", "true", "null", "[]", "{}", `{outPath = "` + path + `";}`, "(x: x)"} {
		stops(t, "storePath "+s, 3, api.ErrKind)
	}
}

// TestP11_1_MoreArguments: what has all its arguments is a function no more, and what lacks some is one.
func TestP11_1_MoreArguments(t *testing.T) {
	gives(t, `let f = elemAt [(throw "x") 5]; in f 1 + f 1`, "10", 13)
	gives(t, "let f = map (x: x); in [(f [1]) (f [2])]", "[[1] [2]]", 22)
	fails(t, "isList [] 1", 99, api.ErrKind)
	fails(t, "toString 1 1", 99, api.ErrKind)
	fails(t, "elemAt [1] 0 0", 99, api.ErrKind)
	fails(t, "map 1 == map 1", 99, api.ErrKind)
	gives(t, "elemAt [length] 0 []", "0", 9)
}
