package manage_test

import (
	"slices"
	"strconv"
	"strings"
	"testing"

	"staddle/api"
	"staddle/manage"
	"staddle/samples"
	"staddle/tree"
)

// pair is a store and its twin, and what a fall has left open.
type pair struct {
	*testing.T
	dice    *samples.Dice
	s       *manage.Store
	w       twin
	pending *step // of the event that was cut the step that may be done
	packs   *[][]byte
	met     map[string]int
}

// any: a path that is valid, now and then another.
func (x *pair) any() string {
	l := x.w.b.List()
	if len(l) == 0 || x.dice.Roll(15) == 0 {
		return []string{"", "x", noPath, noDrv, aDrv, bPath}[x.dice.Roll(6)]
	}
	return l[x.dice.Roll(len(l))]
}

// drv: the path of a derivation, now and then another.
func (x *pair) drv() string {
	l := slices.DeleteFunc(x.w.b.List(), func(path string) bool { return !strings.HasSuffix(path, ".drv") })
	if len(l) == 0 || x.dice.Roll(15) == 0 {
		return x.any()
	}
	return l[x.dice.Roll(len(l))]
}

// recipe: the text of any recipe, without quotes around it.
func (x *pair) recipe(known int) string {
	lines := []string{"write f " + strconv.Itoa(x.dice.Roll(4))}
	for range x.dice.Roll(4) {
		need := "${d" + strconv.Itoa(x.dice.Roll(known+1)) + "}"
		if known == 0 {
			need = "@out@"
		}
		switch x.dice.Roll(9) {
		case 0, 1:
			lines = append(lines, "append f "+need)
		case 2:
			lines = append(lines, "link l "+need+"/f")
		case 3:
			lines = append(lines, "copy "+need+" f g")
		case 4:
			lines = append(lines, "exec f")
		case 5:
			lines = append(lines, "append f @out@")
		case 6, 7:
			lines = append(lines, `copy ${storePath \"`+x.any()+`\"} \"\" h`)
		default:
			lines = append(lines, []string{"fail x", "mkdir f", "foo", "write f"}[x.dice.Roll(4)])
		}
	}
	// What is put in is no part of the text in quotes: there the quotes stand as they are.
	return strings.NewReplacer(`storePath \"`, `storePath "`, `\"} \"\"`, `"} \"\"`).Replace(strings.Join(lines, `\n`))
}

// text: any expression: some derivations, of which each may need those ahead of it.
func (x *pair) text() string {
	if x.dice.Roll(10) == 0 {
		return []string{"1 + 1", "1 + )", "throw \"x\"", "let x = x; in x", "[1 \"a\"]", aText, bText, ""}[x.dice.Roll(8)]
	}
	var b strings.Builder
	b.WriteString("let ")
	n := 1 + x.dice.Roll(3)
	for i := range n {
		b.WriteString("d" + strconv.Itoa(i) + ` = derivation { name = "` + string(rune('a'+x.dice.Roll(3))) + `"; recipe = "` + x.recipe(i) + `";`)
		if x.dice.Roll(8) == 0 {
			b.WriteString(` fixed = "` + samples.Digits(dir("f", file(strconv.Itoa(x.dice.Roll(4))))) + `";`)
		}
		b.WriteString(" }; ")
	}
	b.WriteString("in ")
	if x.dice.Roll(3) == 0 {
		return b.String() + "[ d0 d" + strconv.Itoa(n-1) + ".outPath ]"
	}
	return b.String() + "d" + strconv.Itoa(n-1) + ".outPath"
}

// tree: any tree, now and then none.
func (x *pair) tree() api.Tree {
	switch x.dice.Roll(12) {
	case 0:
		return api.Tree{}
	case 1:
		return file(strings.Repeat("x", 3000*x.dice.Roll(3)))
	case 2:
		return link(x.any() + "/x")
	}
	return x.dice.Tree(2)
}

// pack: what an Export has told, now and then with a byte turned.
func (x *pair) pack() []byte {
	if len(*x.packs) == 0 {
		return nil
	}
	p := slices.Clone((*x.packs)[x.dice.Roll(len(*x.packs))])
	if x.dice.Roll(6) == 0 {
		p[x.dice.Roll(len(p))] ^= 1 << x.dice.Roll(8)
	}
	return p
}

// event: anything but Arm and Crash.
func (x *pair) event() manage.Event {
	name := []string{"p", "q", "p", "q", ""}[x.dice.Roll(5)]
	v := manage.Event{Kind: byte(x.dice.Roll(14)), A: name, N: x.dice.Roll(6) - 1}
	switch v.Kind {
	case manage.Eval, manage.Make:
		v.A, v.N = x.text(), []int{fuel, fuel, fuel, 3, -1}[x.dice.Roll(5)]
	case manage.Build:
		v.A = x.drv()
	case manage.Tree:
		v.A, v.Tree = []string{"t", "u", "."}[x.dice.Roll(3)], x.tree()
	case manage.Set:
		v.B = x.any()
	case manage.Root:
		v.B = []string{"", x.any()}[x.dice.Roll(2)]
	case manage.Collect:
		v.A, v.N = []string{"", "drvs", "outs", "both", "x"}[x.dice.Roll(5)], []int{-1, 0, 1, 300, 2000}[x.dice.Roll(5)]
	case manage.Export:
		v.A = x.any()
	case manage.Import:
		v.Data = x.pack()
	}
	return v
}

// asks asks for something, and holds the reply to the twin's.
func (x *pair) asks(v manage.Event) {
	x.Helper()
	up := x.s.Up()
	steps := x.w.steps(v)
	r := x.s.Do(v)
	what := "kind " + strconv.Itoa(int(v.Kind)) + ": "
	switch {
	case !up:
		is(x.T, "the reply while it isn't up", same(r, manage.Reply{E: api.ErrCrash}), true)
		what += "not up"
	case !x.s.Up():
		k := told(v, r)
		if want := x.w.cut(x.T, v, steps, k); !same(r, want) {
			x.Fatalf("Do(%+v) = %+v, and not %+v", v, r, want)
		}
		x.pending = &steps[k]
		what += "cut"
	default:
		if want := x.w.asked(v); !same(r, want) {
			x.Fatalf("Do(%+v) = %+v, and not %+v", v, r, want)
		}
		what += strconv.Itoa(int(r.E))
		if v.Kind == manage.Export && r.E == api.OK {
			*x.packs = append(*x.packs, r.Data)
		}
	}
	x.met[what]++
}

// arm lets the power go off in an operation that is near.
func (x *pair) arm() {
	n := x.dice.Roll(25)
	does(x.T, x.s, manage.Event{Kind: manage.Arm, N: n}, manage.Reply{})
}

// crash lets the power go off and on, and now and then off in the opening.
func (x *pair) crash() {
	x.Helper()
	fall := x.dice.Fall(1 + x.dice.Roll(30))
	v := manage.Event{Kind: manage.Crash, Keep: fall.Keep, Torn: fall.Torn, Cut: fall.Cut, N: max(0, x.dice.Roll(12)-8)}
	r := x.s.Do(v)
	if v.N == 1 && r.E == api.ErrCrash {
		x.met["opening: cut"]++
		is(x.T, "Up", x.s.Up(), false)
		is(x.T, "DB", x.s.DB(), nil)
		return
	}
	is(x.T, "Crash", same(r, manage.Reply{}), true)
	is(x.T, "Up", x.s.Up(), true)
	if x.pending == nil {
		return
	}
	x.met["opening: not done"]++
	if !tree.Same(x.s.DB().FS().Tree(), x.w.b.FS().Tree()) {
		x.met["opening: not done"]--
		x.met["opening: done"]++
		is(x.T, "the step that was cut", x.pending.do(), api.OK)
	}
	x.pending = nil
}

// TestP22_3_AsTold holds stores to the document at many events: what they answer, and what stands in them, is what the layers below answer by themselves, wherever the power goes off.
func TestP22_3_AsTold(t *testing.T) {
	dice := samples.Dice(29)
	met := map[string]int{}
	var packs [][]byte
	for range 60 {
		sectors := 60 + dice.Roll(200)
		x := &pair{T: t, dice: &dice, s: fresh(t, sectors), w: twinOf(t, sectors), packs: &packs, met: met}
		for range 200 {
			switch k := dice.Roll(30); {
			case k == 0:
				x.arm()
			case k == 1, k < 12 && !x.s.Up():
				x.crash()
			default:
				x.asks(x.event())
			}
			if x.s.DB() != nil {
				x.w.follows(t, x.s)
			}
		}
	}
	for _, what := range []string{
		"kind 0: 0", "kind 0: 4", "kind 0: 11", "kind 0: 1", "kind 0: 12",
		"kind 1: 0", "kind 1: 4", "kind 1: 11", "kind 1: 9", "kind 1: cut", "kind 1: not up",
		"kind 2: 0", "kind 2: 4", "kind 2: 6", "kind 2: 9", "kind 2: 12", "kind 2: cut", "kind 2: not up",
		"kind 3: 0", "kind 3: 3", "kind 3: 4", "kind 3: 15", "kind 3: cut",
		"kind 4: 0", "kind 4: 4", "kind 4: 9", "kind 4: cut", "kind 5: 0", "kind 5: 6", "kind 5: 9", "kind 5: cut",
		"kind 6: 0", "kind 6: 6", "kind 6: 9", "kind 7: 0", "kind 7: 9", "kind 7: 17", "kind 8: 0", "kind 8: 6", "kind 8: cut",
		"kind 9: 0", "kind 9: 6", "kind 9: 9", "kind 9: cut", "kind 10: 0", "kind 10: cut", "kind 11: 0", "kind 11: 4", "kind 11: 6",
		"kind 12: 0", "kind 12: 16", "kind 12: cut", "kind 13: 0", "opening: cut", "opening: done", "opening: not done",
	} {
		if met[what] < 3 {
			t.Errorf("%s was met only %d times", what, met[what])
		}
	}
}
