package eval

import (
	"math"

	"staddle/api"
)

// machine evaluates one expression. Where that is nothing, it gives up: it throws a fault, which whole catches.
type machine struct {
	fuel  int             // how many steps there may be
	steps int             // how many there were
	waits int             // how many evaluations, likes, toStrings and showings wait for one another
	made  map[string]Made // by their paths
	shown []byte          // what is told by now of what the expression is
}

// fault is why an expression is nothing.
type fault struct {
	e api.Errno
}

// must gives up if something isn't so.
func must(ok bool, e api.Errno) {
	if !ok {
		panic(fault{e})
	}
}

// whole: what an expression is around which nothing stands but what is around all.
func (m *machine) whole(x api.Expr) (r Result, e api.Errno) {
	defer func() {
		thrown := recover()
		if thrown == nil {
			return
		}
		// What no parser answers may lack parts, and that may not get out, either.
		r, e = Result{}, api.ErrForm
		if f, ok := thrown.(fault); ok {
			e = f.e
		}
	}()
	m.show(&part{x: &x, env: around()})
	r = Result{Text: string(m.shown), Steps: m.steps}
	for _, path := range namesOf(m.made) {
		r.Made = append(r.Made, m.made[path])
	}
	return r, api.OK
}

// step counts a step.
func (m *machine) step() {
	m.steps++
	must(m.steps <= m.fuel, api.ErrFuel)
}

// enter counts a step, and one more that waits.
func (m *machine) enter() {
	m.step()
	m.waits++
	must(m.waits <= api.MaxCalls, api.ErrDeep)
}

// leave counts one less that waits.
func (m *machine) leave() {
	m.waits--
}

// need: what a part is.
func (m *machine) need(p *part) *value {
	if p.found != nil {
		return p.found
	}
	job := *p
	*p = part{}
	switch {
	case job.x != nil:
		p.found = m.eval(job.x, job.env)
	case job.f != nil:
		p.found = m.apply(m.need(job.f), job.of)
	default:
		panic(fault{api.ErrLoop})
	}
	return p.found
}

// eval evaluates an expression.
func (m *machine) eval(x *api.Expr, env *scope) *value {
	m.enter()
	v := m.evaluated(x, env)
	m.leave()
	return v
}

// evaluated: what an expression is.
func (m *machine) evaluated(x *api.Expr, env *scope) *value {
	switch x.Kind {
	case api.ENum:
		return number(x.N)
	case api.EStr:
		return m.str(x, env)
	case api.EName:
		return m.need(m.meaning(x.Text, env))
	case api.EList:
		return listOf(later(x.Kids, env))
	case api.ESet:
		return setOf(bound(x, env, env))
	case api.ERec:
		return setOf(recursive(x, env).names)
	case api.ESel:
		return m.sel(x, env)
	case api.ECall:
		return m.apply(m.eval(&x.Kids[0], env), &part{x: &x.Kids[1], env: env})
	case api.EFn, api.EPat:
		return functionOf(function{x: x, env: env})
	case api.ELet:
		return m.eval(&x.Kids[len(x.Names)], recursive(x, env))
	case api.EIf:
		if m.isTrue(&x.Kids[0], env) {
			return m.eval(&x.Kids[1], env)
		}
		return m.eval(&x.Kids[2], env)
	case api.EWith:
		return m.eval(&x.Kids[1], &scope{outer: env, with: &part{x: &x.Kids[0], env: env}})
	case api.EAssert:
		must(m.isTrue(&x.Kids[0], env), api.ErrThrow)
		return m.eval(&x.Kids[1], env)
	case api.EOp:
		return m.op(x, env)
	case api.ENot:
		return truth(!m.isTrue(&x.Kids[0], env))
	case api.ENeg:
		return negative(m.eval(&x.Kids[0], env))
	}
	panic(fault{api.ErrForm})
}

// isTrue evaluates an expression that must be true or false.
func (m *machine) isTrue(x *api.Expr, env *scope) bool {
	v := m.eval(x, env)
	must(v.kind == aTruth, api.ErrKind)
	return v.is
}

// negative: a number's negative.
func negative(v *value) *value {
	must(v.kind == aNumber, api.ErrKind)
	must(v.n != math.MinInt64, api.ErrRange)
	return number(-v.n)
}

// str evaluates a string.
func (m *machine) str(x *api.Expr, env *scope) *value {
	if len(x.Kids) == 0 {
		return textOf(x.Text, nil)
	}
	j := joint{}
	for i := range x.Kids {
		j.add(m.put(m.eval(&x.Kids[i], env)))
	}
	return j.text()
}

// sel evaluates what is taken of a set.
func (m *machine) sel(x *api.Expr, env *scope) *value {
	v := m.eval(&x.Kids[0], env)
	must(v.kind == aSet, api.ErrKind)
	if p, ok := v.set[x.Text]; ok {
		return m.need(p)
	}
	must(len(x.Kids) > 1, api.ErrNone)
	return m.eval(&x.Kids[1], env)
}

// meaning: what a name means. A with counts only where no expression binds the name.
func (m *machine) meaning(name string, env *scope) *part {
	for s := env; s != nil; s = s.outer {
		if p, ok := s.names[name]; ok {
			return p
		}
	}
	for s := env; s != nil; s = s.outer {
		if s.with == nil {
			continue
		}
		v := m.need(s.with)
		must(v.kind == aSet, api.ErrKind)
		if p, ok := v.set[name]; ok {
			return p
		}
	}
	panic(fault{api.ErrName})
}

// bound: what the names of an expression are, those of inherit without brackets by what names mean around it, the others by what they mean in it.
func bound(x *api.Expr, inner, outer *scope) map[string]*part {
	names := make(map[string]*part, len(x.Names))
	block := later(x.Kids[:len(x.Names)], inner)
	for i, name := range x.Names {
		if x.Has[i] {
			block[i].env = outer
		}
		names[name] = block[i]
	}
	return names
}

// recursive: what names mean in an expression whose names are seen by what they are.
func recursive(x *api.Expr, outer *scope) *scope {
	inner := &scope{outer: outer}
	inner.names = bound(x, inner, outer)
	return inner
}
