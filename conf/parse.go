package conf

import (
	"slices"
	"strconv"
	"strings"

	"millrace/api"
	"millrace/num"
)

// Parse is the set-up of a line.
func Parse(s string) (api.Conf, api.Errno) {
	if len(s) > api.MaxLine {
		return api.Conf{}, api.ErrLong
	}
	r := reader{rest: words(s)}
	c := r.setup()
	if !r.done() {
		return api.Conf{}, api.ErrWord
	}
	if e := Check(c); e != api.OK {
		return api.Conf{}, e
	}
	return c, api.OK
}

// ParseFlow is the parameters of a line.
func ParseFlow(c api.Conf, s string) (api.Params, api.Errno) {
	if e := Check(c); e != api.OK {
		return api.Params{}, e
	}
	if len(s) > api.MaxLine {
		return api.Params{}, api.ErrLong
	}
	r := reader{rest: words(s)}
	p, rate := r.flow()
	if !r.done() {
		return api.Params{}, api.ErrWord
	}
	var e api.Errno
	if p.Rate, e = exactly(rate); e != api.OK {
		return api.Params{}, e
	}
	if e := CheckFlow(c, p); e != api.OK {
		return api.Params{}, e
	}
	return p, api.OK
}

// exactly is the number whose value a word tells.
func exactly(word string) (float64, api.Errno) {
	x, e := num.Parse(word)
	if e != api.OK {
		return 0, api.ErrWord
	}
	a, ok := num.ToFloat(x)
	if !ok {
		return 0, api.ErrRate
	}
	if value, _ := num.FromFloat(a); value.Cmp(x) != 0 {
		return 0, api.ErrRate
	}
	return a, api.OK
}

// words are what the blanks of s part.
func words(s string) []string {
	var l []string
	from := 0
	for i, r := range s {
		if r != ' ' {
			continue
		}
		if from < i {
			l = append(l, s[from:i])
		}
		from = i + 1
	}
	if from < len(s) {
		l = append(l, s[from:])
	}
	return l
}

// reader takes a line's words one by one, and keeps in mind whether one may not stand where it does.
type reader struct {
	rest  []string
	wrong bool
}

// done is whether all words were taken, and none was wrong.
func (r *reader) done() bool { return !r.wrong && len(r.rest) == 0 }

func (r *reader) setup() api.Conf {
	r.name("kind")
	c := api.Conf{Kind: r.kind()}
	r.arrange(setupNames)
	c.Room, c.Most, c.Cap, c.Flows, c.Age = r.number(), r.number(), r.number(), r.number(), r.number()
	if c.Kind == api.TREE {
		c.Nodes = r.nodes()
	}
	return c
}

// nodes are the root, which no words tell, and all that the rest tells.
func (r *reader) nodes() []api.Node {
	l := []api.Node{{Kind: api.TREE}}
	for len(r.rest) > 0 {
		r.name("node")
		l = append(l, api.Node{Kind: r.kind(), Parent: r.number(), Quantum: r.number(), Age: r.number()})
	}
	return l
}

// flow is a flow's parameters but the rate, and the rate's word.
func (r *reader) flow() (p api.Params, rate string) {
	r.arrange(flowNames)
	p.Weight, p.Quantum, p.Class, p.Span, p.Burst = r.number(), r.number(), r.number(), r.number(), r.number()
	rate = r.word()
	p.Per, p.Node = r.number(), r.number()
	return p, rate
}

// arrange puts into the place of names, each with its value, the values alone, in the order of these names.
func (r *reader) arrange(names string) {
	order := words(names)
	values := make([]string, len(order))
	for range order {
		i := slices.Index(order, r.word())
		if i < 0 || values[i] != "" {
			r.wrong = true
			return
		}
		values[i] = r.word()
	}
	r.rest = append(values, r.rest...)
}

// word is the next word; the empty text, if there is none.
func (r *reader) word() string {
	if len(r.rest) == 0 {
		r.wrong = true
		return ""
	}
	w := r.rest[0]
	r.rest = r.rest[1:]
	return w
}

// name is a word that must stand there.
func (r *reader) name(want string) {
	if r.word() != want {
		r.wrong = true
	}
}

func (r *reader) kind() int {
	w := r.word()
	for kind, name := range kindNames {
		if w == name && w != "" {
			return kind
		}
	}
	r.wrong = true
	return 0
}

func (r *reader) number() int {
	w := r.word()
	n, err := strconv.Atoi(w)
	// Atoi takes a plus and noughts ahead too.
	if bare := strings.TrimPrefix(w, "-"); err != nil || w[0] == '+' || bare[0] == '0' && len(bare) > 1 {
		r.wrong = true
		return 0
	}
	return n
}
