package conf_test

import (
	"math/big"
	"regexp"
	"slices"
	"strconv"
	"strings"
	"testing"

	"millrace/api"
	"millrace/num"
)

// noise gives the same words in every run.
type noise uint64

func (n *noise) word() uint64 {
	*n += 0x9e3779b97f4a7c15
	z := uint64(*n)
	z = (z ^ z>>30) * 0xbf58476d1ce4e5b9
	z = (z ^ z>>27) * 0x94d049bb133111eb
	return z ^ z>>31
}

func (n *noise) below(bound int) int { return int(n.word() % uint64(bound)) }

// upTo is a number from least to most, of any size.
func (n *noise) upTo(least, most int) int {
	return min(least+int(n.word()>>2>>n.below(62)), most)
}

// pick is one of a list.
func pick[T any](n *noise, l []T) T { return l[n.below(len(l))] }

// The kinds, and those of leaves.
var (
	leaves = []int{api.WFQ, api.WF2, api.DRR, api.EDF, api.AGE}
	kinds  = append(slices.Clone(leaves), api.TREE)
)

// rule is an error, and whether it applies.
type rule struct {
	applies bool
	e       api.Errno
}

// first is the first error that applies.
func first(l ...rule) api.Errno {
	for _, r := range l {
		if r.applies {
			return r.e
		}
	}
	return api.OK
}

func outside(n, least, most int) bool { return n < least || n > most }

// unless is whether n is other than 0, or, where the field is had, outside its bounds.
func unless(had bool, n, least, most int) bool {
	if had {
		return outside(n, least, most)
	}
	return n != 0
}

// wantCheck is what 9.1 says.
func wantCheck(c api.Conf) api.Errno {
	e := first(
		rule{!slices.Contains(kinds, c.Kind), api.ErrKind},
		rule{outside(c.Most, 1, 65536), api.ErrMost},
		rule{c.Room < c.Most || c.Room > 1<<30, api.ErrRoom},
		rule{outside(c.Cap, 1, 4096), api.ErrWeight},
		rule{outside(c.Flows, 1, 256), api.ErrFlows},
		rule{unless(c.Kind == api.AGE, c.Age, 0, 1<<40), api.ErrClass},
		rule{c.Kind != api.TREE && len(c.Nodes) > 0, api.ErrArg},
	)
	if e == api.OK && c.Kind == api.TREE {
		return wantNodes(c.Nodes)
	}
	return e
}

// wantNodes is what 9.1a says.
func wantNodes(l []api.Node) api.Errno {
	if len(l) == 0 || len(l) > 32 {
		return api.ErrArg
	}
	named := map[int]int{}
	for i, n := range l {
		root := i == 0
		badParent := n.Parent != 0
		if !root {
			badParent = outside(n.Parent, 0, i-1) || l[n.Parent].Kind != api.TREE
			named[n.Parent]++
		}
		e := first(
			rule{!slices.Contains(kinds, n.Kind) || root && n.Kind != api.TREE, api.ErrKind},
			rule{badParent, api.ErrArg},
			rule{unless(!root, n.Quantum, 1, 1<<30), api.ErrQuantum},
			rule{unless(n.Kind == api.AGE, n.Age, 0, 1<<40), api.ErrClass},
		)
		if e != api.OK {
			return e
		}
	}
	for i, n := range l {
		if n.Kind == api.TREE && named[i] == 0 {
			return api.ErrArg
		}
	}
	return api.OK
}

// wantFlow is what 9.2 says.
func wantFlow(c api.Conf, p api.Params) api.Errno {
	if e := wantCheck(c); e != api.OK {
		return e
	}
	kind, badNode := c.Kind, p.Node != 0
	if c.Kind == api.TREE {
		badNode = outside(p.Node, 0, len(c.Nodes)-1) || c.Nodes[p.Node].Kind == api.TREE
		if !badNode {
			kind = c.Nodes[p.Node].Kind
		}
	}
	return first(
		rule{badNode, api.ErrArg},
		rule{outside(p.Weight, 1, c.Cap), api.ErrWeight},
		rule{unless(kind == api.DRR, p.Quantum, 1, 1<<30), api.ErrQuantum},
		rule{unless(kind == api.AGE, p.Class, 0, 15), api.ErrClass},
		rule{unless(kind == api.EDF, p.Span, 0, 1<<40), api.ErrSpan},
		rule{outside(p.Burst, 1, 1<<40), api.ErrBurst},
		rule{p.Rate != p.Rate || p.Rate < 0 || p.Rate > 1<<20 || outside(p.Per, 1, 1<<30), api.ErrRate},
	)
}

// kindWords are the kinds' words.
var kindWords = map[int]string{api.WFQ: "wfq", api.WF2: "wf2", api.DRR: "drr", api.EDF: "edf", api.AGE: "age", api.TREE: "tree"}

// wantPrint is what 9.3 says of a set-up that may be.
func wantPrint(c api.Conf) string {
	s := "kind " + kindWords[c.Kind]
	for _, x := range []struct {
		name string
		n    int
	}{{"room", c.Room}, {"most", c.Most}, {"cap", c.Cap}, {"flows", c.Flows}, {"age", c.Age}} {
		s += " " + x.name + " " + strconv.Itoa(x.n)
	}
	for i, n := range c.Nodes {
		if i > 0 {
			s += " node " + kindWords[n.Kind] + " " + strconv.Itoa(n.Parent) + " " + strconv.Itoa(n.Quantum) + " " + strconv.Itoa(n.Age)
		}
	}
	return s
}

// wantPrintFlow is what 9.3 says of a flow that may be.
func wantPrintFlow(p api.Params) string {
	rate := new(big.Rat).SetFloat64(p.Rate).RatString()
	s := ""
	for _, x := range []struct{ name, value string }{
		{"weight", strconv.Itoa(p.Weight)}, {"quantum", strconv.Itoa(p.Quantum)}, {"class", strconv.Itoa(p.Class)}, {"span", strconv.Itoa(p.Span)},
		{"burst", strconv.Itoa(p.Burst)}, {"rate", rate}, {"per", strconv.Itoa(p.Per)}, {"node", strconv.Itoa(p.Node)},
	} {
		s += " " + x.name + " " + x.value
	}
	return s[1:]
}

const (
	wholeForm = `-?(?:0|[1-9][0-9]*)`
	kindForm  = `(wfq|wf2|drr|edf|age|tree)`
	nodeForm  = ` node ` + kindForm + ` (` + wholeForm + `) (` + wholeForm + `) (` + wholeForm + `)`
)

var (
	setupForm = regexp.MustCompile(`^kind ` + kindForm + `((?: (?:room|most|cap|flows|age) ` + wholeForm + `){5})((?:` + nodeForm + `)*)$`)
	eachNode  = regexp.MustCompile(nodeForm)
	whole     = regexp.MustCompile(`^` + wholeForm + `$`)
)

// squeezed is a line with one blank between two words, and none at its ends.
func squeezed(s string) string {
	var l []string
	for _, w := range strings.Split(s, " ") {
		if w != "" {
			l = append(l, w)
		}
	}
	return strings.Join(l, " ")
}

// valueOf is the int of a word of the form of a number.
func valueOf(w string) (int, bool) {
	x, ok := new(big.Int).SetString(w, 10)
	if !ok || !whole.MatchString(w) || !x.IsInt64() {
		return 0, false
	}
	return int(x.Int64()), true
}

// pairsOf are the words behind names; false, if a name stands there twice.
func pairsOf(s string) (map[string]string, bool) {
	l := strings.Fields(s)
	m := map[string]string{}
	for i := 0; i+1 < len(l); i += 2 {
		if _, ok := m[l[i]]; ok {
			return nil, false
		}
		m[l[i]] = l[i+1]
	}
	return m, len(l)%2 == 0
}

// fill sets each int to the number behind its name; false, if one is none.
func fill(m map[string]string, into map[string]*int) bool {
	for name, to := range into {
		n, ok := valueOf(m[name])
		if !ok {
			return false
		}
		*to = n
	}
	return true
}

// kindOf is the kind of a word, 0 if it is none.
func kindOf(word string) int {
	for k, w := range kindWords {
		if w == word {
			return k
		}
	}
	return 0
}

// wantParse is what 9.4 says of a set-up's line.
func wantParse(s string) (api.Conf, api.Errno) {
	if len(s) > 4096 {
		return api.Conf{}, api.ErrLong
	}
	m := setupForm.FindStringSubmatch(squeezed(s))
	if m == nil || m[1] != "tree" && m[3] != "" {
		return api.Conf{}, api.ErrWord
	}
	c := api.Conf{Kind: kindOf(m[1])}
	pairs, ok := pairsOf(m[2])
	if !ok || !fill(pairs, map[string]*int{"room": &c.Room, "most": &c.Most, "cap": &c.Cap, "flows": &c.Flows, "age": &c.Age}) {
		return api.Conf{}, api.ErrWord
	}
	if c.Kind == api.TREE {
		c.Nodes = []api.Node{{Kind: api.TREE}}
	}
	for _, x := range eachNode.FindAllStringSubmatch(m[3], -1) {
		n := api.Node{Kind: kindOf(x[1])}
		if !fill(map[string]string{"p": x[2], "q": x[3], "a": x[4]}, map[string]*int{"p": &n.Parent, "q": &n.Quantum, "a": &n.Age}) {
			return api.Conf{}, api.ErrWord
		}
		c.Nodes = append(c.Nodes, n)
	}
	if e := wantCheck(c); e != api.OK {
		return api.Conf{}, e
	}
	return c, api.OK
}

// wantParseFlow is what 9.4 says of a flow's line.
func wantParseFlow(c api.Conf, s string) (api.Params, api.Errno) {
	if e := wantCheck(c); e != api.OK {
		return api.Params{}, e
	}
	if len(s) > 4096 {
		return api.Params{}, api.ErrLong
	}
	// A word with another white space in it must not be cut there.
	if strings.ContainsFunc(s, func(r rune) bool { return r < ' ' || r > '~' }) {
		return api.Params{}, api.ErrWord
	}
	pairs, ok := pairsOf(s)
	var p api.Params
	if !ok || len(pairs) != 8 || !fill(pairs, map[string]*int{
		"weight": &p.Weight, "quantum": &p.Quantum, "class": &p.Class, "span": &p.Span, "burst": &p.Burst, "per": &p.Per, "node": &p.Node,
	}) {
		return api.Params{}, api.ErrWord
	}
	if _, e := num.Parse(pairs["rate"]); e != api.OK {
		return api.Params{}, api.ErrWord
	}
	a, exact := fraction(pairs["rate"]).Float64()
	if !exact {
		return api.Params{}, api.ErrRate
	}
	p.Rate = a
	if e := wantFlow(c, p); e != api.OK {
		return api.Params{}, e
	}
	return p, api.OK
}

// fraction is the value of a word that num takes.
func fraction(w string) *big.Rat {
	above, below, ok := strings.Cut(w, "/")
	x, _ := new(big.Rat).SetString(above)
	if ok {
		y, _ := new(big.Rat).SetString(below)
		x.Quo(x, y)
	}
	return x
}

// same is whether two set-ups are the same.
func same(a, b api.Conf) bool {
	return slices.Equal(a.Nodes, b.Nodes) && a.Kind == b.Kind && a.Room == b.Room && a.Most == b.Most && a.Cap == b.Cap && a.Flows == b.Flows && a.Age == b.Age
}

// alike is whether two flows' parameters are the same, to the bit.
func alike(a, b api.Params) bool {
	return a == b && api.Bits(a.Rate) == api.Bits(b.Rate)
}

// tree is a tree that may be, of so many nodes (2 at least).
func (n *noise) tree(size int) []api.Node {
	l := []api.Node{{Kind: api.TREE}}
	inner := []int{0}
	for i := 1; i < size; i++ {
		x := api.Node{Kind: pick(n, leaves), Parent: pick(n, inner), Quantum: n.upTo(1, 1<<30)}
		if bare := childless(l); len(bare) >= size-i {
			x.Parent = bare[0] // as many nodes are left as have no child yet
		} else if size-i > len(bare)+1 && n.below(3) == 0 {
			x.Kind = api.TREE
			inner = append(inner, i)
		}
		if x.Kind == api.AGE {
			x.Age = n.upTo(0, 1<<40)
		}
		l = append(l, x)
	}
	return l
}

// childless are the nodes of the kind TREE without a child.
func childless(l []api.Node) []int {
	var bare []int
	for i := range l {
		if l[i].Kind == api.TREE && !slices.ContainsFunc(l[i+1:], func(x api.Node) bool { return x.Parent == i }) {
			bare = append(bare, i)
		}
	}
	return bare
}

// setup is a set-up that may be.
func (n *noise) setup() api.Conf {
	c := api.Conf{Kind: pick(n, kinds), Most: n.upTo(1, 65536), Cap: n.upTo(1, 4096), Flows: n.upTo(1, 256)}
	c.Room = n.upTo(c.Most, 1<<30)
	if c.Kind == api.AGE {
		c.Age = n.upTo(0, 1<<40)
	}
	if c.Kind == api.TREE {
		c.Nodes = n.tree(2 + n.below(31))
	}
	return c
}

// flow is a flow that may be under c.
func (n *noise) flow(c api.Conf) api.Params {
	p := api.Params{Weight: n.upTo(1, c.Cap), Burst: n.upTo(1, 1<<40), Rate: n.rate(), Per: n.upTo(1, 1<<30)}
	kind := c.Kind
	for kind == api.TREE {
		p.Node = n.below(len(c.Nodes))
		kind = c.Nodes[p.Node].Kind
	}
	switch kind {
	case api.DRR:
		p.Quantum = n.upTo(1, 1<<30)
	case api.AGE:
		p.Class = n.upTo(0, 15)
	case api.EDF:
		p.Span = n.upTo(0, 1<<40)
	}
	return p
}

// rate is a number from 0 to 2^20: any, a small whole one, or a tiny one.
func (n *noise) rate() float64 {
	switch n.below(4) {
	case 0:
		return float64(n.upTo(0, 1<<20))
	case 1:
		return api.Float(n.word() >> 12)
	case 2:
		return float64(n.below(1<<20)) / 64
	}
	return api.Float(n.word() % (api.Bits(1<<20) + 1))
}

// answers holds an answer against the one that is wanted.
func answers(t *testing.T, what any, e, want api.Errno) {
	t.Helper()
	if e != want {
		t.Fatalf("%+v: %v, want %v", what, e, want)
	}
}
