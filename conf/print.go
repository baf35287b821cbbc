package conf

import (
	"strconv"
	"strings"

	"millrace/api"
	"millrace/num"
)

// The words that stand ahead of a number, in the order in which they are printed.
const (
	setupNames = "room most cap flows age"
	flowNames  = "weight quantum class span burst rate per node"
)

// kindNames are the kinds' words, each at its kind's place.
var kindNames = [...]string{api.WFQ: "wfq", api.WF2: "wf2", api.DRR: "drr", api.EDF: "edf", api.AGE: "age", api.TREE: "tree"}

// Print is a set-up as a line.
func Print(c api.Conf) (string, api.Errno) {
	if e := Check(c); e != api.OK {
		return "", e
	}
	l := []string{"kind", kindNames[c.Kind]}
	l = append(l, named(setupNames, digits(c.Room, c.Most, c.Cap, c.Flows, c.Age))...)
	if c.Kind == api.TREE {
		for _, n := range c.Nodes[1:] {
			l = append(l, "node", kindNames[n.Kind])
			l = append(l, digits(n.Parent, n.Quantum, n.Age)...)
		}
	}
	return strings.Join(l, " "), api.OK
}

// PrintFlow is a flow's parameters as a line.
func PrintFlow(c api.Conf, p api.Params) (string, api.Errno) {
	if e := CheckFlow(c, p); e != api.OK {
		return "", e
	}
	rate, _ := num.FromFloat(p.Rate)
	values := digits(p.Weight, p.Quantum, p.Class, p.Span, p.Burst)
	values = append(values, num.Format(rate))
	values = append(values, digits(p.Per, p.Node)...)
	return strings.Join(named(flowNames, values), " "), api.OK
}

// digits are numbers as words.
func digits(numbers ...int) []string {
	var l []string
	for _, n := range numbers {
		l = append(l, strconv.Itoa(n))
	}
	return l
}

// named are the values, each behind its name.
func named(names string, values []string) []string {
	var l []string
	for i, name := range words(names) {
		l = append(l, name, values[i])
	}
	return l
}
