package text

import (
	"strconv"
	"strings"

	"horarium/api"
)

// line is words as a line, with its end.
func line(words ...string) string {
	return strings.Join(words, " ") + "\n"
}

// number is n in digits.
func number[T int | int64 | uint32](n T) string {
	return strconv.FormatInt(int64(n), 10)
}

// part is the line of a partition.
func part(x api.Part) string {
	return line("part", x.Name, number(x.Budget), number(x.Period), flags(x), health(x.Health), procs(x.Procs))
}

// flags is whether x may change the schedule, and stop all.
func flags(x api.Part) string {
	switch {
	case x.Sched && x.Stop:
		return "st"
	case x.Sched:
		return "s"
	case x.Stop:
		return "t"
	}
	return "-"
}

// health is an action for each fault.
func health(actions [5]int) string {
	out := ""
	for _, x := range actions {
		out += number(x)
	}
	return out
}

// procs is one process, or several.
func procs(l []api.Proc) string {
	words := make([]string, len(l))
	for i, x := range l {
		words[i] = number(x.Entry) + ":" + number(x.Prio)
	}
	return strings.Join(words, ",")
}

// channel is the line of a channel between two of names.
func channel(x api.Chan, names []string) string {
	kind := "s"
	if x.Queue {
		kind = "q" + number(x.Cap)
	}
	return line("chan", names[x.From], names[x.To], kind, number(x.Max), number(x.Late))
}

// table is the table l, whose partitions have names.
func table(l []api.Node, names []string) string {
	s, _ := spelt(l, 0, names)
	return s
}

// spelt is the node at place at of l with all below it, and the place behind it.
func spelt(l []api.Node, at int, names []string) (string, int) {
	n := l[at]
	at++
	switch n.Kind {
	case api.Window:
		return "w" + names[n.Part] + ":" + number(n.N), at
	case api.Idle:
		return "i" + number(n.N), at
	case api.Repeat:
		kid, behind := spelt(l, at, names)
		return "r" + number(n.N) + "(" + kid + ")", behind
	}
	kids := make([]string, n.N)
	for i := range kids {
		kids[i], at = spelt(l, at, names)
	}
	return "s(" + strings.Join(kids, ",") + ")", at
}
