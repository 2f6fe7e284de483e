package desk

import (
	"strconv"
	"strings"

	"turnkey/api"
	"turnkey/kern"
	"turnkey/key"
	"turnkey/world"
)

var states = [...]string{"free", "available", "waiting", "running", "halted"}

var manners = [...]string{"call", "return", "fork"}

// row is numbers apart by spaces.
func row[N int | uint32](numbers ...N) string {
	words := make([]string, len(numbers))
	for i, n := range numbers {
		words[i] = strconv.FormatInt(int64(n), 10)
	}
	return strings.Join(words, " ")
}

// act is a script's act of one number.
func act(kind int) func(w *world.World, numbers []int) ([]string, error) {
	return func(w *world.World, numbers []int) ([]string, error) {
		w.Do(world.Act{Kind: kind, A: numbers[0]})
		return nil, nil
	}
}

func typed(w *world.World, numbers []int) ([]string, error) {
	var words []uint32
	for _, n := range numbers {
		words = append(words, uint32(n))
	}
	w.Do(world.Act{Kind: world.Type, Words: words})
	return nil, nil
}

func stepLines(w *world.World, numbers []int) ([]string, error) {
	var lines []string
	for _, n := range numbers {
		for _, t := range w.Do(world.Act{Kind: world.Step, A: n}) {
			lines = append(lines, row(t.Who)+" "+traced(t))
		}
	}
	return lines, nil
}

// traced tells what a step was.
func traced(t kern.Trace) string {
	switch t.Kind {
	case kern.Ran:
		return "ran"
	case kern.Invoked:
		return "invoked " + key.Kind(t.Key) + " " + manners[t.How] + " " + row(t.Order, t.Answer) + " " + row(t.To)
	case kern.Yielded:
		return "yielded"
	case kern.Halted:
		return "halted"
	case kern.Faulted:
		return "faulted " + row(t.Fault)
	case kern.Waits:
		return "waits " + row(t.To)
	}
	return "idle"
}

func domainLine(w *world.World, numbers []int) ([]string, error) {
	d, ok := w.Domains.Get(numbers[0])
	if !ok {
		return nil, api.ErrNone
	}
	return []string{states[d.State] + " " + row(d.PC) + " " + row(d.Regs[:]...)}, nil
}

func keyLines(w *world.World, numbers []int) ([]string, error) {
	d, ok := w.Domains.Get(numbers[0])
	if !ok {
		return nil, api.ErrNone
	}
	var lines []string
	for _, k := range d.Keys {
		lines = append(lines, key.Text(w.System.Seen(k)))
	}
	return lines, nil
}

func outLine(w *world.World, _ []int) ([]string, error) {
	if len(w.Out) == 0 {
		return nil, nil
	}
	return []string{row(w.Out...)}, nil
}

func bankLine(w *world.World, numbers []int) ([]string, error) {
	id := numbers[0]
	if !w.Banks.There(id) {
		return nil, api.ErrNone
	}
	return []string{row(w.Banks.Used(id), w.Banks.Limit(id))}, nil
}
