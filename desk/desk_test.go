package desk_test

import (
	"errors"
	"slices"
	"strings"
	"testing"

	"turnkey/api"
	"turnkey/desk"
	"turnkey/key"
)

func says(t *testing.T, d *desk.Desk, line string, want ...string) {
	t.Helper()
	if got, err := d.Line(line); err != nil || !slices.Equal(got, want) {
		t.Errorf("%q: %q, %v, not %q", line, got, err, want)
	}
}

func fails(t *testing.T, d *desk.Desk, line string, want error) {
	t.Helper()
	if got, err := d.Line(line); len(got) != 0 || err != want {
		t.Errorf("%q: %q, %v, not %v", line, got, err, want)
	}
}

// a desk with these lines done.
func after(t *testing.T, lines ...string) *desk.Desk {
	t.Helper()
	d := desk.New()
	for _, l := range lines {
		if _, err := d.Line(l); err != nil {
			t.Fatal(l, err)
		}
	}
	return d
}

// P28.1: at first there is nothing.
func TestNew(t *testing.T) {
	d := desk.New()
	if d.World() != nil {
		t.Error("a world")
	}
	for _, line := range []string{"step 0", "type", "type 1", "fill 0", "end 1", "domain 0", "keys 0", "out", "bank 0"} {
		fails(t, d, line, api.ErrNone)
	}
	for _, line := range []string{"", "    ", "#", "# boot 5", "  #boot 5", "#\xff"} {
		says(t, d, line)
	}
	says(t, d, "boot 10")
	says(t, d, "bank 0", "0 10")
	if w := d.World(); w == nil || w.Nodes.Cap() != 64 || w.Pages.Cap() != 64 || w.Domains.Cap() != 16 || w.Meters.Cap() != 16 || w.Banks.Cap() != 16 || w.Makers.Cap() != 16 {
		t.Error("sizes")
	}
}

// P28.1: no such word, too few, too many words behind it.
func TestErrWord(t *testing.T) {
	for _, d := range []*desk.Desk{desk.New(), after(t, "boot 10")} {
		for _, line := range []string{
			"foo", "Boot 5", "boot\t5", "boot:", "code;halt",
			"program", "program 5", "boot", "boot 5 6", "boot x y", "step", "fill", "fill 1 2", "end", "end 1 2", "domain", "domain 0 1", "keys", "keys 0 1", "out 1", "out x", "bank", "bank 0 0", "bank x y",
		} {
			fails(t, d, line, api.ErrWord)
		}
	}
}

// P28.1: what is no number.
func TestErrNumber(t *testing.T) {
	for _, d := range []*desk.Desk{desk.New(), after(t, "boot 10")} {
		for _, line := range []string{"boot x", "boot 01", "boot -1", "boot +1", "boot 1000000000", "program 1 2", "program 1 x", "program x 0", "program 1 0 x", "step 0 x", "type 1 2 00", "fill x", "end 1x", "domain d", "keys 0,", "bank ?"} {
			fails(t, d, line, api.ErrNumber)
		}
	}
}

// P28.1: programs, their places and their words; and no more of them, once there is a world.
func TestPrograms(t *testing.T) {
	d := desk.New()
	fails(t, d, "code halt", api.ErrNone)
	says(t, d, "program 5 1", "0")
	says(t, d, "  program   999999999  0 0 1 ", "1")
	says(t, d, "code li r1 5 ; # a remark;halt")
	says(t, d, " code  word 7")
	says(t, d, "code ;")
	says(t, d, "code a: ; jmp a")
	says(t, d, "boot 100")
	w := d.World()
	if l := w.Pages.Words(2); !slices.Equal(l[:5], []uint32{1<<24 + 1<<20 + 5, 13 << 24, 7, 4 << 24, 0}) {
		t.Error(l)
	}
	if l := w.Pages.Words(0); l[0] != 0 {
		t.Error(l)
	}
	if w.Meters.Ticks(1) != 5 || w.Meters.Ticks(2) != 999999999 || !slices.Equal(w.Ready.All(), []int{0}) || w.Domains.Used() != 2 {
		t.Error(w.Ready.All())
	}
	says(t, d, "domain 1", "available 0 0 0 0 0 0 0 0 0")
	fails(t, d, "program 1 1", api.ErrState)
	fails(t, d, "code halt", api.ErrState)
	fails(t, d, "boot 10", api.ErrState)
	if d.World() != w {
		t.Error("another world")
	}
	fails(t, after(t, "boot 1"), "code halt", api.ErrNone)
}

// P28.1: where `..` stands there may be none; of step alone one or more are asked for.
func TestNoneBehind(t *testing.T) {
	d := desk.New()
	fails(t, d, "code", api.ErrNone)
	says(t, d, "program 5 1", "0")
	for _, line := range []string{"code", "  code  ", "code ;"} {
		says(t, d, line)
	}
	fails(t, d, "type", api.ErrNone)
	says(t, d, "boot 10")
	if w := d.World(); w.Pages.Words(0)[0] != 0 {
		t.Error("words of no code")
	}
	fails(t, d, "code", api.ErrState)
	says(t, d, "type 4")
	for _, line := range []string{"type", "  type  "} {
		says(t, d, line)
	}
	if w := d.World(); !slices.Equal(w.In, []uint32{4}) {
		t.Error(w.In)
	}
	fails(t, d, "step", api.ErrWord)
}

// P28.1: the errors of asm are around the part's place, and nothing is appended.
func TestCodeErrors(t *testing.T) {
	d := after(t, "program 1 1")
	for _, x := range []struct {
		line string
		pos  int
		want error
	}{{"code halt;foo", 1, api.ErrWord}, {"code li r1 x", 0, api.ErrNumber}, {"code ;;li r9 1", 2, api.ErrRange}, {"code jmp a", 0, api.ErrNone}, {"code a:;a:", 1, api.ErrMany}, {"code code halt", 0, api.ErrWord}} {
		got, err := d.Line(x.line)
		var at *api.At
		if len(got) != 0 || !errors.As(err, &at) || at.Pos != x.pos || at.Err != x.want {
			t.Error(x, got, err)
		}
	}
	says(t, d, "boot 9")
	if d.World().Pages.Words(0)[0] != 0 {
		t.Error(d.World().Pages.Words(0))
	}
}

// P28.1: a world that can't be is none, and may be tried again.
func TestBootErrors(t *testing.T) {
	fails(t, desk.New(), "boot 513", api.ErrRange)
	d := after(t, "program 1 1 1")
	fails(t, d, "boot 3", api.ErrLimit)
	fails(t, d, "boot 100", api.ErrNone)
	if d.World() != nil {
		t.Error("a world")
	}
	says(t, d, "program 1 1", "1")
	says(t, d, "boot 100")
	many := after(t, "program 1 0 0 0 0 0 0 0 0")
	fails(t, many, "boot 100", api.ErrMany)
	long := after(t, "program 1 0", "code "+strings.Repeat("halt;", 33))
	fails(t, long, "boot 100", api.ErrMany)
}

// P28.1: steps told, each kind of them.
func TestStep(t *testing.T) {
	d := after(t, "program 9 1 1", "code li r0 7; inv call k6 k0; yield; halt", "program 9 1", "code inv return k0 k9; jmp 0", "program 1 1", "code yield; yield", "program 9 1", "code word 0", "boot 100")
	says(t, d, "step 0", "0 ran")
	says(t, d, "step 3", "0 waits 1")
	says(t, d, "step 0 0 0 1", "1 invoked bank return 0 0 -1", "2 yielded", "3 faulted 1", "2 faulted 6")
	says(t, d, "step 0", "0 invoked start call 7 0 1")
	says(t, d, "step 999999999", "1 ran")
	says(t, d, "step 0", "1 invoked bank return 7 2 -1")
	says(t, d, "step 0", "-1 idle")
	d = after(t, "program 9 1", "code halt", "boot 100")
	says(t, d, "step 5 5", "0 halted", "-1 idle")
	d = after(t, "program 9 1", "code inv fork k2 k2", "boot 100")
	says(t, d, "step 0", "0 invoked creator fork 0 0 -1")
}

// P28.1: words from without and to it.
func TestTypeOut(t *testing.T) {
	d := after(t, "program 99 1", "code a: ; li r0 0; inv call k4 k0 ; li r0 1 ; inv call k4 k0; jmp a", "boot 100")
	says(t, d, "out")
	says(t, d, "type 5 999999999")
	says(t, d, "type 7")
	if !slices.Equal(d.World().In, []uint32{5, 999999999, 7}) {
		t.Error(d.World().In)
	}
	for range 15 {
		d.Line("step 0")
	}
	says(t, d, "out", "5 999999999 7")
}

// P28.1: ticks, and the end of a bank.
func TestFillEnd(t *testing.T) {
	d := after(t, "program 5 1", "code li r0 2; li r1 8; inv call k0 k9; halt", "boot 100")
	says(t, d, "fill 1")
	says(t, d, "fill 9")
	if d.World().Meters.Ticks(1) != 1005 {
		t.Error(d.World().Meters.Ticks(1))
	}
	d.Line("step 0 0 0")
	says(t, d, "bank 1", "0 8")
	says(t, d, "end 0")
	says(t, d, "end 7")
	says(t, d, "end 1")
	fails(t, d, "bank 1", api.ErrNone)
	says(t, d, "bank 0", "4 100")
}

// P28.1: a domain, and its keys as they are seen.
func TestDomainKeys(t *testing.T) {
	d := after(t, "program 9 1 0 1", "code li r3 9; li r7 4; halt", "program 9 0", "boot 100")
	d.Line("step 0 0")
	says(t, d, "domain 0", "running 2 0 0 0 9 0 0 0 4")
	d.Line("step 0")
	says(t, d, "domain 0", "halted 3 0 0 0 9 0 0 0 4")
	w := d.World()
	x, _ := w.Domains.Get(0)
	x.State, x.Regs[0], x.Keys[12], x.Keys[13] = api.Waiting, 4294967295, key.Num(3), api.Key{Kind: api.Page, ID: 60}
	w.Domains.Put(0, x)
	says(t, d, "domain 0", "waiting 3 4294967295 0 0 9 0 0 0 4")
	says(t, d, "keys 0", "bank 0.0", "meter 1.0", "creator", "judge", "console", "clock", "start 0.0", "start 1.0", "void", "void", "void", "void", "number 3", "void", "void", "void")
	if got, _ := d.Line("keys 1"); len(got) != 16 || got[1] != "meter 2.0" {
		t.Error(got)
	}
	for _, line := range []string{"domain 2", "keys 2", "domain 99", "keys 999999999", "bank 1", "bank 999"} {
		fails(t, d, line, api.ErrNone)
	}
}

// P28.2: all their lines; the first error ends it, and what was done stays.
func TestLines(t *testing.T) {
	d := desk.New()
	got, err := d.Lines("# a desk", "program 9 1", "code yield; halt", "boot 10", "step 0", "step 0 0", "bank 0")
	if err != nil || !slices.Equal(got, []string{"0", "0 yielded", "0 halted", "-1 idle", "4 10"}) {
		t.Error(got, err)
	}
	for _, x := range []struct {
		l    []string
		pos  int
		want error
	}{
		{[]string{"type 1", "", "foo", "type 2"}, 2, api.ErrWord}, {[]string{"bank 0", "bank x"}, 1, api.ErrNumber}, {[]string{"boot 1"}, 0, api.ErrState}, {[]string{"", "bank 5"}, 1, api.ErrNone},
	} {
		got, err := d.Lines(x.l...)
		var at *api.At
		if len(got) != 0 || !errors.As(err, &at) || at.Pos != x.pos || at.Err != x.want {
			t.Error(x, got, err)
		}
	}
	if !slices.Equal(d.World().In, []uint32{1}) {
		t.Error(d.World().In)
	}
	if got, err := d.Lines(); len(got) != 0 || err != nil {
		t.Error(got, err)
	}
	_, err = desk.New().Lines("program 1 1", "code halt; foo")
	var at *api.At
	if !errors.As(err, &at) || at.Pos != 1 || !errors.Is(err, api.ErrWord) {
		t.Error(err)
	}
}
