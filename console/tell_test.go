package console_test

import (
	"errors"
	"io/fs"
	"math"
	"strconv"
	"strings"
	"testing"

	"tendril/api"
	"tendril/console"
)

// wrapper is an error that wraps another one.
type wrapper struct {
	inner error
	spare []int // so that two of them can't be compared
}

func (w wrapper) Error() string { return "wrapped" }
func (w wrapper) Unwrap() error { return w.inner }

// wild is an error that panics where it is asked anything.
type wild struct{}

func (w wild) Error() string   { panic("asked for its text") }
func (w wild) Unwrap() error   { panic("asked for what it wraps") }
func (w wild) Is(error) bool   { panic("asked what it is") }
func (w wild) As(any) bool     { panic("asked as what it is seen") }
func (w wild) String() string  { panic("asked for its string") }
func (w *wild) GoString() bool { panic("asked for more") }

// boastful says that it is what it is asked for, and hands out nothing.
type boastful struct{}

func (b boastful) Error() string { return "boastful" }
func (b boastful) As(any) bool   { return true }

func wantTold(t *testing.T, err error, want string) {
	t.Helper()
	for range 2 {
		if got := console.Tell(err); got != want {
			t.Fatalf("%s, want %s", short(got), short(want))
		}
	}
}

// P20.1: Tell of nil, of a nil fault, and of errors that are no faults and wrap none.
func TestTellNoFault(t *testing.T) {
	wantTold(t, nil, "ok")
	var none *api.Fault
	var noPath *fs.PathError
	for _, err := range []error{
		none, errors.New("x"), errors.New(""), api.ErrFuel, api.ErrNil, api.Errno(0), api.Errno(-1), wrapper{}, wrapper{inner: errors.New("x")}, wrapper{inner: api.ErrNext}, wrapper{inner: wrapper{inner: wrapper{}}}, &wrapper{},
		errors.Join(errors.New("x"), api.ErrNext), &fs.PathError{Op: "error 1", Path: "by 2", Err: fs.ErrExist}, strconv.ErrRange,
		// None of these is asked for anything that it can't say.
		wild{}, &wild{}, wrapper{inner: wild{}}, noPath, (*wrapper)(nil), boastful{}, wrapper{inner: boastful{}},
	} {
		wantTold(t, err, "error")
	}
}

// P20.1: Tell of a fault: Code, At if it isn't below 0, Name if it isn't empty.
func TestTellFault(t *testing.T) {
	for _, x := range []struct {
		code, at int
		name     string
		told     string
	}{
		{0, 0, "", "error 0 at 0"}, {1, -1, "", "error 1"}, {7, -1, "", "error 7"}, {10, 0, "", "error 10 at 0"}, {201, 1, "next", "error 201 at 1 of next"}, {166, 10, "q/0", "error 166 at 10 of q/0"}, {200, -1, "frob", "error 200 of frob"},
		{-5, -2, "", "error -5"}, {math.MaxInt, math.MaxInt, "", "error 9223372036854775807 at 9223372036854775807"}, {math.MinInt, math.MinInt, "x", "error -9223372036854775808 of x"}, {31, 100, " ", "error 31 at 100 of  "},
		{31, -1, "a b\n", "error 31 of a b\n"}, {31, -1, "\x00\xff é %", "error 31 of \x00\xff é %"}, {999, -1, "by 1", "error 999 of by 1"}, {1000000, 1000000, strings.Repeat("long", 100000), "error 1000000 at 1000000 of " + strings.Repeat("long", 100000)},
	} {
		wantTold(t, fault(x.code, x.at, x.name, nil), x.told)
		// Causes that are none, or no faults, are not told.
		var none *api.Fault
		for _, cause := range []error{none, errors.New("x"), api.ErrFuel, wrapper{}, wrapper{inner: errors.New("x")}, wild{}, (*wrapper)(nil), boastful{}} {
			wantTold(t, fault(x.code, x.at, x.name, cause), x.told)
		}
		wantTold(t, fault(190, 3, "", fault(x.code, x.at, x.name, nil)), "error 190 at 3 by"+strings.TrimPrefix(x.told, "error"))
		wantTold(t, fault(x.code, x.at, x.name, fault(2, -1, "", nil)), x.told+" by 2")
	}
}

// lineOf is the line of a fault whose causes are faults, all the way down.
func lineOf(err error) string {
	var told strings.Builder
	told.WriteString("error ")
	for err != nil {
		f := err.(*api.Fault)
		told.WriteString(strconv.Itoa(int(f.Code)))
		if f.At >= 0 {
			told.WriteString(" at " + strconv.Itoa(f.At))
		}
		if f.Name != "" {
			told.WriteString(" of " + f.Name)
		}
		if f.Cause != nil {
			told.WriteString(" by ")
		}
		err = f.Cause
	}
	return told.String()
}

// P20.1: Tell of Causes, at any depth, each with what it tells.
func TestTellCauses(t *testing.T) {
	wantTold(t, fault(190, 0, "", fault(166, 0, "q/0", nil)), "error 190 at 0 by 166 at 0 of q/0")
	wantTold(t, fault(192, -1, "", fault(182, -1, "", nil)), "error 192 by 182")
	wantTold(t, fault(1, -1, "a", fault(2, 0, "", fault(3, -7, "b", fault(4, 4, "c", errors.New("x"))))), "error 1 of a by 2 at 0 by 3 of b by 4 at 4 of c")
	var err error
	want := ""
	for depth := range 65536 {
		at, name := depth%3-1, strings.Repeat("n", depth%2)
		err = &api.Fault{Code: api.Errno(depth), At: at, Name: name, Cause: err}
		if depth < 200 || depth == 65535 {
			want = lineOf(err)
			wantTold(t, err, want)
		}
	}
	if len(want) < 65536*9 {
		t.Error(len(want))
	}
}

// P1: Tell of Causes that go round in a circle ends; each is told once.
func TestTellCircles(t *testing.T) {
	for ahead := range 4 {
		for round := 1; round < 5; round++ {
			last := fault(round, -1, "", nil)
			circle := last
			for code := round - 1; code > 0; code-- {
				circle = fault(code, -1, "", circle)
			}
			last.Cause = circle
			want := "error 1"
			for code := 2; code <= round; code++ {
				want += " by " + strconv.Itoa(code)
			}
			first := error(circle)
			for range ahead {
				first = fault(9, 0, "", first)
				want = "error 9 at 0 by" + strings.TrimPrefix(want, "error")
			}
			wantTold(t, first, want)
			last.Cause = wrapper{inner: circle}
			wantTold(t, first, want)
		}
	}
}

// P20.1: faults that are alike, but none the same, are all told.
func TestTellAlike(t *testing.T) {
	wantTold(t, fault(1, 2, "x", fault(1, 2, "x", fault(1, 2, "x", nil))), "error 1 at 2 of x by 1 at 2 of x by 1 at 2 of x")
}

// P20.1: Tell of a fault that is wrapped is a line, too, as is that of one whose Cause is: which one is free.
func TestTellWrapped(t *testing.T) {
	f := fault(190, 0, "", fault(166, 0, "q/0", nil))
	for _, err := range []error{wrapper{inner: f}, &wrapper{inner: f}, wrapper{inner: wrapper{inner: f}}, errors.Join(errors.New("x"), f), errors.Join(f, wild{})} {
		if got := console.Tell(err); got != "error" && got != "error 190 at 0 by 166 at 0 of q/0" {
			t.Error(got)
		}
		if got := console.Tell(fault(191, -1, "", err)); got != "error 191" && got != "error 191 by 190 at 0 by 166 at 0 of q/0" {
			t.Error(got)
		}
	}
}

// P20.1: what Tell is handed is as it was.
func TestTellChangesNothing(t *testing.T) {
	name := written("name")
	inner := fault(3, 4, "inner", errors.New("x"))
	f := fault(1, 2, name.text, inner)
	told := console.Tell(f)
	if f.Code != 1 || f.At != 2 || f.Name != "name" || f.Cause != error(inner) || inner.Code != 3 || inner.At != 4 || inner.Name != "inner" || inner.Cause == nil {
		t.Error(f, inner)
	}
	name.overwrite()
	*f, *inner = api.Fault{}, api.Fault{}
	if told != "error 1 at 2 of name by 3 at 4 of inner" {
		t.Error(told)
	}
	for _, alone := range []*api.Fault{fault(0, -1, written("x").text, nil), fault(7, -1, written("y").text, nil)} {
		told := console.Tell(alone)
		want := strings.Clone(told)
		*alone = api.Fault{}
		if told != want {
			t.Error(told)
		}
	}
}
