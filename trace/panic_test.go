package trace

import (
	"testing"

	"millrace/api"
)

// Ways: what the reader panics with is told as an error, of the first line as its own; any other panic goes on.
func TestFaults(t *testing.T) {
	for _, x := range []struct {
		line  int
		fault fault
		want  api.Errno
	}{{2, wrongWord, api.ErrWord}, {3, wrongLine, api.ErrLine}, {1, wrongWord, api.ErrBegin}, {1, wrongLine, api.ErrBegin}} {
		if e := (&reader{line: x.line}).faultOf(x.fault); e != x.want {
			t.Errorf("%v in line %d is told as %v, want %v", x.fault, x.line, e, x.want)
		}
	}
	for _, x := range []any{"text", 201, api.ErrWord, any(struct{}{})} {
		func() {
			defer func() {
				if got := recover(); got != x {
					t.Errorf("the panic %v went on as %v", x, got)
				}
			}()
			e := (&reader{line: 1}).faultOf(x)
			t.Errorf("the panic %v is told as %v", x, e)
		}()
	}
}
