package ver

import (
	"testing"

	"manciple/api"
)

func TestP1RaisedLetsNoPanicPassForAVersion(t *testing.T) {
	for _, c := range []struct {
		fault any
		want  api.Errno
	}{{nil, api.OK}, {api.ErrLong, api.ErrLong}, {api.ErrVer, api.ErrVer}, {"some other panic", api.ErrVer}} {
		if got := raised(c.fault); got != c.want {
			t.Errorf("raised(%v): %v; want %v", c.fault, got, c.want)
		}
	}
}
