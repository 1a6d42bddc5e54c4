package norm_test

import (
	"math"
	"slices"
	"testing"

	"turnpike/api"
	"turnpike/norm"
)

// replies are the gateway's own, by their statuses.
var replies = map[int]struct{ body, length string }{
	400: {"bad request", "11"},
	413: {"too large", "9"},
	431: {"fields too large", "16"},
	501: {"not implemented", "15"},
	502: {"bad gateway", "11"},
	503: {"unavailable", "11"},
	504: {"timeout", "7"},
}

// statusText: the three digits, written out.
var statusText = map[int]string{400: "400", 413: "413", 431: "431", 501: "501", 502: "502", 503: "503", 504: "504"}

// P19.5: each reply of the gateway's own, with its fields.
func TestLocal(t *testing.T) {
	for status, want := range replies {
		list, body, e := norm.Local(status)
		wantList := fields(":status", statusText[status], "content-type", "text/plain", "content-length", want.length)
		if !slices.Equal(list, wantList) || string(body) != want.body || e != api.OK {
			t.Errorf("%d: %q, %q, %d", status, list, body, e)
		}
	}
}

// P19.5: there is no reply for any other status, and nothing beside the error.
func TestLocalOfOthers(t *testing.T) {
	others := []int{math.MinInt, -400, -1, math.MaxInt, 400 + 1<<32, 40000}
	for status := range 1100 {
		others = append(others, status)
	}
	for _, status := range others {
		if _, there := replies[status]; there {
			continue
		}
		if list, body, e := norm.Local(status); len(list) != 0 || len(body) != 0 || e != api.ErrStatus {
			t.Errorf("%d: %q, %q, %d", status, list, body, e)
		}
	}
}
