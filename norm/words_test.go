package norm_test

import (
	"slices"
	"strings"
	"testing"

	"turnpike/api"
	"turnpike/message"
	"turnpike/norm"
)

// fields: a list from names and values by turns.
func fields(texts ...string) []api.Field {
	var list []api.Field
	for pair := range slices.Chunk(texts, 2) {
		list = append(list, api.Field{Name: pair[0], Value: pair[1]})
	}
	return list
}

// asked: a request for /x at a.b, as Check tells it.
func asked(method string, length int, more ...string) message.Request {
	return message.Request{Method: method, Scheme: "https", Authority: "a.b", Path: "/x", Fields: fields(more...), Length: length}
}

// lines: texts with CR LF behind each.
func lines(texts ...string) string {
	return strings.Join(texts, "\r\n") + "\r\n"
}

// wantHead asks for the lines of a head, those of the beginning and the end left out.
func wantHead(t *testing.T, r message.Request, body bool, between ...string) {
	t.Helper()
	want := lines(slices.Concat([]string{r.Method + " /x HTTP/1.1", "host: a.b"}, between, []string{"via: 3 turnpike", ""})...)
	wantBytes(t, want, func() ([]byte, api.Errno) { return norm.Head(r, body) })
}

// wantBytes asks for bytes beside OK.
func wantBytes(t *testing.T, want string, call func() ([]byte, api.Errno)) {
	t.Helper()
	if b, e := call(); string(b) != want || e != api.OK {
		t.Errorf("%.300q, %d; want %.300q", b, e, want)
	}
}

// wantTold asks for what a client is told of a response of 200, :status and the via at the end left out.
func wantTold(t *testing.T, given []api.Field, between ...string) {
	t.Helper()
	want := slices.Concat(fields(":status", "200"), fields(between...), fields("via", "1.1 turnpike"))
	if list, e := norm.Response(200, given); !slices.Equal(list, want) || e != api.OK {
		t.Errorf("Response(200, %q): %q, %d; want %q", given, list, e, want)
	}
}

// casings: a name in several cases of letters.
func casings(name string) []string {
	mixed := []byte(name)
	for i := range mixed {
		if i%2 == 1 {
			mixed[i] = strings.ToUpper(name)[i]
		}
	}
	return []string{name, strings.ToUpper(name), strings.ToUpper(name[:1]) + name[1:], name[:len(name)-1] + strings.ToUpper(name[len(name)-1:]), string(mixed)}
}
