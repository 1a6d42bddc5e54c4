package message_test

import (
	"math/big"
	"slices"
	"strings"

	"turnpike/api"
	"turnpike/message"
)

// The model says what the chapter's words say, byte by byte, each promise on its own.

func only(text, allowed string) bool {
	for i := range len(text) {
		if !has(allowed, text[i]) {
			return false
		}
	}
	return true
}

const (
	smalls = "abcdefghijklmnopqrstuvwxyz"
	digits = "0123456789"
)

func modelName(name string) bool {
	return name != "" && only(name, tokens) && !strings.ContainsAny(name, capitals)
}

func modelValue(value string) bool {
	for i := range len(value) {
		b := value[i]
		if b < 0x20 && b != 0x09 || b == 0x7f || (i == 0 || i == len(value)-1) && (b == 0x20 || b == 0x09) {
			return false
		}
	}
	return true
}

// modelLength: the number of a length, or nil.
func modelLength(value string) *big.Int {
	if len(value) < 1 || len(value) > 15 || !only(value, digits) {
		return nil
	}
	n, _ := new(big.Int).SetString(value, 10)
	return n
}

func modelHop(f api.Field) bool {
	hops := []string{"connection", "keep-alive", "proxy-connection", "transfer-encoding", "upgrade"}
	return slices.Contains(hops, f.Name) || f.Name == "te" && f.Value != "trailers"
}

// pseudo: whether a field is one.
func pseudo(f api.Field) bool { return len(f.Name) > 0 && f.Name[0] == ':' }

// modelMany: P18.1's ErrFields.
func modelMany(list []api.Field, l message.Limits) bool {
	size := 0
	for _, f := range list {
		size += len(f.Name)
		size += len(f.Value)
	}
	return len(list) > l.Count || size > l.Size
}

// modelWrong: what is wrong with the field at i, P18.1.
func modelWrong(list []api.Field, i int) api.Errno {
	f := list[i]
	if pseudo(f) {
		known := slices.Contains([]string{":method", ":scheme", ":authority", ":path"}, f.Name)
		for _, ahead := range list[:i] {
			known = known && pseudo(ahead) && ahead.Name != f.Name
		}
		if !known {
			return api.ErrPseudo
		}
	} else if !modelName(f.Name) {
		return api.ErrName
	}
	if !modelValue(f.Value) {
		return api.ErrValue
	}
	if modelHop(f) {
		return api.ErrConnField
	}
	if f.Name == "content-length" {
		n := modelLength(f.Value)
		if n == nil {
			return api.ErrTotal
		}
		for _, ahead := range list[:i] {
			if ahead.Name == f.Name && modelLength(ahead.Value).Cmp(n) != 0 {
				return api.ErrTotal
			}
		}
	}
	return api.OK
}

// modelLine: P18.2.
func modelLine(value map[string][]string) api.Errno {
	method, scheme, path := value[":method"], value[":scheme"], value[":path"]
	if method == nil {
		return api.ErrMissing
	}
	if method[0] == "" || !only(method[0], tokens) {
		return api.ErrPseudo
	}
	if method[0] == "CONNECT" {
		if scheme != nil || path != nil {
			return api.ErrPseudo
		}
		return okIf(value[":authority"] != nil, api.ErrMissing)
	}
	if scheme == nil || path == nil {
		return api.ErrMissing
	}
	if scheme[0] != "http" && scheme[0] != "https" || path[0] == "" {
		return api.ErrPseudo
	}
	if path[0][0] != '/' && !(method[0] == "OPTIONS" && path[0] == "*") {
		return api.ErrPseudo
	}
	for i := range len(path[0]) {
		if b := path[0][i]; b < 0x21 || b > 0x7e || b == '#' {
			return api.ErrPseudo
		}
	}
	return api.OK
}

// modelAuthority: P18.3.
func modelAuthority(value map[string][]string) (string, api.Errno) {
	all := append(slices.Clone(value[":authority"]), value["host"]...)
	if len(all) == 0 {
		return "", api.ErrMissing
	}
	if all[0] == "" || !only(all[0], smalls+capitals+digits+"-._~:[]%") {
		return "", api.ErrPseudo
	}
	for _, host := range value["host"] {
		if host != all[0] {
			return "", api.ErrPseudo
		}
	}
	return all[0], api.OK
}

// modelCheck: P18.1 to P18.4.
func modelCheck(list []api.Field, l message.Limits) (message.Request, api.Errno) {
	if modelMany(list, l) {
		return message.Request{}, api.ErrFields
	}
	value := map[string][]string{}
	for i, f := range list {
		if e := modelWrong(list, i); e != api.OK {
			return message.Request{}, e
		}
		value[f.Name] = append(value[f.Name], f.Value)
	}
	if e := modelLine(value); e != api.OK {
		return message.Request{}, e
	}
	authority, e := modelAuthority(value)
	if e != api.OK {
		return message.Request{}, e
	}
	r := message.Request{Method: value[":method"][0], Authority: authority, Length: -1}
	if r.Method != "CONNECT" {
		r.Scheme, r.Path = value[":scheme"][0], value[":path"][0]
	}
	if lengths := value["content-length"]; lengths != nil {
		r.Length = int(modelLength(lengths[0]).Int64())
	}
	r.Fields = slices.DeleteFunc(slices.Clone(list), func(f api.Field) bool { return pseudo(f) || f.Name == "host" })
	return r, api.OK
}

// modelTrailers: P18.5.
func modelTrailers(list []api.Field, l message.Limits) api.Errno {
	if modelMany(list, l) {
		return api.ErrFields
	}
	for _, f := range list {
		switch {
		case pseudo(f):
			return api.ErrPseudo
		case !modelName(f.Name):
			return api.ErrName
		case !modelValue(f.Value):
			return api.ErrValue
		case modelHop(f), slices.Contains([]string{"content-length", "host", "te"}, f.Name):
			return api.ErrConnField
		}
	}
	return api.OK
}
