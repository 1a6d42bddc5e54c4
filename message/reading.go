package message

import (
	"strconv"
	"strings"

	"turnpike/api"
)

// malformed is what a reading panics with that can't go on.
type malformed api.Errno

// refuseIf ends the reading with that error, if so.
func refuseIf(so bool, e api.Errno) {
	if so {
		panic(malformed(e))
	}
}

// faultOf reads, and tells what ended the reading.
func faultOf(read func()) (e api.Errno) {
	defer func() {
		why := recover()
		if own, ok := why.(malformed); ok {
			e = api.Errno(own)
		} else if why != nil {
			panic(why) // a fault of the program is not to be hidden
		}
	}()
	read()
	return api.OK
}

// checkSize refuses more fields, or longer ones, than there may be.
func checkSize(fields []api.Field, l Limits) {
	size := 0
	for _, f := range fields {
		size += len(f.Name) + len(f.Value)
	}
	refuseIf(len(fields) > l.Count || size > l.Size, api.ErrFields)
}

// checkFields refuses the first field of a request with something wrong, and tells the length.
func checkFields(fields []api.Field) int {
	length := noLength
	for i, f := range fields {
		if isPseudo(f.Name) {
			checkPlace(f.Name, fields[:i])
		}
		checkTexts(f)
		refuseIf(isHop(f), api.ErrConnField)
		if f.Name == lengthName {
			n := lengthOf(f.Value)
			refuseIf(length != noLength && n != length, api.ErrTotal)
			length = n
		}
	}
	return length
}

// checkPlace refuses a pseudo field that may not stand behind those that are ahead of it, which were not refused.
func checkPlace(name string, ahead []api.Field) {
	if last := len(ahead) - 1; last >= 0 {
		refuseIf(!isPseudo(ahead[last].Name), api.ErrPseudo)
	}
	switch name {
	case methodName, schemeName, authorityName, pathName:
		_, twice := valueOf(ahead, name)
		refuseIf(twice, api.ErrPseudo)
	default:
		refuseIf(true, api.ErrPseudo)
	}
}

// checkTexts refuses a field whose name or value is not right.
func checkTexts(f api.Field) {
	refuseIf(!isPseudo(f.Name) && !isName(f.Name), api.ErrName)
	refuseIf(!isValue(f.Value), api.ErrValue)
}

// lengthOf: the number of a content-length.
func lengthOf(value string) int {
	refuseIf(len(value) > mostDigits || !isDigits(value), api.ErrTotal)
	n, _ := strconv.Atoi(value) // so many digits are always a number
	return n
}

// readTrailers refuses the first field of trailers with something wrong.
func readTrailers(fields []api.Field, l Limits) {
	checkSize(fields, l)
	for _, f := range fields {
		refuseIf(isPseudo(f.Name), api.ErrPseudo)
		checkTexts(f)
		refuseIf(isHop(f) || f.Name == lengthName || f.Name == hostName || f.Name == teName, api.ErrConnField)
	}
}

// isPseudo: whether a field of this name is a pseudo field.
func isPseudo(name string) bool {
	return strings.HasPrefix(name, ":")
}

// isHop: whether a field is for one connection alone.
func isHop(f api.Field) bool {
	switch f.Name {
	case "connection", "keep-alive", "proxy-connection", "transfer-encoding", "upgrade":
		return true
	case teName:
		return f.Value != "trailers"
	}
	return false
}

// valueOf: the value of the first field of this name, if there is one.
func valueOf(fields []api.Field, name string) (value string, ok bool) {
	for _, f := range fields {
		if f.Name == name {
			return f.Value, true
		}
	}
	return "", false
}
