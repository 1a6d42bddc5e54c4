package message

import (
	"strings"

	"turnpike/api"
)

// requestOf reads a request from its fields.
func requestOf(fields []api.Field, l Limits) Request {
	checkSize(fields, l)
	r := Request{Length: checkFields(fields)}
	r.Method = methodOf(fields)
	if r.Method == "CONNECT" {
		checkTunnel(fields)
	} else {
		r.Scheme, r.Path = targetOf(fields, r.Method)
	}
	r.Authority = authorityOf(fields)
	r.Fields = plainOf(fields)
	return r
}

// methodOf: the method.
func methodOf(fields []api.Field) string {
	method, ok := valueOf(fields, methodName)
	refuseIf(!ok, api.ErrMissing)
	refuseIf(!isToken(method), api.ErrPseudo)
	return method
}

// checkTunnel refuses a request for a tunnel that names more than its end, or not even that.
func checkTunnel(fields []api.Field) {
	_, schemed := valueOf(fields, schemeName)
	_, pathed := valueOf(fields, pathName)
	refuseIf(schemed || pathed, api.ErrPseudo)
	_, named := valueOf(fields, authorityName)
	refuseIf(!named, api.ErrMissing)
}

// targetOf: the scheme and the path of any other request.
func targetOf(fields []api.Field, method string) (scheme, path string) {
	scheme, schemed := valueOf(fields, schemeName)
	path, pathed := valueOf(fields, pathName)
	refuseIf(!schemed || !pathed, api.ErrMissing)
	refuseIf(scheme != "http" && scheme != "https", api.ErrPseudo)
	ofServer := method == "OPTIONS" && path == "*"
	refuseIf(!ofServer && !strings.HasPrefix(path, "/"), api.ErrPseudo)
	refuseIf(!isPath(path), api.ErrPseudo)
	return scheme, path
}

// authorityOf: the authority, on which all fields that tell it have to agree.
func authorityOf(fields []api.Field) string {
	authority, named := valueOf(fields, authorityName)
	if !named {
		authority, named = valueOf(fields, hostName)
	}
	refuseIf(!named, api.ErrMissing)
	refuseIf(!isAuthority(authority), api.ErrPseudo)
	for _, f := range fields {
		refuseIf(f.Name == hostName && f.Value != authority, api.ErrPseudo)
	}
	return authority
}

// plainOf: the fields that the request itself does not tell already.
func plainOf(fields []api.Field) []api.Field {
	var plain []api.Field
	for _, f := range fields {
		if !isPseudo(f.Name) && f.Name != hostName {
			plain = append(plain, f)
		}
	}
	return plain
}
