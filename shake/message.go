package shake

import (
	"slices"

	"turnpike/api"
	"turnpike/prim"
	"turnpike/varint"
)

// The types of messages.
const (
	kindClientHello = 1
	kindServerHello = 2
	kindChoice      = 8
	kindFinished    = 20
)

const (
	headSize     = 4 // the type, and three bytes of the body's length
	longestBody  = 4096
	randomSize   = 32
	publicSize   = 8
	finishedSize = 16
)

// greatestPublic: powers are taken modulo 2^61 - 1 (layer 7).
const greatestPublic = 1<<61 - 2

// build: a message of a type, the parts being its body.
func build(kind byte, parts ...[]byte) []byte {
	return slices.Concat([]byte{kind}, sized(slices.Concat(parts...), headSize-1))
}

// sized: bytes behind their length, which takes so many bytes itself.
func sized(b []byte, width int) []byte {
	return slices.Concat(number(len(b), width), b)
}

// number: the last bytes of a number, the highest first.
func number(n, width int) []byte {
	out := make([]byte, width)
	for i := range out {
		out[i] = byte(n >> (8 * (width - 1 - i)))
	}
	return out
}

// bodySize: the length that a message's head tells.
func bodySize(message []byte) int {
	return int(message[1])<<16 | int(message[2])<<8 | int(message[3])
}

// bodyOf: what stands behind a message's head.
func bodyOf(message []byte) []byte {
	return message[headSize:]
}

// greeting: with what both hellos begin.
func greeting(c Config) []byte {
	return slices.Concat(c.Random[:], number(prim.Public(c.Private), publicSize))
}

// clientHello: what a client says first.
func clientHello(c Config) []byte {
	protos := []byte{byte(len(c.Protos))}
	for _, p := range c.Protos {
		protos = append(protos, sized([]byte(p), 1)...)
	}
	return build(kindClientHello, greeting(c), protos, sized(c.Params, 2))
}

// serverHello: what a server says first.
func serverHello(c Config) []byte {
	return build(kindServerHello, greeting(c))
}

// choice: which proto a server took, and its Params.
func choice(proto string, params []byte) []byte {
	return build(kindChoice, sized([]byte(proto), 1), sized(params, 2))
}

// finished: the last message of a side.
func finished(proof []byte) []byte {
	return build(kindFinished, proof)
}

// offer is what a server takes out of a client's hello.
type offer struct {
	public int
	protos []string
	params []byte
}

// readClientHello: what the body offers; false, if it is not just what it must be.
func readClientHello(body []byte) (o offer, ok bool) {
	r := reader{varint.Open(body)}
	o.public = r.greeting()
	for range r.Byte() {
		o.protos = append(o.protos, string(r.sized(1)))
	}
	o.params = r.sized(2)
	return o, r.whole() && rightPublic(o.public) && rightProtos(o.protos) && rightParams(o.params)
}

// readServerHello: the public number; false, if the body is not just what it must be.
func readServerHello(body []byte) (public int, ok bool) {
	r := reader{varint.Open(body)}
	public = r.greeting()
	return public, r.whole() && rightPublic(public)
}

// readChoice: the proto and the Params; false, if the body is not just what it must be.
func readChoice(body []byte) (proto string, params []byte, ok bool) {
	r := reader{varint.Open(body)}
	proto = string(r.sized(1))
	params = r.sized(2)
	return proto, params, r.whole() && rightProto(proto) && rightParams(params)
}

// rightPublic: whether a number can be a public one; one of eight bytes whose highest bit is set has been read as below 0.
func rightPublic(n int) bool {
	return n >= 1 && n <= greatestPublic
}

// reader reads the items that bodies are made of; it keeps its first fault, so that whole asks once for all of them.
type reader struct{ *varint.Reader }

// greeting passes over a Random and reads a public number.
func (r reader) greeting() (public int) {
	r.Bytes(randomSize)
	return r.number(publicSize)
}

// number reads a number of so many bytes, the highest first.
func (r reader) number(width int) int {
	n := 0
	for range width {
		n = n<<8 | r.Byte()
	}
	return n
}

// sized reads bytes behind their length, which takes so many bytes itself.
func (r reader) sized(width int) []byte {
	return r.Bytes(r.number(width))
}

// whole: whether all could be read, and nothing is left.
func (r reader) whole() bool {
	return r.Fault() == api.OK && r.Left() == 0
}
