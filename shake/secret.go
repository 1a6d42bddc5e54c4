package shake

import (
	"slices"

	"turnpike/prim"
)

const secretSize = 16

// agree makes the handshake's secrets; both hellos have been said, and nothing else.
func (s *Shake) agree(public int) {
	shared := number(prim.Agree(s.own.Private, public), publicSize)
	s.root = digest([]byte("turnpike hs"), shared, s.sum())
	s.hand = secretsOf(s.root, "c hs", "s hs")
}

// conclude makes the application's secrets; all but the client's finished has been said.
func (s *Shake) conclude() {
	root := digest([]byte("turnpike ap"), s.root[:], s.sum())
	s.app = secretsOf(root, "c ap", "s ap")
}

// proof: what a finished by a secret says of what was said ahead of it.
func (s *Shake) proof(secret []byte) []byte {
	d := digest([]byte("fin"), secret, s.sum())
	return d[:]
}

// sum: the digest of what was said so far.
func (s *Shake) sum() []byte {
	d := prim.Digest(s.said)
	return d[:]
}

// digest: that of the parts, one behind the other.
func digest(parts ...[]byte) [16]byte {
	return prim.Digest(slices.Concat(parts...))
}

// secretsOf: a root's secrets, by their labels.
func secretsOf(root [16]byte, client, server string) Secrets {
	return Secrets{Client: expand(root[:], client), Server: expand(root[:], server)}
}

// expand: layer 7's, which has nothing to refuse in a root and labels as short as these.
func expand(root []byte, label string) []byte {
	out, _ := prim.Expand(root, label, secretSize)
	return out
}
