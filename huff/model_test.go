package huff_test

import (
	"bytes"
	"fmt"
	"slices"
	"strings"
	"testing"

	"turnpike/api"
	"turnpike/huff"
)

// known: the code of each byte, its number and how many bits it has, worked out apart from this program.
var known = [256]struct{ number, bits int }{
	{32512, 15}, {32513, 15}, {32514, 15}, {32515, 15}, {32516, 15}, {32517, 15}, {32518, 15}, {32519, 15},
	{32520, 15}, {32521, 15}, {32522, 15}, {32523, 15}, {32524, 15}, {32525, 15}, {32526, 15}, {32527, 15},
	{32528, 15}, {32529, 15}, {32530, 15}, {32531, 15}, {32532, 15}, {32533, 15}, {32534, 15}, {32535, 15},
	{32536, 15}, {32537, 15}, {32538, 15}, {32539, 15}, {32540, 15}, {32541, 15}, {32542, 15}, {32543, 15},
	{20, 6}, {32544, 15}, {32545, 15}, {32546, 15}, {32547, 15}, {21, 6}, {248, 8}, {32548, 15},
	{32549, 15}, {32550, 15}, {249, 8}, {32551, 15}, {250, 8}, {22, 6}, {23, 6}, {24, 6},
	{0, 5}, {1, 5}, {2, 5}, {25, 6}, {26, 6}, {27, 6}, {28, 6}, {29, 6},
	{30, 6}, {31, 6}, {92, 7}, {251, 8}, {32552, 15}, {32, 6}, {32553, 15}, {32554, 15},
	{32555, 15}, {33, 6}, {93, 7}, {94, 7}, {95, 7}, {96, 7}, {97, 7}, {98, 7},
	{99, 7}, {100, 7}, {101, 7}, {102, 7}, {103, 7}, {104, 7}, {105, 7}, {106, 7},
	{107, 7}, {108, 7}, {109, 7}, {110, 7}, {111, 7}, {112, 7}, {113, 7}, {114, 7},
	{252, 8}, {115, 7}, {253, 8}, {32556, 15}, {32557, 15}, {32558, 15}, {32559, 15}, {34, 6},
	{32560, 15}, {3, 5}, {35, 6}, {4, 5}, {36, 6}, {5, 5}, {37, 6}, {38, 6},
	{39, 6}, {6, 5}, {116, 7}, {117, 7}, {40, 6}, {41, 6}, {42, 6}, {7, 5},
	{43, 6}, {118, 7}, {44, 6}, {8, 5}, {9, 5}, {45, 6}, {119, 7}, {120, 7},
	{121, 7}, {122, 7}, {123, 7}, {32561, 15}, {32562, 15}, {32563, 15}, {32564, 15}, {32565, 15},
	{32566, 15}, {32567, 15}, {32568, 15}, {32569, 15}, {32570, 15}, {32571, 15}, {32572, 15}, {32573, 15},
	{32574, 15}, {32575, 15}, {32576, 15}, {32577, 15}, {32578, 15}, {32579, 15}, {32580, 15}, {32581, 15},
	{32582, 15}, {32583, 15}, {32584, 15}, {32585, 15}, {32586, 15}, {32587, 15}, {32588, 15}, {32589, 15},
	{32590, 15}, {32591, 15}, {32592, 15}, {32593, 15}, {32594, 15}, {32595, 15}, {32596, 15}, {32597, 15},
	{32598, 15}, {32599, 15}, {32600, 15}, {32601, 15}, {32602, 15}, {32603, 15}, {32604, 15}, {32605, 15},
	{32606, 15}, {32607, 15}, {32608, 15}, {32609, 15}, {32610, 15}, {32611, 15}, {32612, 15}, {32613, 15},
	{32614, 15}, {32615, 15}, {32616, 15}, {32617, 15}, {32618, 15}, {32619, 15}, {32620, 15}, {32621, 15},
	{32622, 15}, {32623, 15}, {32624, 15}, {32625, 15}, {32626, 15}, {32627, 15}, {32628, 15}, {32629, 15},
	{32630, 15}, {32631, 15}, {32632, 15}, {32633, 15}, {32634, 15}, {32635, 15}, {32636, 15}, {32637, 15},
	{32638, 15}, {32639, 15}, {32640, 15}, {32641, 15}, {32642, 15}, {32643, 15}, {32644, 15}, {32645, 15},
	{32646, 15}, {32647, 15}, {32648, 15}, {32649, 15}, {32650, 15}, {32651, 15}, {32652, 15}, {32653, 15},
	{32654, 15}, {32655, 15}, {32656, 15}, {32657, 15}, {32658, 15}, {32659, 15}, {32660, 15}, {32661, 15},
	{32662, 15}, {32663, 15}, {32664, 15}, {32665, 15}, {32666, 15}, {32667, 15}, {32668, 15}, {32669, 15},
	{32670, 15}, {32671, 15}, {32672, 15}, {32673, 15}, {32674, 15}, {32675, 15}, {32676, 15}, {32677, 15},
	{32678, 15}, {32679, 15}, {32680, 15}, {32681, 15}, {32682, 15}, {32683, 15}, {32684, 15}, {32685, 15},
	{32686, 15}, {32687, 15}, {32688, 15}, {32689, 15}, {32690, 15}, {32691, 15}, {32692, 15}, {32693, 15},
}

// digits: a code as its bits, written as 0 and 1.
func digits(number, bits int) string {
	return fmt.Sprintf("%0*b", bits, number)
}

// codeOf: the known code of a byte, as its bits.
func codeOf(x byte) string {
	return digits(known[x].number, known[x].bits)
}

// bitsOf: the codes of a text, one behind the other, with no fill.
func bitsOf(data []byte) string {
	var all strings.Builder
	for _, x := range data {
		all.WriteString(codeOf(x))
	}
	return all.String()
}

// packed: bits as bytes; they fill them.
func packed(t *testing.T, bits string) []byte {
	t.Helper()
	if len(bits)%8 != 0 {
		t.Fatalf("%d bits fill no bytes", len(bits))
	}
	b := make([]byte, len(bits)/8)
	for i, d := range bits {
		b[i/8] = b[i/8]<<1 | byte(d-'0')
	}
	return b
}

// unpacked: bytes as their bits.
func unpacked(b []byte) string {
	var all strings.Builder
	for _, x := range b {
		all.WriteString(digits(int(x), 8))
	}
	return all.String()
}

// filled: bits with as many one-bits behind them as make whole bytes.
func filled(bits string) string {
	return bits + strings.Repeat("1", (8-len(bits)%8)%8)
}

// coded: the coded text by the chapter's words.
func coded(t *testing.T, data []byte) []byte {
	t.Helper()
	return packed(t, filled(bitsOf(data)))
}

// byCode: the byte that each code belongs to.
var byCode = func() map[string]byte {
	all := map[string]byte{}
	for i := range 256 {
		all[codeOf(byte(i))] = byte(i)
	}
	return all
}()

// read: what P14.2 says of bytes.
func read(b []byte) ([]byte, api.Errno) {
	if len(b) > api.MaxData {
		return nil, api.ErrHuge
	}
	var text []byte
	left := unpacked(b)
	for {
		x, bits, ok := first(left)
		if !ok {
			break
		}
		text, left = append(text, x), left[bits:]
	}
	switch {
	case len(left) <= 7 && !strings.Contains(left, "0"):
		return text, api.OK
	case len(left) < 15:
		return nil, api.ErrPad
	}
	return nil, api.ErrCode
}

// first: the byte whose code stands whole at the beginning of bits.
func first(bits string) (x byte, size int, ok bool) {
	for _, size := range []int{5, 6, 7, 8, 15} {
		if size > len(bits) {
			break
		}
		if x, ok := byCode[bits[:size]]; ok {
			return x, size, true
		}
	}
	return 0, 0, false
}

// wantCoded asks Encode for a coded text, and Size for its length.
func wantCoded(t *testing.T, data, want []byte) {
	t.Helper()
	if b := huff.Encode(data); !bytes.Equal(b, want) {
		t.Errorf("Encode(%.40q): %.40x, want %.40x", data, b, want)
	}
	if n := huff.Size(data); n != len(want) {
		t.Errorf("Size(%.40q): %d, want %d", data, n, len(want))
	}
}

// wantRead asks Decode for a text, or for an error and nothing beside it.
func wantRead(t *testing.T, b, want []byte, wantE api.Errno) {
	t.Helper()
	if text, e := huff.Decode(b); !bytes.Equal(text, want) || e != wantE {
		t.Errorf("Decode of %d bytes %.40x: %.40q, %d; want %.40q, %d", len(b), b, text, e, want, wantE)
	}
}

// lead: a text whose codes have so many bits past whole bytes, with codes of more than one class.
func lead(t *testing.T, bits int) []byte {
	t.Helper()
	text := []byte("b&:")
	for _, x := range []byte("000000000") {
		if len(bitsOf(text))%8 == bits%8 {
			return text
		}
		text = append(text, x)
	}
	t.Fatalf("no text with %d bits past whole bytes", bits)
	return nil
}

// withLeft: bytes that end in the bits told, with a text's codes ahead that make them whole.
func withLeft(t *testing.T, bits string) (text, b []byte) {
	t.Helper()
	text = lead(t, (8-len(bits)%8)%8)
	return text, packed(t, bitsOf(text)+bits)
}

// joined: texts one behind the other, in memory of their own.
func joined(texts ...[]byte) []byte {
	return slices.Concat(texts...)
}
