package journal

import "orangery/api"

const (
	pieceSize  = 48    // bytes of a record in a piece
	mostPieces = 65535 // of a record
	sign1      = 165
	sign2      = 90
	head       = api.Sector - pieceSize
)

// piece is a sector that is one: two signs; session, number; place, count; size, 0; bytes of the record.
type piece []byte

func isPiece(b []byte) bool {
	return len(b) == api.Sector && b[0] == sign1 && b[1] == sign2 && b[14] <= pieceSize
}

func newPiece(session, number uint32, place, count int, b []byte) piece {
	p := make(piece, api.Sector)
	p[0], p[1], p[14] = sign1, sign2, byte(len(b))
	for i := range 4 {
		p[2+i] = byte(session >> (24 - 8*i))
		p[6+i] = byte(number >> (24 - 8*i))
	}
	for i := range 2 {
		p[10+i] = byte(place >> (8 - 8*i))
		p[12+i] = byte(count >> (8 - 8*i))
	}
	copy(p[head:], b)
	return p
}

func (p piece) session() uint32 { return high(p[2:6]) }
func (p piece) number() uint32  { return high(p[6:10]) }
func (p piece) place() uint32   { return high(p[10:12]) }
func (p piece) count() uint32   { return high(p[12:14]) }
func (p piece) size() int       { return int(p[14]) }
func (p piece) bytes() []byte   { return p[head : head+p.size()] }

// high is bytes as a number, the high one first.
func high(b []byte) uint32 {
	var n uint32
	for _, c := range b {
		n = n<<8 | uint32(c)
	}
	return n
}

// greatest is the greatest of a field of the pieces; 0, if there is no piece.
func greatest(l []piece, field func(piece) uint32) uint32 {
	var n uint32
	for _, p := range l {
		if p != nil {
			n = max(n, field(p))
		}
	}
	return n
}

// whole is how many pieces the record has with which the pieces begin; 0, if none is whole there.
func whole(l []piece) int {
	first := l[0]
	if first == nil || int(first.count()) > len(l) {
		return 0
	}
	count := int(first.count())
	for i, p := range l[:count] {
		if p == nil || p.place() != uint32(i) || i < count-1 && p.size() != pieceSize {
			return 0
		}
		for _, field := range []func(piece) uint32{piece.session, piece.number, piece.count} {
			if field(p) != field(first) {
				return 0
			}
		}
	}
	return count
}

// joined are the bytes of a record's pieces.
func joined(l []piece) []byte {
	b := []byte{}
	for _, p := range l {
		b = append(b, p.bytes()...)
	}
	return b
}
