package cell

// What a packed number is made of, from its highest bit down: the version, and the place plus 1.
const (
	versionBits = 30
	placeBits   = 32
	mostPlace   = 1<<31 - 2
)

// Pack: a version and a place as one number; Unpack: back; Up: the next version, another place.
func Pack(version, place int) int {
	if place < -1 || place > mostPlace {
		place = -1
	}
	return lowest(version, versionBits)<<placeBits + place + 1
}

func Unpack(n int) (version, place int) {
	return lowest(n>>placeBits, versionBits), lowest(n, placeBits) - 1
}

func Up(n, place int) int {
	version, _ := Unpack(n)
	return Pack(version+1, place)
}

// lowest is what so many lowest bits of a number are by themselves: the number modulo a power of 2, and not below 0.
func lowest(n, bits int) int { return n & (1<<bits - 1) }
