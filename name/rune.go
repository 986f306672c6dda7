package name

import "strings"

// replacement is what an invalid byte is decoded as; it may also stand in a string by itself, validly encoded.
const replacement rune = 0xFFFD

// end stands for the rune behind a string's last one. It is below every rune, so that a string comes ahead of those it begins.
const end rune = -1

// allowed tells whether a name may contain r. No invalid rune is allowed, because the replacement isn't either.
func allowed(r rune) bool {
	switch {
	case r < 0x21, 0x7F <= r && r <= 0xA0:
		return false
	case r == 0x2028, r == 0x2029, r == replacement:
		return false
	}
	return true
}

// invalid tells whether r, the first rune of s, is an invalid byte's: the rune alone doesn't tell it from the replacement's own.
func invalid(r rune, s string) bool {
	return r == replacement && !strings.HasPrefix(s, string(replacement))
}

// lower returns r, and for one of the letters A to Z the small one. Other capitals stay: they count as different.
func lower(r rune) rune {
	if 'A' <= r && r <= 'Z' {
		return r + 'a' - 'A'
	}
	return r
}

// next returns the first rune of s, or end, and what follows it. Where that begins is where the second rune begins,
// which holds for an invalid byte too.
func next(s string) (rune, string) {
	first := end
	for at, r := range s {
		if at > 0 {
			return first, s[at:]
		}
		first = r
	}
	return first, ""
}
