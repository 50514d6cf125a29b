// Package figures reads numbers that are written in one way alone, in one
// place for all layers that read texts.
package figures

// Natural reads plain figures, at most so many as most: no sign, and no nought
// ahead of others. With up to 18 figures each number fits.
func Natural(text string, most int) (int, bool) {
	if text == "" || len(text) > most || len(text) > 1 && text[0] == '0' {
		return 0, false
	}
	n := 0
	for _, c := range []byte(text) {
		if c < '0' || c > '9' {
			return 0, false
		}
		n = n*10 + int(c-'0')
	}
	return n, true
}
