package crontab

// split answers what stands before, between and behind the separators.
func split(text string, separator byte) []string {
	pieces := []string{}
	start := 0
	for i := 0; i < len(text); i++ {
		if text[i] == separator {
			pieces = append(pieces, text[start:i])
			start = i + 1
		}
	}
	return append(pieces, text[start:])
}

// splitLines answers the lines that have a newline behind them, and what
// stands behind the last newline.
func splitLines(text string) ([]string, string) {
	pieces := split(text, '\n')
	last := len(pieces) - 1
	if last < 0 {
		return nil, ""
	}
	return pieces[:last], pieces[last]
}

// cut answers what stands before and behind the first separator, and whether
// there is one.
func cut(text string, separator byte) (string, string, bool) {
	for i := 0; i < len(text); i++ {
		if text[i] == separator {
			return text[:i], text[i+1:], true
		}
	}
	return text, "", false
}

func isDigits(text string) bool {
	for i := 0; i < len(text); i++ {
		if !isDigit(text[i]) {
			return false
		}
	}
	return true
}

func isDigit(b byte) bool {
	return b >= '0' && b <= '9'
}
