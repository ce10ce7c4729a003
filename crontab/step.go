package crontab

import "bellman/api"

// Step: its word is said, or else it is to be heard.
type Step struct {
	Says bool
	Word string
}

func readStep(text string) (Step, bool) {
	if len(text) < 2 || len(text) > 1+api.MaxWord {
		return Step{}, false
	}
	if text[0] != '>' && text[0] != '<' {
		return Step{}, false
	}
	for i := 1; i < len(text); i++ {
		if !isWordByte(text[i]) {
			return Step{}, false
		}
	}
	return Step{Says: text[0] == '>', Word: text[1:]}, true
}

func isWordByte(b byte) bool {
	if b >= 'a' && b <= 'z' {
		return true
	}
	if b >= 'A' && b <= 'Z' {
		return true
	}
	return isDigit(b)
}
