package frame

const (
	allBits = 1<<32 - 1
	divisor = 3988292384
)

// Sum tells the check of a text (P5).
func Sum(text string) int {
	check := allBits
	for i := 0; i < len(text); i++ {
		check = check ^ int(text[i])
		for bit := 0; bit < 8; bit++ {
			check = halve(check)
		}
	}
	return check ^ allBits
}

func halve(check int) int {
	if check%2 == 1 {
		return (check / 2) ^ divisor
	}
	return check / 2
}
