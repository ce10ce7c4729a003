// Package frame writes the frames of a log (P7).
package frame

const (
	lengthSize = 2
	checkSize  = 4
	minuteSize = 5
	numberSize = 2
)

// Tab is the frame of the change Tab.
func Tab(tab string) string { return whole("T" + tab) }

// Clock is the frame of the change Clock.
func Clock(m int) string {
	minute := digits(m, minuteSize)
	return whole("C" + minute)
}

// Start is the frame of the change Start.
func Start(number int) string { return ofSlot("S", number) }

// Done is the frame of the change Done.
func Done(number int) string { return ofSlot("D", number) }

// Fail is the frame of the change Fail.
func Fail(number int) string { return ofSlot("F", number) }

// Cancel is the frame of the change Cancel.
func Cancel(number int) string { return ofSlot("K", number) }

func ofSlot(letter string, number int) string {
	slot := digits(number, numberSize)
	return whole(letter + slot)
}

func whole(body string) string {
	length := digits(len(body), lengthSize)
	sum := Sum(body)
	check := digits(sum, checkSize)
	return length + body + check
}

// digits writes a number in so many bytes, the highest first.
func digits(number int, size int) string {
	text := ""
	for i := 0; i < size; i++ {
		lowest := []byte{byte(number % 256)}
		text = string(lowest) + text
		number = number / 256
	}
	return text
}
