// Package frame writes the frames of a log (P7) and takes them out of it again
// (P13).
package frame

// Kinds of frames: the letter with which the body begins.
const (
	KindTab    = "T"
	KindClock  = "C"
	KindStart  = "S"
	KindDone   = "D"
	KindFail   = "F"
	KindCancel = "K"
	KindWhole  = "Z"
)

const (
	lengthSize = 2
	checkSize  = 4
	kindSize   = 1
	minuteSize = 5
	numberSize = 2
	smallSize  = 1
)

// Tab is the frame of the change Tab.
func Tab(tab string) string { return framed(KindTab + tab) }

// Clock is the frame of the change Clock.
func Clock(m int) string {
	minute := digits(m, minuteSize)
	return framed(KindClock + minute)
}

// Start is the frame of the change Start.
func Start(number int) string { return ofSlot(KindStart, number) }

// Done is the frame of the change Done.
func Done(number int) string { return ofSlot(KindDone, number) }

// Fail is the frame of the change Fail.
func Fail(number int) string { return ofSlot(KindFail, number) }

// Cancel is the frame of the change Cancel.
func Cancel(number int) string { return ofSlot(KindCancel, number) }

func ofSlot(kind string, number int) string {
	slot := digits(number, numberSize)
	return framed(kind + slot)
}

func framed(body string) string {
	length := digits(len(body), lengthSize)
	sum := Sum(body)
	check := digits(sum, checkSize)
	return length + body + check
}

// digits writes a number in so many bytes, the highest first.
func digits(number int, size int) string {
	text := ""
	for i := 0; i < size; i++ {
		lowest := []byte{byte(number % 256)}
		text = string(lowest) + text
		number = number / 256
	}
	return text
}
