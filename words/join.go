package words

import (
	"strconv"
	"strings"
)

// Join writes the words of a program, behind which an End stands, with one blank or newline between each two of them and one newline at the end.
func Join(list []Word) string {
	var text strings.Builder
	for i, word := range list[:len(list)-1] {
		text.WriteString(word.spelling())
		text.WriteByte(gap(word.Kind, list[i+1].Kind))
	}
	return text.String()
}

func (w Word) spelling() string {
	switch w.Kind {
	case Name:
		return w.Text
	case Number:
		return strconv.FormatInt(w.Value, 10)
	}
	return spellings[w.Kind]
}

// gap gives what stands between two words.
func gap(word, next Kind) byte {
	switch word {
	case Semicolon, LeftBrace, RightBrace:
		if next != Else {
			return '\n'
		}
	}
	return ' '
}
