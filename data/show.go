package data

import "rondo/api"

// Show answers the value as it is shown, unless it has too many parts.
func Show(value Value) (string, bool) {
	if partsLeft(api.MaxShow, value) < 0 {
		return "", false
	}
	return string(value.AppendShown(nil)), true
}

// partsLeft takes the parts of a value off a number of them. It goes no
// further than that number reaches: pairs that share what they are made of
// can have more parts than could ever be counted.
func partsLeft(parts int, value Value) int {
	parts--
	if pair, is := value.(*Pair); is && parts >= 0 {
		return partsLeft(partsLeft(parts, pair.Head), pair.Tail)
	}
	return parts
}
