package record

import "patches/meaning"

// none: the place of a line that is not in have.
const none = -1

// stay: for each of lines, the place in have of the line that stays as it, or none.
func stay(have []meaning.Line, lines []string) []int {
	var places []int
	for j := 0; j < len(lines); j++ {
		places = append(places, none)
	}
	longest := common(have, lines)
	i := 0
	j := 0
	for i < len(have) && j < len(lines) {
		if staysAs(have[i], lines[j]) {
			places[j] = i
			i++
			j++
		} else if longest[i+1][j] >= longest[i][j+1] {
			i++
		} else {
			j++
		}
	}
	return places
}

// common: at i and j, how long a longest common part of have from i on and lines from j on is. It is
// found from the ends, where no common part is left.
func common(have []meaning.Line, lines []string) [][]int {
	var longest [][]int
	for i := 0; i <= len(have); i++ {
		longest = append(longest, make([]int, len(lines)+1))
	}
	for i := len(have) - 1; i >= 0; i-- {
		for j := len(lines) - 1; j >= 0; j-- {
			if staysAs(have[i], lines[j]) {
				longest[i][j] = longest[i+1][j+1] + 1
			} else {
				longest[i][j] = greater(longest[i+1][j], longest[i][j+1])
			}
		}
	}
	return longest
}

// staysAs: a line in a ring, or an orphan, would be in conflict still if it stayed.
func staysAs(l meaning.Line, text string) bool {
	if l.Mark != meaning.Blank && l.Mark != meaning.Unsettled {
		return false
	}
	return l.Text == text
}

func greater(a, b int) int {
	if a > b {
		return a
	}
	return b
}
