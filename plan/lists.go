package plan

// places: the numbers of the things of a list that fit, rising.
func places[T any](list []T, fits func(x T) bool) []int {
	var numbers []int
	for i, x := range list {
		if fits(x) {
			numbers = append(numbers, i)
		}
	}
	return numbers
}

// at: the thing of that number, or zero where there is none: a plan that isn't the job's may name any.
func at[T any](list []T, number int) T {
	if number < 0 || number >= len(list) {
		var none T
		return none
	}
	return list[number]
}
