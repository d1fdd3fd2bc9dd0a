package record

// amount is how many numbers, or texts, a message has: some, and any number of groups more, where a group isn't 0.
type amount struct {
	least, group int
}

// allows: may there be n?
func (a amount) allows(n int) bool {
	more := n - a.least
	if a.group == 0 {
		return more == 0
	}
	return more >= 0 && more%a.group == 0
}

// shape is what the messages of a kind have.
type shape struct {
	numbers, texts amount
}

// shapes stand at the places of their kinds.
var shapes = [...]shape{
	Change:  {amount{9, 0}, amount{2, 0}},
	Look:    {amount{0, 0}, amount{1, 0}},
	Names:   {amount{0, 0}, amount{1, 0}},
	Answer:  {amount{2, 1}, amount{0, 1}},
	Place:   {amount{1, 1}, amount{0, 0}},
	Find:    {amount{0, 3}, amount{0, 0}},
	Spots:   {amount{1, 1}, amount{0, 0}},
	Store:   {amount{4, 1}, amount{1, 0}},
	Stored:  {amount{1, 1}, amount{0, 0}},
	Fetch:   {amount{3, 0}, amount{0, 0}},
	Data:    {amount{1, 0}, amount{1, 0}},
	Beat:    {amount{1, 3}, amount{0, 0}},
	Orders:  {amount{0, 5}, amount{0, 0}},
	Poll:    {amount{3, 4}, amount{0, 0}},
	Task:    {amount{0, 1}, amount{0, 1}},
	Shuffle: {amount{4, 0}, amount{0, 0}},
	Pairs:   {amount{1, 0}, amount{0, 2}},
}
