package party

import (
	"insolvency/api"
	"insolvency/natural"
)

const (
	one = "\x01"
	two = "\x02"
)

// counted holds the stakes with their votes as natural numbers: the votes in
// each company are counted in units that are small enough for all stakes. So
// many sums of them take no long time, even if the fractions are long and have
// different denominators.
type counted struct {
	stakes []api.Stake
	votes  []string // the units of each stake
	units  []string // the units of all votes in each party, 1 if it is not a company
}

// countVotes counts the votes of stakes that have no error of their own.
func countVotes(p api.Parties) counted {
	c := counted{p.Stakes, make([]string, len(p.Stakes)), make([]string, len(p.Kinds))}
	for party := range c.units {
		c.units[party] = one
	}
	for _, stake := range p.Stakes {
		c.units[stake.Company] = leastCommonMultiple(c.units[stake.Company], denominator(stake.Votes))
	}
	for i, stake := range p.Stakes {
		parts, _, _ := natural.Divide(c.units[stake.Company], denominator(stake.Votes))
		c.votes[i] = natural.Multiply(stake.Votes.Num, parts)
	}
	return c
}

// exceeded reports whether the stakes in a company have more than all votes.
func (c counted) exceeded() bool {
	held := make([]string, len(c.units))
	for i, stake := range c.stakes {
		company := stake.Company
		held[company] = natural.Add(held[company], c.votes[i])
		if natural.Compare(held[company], c.units[company]) > 0 {
			return true
		}
	}
	return false
}

// controlled tells for each party whether the owner controls it.
func (c counted) controlled(owner int) []bool {
	set := make([]bool, len(c.units))
	held := make([]string, len(c.units)) // by the owner and the companies of the set
	holders := []int{owner}
	for len(holders) > 0 {
		holder := holders[0]
		holders = holders[1:]
		for i, stake := range c.stakes {
			company := stake.Company
			if stake.Owner != holder || company == owner || set[company] {
				continue
			}
			held[company] = natural.Add(held[company], c.votes[i])
			if c.isMajority(held[company], company) {
				set[company] = true
				holders = append(holders, company)
			}
		}
	}
	return set
}

// isMajority reports whether so many units are more than 1/2 of the votes in
// the company.
func (c counted) isMajority(units string, company int) bool {
	return natural.Compare(natural.Multiply(units, two), c.units[company]) > 0
}

// denominator returns the denominator of a valid number, also if it is 1.
func denominator(r api.Rat) string {
	if r.Den == "" {
		return one
	}
	return r.Den
}

// leastCommonMultiple returns the least common multiple of two numbers that
// are not 0.
func leastCommonMultiple(a, b string) string {
	rest, _, _ := natural.Divide(b, natural.GCD(a, b))
	return natural.Multiply(a, rest)
}
