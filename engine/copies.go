package engine

import (
	"slices"

	"paymaster/book"
	"paymaster/master"
	"paymaster/result"
	"paymaster/tree"
	"paymaster/withhold"
)

// What an engine has is kept from call to call, so that a list that others have, too, would let them write into it:
// what comes in, and what is answered, is copied, with all lists in it.

func copyBook(b book.Book) book.Book {
	entries := slices.Clone(b.Entries)
	for i, e := range entries {
		e.R.Lines = slices.Clone(e.R.Lines)
		e.R.Paid = slices.Clone(e.R.Paid)
		e.R.Owed = slices.Clone(e.R.Owed)
		e.R.Garnished = slices.Clone(e.R.Garnished)
		e.Fixes = slices.Clone(e.Fixes)
		entries[i] = e
	}
	return book.Book{Entries: entries}
}

func copyMaster(m master.Master) master.Master {
	people := slices.Clone(m.People)
	for i, p := range people {
		p.Records = slices.Clone(p.Records)
		p.Orders = slices.Clone(p.Orders)
		people[i] = p
	}
	return master.Master{People: people}
}

func copyPlan(p result.Plan) result.Plan {
	rules := tree.Program{Rules: slices.Clone(p.P.Rules), Exprs: slices.Clone(p.P.Exprs)}
	return result.Plan{P: rules, S: copyScheme(p.S), Protected: p.Protected}
}

func copyScheme(s withhold.Scheme) withhold.Scheme {
	return withhold.Scheme{Rows: slices.Clone(s.Rows), Funds: slices.Clone(s.Funds)}
}
