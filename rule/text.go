package rule

import (
	"strings"

	"manciple/api"
	"manciple/ask"
	"manciple/atom"
	"manciple/fault"
	"manciple/pkg"
	"manciple/repo"
	"manciple/split"
)

// Text writes a rule of All. It is empty if x names a kind, a package or a part
// that there is not.
func Text(x Rule, r repo.Repo, l []ask.Ask) (text string) {
	defer func() { recover() }()
	return textOf(x, r, l)
}

// textOf panics with an api.Errno if x cannot be a rule.
func textOf(x Rule, r repo.Repo, l []ask.Ask) string {
	switch x.Kind {
	case One:
		return "only one " + x.Name
	case Needs:
		return title(x, r) + " needs " + pkg.DepText(dependencyOf(x, r))
	case Conflict:
		return title(x, r) + " refuses " + atom.Text(conflictOf(x, r))
	case Asked:
		return "asked " + requestText(fault.Element(l, x.At))
	}
	panic(api.ErrArg)
}

// title panics with an api.Errno if there is no such package.
func title(x Rule, r repo.Repo) string {
	p := fault.Element(r, x.Pkg)
	return p.Name + " " + p.Ver
}

// requestText panics with an api.Errno if a has no line.
func requestText(a ask.Ask) string {
	line, _, wrong := ask.Text([]ask.Ask{a})
	fault.Require(wrong == api.OK, wrong)
	return strings.TrimSuffix(line, split.LineEnd)
}
