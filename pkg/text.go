package pkg

import (
	"strings"

	"manciple/api"
	"manciple/atom"
	"manciple/fault"
	"manciple/stanza"
	"manciple/ver"
	"manciple/weight"
)

const (
	keyPackage   = "Package"
	keyVersion   = "Version"
	keyDepends   = "Depends"
	keyConflicts = "Conflicts"
	keyProvides  = "Provides"
	keyWeight    = "Weight"
)

const (
	betweenParts  = "; "
	betweenAtoms  = " or "
	beforeVersion = " = "
	noWeight      = "0" // the text of the weight that needs no field
)

// To returns the stanza of a package that Check accepts.
func To(p Pkg) stanza.Stanza {
	// An answer shares no memory with what was handed in (P2), so texts that
	// are taken over as they are get copied.
	s := stanza.Stanza{
		{Key: keyPackage, Value: strings.Clone(p.Name)},
		{Key: keyVersion, Value: strings.Clone(p.Ver)},
	}
	if len(p.Depends) > 0 {
		s = append(s, stanza.Field{Key: keyDepends, Value: join(p.Depends, DepText, betweenParts)})
	}
	if len(p.Conflicts) > 0 {
		s = append(s, stanza.Field{Key: keyConflicts, Value: join(p.Conflicts, atom.Text, betweenParts)})
	}
	if len(p.Provides) > 0 {
		s = append(s, stanza.Field{Key: keyProvides, Value: join(p.Provides, Give.text, betweenParts)})
	}
	if text := weight.Text(p.Weight); text != noWeight {
		s = append(s, stanza.Field{Key: keyWeight, Value: text})
	}
	return s
}

// DepText writes the atoms of a dependency.
func DepText(d Dep) string { return join(d, atom.Text, betweenAtoms) }

func (g Give) text() string {
	if g.Ver == "" {
		return strings.Clone(g.Name)
	}
	return g.Name + beforeVersion + g.Ver
}

func join[E any](l []E, text func(E) string, between string) string {
	var texts []string
	for _, e := range l {
		texts = append(texts, text(e))
	}
	return strings.Join(texts, between)
}

// From returns the package that a stanza describes. With an error it tells the
// index of the field concerned.
func From(s stanza.Stanza) (p Pkg, i int, err api.Errno) {
	defer func() { i, err = fault.RaisedAt(recover(), api.ErrForm) }()
	return read(s), 0, api.OK
}

// read panics with an index and an api.Errno if From does not accept s.
func read(s stanza.Stanza) Pkg {
	wrong, err := stanza.Order(s, []string{keyPackage, keyVersion, keyDepends, keyConflicts, keyProvides, keyWeight})
	fault.RequireAt(err == api.OK, wrong, err)
	fault.RequireAt(has(s, keyPackage) && has(s, keyVersion), 0, api.ErrField)
	var p Pkg
	for i, f := range s {
		p.take(f.Key, value{f.Value, i})
	}
	return p
}

func has(s stanza.Stanza, key string) bool {
	_, found := stanza.Get(s, key)
	return found
}

func (p *Pkg) take(key string, v value) {
	switch key {
	case keyPackage:
		p.Name = v.name()
	case keyVersion:
		p.Ver = v.version()
	case keyDepends:
		p.Depends = parts(v, betweenParts, api.MaxDeps, value.dep)
	case keyConflicts:
		p.Conflicts = parts(v, betweenParts, api.MaxDeps, value.atom)
	case keyProvides:
		p.Provides = parts(v, betweenParts, api.MaxDeps, value.give)
	case keyWeight:
		p.Weight = v.weight()
	}
}

// value is the value of a field, or a part of one, with the index of the field,
// at which its errors are raised.
type value struct {
	text  string
	field int
}

func (v value) require(holds bool, err api.Errno) { fault.RequireAt(holds, v.field, err) }

func (v value) requireOK(err api.Errno) { v.require(err == api.OK, err) }

// parts splits v at each separator and reads what lies between.
func parts[E any](v value, separator string, most int, read func(value) E) []E {
	texts := strings.SplitN(v.text, separator, most+1) // one above most is enough to refuse v
	v.require(len(texts) <= most, api.ErrLong)
	var l []E
	for _, text := range texts {
		l = append(l, read(value{text, v.field}))
	}
	return l
}

func (v value) name() string {
	v.require(atom.Name(v.text), api.ErrName)
	return strings.Clone(v.text)
}

func (v value) version() string {
	canon, err := ver.Canon(v.text)
	v.requireOK(err)
	return canon
}

func (v value) atom() atom.Atom {
	a, err := atom.Parse(v.text)
	v.requireOK(err)
	return a
}

func (v value) dep() Dep { return parts(v, betweenAtoms, api.MaxAtoms, value.atom) }

func (v value) give() Give {
	name, version, found := strings.Cut(v.text, beforeVersion)
	g := Give{Name: value{name, v.field}.name()}
	if found {
		g.Ver = value{version, v.field}.version()
	}
	return g
}

func (v value) weight() float64 {
	f, err := weight.Parse(v.text)
	v.requireOK(err)
	v.requireOK(weight.Check(f))
	return f
}
