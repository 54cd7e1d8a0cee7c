package ver

// text writes the canonical form. It gathers bytes, since an answer may share
// no memory with the string that was handed in (P2).
func (v version) text() string {
	var out []byte
	if epoch := bare(v.epoch); epoch != "0" {
		out = append(out, epoch...)
		out = append(out, ':')
	}
	out = appendPart(out, v.part)
	if revision := appendPart(nil, v.revision); string(revision) != "0" {
		out = append(out, '-')
		out = append(out, revision...)
	}
	return string(out)
}

func appendPart(out []byte, part string) []byte {
	for part != "" {
		var number, others string
		number, part = cutDigits(part)
		others, part = cutOthers(part)
		out = append(out, bare(number)...)
		out = append(out, others...)
	}
	return out
}
