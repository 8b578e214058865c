package eval

import (
	"moraine/api"
	"moraine/val"
)

// call is what a call takes, and what it does with parts that it takes.
type call struct {
	forms []form
	do    func(parts []api.Val) api.Val
}

// newCalls are all calls by their names.
func newCalls() map[string]call {
	ofText := []form{of(api.Num, api.Text)}
	ofTexts := []form{of(api.Num, api.Text, api.Text)}
	ofNum := []form{of(api.Text, api.Num)}
	ofNums := []form{of(api.Num, api.Num, api.Num)}
	part := []form{of(api.Text, api.Text, api.Num)}
	choice := []form{of(api.Num, api.Num, api.Num, api.Num), of(api.Text, api.Num, api.Text, api.Text)}
	return map[string]call{
		"len":   {ofText, func(p []api.Val) api.Val { return number(length(p[0].S)) }},
		"left":  {part, func(p []api.Val) api.Val { return text(first(p[0].S, p[1].N)) }},
		"right": {part, func(p []api.Val) api.Val { return text(behind(p[0].S, length(p[0].S)-p[1].N)) }},
		"from":  {part, func(p []api.Val) api.Val { return text(behind(p[0].S, p[1].N)) }},
		"find":  {ofTexts, func(p []api.Val) api.Val { return number(find(p[0].S, p[1].S)) }},
		"text":  {ofNum, func(p []api.Val) api.Val { return text(digits(p[0])) }},
		"num":   {ofText, func(p []api.Val) api.Val { return number(told(p[0].S)) }},
		"if":    {choice, choose},
		"min":   {ofNums, func(p []api.Val) api.Val { return number(min(p[0].N, p[1].N)) }},
		"max":   {ofNums, func(p []api.Val) api.Val { return number(max(p[0].N, p[1].N)) }},
	}
}

// choose is the second one of three, if the first one is not 0, else the third one.
func choose(p []api.Val) api.Val {
	if p[0].N != 0 {
		return p[1]
	}
	return p[2]
}

// digits is how a number is written. That is val's to say.
func digits(n api.Val) string {
	s, _ := val.Text(n)
	return s
}

// told is the number that is written so, 0, if none is.
func told(s string) int {
	v, at, err := val.Read(s, 0)
	if err != api.OK || at < len(s) || v.Kind != api.Num {
		return 0
	}
	return v.N
}
