package parse_test

import (
	"slices"
	"strings"
	"testing"

	"touchstone/api"
	"touchstone/parse"
)

// grammar is the chapter's, a line for each rule. ONE is a number that must be 1, SIZE one that
// SAME must be equal to.
const grammar = `
text  = { item }
item  = 'int' ':' NAME '=' INT ';' | 'bool' ':' NAME '=' ( 'true' | 'false' ) ';' | 'var' dom ':' NAME [ '::' 'output_var' ] [ '=' plain ] ';' | 'array' size 'of' ( 'int' | 'bool' ) ':' NAME '=' list ';' | 'array' size 'of' 'var' ( 'int' | 'bool' ) ':' NAME [ '::' 'output_array' '(' '[' ONE '..' SAME ']' ')' ] '=' list ';' | 'constraint' NAME '(' [ expr { ',' expr } ] ')' ';' | 'solve' 'satisfy' ';' | 'solve' ( 'minimize' | 'maximize' ) NAME ';'
dom   = 'bool' | INT '..' INT | '{' INT { ',' INT } '}'
size  = '[' ONE '..' SIZE ']'
list  = '[' [ plain { ',' plain } ] ']'
plain = INT | 'true' | 'false' | NAME
expr  = plain | list
`

// allKeywords are the names that are none to the grammar.
var allKeywords = []string{"array", "bool", "constraint", "false", "int", "maximize", "minimize", "of", "output_array", "output_var", "satisfy", "solve", "true", "var"}

// part is a part of a rule: one of several ways ("or"), several parts in a row ("row"), a part any
// number of times ("many"), a kind of token ("token") or a rule ("rule").
type part struct {
	op    string
	word  string
	parts []*part
}

// readGrammar reads the rules of grammar.
func readGrammar() map[string]*part {
	rules := map[string]*part{}
	for _, line := range strings.Split(strings.TrimSpace(grammar), "\n") {
		words := strings.Fields(line)
		rule, rest := readWays(words[2:])
		if len(rest) != 0 {
			panic(line)
		}
		rules[words[0]] = rule
	}
	return rules
}

// readWays reads up to the bracket that closes, or up to the end.
func readWays(words []string) (*part, []string) {
	ways := &part{op: "or"}
	row := &part{op: "row"}
	for len(words) > 0 && !strings.Contains(")]}", words[0]) {
		word := words[0]
		words = words[1:]
		switch word {
		case "|":
			ways.parts = append(ways.parts, row)
			row = &part{op: "row"}
		case "(", "[", "{":
			inner, rest := readWays(words)
			words = rest[1:]
			switch word {
			case "[":
				inner = &part{op: "or", parts: []*part{inner, {op: "row"}}}
			case "{":
				inner = &part{op: "many", parts: []*part{inner}}
			}
			row.parts = append(row.parts, inner)
		default:
			op := "token"
			if word == strings.ToLower(word) && word[0] != '\'' {
				op = "rule"
			}
			row.parts = append(row.parts, &part{op: op, word: word})
		}
	}
	ways.parts = append(ways.parts, row)
	return ways, words
}

// path is what must follow: a part, and then what stands behind it.
type path struct {
	first *part
	rest  *path
}

// judge holds tokens against the grammar by following all ways at once.
type judge struct {
	rules map[string]*part
	size  string
}

// open returns the paths that begin with a token; nil among them stands for the end.
func (j *judge) open(p *path) []*path {
	if p == nil || p.first.op == "token" {
		return []*path{p}
	}
	switch p.first.op {
	case "rule":
		return j.open(&path{j.rules[p.first.word], p.rest})
	case "many":
		return append(j.open(&path{p.first.parts[0], p}), j.open(p.rest)...)
	case "row":
		rest := p.rest
		for _, part := range slices.Backward(p.first.parts) {
			rest = &path{part, rest}
		}
		return j.open(rest)
	}
	var all []*path
	for _, way := range p.first.parts {
		all = append(all, j.open(&path{way, p.rest})...)
	}
	return all
}

// fits tells whether a token, of which the size of an array is kept, is of a kind.
func (j *judge) fits(kind, token string) bool {
	number := strings.Contains("-0123456789", token[:1])
	value := strings.TrimLeft(token, "0")
	switch kind {
	case "NAME":
		return !number && isWord(token) && !slices.Contains(allKeywords, token)
	case "INT":
		return number
	case "ONE":
		return value == "1"
	case "SIZE":
		if number {
			j.size = value
		}
		return number
	case "SAME":
		return number && value == j.size
	}
	return kind == "'"+token+"'"
}

func isWord(token string) bool {
	return token[0] == '_' || token[0] >= 'a' && token[0] <= 'z' || token[0] >= 'A' && token[0] <= 'Z'
}

// wrong returns the index of the first token that the grammar does not permit and ErrForm, or
// ErrEnd behind them all if the grammar asks for more, or OK.
func (j *judge) wrong(tokens []string) (int, api.Errno) {
	paths := j.open(&path{&part{op: "rule", word: "text"}, nil})
	for i, token := range tokens {
		var next []*path
		for _, p := range paths {
			if p != nil && j.fits(p.first.word, token) {
				next = append(next, j.open(p.rest)...)
			}
		}
		if len(next) == 0 {
			return i, api.ErrForm
		}
		paths = next
	}
	if slices.Contains(paths, nil) {
		return 0, api.OK
	}
	return len(tokens), api.ErrEnd
}

// spaced puts something around the tokens and between them; it returns the offsets of all tokens
// too, and the length behind them.
func spaced(tokens []string, space string) (string, []int) {
	var s strings.Builder
	var places []int
	s.WriteString(space)
	for _, token := range tokens {
		places = append(places, s.Len())
		s.WriteString(token + space)
	}
	return s.String(), append(places, s.Len())
}

// hold holds Text against the grammar.
func (j *judge) hold(t *testing.T, tokens []string, space string) {
	t.Helper()
	s, places := spaced(tokens, space)
	at, want := j.wrong(tokens)
	if want != api.OK {
		expectError(t, s, places[at], want)
		return
	}
	count := 0
	for _, token := range tokens {
		if token == ";" {
			count++
		}
	}
	if l, at, err := parse.Text(s); len(l) != count || at != 0 || err != api.OK {
		t.Errorf("Text(%q) = %s, %d, %d; want %d items", s, brief(l), at, err, count)
	}
}

// samples are items, in all of the grammar's ways, with a space between each two tokens.
func samples() []string {
	l := []string{
		"int : n = 3 ;", "bool : b = true ;", "bool : b = false ;",
		"constraint c ( ) ;", "constraint c ( x ) ;", "constraint c ( x , 1 , true , false ) ;", "constraint c ( [ ] ) ;", "constraint c ( [ 1 , x , true ] , y , [ false ] , [ 2 ] ) ;",
		"solve satisfy ;", "solve minimize x ;", "solve maximize x ;",
	}
	for _, dom := range []string{"bool", "1 .. 3", "{ 1 }", "{ 1 , 3 , -5 }"} {
		for _, out := range []string{"", ":: output_var "} {
			for _, value := range []string{"", "= 2 ", "= true ", "= false ", "= n "} {
				l = append(l, "var "+dom+" : x "+out+value+";")
			}
		}
	}
	for _, begin := range []string{"int : a", "bool : a", "var int : a", "var bool : a", "var int : a :: output_array ( [ 1 .. 2 ] )", "var bool : a :: output_array ( [ 1 .. 2 ] )"} {
		for _, elements := range []string{"[ ]", "[ 1 ]", "[ x , 2 , false , true ]"} {
			l = append(l, "array [ 1 .. 2 ] of "+begin+" = "+elements+" ;")
		}
	}
	return l
}

// allTokens are every keyword, every sign, some names like keywords, and some numbers.
func allTokens() []string {
	l := append(slices.Clone(allKeywords), "::", "..", ":", "{", "}", "[", "]", "(", ")", ",", ";", "=")
	return append(l, "x", "Int", "_", "vars", "tru", "output", "0", "1", "2", "-1", "01", "002", "3")
}

// P6.1, P6.2: all samples, and the samples with another token at each place, one token more, one
// less, and two that have changed places.
func TestEachPlace(t *testing.T) {
	j := judge{rules: readGrammar()}
	for _, sample := range samples() {
		tokens := strings.Fields(sample)
		j.hold(t, tokens, " ")
		if _, err := j.wrong(tokens); err != api.OK {
			t.Fatalf("%q is wrong", sample)
		}
		for i := range tokens {
			j.hold(t, slices.Delete(slices.Clone(tokens), i, i+1), " ")
			if i > 0 {
				turned := slices.Clone(tokens)
				turned[i-1], turned[i] = turned[i], turned[i-1]
				j.hold(t, turned, " ")
			}
			for _, other := range allTokens() {
				replaced := slices.Clone(tokens)
				replaced[i] = other
				j.hold(t, replaced, " ")
				j.hold(t, slices.Insert(slices.Clone(tokens), i, other), " ")
			}
		}
	}
}

// P6.1, P6.2: the samples cut off behind each place, with white space of all kinds behind it, alone
// and behind another item.
func TestEachEnd(t *testing.T) {
	j := judge{rules: readGrammar()}
	for _, sample := range samples() {
		tokens := strings.Fields(sample)
		for i := 1; i < len(tokens); i++ {
			if _, err := j.wrong(tokens[:i]); err != api.ErrEnd {
				t.Errorf("%q is %d", tokens[:i], err)
			}
			for _, space := range []string{" ", "\n", " \t\r\n ", "%\n", "% ; 1 ]\n\t"} {
				j.hold(t, tokens[:i], space)
				j.hold(t, append(strings.Fields("int : k = 1 ;"), tokens[:i]...), space)
			}
			s, _ := spaced(tokens[:i], " ")
			expectError(t, s+"% the end", len(s)+9, api.ErrEnd)
			expectError(t, s[:len(s)-1], len(s)-1, api.ErrEnd)
		}
	}
}

// P6.1: a wrong token behind other items, and before them: what follows it changes nothing.
func TestWrongTokenAmongItems(t *testing.T) {
	j := judge{rules: readGrammar()}
	all := samples()
	for i, sample := range all {
		tokens := strings.Fields(sample)
		before := strings.Fields(all[(i+1)%len(all)] + " " + all[(i+7)%len(all)])
		after := strings.Fields(all[(i+3)%len(all)])
		for k := range tokens {
			for _, other := range []string{";", "1", "x", "var", "[", "]", ",", "true", "::"} {
				changed := slices.Concat(before, tokens[:k], []string{other}, tokens[k+1:], after)
				j.hold(t, changed, " ")
				j.hold(t, changed, "\n% a ;\n")
			}
		}
	}
}

// P6.1, P6.2: all texts of at most three tokens.
func TestFewTokens(t *testing.T) {
	j := judge{rules: readGrammar()}
	all := allTokens()
	for _, a := range all {
		j.hold(t, []string{a}, " ")
		for _, b := range all {
			j.hold(t, []string{a, b}, " ")
			for _, c := range all {
				j.hold(t, []string{a, b, c}, " ")
			}
		}
	}
}

// P6.1: no keyword is a name, in none of the places of a name, and names like keywords are.
func TestKeywordsAsNames(t *testing.T) {
	places := []string{"int: ", "bool: ", "var bool: ", "var 1..2: ", "var {1}: ", "var bool: x = ", "array [1..1] of int: ", "array [1..1] of var bool: ", "array [1..1] of int: a = [", "array [1..1] of var int: a = [x, ", "constraint ", "constraint c(", "constraint c(1, ", "constraint c([", "constraint c([x, ", "solve minimize ", "solve maximize "}
	for _, place := range places {
		for _, keyword := range allKeywords {
			if (keyword == "true" || keyword == "false") && strings.ContainsAny(place[len(place)-2:], "([,=") {
				expectError(t, place+keyword, len(place)+len(keyword), api.ErrEnd)
				continue
			}
			expectError(t, place+keyword, len(place), api.ErrForm)
			expectError(t, place+keyword+" = 1;", len(place), api.ErrForm)
		}
		for _, keyword := range allKeywords {
			for _, name := range []string{keyword + "_", "_" + keyword, keyword + "1", strings.ToUpper(keyword), strings.ToUpper(keyword[:1]) + keyword[1:], keyword[1:], keyword + keyword} {
				if !slices.Contains(allKeywords, name) {
					expectError(t, place+name, len(place+name), api.ErrEnd)
				}
			}
		}
	}
}
