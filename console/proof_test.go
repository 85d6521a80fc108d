package console_test

import (
	"strings"
	"testing"
)

// P20.1: proofs of equations and disequalities, in a query and in a clause.
func TestProofsOfEquations(t *testing.T) {
	wantNew(t, "load\nask X = a, dif(X, b), a = X.\nnext\nproof\nproof", "ok\nok\nX = a\n"+strings.Repeat("0 = in query 0\n1 dif in query 1\n2 = in query 2\n", 2))
	wantNew(t, "load p(X) :- dif(X, b), X = a, dif(X, Y). q(X) :- dif(X, c), p(X).\nask dif(X, d), q(X).\nnext\nproof", `ok
ok
X = a, dif(a, V1)
0 dif in query 0
1 q/1 by clause 1 in query 1
2 dif in 1 0
3 p/1 by clause 0 in 1 1
4 dif in 3 0
5 = in 3 1
6 dif in 3 2
`)
}

// P20.1: proofs of calls by clauses: of each its number in the program, of all predicates.
func TestProofsByClauses(t *testing.T) {
	wantNew(t, natural+"ask n(X).\nall 3 9\nproof\nnext\nproof", `ok
ok
X = 0
X = E1 where E1 = s(0)
X = E1 where E1 = s(s(0))
0 n/1 by clause 1 in query 0
1 n/1 by clause 1 in 0 0
2 n/1 by clause 0 in 1 0
X = E1 where E1 = s(s(s(0)))
0 n/1 by clause 1 in query 0
1 n/1 by clause 1 in 0 0
2 n/1 by clause 1 in 1 0
3 n/1 by clause 0 in 2 0
`)
	wantNew(t, "load a. b. c :- a, b. d :- c, c. b :- a.\nask d, b.\nnext\nproof\nall 2 9\nproof", `ok
ok
yes
0 d/0 by clause 3 in query 0
1 b/0 by clause 1 in query 1
2 c/0 by clause 2 in 0 0
3 c/0 by clause 2 in 0 1
4 a/0 by clause 0 in 2 0
5 b/0 by clause 1 in 2 1
6 a/0 by clause 0 in 3 0
7 b/0 by clause 1 in 3 1
yes
yes
0 d/0 by clause 3 in query 0
1 b/0 by clause 1 in query 1
2 c/0 by clause 2 in 0 0
3 c/0 by clause 2 in 0 1
4 a/0 by clause 0 in 2 0
5 b/0 by clause 1 in 2 1
6 a/0 by clause 0 in 3 0
7 b/0 by clause 4 in 3 1
8 a/0 by clause 0 in 7 0
`)
	// Numbers of several digits.
	many := open(t, 5000)
	wantRun(t, many, "load "+repeated("p(#). ", 200)+"q :- "+list("p(199)", 32)+".\nask q.\nnext", "ok\nok\nyes\n")
	lines := strings.Split(many.Run("proof"), "\n")
	if len(lines) != 34 || lines[0] != "0 q/0 by clause 200 in query 0" || lines[1] != "1 p/1 by clause 199 in 0 0" || lines[11] != "11 p/1 by clause 199 in 0 10" || lines[32] != "32 p/1 by clause 199 in 0 31" {
		t.Errorf("%q", lines)
	}
}

// P20.1: proofs of calls by calls above; of predicates of both kinds, and of names that want quotes.
func TestProofsByCalls(t *testing.T) {
	wantNew(t, stream+"ask X = [0|X], s(X).\nall 2 9\nproof", `ok
ok
X = E1 where E1 = [0|E1]
X = E1 where E1 = [0|E1]
0 = in query 0
1 s/1 by clause 0 in query 1
2 s/1 by clause 0 in 1 0
3 s/1 by call 2 in 2 0
`)
	// The call above that is taken needn't be the nearest.
	wantNew(t, "load co 'It\\'s'/2. co b/1. 'It\\'s'(X, Y) :- b(X), c, 'It\\'s'(Y, X). b(f(X)) :- b(X). c.\nask 'It\\'s'(X, Y), X = f(X), dif(Y, a).\nnext\nproof", `ok
ok
X = E1, Y = E1 where E1 = f(E1)
0 'It\'s'/2 by clause 0 in query 0
1 = in query 1
2 dif in query 2
3 b/1 by clause 1 in 0 0
4 c/0 by clause 2 in 0 1
5 'It\'s'/2 by call 0 in 0 2
6 b/1 by call 3 in 3 0
`)
	wantNew(t, "load co p/1. p(f(X)) :- p(X).\nask p(f(g(X))).\nnext\nask p(X), X = f(f(f(X))).\nnext\nproof", `ok
ok
no
ok
X = E1 where E1 = f(E1)
0 p/1 by clause 0 in query 0
1 = in query 1
2 p/1 by call 0 in 0 0
`)
	wantNew(t, "load co p/1. p(f(X)) :- p(X). p(g(X)) :- p(X).\nask X = f(g(X)), p(X).\nnext\nproof", `ok
ok
X = E1 where E1 = f(g(E1))
0 = in query 0
1 p/1 by clause 0 in query 1
2 p/1 by clause 1 in 1 0
3 p/1 by call 1 in 2 0
`)
	// An inductive predicate has co in its name, a coinductive one, too.
	wantNew(t, "load co. co(X) :- co. co co/2. co(X, Y) :- co(X), co(Y, X). 'co'(a, b, c).\nask co(a, b), co(A, B, C).\npreds\nnext\nproof", `ok
ok
co co/2
co/0
co/1
co/3
A = a, B = b, C = c
0 co/2 by clause 2 in query 0
1 co/3 by clause 3 in query 1
2 co/1 by clause 1 in 0 0
3 co/2 by clause 2 in 0 1
4 co/0 by clause 0 in 2 0
5 co/1 by clause 1 in 3 0
6 co/2 by call 0 in 3 1
7 co/0 by clause 0 in 5 0
`)
}

// P20.1: without an answer there is no proof.
func TestNoProof(t *testing.T) {
	wantNew(t, "proof\n"+natural+"proof\nask n(X).\nproof\nnext\nproof\nnext 1\nproof\nnext\nproof\nask n(\nproof", `error 192 by 181
ok
error 192 by 181
ok
error 192 by 184
X = 0
0 n/1 by clause 0 in query 0
error 192 by 182
error 192 by 184
X = E1 where E1 = s(0)
0 n/1 by clause 1 in query 0
1 n/1 by clause 0 in 0 0
error 191 at 2 by 72 at 2
error 192 by 181
`)
	// Behind a program that is refused, and behind a compaction, it is as it was.
	c := open(t, 5000)
	wantRun(t, c, natural+"ask n(X).\nnext\nload p :- q.\nproof", "ok\nok\nX = 0\nerror 190 at 0 by 166 at 0 of q/0\n0 n/1 by clause 0 in query 0\n")
	c.Run("compact")
	wantRun(t, c, "proof\nused\npreds", "0 n/1 by clause 0 in query 0\n1\nn/1\n")
}
