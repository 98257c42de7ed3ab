package syntax

import "nursery/api"

const (
	maxDecls    = 32
	maxPriority = 9
)

// declShape is what the declarations of a Kind have beside their names.
type declShape struct {
	word     string // with which they begin
	kind     int
	hasA     bool
	leastA   int
	mostB    int // 0 if they have no B
	hasName2 bool
}

var declShapes = [...]declShape{
	{word: "var", kind: api.VarDecl, hasA: true, leastA: -api.MaxInt},
	{word: "atomic", kind: api.AtomicDecl, hasA: true, leastA: -api.MaxInt},
	{word: "mutex", kind: api.MutexKind},
	{word: "rwlock", kind: api.RWLockKind},
	{word: "cond", kind: api.CondKind, hasName2: true},
	{word: "semaphore", kind: api.SemaphoreKind, hasA: true, mostB: 1},
	{word: "barrier", kind: api.BarrierKind, hasA: true},
	{word: "channel", kind: api.ChannelKind, hasA: true},
	{word: "topic", kind: api.TopicKind, hasA: true},
	{word: "limiter", kind: api.LimiterKind, hasA: true, mostB: api.MaxInt},
	{word: "future", kind: api.FutureKind},
}

// findDeclShape returns the first shape of declarations that is wanted, if there is one.
func findDeclShape(isWanted func(declShape) bool) (declShape, bool) {
	for _, f := range declShapes {
		if isWanted(f) {
			return f, true
		}
	}
	return declShape{}, false
}

// declShapeOf returns the shape of a declaration, if its Kind is valid.
func declShapeOf(d api.Decl) (declShape, bool) {
	return findDeclShape(func(f declShape) bool { return f.kind == d.Kind })
}

// procWords are the words with which procedures begin, by their Kinds.
var procWords = [...]string{api.TaskProc: "task", api.FuncProc: "func", api.CleanupProc: "cleanup"}

// operations are the operations on objects, with the numbers of their Exprs and Names.
var operations = [...]struct {
	word             string
	op, exprs, names int
}{
	{"lock", api.OpLock, 0, 0},
	{"trylock", api.OpTryLock, 0, 1},
	{"unlock", api.OpUnlock, 0, 0},
	{"readlock", api.OpReadLock, 0, 0},
	{"readunlock", api.OpReadUnlock, 0, 0},
	{"writelock", api.OpWriteLock, 0, 0},
	{"writeunlock", api.OpWriteUnlock, 0, 0},
	{"wait", api.OpWait, 0, 0},
	{"signal", api.OpSignal, 0, 0},
	{"broadcast", api.OpBroadcast, 0, 0},
	{"acquire", api.OpAcquire, 1, 0},
	{"tryacquire", api.OpTryAcquire, 1, 1},
	{"release", api.OpRelease, 1, 0},
	{"arrive", api.OpArrive, 0, 1},
	{"send", api.OpSend, 1, 0},
	{"receive", api.OpReceive, 0, 2},
	{"close", api.OpCloseChannel, 0, 0},
	{"publish", api.OpPublish, 1, 0},
	{"subscribe", api.OpSubscribe, 0, 0},
	{"next", api.OpNext, 0, 1},
	{"unsubscribe", api.OpUnsubscribe, 0, 0},
	{"take", api.OpTake, 1, 0},
	{"complete", api.OpComplete, 1, 0},
	{"await", api.OpAwait, 0, 1},
}

// count is how many elements a list has at least, and at most.
type count struct{ least, most int }

func exactly(n int) count {
	return count{n, n}
}

func (c count) allows(n int) bool {
	return n >= c.least && n <= c.most
}

// head is how the part of a statement between its first word and its blocks, or its end, is read and written.
type head struct {
	read  func(r *reader, s *api.Stmt, f shape)
	write func(s api.Stmt) string
}

// shape is what the statements of a Kind consist of, or those of an Op on objects.
type shape struct {
	word     string // with which they begin; an assignment has none
	kind, op int
	named    bool // they have a Name,
	nameless bool // which may be empty
	names    count
	exprs    count
	body     bool
	orElse   bool
	cases    count
	head
}

// shapesOfKinds returns the shapes of the statements that are no operations on objects.
func shapesOfKinds() []shape {
	assignment := head{readAssignment, writeAssignment}
	values := head{readValues, writeValues}
	begin := head{readBegin, writeValues}
	scope := head{readScope, writeScope}
	invocation := head{readInvocation, writeInvocation}
	operation := head{readOperation, writeOperation}
	arguments := count{0, api.MaxArgs}
	return []shape{
		{word: "let", kind: api.LetStmt, named: true, exprs: exactly(1), head: assignment},
		{kind: api.AssignStmt, named: true, exprs: exactly(1), head: assignment},
		{word: "if", kind: api.IfStmt, exprs: exactly(1), body: true, orElse: true, head: values},
		{word: "while", kind: api.WhileStmt, exprs: exactly(1), body: true, head: values},
		{word: "repeat", kind: api.RepeatStmt, exprs: exactly(1), body: true, head: values},
		{word: "return", kind: api.ReturnStmt, exprs: exactly(1), head: values},
		{word: "fail", kind: api.FailStmt, exprs: exactly(1), head: values},
		{word: "assert", kind: api.AssertStmt, exprs: exactly(1), head: values},
		{word: "emit", kind: api.EmitStmt, exprs: exactly(1), head: values},
		{word: "sleep", kind: api.SleepStmt, exprs: exactly(1), head: values},
		{word: "yield", kind: api.YieldStmt, head: values},
		{word: "checkpoint", kind: api.CheckpointStmt, head: values},
		{word: "cancel", kind: api.CancelStmt, head: values},
		{word: "scope", kind: api.ScopeStmt, named: true, nameless: true, exprs: exactly(2), body: true, head: scope},
		{word: "mask", kind: api.MaskStmt, body: true, head: values},
		{word: "spawn", kind: api.SpawnStmt, named: true, exprs: arguments, head: invocation},
		{word: "call", kind: api.CallStmt, named: true, names: count{0, 1}, exprs: arguments, head: invocation},
		{word: "defer", kind: api.DeferStmt, named: true, exprs: arguments, head: invocation},
		{word: "select", kind: api.SelectStmt, cases: count{1, api.MaxCases}, head: values},
		{word: "add", kind: api.AddStmt, named: true, names: exactly(1), exprs: exactly(1), head: operation},
		{word: "swap", kind: api.SwapStmt, named: true, names: exactly(1), exprs: exactly(2), head: operation},
		{word: "begin", kind: api.BeginStmt, exprs: exactly(2), head: begin},
		{word: "end", kind: api.EndStmt, exprs: exactly(1), head: values},
	}
}

// shapes are the shapes of all statements.
type shapes []shape

func allShapes() shapes {
	l := shapesOfKinds()
	operation := head{readOperation, writeOperation}
	for _, o := range operations {
		l = append(l, shape{word: o.word, kind: api.ObjectStmt, op: o.op, named: true, names: exactly(o.names), exprs: exactly(o.exprs), head: operation})
	}
	return l
}

// of returns the shape of a statement, if its Kind, and the Op of an operation on an object, are valid.
func (l shapes) of(s api.Stmt) (shape, bool) {
	for _, f := range l {
		if f.kind == s.Kind && (f.op == s.Op || f.kind != api.ObjectStmt) {
			return f, true
		}
	}
	return shape{}, false
}

// byWord returns the shapes by the words with which statements begin.
func (l shapes) byWord() map[string]shape {
	words := map[string]shape{}
	for _, f := range l {
		if f.word != "" {
			words[f.word] = f
		}
	}
	return words
}
