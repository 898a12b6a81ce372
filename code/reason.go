package code

import "interchange/api"

// closeConn and closeChan are the methods that close a connection and a channel: class and id.
var (
	closeConn = [2]int{api.CConn, 50}
	closeChan = [2]int{api.CChan, 40}
)

// reason is why something is closed: the error, and what the other side is told of it.
type reason struct {
	e     api.Errno
	code  int
	text  string
	soft  bool // it closes the channel alone
	apart bool // it keeps its error, if the other side closes with it
}

// reasons are all, rising by code. The last one stands for whatever isn't among those ahead of it.
var reasons = [...]reason{
	{e: api.OK, code: 200, text: "REPLY_SUCCESS"},
	{e: api.ErrBig, code: 311, text: "CONTENT_TOO_LARGE", soft: true, apart: true},
	{e: api.ErrPeer, code: 320, text: "CONNECTION_FORCED", apart: true},
	{e: api.ErrNone, code: 404, text: "NOT_FOUND", soft: true, apart: true},
	{e: api.ErrTag, code: 406, text: "PRECONDITION_FAILED", soft: true, apart: true},
	{e: api.ErrFrame, code: 501, text: "FRAME_ERROR"},
	{e: api.ErrSyntax, code: 502, text: "SYNTAX_ERROR"},
	{e: api.ErrWhen, code: 503, text: "COMMAND_INVALID"},
	{e: api.ErrChan, code: 504, text: "CHANNEL_ERROR"},
	{e: api.ErrUnexp, code: 505, text: "UNEXPECTED_FRAME"},
	{e: api.ErrFull, code: 506, text: "RESOURCE_ERROR", apart: true},
	{e: api.ErrThere, code: 530, text: "NOT_ALLOWED"},
	{e: api.ErrArg, code: 541, text: "INTERNAL_ERROR"},
}

// find is the first reason of which wanted holds; the last one, if it holds of none ahead.
func find(wanted func(reason) bool) reason {
	last := len(reasons) - 1
	for i := range last {
		if wanted(reasons[i]) {
			return reasons[i]
		}
	}
	return reasons[last]
}
