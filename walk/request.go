package walk

import "strconv"

const lineEnd = "\r\n"

// request is what a mirror is asked.
func (g *Goal) request(mirror string) string {
	text := "GET " + g.Path + " HTTP/1.1" + lineEnd + "Host: " + mirror + lineEnd
	if g.asksRest(mirror) {
		text += "Range: bytes=" + strconv.Itoa(len(g.Left.Bytes)) + "-" + lineEnd + "If-Range: " + g.Left.Tag + lineEnd
	}
	return text + lineEnd
}
