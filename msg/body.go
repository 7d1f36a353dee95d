package msg

import (
	"strings"

	"checkroll/api"
	"checkroll/field"
	"checkroll/num"
)

// The tags, by what stands behind them.
const (
	tagAccount  = 1
	tagFrom     = 7
	tagOrder    = 11
	tagTo       = 16
	tagID       = 17
	tagRef      = 19
	tagPrice    = 31
	tagQty      = 32
	tagSeq      = 34
	tagKind     = 35
	tagNext     = 36
	tagCopy     = 43
	tagTime     = 52
	tagSide     = 54
	tagSymbol   = 55
	tagExecTime = 60
	tagEvery    = 108
	tagText     = 112
	tagGap      = 123
	tagExecKind = 150
)

const (
	// kinds are the values of the tag of the kind, from Logon on.
	kinds = "A012458"
	// yes is the value of a flag that is set; one that isn't has no field.
	yes = "Y"
	// buys and sells are the values of the tag of the side.
	buys  = "1"
	sells = "2"
)

// fields are those of a body.
type fields []api.Field

// fieldsOf a message that may be.
func fieldsOf(m api.Msg) fields {
	var l fields
	l.putText(tagKind, kinds[m.Kind-api.Logon:][:1])
	l.putNumber(tagSeq, m.Seq)
	l.putNumber(tagTime, m.Time)
	l.putFlag(tagCopy, m.Copy)
	switch m.Kind {
	case api.Logon:
		l.putNumber(tagEvery, m.A)
	case api.Beat, api.Test:
		l.putTextIfThere(tagText, m.Text)
	case api.Resend:
		l.putNumber(tagFrom, m.A)
		l.putNumber(tagTo, m.B)
	case api.Reset:
		l.putFlag(tagGap, m.Gap)
		l.putNumber(tagNext, m.A)
	case api.Report:
		l.putExec(m.Exec)
	}
	return l
}

// messageOf is the message that is told by the first field of each tag that
// its kind names. It need not be one that may be.
func messageOf(l fields) api.Msg {
	m := api.Msg{
		Kind: api.Logon + strings.Index(kinds, l.text(tagKind)),
		Seq:  l.number(tagSeq),
		Time: l.number(tagTime),
		Copy: l.flag(tagCopy),
	}
	switch m.Kind {
	case api.Logon:
		m.A = l.number(tagEvery)
	case api.Beat, api.Test:
		m.Text = l.text(tagText)
	case api.Resend:
		m.A, m.B = l.number(tagFrom), l.number(tagTo)
	case api.Reset:
		m.A, m.Gap = l.number(tagNext), l.flag(tagGap)
	case api.Report:
		m.Exec = l.exec()
	}
	return m
}

func (l *fields) putExec(x api.Exec) {
	l.putText(tagID, x.ID)
	l.putTextIfThere(tagRef, x.Ref)
	l.putText(tagOrder, x.Order)
	l.putText(tagAccount, x.Account)
	l.putText(tagSymbol, x.Symbol)
	side := sells
	if x.Buy {
		side = buys
	}
	l.putText(tagSide, side)
	l.putNumber(tagExecKind, int64(x.Kind))
	l.putNumber(tagQty, x.Qty)
	l.putNumber(tagPrice, x.Price)
	l.putNumber(tagExecTime, x.Time)
}

func (l fields) exec() api.Exec {
	return api.Exec{
		ID:      l.text(tagID),
		Ref:     l.text(tagRef),
		Order:   l.text(tagOrder),
		Account: l.text(tagAccount),
		Symbol:  l.text(tagSymbol),
		Kind:    int(l.number(tagExecKind)),
		Buy:     l.text(tagSide) == buys,
		Qty:     l.number(tagQty),
		Price:   l.number(tagPrice),
		Time:    l.number(tagExecTime),
	}
}

func (l *fields) putText(tag int, value string) {
	*l = append(*l, api.Field{Tag: tag, Value: value})
}

func (l *fields) putTextIfThere(tag int, value string) {
	if value != "" {
		l.putText(tag, value)
	}
}

func (l *fields) putNumber(tag int, n int64) { l.putText(tag, num.Show(n)) }

func (l *fields) putFlag(tag int, on bool) {
	if on {
		l.putText(tag, yes)
	}
}

// text is empty, where there is none.
func (l fields) text(tag int) string {
	value, _ := field.Get(l, tag)
	return value
}

// number is 0, where there is none.
func (l fields) number(tag int) int64 {
	n, _ := field.Num(l, tag)
	return n
}

func (l fields) flag(tag int) bool { return l.text(tag) == yes }
