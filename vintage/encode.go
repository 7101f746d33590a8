package vintage

import (
	"strconv"
	"strings"

	"priceoffice/api"
)

// Encode returns the canonical text of a file without its day of receipt.
func Encode(f api.File) string {
	var w fileWriter
	w.word(f.ID)
	w.number(f.Version)
	w.number(f.Kind)
	writeList(&w.writer, f.Messages, w.message)
	writeList(&w.writer, f.Rows, w.row)
	writeList(&w.writer, f.Rates, w.rate)
	return w.text.String()
}

// writer collects a text of strings and numbers. Every string says how long it is, so none can be taken for another.
type writer struct {
	text strings.Builder
}

func (w *writer) word(s string) {
	w.put(strconv.Itoa(len(s)), ":", s)
}

func (w *writer) number(n int) {
	w.amount(int64(n))
}

func (w *writer) amount(n int64) {
	w.put(strconv.FormatInt(n, 10))
}

func (w *writer) put(parts ...string) {
	for _, part := range parts {
		w.text.WriteString(part)
	}
	w.text.WriteByte(',')
}

func (w *writer) slot(outlet, product string, period int) {
	w.word(outlet)
	w.word(product)
	w.number(period)
}

// writeList writes the number of elements and each element.
func writeList[T any](w *writer, elements []T, write func(element T)) {
	w.number(len(elements))
	for _, element := range elements {
		write(element)
	}
}

// fileWriter is a writer of the elements of files.
type fileWriter struct {
	writer
}

func (w *fileWriter) message(m api.Message) {
	w.word(m.Device)
	w.number(m.Sequence)
	w.number(m.Kind)
	w.visit(m.Visit)
	w.decision(m.Decision)
}

func (w *fileWriter) visit(v api.Visit) {
	w.slot(v.Outlet, v.Product, v.Period)
	w.number(v.Day)
	w.number(v.Status)
	w.amount(v.Price)
	w.word(v.Replacement)
}

func (w *fileWriter) decision(d api.Decision) {
	w.slot(d.Outlet, d.Product, d.Period)
	w.word(d.Device)
	w.number(d.Number)
}

func (w *fileWriter) row(r api.Row) {
	w.slot(r.Outlet, r.Product, r.Period)
	w.amount(r.Units)
	w.amount(r.Turnover)
}

func (w *fileWriter) rate(r api.Rate) {
	w.slot(r.Outlet, r.Product, r.Period)
	w.amount(r.Tariff.Standing)
	writeList(&w.writer, r.Tariff.Blocks, w.block)
}

func (w *fileWriter) block(b api.Block) {
	w.amount(b.UpTo)
	w.amount(b.Price)
}
