// Package satchel: bundles fetched through mirrors, checked, and kept: see DOC.md.
package satchel

import (
	"satchel/api"
	"satchel/bundle"
	"satchel/deflate"
	"satchel/digest"
	"satchel/info"
	"satchel/names"
	"satchel/reply"
)

// CheckName tells whether it is a name (P3).
func CheckName(name string) api.Errno { return number(names.CheckName(name)) }

// CheckVersion tells whether it is a version (P3).
func CheckVersion(version string) api.Errno { return number(names.CheckVersion(version)) }

// Compare tells which of two versions is the greater (P3).
func Compare(a string, b string) (int, api.Errno) {
	order, err := names.Compare(a, b)
	return order, number(err)
}

// Escape escapes capital letters (P3).
func Escape(s string) (string, api.Errno) {
	escaped, err := names.Escape(s)
	return escaped, number(err)
}

// Unescape undoes Escape (P3).
func Unescape(s string) (string, api.Errno) {
	plain, err := names.Unescape(s)
	return plain, number(err)
}

// Digest tells the SHA-256 (P4).
func Digest(s string) string { return digest.Of(s) }

// Inflate tells what a deflated text gives (P4).
func Inflate(s string, most int) (string, api.Errno) {
	plain, err := deflate.Inflate(s, most)
	return plain, number(err)
}

// Unpack tells an archive's files (P5).
func Unpack(archive string, name string, version string) ([]api.File, api.Errno) {
	files, err := bundle.Unpack(archive, name, version)
	return files, number(err)
}

// Sum tells the sum of a head or an archive (P5).
func Sum(kind int, body string, name string, version string) (string, api.Errno) {
	sum, err := bundle.Sum(kind, body, name, version)
	return sum, number(err)
}

// Read reads the reply to a dial (P6).
func Read(d api.Dial, deadline int, limit int) api.Reply { return reply.Read(d, deadline, limit) }

// Info reads what is told of a version (P7).
func Info(text string) (api.About, api.Errno) {
	about, err := info.Read(text)
	return about, number(err)
}

// List reads versions (P7).
func List(text string) []string { return names.List(text) }
