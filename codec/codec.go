// Package codec is layer 1: numbers and bytes as texts, and numbers as bytes. See shared/doc/01-codec.md.
package codec
