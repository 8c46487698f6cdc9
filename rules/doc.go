// Package rules has tests of the program's text: whether it keeps to the language, and leans on the ways that the document asks for.
package rules
