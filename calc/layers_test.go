package calc_test

import (
	"go/parser"
	"go/token"
	"path/filepath"
	"slices"
	"strconv"
	"strings"
	"testing"
)

// layers are the packages of the document's map, from the lowest to the highest.
var layers = []string{"word", "gold", "mont", "nat", "prod", "quot", "ntt", "ring", "trio", "mul", "newt", "root", "radix", "crc", "disk", "keep", "series", "digits", "plan", "calc"}

// library are the packages of Go's own library that the program may import.
var library = []string{"bytes", "cmp", "container/heap", "errors", "iter", "maps", "math", "math/bits", "slices", "sort", "strconv", "strings", "sync", "sync/atomic", "unicode", "unicode/utf8"}

// importsOf are the paths that the package in a folder imports, without those of its tests.
func importsOf(t *testing.T, folder string) []string {
	t.Helper()
	files, err := filepath.Glob(filepath.Join("..", folder, "*.go"))
	if err != nil || len(files) == 0 {
		t.Fatalf("no files in %s: %v", folder, err)
	}
	var paths []string
	for _, f := range files {
		if strings.HasSuffix(f, "_test.go") {
			continue
		}
		a, err := parser.ParseFile(token.NewFileSet(), f, nil, parser.ImportsOnly)
		if err != nil {
			t.Fatal(err)
		}
		for _, i := range a.Imports {
			path, _ := strconv.Unquote(i.Path.Value)
			paths = append(paths, path)
		}
	}
	return paths
}

// TestLayers: the document's map: a layer imports no layer that is not below it, and nothing from outside.
func TestLayers(t *testing.T) {
	for n, l := range layers {
		for _, path := range importsOf(t, l) {
			own, ours := strings.CutPrefix(path, "tallystick/")
			if slices.Contains(layers[n:], own) || !ours && !slices.Contains(library, path) {
				t.Errorf("package %s imports %s", l, path)
			}
		}
	}
}
