package bundle

import (
	"strings"
	"sync"

	"satchel/api"
	"satchel/digest"
	"satchel/keys"
)

// Sum tells the sum of a head, or of an archive of the name and version.
func Sum(kind int, body string, name string, version string) (string, error) {
	if err := keys.Check(api.Key{Kind: kind, Name: name, Version: version}); err != nil {
		return "", err
	}
	if kind == api.Head {
		return digest.Of(line(digest.Of(body), "head")), nil
	}
	files, err := Unpack(body, name, version)
	if err != nil {
		return "", err
	}
	return filesSum(files), nil
}

// filesSum takes the files by rising names.
func filesSum(files []api.File) string {
	var text strings.Builder
	for i, sum := range fileSums(files) {
		text.WriteString(line(sum, files[i].Name))
	}
	return digest.Of(text.String())
}

// fileSums has a goroutine for each file; each has a place of its own to tell the sum.
func fileSums(files []api.File) []string {
	sums := make([]string, len(files))
	var running sync.WaitGroup
	for i, file := range files {
		running.Go(func() { sums[i] = digest.Of(file.Data) })
	}
	running.Wait()
	return sums
}

func line(sum string, name string) string {
	return sum + "  " + name + "\n"
}
