package world

import (
	"strconv"
	"strings"

	"mahout/api"
	"mahout/paths"
)

// What stands in the directory of all jobs, and in a job's.
const (
	jobsDirectory = "/jobs"
	asideHead     = ".aside-" // how the names begin of what isn't submitted yet
	specName      = "spec"
	tokenName     = "token"
	readyName     = "ready"
	failedHead    = "failed-"
	outName       = "out"
	workName      = "work"
	trashName     = "trash"
	partHead      = "part-"
	markerName    = "_SUCCESS"
)

// below: the path of a name in a directory.
func below(directory, name string) string {
	return directory + "/" + name
}

func jobDirectory(name string) string {
	return below(jobsDirectory, name)
}

// asideDirectory: where a client lays a job aside.
func asideDirectory(client, act int) string {
	return jobDirectory(asideHead + strconv.Itoa(client) + "-" + strconv.Itoa(act))
}

// tells: does a name in a job's directory tell how it stands with the job?
func tells(name string) bool {
	state, _ := StateOf([]string{name})
	return state != Absent || name == outName || name == trashName
}

// isJobs: does a path lie where a job's directory tells how it stands with the job? What another job put there would be taken for this one's.
func isJobs(path string) bool {
	parts, _ := paths.Split(path)
	return paths.Within(path, jobsDirectory) && len(parts) > 2 && tells(parts[2])
}

// isAside: is it the name of a job that isn't submitted yet?
func isAside(name string) bool {
	return strings.HasPrefix(name, asideHead)
}

func partName(part int) string {
	return partHead + strconv.Itoa(part)
}

// partFile: the file for what the attempt with this ticket makes of a part.
func partFile(directory string, part, ticket int) string {
	return below(directory, partName(part)+"-"+strconv.Itoa(ticket))
}

func failedName(code api.Errno) string {
	return failedHead + strconv.Itoa(int(code))
}
