"""Runs each test file of the project and of ../shared/tests; fails if one fails or if no test ran.

Each file has a process of its own, so that two files of the same name in two folders don't clash.
"""

import os
import re
import subprocess
import sys
from pathlib import Path

ROOT = Path(__file__).resolve().parent.parent
FOLDERS = [ROOT / "tests", ROOT.parent / "shared" / "tests"]
ALSO_MEANT_FOR = ["python3.11", "python3.13"]
# From Python 3.12 on, unittest ends with this where a file holds no test.
NO_TEST = 5


def version_of(python):
    try:
        told = subprocess.run([python, "-c", "import sys; print(sys.version)"], capture_output=True, text=True)
    except OSError:
        return None
    return told.stdout if told.returncode == 0 else None


def pythons():
    found = {version_of(sys.executable): sys.executable}
    for name in ALSO_MEANT_FOR:
        version = version_of(name)
        if version is None:
            print(f"{name} does not run here: left out")
        else:
            found.setdefault(version, name)
    return list(found.values())


def run_file(python, path):
    """How many tests of the file ran, and whether all is well with it."""
    surroundings = dict(os.environ, PYTHONPATH=str(ROOT), PYTHONDONTWRITEBYTECODE="1")
    done = subprocess.run(
        [python, "-m", "unittest", "discover", "-s", ".", "-p", path.name],
        cwd=path.parent, env=surroundings, stdin=subprocess.DEVNULL,
        stdout=subprocess.PIPE, stderr=subprocess.STDOUT, text=True, errors="replace",
    )
    counts = re.findall(r"^Ran (\d+) tests? in ", done.stdout, re.MULTILINE)
    skips = re.findall(r"^(?:OK|FAILED|NO TESTS RAN) \(.*?skipped=(\d+)", done.stdout, re.MULTILINE)
    ran = max(0, int(counts[-1]) - int(skips[-1] if skips else 0)) if counts else 0
    well = done.returncode == 0 or (done.returncode == NO_TEST and ran == 0)
    print(f"{'ok' if well else 'FAILED'}: {path} ({ran} ran)")
    if not well:
        print(done.stdout)
    return ran, well


def main():
    missing = [folder for folder in FOLDERS if not folder.is_dir()]
    if missing:
        print(f"no such folder of tests: {missing}")
        return 1
    paths = [path for folder in FOLDERS for path in sorted(folder.rglob("test_*.py"))]
    ran, passed, failed = 0, 0, 0
    for python in pythons():
        print(f"with {python}")
        for path in paths:
            count, well = run_file(python, path)
            ran, passed, failed = ran + count, passed + well, failed + (not well)
    print(f"tests that ran: {ran}")
    print(f"files: {passed} passed, {failed} failed")
    return 1 if failed or ran == 0 else 0


if __name__ == "__main__":
    sys.exit(main())
