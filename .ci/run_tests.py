"""Runs the project's tests and each file test_*.py under ../shared/tests.

Each file there is run on its own, as two of them, or one of them and one of
the project, may have the same name. It fails if a test fails, if a run has no
test, or if the folder of the shared tests is missing.
"""

import os
import pathlib
import re
import subprocess
import sys

ROOT = pathlib.Path(__file__).resolve().parent.parent
SHARED = ROOT.parent / "shared" / "tests"


def number_of(name, text):
    """The number behind a name in unittest's last line; 'expected failures' are not 'failures'."""
    found = re.findall(r"(?:\(|, )" + name + r"=(\d+)", text)
    return int(found[-1]) if found else 0


def run_unittest(title, folder, words):
    """Runs unittest with these words: how many tests passed, failed, were left out."""
    paths = [str(ROOT), os.environ.get("PYTHONPATH", "")]
    environment = dict(os.environ, PYTHONPATH=os.pathsep.join(path for path in paths if path))
    done = subprocess.run([sys.executable, "-m", "unittest"] + words, cwd=folder,
                          env=environment, stdout=subprocess.PIPE, stderr=subprocess.STDOUT, text=True)
    print(f"== {title}\n{done.stdout}", flush=True)
    counted = re.findall(r"^Ran (\d+) tests? in", done.stdout, re.MULTILINE)
    last = done.stdout.rstrip().rpartition("\n")[2]
    ran = int(counted[-1]) if counted else 0
    skipped = number_of("skipped", last)
    failed = number_of("failures", last) + number_of("errors", last) + number_of("unexpected successes", last)
    passed = max(0, ran - skipped - failed)
    # What unittest refuses without counting a test, and a run without tests, count as failed.
    if failed == 0 and (done.returncode != 0 or passed == 0):
        failed = 1
    return passed, failed, skipped


def main():
    runs = [run_unittest("the project", ROOT, ["discover", "-s", "tests", "-t", "."])]
    if not SHARED.is_dir():
        print(f"no folder {SHARED}")
        return 1
    for path in sorted(SHARED.rglob("test_*.py")):
        runs.append(run_unittest(str(path.relative_to(SHARED)), path.parent, [path.name]))
    passed, failed, skipped = [sum(numbers) for numbers in zip(*runs)]
    print(f"{passed} passed, {failed} failed, {skipped} skipped")
    return 0 if failed == 0 else 1


if __name__ == "__main__":
    sys.exit(main())
