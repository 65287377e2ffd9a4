"""The texts of the usual walks."""

SUM = """while left or right
  if not right or left and not more
    put left
    step left
  else
    put right
    step right"""

UNION = """while left and right
  if less
    put left
    step left
  elif more
    put right
    step right
  else
    put left
    step left
    step right
while left
  put left
  step left
while right
  put right
  step right"""

BOTH = """while left and right
  if less
    step left
  elif more
    step right
  else
    put left
    step left
    step right"""

LACKS = """while left
  if not right or less
    put left
    step left
  elif more
    step right
  else
    step left
    step right"""

XOR = """while left and right
  if less
    put left
    step left
  elif more
    put right
    step right
  else
    step left
    step right
while left
  put left
  step left
while right
  put right
  step right"""

JOIN = """while left and right
  if less
    step left
  elif more
    step right
  else
    pairs left"""


def sample_text(name):
    """The text of the usual walk that has the name, or None for any other value."""
    if not isinstance(name, str):
        return None
    texts = {"sum": SUM, "union": UNION, "both": BOTH, "lacks": LACKS, "xor": XOR, "join": JOIN}
    return texts.get(name)
