/-
  Package nat has the properties that NatC names: pNorm, pAdd, pScale, pLen (NatPk), pCmp (NatPm), pSub (NatPl), pShl (NatPo), pShr (NatPq), pLow (NatPr).
-/
import Derived.Test.YtdbmfbfdiadiaaaNatPl
import Derived.Test.YtdbmfbfdiadiaaaNatPr
