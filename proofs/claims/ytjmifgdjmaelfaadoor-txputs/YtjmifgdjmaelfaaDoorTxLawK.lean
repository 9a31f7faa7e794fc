/-
  What the laws of transactions that come in have in common.
-/
import Derived.Test.YtjmifgdjmaelfaaDoorTxAlive
import Derived.Test.YtjmifgdjmaelfaaDoorTxGreat
import Derived.Test.YtjmifgdjmaelfaaDoorTxCame
