/-
  The number L = 2^252 + 27742317777372353535851937790883648493 is a prime.
  Conditions: none.
-/
import Derived.Test.YtfmclkmmkceldaaFdN
namespace Go.Proofs.Ytfmclkmmkceldaa

theorem pri_l0 : Pri 1224481 := pri_try 1224481 1105 (by decide) (by decide) (by decide +kernel)
theorem pri_l1 : Pri 531581 := pri_try 531581 728 (by decide) (by decide) (by decide +kernel)
theorem pri_l2 : Pri 1257559732178653 :=
  pockc 1257559732178653 2 1224481 531581 51 1257559732178652 1027014492 2365697292 1252739704402215 1139842034583224 pri_l0 pri_l1 (by decide +kernel) (by decide +kernel) (by decide +kernel) (by decide +kernel) (by decide +kernel) (by decide +kernel) (by decide +kernel) (by decide +kernel) (by decide +kernel) (by decide +kernel) (by decide +kernel) (by decide +kernel) (by decide +kernel) (by decide +kernel)
theorem pri_l3 : Pri 41 := pri_try 41 5 (by decide) (by decide) (by decide +kernel)
theorem pri_l4 : Pri 4434155615661930479 :=
  pockc 4434155615661930479 3 1257559732178653 41 62 4434155615661930478 3526 108150136967364158 1048787157380608640 1332951869666699545 pri_l2 pri_l3 (by decide +kernel) (by decide +kernel) (by decide +kernel) (by decide +kernel) (by decide +kernel) (by decide +kernel) (by decide +kernel) (by decide +kernel) (by decide +kernel) (by decide +kernel) (by decide +kernel) (by decide +kernel) (by decide +kernel) (by decide +kernel)
theorem pri_l5 : Pri 5 := pri_try 5 1 (by decide) (by decide) (by decide +kernel)
theorem pri_l6 : Pri 172054593956031949258510691 :=
  pockc 172054593956031949258510691 2 4434155615661930479 5 88 172054593956031949258510690 38802110 34410918791206389851702138 81982237619807054769897707 126248853658512624395904233 pri_l4 pri_l5 (by decide +kernel) (by decide +kernel) (by decide +kernel) (by decide +kernel) (by decide +kernel) (by decide +kernel) (by decide +kernel) (by decide +kernel) (by decide +kernel) (by decide +kernel) (by decide +kernel) (by decide +kernel) (by decide +kernel) (by decide +kernel)
theorem pri_l7 : Pri 269 := pri_try 269 15 (by decide) (by decide) (by decide +kernel)
theorem pri_l8 : Pri 19757330305831588566944191468367130476339 :=
  pockc 19757330305831588566944191468367130476339 2 172054593956031949258510691 269 134 19757330305831588566944191468367130476338 114831751082918 73447324556994753036967254529245838202 9148758478138211201771971577098600188172 19135173061686524037434590600399368611469 pri_l6 pri_l7 (by decide +kernel) (by decide +kernel) (by decide +kernel) (by decide +kernel) (by decide +kernel) (by decide +kernel) (by decide +kernel) (by decide +kernel) (by decide +kernel) (by decide +kernel) (by decide +kernel) (by decide +kernel) (by decide +kernel) (by decide +kernel)
theorem pri_l9 : Pri 7 := pri_try 7 1 (by decide) (by decide) (by decide +kernel)
theorem pri_l10 : Pri 276602624281642239937218680557139826668747 :=
  pockc 276602624281642239937218680557139826668747 2 19757330305831588566944191468367130476339 7 138 276602624281642239937218680557139826668746 14 39514660611663177133888382936734260952678 16384 52903442526015853514269520076809927482161 pri_l8 pri_l9 (by decide +kernel) (by decide +kernel) (by decide +kernel) (by decide +kernel) (by decide +kernel) (by decide +kernel) (by decide +kernel) (by decide +kernel) (by decide +kernel) (by decide +kernel) (by decide +kernel) (by decide +kernel) (by decide +kernel) (by decide +kernel)
theorem pri_L : Pri 7237005577332262213973186563042994240857116359379907606001950938285454250989 :=
  pockc 7237005577332262213973186563042994240857116359379907606001950938285454250989 2 276602624281642239937218680557139826668747 3 253 7237005577332262213973186563042994240857116359379907606001950938285454250988 26163907866482859529727157400808004 2412335192444087404657728854347664746952372119793302535333983646095151416996 2975531125133123119648879457563281269120703404158613135195788908093573672641 1570463851528226261927580272323658009530148727742783848239914322803198255651 pri_l10 pri_3 (by decide +kernel) (by decide +kernel) (by decide +kernel) (by decide +kernel) (by decide +kernel) (by decide +kernel) (by decide +kernel) (by decide +kernel) (by decide +kernel) (by decide +kernel) (by decide +kernel) (by decide +kernel) (by decide +kernel) (by decide +kernel)
end Go.Proofs.Ytfmclkmmkceldaa
