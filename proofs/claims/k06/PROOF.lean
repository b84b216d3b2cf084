import PyProof.Rows.All
import Wide.All
import OpenK.AllK
import Wide.FinOn
import HandS.ForMost
import HandS.IsInst
import HandS.Evl
import HandS.More
import HandS.Walk
import HandS.Zip
import KE.GoesEnum
import KE.GoesZip
import HandS.TupAny
import PySem.Challenge.RW_firsttouch_k06_places_told
import HandS.Strs
import HandS.Star
import HandS.WordsDict
import HandS.Conv
import KE.SortData
import HandS.List
import HandS.DictComp
import HandS.Comp
import HandS.Iter
import KE.KDictKeyed
import HandS.SetKeys
import KE.KDictWalk
import KE.KPairComp
import HandS.DictTup
set_option Elab.async false
set_option linter.all false
set_option maxRecDepth 100000
set_option maxHeartbeats 4000000
namespace Fs
open PySem L2

/-! what stood stays, but at the places X -/
def Kp (X : List Addr) (H H' : Hp) : Prop := ∀ b o, H b = some o → b ∉ X → H' b = some o
theorem Kp.rfl' {X : List Addr} {H : Hp} : Kp X H H := fun _ _ e _ => e
theorem Kp.trans {X : List Addr} {H H1 H2 : Hp} (a : Kp X H H1) (b : Kp X H1 H2) : Kp X H H2 := fun c o e n => b c o (a c o e n) n
theorem Kp.at {X : List Addr} {H H' : Hp} {p : Addr} {o : HO} (k : Kp X H H') (hp : p ∈ X) : Kp X H (upd H' p o) := fun b u e n => by
  rw [upd_ne (show b ≠ p from fun z => n (by rw [z]; exact hp))]; exact k b u e n
theorem Kp.new {X : List Addr} {H H' : Hp} {p : Addr} {o : HO} (k : Kp X H H') (hp : H p = none) : Kp X H (upd H' p o) := fun b u e n => by
  rw [upd_ne (ne_of_none e hp)]; exact k b u e n
theorem Kp.mono {X Y : List Addr} {H H' : Hp} (k : Kp X H H') (s : ∀ a ∈ X, a ∈ Y) : Kp Y H H' := fun b o e n => k b o e fun z => n (s b z)
/-- places that were free may be given up -/
theorem Kp.drop {X Y : List Addr} {H H' : Hp} (k : Kp (Y ++ X) H H') (s : ∀ a ∈ Y, H a = none) : Kp X H H' := fun b o e n => k b o e fun z => by
  rcases List.mem_append.mp z with z | z
  · rw [s b z] at e; cases e
  · exact n z
theorem Kp.free {X : List Addr} {H H' : Hp} (k : Kp X H H') {p : Addr} (h : H' p = none) (hx : p ∉ X) : H p = none := by
  cases e : H p with
  | none => rfl
  | some o => rw [k p o e hx] at h; cases h
theorem Kp.sqL {K : PySem.W.Frag} {X : List Addr} {H H' : Hp} (k : Kp X H H') {p : Addr} {xs : List V} (h : SqL K H p xs) (n : p ∉ X) : SqL K H' p xs := by
  rcases h with (h | ⟨o, h⟩) | h
  · exact .inl (.inl (k _ _ h n))
  · exact .inl (.inr ⟨o, k _ _ h n⟩)
  · exact .inr h
theorem Kp.sqT {K : PySem.W.Frag} {X : List Addr} {H H' : Hp} (k : Kp X H H') {p : Addr} {xs : List V} (h : SqT K H p xs) (n : p ∉ X) : SqT K H' p xs := by
  rcases h with (h | ⟨o, h⟩) | h
  · exact .inl (.inl (k _ _ h n))
  · exact .inl (.inr ⟨o, k _ _ h n⟩)
  · exact .inr h

/-! the source of draws: a list of three numbers, the last one counts the draws -/
def Src (H : Hp) (a : Addr) (c : Int) : Prop := ∃ d m : Int, H a = some (.lst [.int d, .int m, .int c]) ∧ 0 ≤ m ∧ m < 1099511627776 ∧ 0 ≤ c
theorem Src.kp {X : List Addr} {H H' : Hp} {a : Addr} {c : Int} (h : Src H a c) (k : Kp X H H') (n : a ∉ X) : Src H' a c := by
  obtain ⟨d, m, e, r⟩ := h
  exact ⟨d, m, k _ _ e n, r⟩

/-- a def of the text -/
structure Df (K : PySem.W.Frag) (mg : Str → Option Value) (x : Str) (st : Stmt) (ps : List Str) (f : Addr) (fd : FuncData) : Prop where
  F : Fun K x x st f fd
  g : mg x = some (.ref f)
  b : Binds K fd ps []
/-- the built-ins are still what they are -/
structure Bn (mg : Str → Option Value) : Prop where
  len : mg "len" = none
  int : mg "int" = none
  str : mg "str" = none
  bool : mg "bool" = none
  list : mg "list" = none
  tuple : mg "tuple" = none
  dict : mg "dict" = none
  range : mg "range" = none
  enumerate : mg "enumerate" = none
  zip : mg "zip" = none
  all : mg "all" = none
  sorted : mg "sorted" = none
  isinstance : mg "isinstance" = none
  max : mg "max" = none
  min : mg "min" = none
theorem ltsz {n : Nat} (h : n ≤ 1000) : n ≤ sizeLine := Nat.le_of_lt (small1000 h)

/-! ### data: a tree, and how it stands in the heap, away from the places X -/
inductive T where
  | non | bl (b : Bool) | int (i : Int) | str (s : Str)
  /-- a tuple (true) or a list (false) -/
  | seq (b : Bool) (ts : List T)
def T.kids : T → List T
  | .seq _ ts => ts
  | _ => []
def T.isSeq : T → Bool
  | .seq _ _ => true
  | _ => false
def Sq (H : Hp) (b : Bool) (p : Addr) (vs : List V) : Prop := Rd H p (if b = true then .tup vs else .lst vs)
theorem Kp.rd {X : List Addr} {H H' : Hp} (k : Kp X H H') {p : Addr} {u : HO} (h : Rd H p u) (n : p ∉ X) : Rd H' p u := by
  rcases h with h | ⟨o, h⟩
  · exact .inl (k _ _ h n)
  · exact .inr ⟨o, k _ _ h n⟩
theorem rd_none {H : Hp} {p : Addr} {u : HO} (h : Rd H p u) : H p ≠ none := by
  rcases h with h | ⟨o, h⟩ <;> (rw [h]; simp)
theorem Sq.kp {X : List Addr} {H H' : Hp} {b : Bool} {p : Addr} {vs : List V} (h : Sq H b p vs) (k : Kp X H H') (n : p ∉ X) : Sq H' b p vs := k.rd h n
theorem Sq.or {K : PySem.W.Frag} {H : Hp} {b : Bool} {p : Addr} {vs : List V} (h : Sq H b p vs) : SqL K H p vs ∨ SqT K H p vs := by
  cases b with
  | true => exact .inr (.inl h)
  | false => exact .inl (.inl h)
theorem Sq.t {K : PySem.W.Frag} {H : Hp} {p : Addr} {vs : List V} (h : Sq H true p vs) : SqT K H p vs := .inl h
theorem Sq.l {K : PySem.W.Frag} {H : Hp} {p : Addr} {vs : List V} (h : Sq H false p vs) : SqL K H p vs := .inl h
theorem Sq.newT {H : Hp} {p : Addr} {vs : List V} : Sq (upd H p (.tup vs)) true p vs := .inl upd_same
theorem Sq.newL {H : Hp} {p : Addr} {vs : List V} : Sq (upd H p (.lst vs)) false p vs := .inl upd_same
/-- the places X are taken -/
def Kn (X : List Addr) (H : Hp) : Prop := ∀ a ∈ X, H a ≠ none
theorem Kn.out {X : List Addr} {H : Hp} (k : Kn X H) {p : Addr} (h : H p = none) : p ∉ X := fun z => k p z h
theorem Kn.upd {X : List Addr} {H : Hp} {p : Addr} {o : HO} (k : Kn X H) : Kn X (L2.upd H p o) := fun a ha => by
  by_cases e : a = p
  · rw [e, upd_same]; simp
  · rw [upd_ne e]; exact k a ha
theorem Kn.new {X : List Addr} {H : Hp} {p : Addr} {o : HO} (k : Kn X H) : Kn (p :: X) (L2.upd H p o) := fun a ha => by
  rcases List.mem_cons.mp ha with e | ha
  · rw [e, upd_same]; simp
  · exact k.upd a ha
theorem Kn.kp {X Y : List Addr} {H H' : Hp} (k : Kn X H) (q : Kp Y H H') (y : Kn Y H') : Kn X H' := fun a ha e => by
  by_cases z : a ∈ Y
  · exact y a z e
  · cases h : H a with
    | none => exact k a ha h
    | some o => rw [q a o h z] at e; cases e
theorem Kn.nil {H : Hp} : Kn [] H := fun _ h => nomatch h
theorem Kn.cons {X : List Addr} {H : Hp} {p : Addr} {o : HO} (h : H p = some o) (k : Kn X H) : Kn (p :: X) H := fun a ha => by
  rcases List.mem_cons.mp ha with e | ha
  · rw [e, h]; simp
  · exact k a ha
theorem Src.kn {H : Hp} {a : Addr} {c : Int} (h : Src H a c) : Kn [a] H := by
  obtain ⟨d, m, e, _⟩ := h
  exact .cons e .nil
mutual
def At (X : List Addr) (H : Hp) : T → V → Prop
  | .non, v => v = .non
  | .bl b, v => v = .bl b
  | .int i, v => v = .int i
  | .str s, v => v = .str s
  | .seq b ts, v => ∃ p vs, v = .ref p ∧ p ∉ X ∧ Sq H b p vs ∧ AtL X H ts vs
def AtL (X : List Addr) (H : Hp) : List T → List V → Prop
  | [], vs => vs = []
  | t :: ts, vs => ∃ v r, vs = v :: r ∧ At X H t v ∧ AtL X H ts r
end
section
mutual
/-- what stays: the places X are not looked at -/
theorem At.kp {X : List Addr} {H H' : Hp} (k : Kp X H H') : ∀ {t : T} {v : V}, At X H t v → At X H' t v
  | .non, _, h => h
  | .bl _, _, h => h
  | .int _, _, h => h
  | .str _, _, h => h
  | .seq b ts, v, h => by
    obtain ⟨p, vs, e, n, q, l⟩ := h
    exact ⟨p, vs, e, n, q.kp k n, AtL.kp k l⟩
theorem AtL.kp {X : List Addr} {H H' : Hp} (k : Kp X H H') : ∀ {ts : List T} {vs : List V}, AtL X H ts vs → AtL X H' ts vs
  | [], _, h => h
  | t :: ts, vs, h => by
    obtain ⟨v, r, e, a, l⟩ := h
    exact ⟨v, r, e, At.kp k a, AtL.kp k l⟩
end
mutual
theorem At.more {X : List Addr} {H : Hp} {y : Addr} (a : H y = none) : ∀ {t : T} {v : V}, At X H t v → At (y :: X) H t v
  | .non, _, h => h
  | .bl _, _, h => h
  | .int _, _, h => h
  | .str _, _, h => h
  | .seq b ts, v, h => by
    obtain ⟨p, vs, e, n, q, l⟩ := h
    exact ⟨p, vs, e, fun z => (List.mem_cons.mp z).elim (fun y => rd_none q (by rw [y]; exact a)) n, q, AtL.more a l⟩
theorem AtL.more {X : List Addr} {H : Hp} {y : Addr} (a : H y = none) : ∀ {ts : List T} {vs : List V}, AtL X H ts vs → AtL (y :: X) H ts vs
  | [], _, h => h
  | t :: ts, vs, h => by
    obtain ⟨v, r, e, x, l⟩ := h
    exact ⟨v, r, e, At.more a x, AtL.more a l⟩
end
mutual
theorem At.less {X Y : List Addr} {H : Hp} (s : ∀ p ∈ X, p ∈ Y) : ∀ {t : T} {v : V}, At Y H t v → At X H t v
  | .non, _, h => h
  | .bl _, _, h => h
  | .int _, _, h => h
  | .str _, _, h => h
  | .seq b ts, v, h => by
    obtain ⟨p, vs, e, n, q, l⟩ := h
    exact ⟨p, vs, e, fun z => n (s p z), q, AtL.less s l⟩
theorem AtL.less {X Y : List Addr} {H : Hp} (s : ∀ p ∈ X, p ∈ Y) : ∀ {ts : List T} {vs : List V}, AtL Y H ts vs → AtL X H ts vs
  | [], _, h => h
  | t :: ts, vs, h => by
    obtain ⟨v, r, e, x, l⟩ := h
    exact ⟨v, r, e, At.less s x, AtL.less s l⟩
end
theorem AtL.length {X : List Addr} {H : Hp} : ∀ {ts : List T} {vs : List V}, AtL X H ts vs → vs.length = ts.length
  | [], _, h => by rw [h]; rfl
  | t :: ts, vs, h => by
    obtain ⟨v, r, e, _, l⟩ := h
    rw [e, List.length_cons, List.length_cons, AtL.length l]
theorem AtL.get {X : List Addr} {H : Hp} : ∀ {ts : List T} {vs : List V} {i : Nat} {v : V}, AtL X H ts vs → vs[i]? = some v → ∃ t, ts[i]? = some t ∧ At X H t v
  | [], _, i, v, h, e => by rw [h] at e; cases e
  | t :: ts, vs, 0, v, h, e => by
    obtain ⟨u, r, e1, a, l⟩ := h
    rw [e1] at e
    cases e
    exact ⟨t, rfl, a⟩
  | t :: ts, vs, i + 1, v, h, e => by
    obtain ⟨u, r, e1, a, l⟩ := h
    rw [e1] at e
    exact AtL.get (i := i) l e
theorem AtL.got {X : List Addr} {H : Hp} : ∀ {ts : List T} {vs : List V} {i : Nat} {t : T}, AtL X H ts vs → ts[i]? = some t → ∃ v, vs[i]? = some v ∧ At X H t v
  | [], _, i, t, h, e => by cases e
  | t :: ts, vs, 0, u, h, e => by
    obtain ⟨v, r, e1, a, l⟩ := h
    cases e
    exact ⟨v, by rw [e1]; rfl, a⟩
  | t :: ts, vs, i + 1, u, h, e => by
    obtain ⟨v, r, e1, a, l⟩ := h
    obtain ⟨w, e2, a2⟩ := AtL.got (i := i) l e
    exact ⟨w, by rw [e1]; exact e2, a2⟩
theorem AtL.append {X : List Addr} {H : Hp} : ∀ {ts us : List T} {vs ws : List V}, AtL X H ts vs → AtL X H us ws → AtL X H (ts ++ us) (vs ++ ws)
  | [], us, vs, ws, h, g => by rw [h]; exact g
  | t :: ts, us, vs, ws, h, g => by
    obtain ⟨v, r, e, a, l⟩ := h
    rw [e]
    exact ⟨v, r ++ ws, rfl, a, AtL.append l g⟩
theorem AtL.one {X : List Addr} {H : Hp} {t : T} {v : V} (h : At X H t v) : AtL X H [t] [v] := ⟨v, [], rfl, h, rfl⟩
theorem AtL.snoc {X : List Addr} {H : Hp} {ts : List T} {vs : List V} {t : T} {v : V} (h : AtL X H ts vs) (a : At X H t v) : AtL X H (ts ++ [t]) (vs ++ [v]) := h.append (.one a)
theorem AtL.drop {X : List Addr} {H : Hp} : ∀ {ts : List T} {vs : List V} (n : Nat), AtL X H ts vs → AtL X H (ts.drop n) (vs.drop n)
  | ts, vs, 0, h => h
  | [], vs, n + 1, h => by rw [h]; rfl
  | t :: ts, vs, n + 1, h => by
    obtain ⟨v, r, e, a, l⟩ := h
    rw [e]
    exact AtL.drop n l
theorem AtL.take {X : List Addr} {H : Hp} : ∀ {ts : List T} {vs : List V} (n : Nat), AtL X H ts vs → AtL X H (ts.take n) (vs.take n)
  | ts, vs, 0, h => rfl
  | [], vs, n + 1, h => by rw [h]; rfl
  | t :: ts, vs, n + 1, h => by
    obtain ⟨v, r, e, a, l⟩ := h
    rw [e]
    exact ⟨v, _, rfl, a, AtL.take n l⟩
end

/-! ### words, rows -/
def wordB (s : Str) : Bool := decide (1 ≤ s.length) && decide (s.length ≤ 8) && s.cps.toList.all fun c => decide (97 ≤ c) && decide (c ≤ 122)
/-- what stands in a row between its word and its blocks: words (true), numbers (false) -/
def headsOf (w : Str) : Option (List Bool) :=
  if w = "load" then some [true, true] else if w = "pick" then some [true, true, true] else if w = "put" then some [true, false] else if w = "copy" then some [true, true]
  else if w = "part" then some [true, true, true] else if w = "drop" then some [true] else if w = "say" then some [false] else if w = "tell" then some [true]
  else if w = "seen" then some [true, true] else if w = "fail" then some [false] else if w = "make" then some [true] else if w = "call" then some [true]
  else if w = "when" then some [true] else if w = "try" then some [] else none
def nblk (w : Str) : Nat := if w = "make" then 1 else if w = "when" then 2 else if w = "try" then 2 else 0
def HeadOk : Bool → T → Prop
  | true, t => ∃ s, t = .str s ∧ wordB s = true
  | false, t => ∃ i : Int, t = .int i ∧ -999 ≤ i ∧ i ≤ 999
def HeadsOk : List Bool → List T → Prop
  | [], ts => ts = []
  | k :: ks, ts => ∃ t r, ts = t :: r ∧ HeadOk k t ∧ HeadsOk ks r
/-- a block: its rows are of R -/
def GB (R : Bool → T → Prop) (mk : Bool) (x : T) : Prop := ∃ b rs, x = .seq b rs ∧ rs.length ≤ 8 ∧ ∀ r ∈ rs, R mk r
/-- a row whose blocks' rows are of R; mk: within a make row -/
def GR (R : Bool → T → Prop) (mk : Bool) (t : T) : Prop := ∃ b w ks hs bs, t = .seq b (.str w :: (hs ++ bs)) ∧ headsOf w = some ks ∧ HeadsOk ks hs ∧ bs.length = nblk w ∧ (mk = true → w ≠ "make" ∧ w ≠ "call") ∧
  ∀ x ∈ bs, GB R (mk || decide (w = "make")) x
/-- a row whose blocks are n deep at most -/
def GRow : Nat → Bool → T → Prop
  | 0 => GR fun _ _ => False
  | n + 1 => GR (GRow n)
theorem HeadsOk.length : ∀ {ks : List Bool} {ts : List T}, HeadsOk ks ts → ts.length = ks.length
  | [], _, h => by rw [h]; rfl
  | k :: ks, ts, h => by
    obtain ⟨t, r, e, _, l⟩ := h
    rw [e, List.length_cons, List.length_cons, HeadsOk.length l]
theorem GB.mono {R R' : Bool → T → Prop} {mk : Bool} {x : T} (h : GB R mk x) (k : ∀ m t, R m t → R' m t) : GB R' mk x := by
  obtain ⟨b, rs, e, l, a⟩ := h
  exact ⟨b, rs, e, l, fun r hr => k _ _ (a r hr)⟩
theorem GR.mono {R R' : Bool → T → Prop} {mk : Bool} {t : T} (h : GR R mk t) (k : ∀ m t, R m t → R' m t) : GR R' mk t := by
  obtain ⟨b, w, ks, hs, bs, e, h1, h2, h3, h4, h5⟩ := h
  exact ⟨b, w, ks, hs, bs, e, h1, h2, h3, h4, fun x hx => (h5 x hx).mono k⟩
theorem GRow.succ : ∀ {n : Nat} {mk : Bool} {t : T}, GRow n mk t → GRow (n + 1) mk t
  | 0, _, _, h => GR.mono h fun _ _ z => z.elim
  | n + 1, _, _, h => GR.mono (R := GRow n) (R' := GRow (n + 1)) h fun _ _ z => GRow.succ z
/-- a row without blocks -/
theorem GRow.plain {mk : Bool} {w : Str} {ks : List Bool} {hs : List T} {b : Bool} (h1 : headsOf w = some ks) (h2 : HeadsOk ks hs) (h3 : nblk w = 0) (h4 : mk = true → w ≠ "call") (n : Nat) : GRow n mk (.seq b (.str w :: hs)) := by
  have z : ∀ R, GR R mk (.seq b (.str w :: hs)) := fun R => ⟨b, w, ks, hs, [], by rw [List.append_nil], h1, h2, h3.symm, fun m => ⟨fun e => by rw [e] at h3; exact absurd h3 (by decide), h4 m⟩, fun _ hx => nomatch hx⟩
  cases n with
  | zero => exact z _
  | succ n => exact z _
/-- T: what is told when lists become tuples -/
def T.tupled : T → T
  | .seq _ ts => .seq true (ts.map T.tupled)
  | t => t

theorem inV_mem {w : Str} {l : List Str} : inV (.str w) (l.map V.str) = true ↔ w ∈ l := by
  unfold inV
  rw [List.any_map, List.any_eq_true]
  constructor
  · rintro ⟨y, hy, e⟩
    have e' : (y == w) = true := e
    rw [beq_iff_eq] at e'
    exact e' ▸ hy
  · intro h
    exact ⟨w, h, (beq_self_eq_true w : (w == w) = true)⟩
/-- what the table of the plain rows says -/
def manyT : List (Key × V) := mergeK [] [(.inr "load", .int 2), (.inr "copy", .int 2), (.inr "seen", .int 2), (.inr "pick", .int 3), (.inr "part", .int 3)]
theorem plain_kind {w : Str} {ks : List Bool} (h : headsOf w = some ks) (n : nblk w = 0) :
    (ks = [false] ∧ w ∈ (["say", "fail"] : List Str)) ∨ (ks = [true, false] ∧ w = "put" ∧ w ∉ (["say", "fail"] : List Str)) ∨
      ∃ m : Nat, ks = List.replicate m true ∧ w ∉ (["say", "fail"] : List Str) ∧ w ≠ "put" ∧ (valV manyT (.inr w)).getD (.int 1) = .int m ∧ m ≤ 3 := by
  by_cases h0 : w = "load"
  · subst h0
    have e : headsOf "load" = some [true, true] := by decide +kernel
    rw [e] at h
    cases h
    exact .inr (.inr ⟨2, rfl, by decide +kernel, by decide +kernel, by decide +kernel, by decide⟩)
  by_cases h1 : w = "pick"
  · subst h1
    have e : headsOf "pick" = some [true, true, true] := by decide +kernel
    rw [e] at h
    cases h
    exact .inr (.inr ⟨3, rfl, by decide +kernel, by decide +kernel, by decide +kernel, by decide⟩)
  by_cases h2 : w = "put"
  · subst h2
    have e : headsOf "put" = some [true, false] := by decide +kernel
    rw [e] at h
    cases h
    exact .inr (.inl ⟨rfl, rfl, by decide +kernel⟩)
  by_cases h3 : w = "copy"
  · subst h3
    have e : headsOf "copy" = some [true, true] := by decide +kernel
    rw [e] at h
    cases h
    exact .inr (.inr ⟨2, rfl, by decide +kernel, by decide +kernel, by decide +kernel, by decide⟩)
  by_cases h4 : w = "part"
  · subst h4
    have e : headsOf "part" = some [true, true, true] := by decide +kernel
    rw [e] at h
    cases h
    exact .inr (.inr ⟨3, rfl, by decide +kernel, by decide +kernel, by decide +kernel, by decide⟩)
  by_cases h5 : w = "drop"
  · subst h5
    have e : headsOf "drop" = some [true] := by decide +kernel
    rw [e] at h
    cases h
    exact .inr (.inr ⟨1, rfl, by decide +kernel, by decide +kernel, by decide +kernel, by decide⟩)
  by_cases h6 : w = "say"
  · subst h6
    have e : headsOf "say" = some [false] := by decide +kernel
    rw [e] at h
    cases h
    exact .inl ⟨rfl, by decide +kernel⟩
  by_cases h7 : w = "tell"
  · subst h7
    have e : headsOf "tell" = some [true] := by decide +kernel
    rw [e] at h
    cases h
    exact .inr (.inr ⟨1, rfl, by decide +kernel, by decide +kernel, by decide +kernel, by decide⟩)
  by_cases h8 : w = "seen"
  · subst h8
    have e : headsOf "seen" = some [true, true] := by decide +kernel
    rw [e] at h
    cases h
    exact .inr (.inr ⟨2, rfl, by decide +kernel, by decide +kernel, by decide +kernel, by decide⟩)
  by_cases h9 : w = "fail"
  · subst h9
    have e : headsOf "fail" = some [false] := by decide +kernel
    rw [e] at h
    cases h
    exact .inl ⟨rfl, by decide +kernel⟩
  by_cases h10 : w = "make"
  · subst h10
    exact absurd n (by decide +kernel)
  by_cases h11 : w = "call"
  · subst h11
    have e : headsOf "call" = some [true] := by decide +kernel
    rw [e] at h
    cases h
    exact .inr (.inr ⟨1, rfl, by decide +kernel, by decide +kernel, by decide +kernel, by decide⟩)
  by_cases h12 : w = "when"
  · subst h12
    exact absurd n (by decide +kernel)
  by_cases h13 : w = "try"
  · subst h13
    exact absurd n (by decide +kernel)
  unfold headsOf at h
  rw [if_neg h0, if_neg h1, if_neg h2, if_neg h3, if_neg h4, if_neg h5, if_neg h6, if_neg h7, if_neg h8, if_neg h9, if_neg h10, if_neg h11, if_neg h12, if_neg h13] at h
  cases h
theorem heads_words : ∀ {ss : List Str}, (∀ s ∈ ss, wordB s = true) → HeadsOk (List.replicate ss.length true) (ss.map T.str)
  | [], _ => rfl
  | s :: r, h => ⟨_, _, rfl, ⟨s, rfl, h s List.mem_cons_self⟩, heads_words fun x hx => h x (List.mem_cons_of_mem _ hx)⟩
theorem atL_strs {X : List Addr} {H : Hp} : ∀ {ss : List Str}, AtL X H (ss.map T.str) (ss.map V.str)
  | [] => rfl
  | s :: r => ⟨_, _, rfl, rfl, atL_strs⟩

/-! ### isinstance of data -/
def T.ty : T → String
  | .non => "NoneType"
  | .bl _ => "bool"
  | .int _ => "int"
  | .str _ => "str"
  | .seq true _ => "tuple"
  | .seq false _ => "list"
theorem tupled_non : T.tupled .non = .non := by simp [T.tupled]
theorem tupled_bl (b : Bool) : T.tupled (.bl b) = .bl b := by simp [T.tupled]
theorem tupled_int (i : Int) : T.tupled (.int i) = .int i := by simp [T.tupled]
theorem tupled_str (s : Str) : T.tupled (.str s) = .str s := by simp [T.tupled]
theorem tupled_seq (b : Bool) (ts : List T) : T.tupled (.seq b ts) = .seq true (ts.map T.tupled) := by simp [T.tupled]
theorem tyX_at {K : PySem.W.Frag} {X : List Addr} {H : Hp} {t : T} {v : V} (h : At X H t v) : TyX K H v (.type t.ty) := by
  cases t with
  | non => rw [show v = .non from h]; exact .base .non
  | bl b => rw [show v = .bl b from h]; exact .base (.bl b)
  | int i => rw [show v = .int i from h]; exact .base (.int i)
  | str s => rw [show v = .str s from h]; exact .base (.str s)
  | seq b ts =>
    obtain ⟨p, vs, e, _, q, _⟩ := h
    rw [e]
    cases b
    · rcases q with q | ⟨o, q⟩
      · exact .base (.lst q)
      · exact .base (.frz q)
    · rcases q with q | ⟨o, q⟩
      · exact .base (.tup q)
      · exact .fTuple q
theorem kit_seq {K : PySem.W.Frag} (t : T) : PySem.W.kitAny K (.type t.ty) [.type "list", .type "tuple"] = some t.isSeq := by
  cases t with
  | non => exact kitAny_cons (b := false) (kit_ty (a := "NoneType") (b := "list") (by decide +kernel)) (fun _ => kitAny_cons (b := false) (kit_ty (a := "NoneType") (b := "tuple") (by decide +kernel)) (fun _ => kitAny_nil) (fun z => nomatch z)) (fun z => nomatch z)
  | bl b => exact kitAny_cons (b := false) (kit_ty (a := "bool") (b := "list") (by decide +kernel)) (fun _ => kitAny_cons (b := false) (kit_ty (a := "bool") (b := "tuple") (by decide +kernel)) (fun _ => kitAny_nil) (fun z => nomatch z)) (fun z => nomatch z)
  | int b => exact kitAny_cons (b := false) (kit_ty (a := "int") (b := "list") (by decide +kernel)) (fun _ => kitAny_cons (b := false) (kit_ty (a := "int") (b := "tuple") (by decide +kernel)) (fun _ => kitAny_nil) (fun z => nomatch z)) (fun z => nomatch z)
  | str b => exact kitAny_cons (b := false) (kit_ty (a := "str") (b := "list") (by decide +kernel)) (fun _ => kitAny_cons (b := false) (kit_ty (a := "str") (b := "tuple") (by decide +kernel)) (fun _ => kitAny_nil) (fun z => nomatch z)) (fun z => nomatch z)
  | seq b ts =>
    cases b
    · exact kitAny_cons (b := true) (kit_ty (a := "list") (b := "list") (by decide +kernel)) (fun z => nomatch z) (fun _ => rfl)
    · exact kitAny_cons (b := false) (kit_ty (a := "tuple") (b := "list") (by decide +kernel)) (fun _ => kitAny_cons (b := true) (kit_ty (a := "tuple") (b := "tuple") (by decide +kernel)) (fun z => nomatch z) (fun _ => rfl)) (fun z => nomatch z)
/-- isinstance(x, (list, tuple)) of data -/
theorem isi_seq {K : PySem.W.Frag} {X : List Addr} {H : Hp} {t : T} {v : V} {tp : Addr} {Q : VK} (h : At X H t v) (ht : H tp = some (.tup [.ty "list", .ty "tuple"])) (q : Q (.bl t.isSeq) H) : rIsiT K [v, .ref tp] H Q :=
  ⟨v, tp, _, _, _, _, rfl, ht, .cons (.ty _) (.cons (.ty _) .nil), tyX_at h, kit_seq t, q⟩
/-- small data: at most n deep, each list or tuple of eight things at most -/
def Sm : Nat → T → Prop
  | 0, t => t.isSeq = false
  | n + 1, t => t.kids.length ≤ 8 ∧ ∀ k ∈ t.kids, Sm n k
/-- how many lists and tuples there are at most -/
def gC : Nat → Int
  | 0 => 0
  | n + 1 => 8 * gC n + 1
theorem gC_pos : ∀ n, 0 ≤ gC n
  | 0 => Int.le_refl _
  | n + 1 => by have := gC_pos n; show 0 ≤ 8 * gC n + 1; omega
theorem T.tup_str {t : T} {s : Str} (h : t.tupled = .str s) : t = .str s := by
  cases t <;> simp [T.tupled] at h
  rw [h]
theorem T.tup_int {t : T} {i : Int} (h : t.tupled = .int i) : t = .int i := by
  cases t <;> simp [T.tupled] at h
  rw [h]
theorem T.tup_seq {t : T} {b : Bool} {ts : List T} (h : t.tupled = .seq b ts) : ∃ b' ts', t = .seq b' ts' ∧ ts = ts'.map T.tupled := by
  cases t <;> simp [T.tupled] at h
  exact ⟨_, _, rfl, h.2.symm⟩
theorem HeadOk.like {k : Bool} {t t' : T} (h : HeadOk k t) (e : t'.tupled = t.tupled) : t' = t := by
  cases k
  · obtain ⟨i, rfl, _⟩ := h
    exact T.tup_int (e.trans (tupled_int i))
  · obtain ⟨s, rfl, _⟩ := h
    exact T.tup_str (e.trans (tupled_str s))
theorem HeadsOk.like : ∀ {ks : List Bool} {ts ts' : List T}, HeadsOk ks ts → ts'.map T.tupled = ts.map T.tupled → ts' = ts
  | [], ts, ts', h, e => by
    rw [show ts = [] from h] at e ⊢
    exact List.map_eq_nil_iff.mp e
  | k :: ks, ts, ts', h, e => by
    obtain ⟨t, r, rfl, a, l⟩ := h
    cases ts' with
    | nil => cases e
    | cons t' r' =>
      rw [List.map_cons, List.map_cons, List.cons.injEq] at e
      rw [a.like e.1, HeadsOk.like l e.2]
theorem GB.like {R : Bool → T → Prop} {mk : Bool} {x x' : T} (h : GB R mk x) (e : x'.tupled = x.tupled) (k : ∀ m t t', R m t → t'.tupled = t.tupled → R m t') : GB R mk x' := by
  obtain ⟨b, rs, rfl, l, a⟩ := h
  obtain ⟨b', rs', rfl, e2⟩ := T.tup_seq (e.trans (tupled_seq b rs))
  refine ⟨b', rs', rfl, by have := congrArg List.length e2; simp at this; omega, fun r hr => ?_⟩
  have hm : r.tupled ∈ rs.map T.tupled := by rw [e2]; exact List.mem_map_of_mem hr
  obtain ⟨r0, h0, e0⟩ := List.mem_map.mp hm
  exact k _ r0 r (a r0 h0) e0.symm
theorem GR.like {R : Bool → T → Prop} {mk : Bool} {t t' : T} (h : GR R mk t) (e : t'.tupled = t.tupled) (k : ∀ m t t', R m t → t'.tupled = t.tupled → R m t') : GR R mk t' := by
  obtain ⟨b, w, ks, hs, bs, rfl, h1, h2, h3, h4, h5⟩ := h
  obtain ⟨b', ts', rfl, e2⟩ := T.tup_seq (e.trans (tupled_seq b _))
  cases ts' with
  | nil => cases e2
  | cons u r =>
    rw [List.map_cons, List.map_cons, List.cons.injEq] at e2
    have eu : u = .str w := T.tup_str (e2.1.symm.trans (tupled_str w))
    have er : r.map T.tupled = hs.map T.tupled ++ bs.map T.tupled := by rw [← List.map_append]; exact e2.2.symm
    obtain ⟨r1, r2, rfl, e3, e4⟩ := List.map_eq_append_iff.mp er
    have er1 := h2.like e3
    subst eu er1
    refine ⟨b', w, ks, r1, r2, rfl, h1, h2, by have := congrArg List.length e4; simp at this; omega, h4, fun x hx => ?_⟩
    have hm : x.tupled ∈ bs.map T.tupled := by rw [← e4]; exact List.mem_map_of_mem hx
    obtain ⟨x0, hx0, e0⟩ := List.mem_map.mp hm
    exact (h5 x0 hx0).like e0.symm k
theorem GRow.like : ∀ {n : Nat} {mk : Bool} {t t' : T}, GRow n mk t → t'.tupled = t.tupled → GRow n mk t'
  | 0, _, _, _, h, e => GR.like h e fun _ _ _ z => z.elim
  | n + 1, _, _, _, h, e => GR.like (R := GRow n) h e fun _ _ _ a b => GRow.like a b
theorem headsOf_len {w : Str} {ks : List Bool} (h : headsOf w = some ks) : ks.length + nblk w ≤ 3 := by
  unfold headsOf at h
  by_cases h0 : w = "load"
  · subst h0; rw [if_pos rfl] at h; cases h; decide +kernel
  rw [if_neg h0] at h
  by_cases h1 : w = "pick"
  · subst h1; rw [if_pos rfl] at h; cases h; decide +kernel
  rw [if_neg h1] at h
  by_cases h2 : w = "put"
  · subst h2; rw [if_pos rfl] at h; cases h; decide +kernel
  rw [if_neg h2] at h
  by_cases h3 : w = "copy"
  · subst h3; rw [if_pos rfl] at h; cases h; decide +kernel
  rw [if_neg h3] at h
  by_cases h4 : w = "part"
  · subst h4; rw [if_pos rfl] at h; cases h; decide +kernel
  rw [if_neg h4] at h
  by_cases h5 : w = "drop"
  · subst h5; rw [if_pos rfl] at h; cases h; decide +kernel
  rw [if_neg h5] at h
  by_cases h6 : w = "say"
  · subst h6; rw [if_pos rfl] at h; cases h; decide +kernel
  rw [if_neg h6] at h
  by_cases h7 : w = "tell"
  · subst h7; rw [if_pos rfl] at h; cases h; decide +kernel
  rw [if_neg h7] at h
  by_cases h8 : w = "seen"
  · subst h8; rw [if_pos rfl] at h; cases h; decide +kernel
  rw [if_neg h8] at h
  by_cases h9 : w = "fail"
  · subst h9; rw [if_pos rfl] at h; cases h; decide +kernel
  rw [if_neg h9] at h
  by_cases h10 : w = "make"
  · subst h10; rw [if_pos rfl] at h; cases h; decide +kernel
  rw [if_neg h10] at h
  by_cases h11 : w = "call"
  · subst h11; rw [if_pos rfl] at h; cases h; decide +kernel
  rw [if_neg h11] at h
  by_cases h12 : w = "when"
  · subst h12; rw [if_pos rfl] at h; cases h; decide +kernel
  rw [if_neg h12] at h
  by_cases h13 : w = "try"
  · subst h13; rw [if_pos rfl] at h; cases h; decide +kernel
  rw [if_neg h13] at h
  cases h
theorem HeadsOk.atoms : ∀ {ks : List Bool} {ts : List T}, HeadsOk ks ts → ∀ t ∈ ts, t.isSeq = false
  | [], ts, h, t, m => by rw [show ts = [] from h] at m; cases m
  | k :: ks, ts, h, t, m => by
    obtain ⟨u, r, rfl, a, l⟩ := h
    rcases List.mem_cons.mp m with e | m
    · rw [e]
      cases k
      · obtain ⟨i, rfl, _⟩ := a; rfl
      · obtain ⟨s, rfl, _⟩ := a; rfl
    · exact HeadsOk.atoms l t m
theorem Sm.atom {t : T} (h : t.isSeq = false) : ∀ n, Sm n t
  | 0 => h
  | n + 1 => by
    have e : t.kids = [] := by cases t <;> first | rfl | cases h
    exact ⟨by rw [e]; exact Nat.zero_le _, fun k hk => by rw [e] at hk; cases hk⟩
theorem GR.sm {R : Bool → T → Prop} {n : Nat} {mk : Bool} {t : T} (h : GR R mk t) (k : ∀ m t, R m t → Sm n t) : Sm (n + 2) t := by
  obtain ⟨b, w, ks, hs, bs, rfl, h1, h2, h3, h4, h5⟩ := h
  have l1 := headsOf_len h1
  have l2 := h2.length
  refine ⟨by show (hs ++ bs).length + 1 ≤ 8; rw [List.length_append]; omega, fun x hx => ?_⟩
  rcases List.mem_cons.mp hx with e | hx
  · rw [e]; exact Sm.atom rfl _
  · rcases List.mem_append.mp hx with hx | hx
    · exact Sm.atom (h2.atoms x hx) _
    · obtain ⟨b', rs, rfl, l, a⟩ := h5 x hx
      exact ⟨l, fun r hr => k _ r (a r hr)⟩
theorem GRow.sm : ∀ {n : Nat} {mk : Bool} {t : T}, GRow n mk t → Sm (2 * n + 2) t
  | 0, _, _, h => GR.sm (n := 0) h fun _ _ z => z.elim
  | n + 1, _, _, h => GR.sm (R := GRow n) (n := 2 * n + 2) h fun _ _ z => GRow.sm z
theorem GB.sm {n : Nat} {mk : Bool} {x : T} (h : GB (GRow n) mk x) : Sm (2 * n + 3) x := by
  obtain ⟨b, rs, rfl, l, a⟩ := h
  exact ⟨l, fun r hr => GRow.sm (a r hr)⟩
theorem isiP : Paired ClsV [.ty "list", .ty "tuple"] [.type "list", .type "tuple"] := .cons (.ty _) (.cons (.ty _) .nil)

/-! ### texts as data, for == -/
def PS (ss : List Str) : List PyData := ss.map PyData.str
theorem strOk_word {w : Str} (h : wordB w = true) : PyData.canLay0 (.str w) = true := by
  unfold wordB at h
  rw [Bool.and_eq_true, List.all_eq_true] at h
  show w.cps.all (· < 0x110000) = true
  rw [← Array.all_toList, List.all_eq_true]
  intro c hc
  have := h.2 c hc
  simp at this
  simp
  omega
theorem canLay_words : ∀ {ss : List Str}, (∀ s ∈ ss, wordB s = true) → PyData.canLayAll0 (PS ss) = true
  | [], _ => rfl
  | s :: r, h => by
    show (PyData.canLay0 (.str s) && PyData.canLayAll0 (PS r)) = true
    rw [strOk_word (h s List.mem_cons_self), canLay_words fun x hx => h x (List.mem_cons_of_mem _ hx)]
    rfl
theorem depth_words : ∀ {ss : List Str}, PyData.depthAll (PS ss) = 0
  | [] => rfl
  | s :: r => by
    show max 0 (PyData.depthAll (PS r)) = 0
    rw [depth_words]
    rfl
theorem shaped_words {ss : List Str} (h : ∀ s ∈ ss, wordB s = true) : SeqAt.shaped (.list (PS ss)) = true := by
  show (PyData.canLayAll0 (PS ss) && decide (PyData.depthAll (PS ss) + 1 ≤ 64)) = true
  rw [canLay_words h, depth_words]
  rfl
theorem dp_words {K : PySem.W.Frag} {H : Hp} : ∀ {ss : List Str}, DpAll K H (ss.map V.str) (PS ss)
  | [] => .nil
  | s :: r => .cons (.str s) dp_words
theorem eqv_nil {ss : List Str} : PyData.eqv (.list (PS ss)) (.list []) = ss.isEmpty := by
  cases ss <;> rfl
end Fs

/-! what is walked may be a list or a tuple: for x in s, enumerate(s), zip(s, t) -/
namespace Fs
open PySem PySem.Spec PyProof.Rows L2
/-- a tuple (true) or a list (false), of the written part, too -/
def SqB (K : PySem.W.Frag) (H : Hp) (b : Bool) (p : Addr) (xs : List V) : Prop := if b = true then SqT K H p xs else SqL K H p xs
theorem Sq.b {K : PySem.W.Frag} {H : Hp} {b : Bool} {p : Addr} {xs : List V} (h : Sq H b p xs) : SqB K H b p xs := by
  cases b
  · exact h.l
  · exact h.t
theorem Kp.sqB {K : PySem.W.Frag} {X : List Addr} {H H' : Hp} (k : Kp X H H') {b : Bool} {p : Addr} {xs : List V} (h : SqB K H b p xs) (n : p ∉ X) : SqB K H' b p xs := by
  cases b
  · exact k.sqL h n
  · exact k.sqT h n
def SeqIs (h : Heap) (b : Bool) (a : Addr) (items : Array Value) : Prop := if b = true then h.IsTuple a items else h.IsList a items
def SeqIt (h : Heap) (b : Bool) (it a : Addr) (i : Nat) : Prop := if b = true then h.IsTupleIter it a i else h.IsListIter it a i
def seqItO (b : Bool) (a : Addr) : Obj := { cls := .type (if b = true then "tuple_iterator" else "list_iterator"), data := .fields #[.ref a, .int 0 0] }
theorem SeqIs.obj {h : Heap} {b : Bool} {a : Addr} {items : Array Value} (x : SeqIs h b a items) : ∃ o, h.get? a = some o ∧ o.cls = .type (if b = true then "tuple" else "list") := by
  cases b
  · obtain ⟨o, e, c, _⟩ := x
    exact ⟨o, e, c⟩
  · obtain ⟨o, e, c, _⟩ := x
    exact ⟨o, e, c⟩
theorem SeqIt.obj {h : Heap} {b : Bool} {it a : Addr} {i : Nat} (x : SeqIt h b it a i) : ∃ o, h.get? it = some o ∧ o.cls = .type (if b = true then "tuple_iterator" else "list_iterator") ∧ ∀ v, o.data ≠ .cell v := by
  cases b
  · obtain ⟨o, e, c, d⟩ := x
    exact ⟨o, e, c, fun v z => by rw [d] at z; cases z⟩
  · obtain ⟨o, e, c, d⟩ := x
    exact ⟨o, e, c, fun v z => by rw [d] at z; cases z⟩
theorem SeqIt.at {h h' : Heap} {b : Bool} {it a : Addr} {i : Nat} (x : SeqIt h b it a i) (k : ∀ o, h.get? it = some o → h'.get? it = some o) : SeqIt h' b it a i := by
  cases b
  · exact Heap.IsListIter.at x k
  · exact Heap.IsTupleIter.at x k
theorem SeqIt.new {h : Heap} {b : Bool} {it a : Addr} (e : h.get? it = some (seqItO b a)) : SeqIt h b it a 0 := by
  cases b
  · exact ⟨_, e, rfl, rfl⟩
  · exact ⟨_, e, rfl, rfl⟩
theorem seqDraws {prog : Program} {w : World} {A : Around} (hh : A.handled = none) (b : Bool) (it a : Addr) (hne : a ≠ it) (items : Array Value) :
    Draws prog w A it [it, a] items.size (fun i v => items[i]? = some v) (fun i h => SeqIt h b it a i ∧ SeqIs h b a items) := by
  cases b
  · exact Draws.list hh it a hne items
  · exact Draws.tuple hh it a hne items
theorem seqBegins (b : Bool) (a : Addr) (items : Array Value) : Begins (.ref a) (seqItO b a) fun h => SeqIs h b a items := by
  cases b
  · exact begins_list a items
  · exact begins_tuple a items
section
variable {X : Cx} {pins : List (Addr × Obj)} {σ : L2.St} {H : Hp} {s : Shared} {a : Addr} {xs ys : List V} {b : Bool}
theorem inv_sq (I : Inv X pins σ H s) (h : SqB X.K H b a xs) : ∃ its : List Value, Vals xs its ∧ SeqIs s.heap b a its.toArray ∧ xs.length ≤ sizeLine := by
  cases b
  · obtain ⟨its, r, p, z⟩ := I.list h
    exact ⟨its, r, p.isList, z⟩
  · exact I.tuple h
theorem inv_sq_inj (I : Inv X pins σ H s) (h : SqB X.K H b a xs) (h' : SqB X.K H b a ys) : xs = ys := by
  cases b
  · exact I.list_inj h h'
  · exact I.tuple_inj h h'
end
/-! ### for x in s -/
def itS (K : PySem.W.Frag) (b : Bool) (a : Addr) : It := if b = true then Itt K a else Itl K a
def iSeq (K : PySem.W.Frag) (tl : TE) : TI := fun σ H R => tl σ H fun x H1 => ∃ (b : Bool) (a : Addr) (xs : List V), x = .ref a ∧ SqB K H1 b a xs ∧ R (itS K b a) H1
theorem walk_seq {K : PySem.W.Frag} {b : Bool} {a : Addr} {xs : List V} : Walk (itS K b a) xs.length (fun H => SqB K H b a xs) (YAt xs) := by
  cases b
  · exact walk_list
  · exact walk_tup
theorem pi_seq {X : Cx} {tg l : Expr} {tl : TE} (hl : PE X l tl) : PI X tg l (iSeq X.K tl) :=
  ⟨fun pins s σ H R I h => thn (hl.run pins s σ H _ I h) fun v s1 hq => by
    obtain ⟨x, H1, I1, r1, b, a, xs, e, hs, q⟩ := hq
    subst e
    cases r1
    have fp : ∀ c ∈ [s1.heap.objs.size], FpOk X pins H1 c := fun c hc => by
      rw [List.mem_singleton.mp hc]
      exact I1.fpOk (Nat.le_refl _) (I1.hok.fresh (Nat.le_refl _))
    have I2 : ∀ o, Inv X pins σ H1 { s1 with heap := s1.heap.push o } := fun o => I1.kept (t' := s1.toks) fun c u e => Heap.get?_push_of_some _ e
    cases b
    · obtain ⟨its, rv, p, hz⟩ := I1.list hs
      exact wpAny_pyIter_list p.isList ⟨_, _, _, _, H1, rfl, I2 _, turn_list a _, ⟨_, Heap.get?_push_size _ rfl, rfl, rfl⟩, fp, q⟩
    · obtain ⟨its, rv, p, hz⟩ := I1.tuple hs
      exact wpAny_pyIter_tuple (show s1.heap.IsTuple a its.toArray from p) ⟨_, _, _, _, H1, rfl, I2 _, turn_tuple a _, ⟨_, Heap.get?_push_size _ rfl, rfl, rfl⟩, fp, q⟩⟩

/-! ### enumerate(s) -/
theorem enumNew1 {v : Value} {o : Obj} {Hh : Heap → Prop} (B : Begins v o Hh) :
    Meets (Builtin.«enumerate.__new__» ⟨[.type "enumerate", v], []⟩) (fun _ R s => Hh s.heap ∧
      R (.ok (.ret (.ref (s.heap.push o).objs.size))) { s with heap := (s.heap.push o).push { cls := .type "enumerate", data := .fields #[.none, .bool false, .ref s.heap.objs.size, rawInt 0, .none, .none] } }) :=
  .of_wp fun prog w A R s z => by
    obtain ⟨hp, g, d, tk, os⟩ := s
    obtain ⟨z1, z⟩ := z
    have hsub := sub_enumerate
    have go : ∀ {A' : Around} {E : Value → Shared → Prop} {Q : Value → Shared → Prop}, Q (.ref hp.objs.size) ⟨hp.push o, g, d, tk, os⟩ → wpAny (model prog w) A' (pyIter v) Q E ⟨hp, g, d, tk, os⟩ :=
      fun x => B.iter prog w _ _ ⟨hp, g, d, tk, os⟩ _ z1 x
    wp_walk using go
    refine wpAny_stack_any fun st => wpAny_pure ?_
    split
    · rename_i c _ _ _ _ _
      cases (c == Value.type "enumerate") <;>
      · wp_walk using go
        exact ⟨_, rfl, z⟩
    · wp_walk using go
      exact ⟨_, rfl, z⟩
theorem enumCall {prog : Program} {w : World} {A : Around} {E : Value → Shared → Prop} {s : Shared} {v : Value} {o : Obj} {Hh : Heap → Prop} {Q : Value → Shared → Prop} (B : Begins v o Hh) (h1 : Hh s.heap)
    (h : ∀ h', IsEnum h' (s.heap.objs.size + 1) s.heap.objs.size 0 .none → h'.get? s.heap.objs.size = some o → h'.objs.size = s.heap.objs.size + 2 → (∀ b u, s.heap.get? b = some u → h'.get? b = some u) → Q (.ref (s.heap.objs.size + 1)) { s with heap := h' }) :
    wpAny (model prog w) A (call (.type "enumerate") [v]) Q E s := by
  refine callType_new F.called_enumerate (by decide) (F.typeCall_enumerate_1 _) (F.newCall_enumerate_1 _) (fun obj => F.args_object_init_2 obj _) F.entry_enumerate_new (enumNew1 B) ⟨h1, ?_⟩
  have hz : (s.heap.push o).objs.size = s.heap.objs.size + 1 := Heap.size_push ..
  show _ ∧ _
  rw [hz]
  have he : IsEnum ((s.heap.push o).push { cls := .type "enumerate", data := .fields #[.none, .bool false, .ref s.heap.objs.size, rawInt 0, .none, .none] }) (s.heap.objs.size + 1) s.heap.objs.size 0 .none := by
    have q := Heap.get?_push_size (s.heap.push o) (o := { cls := .type "enumerate", data := .fields #[.none, .bool false, .ref s.heap.objs.size, rawInt 0, .none, .none] }) rfl
    rw [hz] at q
    exact q
  exact ⟨⟨_, he, rfl⟩, h _ he (Heap.get?_push_of_some _ (Heap.get?_push_size _ B.free)) (by rw [Heap.size_push, hz]) fun c u x => Heap.get?_push_of_some _ (Heap.get?_push_of_some _ x)⟩
/-- the sequence at a as it stands at each turn: new pairs of the turn and the item -/
def ItE (K : PySem.W.Frag) (b : Bool) (a : Addr) : It :=
  ⟨fun i H => ∃ (xs : List V) (x : V), SqB K H b a xs ∧ xs[i]? = some x,
    fun i H v H' => ∃ T x, v = .ref T ∧ H T = none ∧ H' = upd H T (.tup [.int (i : Nat), x]) ∧ ∀ xs, SqB K H b a xs → xs[i]? = some x,
    fun i H => ∃ xs : List V, SqB K H b a xs ∧ xs.length = i⟩
theorem turnE {P : Program} {w : World} {K : PySem.W.Frag} {elts : List Expr} {kk : Nat} {tpos : Pos} (b : Bool) (a e it : Addr) :
    Turn P w K (.Tuple elts kk tpos) (ItE K b a) [e, it] e (fun i h => (∃ old, IsEnum h e it ((i : Nat) : Int) old) ∧ SeqIt h b it a i ∧ e ≠ it) where
  mem := by simp
  obj := fun i h now c hc => by
    obtain ⟨⟨old, eno⟩, hi, _⟩ := now
    obtain ⟨o, ho, _, hd⟩ := hi.obj
    rcases List.mem_cons.mp hc with z | z
    · rw [z]
      exact ⟨_, eno, fun v q => nomatch q⟩
    · (rw [List.mem_singleton.mp z])
      exact ⟨o, ho, hd⟩
  keep := fun i h h' now k => let ⟨⟨old, eno⟩, hi, neq⟩ := now; ⟨⟨old, k e (by simp) _ eno⟩, hi.at fun o q => k it (by simp) o q, neq⟩
  item := by
    intro X p1 p2 p3 hc i pins s σ H E I fre now goh
    subst p1 p2 p3
    obtain ⟨⟨old, eno⟩, itr, neq⟩ := now
    obtain ⟨xs, x, hq, hx1⟩ := goh
    obtain ⟨its, rva, p, zob⟩ := inv_sq I hq
    obtain ⟨oa, hoa, hca⟩ := p.obj
    obtain ⟨oi, hoi, hci, _⟩ := itr.obj
    have nai : a ≠ it := fun z => by
      rw [z, hoi] at hoa
      cases hoa
      rw [hci] at hca
      cases b <;> simp at hca
    have hea : e ≠ a := fun z => by
      rw [← z, eno] at hoa
      cases hoa
      cases b <;> simp at hca
    have hxl : i < xs.length := (List.getElem?_eq_some_iff.mp hx1).1
    have hil2 : i < its.toArray.size := by
      have := rva.length
      simp
      omega
    have elt : e < s.heap.objs.size := Heap.lt_size eno
    have hil : it < s.heap.objs.size := Heap.lt_size hoi
    refine wpAny_pyNext_enum_itemC (seqDraws (A := X.A.in1) (I.ok.hd hc) b it a nai its.toArray) eno ⟨itr, p⟩ hil2 neq (by simp [neq, hea]) fun u h' tk hua ho hst hT hsz hk => ?_
    refine ⟨_, rfl, wpAny_letOwnedTupleGo_enum (s := { s with heap := h', toks := tk + 1 }) ho fun h'' he' sb => ?_⟩
    obtain ⟨u', hu', rua⟩ := rva.get hx1
    have euu : u = u' := by
      have hub : its[i]? = some u := by simpa using hua
      exact Option.some.inj (hub.symm.trans hu')
    subst euu
    have hT2 : h''.get? s.heap.objs.size = some { cls := .type "tuple", data := .seq #[.int i tk, u] } := (sb.2 _ (Nat.ne_of_gt elt)).trans hT
    have made : ObjOk X.prog X.w (upd H s.heap.objs.size (.tup [.int (i : Nat), x])) h'' s.heap.objs.size (.tup [.int (i : Nat), x]) :=
      ⟨by show 2 ≤ sizeLine; decide, [.int i tk, u], .cons ⟨_, rfl⟩ (.cons rua .nil), ⟨_, hT2, rfl, _, rfl⟩⟩
    have I1 : Inv X pins σ (upd H s.heap.objs.size (.tup [.int (i : Nat), x])) { s with heap := h'', toks := tk + 1 } :=
      I.turnedNew (ch := [e, it]) (fun c ob hb q => (sb.2 c (fun z => hb (by simp [z]))).trans (hk c ob (fun z => hb (by simp [z])) (fun z => hb (by simp [z])) q)) fre (Nat.le_refl _) made
    refine ⟨.ref s.heap.objs.size, _, I1, rfl, ⟨_, x, rfl, I.hok.fresh (Nat.le_refl _), rfl, fun ys hy1 => by rw [inv_sq_inj I hy1 hq]; exact hx1⟩, ⟨⟨u, ?_⟩, hst.1.at fun o q => (sb.2 it (Ne.symm neq)).trans q, neq⟩, fun c hc => ?_⟩
    · have e1 : ((i + 1 : Nat) : Int) = (i : Int) + 1 := (by omega)
      rw [e1]
      exact he'
    · have clt : c < s.heap.objs.size := by
        rcases List.mem_cons.mp hc with z | z
        · rw [z]
          exact elt
        · (rw [List.mem_singleton.mp z])
          exact hil
      rw [upd_ne (Nat.ne_of_lt clt)]
      exact (fre c hc).1
  done := by
    intro X p1 p2 p3 hc i pins s σ H E I fre now goh
    subst p1 p2 p3
    obtain ⟨⟨old, eno⟩, itr, neq⟩ := now
    obtain ⟨xs, hq, hx1⟩ := goh
    obtain ⟨its, rva, p, zob⟩ := inv_sq I hq
    obtain ⟨oa, hoa, hca⟩ := p.obj
    obtain ⟨oi, hoi, hci, _⟩ := itr.obj
    have nai : a ≠ it := fun z => by
      rw [z, hoi] at hoa
      cases hoa
      rw [hci] at hca
      cases b <;> simp at hca
    obtain ⟨g0, g1, g2, g3, g4, g5⟩ := fre it (by simp)
    have hsz : i = its.toArray.size := by
      have := rva.length
      simp
      omega
    exact wpAny_pyNext_enum_endD (seqDraws (A := X.A.in1) (I.ok.hd hc) b it a nai its.toArray) eno (by rw [← hsz]; exact ⟨itr, p⟩) fun h' eb => ⟨rfl, I.turned (t' := s.toks) (fun c o hb q => eb c o hb q) g0 g1 g3 g4 g5⟩
  self := fun A i s Q E now h => let ⟨⟨_, eno⟩, _⟩ := now; wpAny_pyIter_enum eno h
def iEnumS (K : PySem.W.Frag) (ta : TA) : TI := fun σ H R => ta σ H fun vs H1 => ∃ (b : Bool) (a : Addr) (xs : List V), vs = [.ref a] ∧ SqB K H1 b a xs ∧ R (ItE K b a) H1
theorem pi_enumS {X : Cx} {e : Expr} {ta : TA} {p pos tpos : Pos} {elts : List Expr} {kk : Nat} (goh : Gl X "enumerate") (hm : X.mg "enumerate" = none) (ha : PA X [e] ta) (hs : starEach [e] X.env = [(false, eval e X.env)] := by rfl) :
    PI X (.Tuple elts kk tpos) (.Call (.Name "enumerate" p) [e] [] pos) (iEnumS X.K ta) := by
  constructor
  intro pins s σ H R I h
  refine Call_ (ld_blt I goh hm boot_enumerate (PyProof.Rows.callWith_type1 (thn (ha.run pos pins s σ H _ I h) fun us s1 hq => ?_) hs rfl))
  obtain ⟨vs, H1, I1, r1, b, a, xs, ex, hq, q⟩ := hq
  subst ex
  cases r1 with
  | cons r rr =>
    cases rr
    cases r
    obtain ⟨its, rva, p', zob⟩ := inv_sq I1 hq
    refine enumCall (seqBegins b a its.toArray) p' fun h' eno itr hsz hk => wpAny_pyIter_enum eno ?_
    have J2 : Inv X pins σ H1 { s1 with heap := h' } := I1.kept (t' := s1.toks) hk
    refine ⟨s1.heap.objs.size + 1, [s1.heap.objs.size + 1, s1.heap.objs.size], _, _, H1, rfl, J2, turnE b a _ _, ⟨⟨.none, eno⟩, .new itr, Nat.succ_ne_self _⟩, fun c hc => ?_, q⟩
    have cle : s1.heap.objs.size ≤ c := by
      rcases List.mem_cons.mp hc with z | z
      · rw [z]
        exact Nat.le_add_right _ _
      · (rw [List.mem_singleton.mp z])
        exact Nat.le_refl _
    exact I1.fpOk cle (I1.hok.fresh cle)
theorem walkE {K : PySem.W.Frag} {b : Bool} {a : Addr} {xs : List V} : Walk (ItE K b a) xs.length (fun H => SqB K H b a xs) (YPair (fun i => some (.int (i : Nat))) (fun i => xs[i]?)) :=
  ⟨fun i _ hi q => ⟨xs, xs[i], q, by simp [hi]⟩, fun _ q => ⟨xs, q, rfl⟩, fun i H v H' _ q y => by
    obtain ⟨T0, u, w1, w2, w3, w4⟩ := y
    exact ⟨T0, .int (i : Nat), u, w1, w2, w3, rfl, w4 xs q⟩⟩

/-! ### zip(s, t) -/
theorem fp_apart {X : Cx} {pins : List (Addr × Obj)} {σ : L2.St} {H : Hp} {s : Shared} {c a : Addr} {b : Bool} {xs : List V} (I : Inv X pins σ H s) (fre : FpOk X pins H c) (h : SqB X.K H b a xs) : c ≠ a := by
  have rd : ∀ u, Rd H a u → c ≠ a := fun u r z => rd_none r (z ▸ fre.1)
  have kk : ∀ o, X.K.lookup a = some o → c ≠ a := fun o e z => by
    have hb := I.ok.mod.kin a o e
    rcases fre.2.2.2.1 with q | q
    · exact I.ok.noex a o hb (z ▸ q)
    · have h1 := Heap.lt_size hb
      have h2 := I.ok.bsz
      rw [z] at q
      exact absurd (Nat.lt_of_lt_of_le h1 (Nat.le_trans h2 q)) (Nat.lt_irrefl _)
  cases b
  · rcases h with r | ⟨o, _, _, e, _⟩
    · exact rd _ r
    · exact kk o e
  · rcases h with r | ⟨o, _, _, e, _⟩
    · exact rd _ r
    · exact kk o e
def ItZ (K : PySem.W.Frag) (ba : Bool) (a : Addr) (bb : Bool) (b : Addr) : It :=
  ⟨fun i H => ∃ (xs ys : List V) (x y : V), SqB K H ba a xs ∧ SqB K H bb b ys ∧ xs[i]? = some x ∧ ys[i]? = some y,
    fun i H v H' => ∃ T x y, v = .ref T ∧ H T = none ∧ H' = upd H T (.tup [x, y]) ∧ (∀ xs, SqB K H ba a xs → xs[i]? = some x) ∧ ∀ ys, SqB K H bb b ys → ys[i]? = some y,
    fun i H => ∃ xs ys : List V, SqB K H ba a xs ∧ SqB K H bb b ys ∧ i ≤ xs.length ∧ i ≤ ys.length ∧ (i = xs.length ∨ i = ys.length)⟩
theorem turnZ {P : Program} {w : World} {K : PySem.W.Frag} {elts : List Expr} {kk : Nat} {tpos : Pos} {ba bb : Bool} {a b z TI TO i1 i2 : Addr} (S : ZipSep2 z TI TO i1 i2 [i1, a] [i2, b]) :
    Turn P w K (.Tuple elts kk tpos) (ItZ K ba a bb b) [z, TI, TO, i1, i2] z (fun i h => IsZip h z TI TO .none ∧ IsTupOf2 h TI (.ref i1) (.ref i2) ∧ (∃ x y, IsTupOf2 h TO x y) ∧ SeqIt h ba i1 a i ∧ SeqIt h bb i2 b i) where
  mem := by simp
  obj := fun i h now c hc => by
    obtain ⟨zob, tiO, ⟨x, y, toO⟩, h1, h2⟩ := now
    obtain ⟨o1, e1, _, d1⟩ := h1.obj
    obtain ⟨o2, e2, _, d2⟩ := h2.obj
    have ee : c = z ∨ c = TI ∨ c = TO ∨ c = i1 ∨ c = i2 := (by simpa using hc)
    rcases ee with q | q | q | q | q <;> rw [q]
    · exact ⟨_, zob, fun v q => nomatch q⟩
    · exact ⟨_, tiO, fun v q => nomatch q⟩
    · exact ⟨_, toO, fun v q => nomatch q⟩
    · exact ⟨o1, e1, d1⟩
    · exact ⟨o2, e2, d2⟩
  keep := fun i h h' now k => by
    obtain ⟨zob, tiO, ⟨x, y, toO⟩, h1, h2⟩ := now
    exact ⟨k z (by simp) _ zob, k TI (by simp) _ tiO, ⟨x, y, k TO (by simp) _ toO⟩, h1.at fun o q => k i1 (by simp) o q, h2.at fun o q => k i2 (by simp) o q⟩
  item := by
    intro X p1 p2 p3 hc i pins s σ H E I fre now goh
    subst p1 p2 p3
    obtain ⟨zob, tiO, ⟨xo, yo, toO⟩, h1, h2⟩ := now
    obtain ⟨xs, ys, x, y, sqx, sqy, hx1, hy1⟩ := goh
    obtain ⟨its, rva, p, _⟩ := inv_sq I sqx
    obtain ⟨its2, rvb, p2, _⟩ := inv_sq I sqy
    obtain ⟨u, hua, rua⟩ := rva.get hx1
    obtain ⟨u2, hub, rub⟩ := rvb.get hy1
    have zlt : z < s.heap.objs.size := Heap.lt_size zob
    have n1 : a ≠ i1 := Ne.symm (fp_apart I (fre i1 (by simp)) sqx)
    have n2 : b ≠ i2 := Ne.symm (fp_apart I (fre i2 (by simp)) sqy)
    have l1 : i < its.toArray.size := by
      have := (List.getElem?_eq_some_iff.mp hua).1
      simpa using this
    have l2 : i < its2.toArray.size := by
      have := (List.getElem?_eq_some_iff.mp hub).1
      simpa using this
    refine wpAny_pyNext_zipD2_item S (seqDraws (A := X.A.in1) (I.ok.hd hc) ba i1 a n1 its.toArray) (seqDraws (A := X.A.in1) (I.ok.hd hc) bb i2 b n2 its2.toArray) zob tiO toO ⟨h1, p⟩ ⟨h2, p2⟩ l1 l2 fun w1 w2 h' tk hw1 hw2 z' TO' s1 s2 hT hsz hk => ?_
    have e1 : w1 = u := by
      have q : its[i]? = some w1 := by simpa using hw1
      exact Option.some.inj (q.symm.trans hua)
    have e2 : w2 = u2 := by
      have q : its2[i]? = some w2 := by simpa using hw2
      exact Option.some.inj (q.symm.trans hub)
    subst e1 e2
    refine ⟨_, rfl, wpAny_letOwnedTupleGo_zip (s := { s with heap := h', toks := tk }) z' fun h'' z'' sb => ?_⟩
    have hT2 : h''.get? s.heap.objs.size = some { cls := .type "tuple", data := .seq #[w1, w2] } := (sb.2 _ (Nat.ne_of_gt zlt)).trans hT
    have made : ObjOk X.prog X.w (upd H s.heap.objs.size (.tup [x, y])) h'' s.heap.objs.size (.tup [x, y]) := ⟨by show 2 ≤ sizeLine; decide, [w1, w2], .cons rua (.cons rub .nil), ⟨_, hT2, rfl, _, rfl⟩⟩
    have I1 : Inv X pins σ (upd H s.heap.objs.size (.tup [x, y])) { s with heap := h'', toks := tk } :=
      I.turnedNew (ch := [z, TI, TO, i1, i2]) (fun c o hb q => (sb.2 c (fun q' => hb (by simp [q']))).trans (hk c o (fun q' => hb (by simp [q'])) (fun q' => hb (by simp [q'])) (fun q' => hb (by simp [q'])) (fun q' => hb (by simp [q'])) q)) fre (Nat.le_refl _) made
    refine ⟨.ref s.heap.objs.size, _, I1, rfl, ⟨_, x, y, rfl, I.hok.fresh (Nat.le_refl _), rfl, fun l hl => by rw [inv_sq_inj I hl sqx]; exact hx1, fun l hl => by rw [inv_sq_inj I hl sqy]; exact hy1⟩, ⟨z'', ?_, ⟨w1, w2, ?_⟩, ?_, ?_⟩, fun c cmm => ?_⟩
    · exact (sb.2 _ S.TIz).trans (hk _ _ S.TIz S.TITO S.TIi1 S.TIi2 tiO)
    · exact (sb.2 _ S.TOz).trans TO'
    · exact s1.1.at fun o q => (sb.2 _ (Ne.symm S.zi1)).trans q
    · exact s2.1.at fun o q => (sb.2 _ (Ne.symm S.zi2)).trans q
    · have clt : c < s.heap.objs.size := by
        obtain ⟨o, ho⟩ : ∃ o, s.heap.get? c = some o := by
          obtain ⟨o1, q1, _⟩ := h1.obj
          obtain ⟨o2, q2, _⟩ := h2.obj
          have ee : c = z ∨ c = TI ∨ c = TO ∨ c = i1 ∨ c = i2 := by simpa using cmm
          rcases ee with q | q | q | q | q <;> rw [q]
          · exact ⟨_, zob⟩
          · exact ⟨_, tiO⟩
          · exact ⟨_, toO⟩
          · exact ⟨_, q1⟩
          · exact ⟨_, q2⟩
        exact Heap.lt_size ho
      rw [upd_ne (Nat.ne_of_lt clt)]
      exact (fre c cmm).1
  done := by
    intro X p1 p2 p3 hc i pins s σ H E I fre now goh
    subst p1 p2 p3
    obtain ⟨zob, tiO, ⟨xo, yo, toO⟩, h1, h2⟩ := now
    obtain ⟨xs, ys, sqx, sqy, hi1, hi2, hend⟩ := goh
    obtain ⟨its, rva, p, _⟩ := inv_sq I sqx
    obtain ⟨its2, rvb, p2, _⟩ := inv_sq I sqy
    have n1 : a ≠ i1 := Ne.symm (fp_apart I (fre i1 (by simp)) sqx)
    have n2 : b ≠ i2 := Ne.symm (fp_apart I (fre i2 (by simp)) sqy)
    have l1 : its.toArray.size = xs.length := by
      have := rva.length
      simp
      omega
    have l2 : its2.toArray.size = ys.length := by
      have := rvb.length
      simp
      omega
    refine wpAny_pyNext_zipD2_end S (seqDraws (A := X.A.in1) (I.ok.hd hc) ba i1 a n1 its.toArray) (seqDraws (A := X.A.in1) (I.ok.hd hc) bb i2 b n2 its2.toArray) zob tiO toO ⟨h1, p⟩ ⟨h2, p2⟩ (by omega) (by omega) (by omega) fun h' tk hk => ⟨rfl, ?_⟩
    exact I.turnedL (t' := tk) (ch := [z, TI, TO, i1, i2]) (fun c o hb q => hk c o (fun q' => hb (by simp [q'])) (fun q' => hb (by simp [q'])) (fun q' => hb (by simp [q'])) (fun q' => hb (by simp [q'])) q) fre
  self := fun A i s Q E now h => wpAny_pyIter_zip now.1 h
theorem nm3 {x y z : Nat} (h : x ≠ y) (h' : x ≠ z) : (x : Addr) ∉ ([y, z] : List Addr) := fun m => by
  rcases List.mem_cons.mp m with e | m
  · exact h e
  · exact h' (List.mem_singleton.mp m)
theorem zsep (n a b : Nat) (h1 : a < n) (h2 : b < n) : ZipSep2 (n + 4) (n + 2) (n + 3) n (n + 1) [n, a] [n + 1, b] where
  TIz := show (n + 2 : Nat) ≠ n + 4 by omega
  TOz := show (n + 3 : Nat) ≠ n + 4 by omega
  TITO := show (n + 2 : Nat) ≠ n + 3 by omega
  TIi1 := show (n + 2 : Nat) ≠ n by omega
  mem1 := by simp
  zf1 := nm3 (by omega) (by omega)
  Tf1 := nm3 (by omega) (by omega)
  TIi2 := show (n + 2 : Nat) ≠ n + 1 by omega
  mem2 := by simp
  zf2 := nm3 (by omega) (by omega)
  Tf2 := nm3 (by omega) (by omega)
  sep1_2 := nm3 (by omega) (by omega)
  sep2_1 := nm3 (by omega) (by omega)
def iZipS (K : PySem.W.Frag) (ta : TA) : TI := fun σ H R => ta σ H fun vs H1 => ∃ (ba : Bool) (a : Addr) (bb : Bool) (b : Addr) (xs ys : List V), vs = [.ref a, .ref b] ∧ SqB K H1 ba a xs ∧ SqB K H1 bb b ys ∧ R (ItZ K ba a bb b) H1
theorem pi_zipS {X : Cx} {e e2 : Expr} {ta : TA} {p pos tpos : Pos} {elts : List Expr} {kk : Nat} (goh : Gl X "zip") (hm : X.mg "zip" = none) (ha : PA X [e, e2] ta)
    (hs : starEach [e, e2] X.env = (false, eval e X.env) :: starEach [e2] X.env := by rfl) (hpl : (backTo pos (starEach [e2] X.env)).any (·.1) = false := by rfl) : PI X (.Tuple elts kk tpos) (.Call (.Name "zip" p) [e, e2] [] pos) (iZipS X.K ta) := by
  constructor
  intro pins s σ H R I h
  refine Call_ (ld_blt I goh hm PyProof.Rows.boot_zip (PyProof.Rows.callWith_type1 (thn (ha.run pos pins s σ H _ I h) fun us s1 hq => ?_) hs hpl))
  obtain ⟨vs, H1, I1, r1, ba, a, bb, b, xs, ys, ex, sqx, sqy, q⟩ := hq
  subst ex
  cases r1 with
  | cons r rr =>
    cases rr with
    | cons r' rr =>
      cases rr
      cases r
      cases r'
      obtain ⟨its, rva, p1, _⟩ := inv_sq I1 sqx
      obtain ⟨its2, rvb, p2, _⟩ := inv_sq I1 sqy
      have la : a < s1.heap.objs.size := let ⟨_, e, _⟩ := p1.obj; Heap.lt_size e
      have lb : b < s1.heap.objs.size := let ⟨_, e, _⟩ := p2.obj; Heap.lt_size e
      refine zip_begins2 (seqBegins ba a its.toArray) (seqBegins bb b its2.toArray) p1 p2 fun h' zob tiO toO h1 h2 hsz hk => wpAny_pyIter_zip zob ?_
      have J2 : Inv X pins σ H1 { s1 with heap := h' } := I1.kept (t' := s1.toks) hk
      refine ⟨s1.heap.objs.size + 4, [s1.heap.objs.size + 4, s1.heap.objs.size + 2, s1.heap.objs.size + 3, s1.heap.objs.size, s1.heap.objs.size + 1], _, _, H1, rfl, J2, turnZ (zsep _ a b la lb), ⟨zob, tiO, ⟨_, _, toO⟩, .new h1, .new h2⟩, fun c cmm => ?_, q⟩
      have cle : s1.heap.objs.size ≤ c := by
        have ee : c = s1.heap.objs.size + 4 ∨ c = s1.heap.objs.size + 2 ∨ c = s1.heap.objs.size + 3 ∨ c = s1.heap.objs.size ∨ c = s1.heap.objs.size + 1 := by simpa using cmm
        rcases ee with z | z | z | z | z <;> rw [z] <;> first | exact Nat.le_add_right _ _ | exact Nat.le_refl _
      exact I1.fpOk cle (I1.hok.fresh cle)
theorem walkZ {K : PySem.W.Frag} {ba bb : Bool} {a b : Addr} {xs ys : List V} {n : Nat} (hn : n = min xs.length ys.length) : Walk (ItZ K ba a bb b) n (fun H => SqB K H ba a xs ∧ SqB K H bb b ys) (YPair (fun i => xs[i]?) (fun i => ys[i]?)) := by
  subst hn
  refine ⟨fun i _ hi q => ?_, fun _ q => ⟨xs, ys, q.1, q.2, by omega, by omega, by omega⟩, fun i H v H' _ q y => ?_⟩
  · have h1 : i < xs.length := (by omega)
    have h2 : i < ys.length := (by omega)
    exact ⟨xs, ys, xs[i], ys[i], q.1, q.2, (by simp [h1]), (by simp [h2])⟩
  · obtain ⟨T0, u, v, w1, w2, w3, w4, w5⟩ := y
    exact ⟨T0, u, v, w1, w2, w3, w4 xs q.1, w5 ys q.2⟩
end Fs

/-! written dicts with text keys: d[k], d.get(k, x); slices of a list or a tuple -/
namespace Fs
open PySem PySem.Spec PyProof.Rows L2
section
variable {X : Cx} {d : Addr} {es : Array DictEntry} {n : Nat}
def tKI (K : PySem.W.Frag) (d : Addr) (td ty : TE) : TE := fun σ H Q => td σ H fun x H1 => ty σ H1 fun y H2 => ∃ (z : Str) (u0 : Value) (v0 : V), x = .ref d ∧ y = .str z ∧ PySem.W.nsIn K d z = some (some u0) ∧ RelV v0 u0 ∧ Q v0 H2
theorem pe_kitem {o i : Expr} {pos : Pos} {td ty : TE} (D : KDict X.K X.w d es n) (ho : PE X o td) (hi : PE X i ty) (hs : NoSl i) : PE X (.Subscript o i pos) (tKI X.K d td ty) := by
  constructor
  intro pins s σ H Q I h
  refine subD_of PySem.F.slot_dict_getitem.lookup hs (thn (ho.run pins s σ H _ I h) fun u s1 hu => ?_)
  obtain ⟨x, H1, I1, rx, q1⟩ := hu
  refine thn (hi.run pins s1 σ H1 _ I1 q1) fun iv s2 hv => ?_
  obtain ⟨y, H2, I2, ry, z, u0, v0, rfl, rfl, e, r, q⟩ := hv
  cases rx
  exact ⟨kd_type D I2, op_item_kd D pins s2 σ H2 (.ref d) (.str z) (.ref d) iv Q I2 rfl ry ⟨z, u0, v0, rfl, rfl, e, r, q⟩⟩
/-- d.get(k, x) -/
def tKG (K : PySem.W.Frag) (d : Addr) (td ty tx : TE) : TE := fun σ H Q => td σ H fun x H1 => x = .ref d ∧ ty σ H1 fun y H2 => tx σ H2 fun x0 H3 => ∃ (z : Str) (r : Option Value) (v0 : V), y = .str z ∧ PySem.W.nsIn K d z = some r ∧
  (match r with | some u => RelV v0 u | none => v0 = x0) ∧ Q v0 H3
theorem pe_kget2 {o e f : Expr} {apos cpos : Pos} {td ty tx : TE} (D : KDict X.K X.w d es n) (ho : PE X o td) (he : PE X e ty) (hf : PE X f tx) (m : M2 X o "get" apos e f cpos) : PE X (.Call (.Attribute o "get" apos) [e, f] [] cpos) (tKG X.K d td ty tx) := by
  constructor
  intro pins s σ H Q I h
  refine wpAny_Call_method m.base m.few m.line PySem.F.plainAttrs_dict PySem.F.slot_dict_get PySem.F.type_dict_get (thn (ho.run pins s σ H _ I h) fun u s1 hu => ?_)
  obtain ⟨x, H1, I1, rx, ex, q1⟩ := hu
  subst ex
  obtain rfl : u = Value.ref d := rx
  have mo := PySem.W.mapOf_K (prog := X.prog) (w := X.w) I1.kIn D.at_ D.lit
  refine ⟨kd_type D I1, fun b q => ?_, ?_⟩
  · cases q
    exact ⟨_, I1.kIn _ _ D.at_, rfl⟩
  rw [m.trees]
  refine Calls.callWith_builtin rfl (Calls.evalArgs_plain (Calls.spliced_cons (thn (he.run pins s1 σ H1 _ I1 q1) fun iv s2 hv => ?_)))
  obtain ⟨y, H2, I2, ry, q2⟩ := hv
  refine Calls.spliced_cons (thn (hf.run pins s2 σ H2 _ I2 q2) fun fv s3 hw => ?_)
  obtain ⟨x0, H3, I3, rz, z, r, v0, rfl, e2, hr, q3⟩ := hw
  obtain ⟨t, rfl⟩ := ry
  refine Calls.spliced_nil ?_
  refine call_meetsIn PySem.F.slot_dict_get (kd_type D I3) PySem.F.entry_dict_get (PySem.F.args_dict_get_3 _ _ _) (meets_dict_get_default (strKind X.prog X.w) d (PySem.strKind_is X.prog X.w z t) D.low fv) ⟨_, PySem.W.mapOf_K (prog := X.prog) (w := X.w) I3.kIn D.at_ D.lit, ?_⟩
  refine ⟨v0, H3, I3.tok _, ?_, q3⟩
  rw [PySem.W.find_K D.at_ e2]
  cases r with
  | none =>
    have e : v0 = x0 := hr
    rw [e]
    exact rz
  | some u => exact hr
end
/-- s[a:b] of a list or a tuple -/
theorem sl_seq {X : Cx} : SlR X (fun x lo hi H Q => rSlL X.K x lo hi H Q ∨ rSlA X.K x lo hi H Q) := sl_list.or sl_tupA
theorem slice_seq {K : PySem.W.Frag} {X : List Addr} {H : Hp} {b : Bool} {p : Addr} {xs : List V} {lo hi : Option Int} {Q : VK} (h : Sq H b p xs) (hX : Kn X H) (hp : p ∉ X)
    (q : ∀ (r : Addr) (H' : Hp), r ∉ X → Sq H' b r (cutV xs lo hi) → Kp [] H H' → Q (.ref r) H') : rSlL K (.ref p) lo hi H Q ∨ rSlA K (.ref p) lo hi H Q := by
  cases b
  · exact .inl ⟨p, xs, rfl, h.l, fun r hr => q r _ (hX.out hr) Sq.newL (Kp.rfl'.new hr)⟩
  · refine .inr ⟨p, xs, rfl, h.t, fun z => ?_, fun _ r hr => q r _ (hX.out hr) Sq.newT (Kp.rfl'.new hr)⟩
    have e : cutV xs lo hi = xs := by
      unfold cutV
      rw [z.1, z.2, List.drop_zero, Nat.sub_zero, List.take_length]
    exact q p H hp (by rw [e]; exact h) Kp.rfl'
theorem cut_from {xs : List V} {i : Int} {k : Nat} (e : i = (k : Int)) (hk : k ≤ xs.length) : cutV xs (some i) none = xs.drop k := by
  unfold cutV
  rw [e, HT.sIx_nat, HT.sIx_none, Nat.min_eq_left hk]
  exact List.take_of_length_le (by rw [List.length_drop]; exact Nat.le_refl _)
theorem cut_to {xs : List V} {i : Int} {k : Nat} (e : i = (k : Int)) (hk : k ≤ xs.length) : cutV xs none (some i) = xs.take k := by
  unfold cutV
  rw [e, HT.sIx_nat, HT.sIx_none, Nat.min_eq_left hk, List.drop_zero, Nat.sub_zero]
/-- s[i] of a list or a tuple -/
theorem ix_seq2 {K : PySem.W.Frag} {H : Hp} {b : Bool} {p : Addr} {xs : List V} {i : Int} {v : V} {Q : VK} (h : Sq H b p xs) (e : atI xs i = some v) (q : Q v H) : rIxL K (.ref p) (.int i) H Q ∨ rIxT K (.ref p) (.int i) H Q := by
  cases b
  · exact .inl ⟨p, xs, i, v, rfl, rfl, h.l, e, q⟩
  · exact .inr ⟨p, xs, i, v, rfl, rfl, h.t, e, q⟩
end Fs

namespace Fs
open PySem L2
def top (i : Nat) : Stmt := PySem.Challenge.pw_firsttouch_k06_places_told.main.body.getD i (.Pass ⟨0, 0, 0, 0⟩)
abbrev ssource : Stmt := top 38
theorem scsource : FnScope ["_law_script", "_law_k", "_law_cell", "_law_deep"] ["_law_script", "_law_k"] (defScope ssource) := ⟨rfl, rfl, rfl, by decide +kernel, rfl, by decide +kernel, by decide +kernel⟩
abbrev sdraw : Stmt := top 39
theorem scdraw : FnScope ["_law_source_here", "_law_many", "_law_digit", "_law_seed"] ["_law_source_here", "_law_many"] (defScope sdraw) := ⟨rfl, rfl, rfl, by decide +kernel, rfl, by decide +kernel, by decide +kernel⟩
abbrev spick : Stmt := top 40
theorem scpick : FnScope ["_law_source_here", "_law_some"] ["_law_source_here", "_law_some"] (defScope spick) := ⟨rfl, rfl, rfl, by decide +kernel, rfl, by decide +kernel, by decide +kernel⟩
/-! what the helpers promise -/
def spDraw : Sp := fun vs H Q _ => ∃ (a : Addr) (n c : Int), vs = [.ref a, .int n] ∧ Src H a c ∧ c < 1099511627776 ∧ 1 ≤ n ∧ n < 1073741824 ∧
  ∀ (r : Int) (H' : Hp), 0 ≤ r → r < n → Src H' a (c + 1) → Kp [a] H H' → Q (.int r) H'
def spPick (K : PySem.W.Frag) : Sp := fun vs H Q _ => ∃ (a l : Addr) (c : Int) (xs : List V), vs = [.ref a, .ref l] ∧ Src H a c ∧ c < 1099511627776 ∧ SqL K H l xs ∧ 1 ≤ xs.length ∧ xs.length ≤ 1000 ∧ l ≠ a ∧
  ∀ (v : V) (H' : Hp), v ∈ xs → Src H' a (c + 1) → Kp [a] H H' → Q v H'
def spSource (K : PySem.W.Frag) : Sp := fun vs H Q _ => ∃ (l : Addr) (ns : List Int) (k : Int), vs = [.ref l, .int k] ∧ SqL K H l (ns.map V.int) ∧ ns.length ≤ 63 ∧ 0 ≤ k ∧ k ≤ 1000 ∧
  ∀ (a : Addr) (H' : Hp), H a = none → Src H' a 0 → Kp [] H H' → Q (.ref a) H'
section
variable {P : Program} {w : World} {K : PySem.W.Frag} {mg : Str → Option Value} {base : Heap} {f f1 : Addr} {fd fd1 : FuncData}
theorem at0 {x : V} {xs : List V} : atI (x :: xs) (0 : Int) = some x := atI_nat (j := 0) rfl
theorem ok_draw (D : Df K mg "_law_draw" sdraw ["_law_source_here", "_law_many"] f fd) (B : Bn mg) : FnOk P w K mg base CX0 1 f fd ["_law_source_here", "_law_many"] spDraw := by
  refine D.F.ok scdraw (fun vs H Q E h => ?_) (fun cdv A outer s H vs Q E hr h => ?_)
  · obtain ⟨a, n, c, rfl, _⟩ := h
    rfl
  obtain ⟨a, n, c, rfl, ⟨d, m, e, hm0, hm1, hc0⟩, hc1, hn1, hn2, q⟩ := h
  refine ⟨_, (pss_cons (ps_asg (pe_op op_add (pe_ix ix_list (pv 0) pe_int (fun _ _ => rfl)) pe_int) (pg_sub (pv 0) pe_int set_list))
 (pss_cons (ps_if (pt_cmpR op_gt (pe_ix ix_list (pv 0) pe_int (fun _ _ => rfl)) pe_int (nomark _))
  (pss_cons (ps_set (i := 2) scdraw.nd rfl (Or.inl rfl) (pe_op op_modN (pe_callTy call_int1 (by rfl) B.int (by decide +kernel) (pa_cons (pe_ix ix_list (pv 0) pe_int (fun _ _ => rfl)) pa_nil)) (pv 1)))
 (pss_cons (ps_asg (pe_op op_fdivN (pe_ix ix_list (pv 0) pe_int (fun _ _ => rfl)) (pv 1)) (pg_sub (pv 0) pe_int set_list))
 (pss_one (ps_ret (pv 2)))))
  pss_nil)
 (pss_cons (ps_set (i := 3) scdraw.nd rfl (Or.inl rfl) (pe_op op_modN (pe_op op_pow (pe_callTy call_int1 (by rfl) B.int (by decide +kernel) (pa_cons (pe_op op_add (pe_ix ix_list (pv 0) pe_int (fun _ _ => rfl)) (pe_op op_mul pe_int (pe_ix ix_list (pv 0) pe_int (fun _ _ => rfl)))) pa_nil)) pe_int) pe_int))
 (pss_one (ps_ret (pe_op op_modN (pe_op op_fdivN (pe_op op_modN (pe_op op_mul (pe_op op_add (pv 3) (pe_ix ix_list (pv 0) pe_int (fun _ _ => rfl))) pe_int) pe_int) pe_int) (pv 1))))))), ?_⟩
  have hN : (1 : Int) ≤ n := hn1
  refine ⟨_, rfl, a, _, _, _, rfl, rfl, SqL.of e, atI_nat (j := 2) rfl, _, _, rfl, rfl, _, rfl, a, _, _, 2, rfl, rfl, e, rfl, ?_⟩
  have e1 : (upd H a (.lst [.int d, .int m, .int (c + 1)])) a = some (.lst [.int d, .int m, .int (c + 1)]) := upd_same
  refine ⟨_, rfl, a, _, _, _, rfl, rfl, SqL.of e1, at0, _, _, rfl, rfl, _, rfl, ?_⟩
  refine ite2 (fun _ => ?_) (fun _ => ?_)
  · refine ⟨_, rfl, a, _, _, _, rfl, rfl, SqL.of e1, at0, .inl ⟨_, rfl, _, rfl, _, _, rfl, rfl, (by omega), ?_⟩⟩
    refine ⟨_, rfl, a, _, _, _, rfl, rfl, SqL.of e1, at0, _, rfl, _, _, rfl, rfl, ⟨by omega, by omega⟩, _, rfl, a, _, _, 0, rfl, rfl, e1, rfl, _, rfl, ?_⟩
    refine q _ _ ?_ ?_ ⟨_, m, upd_same, hm0, hm1, by omega⟩ ((Kp.rfl'.at (by simp)).at (by simp))
    · exact Int.fmod_nonneg_of_pos _ (by omega)
    · exact Int.fmod_lt_of_pos _ (by omega)
  · refine ⟨_, rfl, a, _, _, _, rfl, rfl, SqL.of e1, atI_nat (j := 1) rfl, _, rfl, a, _, _, _, rfl, rfl, SqL.of e1, atI_nat (j := 2) rfl, _, _, rfl, rfl, .inl ⟨by decide, by decide⟩, _, _, rfl, rfl, .inl ⟨_, rfl, _, _, rfl, rfl, ?_, _, _, rfl, rfl, (by show (2147483647 : Int) ≠ 0; decide), ?_⟩⟩
    · exact ⟨by decide, by decide, by omega⟩
    have b0 : 0 ≤ ((m + 7919 * (c + 1)) ^ (5 : Int).toNat).fmod 2147483647 := Int.fmod_nonneg_of_pos _ (by decide)
    have b1 : ((m + 7919 * (c + 1)) ^ (5 : Int).toNat).fmod 2147483647 < 2147483647 := Int.fmod_lt_of_pos _ (by decide)
    refine ⟨_, rfl, _, rfl, a, _, _, _, rfl, rfl, SqL.of e1, atI_nat (j := 2) rfl, _, _, rfl, rfl, _, _, rfl, rfl, .inl ⟨by omega, by omega⟩, _, _, rfl, rfl, (by show (2147483629 : Int) ≠ 0; decide), _, _, rfl, rfl, ⟨by decide, by decide⟩, _, rfl, _, _, rfl, rfl, by omega, ?_⟩
    refine q _ _ ?_ ?_ ⟨d, m, upd_same, hm0, hm1, by omega⟩ (Kp.rfl'.at (by simp))
    · exact Int.fmod_nonneg_of_pos _ (by omega)
    · exact Int.fmod_lt_of_pos _ (by omega)

theorem atI_of {xs : List V} {r : Int} (h0 : 0 ≤ r) (h1 : r < xs.length) : ∃ v, v ∈ xs ∧ atI xs r = some v := by
  have e : r = ((r.toNat : Nat) : Int) := by omega
  have hl : r.toNat < xs.length := by omega
  refine ⟨xs[r.toNat], List.getElem_mem hl, ?_⟩
  have q : atI xs ((r.toNat : Nat) : Int) = some xs[r.toNat] := atI_nat (List.getElem?_eq_getElem hl)
  rwa [← e] at q
theorem ok_pick (D : Df K mg "_law_pick" spick ["_law_source_here", "_law_some"] f fd) (Ddraw : Df K mg "_law_draw" sdraw ["_law_source_here", "_law_many"] f1 fd1) (B : Bn mg) : FnOk P w K mg base CX0 2 f fd ["_law_source_here", "_law_some"] (spPick K) := by
  have Gdraw : FnOk P w K mg base CX0 1 f1 fd1 _ _ := ok_draw Ddraw B
  refine D.F.ok scpick (fun vs H Q E h => ?_) (fun cdv A outer s H vs Q E hr h => ?_)
  · obtain ⟨a, l, c, xs, rfl, _⟩ := h
    rfl
  obtain ⟨a, l, c, xs, rfl, S, hc, hl, h1, h2, hne, q⟩ := h
  refine ⟨_, (pss_one (ps_ret (pe_ix ix_list (pv 1) (pe_call Gdraw (hr.mono (by decide)) rfl Ddraw.g Ddraw.F.kp Ddraw.b .nil pass0 (pa_cons (pv 0) (pa_cons (pe_callB call_len_seq (by rfl) B.len PySem.boot_len (pa_cons (pv 1) pa_nil)) pa_nil))) (fun _ _ => rfl)))), ?_⟩
  refine ⟨_, rfl, _, rfl, _, rfl, l, xs, rfl, .inl hl, a, _, c, rfl, S, hc, by omega, by omega, fun r H' r0 r1 S' k' => ?_⟩
  have hl' : SqL K H' l xs := k'.sqL hl (by simpa using hne)
  obtain ⟨v, hv, hat⟩ := atI_of r0 r1
  exact ⟨l, xs, r, v, rfl, rfl, hl', hat, q v H' hv S' k'⟩
theorem ok_source (D : Df K mg "_law_source" ssource ["_law_script", "_law_k"] f fd) (B : Bn mg) : FnOk P w K mg base CX0 1 f fd ["_law_script", "_law_k"] (spSource K) := by
  refine D.F.ok scsource (fun vs H Q E h => ?_) (fun cdv A outer s H vs Q E hr h => ?_)
  · obtain ⟨l, ns, k, rfl, _⟩ := h
    rfl
  obtain ⟨l, ns, k, rfl, hl, h63, hk0, hk1, q⟩ := h
  refine ⟨_, (pss_cons (ps_set (i := 2) scsource.nd rfl (Or.inl rfl) pe_int)
 (pss_cons (ps_set (i := 3) scsource.nd rfl (Or.inl rfl) pe_int)
 (Evl.pss_cut (ps_if (pt_cmpR op_gt (pe_callB call_len_seq (by rfl) B.len PySem.boot_len (pa_cons (pv 0) pa_nil)) pe_int (nomark _))
  (pss_one (ps_set (i := 2) scsource.nd rfl (Or.inl rfl) (pe_ix ix_list (pv 0) (pe_op op_modN (pe_callTy call_int1 (by rfl) B.int (by decide +kernel) (pa_cons (pv 1) pa_nil)) (pe_callB call_len_seq (by rfl) B.len PySem.boot_len (pa_cons (pv 0) pa_nil))) (fun _ _ => rfl))))
  pss_nil)
 (Evl.pss_cut (ps_if (PW.pt (pw_and (pt_cmpR op_lt (pv 1) (pe_callB call_len_seq (by rfl) B.len PySem.boot_len (pa_cons (pv 0) pa_nil)) (nomark _)) (pw_and1 (pt_cmpR op_ge (pv 2) (pe_op op_pow pe_int pe_int) (nomark _)))))
  (pss_one (ps_set (i := 3) scsource.nd rfl (Or.inl rfl) (pv 2)))
  pss_nil)
 (pss_one (ps_ret (pe_lst (pa_cons (pv 3) (pa_cons (pe_op op_add (pe_op op_add (pe_op op_modN (pe_callTy call_int1 (by rfl) B.int (by decide +kernel) (pa_cons (pv 2) pa_nil)) pe_int) (pe_op op_mul pe_int (pv 1))) pe_int) (pa_cons pe_int pa_nil)))))))))), ?_⟩
  have ml : (ns.map V.int).length = ns.length := List.length_map _
  -- the first if: the cell
  refine ⟨fun σ' H' => H' = H ∧ ∃ x : Int, σ' = [some (.ref l), some (.int k), some (.int x), some (.int 0)], ?_, ?_⟩
  · refine ⟨_, rfl, l, _, rfl, .inl hl, _, _, rfl, rfl, _, rfl, ?_⟩
    refine ite2 (fun c => ?_) (fun c => ?_)
    · have c' := of_decide_eq_true c
      refine ⟨_, rfl, _, rfl, .inl ⟨_, rfl, _, rfl, l, _, rfl, .inl hl, _, _, rfl, rfl, (by show (_ : Int) ≠ 0; omega), ?_⟩⟩
      obtain ⟨v, hv, hat⟩ := atI_of (xs := ns.map V.int) (r := k.fmod ((ns.map V.int).length : Int)) (Int.fmod_nonneg_of_pos _ (by omega)) (Int.fmod_lt_of_pos _ (by omega))
      obtain ⟨x, _, rfl⟩ := List.mem_map.mp hv
      exact ⟨l, _, _, _, rfl, rfl, hl, hat, rfl, x, rfl⟩
    · exact ⟨rfl, 0, rfl⟩
  rintro σ' H' ⟨rfl, x, rfl⟩
  -- the second if: the digits
  refine ⟨fun σ' H1 => H1 = H' ∧ ∃ y : Int, σ' = [some (.ref l), some (.int k), some (.int x), some (.int y)], ?_, ?_⟩
  · refine ⟨_, rfl, _, rfl, l, _, rfl, .inl hl, _, _, rfl, rfl, _, rfl, ?_⟩
    refine ite2 (fun c => ?_) (fun c => ?_)
    · refine ⟨_, rfl, _, _, rfl, rfl, ⟨by decide, by decide, by decide⟩, _, _, rfl, rfl, _, rfl, ?_⟩
      refine ite2 (fun c => ?_) (fun c => ?_)
      · exact ⟨_, rfl, rfl, x, rfl⟩
      · exact ⟨rfl, 0, rfl⟩
    · exact ⟨rfl, 0, rfl⟩
  rintro σ' H' ⟨rfl, y, rfl⟩
  refine ⟨_, rfl, _, rfl, .inl ⟨_, rfl, _, _, rfl, rfl, (by show (2147483647 : Int) ≠ 0; decide), _, rfl, _, _, rfl, rfl, .inl ⟨by decide, by decide⟩, _, _, rfl, rfl, _, _, rfl, rfl, (by show 3 ≤ sizeLine; decide), fun p hp => ?_⟩⟩
  have b0 := Int.fmod_nonneg_of_pos x (b := 2147483647) (by decide)
  have b1 := Int.fmod_lt_of_pos x (b := 2147483647) (by decide)
  exact q p _ hp ⟨_, _, upd_same, by omega, by omega, Int.le_refl 0⟩ (Kp.rfl'.new hp)
end
end Fs

namespace Fs
open PySem L2
abbrev sword : Stmt := top 42
theorem scword : FnScope ["_law_source_here", "_law_some"] ["_law_source_here"] (defScope sword) := ⟨rfl, rfl, rfl, by decide +kernel, rfl, by decide +kernel, by decide +kernel⟩
abbrev snumber : Stmt := top 43
theorem scnumber : FnScope ["_law_source_here"] ["_law_source_here"] (defScope snumber) := ⟨rfl, rfl, rfl, by decide +kernel, rfl, by decide +kernel, by decide +kernel⟩
abbrev splainrow : Stmt := top 44
theorem scplainrow : FnScope ["_law_source_here", "_law_word_here", "_law_many", "_law_k"] ["_law_source_here", "_law_word_here"] (defScope splainrow) := ⟨rfl, rfl, rfl, by decide +kernel, rfl, by decide +kernel, by decide +kernel⟩
def spWord : Sp := fun vs H Q _ => ∃ (a : Addr) (c : Int), vs = [.ref a] ∧ Src H a c ∧ c < 1099511627776 ∧
  ∀ (s : Str) (H' : Hp), wordB s = true → Src H' a (c + 1) → Kp [a] H H' → Q (.str s) H'
def spNumber : Sp := fun vs H Q _ => ∃ (a : Addr) (c : Int), vs = [.ref a] ∧ Src H a c ∧ c + 1 < 1099511627776 ∧
  ∀ (i : Int) (H' : Hp), -999 ≤ i → i ≤ 999 → Src H' a (c + 2) → Kp [a] H H' → Q (.int i) H'
/-- a plain row: a new tuple -/
def spPlain : Sp := fun vs H Q _ => ∃ (a : Addr) (c : Int) (w : Str) (ks : List Bool) (X : List Addr), vs = [.ref a, .str w] ∧ Src H a c ∧ c + 10 < 1099511627776 ∧ headsOf w = some ks ∧ nblk w = 0 ∧ Kn X H ∧
  ∀ (v : V) (hs : List T) (c' : Int) (H' : Hp), HeadsOk ks hs → At X H' (.seq true (.str w :: hs)) v → Src H' a c' → c ≤ c' → c' ≤ c + 10 → Kp [a] H H' → Q v H'
section
variable {P : Program} {w : World} {K : PySem.W.Frag} {mg : Str → Option Value} {base : Heap} {f f1 f2 f3 f4 f5 f6 : Addr} {fd fd1 fd2 fd3 fd4 fd5 fd6 : FuncData}
theorem ok_word (D : Df K mg "_law_word" sword ["_law_source_here"] f fd) (Dpick : Df K mg "_law_pick" spick ["_law_source_here", "_law_some"] f1 fd1) (Gpick : FnOk P w K mg base CX0 2 f1 fd1 ["_law_source_here", "_law_some"] (spPick K)) : FnOk P w K mg base CX0 3 f fd ["_law_source_here"] spWord := by
  refine D.F.ok scword (fun vs H Q E h => ?_) (fun cdv A outer s H vs Q E hr h => ?_)
  · obtain ⟨a, c, rfl, _⟩ := h
    rfl
  obtain ⟨a, c, rfl, S, hc, q⟩ := h
  refine ⟨_, (pss_cons (ps_set (i := 1) scword.nd rfl (Or.inl rfl) (pe_lst (pa_cons pe_str (pa_cons pe_str (pa_cons pe_str (pa_cons pe_str (pa_cons pe_str (pa_cons pe_str (pa_cons pe_str (pa_cons pe_str (pa_cons pe_str (pa_cons pe_str (pa_cons pe_str (pa_cons pe_str (pa_cons pe_str (pa_cons pe_str pa_nil))))))))))))))))
 (pss_one (ps_ret (pe_call Gpick (hr.mono (by decide)) rfl Dpick.g Dpick.F.kp Dpick.b .nil pass0 (pa_cons (pv 0) (pa_cons (pv 1) pa_nil)))))), ?_⟩
  refine ⟨(by show 14 ≤ sizeLine; decide), fun l hl => ?_⟩
  have k : ∀ o, Kp [] H (upd H l o) := fun o => Kp.rfl'.new hl
  refine ⟨_, rfl, _, rfl, a, l, c, _, rfl, S.kp (k _) (by simp), hc, SqL.of upd_same, by decide, by decide, ?_, fun v H' hv S' k' => ?_⟩
  · obtain ⟨d, m, e, _⟩ := S
    exact (ne_of_none e hl).symm
  · have kk : Kp [a] H H' := ((k _).mono (by simp)).trans k'
    simp only [List.mem_cons, List.not_mem_nil, or_false] at hv
    rcases hv with rfl | rfl | rfl | rfl | rfl | rfl | rfl | rfl | rfl | rfl | rfl | rfl | rfl | rfl <;> exact q _ H' (by decide +kernel) S' kk
theorem ok_number (D : Df K mg "_law_number" snumber ["_law_source_here"] f fd) (Dpick : Df K mg "_law_pick" spick ["_law_source_here", "_law_some"] f1 fd1) (Ddraw : Df K mg "_law_draw" sdraw ["_law_source_here", "_law_many"] f2 fd2)
    (Gpick : FnOk P w K mg base CX0 2 f1 fd1 ["_law_source_here", "_law_some"] (spPick K)) (Gdraw : FnOk P w K mg base CX0 1 f2 fd2 ["_law_source_here", "_law_many"] spDraw) : FnOk P w K mg base CX0 3 f fd ["_law_source_here"] spNumber := by
  refine D.F.ok scnumber (fun vs H Q E h => ?_) (fun cdv A outer s H vs Q E hr h => ?_)
  · obtain ⟨a, c, rfl, _⟩ := h
    rfl
  obtain ⟨a, c, rfl, S, hc, q⟩ := h
  refine ⟨_, (pss_one (ps_ret (pe_call Gpick (hr.mono (by decide)) rfl Dpick.g Dpick.F.kp Dpick.b .nil pass0 (pa_cons (pv 0) (pa_cons (pe_lst (pa_cons pe_int (pa_cons pe_int (pa_cons (pe_un un_neg pe_int) (pa_cons pe_int (pa_cons pe_int (pa_cons (pe_un un_neg pe_int) (pa_cons pe_int (pa_cons pe_int (pa_cons (pe_un un_neg pe_int) (pa_cons pe_int (pa_cons (pe_un un_neg pe_int) (pa_cons (pe_op op_sub (pe_call Gdraw (hr.mono (by decide)) rfl Ddraw.g Ddraw.F.kp Ddraw.b .nil pass0 (pa_cons (pv 0) (pa_cons pe_int pa_nil))) pe_int) pa_nil))))))))))))) pa_nil))))), ?_⟩
  refine ⟨_, rfl, _, rfl, _, rfl, _, rfl, _, rfl, _, rfl, a, _, c, rfl, S, by omega, by decide, by decide, fun r H1 r0 r1 S1 k1 => ?_⟩
  refine ⟨_, _, rfl, rfl, (by show 12 ≤ sizeLine; decide), fun l hl => ?_⟩
  have k2 : ∀ o, Kp [] H1 (upd H1 l o) := fun o => Kp.rfl'.new hl
  refine ⟨a, l, c + 1, _, rfl, S1.kp (k2 _) (by simp), hc, SqL.of upd_same, (by show 1 ≤ 12; decide), (by show 12 ≤ 1000; decide), ?_, fun v H' hv S' k' => ?_⟩
  · obtain ⟨d, m, e, _⟩ := S1
    exact (ne_of_none e hl).symm
  · have kk : Kp [a] H H' := (k1.trans ((k2 _).mono (by simp))).trans k'
    have S'' : Src H' a (c + 2) := by
      have e : c + 2 = c + 1 + 1 := by omega
      rw [e]; exact S'
    simp only [List.mem_cons, List.not_mem_nil, or_false] at hv
    rcases hv with rfl | rfl | rfl | rfl | rfl | rfl | rfl | rfl | rfl | rfl | rfl | rfl <;> exact q _ H' (by omega) (by omega) S'' kk
theorem ok_plain (D : Df K mg "_law_plain_row" splainrow ["_law_source_here", "_law_word_here"] f fd) (B : Bn mg) (Dword : Df K mg "_law_word" sword ["_law_source_here"] f1 fd1) (Dnumber : Df K mg "_law_number" snumber ["_law_source_here"] f2 fd2)
    (Gword : FnOk P w K mg base CX0 3 f1 fd1 ["_law_source_here"] spWord) (Gnumber : FnOk P w K mg base CX0 3 f2 fd2 ["_law_source_here"] spNumber) : FnOk P w K mg base CX0 4 f fd ["_law_source_here", "_law_word_here"] spPlain := by
  refine D.F.ok scplainrow (fun vs H Q E h => ?_) (fun cdv A outer s H vs Q E hr h => ?_)
  · obtain ⟨a, c, w, ks, X, rfl, _⟩ := h
    rfl
  obtain ⟨a, c, wd, ks, X, rfl, S, hc, hw, hn, hX, q⟩ := h
  refine ⟨_, (pss_cons (ps_if (pt_cmpR op_in_seq (pv 1) (pe_tup (pa_cons pe_str (pa_cons pe_str pa_nil))) (by rfl))
  (pss_one (ps_ret (pe_tup (pa_cons (pv 1) (pa_cons (pe_call Gnumber (hr.mono (by decide)) rfl Dnumber.g Dnumber.F.kp Dnumber.b .nil pass0 (pa_cons (pv 0) pa_nil)) pa_nil)))))
  pss_nil)
 (pss_cons (ps_if (pt_cmpR op_eq (pv 1) pe_str (nomark _))
  (pss_one (ps_ret (pe_tup (pa_cons (pv 1) (pa_cons (pe_call Gword (hr.mono (by decide)) rfl Dword.g Dword.F.kp Dword.b .nil pass0 (pa_cons (pv 0) pa_nil)) (pa_cons (pe_call Gnumber (hr.mono (by decide)) rfl Dnumber.g Dnumber.F.kp Dnumber.b .nil pass0 (pa_cons (pv 0) pa_nil)) pa_nil))))))
  pss_nil)
 (pss_cons (ps_set (i := 2) scplainrow.nd rfl (Or.inl rfl) (pe_dget2 (hu_of hr) (pe_disp (pps_cons pe_str pe_int (pps_cons pe_str pe_int (pps_cons pe_str pe_int (pps_cons pe_str pe_int (pps_cons pe_str pe_int pps_nil))))) (by rfl) (by rfl) (fun z => by cases z) (by decide)) (pv 1) pe_int ⟨rfl, rfl, rfl, rfl⟩))
 (pss_one (ps_ret (pe_callTy call_tuple_of (by rfl) B.tuple (by decide +kernel) (pa_cons (pe_op op_cat (pe_lst (pa_cons (pv 1) pa_nil)) (pe_lc (own := [("_law_k", 3)]) rfl scplainrow.nd (pi_range1 (by rfl) B.range (pa_cons (pv 2) pa_nil)) (blkOk_by (N := ["_law_source_here", "_law_word_here", "_law_many", "_law_k"]) (sc := defScope splainrow) (by decide +kernel)) (fun _ _ _ _ _ => (pg_name (i := 3) scplainrow.nd rfl (Or.inl rfl))) (fun _ _ _ _ _ => pts_nil) (fun _ _ _ _ _ => (pe_call Gword (hr.mono (by decide)) rfl Dword.g Dword.F.kp Dword.b .nil pass0 (pa_cons (pv 0) pa_nil))))) pa_nil))))))), ?_⟩
  have sz2 : 2 ≤ sizeLine := ltsz (by decide)
  refine ⟨_, rfl, sz2, fun t ht => ⟨t, _, rfl, .inr (SqT.of upd_same), rfl, rfl, _, rfl, ?_⟩⟩
  have k1 : ∀ o, Kp [] H (upd H t o) := fun o => Kp.rfl'.new ht
  have S1 : ∀ o, Src (upd H t o) a c := fun o => S.kp (k1 o) (by simp)
  rcases plain_kind hw hn with ⟨rfl, hm⟩ | ⟨rfl, rfl, hm⟩ | ⟨m, rfl, hm, hp, hv, hm3⟩
  · -- say, fail
    refine ite2 (fun _ => ?_) (fun z => absurd (inV_mem.mpr hm) z)
    refine ⟨_, rfl, _, rfl, a, c, rfl, S1 _, by omega, fun i H1 i0 i1 S2 k2 => ⟨sz2, fun p hp => ?_⟩⟩
    refine q (.ref p) [.int i] (c + 2) _ ⟨_, _, rfl, ⟨i, rfl, i0, i1⟩, rfl⟩ ⟨p, _, rfl, ?_, Sq.newT, ⟨_, _, rfl, rfl, _, _, rfl, rfl, rfl⟩⟩ (S2.kp (Kp.rfl'.new (X := []) hp) (by simp)) (by omega) (by omega) ?_
    · exact (hX.upd.kp k2 S2.kn).out hp
    · exact (((k1 _).mono (by simp)).trans k2).trans (Kp.rfl'.new hp)
  · -- put
    refine ite2 (fun z => absurd (inV_mem.mp (show inV (V.str "put") (List.map V.str (["say", "fail"] : List Str)) = true from z)) hm) (fun _ => ?_)
    refine ⟨_, rfl, rfl, _, rfl, ?_⟩
    refine ite2 (fun _ => ?_) (fun z => absurd (by decide) z)
    refine ⟨_, rfl, _, rfl, a, c, rfl, S1 _, by omega, fun s H1 hs S2 k2 => ⟨_, rfl, a, c + 1, rfl, S2, by omega, fun i H2 i0 i1 S3 k3 => ⟨(by show 3 ≤ sizeLine; exact ltsz (by decide)), fun p hp => ?_⟩⟩⟩
    refine q (.ref p) [.str s, .int i] (c + 1 + 2) _ ⟨_, _, rfl, ⟨s, rfl, hs⟩, _, _, rfl, ⟨i, rfl, i0, i1⟩, rfl⟩ ⟨p, _, rfl, ?_, Sq.newT, ⟨_, _, rfl, rfl, _, _, rfl, rfl, _, _, rfl, rfl, rfl⟩⟩ (S3.kp (Kp.rfl'.new (X := []) hp) (by simp)) (by omega) (by omega) ?_
    · exact ((hX.upd.kp k2 S2.kn).kp k3 S3.kn).out hp
    · exact ((((k1 _).mono (by simp)).trans k2).trans k3).trans (Kp.rfl'.new hp)
  · -- the others
    refine ite2 (fun z => absurd (inV_mem.mp (show inV (V.str wd) (List.map V.str (["say", "fail"] : List Str)) = true from z)) hm) (fun _ => ?_)
    refine ⟨_, rfl, rfl, _, rfl, ?_⟩
    refine ite2 (fun z => absurd (V.str.inj (of_decide_eq_true z)) hp) (fun _ => ?_)
    intro d hd
    refine ⟨upd_same, [(.inr "load", .int 2), (.inr "copy", .int 2), (.inr "seen", .int 2), (.inr "pick", .int 3), (.inr "part", .int 3)], rfl, by decide, ?_⟩
    rw [upd_upd]
    have hv' : (valV (mergeK [] [((.inr "load" : Key), V.int 2), (.inr "copy", .int 2), (.inr "seen", .int 2), (.inr "pick", .int 3), (.inr "part", .int 3)]) (.inr wd)).getD (V.int 1) = .int (m : Int) := hv
    refine ⟨d, rfl, .inl ⟨_, .of upd_same⟩, _, rfl, _, DGet.k (k := .inr wd) upd_same, ?_⟩
    rw [hv']
    have k2 : ∀ o', Kp [] H (upd (upd H t (.tup [.str "say", .str "fail"])) d o') := fun o' => (k1 _).trans (Kp.rfl'.new hd)
    refine ⟨_, rfl, (by show 1 ≤ sizeLine; exact ltsz (by decide)), fun l hl => ?_⟩
    generalize hG : upd (upd H t (HO.tup [V.str "say", V.str "fail"])) d (HO.dK (mergeK [] [((.inr "load" : Key), V.int 2), (.inr "copy", .int 2), (.inr "seen", .int 2), (.inr "pick", .int 3), (.inr "part", .int 3)])) = G at hl ⊢
    have kG : Kp [] H G := hG ▸ k2 _
    have SG : Src G a c := S.kp kG (by simp)
    have k3 : ∀ o, Kp [] H (upd G l o) := fun o => kG.trans (Kp.rfl'.new hl)
    refine ⟨_, rfl, (m : Int), rfl, by omega, by omega, fun L hL => ?_⟩
    have hLl : L ≠ l := fun z => by rw [z, upd_same] at hL; cases hL
    have hla : l ≠ a := fun z => SG.kn a (by simp) (z ▸ hl)
    have hLa : L ≠ a := fun z => (SG.kp (Kp.rfl'.new (X := []) (o := .lst [.str wd]) hl) (by simp)).kn a (by simp) (z ▸ hL)
    have hLH : H L = none := (k3 _).free hL (by simp)
    refine lc_range (lo := 0) (n := m) (fun i H' => ∃ (ss : List Str) (c' : Int), H' L = some (.lst (ss.map V.str)) ∧ H' l = some (.lst [.str wd]) ∧ ss.length = i ∧ (∀ s ∈ ss, wordB s = true) ∧ Src H' a c' ∧ c ≤ c' ∧ c' ≤ c + i ∧ Kp [a] H H') ?_ ?_ ?_
    · exact ⟨[], c, upd_same, by rw [upd_ne hLl.symm, upd_same], rfl, (fun _ z => nomatch z), S.kp ((k3 _).new hLH) (by simp), by omega, by omega, ((k3 _).new hLH).mono (by simp)⟩
    · rintro i H' hi ⟨ss, c', e1, e2, e3, e4, e5, e6, e7, e8⟩
      refine ⟨rfl, _, rfl, a, c', rfl, e5, by omega, fun s H2 hs S2 kk => ?_⟩
      refine ⟨_, kk L _ e1 (by simpa using hLa), Nat.lt_of_le_of_lt (m := 3) (by rw [List.length_map]; omega) (by decide), ss ++ [s], c' + 1, ?_, ?_, ?_, ?_, ?_, by omega, by omega, ?_⟩
      · rw [upd_same, List.map_append]
        rfl
      · rw [upd_ne hLl.symm]
        exact kk l _ e2 (by simpa using hla)
      · rw [List.length_append, e3]
        rfl
      · intro x hx
        rcases List.mem_append.mp hx with hx | hx
        · exact e4 x hx
        · rw [List.mem_singleton.mp hx]
          exact hs
      · obtain ⟨d1, m1, z, r⟩ := S2
        exact ⟨d1, m1, by rw [upd_ne hLa.symm]; exact z, r⟩
      · exact (e8.trans kk).new hLH
    · rintro H' ⟨ss, c', e1, e2, e3, e4, e5, e6, e7, e8⟩
      refine ⟨l, L, _, _, rfl, rfl, e2, e1, ltsz (by rw [List.length_map]; show 1 + ss.length ≤ 1000; omega), fun p hp => ⟨p, _, rfl, .inl ⟨SqL.of upd_same, fun r hr => ?_⟩⟩⟩
      have kf : Kp [a] H (upd (upd H' p (.lst ([.str wd] ++ ss.map V.str))) r (.tup ([.str wd] ++ ss.map V.str))) := (e8.trans (Kp.rfl'.new hp)).trans (Kp.rfl'.new hr)
      have Sf := (e5.kp (Kp.rfl'.new (X := []) (o := .lst ([.str wd] ++ ss.map V.str)) hp) (by simp)).kp (Kp.rfl'.new (X := []) (o := .tup ([.str wd] ++ ss.map V.str)) hr) (by simp)
      have hks : HeadsOk (List.replicate m true) (ss.map T.str) := by
        have := heads_words e4
        rwa [e3] at this
      refine q (.ref r) (ss.map T.str) c' _ hks ⟨r, _, rfl, ?_, Sq.newT, ⟨_, _, rfl, rfl, atL_strs⟩⟩ Sf e6 (by omega) kf
      exact ((hX.kp e8 e5.kn).upd).out hr
end
end Fs

namespace Fs
open PySem L2
abbrev srow : Stmt := top 45
theorem scrow : FnScope ["_law_source_here", "_law_budget", "_law_deep", "_law_in_make", "_law_some", "_law_word_here", "_law_ahead", "_law_one"] ["_law_source_here", "_law_budget", "_law_deep", "_law_in_make"] (defScope srow) := ⟨rfl, rfl, rfl, by decide +kernel, rfl, by decide +kernel, by decide +kernel⟩
abbrev sblock : Stmt := top 46
theorem scblock : FnScope ["_law_source_here", "_law_budget", "_law_deep", "_law_in_make", "_law_found", "_law_k"] ["_law_source_here", "_law_budget", "_law_deep", "_law_in_make"] (defScope sblock) := ⟨rfl, rfl, rfl, by decide +kernel, rfl, by decide +kernel, by decide +kernel⟩
/-- the budget: a list of two numbers -/
def Bud (H : Hp) (b : Addr) : Prop := ∃ r i : Int, H b = some (.lst [.int r, .int i])
theorem Bud.kp {X : List Addr} {H H' : Hp} {b : Addr} (h : Bud H b) (k : Kp X H H') (n : b ∉ X) : Bud H' b := by
  obtain ⟨r, i, e⟩ := h
  exact ⟨r, i, k _ _ e n⟩
theorem Bud.kn {H : Hp} {b : Addr} (h : Bud H b) : Kn [b] H := by
  obtain ⟨r, i, e⟩ := h
  exact .cons e .nil
theorem Src.ne {H : Hp} {a b : Addr} {c : Int} (h : Src H a c) (g : Bud H b) : a ≠ b := fun z => by
  obtain ⟨d, m, e, _⟩ := h
  obtain ⟨r, i, e2⟩ := g
  rw [z, e2] at e
  cases e
/-- how many draws a row takes at most -/
def cR : Nat → Int
  | 0 => 20
  | d + 1 => 8 * cR d + 17
theorem cR_pos : ∀ d, 20 ≤ cR d
  | 0 => Int.le_refl _
  | d + 1 => by have := cR_pos d; show 20 ≤ 8 * cR d + 17; omega
def W12 : List Str := ["load", "pick", "put", "copy", "part", "drop", "say", "tell", "seen", "fail", "make", "call"]
/-- the words that a row may have: in a block of depth d -/
def W1 (d : Nat) (w : Str) : Prop := (∃ ks, headsOf w = some ks) ∧ (nblk w ≠ 0 → w = "make" ∨ 0 < d)
theorem w12_ok {d : Nat} {w : Str} (h : w ∈ W12) : W1 d w := by
  simp only [W12, List.mem_cons, List.not_mem_nil, or_false] at h
  rcases h with rfl | rfl | rfl | rfl | rfl | rfl | rfl | rfl | rfl | rfl | rfl | rfl <;>
    first
    | exact ⟨⟨_, (by decide +kernel : headsOf _ = some [true, true])⟩, fun z => absurd (by decide +kernel) z⟩
    | exact ⟨⟨_, (by decide +kernel : headsOf _ = some [true, true, true])⟩, fun z => absurd (by decide +kernel) z⟩
    | exact ⟨⟨_, (by decide +kernel : headsOf _ = some [true, false])⟩, fun z => absurd (by decide +kernel) z⟩
    | exact ⟨⟨_, (by decide +kernel : headsOf _ = some [false])⟩, fun z => absurd (by decide +kernel) z⟩
    | exact ⟨⟨_, (by decide +kernel : headsOf _ = some [true])⟩, fun z => absurd (by decide +kernel) z⟩
    | exact ⟨⟨_, (by decide +kernel : headsOf _ = some [true])⟩, fun _ => .inl rfl⟩
theorem w3_ok {d : Nat} {w : Str} (h : w ∈ (["when", "try", "make"] : List Str)) (hd : 0 < d) : W1 d w := by
  simp only [List.mem_cons, List.not_mem_nil, or_false] at h
  rcases h with rfl | rfl | rfl
  · exact ⟨⟨_, (by decide +kernel : headsOf _ = some [true])⟩, fun _ => .inr hd⟩
  · exact ⟨⟨_, (by decide +kernel : headsOf _ = some [])⟩, fun _ => .inr hd⟩
  · exact ⟨⟨_, (by decide +kernel : headsOf _ = some [true])⟩, fun _ => .inr hd⟩
theorem str_mem {v : V} {l : List Str} (h : v ∈ l.map V.str) : ∃ w ∈ l, v = .str w := by
  obtain ⟨w, hw, e⟩ := List.mem_map.mp h
  exact ⟨w, hw, e.symm⟩
def spRow (d : Nat) : Sp := fun vs H Q _ => ∃ (a bu : Addr) (mk : Bool) (c : Int) (X : List Addr), vs = [.ref a, .ref bu, .int d, .bl mk] ∧ Src H a c ∧ Bud H bu ∧ c + cR d < 1099511627776 ∧ Kn X H ∧ a ∈ X ∧ bu ∈ X ∧
  ∀ (v : V) (t : T) (c' : Int) (H' : Hp), GRow d mk t → At X H' t v → Src H' a c' → c ≤ c' → c' ≤ c + cR d → Bud H' bu → Kp [a, bu] H H' → Q v H'
/-- the blocks of depth d are those of spBlk (d + 1) -/
def spBlk : Nat → Sp
  | 0 => fun _ _ _ _ => False
  | d + 1 => fun vs H Q _ => ∃ (a bu : Addr) (mk : Bool) (c : Int) (X : List Addr), vs = [.ref a, .ref bu, .int d, .bl mk] ∧ Src H a c ∧ Bud H bu ∧ c + (4 * cR d + 1) < 1099511627776 ∧ Kn X H ∧ a ∈ X ∧ bu ∈ X ∧
    ∀ (v : V) (t : T) (c' : Int) (H' : Hp), GB (GRow d) mk t → At X H' t v → Src H' a c' → c ≤ c' → c' ≤ c + (4 * cR d + 1) → Bud H' bu → Kp [a, bu] H H' → Q v H'
section
variable {P : Program} {w : World} {K : PySem.W.Frag} {mg : Str → Option Value} {base : Heap} {f f1 f2 f3 f4 f5 f6 : Addr} {fd fd1 fd2 fd3 fd4 fd5 fd6 : FuncData}
theorem ok_row {d k : Nat} (hk : 4 ≤ k) (D : Df K mg "_law_row" srow ["_law_source_here", "_law_budget", "_law_deep", "_law_in_make"] f fd) (B : Bn mg)
    (Dblock : Df K mg "_law_block" sblock ["_law_source_here", "_law_budget", "_law_deep", "_law_in_make"] f1 fd1) (Gblock : FnOk P w K mg base CX0 k f1 fd1 ["_law_source_here", "_law_budget", "_law_deep", "_law_in_make"] (spBlk d))
    (Dplainrow : Df K mg "_law_plain_row" splainrow ["_law_source_here", "_law_word_here"] f2 fd2) (Gplainrow : FnOk P w K mg base CX0 4 f2 fd2 ["_law_source_here", "_law_word_here"] spPlain)
    (Dword : Df K mg "_law_word" sword ["_law_source_here"] f3 fd3) (Gword : FnOk P w K mg base CX0 3 f3 fd3 ["_law_source_here"] spWord)
    (Dpick : Df K mg "_law_pick" spick ["_law_source_here", "_law_some"] f4 fd4) (Gpick : FnOk P w K mg base CX0 2 f4 fd4 ["_law_source_here", "_law_some"] (spPick K))
    (Ddraw : Df K mg "_law_draw" sdraw ["_law_source_here", "_law_many"] f5 fd5) (Gdraw : FnOk P w K mg base CX0 1 f5 fd5 ["_law_source_here", "_law_many"] spDraw) :
    FnOk P w K mg base CX0 (k + 1) f fd ["_law_source_here", "_law_budget", "_law_deep", "_law_in_make"] (spRow d) := by
  refine D.F.ok scrow (fun vs H Q E h => ?_) (fun cdv A outer s H vs Q E hr h => ?_)
  · obtain ⟨a, bu, mk, c, X, rfl, _⟩ := h
    rfl
  obtain ⟨a, bu, mk, c, X, rfl, S, ⟨br, bi, hb⟩, hc, hX, haX, hbX, q⟩ := h
  have hr4 : Room 4 _ := hr.mono hk
  refine ⟨_, (pss_cons (ps_asg (pe_op op_sub (pe_ix ix_list (pv 1) pe_int (fun _ _ => rfl)) pe_int) (pg_sub (pv 1) pe_int set_list))
 (pss_cons (ps_set (i := 4) scrow.nd rfl (Or.inl rfl) (pe_lst (pa_cons pe_str (pa_cons pe_str (pa_cons pe_str (pa_cons pe_str (pa_cons pe_str (pa_cons pe_str (pa_cons pe_str (pa_cons pe_str (pa_cons pe_str (pa_cons pe_str (pa_cons pe_str (pa_cons pe_str pa_nil))))))))))))))
 (pss_cons (ps_set (i := 5) scrow.nd rfl (Or.inl rfl) (pe_call Gpick (hr.mono (by omega)) rfl Dpick.g Dpick.F.kp Dpick.b .nil pass0 (pa_cons (pv 0) (pa_cons (pv 4) pa_nil))))
 (Evl.pss_cut (ps_if (PW.pt (pw_and (pt_cmpR op_eq (pe_call Gdraw (hr.mono (by omega)) rfl Ddraw.g Ddraw.F.kp Ddraw.b .nil pass0 (pa_cons (pv 0) (pa_cons pe_int pa_nil))) pe_int (nomark _)) (pw_and1 (pt_cmpR op_gt (pv 2) pe_int (nomark _)))))
  (pss_one (ps_set (i := 5) scrow.nd rfl (Or.inl rfl) (pe_call Gpick (hr.mono (by omega)) rfl Dpick.g Dpick.F.kp Dpick.b .nil pass0 (pa_cons (pv 0) (pa_cons (pe_lst (pa_cons pe_str (pa_cons pe_str (pa_cons pe_str pa_nil)))) pa_nil)))))
  pss_nil)
 (Evl.pss_cut (ps_if (pt_cmpR op_in_seq (pv 5) (pe_tup (pa_cons pe_str (pa_cons pe_str pa_nil))) (by rfl))
  (pss_cons (ps_set (i := 5) scrow.nd rfl (Or.inl rfl) (pe_ifExp (pt_cmpR op_gt (pe_ix ix_list (pv 1) pe_int (fun _ _ => rfl)) pe_int (nomark _)) (pv 5) pe_str))
 (pss_one (ps_asg (pe_op op_sub (pe_ix ix_list (pv 1) pe_int (fun _ _ => rfl)) (pe_callTy call_int1 (by rfl) B.int (by decide +kernel) (pa_cons (pe_cmpR op_ne (pv 5) pe_str (nomark _)) pa_nil))) (pg_sub (pv 1) pe_int set_list))))
  pss_nil)
 (Evl.pss_cut (ps_if (PW.pt (pw_or (PW.pt (pw_and (pt_val (pv 3)) (pw_and1 (pt_cmpR op_in_seq (pv 5) (pe_tup (pa_cons pe_str (pa_cons pe_str pa_nil))) (by rfl))))) (pw_or1 (PW.pt (pw_and (pt_cmpR op_eq (pv 5) pe_str (nomark _)) (pw_and1 (pt_cmpR op_eq (pv 2) pe_int (nomark _))))))))
  (pss_one (ps_set (i := 5) scrow.nd rfl (Or.inl rfl) pe_str))
  pss_nil)
 (pss_cons (ps_if (pt_cmpR op_eq (pv 5) pe_str (nomark _))
  (pss_one (ps_ret (pe_tup (pa_cons (pv 5) (pa_cons (pe_call Gword (hr.mono (by omega)) rfl Dword.g Dword.F.kp Dword.b .nil pass0 (pa_cons (pv 0) pa_nil)) (pa_cons (pe_call Gblock (hr.mono (by omega)) rfl Dblock.g Dblock.F.kp Dblock.b .nil pass0 (pa_cons (pv 0) (pa_cons (pv 1) (pa_cons (pe_op op_sub (pv 2) pe_int) (pa_cons pe_bl pa_nil))))) pa_nil))))))
  pss_nil)
 (pss_cons (ps_if (PW.pt (pw_or (pt_cmpR op_eq (pv 5) pe_str (nomark _)) (pw_or1 (pt_cmpR op_eq (pv 5) pe_str (nomark _)))))
  (Evl.pss_cut (ps_set (i := 6) scrow.nd rfl (Or.inl rfl) (pe_ifExp (pt_cmpR op_eq (pv 5) pe_str (nomark _)) (pe_tup (pa_cons (pv 5) pa_nil)) (pe_tup (pa_cons (pv 5) (pa_cons (pe_call Gword (hr.mono (by omega)) rfl Dword.g Dword.F.kp Dword.b .nil pass0 (pa_cons (pv 0) pa_nil)) pa_nil)))))
 (pss_cons (ps_set (i := 7) scrow.nd rfl (Or.inl rfl) (pe_call Gblock (hr.mono (by omega)) rfl Dblock.g Dblock.F.kp Dblock.b .nil pass0 (pa_cons (pv 0) (pa_cons (pv 1) (pa_cons (pe_op op_sub (pv 2) pe_int) (pa_cons (pv 3) pa_nil))))))
 (pss_one (ps_ret (pe_op op_catT (pv 6) (pe_tup (pa_cons (pv 7) (pa_cons (pe_call Gblock (hr.mono (by omega)) rfl Dblock.g Dblock.F.kp Dblock.b .nil pass0 (pa_cons (pv 0) (pa_cons (pv 1) (pa_cons (pe_op op_sub (pv 2) pe_int) (pa_cons (pv 3) pa_nil))))) pa_nil))))))))
  pss_nil)
 (pss_one (ps_ret (pe_call Gplainrow (hr.mono (by omega)) rfl Dplainrow.g Dplainrow.F.kp Dplainrow.b .nil pass0 (pa_cons (pv 0) (pa_cons (pv 5) pa_nil))))))))))))), ?_⟩
  have hab : a ≠ bu := S.ne ⟨br, bi, hb⟩
  refine ⟨_, rfl, bu, _, _, _, rfl, rfl, SqL.of hb, at0, _, _, rfl, rfl, _, rfl, bu, _, _, 0, rfl, rfl, hb, rfl, ?_⟩
  refine ⟨(by show 12 ≤ sizeLine; exact ltsz (by decide)), fun l hl => ?_⟩
  have k1 : ∀ o', Kp [a, bu] H (upd (upd H bu (.lst [.int (br - 1), .int bi])) l o') := fun o' => (Kp.rfl'.at (by simp)).trans (Kp.rfl'.new hl)
  have hlb : l ≠ bu := fun z => by rw [z, upd_same] at hl; cases hl
  have hla : l ≠ a := fun z => by
    rw [z, upd_ne hab] at hl
    exact S.kn a (by simp) hl
  have S1 : ∀ o', Src (upd (upd H bu (.lst [.int (br - 1), .int bi])) l o') a c := fun o' => by
    obtain ⟨d1, m1, e, r⟩ := S
    exact ⟨d1, m1, by rw [upd_ne hla.symm, upd_ne hab]; exact e, r⟩
  have B1 : ∀ o', Bud (upd (upd H bu (.lst [.int (br - 1), .int bi])) l o') bu := fun o' => ⟨br - 1, bi, by rw [upd_ne hlb.symm, upd_same]⟩
  have cpos := cR_pos d
  refine ⟨_, rfl, _, rfl, a, l, c, _, rfl, S1 _, by omega, SqL.of upd_same, (by show 1 ≤ 12; decide), (by show 12 ≤ 1000; decide), hla, fun v H2 hv S2 k2 => ?_⟩
  obtain ⟨w0, hw0, rfl⟩ := str_mem (l := W12) hv
  have B2 : Bud H2 bu := (B1 _).kp k2 (by simpa using hab.symm)
  have k2' : Kp [a, bu] H H2 := (k1 _).trans (k2.mono (by simp))
  -- the first if
  refine ⟨fun σ' H' => ∃ (w : Str) (c' : Int), σ' = [some (.ref a), some (.ref bu), some (.int d), some (.bl mk), some (.ref l), some (.str w), none, none] ∧ W1 d w ∧ Src H' a c' ∧ c ≤ c' ∧ c' ≤ c + 3 ∧ Bud H' bu ∧ Kp [a, bu] H H', ?_, ?_⟩
  · refine ⟨_, rfl, a, 3, c + 1, rfl, S2, by omega, by decide, by decide, fun r H3 r0 r1 S3 k3 => ⟨rfl, _, rfl, ?_⟩⟩
    have B3 : Bud H3 bu := B2.kp k3 (by simpa using hab.symm)
    have k3' : Kp [a, bu] H H3 := k2'.trans (k3.mono (by simp))
    refine ite2 (fun _ => ?_) (fun _ => ?_)
    · refine ⟨_, rfl, _, _, rfl, rfl, _, rfl, ?_⟩
      refine ite2 (fun z => ?_) (fun _ => ?_)
      · have hd : 0 < d := by
          have := of_decide_eq_true z
          omega
        refine ⟨_, rfl, (by show 3 ≤ sizeLine; exact ltsz (by decide)), fun l2 hl2 => ?_⟩
        have hl2a : l2 ≠ a := fun z => S3.kn a (by simp) (z ▸ hl2)
        have kk : ∀ o, Kp [] H3 (upd H3 l2 o) := fun o => Kp.rfl'.new hl2
        refine ⟨a, l2, c + 1 + 1, _, rfl, S3.kp (kk _) (by simp), by omega, SqL.of upd_same, (by show 1 ≤ 3; decide), (by show 3 ≤ 1000; decide), hl2a, fun v H4 hv S4 k4 => ?_⟩
        obtain ⟨w, hw, rfl⟩ := str_mem (l := ["when", "try", "make"]) hv
        exact ⟨w, c + 1 + 1 + 1, rfl, w3_ok hw hd, S4, by omega, by omega, (B3.kp (kk _) (by simp)).kp k4 (by simpa using hab.symm), (k3'.trans ((kk _).mono (by simp))).trans (k4.mono (by simp))⟩
      · exact ⟨w0, c + 1 + 1, rfl, w12_ok hw0, S3, by omega, by omega, B3, k3'⟩
    · exact ⟨w0, c + 1 + 1, rfl, w12_ok hw0, S3, by omega, by omega, B3, k3'⟩
  rintro σ' H3 ⟨w1, c1, rfl, hw1, S3, hc1, hc1', ⟨br3, bi3, hb3⟩, k3⟩
  -- the second if
  refine ⟨fun σ' H' => ∃ (w : Str), σ' = [some (.ref a), some (.ref bu), some (.int d), some (.bl mk), some (.ref l), some (.str w), none, none] ∧ W1 d w ∧ Src H' a c1 ∧ Bud H' bu ∧ Kp [a, bu] H H', ?_, ?_⟩
  · refine ⟨_, rfl, (by show 2 ≤ sizeLine; exact ltsz (by decide)), fun t ht => ⟨t, _, rfl, .inr (SqT.of upd_same), rfl, rfl, _, rfl, ?_⟩⟩
    have kt : ∀ o, Kp [] H3 (upd H3 t o) := fun o => Kp.rfl'.new ht
    refine ite2 (fun _ => ?_) (fun _ => ?_)
    · have hbt : ∀ o, (upd H3 t o) bu = some (.lst [.int br3, .int bi3]) := fun o => kt o _ _ hb3 (by simp)
      refine ⟨_, rfl, bu, _, _, _, rfl, rfl, SqL.of (hbt _), atI_nat (j := 1) rfl, _, _, rfl, rfl, _, rfl, ?_⟩
      have fin : ∀ (w : Str), W1 d w → (∃ z : Int, ∃ (w' : Str), ([some (.ref a), some (.ref bu), some (.int d), some (.bl mk), some (.ref l), some (.str w), none, none] : L2.St) = [some (.ref a), some (.ref bu), some (.int d), some (.bl mk), some (.ref l), some (.str w'), none, none] ∧ W1 d w') := fun w h => ⟨0, w, rfl, h⟩
      have mid : ∀ z : Int, Src (upd (upd H3 t (.tup [.str "load", .str "pick"])) bu (.lst [.int br3, .int z])) a c1 ∧ Bud (upd (upd H3 t (.tup [.str "load", .str "pick"])) bu (.lst [.int br3, .int z])) bu ∧ Kp [a, bu] H (upd (upd H3 t (.tup [.str "load", .str "pick"])) bu (.lst [.int br3, .int z])) := fun z => by
        refine ⟨?_, ⟨br3, z, upd_same⟩, (k3.trans ((kt _).mono (by simp))).trans (Kp.rfl'.at (by simp))⟩
        obtain ⟨d1, m1, e, r⟩ := S3
        exact ⟨d1, m1, by rw [upd_ne hab]; exact kt _ _ _ e (by simp), r⟩
      refine ite2 (fun _ => ?_) (fun _ => ?_)
      · refine ⟨_, rfl, _, rfl, bu, _, _, _, rfl, rfl, SqL.of (hbt _), atI_nat (j := 1) rfl, _, rfl, rfl, .inr ⟨_, rfl, _, _, rfl, rfl, _, rfl, bu, _, _, 1, rfl, rfl, hbt _, rfl, w1, rfl, hw1, mid _⟩⟩
      · refine ⟨_, rfl, bu, _, _, _, rfl, rfl, SqL.of (hbt _), atI_nat (j := 1) rfl, _, rfl, rfl, .inr ⟨_, rfl, _, _, rfl, rfl, _, rfl, bu, _, _, 1, rfl, rfl, hbt _, rfl, "seen", rfl, w12_ok (by decide +kernel), mid _⟩⟩
    · exact ⟨w1, rfl, hw1, S3.kp (kt _) (by simp), ⟨br3, bi3, kt _ _ _ hb3 (by simp)⟩, k3.trans ((kt _).mono (by simp))⟩
  clear k3 S3 hb3 hw1 w1 k2' S2 B2 k2 B1 S1 k1
  rintro σ' H3 ⟨w1, rfl, hw1, S3, B3, k3⟩
  -- the third if
  refine ⟨fun σ' H' => ∃ (w : Str), σ' = [some (.ref a), some (.ref bu), some (.int d), some (.bl mk), some (.ref l), some (.str w), none, none] ∧ (∃ ks, headsOf w = some ks) ∧ (nblk w ≠ 0 → 0 < d) ∧ (mk = true → w ≠ "make" ∧ w ≠ "call") ∧ Src H' a c1 ∧ Bud H' bu ∧ Kp [a, bu] H H', ?_, ?_⟩
  · have tell : (∃ ks, headsOf "tell" = some ks) ∧ (nblk "tell" ≠ 0 → 0 < d) ∧ (mk = true → ("tell" : Str) ≠ "make" ∧ ("tell" : Str) ≠ "call") := ⟨⟨[true], by decide +kernel⟩, fun z => absurd (by decide +kernel) z, fun _ => ⟨by decide +kernel, by decide +kernel⟩⟩
    refine ⟨_, rfl, mk, rfl, ?_⟩
    cases mk with
    | true =>
      refine iteT ⟨_, rfl, (by show 2 ≤ sizeLine; exact ltsz (by decide)), fun t ht => ⟨t, _, rfl, .inr (SqT.of upd_same), rfl, rfl, _, rfl, ?_⟩⟩
      have kt : ∀ o, Kp [] H3 (upd H3 t o) := fun o => Kp.rfl'.new ht
      have rest : ∀ o, Src (upd H3 t o) a c1 ∧ Bud (upd H3 t o) bu ∧ Kp [a, bu] H (upd H3 t o) := fun o => ⟨S3.kp (kt _) (by simp), B3.kp (kt _) (by simp), k3.trans ((kt _).mono (by simp))⟩
      by_cases hm : w1 ∈ (["make", "call"] : List Str)
      · have e : inV (V.str w1) [V.str "make", V.str "call"] = true := inV_mem.mpr hm
        show (if inV (V.str w1) [V.str "make", V.str "call"] = true then _ else _)
        rw [e]
        exact ⟨"tell", rfl, tell.1, tell.2.1, tell.2.2, rest _⟩
      · have e : inV (V.str w1) [V.str "make", V.str "call"] = false := Bool.eq_false_iff.mpr fun z => hm (inV_mem.mp z)
        show (if inV (V.str w1) [V.str "make", V.str "call"] = true then _ else _)
        rw [e]
        have n1 : w1 ≠ "make" := fun z => hm (by rw [z]; decide +kernel)
        have n2 : w1 ≠ "call" := fun z => hm (by rw [z]; decide +kernel)
        refine ⟨_, rfl, rfl, _, rfl, ?_⟩
        refine ite2 (fun z => absurd (V.str.inj (of_decide_eq_true z)) n1) (fun _ => ?_)
        exact ⟨w1, rfl, hw1.1, fun z => (hw1.2 z).resolve_left n1, fun _ => ⟨n1, n2⟩, rest _⟩
    | false =>
      refine iteF ⟨_, rfl, rfl, _, rfl, ?_⟩
      refine ite2 (fun z => ?_) (fun z => ?_)
      · refine ⟨_, rfl, rfl, _, rfl, ?_⟩
        refine ite2 (fun _ => ?_) (fun z2 => ?_)
        · exact ⟨"tell", rfl, tell.1, tell.2.1, tell.2.2, S3, B3, k3⟩
        · refine ⟨w1, rfl, hw1.1, fun _ => ?_, (fun z => nomatch z), S3, B3, k3⟩
          rcases Nat.eq_zero_or_pos d with hd | hd
          · exact absurd (decide_eq_true (by rw [hd]; rfl)) z2
          · exact hd
      · have n1 : w1 ≠ "make" := fun e => z (decide_eq_true (by rw [e]))
        exact ⟨w1, rfl, hw1.1, fun z => (hw1.2 z).resolve_left n1, (fun z => nomatch z), S3, B3, k3⟩
  clear k3 S3 B3 hw1 w1
  rintro σ' H3 ⟨wd, rfl, ⟨ks, hks⟩, hnb, hmk, S3, B3, k3⟩
  have hXn : ∀ {H' : Hp}, Kp [a, bu] H H' → Src H' a c1 ∨ True → ∀ {cc : Int}, Src H' a cc → Bud H' bu → Kn X H' := fun k _ _ S' B' => hX.kp k fun z hz => by
    rcases List.mem_cons.mp hz with e | hz
    · rw [e]; exact S'.kn a (by simp)
    · rw [List.mem_singleton.mp hz]; exact B'.kn bu (by simp)
  refine ⟨_, rfl, rfl, _, rfl, ?_⟩
  refine ite2 (fun z => ?_) (fun n1 => ?_)
  · -- make
    have hw := V.str.inj (of_decide_eq_true z)
    subst hw
    have hd := hnb (by decide +kernel)
    obtain ⟨n, rfl⟩ : ∃ n, d = n + 1 := ⟨d - 1, by omega⟩
    have hc2 : c + (8 * cR n + 17) < 1099511627776 := hc
    have np := cR_pos n
    refine ⟨_, rfl, _, rfl, a, c1, rfl, S3, by omega, fun sx H4 hs S4 k4 => ?_⟩
    have B4 : Bud H4 bu := B3.kp k4 (by simpa using hab.symm)
    have k4' := k3.trans (k4.mono (Y := [a, bu]) (by simp))
    refine ⟨_, rfl, _, rfl, _, rfl, _, _, rfl, rfl, a, bu, true, c1 + 1, X, ?_, S4, B4, by omega, hXn k4' (.inr trivial) S4 B4, haX, hbX, fun v t c' H5 ht hat S5 h1 h2 B5 k5 => ?_⟩
    · have e : ((n + 1 : Nat) : Int) - 1 = (n : Int) := by omega
      show [V.ref a, V.ref bu, V.int (((n + 1 : Nat) : Int) - 1), V.bl true] = _
      rw [e]
    have k5' := k4'.trans k5
    refine ⟨(by show 3 ≤ sizeLine; exact ltsz (by decide)), fun p hp => ?_⟩
    have kp : ∀ o, Kp [] H5 (upd H5 p o) := fun o => Kp.rfl'.new hp
    refine q (.ref p) (.seq true [.str "make", .str sx, t]) c' _ ?_ ⟨p, _, rfl, (hXn k5' (.inr trivial) S5 B5).out hp, Sq.newT, ⟨_, _, rfl, rfl, _, _, rfl, rfl, .one (hat.kp ((kp _).mono (by simp)))⟩⟩ (S5.kp (kp _) (by simp)) (by omega) ?_ (B5.kp (kp _) (by simp)) (k5'.trans ((kp _).mono (by simp)))
    · refine ⟨true, "make", [true], [.str sx], [t], rfl, by decide +kernel, ⟨_, _, rfl, ⟨sx, rfl, hs⟩, rfl⟩, (by show 1 = nblk "make"; decide +kernel), fun z => absurd rfl (hmk z).1, fun x hx => ?_⟩
      rw [List.mem_singleton.mp hx]
      have e : (mk || decide (("make" : Str) = "make")) = true := by rw [decide_eq_true rfl, Bool.or_true]
      rw [e]
      exact ht
    · show c' ≤ c + (8 * cR n + 17)
      omega
  have n1' : wd ≠ "make" := fun e => n1 (decide_eq_true (by rw [e]))
  by_cases hwt : wd = "when" ∨ wd = "try"
  · -- when, try
    have hd := hnb (by rcases hwt with e | e <;> (rw [e]; decide +kernel))
    obtain ⟨n, rfl⟩ : ∃ n, d = n + 1 := ⟨d - 1, by omega⟩
    have hc2 : c + (8 * cR n + 17) < 1099511627776 := hc
    have np := cR_pos n
    have nb2 : nblk wd = 2 := by rcases hwt with e | e <;> (rw [e]; decide +kernel)
    have nw : nblk wd ≠ 0 := by rw [nb2]; decide
    have key : ∀ (hs : List T) (hv : List V) (ks' : List Bool) (t1 t2 : T) (v1 v2 : V) (c' : Int) (H' : Hp), headsOf wd = some ks' → HeadsOk ks' hs → AtL X H' hs hv → GB (GRow n) mk t1 → GB (GRow n) mk t2 → At X H' t1 v1 → At X H' t2 v2 →
        Src H' a c' → c ≤ c' → c' ≤ c + (8 * cR n + 17) → Bud H' bu → Kp [a, bu] H H' → ∀ p, H' p = none → Q (.ref p) (upd H' p (.tup ((.str wd :: hv) ++ [v1, v2]))) := by
      intro hs hv ks' t1 t2 v1 v2 c' H' e1 e2 e3 e4 e5 e6 e7 e8 e9 e10 e11 e12 p hp
      have kp : ∀ o, Kp [] H' (upd H' p o) := fun o => Kp.rfl'.new hp
      refine q (.ref p) (.seq true (.str wd :: (hs ++ [t1, t2]))) c' _ ⟨true, wd, ks', hs, [t1, t2], rfl, e1, e2, nb2.symm, fun z => ⟨n1', (hmk z).2⟩, fun x hx => ?_⟩
        ⟨p, _, rfl, (hXn e12 (.inr trivial) e8 e11).out hp, Sq.newT, ⟨_, _, rfl, rfl, (e3.kp ((kp _).mono (by simp))).append ⟨_, _, rfl, e6.kp ((kp _).mono (by simp)), .one (e7.kp ((kp _).mono (by simp)))⟩⟩⟩ (e8.kp (kp _) (by simp)) e9 e10 (e11.kp (kp _) (by simp)) (e12.trans ((kp _).mono (by simp)))
      have em : (mk || decide (wd = "make")) = mk := by rw [decide_eq_false n1', Bool.or_false]
      rw [em]
      rcases List.mem_cons.mp hx with e | hx
      · rw [e]; exact e4
      · rw [List.mem_singleton.mp hx]; exact e5
    refine ⟨_, rfl, rfl, _, rfl, ?_⟩
    refine ite2 (fun _ => ?_) (fun nwh => ⟨_, rfl, rfl, _, rfl, ite2 (fun _ => ?_) (fun nwt => absurd hwt fun z => z.elim (fun e => nwh (decide_eq_true (by rw [e]))) (fun e => nwt (decide_eq_true (by rw [e]))))⟩)
    all_goals
      refine ⟨fun σ' H' => ∃ (pA : Addr) (hs : List T) (hv : List V) (ks' : List Bool) (c2 : Int), σ' = [some (.ref a), some (.ref bu), some (.int (n + 1 : Nat)), some (.bl mk), some (.ref l), some (.str wd), some (.ref pA), none] ∧ H' pA = some (.tup (.str wd :: hv)) ∧ headsOf wd = some ks' ∧ HeadsOk ks' hs ∧ AtL X H' hs hv ∧ hv.length ≤ 1 ∧ Src H' a c2 ∧ c1 ≤ c2 ∧ c2 ≤ c1 + 1 ∧ Bud H' bu ∧ Kp [a, bu] H H', ?_, ?_⟩
      · refine ⟨_, rfl, rfl, _, rfl, ?_⟩
        refine ite2 (fun z => ?_) (fun nt => ?_)
        · have e := V.str.inj (of_decide_eq_true z)
          refine ⟨_, rfl, (by show 1 ≤ sizeLine; exact ltsz (by decide)), fun p hp => ?_⟩
          have kp : ∀ o, Kp [] H3 (upd H3 p o) := fun o => Kp.rfl'.new hp
          exact ⟨p, [], [], [], c1, rfl, upd_same, by rw [e]; decide +kernel, rfl, rfl, by decide, S3.kp (kp _) (by simp), by omega, by omega, B3.kp (kp _) (by simp), k3.trans ((kp _).mono (by simp))⟩
        · have e : wd = "when" := hwt.resolve_right fun e => nt (decide_eq_true (by rw [e]))
          refine ⟨_, rfl, _, rfl, a, c1, rfl, S3, by omega, fun sx H4 hs S4 k4 => ⟨(by show 2 ≤ sizeLine; exact ltsz (by decide)), fun p hp => ?_⟩⟩
          have kp : ∀ o, Kp [] H4 (upd H4 p o) := fun o => Kp.rfl'.new hp
          exact ⟨p, [.str sx], [.str sx], [true], c1 + 1, rfl, upd_same, by rw [e]; decide +kernel, ⟨_, _, rfl, ⟨sx, rfl, hs⟩, rfl⟩, ⟨_, _, rfl, rfl, rfl⟩, Nat.le_refl 1, S4.kp (kp _) (by simp), by omega, by omega, (B3.kp k4 (by simpa using hab.symm)).kp (kp _) (by simp), (k3.trans (k4.mono (by simp))).trans ((kp _).mono (by simp))⟩
      · rintro σ' H4 ⟨pA, hs, hv, ks', c2, rfl, hpA, hks', hhs, hat, hvl, S4, hc2a, hc2b, B4, k4⟩
        have vseq : ([V.ref a, V.ref bu, V.int (((n + 1 : Nat) : Int) - 1), V.bl mk] : List V) ++ [] = [V.ref a, V.ref bu, V.int (n : Int), V.bl mk] := by
          have e : ((n + 1 : Nat) : Int) - 1 = (n : Int) := by omega
          rw [e]; rfl
        have hsub : ∀ z ∈ [a, bu], z ∈ X := by
          intro z hz
          rcases List.mem_cons.mp hz with e | hz
          · rw [e]; exact haX
          · rw [List.mem_singleton.mp hz]; exact hbX
        have hpn : pA ∉ [a, bu] := by
          intro z
          rcases List.mem_cons.mp z with e | z
          · obtain ⟨_, _, q1, _⟩ := S4
            rw [← e, hpA] at q1; cases q1
          · obtain ⟨_, _, q1⟩ := B4
            rw [← List.mem_singleton.mp z, hpA] at q1; cases q1
        refine ⟨_, rfl, _, rfl, _, rfl, _, _, rfl, rfl, _, rfl, a, bu, mk, c2, X, vseq, S4, B4, by omega, hXn k4 (.inr trivial) S4 B4, haX, hbX, fun v1 t1 c3 H5 ht1 hat1 S5 h31 h32 B5 k5 => ?_⟩
        have k5' := k4.trans k5
        refine ⟨_, rfl, _, rfl, _, rfl, _, rfl, _, rfl, _, _, rfl, rfl, _, rfl, a, bu, mk, c3, X, vseq, S5, B5, by omega, hXn k5' (.inr trivial) S5 B5, haX, hbX, fun v2 t2 c4 H6 ht2 hat2 S6 h41 h42 B6 k6 => ?_⟩
        refine ⟨(by show 2 ≤ sizeLine; exact ltsz (by decide)), fun p2 hp2 => ?_⟩
        have kp : ∀ o, Kp [] H6 (upd H6 p2 o) := fun o => Kp.rfl'.new hp2
        have hpA6 : ∀ o, (upd H6 p2 o) pA = some (.tup (.str wd :: hv)) := fun o => kp o _ _ (k6 _ _ (k5 _ _ hpA hpn) hpn) (by simp)
        refine ⟨pA, p2, _, _, rfl, rfl, SqT.of (hpA6 _), SqT.of upd_same, (fun z => nomatch z), ltsz (by show (hv.length + 1) + 2 ≤ 1000; omega), (fun z => nomatch z), fun _ p hp => ?_⟩
        exact key hs hv ks' t1 t2 v1 v2 c4 _ hks' hhs (((hat.kp (k5.mono hsub)).kp (k6.mono hsub)).kp ((kp _).mono (by simp))) ht1 ht2 ((hat1.kp (k6.mono hsub)).kp ((kp _).mono (by simp))) (hat2.kp ((kp _).mono (by simp)))
          (S6.kp (kp _) (by simp)) (by omega) (by omega) (B6.kp (kp _) (by simp)) ((k5'.trans k6).trans ((kp _).mono (by simp))) p hp
  · -- the plain ones
    have hn0 : nblk wd = 0 := by
      unfold nblk
      rw [if_neg n1', if_neg (fun e => hwt (.inl e)), if_neg (fun e => hwt (.inr e))]
    refine ⟨_, rfl, rfl, _, rfl, ?_⟩
    refine ite2 (fun z => absurd (.inl (V.str.inj (of_decide_eq_true z))) hwt) (fun _ => ?_)
    refine ⟨_, rfl, rfl, _, rfl, ?_⟩
    refine ite2 (fun z => absurd (.inr (V.str.inj (of_decide_eq_true z))) hwt) (fun _ => ?_)
    refine ⟨_, rfl, _, rfl, a, c1, wd, ks, X, rfl, S3, by omega, hks, hn0, hXn k3 (.inr trivial) S3 B3, fun v hs c' H4 h1 h2 S4 h3 h4 k4 => ?_⟩
    exact q v (.seq true (.str wd :: hs)) c' H4 (GRow.plain hks h1 hn0 (fun z => (hmk z).2) d) h2 S4 (by omega) (by omega) (B3.kp k4 (by simpa using hab.symm)) (k3.trans (k4.mono (by simp)))
theorem ok_block {d k : Nat} (D : Df K mg "_law_block" sblock ["_law_source_here", "_law_budget", "_law_deep", "_law_in_make"] f fd) (B : Bn mg)
    (Drow : Df K mg "_law_row" srow ["_law_source_here", "_law_budget", "_law_deep", "_law_in_make"] f1 fd1) (Grow : FnOk P w K mg base CX0 (k + 1) f1 fd1 ["_law_source_here", "_law_budget", "_law_deep", "_law_in_make"] (spRow d))
    (Ddraw : Df K mg "_law_draw" sdraw ["_law_source_here", "_law_many"] f5 fd5) (Gdraw : FnOk P w K mg base CX0 1 f5 fd5 ["_law_source_here", "_law_many"] spDraw) :
    FnOk P w K mg base CX0 (k + 2) f fd ["_law_source_here", "_law_budget", "_law_deep", "_law_in_make"] (spBlk (d + 1)) := by
  refine D.F.ok scblock (fun vs H Q E h => ?_) (fun cdv A outer s H vs Q E hr h => ?_)
  · obtain ⟨a, bu, mk, c, X, rfl, _⟩ := h
    rfl
  obtain ⟨a, bu, mk, c, X, rfl, S, Bu, hc, hX, haX, hbX, q⟩ := h
  have hab : a ≠ bu := S.ne Bu
  have cpos := cR_pos d
  refine ⟨_, (pss_cons (ps_set (i := 4) scblock.nd rfl (Or.inl rfl) (pe_lst pa_nil))
 (pss_cons (ps_for PassesOwn.never rfl (pi_range1 (by rfl) B.range (pa_cons (pe_call Gdraw (hr.mono (by omega)) rfl Ddraw.g Ddraw.F.kp Ddraw.b .nil pass0 (pa_cons (pv 0) (pa_cons pe_int pa_nil))) pa_nil)) (pg_name (i := 5) scblock.nd rfl (Or.inl rfl))
  (pss_one (ps_if (pt_cmpR op_gt (pe_ix ix_list (pv 1) pe_int (fun _ _ => rfl)) pe_int (nomark _))
  (pss_one (ps_expr (pe_bm PySem.F.plainAttrs_list PySem.F.slot_list_append PySem.F.type_list_append mt_append (pv 4) (pa_cons (pe_call Grow (hr.mono (by omega)) rfl Drow.g Drow.F.kp Drow.b .nil pass0 (pa_cons (pv 0) (pa_cons (pv 1) (pa_cons (pv 2) (pa_cons (pv 3) pa_nil))))) pa_nil))))
  pss_nil)))
 (pss_one (ps_ret (pv 4))))), ?_⟩
  refine ⟨(by show 0 ≤ sizeLine; exact ltsz (by decide)), fun L hL => ?_⟩
  have kL : ∀ o, Kp [] H (upd H L o) := fun o => Kp.rfl'.new hL
  have hLX : L ∉ X := hX.out hL
  have hLa : L ≠ a := fun z => hLX (by rw [z]; exact haX)
  have hLb : L ≠ bu := fun z => hLX (by rw [z]; exact hbX)
  refine ⟨_, rfl, a, 5, c, rfl, S.kp (kL _) (by simp), by omega, by decide, by decide, fun r H1 r0 r1 S1 k1 => ?_⟩
  have hnn : ∀ x y : Int, x ≤ y → x * cR d ≤ y * cR d := fun x y h => Int.mul_le_mul_of_nonneg_right h (by omega)
  refine ⟨r, rfl, by omega, by omega, for_range (lo := 0) (n := r.toNat) (fun i σ H' => ∃ (ts : List T) (vs : List V) (c' : Int) (kx : Option V), σ = [some (.ref a), some (.ref bu), some (.int d), some (.bl mk), some (.ref L), kx] ∧ H' L = some (.lst vs) ∧ AtL (L :: X) H' ts vs ∧ ts.length ≤ i ∧
    (∀ t ∈ ts, GRow d mk t) ∧ Src H' a c' ∧ c + 1 ≤ c' ∧ c' ≤ c + 1 + (i : Int) * cR d ∧ Bud H' bu ∧ Kp [a, bu] H H') ?_ ?_ ?_⟩
  · exact ⟨[], [], c + 1, none, rfl, k1 _ _ upd_same (by simpa using hLa), rfl, Nat.le_refl _, (fun _ z => nomatch z), S1, by omega, by simp, (Bu.kp (kL _) (by simp)).kp k1 (by simpa using hab.symm), ((kL _).mono (by simp)).trans (k1.mono (by simp))⟩
  · rintro i σ H' hi ⟨ts, vs, c', kx, rfl, h1, h2, h3, h4, S', h5, h6, ⟨br, bi, hb⟩, h7⟩
    have hi4 : (i : Int) * cR d ≤ 3 * cR d := hnn _ _ (by omega)
    have hsub : ∀ z ∈ [a, bu], z ∈ L :: X := by
      intro z hz
      rcases List.mem_cons.mp hz with e | hz
      · rw [e]; exact List.mem_cons_of_mem _ haX
      · rw [List.mem_singleton.mp hz]; exact List.mem_cons_of_mem _ hbX
    have hX' : Kn (L :: X) H' := .cons h1 (hX.kp h7 fun z hz => by
      rcases List.mem_cons.mp hz with e | hz
      · rw [e]; exact S'.kn a (by simp)
      · rw [List.mem_singleton.mp hz, hb]; simp)
    have es : (((i + 1 : Nat) : Int)) * cR d = (i : Int) * cR d + cR d := by
      rw [Int.natCast_add, Int.add_mul]
      simp
    refine ⟨_, rfl, bu, _, _, _, rfl, rfl, SqL.of hb, at0, _, _, rfl, rfl, _, rfl, ?_⟩
    refine ite2 (fun _ => ?_) (fun _ => ?_)
    · refine ⟨_, rfl, .inl ⟨rfl, _, SqL.of h1⟩, _, rfl, _, rfl, _, rfl, _, rfl, a, bu, mk, c', L :: X, rfl, S', ⟨br, bi, hb⟩, by omega, hX', List.mem_cons_of_mem _ haX, List.mem_cons_of_mem _ hbX, fun v t c2 H2 ht hat S2 g1 g2 B2 k2 => ?_⟩
      have hL2 : H2 L = some (.lst vs) := k2 _ _ h1 (by
        intro z
        rcases List.mem_cons.mp z with e | z
        · exact hLa e
        · exact hLb (List.mem_singleton.mp z))
      have hlen := AtL.length h2
      refine ⟨L, _, _, rfl, rfl, hL2, by rw [hlen]; exact Nat.lt_of_le_of_lt (m := 5) (by omega) (by decide), ts ++ [t], vs ++ [v], c2, _, rfl, upd_same, ?_, ?_, ?_, ?_, by omega, by omega, ?_, ?_⟩
      · exact AtL.kp (Kp.rfl'.at (by simp)) ((h2.kp (k2.mono hsub)).snoc hat)
      · rw [List.length_append]
        show ts.length + 1 ≤ i + 1
        omega
      · intro x hx
        rcases List.mem_append.mp hx with hx | hx
        · exact h4 x hx
        · rw [List.mem_singleton.mp hx]; exact ht
      · obtain ⟨d1, m1, e, z⟩ := S2
        exact ⟨d1, m1, by rw [upd_ne hLa.symm]; exact e, z⟩
      · obtain ⟨r1, i1, e⟩ := B2
        exact ⟨r1, i1, by rw [upd_ne hLb.symm]; exact e⟩
      · exact (h7.trans k2).new hL
    · exact ⟨ts, vs, c', _, rfl, h1, h2, by omega, h4, S', h5, by omega, ⟨br, bi, hb⟩, h7⟩
  · rintro σ H' ⟨ts, vs, c', kx, rfl, h1, h2, h3, h4, S', h5, h6, B', h7⟩
    have hi4 : ((r.toNat : Nat) : Int) * cR d ≤ 4 * cR d := hnn _ _ (by omega)
    exact ⟨_, rfl, q (.ref L) (.seq false ts) c' H' ⟨false, ts, rfl, by omega, h4⟩ ⟨L, vs, rfl, hLX, .inl h1, h2.less fun p hp => List.mem_cons_of_mem _ hp⟩ S' (by omega) (by omega) B' h7⟩
end
end Fs

namespace Fs
open PySem L2
abbrev slibrary : Stmt := top 47
theorem sclibrary : FnScope ["_law_source_here", "_law_found", "_law_budget", "_law_k", "_law_rows", "_law_j"] ["_law_source_here"] (defScope slibrary) := ⟨rfl, rfl, rfl, by decide +kernel, rfl, by decide +kernel, by decide +kernel⟩
/-! drawn libraries: modules with their rows -/
def KvAt (X : List Addr) (H : Hp) : List (Str × T) → List (Key × V) → Prop
  | [], kvs => kvs = []
  | (w, t) :: r, kvs => ∃ v q, kvs = (.inr w, v) :: q ∧ At X H t v ∧ KvAt X H r q
theorem KvAt.kp {X : List Addr} {H H' : Hp} (k : Kp X H H') : ∀ {lib : List (Str × T)} {kvs : List (Key × V)}, KvAt X H lib kvs → KvAt X H' lib kvs
  | [], _, h => h
  | (w, t) :: r, kvs, h => by
    obtain ⟨v, q, e, a, l⟩ := h
    exact ⟨v, q, e, a.kp k, KvAt.kp k l⟩
theorem KvAt.less {X Y : List Addr} {H : Hp} (s : ∀ p ∈ X, p ∈ Y) : ∀ {lib : List (Str × T)} {kvs : List (Key × V)}, KvAt Y H lib kvs → KvAt X H lib kvs
  | [], _, h => h
  | (w, t) :: r, kvs, h => by
    obtain ⟨v, q, e, a, l⟩ := h
    exact ⟨v, q, e, a.less s, KvAt.less s l⟩
theorem KvAt.more {X : List Addr} {H : Hp} {y : Addr} (n : H y = none) : ∀ {lib : List (Str × T)} {kvs : List (Key × V)}, KvAt X H lib kvs → KvAt (y :: X) H lib kvs
  | [], _, h => h
  | (w, t) :: r, kvs, h => by
    obtain ⟨v, q, e, a, l⟩ := h
    exact ⟨v, q, e, a.more n, KvAt.more n l⟩
theorem KvAt.length {X : List Addr} {H : Hp} : ∀ {lib : List (Str × T)} {kvs : List (Key × V)}, KvAt X H lib kvs → kvs.length = lib.length
  | [], _, h => by rw [h]; rfl
  | (w, t) :: r, kvs, h => by
    obtain ⟨v, q, e, _, l⟩ := h
    rw [e, List.length_cons, List.length_cons, KvAt.length l]
def putL (lib : List (Str × T)) (w : Str) (t : T) : List (Str × T) :=
  if (lib.any fun p => decide (p.1 = w)) = true then lib.map (fun p => if p.1 = w then (p.1, t) else p) else lib ++ [(w, t)]
theorem KvAt.any {X : List Addr} {H : Hp} {w : Str} : ∀ {lib : List (Str × T)} {kvs : List (Key × V)}, KvAt X H lib kvs → (kvs.any fun p => decide (p.1 = (.inr w : Key))) = (lib.any fun p => decide (p.1 = w))
  | [], _, h => by rw [h]; rfl
  | (u, t) :: r, kvs, h => by
    obtain ⟨v, q, e, _, l⟩ := h
    rw [e, List.any_cons, List.any_cons, KvAt.any l]
    show (decide ((Sum.inr u : Key) = .inr w) || _) = _
    have e2 : decide ((Sum.inr u : Key) = .inr w) = decide (u = w) := by
      by_cases z : u = w
      · rw [decide_eq_true z, decide_eq_true (by rw [z])]
      · rw [decide_eq_false z, decide_eq_false (fun q => z (Sum.inr.inj q))]
    rw [e2]
theorem KvAt.map {X : List Addr} {H : Hp} {w : Str} {t : T} {v : V} (a : At X H t v) : ∀ {lib : List (Str × T)} {kvs : List (Key × V)}, KvAt X H lib kvs →
    KvAt X H (lib.map fun p => if p.1 = w then (p.1, t) else p) (kvs.map fun p => if p.1 = (.inr w : Key) then (p.1, v) else p)
  | [], _, h => by rw [h]; rfl
  | (u, s) :: r, kvs, h => by
    obtain ⟨x, q, e, b, l⟩ := h
    rw [e, List.map_cons, List.map_cons]
    by_cases z : u = w
    · have z2 : (Sum.inr u : Key) = .inr w := by rw [z]
      rw [if_pos z, if_pos z2]
      exact ⟨v, _, rfl, a, KvAt.map a l⟩
    · have z2 : ¬ (Sum.inr u : Key) = .inr w := fun q => z (Sum.inr.inj q)
      rw [if_neg z, if_neg z2]
      exact ⟨x, _, rfl, b, KvAt.map a l⟩
theorem KvAt.snoc {X : List Addr} {H : Hp} {w : Str} {t : T} {v : V} (a : At X H t v) : ∀ {lib : List (Str × T)} {kvs : List (Key × V)}, KvAt X H lib kvs → KvAt X H (lib ++ [(w, t)]) (kvs ++ [(.inr w, v)])
  | [], _, h => by rw [h]; exact ⟨v, [], rfl, a, rfl⟩
  | (u, s) :: r, kvs, h => by
    obtain ⟨x, q, e, b, l⟩ := h
    rw [e]
    exact ⟨x, _, rfl, b, KvAt.snoc a l⟩
theorem KvAt.put {X : List Addr} {H : Hp} {w : Str} {t : T} {v : V} {lib : List (Str × T)} {kvs : List (Key × V)} (h : KvAt X H lib kvs) (a : At X H t v) : KvAt X H (putL lib w t) (putK kvs (.inr w) v) := by
  unfold putL putK
  rw [h.any]
  split
  · exact h.map a
  · exact h.snoc a
/-- a good library -/
structure GLib (lib : List (Str × T)) : Prop where
  few : lib.length ≤ 4
  nd : (lib.map (·.1)).Nodup
  ok : ∀ p ∈ lib, wordB p.1 = true ∧ GB (GRow 3) false p.2
theorem putL_keys {lib : List (Str × T)} {w : Str} {t : T} : (putL lib w t).map (·.1) = if w ∈ lib.map (·.1) then lib.map (·.1) else lib.map (·.1) ++ [w] := by
  unfold putL
  have e : (lib.any fun p => decide (p.1 = w)) = true ↔ w ∈ lib.map (·.1) := by
    rw [List.any_eq_true]
    constructor
    · rintro ⟨p, hp, e⟩
      exact List.mem_map.mpr ⟨p, hp, of_decide_eq_true e⟩
    · intro h
      obtain ⟨p, hp, e⟩ := List.mem_map.mp h
      exact ⟨p, hp, decide_eq_true e⟩
  by_cases h : w ∈ lib.map (·.1)
  · rw [if_pos h, if_pos (e.mpr h), List.map_map]
    refine List.map_congr_left fun p _ => ?_
    show (if p.1 = w then (p.1, t) else p).1 = p.1
    split <;> rfl
  · rw [if_neg h, if_neg (fun z => h (e.mp z)), List.map_append]
    rfl
theorem putL_len {lib : List (Str × T)} {w : Str} {t : T} : (putL lib w t).length ≤ lib.length + 1 := by
  unfold putL
  split
  · rw [List.length_map]; omega
  · rw [List.length_append]; exact Nat.le_refl _
theorem putL_ne {lib : List (Str × T)} {w : Str} {t : T} : putL lib w t ≠ [] := by
  unfold putL
  split
  · rename_i h
    intro z
    rw [List.map_eq_nil_iff.mp z] at h
    cases h
  · intro z
    have := congrArg List.length z
    rw [List.length_append] at this
    simp at this
theorem putL_mem {lib : List (Str × T)} {w : Str} {t : T} {p : Str × T} (h : p ∈ putL lib w t) : p ∈ lib ∨ p = (w, t) := by
  unfold putL at h
  split at h
  · obtain ⟨q, hq, e⟩ := List.mem_map.mp h
    split at e
    · rename_i z
      rw [← e, z]
      exact .inr rfl
    · rw [← e]
      exact .inl hq
  · rcases List.mem_append.mp h with h | h
    · exact .inl h
    · exact .inr (List.mem_singleton.mp h)
theorem putL_nd {lib : List (Str × T)} {w : Str} {t : T} (h : (lib.map (·.1)).Nodup) : ((putL lib w t).map (·.1)).Nodup := by
  rw [putL_keys]
  split
  · exact h
  · rename_i n
    refine List.nodup_append.mpr ⟨h, List.nodup_cons.mpr ⟨(fun z => nomatch z), List.nodup_nil⟩, ?_⟩
    intro x hx y hy e
    rw [List.mem_singleton.mp hy] at e
    exact n (e ▸ hx)
/-- a library as a dict at p -/
def LibAt (X : List Addr) (H : Hp) (p : Addr) (lib : List (Str × T)) : Prop := ∃ kvs, H p = some (.dK kvs) ∧ KvAt X H lib kvs
def spLib : Sp := fun vs H Q _ => ∃ (a : Addr) (c : Int) (X : List Addr), vs = [.ref a] ∧ Src H a c ∧ c + 400000 < 1099511627776 ∧ Kn X H ∧ a ∈ X ∧
  ∀ (p : Addr) (lib : List (Str × T)) (c' : Int) (H' : Hp), p ∉ X → lib ≠ [] → GLib lib → LibAt (p :: X) H' p lib → Src H' a c' → c ≤ c' → c' ≤ c + 400000 → Kp [a] H H' → Q (.ref p) H'
section
variable {P : Program} {w : World} {K : PySem.W.Frag} {mg : Str → Option Value} {base : Heap} {f f1 f2 f3 f4 f5 f6 : Addr} {fd fd1 fd2 fd3 fd4 fd5 fd6 : FuncData}
theorem none_left {k : Nat} {ps : List Str} : FnOk P w K mg base CX0 k f fd ps (fun _ _ _ _ => False) :=
  ⟨fun vs H Q E h => h.elim, fun A outer s H args us vs Q E _ _ _ _ h => h.elim⟩
/-- rows and blocks of depth d -/
theorem ok_rows (B : Bn mg) (Drow : Df K mg "_law_row" srow ["_law_source_here", "_law_budget", "_law_deep", "_law_in_make"] f fd)
    (Dblock : Df K mg "_law_block" sblock ["_law_source_here", "_law_budget", "_law_deep", "_law_in_make"] f1 fd1)
    (Dplainrow : Df K mg "_law_plain_row" splainrow ["_law_source_here", "_law_word_here"] f2 fd2) (Gplainrow : FnOk P w K mg base CX0 4 f2 fd2 ["_law_source_here", "_law_word_here"] spPlain)
    (Dword : Df K mg "_law_word" sword ["_law_source_here"] f3 fd3) (Gword : FnOk P w K mg base CX0 3 f3 fd3 ["_law_source_here"] spWord)
    (Dpick : Df K mg "_law_pick" spick ["_law_source_here", "_law_some"] f4 fd4) (Gpick : FnOk P w K mg base CX0 2 f4 fd4 ["_law_source_here", "_law_some"] (spPick K))
    (Ddraw : Df K mg "_law_draw" sdraw ["_law_source_here", "_law_many"] f5 fd5) (Gdraw : FnOk P w K mg base CX0 1 f5 fd5 ["_law_source_here", "_law_many"] spDraw) :
    ∀ d : Nat, FnOk P w K mg base CX0 (4 + 2 * d + 1) f fd ["_law_source_here", "_law_budget", "_law_deep", "_law_in_make"] (spRow d) ∧ FnOk P w K mg base CX0 (4 + 2 * d + 2) f1 fd1 ["_law_source_here", "_law_budget", "_law_deep", "_law_in_make"] (spBlk (d + 1))
  | 0 => by
    have r := ok_row (d := 0) (k := 4) (by omega) Drow B Dblock none_left Dplainrow Gplainrow Dword Gword Dpick Gpick Ddraw Gdraw
    exact ⟨r, ok_block Dblock B Drow r Ddraw Gdraw⟩
  | d + 1 => by
    have ih := (ok_rows B Drow Dblock Dplainrow Gplainrow Dword Gword Dpick Gpick Ddraw Gdraw d).2
    have r := ok_row (d := d + 1) (k := 4 + 2 * d + 2) (by omega) Drow B Dblock ih Dplainrow Gplainrow Dword Gword Dpick Gpick Ddraw Gdraw
    exact ⟨r, ok_block Dblock B Drow r Ddraw Gdraw⟩
theorem ok_library (D : Df K mg "_law_library" slibrary ["_law_source_here"] f fd) (B : Bn mg)
    (Drow : Df K mg "_law_row" srow ["_law_source_here", "_law_budget", "_law_deep", "_law_in_make"] f1 fd1) (Grow : FnOk P w K mg base CX0 11 f1 fd1 ["_law_source_here", "_law_budget", "_law_deep", "_law_in_make"] (spRow 3))
    (Dword : Df K mg "_law_word" sword ["_law_source_here"] f3 fd3) (Gword : FnOk P w K mg base CX0 3 f3 fd3 ["_law_source_here"] spWord)
    (Ddraw : Df K mg "_law_draw" sdraw ["_law_source_here", "_law_many"] f5 fd5) (Gdraw : FnOk P w K mg base CX0 1 f5 fd5 ["_law_source_here", "_law_many"] spDraw) :
    FnOk P w K mg base CX0 12 f fd ["_law_source_here"] spLib := by
  refine D.F.ok sclibrary (fun vs H Q E h => ?_) (fun cdv A outer s H vs Q E hr h => ?_)
  · obtain ⟨a, c, X, rfl, _⟩ := h
    rfl
  obtain ⟨a, c, X, rfl, S, hc, hX, haX, q⟩ := h
  refine ⟨_, (pss_cons (ps_par (i := 1) (j := 2) (by rfl) sclibrary.nd rfl rfl (by decide) rfl rfl (pa_cons pe_dnewK (pa_cons (pe_lst (pa_cons pe_int (pa_cons pe_int pa_nil))) pa_nil)) (by rfl))
 (pss_cons (ps_for PassesOwn.never rfl (pi_range1 (by rfl) B.range (pa_cons (pe_op op_add pe_int (pe_call Gdraw (hr.mono (by omega)) rfl Ddraw.g Ddraw.F.kp Ddraw.b .nil pass0 (pa_cons (pv 0) (pa_cons pe_int pa_nil)))) pa_nil)) (pg_name (i := 3) sclibrary.nd rfl (Or.inl rfl))
  (pss_cons (ps_set (i := 4) sclibrary.nd rfl (Or.inl rfl) (pe_lst pa_nil))
 (pss_cons (ps_for PassesOwn.never rfl (pi_range1 (by rfl) B.range (pa_cons (pe_call Gdraw (hr.mono (by omega)) rfl Ddraw.g Ddraw.F.kp Ddraw.b .nil pass0 (pa_cons (pv 0) (pa_cons pe_int pa_nil))) pa_nil)) (pg_name (i := 5) sclibrary.nd rfl (Or.inl rfl))
  (pss_one (ps_if (pt_cmpR op_gt (pe_ix ix_list (pv 2) pe_int (fun _ _ => rfl)) pe_int (nomark _))
  (pss_one (ps_expr (pe_bm PySem.F.plainAttrs_list PySem.F.slot_list_append PySem.F.type_list_append mt_append (pv 4) (pa_cons (pe_call Grow (hr.mono (by omega)) rfl Drow.g Drow.F.kp Drow.b .nil pass0 (pa_cons (pv 0) (pa_cons (pv 2) (pa_cons pe_int (pa_cons pe_bl pa_nil))))) pa_nil))))
  pss_nil)))
 (pss_one (ps_dput (hu_of hr) (pv 1) (pe_call Gword (hr.mono (by omega)) rfl Dword.g Dword.F.kp Dword.b .nil pass0 (pa_cons (pv 0) pa_nil)) (pv 4) rfl)))))
 (pss_one (ps_ret (pv 1))))), ?_⟩
  intro p hp
  refine ⟨(by show 2 ≤ sizeLine; exact ltsz (by decide)), fun bu hbu => ?_⟩
  refine ⟨_, _, rfl, ?_⟩
  have hbp : bu ≠ p := fun z => by rw [z, upd_same] at hbu; cases hbu
  have k0 : ∀ o, Kp [] H (upd (upd H p (.dK [])) bu o) := fun o => (Kp.rfl'.new hp).trans (Kp.rfl'.new hbu)
  have hpX : p ∉ X := hX.out hp
  have hbH : H bu = none := (Kp.rfl'.new (X := []) (o := .dK []) hp).free hbu (by simp)
  have hbX : bu ∉ X := hX.out hbH
  have hpa : p ≠ a := fun z => hpX (by rw [z]; exact haX)
  have hba : bu ≠ a := fun z => hbX (by rw [z]; exact haX)
  refine ⟨_, rfl, a, 4, c, rfl, S.kp (k0 _) (by simp), by omega, by decide, by decide, fun r H1 r0 r1 S1 k1 => ?_⟩
  have k1' : Kp [a] H H1 := ((k0 _).mono (by simp)).trans k1
  have p1 : H1 p = some (.dK []) := k1 _ _ (by rw [upd_ne hbp.symm, upd_same]) (by simpa using hpa)
  have b1 : Bud H1 bu := ⟨24, 6, k1 _ _ upd_same (by simpa using hba)⟩
  refine ⟨_, _, rfl, rfl, 1 + r, rfl, by omega, by omega, for_range (lo := 0) (n := (1 + r).toNat) (fun i σ H' => ∃ (lib : List (Str × T)) (c' : Int) (v3 v4 v5 : Option V), σ = [some (.ref a), some (.ref p), some (.ref bu), v3, v4, v5] ∧ LibAt (bu :: p :: X) H' p lib ∧
    (0 < i → lib ≠ []) ∧ lib.length ≤ i ∧ (lib.map (·.1)).Nodup ∧ (∀ q ∈ lib, wordB q.1 = true ∧ GB (GRow 3) false q.2) ∧ Src H' a c' ∧ c + 1 ≤ c' ∧ c' ≤ c + 1 + (i : Int) * 95000 ∧ Bud H' bu ∧ Kp [a] H H') ?_ ?_ ?_⟩
  · exact ⟨[], c + 1, none, none, none, rfl, ⟨[], p1, rfl⟩, (fun z => absurd z (by decide)), Nat.le_refl _, List.nodup_nil, (fun _ z => nomatch z), S1, by omega, by omega, b1, k1'⟩
  · rintro i σ H' hi ⟨lib, c', v3, v4, v5, rfl, ⟨kvs, e1, e2⟩, -, h3, h4, h5, S', h6, h7, B', h8⟩
    have hsa : Kn [a, bu] H' := fun z hz => by
      rcases List.mem_cons.mp hz with e | hz
      · rw [e]; exact S'.kn a (by simp)
      · rw [List.mem_singleton.mp hz]; exact B'.kn bu (by simp)
    have hX1 : Kn (bu :: p :: X) H' := by
      obtain ⟨x, y, eb⟩ := B'
      exact .cons eb (.cons e1 (hX.kp h8 S'.kn))
    refine ⟨(by show 0 ≤ sizeLine; exact ltsz (by decide)), fun L hL => ?_⟩
    have kL : ∀ o, Kp [] H' (upd H' L o) := fun o => Kp.rfl'.new hL
    have hLX : L ∉ bu :: p :: X := hX1.out hL
    have hLb : L ≠ bu := fun z => hLX (by rw [z]; simp)
    have hLp : L ≠ p := fun z => hLX (by rw [z]; simp)
    have hLa : L ≠ a := fun z => hLX (by rw [z]; simp [haX])
    refine ⟨_, rfl, a, 9, c', rfl, S'.kp (kL _) (by simp), by omega, by decide, by decide, fun r2 H2 r20 r21 S2 k2 => ?_⟩
    have c3 : cR 3 = 11481 := rfl
    refine ⟨r2, rfl, by omega, by omega, for_range (lo := 0) (n := r2.toNat) (fun j σ H3 => ∃ (ts : List T) (vs : List V) (c2 : Int) (v5 : Option V), σ = [some (.ref a), some (.ref p), some (.ref bu), some (.int (0 + (i : Nat))), some (.ref L), v5] ∧ H3 L = some (.lst vs) ∧ AtL (L :: bu :: p :: X) H3 ts vs ∧ ts.length ≤ j ∧
      (∀ t ∈ ts, GRow 3 false t) ∧ Src H3 a c2 ∧ c' + 1 ≤ c2 ∧ c2 ≤ c' + 1 + (j : Int) * 11481 ∧ Bud H3 bu ∧ Kp [a, bu] H' H3) ?_ ?_ ?_⟩
    · exact ⟨[], [], c' + 1, _, rfl, k2 _ _ upd_same (by simpa using hLa), rfl, Nat.le_refl _, (fun _ z => nomatch z), S2, by omega, by omega, (B'.kp (kL _) (by simp)).kp k2 (by simpa using hba), ((kL _).mono (by simp)).trans (k2.mono (by simp))⟩
    · rintro j σ H3 hj ⟨ts, vs, c2, w5, rfl, g1, g2, g3, g4, S3, g5, g6, ⟨x, y, gb⟩, g7⟩
      have hX3 : Kn (L :: bu :: p :: X) H3 := .cons g1 (hX1.kp g7 fun z hz => by
        rcases List.mem_cons.mp hz with e | hz
        · rw [e]; exact S3.kn a (by simp)
        · rw [List.mem_singleton.mp hz, gb]; simp)
      refine ⟨_, rfl, bu, _, _, _, rfl, rfl, SqL.of gb, at0, _, _, rfl, rfl, _, rfl, ?_⟩
      refine ite2 (fun _ => ?_) (fun _ => ?_)
      · refine ⟨_, rfl, .inl ⟨rfl, _, SqL.of g1⟩, _, rfl, _, rfl, a, bu, false, c2, L :: bu :: p :: X, rfl, S3, ⟨x, y, gb⟩, by omega, hX3, by simp [haX], by simp, fun v t c4 H4 ht hat S4 l1 l2 B4 k4 => ?_⟩
        have hL4 : H4 L = some (.lst vs) := k4 _ _ g1 (by simp [hLa, hLb])
        have hlen := AtL.length g2
        refine ⟨L, _, _, rfl, rfl, hL4, by rw [hlen]; exact Nat.lt_of_le_of_lt (m := 9) (by omega) (by decide), ts ++ [t], vs ++ [v], c4, _, rfl, upd_same, ?_, ?_, ?_, ?_, by omega, by omega, ?_, ?_⟩
        · exact AtL.kp (Kp.rfl'.at (by simp)) ((g2.kp (k4.mono (by intro z hz; simp at hz; rcases hz with e | e <;> simp [e, haX]))).snoc hat)
        · rw [List.length_append]
          show ts.length + 1 ≤ j + 1
          omega
        · intro z hz
          rcases List.mem_append.mp hz with hz | hz
          · exact g4 z hz
          · rw [List.mem_singleton.mp hz]; exact ht
        · obtain ⟨d1, m1, e, z⟩ := S4
          exact ⟨d1, m1, by rw [upd_ne hLa.symm]; exact e, z⟩
        · obtain ⟨r1, i1, e⟩ := B4
          exact ⟨r1, i1, by rw [upd_ne hLb.symm]; exact e⟩
        · exact (g7.trans k4).new hL
      · exact ⟨ts, vs, c2, _, rfl, g1, g2, by omega, g4, S3, g5, by omega, ⟨x, y, gb⟩, g7⟩
    · rintro σ H3 ⟨ts, vs, c2, w5, rfl, g1, g2, g3, g4, S3, g5, g6, B3, g7⟩
      refine ⟨_, rfl, _, rfl, _, rfl, a, c2, rfl, S3, by omega, fun sx H4 hs S4 k4 => ?_⟩
      have hp4 : H4 p = some (.dK kvs) := k4 _ _ (g7 _ _ e1 (by simp [hpa, hbp.symm])) (by simp [hpa])
      have k74 : Kp [a, bu] H' H4 := g7.trans (k4.mono (by simp))
      have hlen := KvAt.length e2
      refine ⟨p, _, rfl, DPut.k (k := .inr sx) hp4 (Nat.lt_of_le_of_lt (m := 4) (by omega) (by decide)), ?_⟩
      have hL4 : H4 L = some (.lst vs) := k4 _ _ g1 (by simp [hLa])
      refine ⟨putL lib sx (.seq false ts), c2 + 1, _, _, _, rfl, ⟨_, upd_same, ?_⟩, fun _ => putL_ne, Nat.le_trans putL_len (by omega), putL_nd h4, ?_, ?_, by omega, by omega, ?_, ?_⟩
      · refine KvAt.put ((e2.kp (k74.mono ?_)).kp (Kp.rfl'.at (by simp))) ⟨L, vs, rfl, hLX, ?_, ?_⟩
        · intro z hz
          simp at hz
          rcases hz with e | e <;> simp [e, haX]
        · exact .inl (by rw [upd_ne hLp]; exact hL4)
        · refine AtL.kp (Kp.rfl'.at (by simp)) ((g2.less fun z hz => List.mem_cons_of_mem _ hz).kp (k4.mono ?_))
          intro z hz
          simp at hz
          simp [hz, haX]
      · intro z hz
        rcases putL_mem hz with hz | hz
        · exact h5 z hz
        · rw [hz]
          exact ⟨hs, false, ts, rfl, by omega, g4⟩
      · obtain ⟨d1, m1, e, z⟩ := S4
        exact ⟨d1, m1, by rw [upd_ne hpa.symm]; exact e, z⟩
      · obtain ⟨r1, i1, e⟩ := B3.kp k4 (by simp [hba])
        exact ⟨r1, i1, by rw [upd_ne hbp]; exact e⟩
      · have kk : Kp [bu, p, a] H (upd H4 p (.dK (putK kvs (.inr sx) (.ref L)))) := ((h8.mono (by simp)).trans (k74.mono (by intro z hz; simp at hz; rcases hz with e | e <;> simp [e]))).trans (Kp.rfl'.at (by simp))
        exact Kp.drop (Y := [bu, p]) (X := [a]) kk (fun z hz => by
          simp at hz
          rcases hz with e | e
          · rw [e]; exact hbH
          · rw [e]; exact hp)
  · rintro σ H' ⟨lib, c', v3, v4, v5, rfl, ⟨kvs, e1, e2⟩, h2, h3, h4, h5, S', h6, h7, B', h8⟩
    refine ⟨_, rfl, q p lib c' H' hpX (h2 (by omega)) ⟨by omega, h4, h5⟩ ⟨kvs, e1, e2.less fun z hz => List.mem_cons_of_mem _ hz⟩ S' (by omega) (by omega) h8⟩
end
end Fs

namespace Fs
open PySem L2
abbrev sgiven : Stmt := top 48
theorem scgiven : FnScope ["_law_source_here", "_law_thing", "_law_part", "_law_parts"] ["_law_source_here", "_law_thing"] (defScope sgiven) := ⟨rfl, rfl, rfl, by decide +kernel, rfl, by decide +kernel, by decide +kernel⟩
abbrev shanded : Stmt := top 50
theorem schanded : FnScope ["_law_source_here", "_law_library_here", "_law_left", "_law_found", "_law_name"] ["_law_source_here", "_law_library_here"] (defScope shanded) := ⟨rfl, rfl, rfl, by decide +kernel, rfl, by decide +kernel, by decide +kernel⟩
abbrev sblocks : Stmt := top 51
theorem scblocks : FnScope ["_law_row_here"] ["_law_row_here"] (defScope sblocks) := ⟨rfl, rfl, rfl, by decide +kernel, rfl, by decide +kernel, by decide +kernel⟩
abbrev swalked : Stmt := top 52
theorem scwalked : FnScope ["_law_rows", "_law_ahead", "_law_found", "_law_k", "_law_row_here", "_law_nth", "_law_block_here"] ["_law_rows", "_law_ahead"] (defScope swalked) := ⟨rfl, rfl, rfl, by decide +kernel, rfl, by decide +kernel, by decide +kernel⟩
def spGiven (n : Nat) : Sp := fun vs H Q _ => ∃ (a : Addr) (c : Int) (X : List Addr) (t : T) (v : V), vs = [.ref a, v] ∧ Src H a c ∧ c + gC n < 1099511627776 ∧ Kn X H ∧ a ∈ X ∧ At X H t v ∧ Sm n t ∧
  ∀ (v' : V) (t' : T) (c' : Int) (H' : Hp), t'.tupled = t.tupled → At X H' t' v' → Src H' a c' → c ≤ c' → c' ≤ c + gC n → Kp [a] H H' → Q v' H'
section
variable {P : Program} {w : World} {K : PySem.W.Frag} {mg : Str → Option Value} {base : Heap} {f f1 f2 f3 f4 f5 f6 : Addr} {fd fd1 fd2 fd3 fd4 fd5 fd6 : FuncData}
theorem ok_given {n k : Nat} (hk : 1 ≤ k) (Dgiven : Df K mg "_law_given" sgiven ["_law_source_here", "_law_thing"] f fd) (B : Bn mg) (Ddraw : Df K mg "_law_draw" sdraw ["_law_source_here", "_law_many"] f5 fd5) (Gdraw : FnOk P w K mg base CX0 1 f5 fd5 ["_law_source_here", "_law_many"] spDraw)
    (Ggiven : ∀ m, n = m + 1 → FnOk P w K mg base CX0 k f fd ["_law_source_here", "_law_thing"] (spGiven m)) : FnOk P w K mg base CX0 (k + 1) f fd ["_law_source_here", "_law_thing"] (spGiven n) := by
  cases n with
  | zero =>
    have Ggiven : FnOk P w K mg base CX0 k f fd ["_law_source_here", "_law_thing"] (fun _ _ _ _ => False) := none_left
    refine Dgiven.F.ok scgiven (fun vs H Q E h => ?_) (fun cdv A outer s H vs Q E hr h => ?_)
    · obtain ⟨a, c, X, t, v, rfl, _⟩ := h
      rfl
    obtain ⟨a, c, X, t, v, rfl, S, hc, hX, haX, hat, hsm, q⟩ := h
    refine ⟨_, (pss_cons (ps_if (pt_not (pt_val (pe_callB call_isiT (by rfl) B.isinstance (by decide +kernel) (pa_cons (pv 1) (pa_cons (pe_tup (pa_cons (pe_bltn (v := .ty "list") (by rfl) B.list (by decide +kernel) rfl) (pa_cons (pe_bltn (v := .ty "tuple") (by rfl) B.tuple (by decide +kernel) rfl) pa_nil))) pa_nil)))))
  (pss_one (ps_ret (pv 1)))
  pss_nil)
 (pss_cons (ps_setLc (i := 3) (own := [("_law_part", 2)]) rfl scgiven.nd rfl rfl (sw_true rfl rfl rfl (by decide +kernel)) (pi_seq (pv 1)) (blkOk_by (N := ["_law_source_here", "_law_thing", "_law_part", "_law_parts"]) (sc := defScope sgiven) (by decide +kernel)) (fun _ _ _ _ _ => (pg_name (i := 2) scgiven.nd rfl (Or.inl rfl))) (fun _ _ _ _ _ => pts_nil) (fun _ _ _ _ _ => (pe_call Ggiven (hr.mono (by omega)) rfl Dgiven.g Dgiven.F.kp Dgiven.b .nil pass0 (pa_cons (pv 0) (pa_cons (pv 2) pa_nil)))))
 (pss_one (ps_ret (pe_ix ix_list (pe_lst (pa_cons (pe_callTy call_tuple_of (by rfl) B.tuple (by decide +kernel) (pa_cons (pv 3) pa_nil)) (pa_cons (pv 3) pa_nil))) (pe_call Gdraw (hr.mono (by omega)) rfl Ddraw.g Ddraw.F.kp Ddraw.b .nil pass0 (pa_cons (pv 0) (pa_cons pe_int pa_nil))) (fun _ _ => rfl)))))), ?_⟩
    refine ⟨_, rfl, (by show 2 ≤ sizeLine; exact ltsz (by decide)), fun tp htp => ⟨_, tp, _, _, _, _, rfl, upd_same, isiP, tyX_at (hat.kp (Kp.rfl'.new htp)), kit_seq t, _, rfl, ?_⟩⟩
    have kt : ∀ o, Kp [] H (upd H tp o) := fun o => Kp.rfl'.new htp
    rw [show t.isSeq = false from hsm]
    exact ⟨_, rfl, q v t c _ rfl (hat.kp ((kt _).mono (by simp))) (S.kp (kt _) (by simp)) (Int.le_refl c) (by show c ≤ c + 0; omega) ((kt _).mono (by simp))⟩
  | succ n =>
    have Ggiven := Ggiven n rfl
    refine Dgiven.F.ok scgiven (fun vs H Q E h => ?_) (fun cdv A outer s H vs Q E hr h => ?_)
    · obtain ⟨a, c, X, t, v, rfl, _⟩ := h
      rfl
    obtain ⟨a, c, X, t, v, rfl, S, hc, hX, haX, hat, hsm, q⟩ := h
    have hc2 : c + (8 * gC n + 1) < 1099511627776 := hc
    have gp := gC_pos n
    refine ⟨_, (pss_cons (ps_if (pt_not (pt_val (pe_callB call_isiT (by rfl) B.isinstance (by decide +kernel) (pa_cons (pv 1) (pa_cons (pe_tup (pa_cons (pe_bltn (v := .ty "list") (by rfl) B.list (by decide +kernel) rfl) (pa_cons (pe_bltn (v := .ty "tuple") (by rfl) B.tuple (by decide +kernel) rfl) pa_nil))) pa_nil)))))
  (pss_one (ps_ret (pv 1)))
  pss_nil)
 (pss_cons (ps_setLc (i := 3) (own := [("_law_part", 2)]) rfl scgiven.nd rfl rfl (sw_true rfl rfl rfl (by decide +kernel)) (pi_seq (pv 1)) (blkOk_by (N := ["_law_source_here", "_law_thing", "_law_part", "_law_parts"]) (sc := defScope sgiven) (by decide +kernel)) (fun _ _ _ _ _ => (pg_name (i := 2) scgiven.nd rfl (Or.inl rfl))) (fun _ _ _ _ _ => pts_nil) (fun _ _ _ _ _ => (pe_call Ggiven (hr.mono (by omega)) rfl Dgiven.g Dgiven.F.kp Dgiven.b .nil pass0 (pa_cons (pv 0) (pa_cons (pv 2) pa_nil)))))
 (pss_one (ps_ret (pe_ix ix_list (pe_lst (pa_cons (pe_callTy call_tuple_of (by rfl) B.tuple (by decide +kernel) (pa_cons (pv 3) pa_nil)) (pa_cons (pv 3) pa_nil))) (pe_call Gdraw (hr.mono (by omega)) rfl Ddraw.g Ddraw.F.kp Ddraw.b .nil pass0 (pa_cons (pv 0) (pa_cons pe_int pa_nil))) (fun _ _ => rfl)))))), ?_⟩
    refine ⟨_, rfl, (by show 2 ≤ sizeLine; exact ltsz (by decide)), fun tp htp => ⟨_, tp, _, _, _, _, rfl, upd_same, isiP, tyX_at (hat.kp (Kp.rfl'.new htp)), kit_seq t, _, rfl, ?_⟩⟩
    have kt : ∀ o, Kp [] H (upd H tp o) := fun o => Kp.rfl'.new htp
    by_cases hs : t.isSeq = false
    · rw [hs]
      exact ⟨_, rfl, q v t c _ rfl (hat.kp ((kt _).mono (by simp))) (S.kp (kt _) (by simp)) (Int.le_refl c) (by show c ≤ c + (8 * gC n + 1); omega) ((kt _).mono (by simp))⟩
    obtain ⟨b, ts, rfl⟩ : ∃ b ts, t = .seq b ts := by
      cases t <;> first | exact ⟨_, _, rfl⟩ | exact absurd rfl hs
    obtain ⟨p, vs, rfl, hpX, hsq, hl⟩ := hat
    generalize hG : upd H tp (HO.tup [V.ty "list", V.ty "tuple"]) = G
    have kG : Kp [] H G := hG ▸ kt _
    have hlen := AtL.length hl
    have hts8 : ts.length ≤ 8 := hsm.1
    refine ⟨_, rfl, b, p, vs, rfl, (hsq.kp kG (by simp)).b, fun D hD => ?_⟩
    have hDH : H D = none := kG.free hD (by simp)
    have hDX : D ∉ X := hX.out hDH
    have hDa : D ≠ a := fun z => hDX (z ▸ haX)
    have hmul : ∀ i : Nat, i ≤ 8 → (i : Int) * gC n ≤ 8 * gC n := fun i hi => Int.mul_le_mul_of_nonneg_right (by omega) gp
    refine lc_it (walk_seq (xs := vs)) (fun i H' => ∃ (ts' : List T) (vs' : List V) (c' : Int), H' D = some (.lst vs') ∧ ts'.map T.tupled = (ts.take i).map T.tupled ∧ AtL (D :: X) H' ts' vs' ∧ vs'.length = i ∧ Src H' a c' ∧ c ≤ c' ∧ c' ≤ c + (i : Int) * gC n ∧ Kp [a] H H') ?_ ?_ ?_ ?_
    · exact ⟨[], [], c, upd_same, rfl, rfl, rfl, S.kp (kG.new hDH) (by simp), Int.le_refl c, by omega, (kG.new hDH).mono (by simp)⟩
    · rintro i H' hi ⟨ts', vs', c', e1, e2, e3, e4, e5, e6, e7, e8⟩
      exact (hsq.kp e8 (by intro z; rw [List.mem_singleton.mp z] at hpX; exact hpX haX)).b
    · rintro i x H' H'' hi ⟨ts', vs', c', e1, e2, e3, e4, e5, e6, e7, e8⟩ ⟨rfl, hx⟩
      obtain ⟨t, ht, hat⟩ := AtL.get hl hx
      have hi8 : i < 8 := by omega
      have hm1 := hmul (i + 1) hi8
      have es : (((i + 1 : Nat) : Int)) * gC n = (i : Int) * gC n + gC n := by
        rw [Int.natCast_add, Int.add_mul]
        simp
      have hXD : Kn (D :: X) H'' := .cons e1 (hX.kp e8 e5.kn)
      have hat' : At (D :: X) H'' t x := (hat.more hDH).kp (e8.mono (by simp [haX]))
      refine ⟨rfl, _, rfl, _, rfl, a, c', D :: X, t, x, rfl, e5, by omega, hXD, List.mem_cons_of_mem _ haX, hat', hsm.2 t (List.mem_of_getElem? ht), fun v' t' c2 H2 g1 g2 g3 g4 g5 g6 => ?_⟩
      have hD2 : H2 D = some (.lst vs') := g6 _ _ e1 (by simp [hDa])
      refine ⟨vs', hD2, Nat.lt_of_le_of_lt (m := 8) (by omega) (by decide), ts' ++ [t'], vs' ++ [v'], c2, upd_same, ?_, ?_, ?_, ?_, by omega, by omega, ?_⟩
      · rw [List.map_append, e2, List.take_add_one, ht, List.map_append]
        show _ ++ [t'.tupled] = _ ++ [t.tupled]
        rw [g1]
      · exact AtL.kp (Kp.rfl'.at (by simp)) ((e3.kp (g6.mono (by simp [haX]))).snoc g2)
      · rw [List.length_append, e4]
        rfl
      · obtain ⟨d1, m1, e, z⟩ := g3
        exact ⟨d1, m1, by rw [upd_ne hDa.symm]; exact e, z⟩
      · exact (e8.trans g6).new hDH
    · rintro H' ⟨ts', vs', c', e1, e2, e3, e4, e5, e6, e7, e8⟩
      rw [hlen, List.take_length] at e2
      have hm1 := hmul vs.length (by omega)
      have hvl : vs'.length ≤ 8 := by omega
      have hat0 : AtL X H' ts' vs' := e3.less fun z hz => List.mem_cons_of_mem _ hz
      have eqt : ∀ b', T.tupled (.seq b' ts') = T.tupled (.seq b ts) := fun b' => by rw [tupled_seq, tupled_seq, e2]
      refine ⟨_, rfl, D, vs', rfl, .inl ⟨SqL.of e1, fun l hl => ?_⟩⟩
      refine ⟨_, rfl, (by show 2 ≤ sizeLine; exact ltsz (by decide)), fun m hm => ?_⟩
      have kl : ∀ o, Kp [] H' (upd H' l o) := fun o => Kp.rfl'.new hl
      have km : ∀ o, Kp [] H' (upd (upd H' l (.tup vs')) m o) := fun o => (kl _).trans (Kp.rfl'.new hm)
      have hma : m ≠ a := fun z => (e5.kp (kl (.tup vs')) (by simp)).kn a (by simp) (z ▸ hm)
      refine ⟨_, rfl, a, 2, c', rfl, e5.kp (km _) (by simp), by omega, by decide, by decide, fun r H3 r0 r1 S3 k3 => ?_⟩
      have hm3 : H3 m = some (.lst [.ref l, .ref D]) := k3 _ _ upd_same (by simp [hma])
      have kk : Kp [a] H' H3 := ((km _).mono (by simp)).trans k3
      have hXH : Kn X H' := hX.kp e8 e5.kn
      have hlX : l ∉ X := hXH.out hl
      have hla : l ≠ a := fun z => hlX (z ▸ haX)
      have hlm : l ≠ m := fun z => by rw [← z, upd_same] at hm; cases hm
      have hl3 : H3 l = some (.tup vs') := k3 _ _ (by rw [upd_ne hlm, upd_same]) (by simp [hla])
      have hD3 : H3 D = some (.lst vs') := kk _ _ e1 (by simp [hDa])
      have hat3 : AtL X H3 ts' vs' := hat0.kp (kk.mono (by simp [haX]))
      have fin : c ≤ c' + 1 ∧ c' + 1 ≤ c + gC (n + 1) := ⟨by omega, by show c' + 1 ≤ c + (8 * gC n + 1); omega⟩
      rcases (by omega : r = 0 ∨ r = 1) with rfl | rfl
      · exact ⟨m, _, 0, .ref l, rfl, rfl, SqL.of hm3, at0, q (.ref l) (.seq true ts') (c' + 1) H3 (eqt _) ⟨l, vs', rfl, hlX, .inl hl3, hat3⟩ S3 fin.1 fin.2 (e8.trans kk)⟩
      · exact ⟨m, _, 1, .ref D, rfl, rfl, SqL.of hm3, atI_nat (j := 1) rfl, q (.ref D) (.seq false ts') (c' + 1) H3 (eqt _) ⟨D, vs', rfl, hDX, .inl hD3, hat3⟩ S3 fin.1 fin.2 (e8.trans kk)⟩
/-- the same library in another order, lists and tuples exchanged -/
structure LikeLib (lib lib' : List (Str × T)) : Prop where
  keys : (lib'.map (·.1)).Perm (lib.map (·.1))
  like : ∀ p' ∈ lib', ∃ p ∈ lib, p.1 = p'.1 ∧ p'.2.tupled = p.2.tupled
theorem KvAt.keys {X : List Addr} {H : Hp} : ∀ {lib : List (Str × T)} {kvs : List (Key × V)}, KvAt X H lib kvs → kvs.map (·.1) = (lib.map (·.1)).map Sum.inr
  | [], _, h => by rw [h]; rfl
  | (w, t) :: r, kvs, h => by
    obtain ⟨v, q, e, _, l⟩ := h
    rw [e, List.map_cons, List.map_cons, List.map_cons, KvAt.keys l]
theorem KvAt.val {X : List Addr} {H : Hp} {w : Str} : ∀ {lib : List (Str × T)} {kvs : List (Key × V)}, KvAt X H lib kvs → w ∈ lib.map (·.1) → ∃ v t, valV kvs (.inr w : Key) = some v ∧ (w, t) ∈ lib ∧ At X H t v
  | [], _, _, m => nomatch m
  | (u, t) :: r, kvs, h, m => by
    obtain ⟨v, q, e, a, l⟩ := h
    rw [e]
    by_cases z : u = w
    · subst z
      exact ⟨v, t, valV_pos rfl, List.mem_cons_self, a⟩
    · rcases List.mem_cons.mp m with e2 | m
      · exact absurd e2.symm z
      · obtain ⟨v', t', e3, m', a'⟩ := KvAt.val l m
        exact ⟨v', t', (valV_neg (fun q => z (Sum.inr.inj q))).trans e3, List.mem_cons_of_mem _ m', a'⟩
theorem seqIx_of {r : Int} {n : Nat} (h0 : 0 ≤ r) (h1 : r < n) : seqIndex? r n = some r.toNat := by
  unfold seqIndex?
  have e : ¬ r < 0 := by omega
  simp [e, h0, h1]
theorem erase_map {α β : Type} {g : α → β} : ∀ {l : List α} {i : Nat}, (l.map g).eraseIdx i = (l.eraseIdx i).map g
  | [], i => by simp
  | a :: l, 0 => by simp
  | a :: l, i + 1 => by simp [erase_map]
theorem perm_erase {α : Type} : ∀ {l : List α} {i : Nat} {x : α}, l[i]? = some x → (x :: l.eraseIdx i).Perm l
  | [], i, x, h => by simp at h
  | a :: l, 0, x, h => by
    have e : a = x := by simpa using h
    rw [e]
    exact List.Perm.refl _
  | a :: l, i + 1, x, h => by
    have ih := perm_erase (l := l) (i := i) (x := x) (by simpa using h)
    exact (List.Perm.swap a x _).trans (ih.cons a)
def spHanded : Sp := fun vs H Q _ => ∃ (a p : Addr) (c : Int) (X : List Addr) (lib : List (Str × T)), vs = [.ref a, .ref p] ∧ Src H a c ∧ c + 4 * (gC 9 + 1) < 1099511627776 ∧ Kn X H ∧ a ∈ X ∧ p ∈ X ∧ GLib lib ∧ LibAt X H p lib ∧
  ∀ (r : Addr) (lib' : List (Str × T)) (c' : Int) (H' : Hp), r ∉ X → LikeLib lib lib' → LibAt (r :: X) H' r lib' → Src H' a c' → c ≤ c' → c' ≤ c + 4 * (gC 9 + 1) → Kp [a] H H' → Q (.ref r) H'
theorem ok_handed {k : Nat} (hk : 1 ≤ k) (D : Df K mg "_law_handed" shanded ["_law_source_here", "_law_library_here"] f fd) (B : Bn mg) (Ddraw : Df K mg "_law_draw" sdraw ["_law_source_here", "_law_many"] f5 fd5) (Gdraw : FnOk P w K mg base CX0 1 f5 fd5 ["_law_source_here", "_law_many"] spDraw)
    (Dgiven : Df K mg "_law_given" sgiven ["_law_source_here", "_law_thing"] f1 fd1) (Ggiven : FnOk P w K mg base CX0 k f1 fd1 ["_law_source_here", "_law_thing"] (spGiven 9)) : FnOk P w K mg base CX0 (k + 1) f fd ["_law_source_here", "_law_library_here"] spHanded := by
  refine D.F.ok schanded (fun vs H Q E h => ?_) (fun cdv A outer s H vs Q E hr h => ?_)
  · obtain ⟨a, p, c, X, lib, rfl, _⟩ := h
    rfl
  obtain ⟨a, p, c, X, lib, rfl, S, hc, hX, haX, hpX, gl, ⟨kvs, hp, hkv⟩, q⟩ := h
  refine ⟨_, (pss_cons (ps_par (i := 2) (j := 3) (by rfl) schanded.nd rfl rfl (by decide) rfl rfl (pa_cons (pe_callB (call_sortedD rfl) (by rfl) B.sorted (by decide +kernel) (pa_cons (pv 1) pa_nil)) (pa_cons pe_dnewK pa_nil)) (by rfl))
 (pss_cons (ps_while PassesOwn.never (pt_cmpR (op_neD hr.units) (pv 2) (pe_lst pa_nil) (nomark _))
  (pss_cons (ps_set (i := 4) schanded.nd rfl (Or.inl rfl) (pe_bm PySem.F.plainAttrs_list PySem.F.slot_list_pop PySem.F.type_list_pop mt_popAt (pv 2) (pa_cons (pe_call Gdraw (hr.mono (by omega)) rfl Ddraw.g Ddraw.F.kp Ddraw.b .nil pass0 (pa_cons (pv 0) (pa_cons (pe_callB call_len_seq (by rfl) B.len PySem.boot_len (pa_cons (pv 2) pa_nil)) pa_nil))) pa_nil)))
 (pss_one (ps_dput (hu_of hr) (pv 3) (pv 4) (pe_call Ggiven (hr.mono (by omega)) rfl Dgiven.g Dgiven.F.kp Dgiven.b .nil pass0 (pa_cons (pv 0) (pa_cons (pe_dget (hu_of hr) (pv 1) (pv 4) (fun _ _ => rfl)) pa_nil))) rfl))))
 (pss_one (ps_ret (pv 3))))), ?_⟩
  have gp := gC_pos 9
  refine ⟨_, rfl, p, kvs, lib.map (·.1), rfl, .inl hp, hkv.keys, by rw [List.length_map]; have := gl.few; omega, fun ys L hperm _ hL => ?_⟩
  intro F hF
  refine ⟨_, _, rfl, ?_⟩
  have kL : ∀ o, Kp [] H (upd H L o) := fun o => Kp.rfl'.new hL
  have kF : ∀ o, Kp [] H (upd (upd H L (.lst (ys.map V.str))) F o) := fun o => (kL _).trans (Kp.rfl'.new hF)
  have hLX : L ∉ X := hX.out hL
  have hFH : H F = none := (kL _).free hF (by simp)
  have hFX : F ∉ X := hX.out hFH
  have hLF : L ≠ F := fun z => by rw [← z, upd_same] at hF; cases hF
  have hLa : L ≠ a := fun z => hLX (z ▸ haX)
  have hFa : F ≠ a := fun z => hFX (z ▸ haX)
  have hpa : p ≠ a := fun z => by
    obtain ⟨_, _, e, _⟩ := S
    rw [← z, hp] at e
    cases e
  have wy : ∀ y ∈ ys, wordB y = true := fun y hy => by
    obtain ⟨p', hp', e⟩ := List.mem_map.mp (hperm.mem_iff.mp hy)
    rw [← e]
    exact (gl.ok p' hp').1
  have ylen : ys.length = lib.length := by rw [hperm.length_eq, List.length_map]
  have few := gl.few
  have hmul : ∀ i : Nat, i ≤ 4 → (i : Int) * (gC 9 + 1) ≤ 4 * (gC 9 + 1) := fun i hi => Int.mul_le_mul_of_nonneg_right (by omega) (by omega)
  refine while_by (fun σ H' => ∃ (rest : List Str) (lib' : List (Str × T)) (c' : Int) (vn : Option V), σ = [some (.ref a), some (.ref p), some (.ref L), some (.ref F), vn] ∧ H' L = some (.lst (rest.map V.str)) ∧ LibAt (L :: F :: X) H' F lib' ∧
    (rest ++ lib'.map (·.1)).Perm ys ∧ (∀ p' ∈ lib', ∃ q ∈ lib, q.1 = p'.1 ∧ p'.2.tupled = q.2.tupled) ∧ Src H' a c' ∧ c ≤ c' ∧ c' ≤ c + (lib'.length : Int) * (gC 9 + 1) ∧ Kp [a] H H')
    (fun _ H' => match H' L with | some (.lst xs) => xs.length | _ => 0) ?_ ?_ ?_
  · refine ⟨ys, [], c, none, rfl, by rw [upd_ne hLF, upd_same], ⟨[], upd_same, rfl⟩, by rw [List.map_nil, List.append_nil], (fun _ z => nomatch z), S.kp (kF _) (by simp), Int.le_refl c, by simp, (kF _).mono (by simp)⟩
  · rintro σ H' ⟨rest, lib', c', vn, rfl, e1, ⟨kvs', e2, e3⟩, e4, e5, S', e6, e7, e8⟩
    have hlen : rest.length + lib'.length = ys.length := by
      have := e4.length_eq
      rw [List.length_append, List.length_map] at this
      exact this
    have wr : ∀ y ∈ rest, wordB y = true := fun y hy => wy y (e4.mem_iff.mp (List.mem_append_left _ hy))
    refine ⟨_, rfl, (by show 0 ≤ sizeLine; exact Nat.zero_le _), fun em hem => ?_⟩
    have ke : ∀ o, Kp [] H' (upd H' em o) := fun o => Kp.rfl'.new hem
    refine ⟨_, _, .lst (SqL.of (ke _ _ _ e1 (by simp))) dp_words, .lst (SqL.of upd_same) .nil, shaped_words wr, rfl, _, rfl, ?_⟩
    rw [eqv_nil]
    have e1' := ke (.lst []) _ _ e1 (by simp)
    have e2' := ke (.lst []) _ _ e2 (by simp)
    have e3' : KvAt (L :: F :: X) (upd H' em (.lst [])) lib' kvs' := e3.kp ((ke _).mono (by simp))
    have S'' := S'.kp (ke (.lst [])) (by simp)
    have e8' : Kp [a] H (upd H' em (.lst [])) := e8.trans ((ke _).mono (by simp))
    generalize upd H' em (.lst []) = G at e1' e2' e3' S'' e8' ⊢
    cases rest with
    | nil =>
      -- the end
      refine ⟨_, rfl, ?_⟩
      refine q F lib' c' G hFX ⟨?_, e5⟩ ⟨kvs', e2', e3'.less fun z hz => List.mem_cons_of_mem _ hz⟩ S'' e6 ?_ e8'
      · exact e4.trans hperm
      · have hm := hmul lib'.length (by simp at hlen; omega)
        omega
    | cons y0 r0 =>
      generalize hrest : y0 :: r0 = rest at *
      have hne : rest.isEmpty = false := by rw [← hrest]; rfl
      rw [hne]
      have hrl : 1 ≤ rest.length := by rw [← hrest]; exact Nat.succ_le_succ (Nat.zero_le _)
      refine ⟨_, rfl, .inl ⟨rfl, _, SqL.of e1'⟩, _, rfl, _, rfl, L, _, rfl, .inl (SqL.of e1'), a, _, c', rfl, S'', ?_, ?_, ?_, fun i H2 i0 i1 S2 k2 => ?_⟩
      · have hm := hmul lib'.length (by omega)
        omega
      · rw [List.length_map]; omega
      · rw [List.length_map]; omega
      rw [List.length_map] at i1
      have i1' : i.toNat < rest.length := by omega
      obtain ⟨y, hy⟩ : ∃ y, rest[i.toNat]? = some y := ⟨rest[i.toNat], List.getElem?_eq_getElem i1'⟩
      have hL2 : H2 L = some (.lst (rest.map V.str)) := k2 _ _ e1' (by simp [hLa])
      refine ⟨L, _, i, i.toNat, .str y, rfl, rfl, hL2, by omega, by omega, by rw [List.length_map]; exact seqIx_of i0 i1, by rw [List.getElem?_map, hy]; rfl, ?_⟩
      rw [erase_map]
      have hperm2 := perm_erase hy
      have hyin : y ∈ lib.map (·.1) := hperm.mem_iff.mp (e4.mem_iff.mp (List.mem_append_left _ (List.mem_of_getElem? hy)))
      obtain ⟨v, t, hv, hmem, hat⟩ := hkv.val hyin
      have kH2 : Kp [a] H H2 := e8'.trans k2
      have k3 : ∀ o, Kp [L, a] H (upd H2 L o) := fun o => (kH2.mono (by simp)).trans (Kp.rfl'.at (by simp))
      have hpL : p ≠ L := fun z => by rw [z, hL] at hp; cases hp
      have hp3 : ∀ o, (upd H2 L o) p = some (.dK kvs) := fun o => k3 o _ _ hp (by simp [hpL, hpa])
      have S3 : ∀ o, Src (upd H2 L o) a (c' + 1) := fun o => by
        obtain ⟨d1, m1, e, z⟩ := S2
        exact ⟨d1, m1, by rw [upd_ne hLa.symm]; exact e, z⟩
      have hF3 : ∀ o, (upd H2 L o) F = some (.dK kvs') := fun o => by rw [upd_ne hLF.symm]; exact k2 _ _ e2' (by simp [hFa])
      have hX3 : ∀ o, Kn (L :: F :: X) (upd H2 L o) := fun o => .cons upd_same (.cons (hF3 o) (hX.kp (k3 o) fun z hz => by
        rcases List.mem_cons.mp hz with e | hz
        · rw [e, upd_same]; simp
        · rw [List.mem_singleton.mp hz]; exact (S3 o).kn a (by simp)))
      have hat3 : ∀ o, At (L :: F :: X) (upd H2 L o) t v := fun o => ((hat.more hFH).more hL).kp ((k3 o).mono (by intro z hz; simp at hz; rcases hz with e | e <;> simp [e, haX]))
      have hm4 := hmul (lib'.length + 1) (by omega)
      have es : (((lib'.length + 1 : Nat) : Int)) * (gC 9 + 1) = (lib'.length : Int) * (gC 9 + 1) + (gC 9 + 1) := by
        rw [Int.natCast_add, Int.add_mul]
        simp
      refine ⟨_, rfl, _, rfl, _, rfl, p, v, rfl, DGet.k (k := .inr y) (hp3 _) |> (fun z => by rw [hv] at z; exact z), a, c' + 1, L :: F :: X, t, v, rfl, S3 _, by omega, hX3 _, by simp [haX], hat3 _, GB.sm (gl.ok _ hmem).2, fun v' t' c2 H4 g1 g2 S4 g3 g4 k4 => ?_⟩
      have hF4 : H4 F = some (.dK kvs') := k4 _ _ (hF3 _) (by simp [hFa])
      have hL4 : H4 L = some (.lst ((rest.eraseIdx i.toNat).map V.str)) := k4 _ _ upd_same (by simp [hLa])
      have hkl := KvAt.length e3'
      have hnew : (lib'.any fun p => decide (p.1 = y)) = false := by
        rw [Bool.eq_false_iff]
        intro z
        obtain ⟨p', hp', ep⟩ := List.any_eq_true.mp z
        have ep := of_decide_eq_true ep
        have nd : (rest ++ lib'.map (·.1)).Nodup := e4.nodup_iff.mpr (hperm.nodup_iff.mpr gl.nd)
        exact (List.nodup_append.mp nd).2.2 y (List.mem_of_getElem? hy) p'.1 (List.mem_map_of_mem hp') ep.symm
      have eput : putL lib' y t' = lib' ++ [(y, t')] := by
        unfold putL
        rw [hnew]
        rfl
      have k24 : Kp [L, a] G H4 := ((k2.mono (by simp)).trans (Kp.rfl'.at (by simp))).trans (k4.mono (by simp))
      have kv4 : KvAt (L :: F :: X) H4 lib' kvs' := e3'.kp (k24.mono (by intro z hz; simp at hz; rcases hz with e | e <;> simp [e, haX]))
      refine ⟨_, rfl, _, rfl, F, _, rfl, DPut.k (k := .inr y) hF4 (Nat.lt_of_le_of_lt (m := 4) (by omega) (by decide)), ?_⟩
      refine ⟨⟨rest.eraseIdx i.toNat, lib' ++ [(y, t')], c2, _, rfl, by rw [upd_ne hLF]; exact hL4, ⟨_, upd_same, ?_⟩, ?_, ?_, ?_, by omega, ?_, ?_⟩, ?_⟩
      · have := (kv4.kp (H' := upd H4 F (.dK (putK kvs' (.inr y) v'))) (Kp.rfl'.at (by simp))).put (w := y) (g2.kp (H' := upd H4 F (.dK (putK kvs' (.inr y) v'))) (Kp.rfl'.at (by simp)))
        rwa [eput] at this
      · rw [List.map_append]
        have p1 : (rest.eraseIdx i.toNat ++ (lib'.map (·.1) ++ [y])).Perm ((y :: rest.eraseIdx i.toNat) ++ lib'.map (·.1)) := by
          refine (List.Perm.append_left _ (List.perm_append_comm (l₁ := lib'.map (·.1)) (l₂ := [y]))).trans ?_
          exact List.perm_middle (l₁ := rest.eraseIdx i.toNat) (l₂ := lib'.map (·.1)) (a := y)
        exact (p1.trans (hperm2.append_right _)).trans e4
      · intro p' hp'
        rcases List.mem_append.mp hp' with hp' | hp'
        · exact e5 p' hp'
        · rw [List.mem_singleton.mp hp']
          exact ⟨(y, t), hmem, rfl, g1⟩
      · obtain ⟨d1, m1, e, z⟩ := S4
        exact ⟨d1, m1, by rw [upd_ne hFa.symm]; exact e, z⟩
      · rw [List.length_append]
        show c2 ≤ c + ((lib'.length + 1 : Nat) : Int) * (gC 9 + 1)
        omega
      · have kk : Kp [F, L, a] H (upd H4 F (.dK (putK kvs' (.inr y) v'))) := (((k3 _).mono (by simp)).trans (k4.mono (by simp))).trans (Kp.rfl'.at (by simp))
        exact Kp.drop (Y := [F, L]) (X := [a]) kk fun z hz => by
          simp at hz
          rcases hz with e | e
          · rw [e]; exact hFH
          · rw [e]; exact hL
      · rw [upd_ne hLF, hL4, e1]
        show ((rest.eraseIdx i.toNat).map V.str).length < (rest.map V.str).length
        rw [List.length_map, List.length_map, List.length_eraseIdx]
        split <;> omega
  · rintro σ H' Q Q' hQ ⟨v, e, sz, k⟩
    refine ⟨v, e, sz, fun p hp => ?_⟩
    obtain ⟨d, e, a1, a2, a3, a4, b, eb, qq⟩ := k p hp
    exact ⟨d, e, a1, a2, a3, a4, b, eb, hQ _ _ qq⟩
end
end Fs

namespace Fs
open PySem L2
abbrev sisinteger : Stmt := top 9
theorem scisinteger : FnScope ["thing"] ["thing"] (defScope sisinteger) := ⟨rfl, rfl, rfl, by decide +kernel, rfl, by decide +kernel, by decide +kernel⟩
abbrev sislist : Stmt := top 10
theorem scislist : FnScope ["thing"] ["thing"] (defScope sislist) := ⟨rfl, rfl, rfl, by decide +kernel, rfl, by decide +kernel, by decide +kernel⟩
abbrev sisword : Stmt := top 11
theorem scisword : FnScope ["thing", "letter"] ["thing"] (defScope sisword) := ⟨rfl, rfl, rfl, by decide +kernel, rfl, by decide +kernel, by decide +kernel⟩
abbrev sblockcount : Stmt := top 17
theorem scblockcount : FnScope ["word"] ["word"] (defScope sblockcount) := ⟨rfl, rfl, rfl, by decide +kernel, rfl, by decide +kernel, by decide +kernel⟩
abbrev sblocksof : Stmt := top 18
theorem scblocksof : FnScope ["row"] ["row"] (defScope sblocksof) := ⟨rfl, rfl, rfl, by decide +kernel, rfl, by decide +kernel, by decide +kernel⟩
abbrev sishead : Stmt := top 19
theorem scishead : FnScope ["kind", "thing"] ["kind", "thing"] (defScope sishead) := ⟨rfl, rfl, rfl, by decide +kernel, rfl, by decide +kernel, by decide +kernel⟩
abbrev sisrow : Stmt := top 20
theorem scisrow : FnScope ["thing", "word", "heads", "kind", "head", "block"] ["thing"] (defScope sisrow) := ⟨rfl, rfl, rfl, by decide +kernel, rfl, by decide +kernel, by decide +kernel⟩
def kindStr : Bool → Str
  | true => "word"
  | false => "number"
/-- what the top has written: the tables -/
structure Cs (K : PySem.W.Frag) (w : World) (mg : Str → Option Value) (hd bd im ba : Addr) (eh eb : Array DictEntry) (nh nb : Nat) (t1 t2 : Tok) : Prop where
  letters : mg "LETTERS" = some (.str "abcdefghijklmnopqrstuvwxyz" t1)
  longest : mg "LONGEST_WORD" = some (.int 8 t2)
  heads : mg "HEADS" = some (.ref hd)
  blocks : mg "BLOCKS" = some (.ref bd)
  importing : mg "IMPORTING" = some (.ref im)
  barred : mg "BARRED_IN_FUNCTIONS" = some (.ref ba)
  dH : KDict K w hd eh nh
  dB : KDict K w bd eb nb
  hat : ∀ (x : Str) (ks : List Bool), headsOf x = some ks → ∃ a : Addr, PySem.W.nsIn K hd x = some (some (.ref a)) ∧ ∀ H : Hp, SqT K H a (ks.map fun k => V.str (kindStr k))
  bat : ∀ (x : Str) (ks : List Bool), headsOf x = some ks → (nblk x = 0 ∧ PySem.W.nsIn K bd x = some none) ∨ ∃ t : Tok, PySem.W.nsIn K bd x = some (some (.int (nblk x : Nat) t))
  iat : ∀ H : Hp, SqT K H im [.str "load", .str "pick"]
  bar : ∀ H : Hp, SqT K H ba [.str "make", .str "call"]
/-! kinds -/
def T.isInt : T → Bool
  | .int _ => true
  | _ => false
def T.isWord : T → Bool
  | .str s => wordB s
  | _ => false
def T.slen : T → Nat
  | .str s => s.length
  | _ => 0
/-- a test of data: the answer, what stood stands -/
def spTest (g : T → Bool) (pre : T → Prop) : Sp := fun vs H Q _ => ∃ (X : List Addr) (t : T) (v : V), vs = [v] ∧ At X H t v ∧ pre t ∧ ∀ H' : Hp, Kp [] H H' → Q (.bl (g t)) H'
section
variable {P : Program} {w : World} {K : PySem.W.Frag} {mg : Str → Option Value} {base : Heap} {f f1 f2 f3 f4 f5 f6 : Addr} {fd fd1 fd2 fd3 fd4 fd5 fd6 : FuncData}
variable {hd bd im ba : Addr} {eh eb : Array DictEntry} {nh nb : Nat} {t1 t2 : Tok}
theorem ok_islist (D : Df K mg "is_list" sislist ["thing"] f fd) (B : Bn mg) : FnOk P w K mg base CX0 1 f fd ["thing"] (spTest T.isSeq fun _ => True) := by
  refine D.F.ok scislist (fun vs H Q E h => ?_) (fun cdv A outer s H vs Q E hr h => ?_)
  · obtain ⟨X, t, v, rfl, _⟩ := h
    rfl
  obtain ⟨X, t, v, rfl, hat, _, q⟩ := h
  refine ⟨_, (pss_one (ps_ret (pe_callB call_isiT (by rfl) B.isinstance (by decide +kernel) (pa_cons (pv 0) (pa_cons (pe_tup (pa_cons (pe_bltn (v := .ty "list") (by rfl) B.list (by decide +kernel) rfl) (pa_cons (pe_bltn (v := .ty "tuple") (by rfl) B.tuple (by decide +kernel) rfl) pa_nil))) pa_nil))))), ?_⟩
  exact ⟨_, rfl, (by show 2 ≤ sizeLine; exact ltsz (by decide)), fun tp htp => ⟨_, tp, _, _, _, _, rfl, upd_same, isiP, tyX_at (hat.kp (Kp.rfl'.new htp)), kit_seq t, q _ (Kp.rfl'.new htp)⟩⟩
theorem ok_isinteger (D : Df K mg "is_integer" sisinteger ["thing"] f fd) (B : Bn mg) : FnOk P w K mg base CX0 1 f fd ["thing"] (spTest T.isInt fun _ => True) := by
  refine D.F.ok scisinteger (fun vs H Q E h => ?_) (fun cdv A outer s H vs Q E hr h => ?_)
  · obtain ⟨X, t, v, rfl, _⟩ := h
    rfl
  obtain ⟨X, t, v, rfl, hat, _, q⟩ := h
  refine ⟨_, (pss_one (ps_ret (pe_and (pe_callB call_isi (by rfl) B.isinstance (by decide +kernel) (pa_cons (pv 0) (pa_cons (pe_bltn (v := .ty "int") (by rfl) B.int (by decide +kernel) rfl) pa_nil))) (pe_one (pe_not (pe_callB call_isi (by rfl) B.isinstance (by decide +kernel) (pa_cons (pv 0) (pa_cons (pe_bltn (v := .ty "bool") (by rfl) B.bool (by decide +kernel) rfl) pa_nil)))))))), ?_⟩
  have hty := tyX_at (K := K) hat
  have q' := q H Kp.rfl'
  cases t with
  | non => exact ⟨_, rfl, _, _, _, _, false, rfl, .ty _, hty, kit_ty (a := "NoneType") (b := "int") (by decide +kernel), _, rfl, q'⟩
  | bl b => exact ⟨_, rfl, _, _, _, _, true, rfl, .ty _, hty, kit_ty (a := "bool") (b := "int") (by decide +kernel), _, rfl, _, rfl, _, _, _, _, true, rfl, .ty _, hty, kit_ty (a := "bool") (b := "bool") (by decide +kernel), _, rfl, q'⟩
  | int b => exact ⟨_, rfl, _, _, _, _, true, rfl, .ty _, hty, kit_ty (a := "int") (b := "int") (by decide +kernel), _, rfl, _, rfl, _, _, _, _, false, rfl, .ty _, hty, kit_ty (a := "int") (b := "bool") (by decide +kernel), _, rfl, q'⟩
  | str b => exact ⟨_, rfl, _, _, _, _, false, rfl, .ty _, hty, kit_ty (a := "str") (b := "int") (by decide +kernel), _, rfl, q'⟩
  | seq b ts =>
    cases b
    · exact ⟨_, rfl, _, _, _, _, false, rfl, .ty _, hty, kit_ty (a := "list") (b := "int") (by decide +kernel), _, rfl, q'⟩
    · exact ⟨_, rfl, _, _, _, _, false, rfl, .ty _, hty, kit_ty (a := "tuple") (b := "int") (by decide +kernel), _, rfl, q'⟩
theorem ok_isword (D : Df K mg "is_word" sisword ["thing"] f fd) (B : Bn mg) (C : Cs K w mg hd bd im ba eh eb nh nb t1 t2) : FnOk P w K mg base CX0 1 f fd ["thing"] (spTest T.isWord fun t => t.slen ≤ 1000) := by
  refine D.F.ok scisword (fun vs H Q E h => ?_) (fun cdv A outer s H vs Q E hr h => ?_)
  · obtain ⟨X, t, v, rfl, _⟩ := h
    rfl
  obtain ⟨X, t, v, rfl, hat, hsl, q⟩ := h
  refine ⟨_, (pss_cons (ps_if (PW.pt (pw_or (pt_not (pt_val (pe_callB call_isi (by rfl) B.isinstance (by decide +kernel) (pa_cons (pv 0) (pa_cons (pe_bltn (v := .ty "str") (by rfl) B.str (by decide +kernel) rfl) pa_nil))))) (pw_or1 (pt_not (pt_chain op_le op_le pe_int (pe_callB call_len_str (by rfl) B.len PySem.boot_len (pa_cons (pv 0) pa_nil)) (pe_glob (v := .int 8) rfl C.longest ⟨_, rfl⟩))))))
  (pss_one (ps_ret pe_bl))
  pss_nil)
 (pss_one (ps_ret (pe_callB (cr_all rfl) (by rfl) B.all (by decide +kernel) (pa_cons (pe_lc (own := [("letter", 1)]) rfl scisword.nd (pi_str (pv 0)) (blkOk_by (N := ["thing", "letter"]) (sc := defScope sisword) (by decide +kernel)) (fun _ _ _ _ _ => (pg_name (i := 1) scisword.nd rfl (Or.inl rfl))) (fun _ _ _ _ _ => pts_nil) (fun _ _ _ _ _ => (pe_cmpR op_in_sign (pv 1) (pe_glob (v := .str "abcdefghijklmnopqrstuvwxyz") rfl C.letters ⟨_, rfl⟩) (by rfl)))) pa_nil))))), ?_⟩
  have hty := tyX_at (K := K) hat
  have no : (∀ b, PySem.W.kitOne K (.type t.ty) (.type "str") = some b → b = false) → t.isWord = false → Q (.bl false) H := fun _ e => by
    have := q H Kp.rfl'
    rwa [e] at this
  cases t with
  | non => exact ⟨_, rfl, _, _, _, _, false, rfl, .ty _, hty, kit_ty (a := "NoneType") (b := "str") (by decide +kernel), _, rfl, q H Kp.rfl'⟩
  | bl b => exact ⟨_, rfl, _, _, _, _, false, rfl, .ty _, hty, kit_ty (a := "bool") (b := "str") (by decide +kernel), _, rfl, q H Kp.rfl'⟩
  | int b => exact ⟨_, rfl, _, _, _, _, false, rfl, .ty _, hty, kit_ty (a := "int") (b := "str") (by decide +kernel), _, rfl, q H Kp.rfl'⟩
  | seq b ts =>
    cases b
    · exact ⟨_, rfl, _, _, _, _, false, rfl, .ty _, hty, kit_ty (a := "list") (b := "str") (by decide +kernel), _, rfl, q H Kp.rfl'⟩
    · exact ⟨_, rfl, _, _, _, _, false, rfl, .ty _, hty, kit_ty (a := "tuple") (b := "str") (by decide +kernel), _, rfl, q H Kp.rfl'⟩
  | str x =>
    cases (show v = .str x from hat)
    have hx : x.length ≤ 1000 := hsl
    refine ⟨_, rfl, _, _, _, _, true, rfl, .ty _, hty, kit_ty (a := "str") (b := "str") (by decide +kernel), _, rfl, ?_⟩
    have hsz : x.length ≤ sizeLine := ltsz hx
    have bad : (decide (1 ≤ x.length) && decide (x.length ≤ 8)) = false → Q (.bl false) H := fun z => by
      have e : wordB x = false := by unfold wordB; rw [z]; rfl
      have := q H Kp.rfl'
      rwa [show T.isWord (.str x) = false from e] at this
    refine ⟨_, rfl, x, rfl, hsz, _, _, rfl, rfl, _, rfl, ?_⟩
    refine ite2 (fun z1 => ?_) (fun z1 => ?_)
    · refine ⟨_, _, rfl, rfl, _, rfl, ?_⟩
      have h1 : 1 ≤ x.length := by
        have := of_decide_eq_true z1
        omega
      by_cases h8 : x.length ≤ 8
      · have e : decide ((x.length : Int) ≤ 8) = true := decide_eq_true (by omega)
        rw [e]
        refine ⟨_, rfl, x, rfl, fun D hD => ?_⟩
        refine lc_it walk_str (fun i H' => ∃ bs : List Bool, H' D = some (.lst (bs.map V.bl)) ∧ bs = (x.cps.toList.take i).map (fun c => decide (97 ≤ c) && decide (c ≤ 122)) ∧ Kp [] H H') ?_ (fun _ _ _ _ => trivial) ?_ ?_
        · exact ⟨[], upd_same, rfl, Kp.rfl'.new hD⟩
        · rintro i y H' H'' hi ⟨bs, e1, e2, e3⟩ ⟨rfl, c, hc, rfl⟩
          refine ⟨rfl, _, rfl, c, _, rfl, rfl, _, e1, ?_, bs ++ [decide (97 ≤ c) && decide (c ≤ 122)], ?_, ?_, e3.new hD⟩
          · have hl : bs.length ≤ 8 := by
              rw [e2, List.length_map, List.length_take]
              have : x.cps.toList.length ≤ 8 := h8
              omega
            rw [List.length_map]
            exact Nat.lt_of_le_of_lt hl (by decide)
          · rw [upd_same, List.map_append]
            have ec : decide (c ∈ ("abcdefghijklmnopqrstuvwxyz" : Str).cps.toList) = (decide (97 ≤ c) && decide (c ≤ 122)) := by
              have el : ("abcdefghijklmnopqrstuvwxyz" : Str).cps.toList = [97, 98, 99, 100, 101, 102, 103, 104, 105, 106, 107, 108, 109, 110, 111, 112, 113, 114, 115, 116, 117, 118, 119, 120, 121, 122] := by decide +kernel
              rw [el, Bool.eq_iff_iff]
              simp only [List.mem_cons, List.not_mem_nil, or_false, decide_eq_true_eq, Bool.and_eq_true]
              omega
            show some (HO.lst (bs.map V.bl ++ [V.bl (decide (c ∈ ("abcdefghijklmnopqrstuvwxyz" : Str).cps.toList))])) = _
            rw [ec]
            rfl
          · have hc2 : x.cps.toList[i]? = some c := by
              rw [Array.getElem?_toList]
              exact hc
            rw [List.take_add_one, hc2, List.map_append, ← e2]
            rfl
        · rintro H' ⟨bs, e1, e2, e3⟩
          refine ⟨D, bs, rfl, SqL.of e1, ?_⟩
          have e : bs.all id = wordB x := by
            rw [e2]
            have hz : x.cps.toList.take x.cps.size = x.cps.toList := List.take_of_length_le (by simp)
            rw [hz, List.all_map]
            unfold wordB
            rw [decide_eq_true h1, decide_eq_true h8]
            rfl
          rw [e]
          exact q H' e3
      · have e : decide ((x.length : Int) ≤ 8) = false := decide_eq_false (by omega)
        rw [e]
        exact bad (by rw [decide_eq_false h8, Bool.and_false])
    · have h1 : ¬ 1 ≤ x.length := fun z => z1 (decide_eq_true (by omega))
      exact ⟨_, rfl, bad (by rw [decide_eq_false h1, Bool.false_and])⟩
def spBlockCount : Sp := fun vs H Q _ => ∃ (x : Str) (ks : List Bool), vs = [.str x] ∧ headsOf x = some ks ∧ Q (.int (nblk x : Nat)) H
theorem ok_blockcount (D : Df K mg "block_count" sblockcount ["word"] f fd) (C : Cs K w mg hd bd im ba eh eb nh nb t1 t2) : FnOk P w K mg base CX0 1 f fd ["word"] spBlockCount := by
  refine D.F.ok scblockcount (fun vs H Q E h => ?_) (fun cdv A outer s H vs Q E hr h => ?_)
  · obtain ⟨x, ks, rfl, _⟩ := h
    rfl
  obtain ⟨x, ks, rfl, hx, q⟩ := h
  refine ⟨_, (pss_one (ps_ret (pe_kget2 C.dB (pe_glob (v := .ref bd) rfl C.blocks rfl) (pv 0) pe_int ⟨rfl, rfl, rfl, rfl⟩))), ?_⟩
  rcases C.bat x ks hx with ⟨e, hn⟩ | ⟨t, hn⟩
  · rw [e] at q
    exact ⟨rfl, _, rfl, x, none, .int 0, rfl, hn, rfl, q⟩
  · exact ⟨rfl, _, rfl, x, _, .int (nblk x : Nat), rfl, hn, ⟨t, rfl⟩, q⟩
/-- a row's blocks: a new list or tuple -/
def spBlocksOf : Sp := fun vs H Q _ => ∃ (X : List Addr) (b : Bool) (x : Str) (ks : List Bool) (hs bs : List T) (v : V), vs = [v] ∧ At X H (.seq b (.str x :: (hs ++ bs))) v ∧ headsOf x = some ks ∧ hs.length = ks.length ∧ Kn X H ∧
  ∀ (v' : V) (H' : Hp), At X H' (.seq b bs) v' → Kp [] H H' → Q v' H'
theorem ok_blocksof (D : Df K mg "blocks_of" sblocksof ["row"] f fd) (B : Bn mg) (C : Cs K w mg hd bd im ba eh eb nh nb t1 t2) : FnOk P w K mg base CX0 1 f fd ["row"] spBlocksOf := by
  refine D.F.ok scblocksof (fun vs H Q E h => ?_) (fun cdv A outer s H vs Q E hr h => ?_)
  · obtain ⟨X, b, x, ks, hs, bs, v, rfl, _⟩ := h
    rfl
  obtain ⟨X, b, x, ks, hs, bs, v, rfl, ⟨p, vs, rfl, hpX, hsq, hl⟩, hx, hlen, hX, q⟩ := h
  obtain ⟨v0, r, rfl, e0, hl2⟩ := id hl
  cases (show v0 = .str x from e0)
  obtain ⟨ah, hh, ht⟩ := C.hat x ks hx
  refine ⟨_, (pss_one (ps_ret (pe_slice sl_seq (pv 0) (po_some (pe_op op_add pe_int (pe_callB call_len_seq (by rfl) B.len PySem.boot_len (pa_cons (pe_kitem C.dH (pe_glob (v := .ref hd) rfl C.heads rfl) (pe_ix (ix_list.or ix_tup) (pv 0) pe_int (fun _ _ => rfl)) (fun _ _ => rfl)) pa_nil)))) po_none))), ?_⟩
  refine ⟨_, rfl, _, rfl, ix_seq2 hsq at0 ⟨x, _, .ref ah, rfl, rfl, hh, rfl, ah, _, rfl, .inr (ht H), _, _, rfl, rfl, _, rfl, slice_seq hsq hX hpX fun r' H' h1 h2 h3 => ?_⟩⟩
  have lr := AtL.length hl2
  rw [List.length_append] at lr
  rw [cut_from (k := 1 + hs.length) (by rw [List.length_map, hlen]; omega) (by rw [List.length_cons]; omega)] at h2
  have e : (V.str x :: r).drop (1 + hs.length) = r.drop hs.length := by rw [Nat.add_comm]; rfl
  rw [e] at h2
  refine q (.ref r') H' ⟨r', _, rfl, h1, h2, ?_⟩ h3
  have := (hl2.drop hs.length).kp (h3.mono (by simp))
  rwa [List.drop_left] at this
/-- a head's test -/
def spIsHead : Sp := fun vs H Q _ => ∃ (X : List Addr) (k : Bool) (t : T) (v : V), vs = [.str (kindStr k), v] ∧ At X H t v ∧ t.slen ≤ 1000 ∧ ∀ H' : Hp, Kp [] H H' → Q (.bl (if k then t.isWord else t.isInt)) H'
theorem ok_ishead (D : Df K mg "is_head" sishead ["kind", "thing"] f fd) (Disword : Df K mg "is_word" sisword ["thing"] f1 fd1) (Gisword : FnOk P w K mg base CX0 1 f1 fd1 ["thing"] (spTest T.isWord fun t => t.slen ≤ 1000))
    (Disinteger : Df K mg "is_integer" sisinteger ["thing"] f2 fd2) (Gisinteger : FnOk P w K mg base CX0 1 f2 fd2 ["thing"] (spTest T.isInt fun _ => True)) : FnOk P w K mg base CX0 2 f fd ["kind", "thing"] spIsHead := by
  refine D.F.ok scishead (fun vs H Q E h => ?_) (fun cdv A outer s H vs Q E hr h => ?_)
  · obtain ⟨X, k, t, v, rfl, _⟩ := h
    rfl
  obtain ⟨X, k, t, v, rfl, hat, hsl, q⟩ := h
  refine ⟨_, (pss_cons (ps_if (pt_cmpR op_eq (pv 0) pe_str (nomark _))
  (pss_one (ps_ret (pe_call Gisword (hr.mono (by omega)) rfl Disword.g Disword.F.kp Disword.b .nil pass0 (pa_cons (pv 1) pa_nil))))
  pss_nil)
 (pss_one (ps_ret (pe_call Gisinteger (hr.mono (by omega)) rfl Disinteger.g Disinteger.F.kp Disinteger.b .nil pass0 (pa_cons (pv 1) pa_nil))))), ?_⟩
  cases k
  · exact ⟨_, rfl, rfl, _, rfl, _, rfl, X, t, v, rfl, hat, trivial, fun H' k' => q H' k'⟩
  · exact ⟨_, rfl, rfl, _, rfl, _, rfl, X, t, v, rfl, hat, hsl, fun H' k' => q H' k'⟩
end
end Fs

namespace Fs
open PySem L2
abbrev stakenrows : Stmt := top 21
theorem sctakenrows : FnScope ["module", "rows", "prefix", "in_function", "taken", "at", "row", "path", "within", "blocks", "b", "block", "inner", "heads"] ["module", "rows", "prefix", "in_function"] (defScope stakenrows) := ⟨rfl, rfl, rfl, by decide +kernel, rfl, by decide +kernel, by decide +kernel⟩
abbrev srowsbypath : Stmt := top 22
theorem scrowsbypath : FnScope ["rows", "prefix", "found", "at", "row", "path", "b", "block"] ["rows", "prefix"] (defScope srowsbypath) := ⟨rfl, rfl, rfl, by decide +kernel, rfl, by decide +kernel, by decide +kernel⟩
/-- a row as the program wants it -/
structure RowOk (t : T) (b : Bool) (x : Str) (ks : List Bool) (hs bs : List T) : Prop where
  eq : t = .seq b (.str x :: (hs ++ bs))
  hk : headsOf x = some ks
  ok : HeadsOk ks hs
  nb : bs.length = nblk x
  sq : ∀ y ∈ bs, y.isSeq = true
def spIsRow : Sp := fun vs H Q _ => ∃ (X : List Addr) (t : T) (v : V) (b : Bool) (x : Str) (ks : List Bool) (hs bs : List T), vs = [v] ∧ At X H t v ∧ RowOk t b x ks hs bs ∧ Kn X H ∧ ∀ H' : Hp, Kp [] H H' → Q (.bl true) H'
theorem HeadOk.test {k : Bool} {t : T} (h : HeadOk k t) : (if k then t.isWord else t.isInt) = true ∧ t.slen ≤ 1000 := by
  cases k
  · obtain ⟨i, rfl, _⟩ := h
    exact ⟨rfl, Nat.zero_le _⟩
  · obtain ⟨s, rfl, hs⟩ := h
    refine ⟨hs, ?_⟩
    show s.length ≤ 1000
    unfold wordB at hs
    simp at hs
    omega
theorem HeadsOk.get : ∀ {ks : List Bool} {ts : List T} {i : Nat} {k : Bool} {t : T}, HeadsOk ks ts → ks[i]? = some k → ts[i]? = some t → HeadOk k t
  | [], _, i, _, _, _, e, _ => by cases e
  | k :: ks, ts, 0, k', t, h, e, e2 => by
    obtain ⟨u, r, rfl, a, l⟩ := h
    cases e
    cases e2
    exact a
  | k :: ks, ts, i + 1, k', t, h, e, e2 => by
    obtain ⟨u, r, rfl, a, l⟩ := h
    exact HeadsOk.get (i := i) l e e2
theorem all_true (n : Nat) : ((List.replicate n true).all id) = true := by
  rw [List.all_eq_true]
  intro x hx
  rw [List.eq_of_mem_replicate hx]
  rfl
section
variable {P : Program} {w : World} {K : PySem.W.Frag} {mg : Str → Option Value} {base : Heap} {f f1 f2 f3 f4 f5 f6 : Addr} {fd fd1 fd2 fd3 fd4 fd5 fd6 : FuncData}
variable {hd bd im ba : Addr} {eh eb : Array DictEntry} {nh nb : Nat} {t1 t2 : Tok}
theorem ok_isrow (D : Df K mg "is_row" sisrow ["thing"] f fd) (B : Bn mg) (C : Cs K w mg hd bd im ba eh eb nh nb t1 t2)
    (Dislist : Df K mg "is_list" sislist ["thing"] f1 fd1) (Gislist : FnOk P w K mg base CX0 1 f1 fd1 ["thing"] (spTest T.isSeq fun _ => True))
    (Dishead : Df K mg "is_head" sishead ["kind", "thing"] f2 fd2) (Gishead : FnOk P w K mg base CX0 2 f2 fd2 ["kind", "thing"] spIsHead)
    (Dblockcount : Df K mg "block_count" sblockcount ["word"] f3 fd3) (Gblockcount : FnOk P w K mg base CX0 1 f3 fd3 ["word"] spBlockCount)
    (Dblocksof : Df K mg "blocks_of" sblocksof ["row"] f4 fd4) (Gblocksof : FnOk P w K mg base CX0 1 f4 fd4 ["row"] spBlocksOf) : FnOk P w K mg base CX0 3 f fd ["thing"] spIsRow := by
  refine D.F.ok scisrow (fun vs H Q E h => ?_) (fun cdv A outer s H vs Q E hr h => ?_)
  · obtain ⟨X, t, v, b, x, ks, hs, bs, rfl, _⟩ := h
    rfl
  obtain ⟨X, t, v, b, x, ks, hs, bs, rfl, hat, R, hX, q⟩ := h
  obtain ⟨rfl, hx, hok, hnb, hsq⟩ := R
  refine ⟨_, (pss_cons (ps_if (PW.pt (pw_or (pt_not (pt_val (pe_call Gislist (hr.mono (by omega)) rfl Dislist.g Dislist.F.kp Dislist.b .nil pass0 (pa_cons (pv 0) pa_nil)))) (pw_or1 (pt_cmpR op_eq (pe_callB call_len_seq (by rfl) B.len PySem.boot_len (pa_cons (pv 0) pa_nil)) pe_int (nomark _)))))
  (pss_one (ps_ret pe_bl))
  pss_nil)
 (pss_cons (ps_set (i := 1) scisrow.nd rfl (Or.inl rfl) (pe_ix (ix_list.or ix_tup) (pv 0) pe_int (fun _ _ => rfl)))
 (pss_cons (ps_if (PW.pt (pw_or (pt_not (pt_val (pe_callB call_isi (by rfl) B.isinstance (by decide +kernel) (pa_cons (pv 1) (pa_cons (pe_bltn (v := .ty "str") (by rfl) B.str (by decide +kernel) rfl) pa_nil))))) (pw_or1 (pt_cmpR (op_notIn_kd C.dH) (pv 1) (pe_glob (v := .ref hd) rfl C.heads rfl) (by rfl)))))
  (pss_one (ps_ret pe_bl))
  pss_nil)
 (pss_cons (ps_set (i := 2) scisrow.nd rfl (Or.inl rfl) (pe_kitem C.dH (pe_glob (v := .ref hd) rfl C.heads rfl) (pv 1) (fun _ _ => rfl)))
 (pss_cons (ps_if (pt_cmpR op_ne (pe_callB call_len_seq (by rfl) B.len PySem.boot_len (pa_cons (pv 0) pa_nil)) (pe_op op_add (pe_op op_add pe_int (pe_callB call_len_seq (by rfl) B.len PySem.boot_len (pa_cons (pv 2) pa_nil))) (pe_call Gblockcount (hr.mono (by omega)) rfl Dblockcount.g Dblockcount.F.kp Dblockcount.b .nil pass0 (pa_cons (pv 1) pa_nil))) (nomark _))
  (pss_one (ps_ret pe_bl))
  pss_nil)
 (pss_cons (ps_if (pt_not (pt_val (pe_callB (cr_all rfl) (by rfl) B.all (by decide +kernel) (pa_cons (pe_lc (own := [("kind", 3), ("head", 4)]) (g := (gTup K 2 (gCons (gName 3) (gCons (gName 4) gNil)))) rfl scisrow.nd (pi_zipS (by rfl) B.zip (pa_cons (pv 2) (pa_cons (pe_slice sl_seq (pv 0) (po_some pe_int) po_none) pa_nil))) (blkOk_by (N := ["thing", "word", "heads", "kind", "head", "block"]) (sc := defScope sisrow) (by decide +kernel)) (fun _ _ _ _ _ => (pg_tup (by rfl) (pgs_cons (pg_name (i := 3) scisrow.nd rfl (Or.inl rfl)) (pgs_cons (pg_name (i := 4) scisrow.nd rfl (Or.inl rfl)) pgs_nil)))) (fun _ _ _ _ _ => pts_nil) (fun _ _ _ _ _ => (pe_call Gishead (hr.mono (by omega)) rfl Dishead.g Dishead.F.kp Dishead.b .nil pass0 (pa_cons (pv 3) (pa_cons (pv 4) pa_nil))))) pa_nil))))
  (pss_one (ps_ret pe_bl))
  pss_nil)
 (pss_one (ps_ret (pe_callB (cr_all rfl) (by rfl) B.all (by decide +kernel) (pa_cons (pe_lc (own := [("block", 5)]) rfl scisrow.nd (pi_seq (pe_call Gblocksof (hr.mono (by omega)) rfl Dblocksof.g Dblocksof.F.kp Dblocksof.b .nil pass0 (pa_cons (pv 0) pa_nil))) (blkOk_by (N := ["thing", "word", "heads", "kind", "head", "block"]) (sc := defScope sisrow) (by decide +kernel)) (fun _ _ _ _ _ => (pg_name (i := 5) scisrow.nd rfl (Or.inl rfl))) (fun _ _ _ _ _ => pts_nil) (fun _ _ _ _ _ => (pe_call Gislist (hr.mono (by omega)) rfl Dislist.g Dislist.F.kp Dislist.b .nil pass0 (pa_cons (pv 5) pa_nil)))) pa_nil)))))))))), ?_⟩
  obtain ⟨ah, hh, ht⟩ := C.hat x ks hx
  have hlen := hok.length
  refine ⟨_, rfl, X, _, v, rfl, hat, trivial, fun H1 k1 => ⟨_, rfl, ?_⟩⟩
  obtain ⟨p, vs, rfl, hpX, hp, hl⟩ := At.kp (k1.mono (Y := X) (by simp)) hat
  obtain ⟨v0, r, rfl, e0, hl2⟩ := id hl
  cases (show v0 = .str x from e0)
  have hX1 : Kn X H1 := hX.kp k1 .nil
  have lr := AtL.length hl2
  rw [List.length_append] at lr
  have l3 := headsOf_len hx
  refine ⟨_, rfl, p, _, rfl, hp.or, rfl, _, rfl, ?_⟩
  refine ite2 (fun z => absurd (V.int.inj (of_decide_eq_true z)) (by rw [List.length_cons]; omega)) (fun _ => ?_)
  -- word = thing[0]
  refine ⟨_, rfl, ix_seq2 hp at0 ?_⟩
  refine ⟨_, rfl, _, _, _, _, true, rfl, .ty _, .base (.str x), kit_ty (a := "str") (b := "str") (by decide +kernel), _, rfl, ?_⟩
  refine ⟨_, rfl, x, _, rfl, rfl, hh, _, rfl, ?_⟩
  -- heads = HEADS[word]
  refine ⟨_, rfl, x, _, .ref ah, rfl, rfl, hh, rfl, ?_⟩
  refine ⟨_, rfl, p, _, rfl, hp.or, _, rfl, ah, _, rfl, .inr (ht H1), _, _, rfl, rfl, _, rfl, x, ks, rfl, hx, _, _, rfl, rfl, rfl, _, rfl, ?_⟩
  refine iteNS (by
    rw [List.length_cons, List.length_map]
    have e : ((r.length + 1 : Nat) : Int) = 1 + (ks.length : Int) + (nblk x : Nat) := by omega
    rw [e]) ?_
  -- the heads
  refine ⟨_, rfl, _, rfl, _, rfl, slice_seq hp hX1 hpX fun r1 H2 hr1 hs1 k2 => ?_⟩
  rw [cut_from (i := 1) (k := 1) rfl (by rw [List.length_cons]; omega)] at hs1
  have hs1' : Sq H2 b r1 r := hs1
  have hX2 : Kn X H2 := hX1.kp k2 .nil
  refine ⟨true, ah, b, r1, _, _, rfl, ht H2, hs1'.b, fun D hD => ?_⟩
  have hDX : D ∉ X := hX2.out hD
  have lz : ks.length = min (ks.map fun k => V.str (kindStr k)).length r.length := by rw [List.length_map]; omega
  have hl2' : AtL X H2 (hs ++ bs) r := hl2.kp (k2.mono (by simp))
  refine lc_it (walkZ (xs := ks.map fun k => V.str (kindStr k)) (ys := r) lz) (fun i H' => H' D = some (.lst (List.replicate i (V.bl true))) ∧ Kp [] H2 H') ?_ ?_ ?_ ?_
  · exact ⟨upd_same, Kp.rfl'.new hD⟩
  · rintro i H' hi ⟨_, k'⟩
    exact ⟨ht H', (hs1'.kp k' (by simp)).b⟩
  · rintro i y H' H'' hi ⟨e1, k'⟩ ⟨T0, y1, y2, rfl, hT, rfl, g1, g2⟩
    obtain ⟨k, hk, rfl⟩ : ∃ k, ks[i]? = some k ∧ y1 = V.str (kindStr k) := by
      have g1 : (ks.map fun k => V.str (kindStr k))[i]? = some y1 := g1
      rw [List.getElem?_map] at g1
      cases e : ks[i]? with
      | none => rw [e] at g1; cases g1
      | some k => rw [e] at g1; exact ⟨k, rfl, (Option.some.inj g1).symm⟩
    have kT : Kp [] H2 (upd H' T0 (.tup [V.str (kindStr k), y2])) := k'.trans (Kp.rfl'.new hT)
    obtain ⟨t, htt, hta⟩ := AtL.get hl2' g2
    have hth : hs[i]? = some t := by
      rw [List.getElem?_append_left (by omega)] at htt
      exact htt
    obtain ⟨q1, q2⟩ := (hok.get hk hth).test
    have hDT : D ≠ T0 := fun z => by rw [← z, e1] at hT; cases hT
    refine ⟨T0, _, rfl, SqT.of upd_same, rfl, _, _, rfl, _, _, rfl, rfl, rfl, _, rfl, _, rfl, X, k, t, y2, rfl, hta.kp (kT.mono (by simp)), q2, fun H3 k3 => ?_⟩
    have hD3 : H3 D = some (.lst (List.replicate i (V.bl true))) := k3 _ _ (by rw [upd_ne hDT]; exact e1) (by simp)
    refine ⟨_, hD3, by rw [List.length_replicate]; exact Nat.lt_of_le_of_lt (m := 3) (by omega) (by decide), ?_, (kT.trans k3).new hD⟩
    rw [upd_same, q1, ← List.replicate_succ']
  · rintro H' ⟨e1, k'⟩
    have e1' : H' D = some (.lst ((List.replicate ks.length true).map V.bl)) := by rw [List.map_replicate]; exact e1
    refine ⟨D, _, rfl, SqL.of e1', _, rfl, ?_⟩
    rw [all_true]
    -- the blocks
    have hX' : Kn X H' := hX2.kp k' .nil
    have kk : Kp [] H H' := (k1.trans k2).trans k'
    refine ⟨_, rfl, X, b, x, ks, hs, bs, _, rfl, hat.kp (kk.mono (by simp)), hx, hlen, hX', fun v' H3 hb3 k3 => ?_⟩
    obtain ⟨p3, vs3, rfl, hp3X, hp3, hl3⟩ := hb3
    refine ⟨b, p3, vs3, rfl, hp3.b, fun D2 hD2 => ?_⟩
    have hlb := AtL.length hl3
    refine lc_it (walk_seq (xs := vs3)) (fun i H4 => H4 D2 = some (.lst (List.replicate i (V.bl true))) ∧ Kp [] H3 H4) ?_ ?_ ?_ ?_
    · exact ⟨upd_same, Kp.rfl'.new hD2⟩
    · rintro i H4 hi ⟨_, k4⟩
      exact (hp3.kp k4 (by simp)).b
    · rintro i y H4 H5 hi ⟨e4, k4⟩ ⟨rfl, hy⟩
      obtain ⟨t, htt, hta⟩ := AtL.get hl3 hy
      have hseq := hsq t (List.mem_of_getElem? htt)
      refine ⟨rfl, _, rfl, X, t, y, rfl, hta.kp (k4.mono (by simp)), trivial, fun H6 k6 => ?_⟩
      refine ⟨_, k6 _ _ e4 (by simp), by rw [List.length_replicate]; exact Nat.lt_of_le_of_lt (m := 3) (by omega) (by decide), ?_, (k4.trans k6).new hD2⟩
      rw [upd_same, hseq, ← List.replicate_succ']
    · rintro H4 ⟨e4, k4⟩
      have e4' : H4 D2 = some (.lst ((List.replicate vs3.length true).map V.bl)) := by rw [List.map_replicate]; exact e4
      refine ⟨D2, _, rfl, SqL.of e4', ?_⟩
      rw [all_true]
      exact q H4 ((kk.trans k3).trans k4)
end
end Fs

namespace Fs
open PySem L2
/-! rows taken: lists become tuples -/
def RB : Nat → Bool → T → Prop
  | 0 => fun _ _ => False
  | n + 1 => GRow n
theorem grow_rb : ∀ {n : Nat} {mk : Bool} {t : T}, GRow n mk t → GR (RB n) mk t
  | 0, _, _, h => h
  | _ + 1, _, _, h => h
theorem GR.row {R : Bool → T → Prop} {mk : Bool} {t : T} (h : GR R mk t) : ∃ b x ks hs bs, RowOk t b x ks hs bs ∧ (mk = true → x ≠ "make" ∧ x ≠ "call") ∧ ∀ y ∈ bs, GB R (mk || decide (x = "make")) y := by
  obtain ⟨b, x, ks, hs, bs, e, h1, h2, h3, h4, h5⟩ := h
  exact ⟨b, x, ks, hs, bs, ⟨e, h1, h2, h3, fun y hy => by obtain ⟨b', rs, e, _⟩ := h5 y hy; rw [e]; rfl⟩, h4, h5⟩
theorem nblk_le {x : Str} : nblk x ≤ 2 := by
  unfold nblk
  split
  · omega
  · split
    · omega
    · split <;> omega
theorem HeadsOk.tup : ∀ {ks : List Bool} {ts : List T}, HeadsOk ks ts → ts.map T.tupled = ts
  | [], _, h => by rw [h]; rfl
  | k :: ks, ts, h => by
    obtain ⟨t, r, rfl, a, l⟩ := h
    rw [List.map_cons, HeadsOk.tup l]
    cases k
    · obtain ⟨i, rfl, _⟩ := a
      rw [T.tupled]
      intro b u z; cases z
    · obtain ⟨i, rfl, _⟩ := a
      rw [T.tupled]
      intro b u z; cases z
/-- all of RB n, or none at all: what the rows of a block one deeper want -/
def spTaken (n : Nat) : Sp := fun vs H Q _ => ∃ (X : List Addr) (m : Str) (b mk : Bool) (rs : List T) (v : V) (px : Addr) (ns : List Int), vs = [.str m, v, .ref px, .bl mk] ∧ At X H (.seq b rs) v ∧ rs.length ≤ 8 ∧ (∀ r ∈ rs, RB n mk r) ∧ H px = some (.tup (ns.map V.int)) ∧ ns.length ≤ 100 - 2 * n ∧ n ≤ 20 ∧ Kn X H ∧
  ∀ (v' : V) (H' : Hp), At X H' (.seq true (rs.map T.tupled)) v' → Kp [] H H' → Q v' H'
/-- what a row's blocks ask: with no depth left nothing may be asked -/
def spTakenQ : Nat → Sp
  | 0 => fun _ _ _ _ => False
  | n + 1 => spTaken n
theorem catA_one {K : PySem.W.Frag} {H : Hp} {a t : Addr} {ns : List Int} {i : Int} {Q : VK} (h1 : H a = some (.tup (ns.map V.int))) (h2 : H t = some (.tup [.int i])) (hl : ns.length ≤ 100)
    (q : ∀ (r : Addr) (H' : Hp), H' r = some (.tup ((ns ++ [i]).map V.int)) → Kp [] H H' → Q (.ref r) H') : rCatA K (.ref a) (.ref t) H Q := by
  refine ⟨a, t, _, _, rfl, rfl, SqT.of h1, SqT.of h2, ltsz (by rw [List.length_map]; show ns.length + 1 ≤ 1000; omega), fun e => ?_, (fun _ z => nomatch z), fun _ _ p hp => ?_⟩
  · have e' : ns = [] := List.map_eq_nil_iff.mp e
    exact q t H (by rw [h2, e']; rfl) Kp.rfl'
  · exact q p _ (by rw [upd_same, List.map_append]; rfl) (Kp.rfl'.new hp)
section
variable {P : Program} {w : World} {K : PySem.W.Frag} {mg : Str → Option Value} {base : Heap} {f f1 f2 f3 f4 f5 f6 : Addr} {fd fd1 fd2 fd3 fd4 fd5 fd6 : FuncData}
variable {hd bd im ba : Addr} {eh eb : Array DictEntry} {nh nb : Nat} {t1 t2 : Tok}
theorem ok_taken {n k : Nat} (hk : 3 ≤ k) (Dtakenrows : Df K mg "taken_rows" stakenrows ["module", "rows", "prefix", "in_function"] f fd) (B : Bn mg) (C : Cs K w mg hd bd im ba eh eb nh nb t1 t2)
    (Disrow : Df K mg "is_row" sisrow ["thing"] f1 fd1) (Gisrow : FnOk P w K mg base CX0 3 f1 fd1 ["thing"] spIsRow)
    (Dblocksof : Df K mg "blocks_of" sblocksof ["row"] f4 fd4) (Gblocksof : FnOk P w K mg base CX0 1 f4 fd4 ["row"] spBlocksOf)
    (Gtakenrows : FnOk P w K mg base CX0 k f fd ["module", "rows", "prefix", "in_function"] (spTakenQ n)) : FnOk P w K mg base CX0 (k + 1) f fd ["module", "rows", "prefix", "in_function"] (spTaken n) := by
  refine Dtakenrows.F.ok sctakenrows (fun vs H Q E h => ?_) (fun cdv A outer s H vs Q E hr h => ?_)
  · obtain ⟨X, m, b, mk, rs, v, px, ns, rfl, _⟩ := h
    rfl
  obtain ⟨X, m, b, mk, rs, v, px, ns, rfl, ⟨p, vs, rfl, hpX, hp, hl⟩, hlen, hrs, hpx, hns, hn20, hX, q⟩ := h
  refine ⟨_, (pss_cons (ps_set (i := 4) sctakenrows.nd rfl (Or.inl rfl) (pe_lst pa_nil))
 (pss_cons (ps_for PassesOwn.never rfl (pi_enumS (by rfl) B.enumerate (pa_cons (pv 1) pa_nil)) (pg_tup (by rfl) (pgs_cons (pg_name (i := 5) sctakenrows.nd rfl (Or.inl rfl)) (pgs_cons (pg_name (i := 6) sctakenrows.nd rfl (Or.inl rfl)) pgs_nil)))
  (pss_cons (ps_set (i := 7) sctakenrows.nd rfl (Or.inr rfl) (pe_op op_catA (pv 2) (pe_tup (pa_cons (pv 5) pa_nil))))
 (Evl.pss_cut (ps_if (PW.pt (pw_or (pt_not (pt_val (pe_call Gisrow (hr.mono (by omega)) rfl Disrow.g Disrow.F.kp Disrow.b .nil pass0 (pa_cons (pv 6) pa_nil)))) (pw_or1 (PW.pt (pw_and (pt_val (pv 3)) (pw_and1 (pt_cmpR op_in_seq (pe_ix (ix_list.or ix_tup) (pv 6) pe_int (fun _ _ => rfl)) (pe_glob (v := .ref ba) rfl C.barred rfl) (by rfl))))))))
  (pss_one ps_never)
  pss_nil)
 (Evl.pss_cut (ps_set (i := 8) sctakenrows.nd rfl (Or.inr rfl) (pe_or (pv 3) (pe_one (pe_cmpR op_eq (pe_ix (ix_list.or ix_tup) (pv 6) pe_int (fun _ _ => rfl)) pe_str (nomark _)))))
 (pss_cons (ps_set (i := 9) sctakenrows.nd rfl (Or.inl rfl) (pe_call Gblocksof (hr.mono (by omega)) rfl Dblocksof.g Dblocksof.F.kp Dblocksof.b .nil pass0 (pa_cons (pv 6) pa_nil)))
 (pss_cons (ps_setLc (i := 12) (own := [("b", 10), ("block", 11)]) (g := (gTup K 2 (gCons (gName 10) (gCons (gName 11) gNil)))) (te := tCall (spTakenQ n) [] E0 (tCons (tVar 0) (tCons (tVar 11) (tCons (tOp (rCatA K) (tVar 7) (tTup (tCons (tVar 10) tNil))) (tCons (tVar 8) tNil))))) rfl sctakenrows.nd rfl rfl (sw_true rfl rfl rfl (by decide +kernel)) (pi_enumS (by rfl) B.enumerate (pa_cons (pv 9) pa_nil)) (blkOk_by (N := ["module", "rows", "prefix", "in_function", "taken", "at", "row", "path", "within", "blocks", "b", "block", "inner", "heads"]) (sc := defScope stakenrows) (by decide +kernel)) (fun _ _ _ _ _ => (pg_tup (by rfl) (pgs_cons (pg_name (i := 10) sctakenrows.nd rfl (Or.inl rfl)) (pgs_cons (pg_name (i := 11) sctakenrows.nd rfl (Or.inl rfl)) pgs_nil)))) (fun _ _ _ _ _ => pts_nil) (fun _ _ _ _ _ => (pe_call Gtakenrows (hr.mono (by omega)) rfl Dtakenrows.g Dtakenrows.F.kp Dtakenrows.b .nil pass0 (pa_cons (pv 0) (pa_cons (pv 11) (pa_cons (pe_op op_catA (pv 7) (pe_tup (pa_cons (pv 10) pa_nil))) (pa_cons (pv 8) pa_nil)))))))
 (pss_cons (ps_set (i := 13) sctakenrows.nd rfl (Or.inl rfl) (pe_slice sl_seq (pv 6) po_none (po_some (pe_op op_sub (pe_callB call_len_seq (by rfl) B.len PySem.boot_len (pa_cons (pv 6) pa_nil)) (pe_callB call_len_seq (by rfl) B.len PySem.boot_len (pa_cons (pv 9) pa_nil))))))
 (pss_one (ps_expr (pe_bm PySem.F.plainAttrs_list PySem.F.slot_list_append PySem.F.type_list_append mt_append (pv 4) (pa_cons (pe_tup (StX.pa_star (pv 13) (StX.pa_star (pv 12) pa_nil))) pa_nil)))))))))))
 (pss_one (ps_ret (pe_callTy call_tuple_of (by rfl) B.tuple (by decide +kernel) (pa_cons (pv 4) pa_nil)))))), ?_⟩
  have hvl := AtL.length hl
  refine ⟨(by show 0 ≤ sizeLine; exact ltsz (by decide)), fun Tk hTk => ?_⟩
  have hTX : Tk ∉ X := hX.out hTk
  have kT : ∀ o, Kp [] H (upd H Tk o) := fun o => Kp.rfl'.new hTk
  refine ⟨_, rfl, b, p, vs, rfl, (hp.kp (kT _) (by simp)).b, for_it (walkE (xs := vs)) (fun i σ H' => ∃ (ts : List V) (o5 o6 o7 o8 o9 o10 o11 o12 o13 : Option V), σ = [some (.str m), some (.ref p), some (.ref px), some (.bl mk), some (.ref Tk), o5, o6, o7, o8, o9, o10, o11, o12, o13] ∧
    H' Tk = some (.lst ts) ∧ AtL (Tk :: X) H' ((rs.take i).map T.tupled) ts ∧ Kp [] H H') ?_ ?_ ?_ ?_⟩
  · exact ⟨[], _, _, _, _, _, _, _, _, _, rfl, upd_same, rfl, kT _⟩
  · rintro i σ H' hi ⟨ts, o5, o6, o7, o8, o9, o10, o11, o12, o13, rfl, e1, e2, k1⟩
    exact (hp.kp k1 (by simp)).b
  · rintro i y σ H0 H'' hi ⟨ts, o5, o6, o7, o8, o9, o10, o11, o12, o13, rfl, e1, e2, k1⟩ ⟨T0, y1, y2, rfl, hT, rfl, g1, g2⟩
    cases g1
    obtain ⟨t, ht, hta⟩ := AtL.get hl g2
    have htm : t ∈ rs := List.mem_of_getElem? ht
    cases n with
    | zero => exact (hrs t htm).elim
    | succ n =>
    have hgr := grow_rb (hrs t htm)
    obtain ⟨b1, x, ks, hs, bs, R, hmk, hbs⟩ := hgr.row
    have hTT : Tk ≠ T0 := fun z => by rw [← z, e1] at hT; cases hT
    have k2 : ∀ o, Kp [] H (upd H0 T0 o) := fun o => k1.trans (Kp.rfl'.new hT)
    refine ⟨T0, _, rfl, SqT.of upd_same, rfl, _, _, rfl, _, _, rfl, rfl, ?_⟩
    have hX1 : Kn (Tk :: X) (upd H0 T0 (.tup [.int (i : Nat), y2])) := .cons (by rw [upd_ne hTT]; exact e1) (hX.kp (k2 _) .nil)
    refine ⟨_, rfl, _, rfl, (by show 1 ≤ sizeLine; exact ltsz (by decide)), fun tp htp => catA_one (i := (i : Nat)) ((k2 _).trans (Kp.rfl'.new htp) _ _ hpx (by simp)) upd_same (by omega) fun pa H2 hpa k3 => ?_⟩
    have k4 : Kp [] (upd H0 T0 (.tup [.int (i : Nat), y2])) H2 := (Kp.rfl'.new htp).trans k3
    have hX2 : Kn (Tk :: X) H2 := hX1.kp k4 .nil
    have ta2 : At (Tk :: X) H2 t y2 := ((hta.more hTk).kp ((k2 _).mono (by simp))).kp (k4.mono (by simp))
    have hTk1 : (upd H0 T0 (.tup [.int (i : Nat), y2])) Tk = some (.lst ts) := by rw [upd_ne hTT]; exact e1
    have e2' : AtL (Tk :: X) (upd H0 T0 (.tup [.int (i : Nat), y2])) ((rs.take i).map T.tupled) ts := e2.kp ((Kp.rfl'.new hT : Kp [] H0 _).mono (by simp))
    have k2' := k2 (.tup [.int (i : Nat), y2])
    obtain ⟨hteq, hx, hok, hnb, hsq⟩ := id R
    subst hteq
    obtain ⟨pr, vr, rfl, hprX, hpr, hlr⟩ := id ta2
    obtain ⟨v0, r, rfl, e0, hl2⟩ := id hlr
    cases (show v0 = .str x from e0)
    refine ⟨fun σ4 H4 => σ4 = [some (.str m), some (.ref p), some (.ref px), some (.bl mk), some (.ref Tk), some (.int (i : Nat)), some (.ref pr), some (.ref pa), o8, o9, o10, o11, o12, o13] ∧ Kp [] H2 H4, ?_, ?_⟩
    · refine ⟨_, rfl, Tk :: X, _, .ref pr, b1, x, ks, hs, bs, rfl, ta2, R, hX2, fun H3 k5 => ⟨_, rfl, ?_⟩⟩
      refine ite2 (fun z => nomatch z) (fun _ => ⟨_, rfl, _, rfl, ?_⟩)
      refine ite2 (fun hm => ?_) (fun hm => ?_)
      · refine ⟨_, rfl, ix_seq2 (hpr.kp k5 (by simp)) at0 ⟨ba, _, rfl, .inr (C.bar H3), rfl, rfl, _, rfl, ?_⟩⟩
        have hnx := hmk hm
        refine ite2 (fun z => ?_) (fun _ => ⟨rfl, k5⟩)
        have z' : inV (.str x) ((["make", "call"] : List Str).map V.str) = true := z
        rw [inV_mem] at z'
        simp at z'
        exact (z'.elim hnx.1 hnx.2).elim
      · exact ⟨rfl, k5⟩
    rintro σ4 H4 ⟨rfl, k5⟩
    have kk4 : Kp [] H H4 := ((k2 _).trans k4).trans k5
    refine ⟨fun σ5 H5 => σ5 = [some (.str m), some (.ref p), some (.ref px), some (.bl mk), some (.ref Tk), some (.int (i : Nat)), some (.ref pr), some (.ref pa), some (.bl (mk || decide (x = "make"))), o9, o10, o11, o12, o13] ∧ H5 = H4, ?_, ?_⟩
    · refine ⟨_, rfl, _, rfl, ite2 (fun hm => ?_) (fun hm => ?_)⟩
      · rw [hm]
        exact ⟨rfl, rfl⟩
      · refine ⟨_, rfl, ix_seq2 (hpr.kp k5 (by simp)) at0 ⟨rfl, ?_⟩⟩
        have e : decide (V.str x = V.str "make") = (mk || decide (x = "make")) := by
          rw [Bool.not_eq_true] at hm
          rw [hm, Bool.false_or, Bool.eq_iff_iff]
          simp
        rw [e]
        exact ⟨rfl, rfl⟩
    rintro σ5 H5 ⟨rfl, rfl⟩
    have lr := AtL.length hl2
    rw [List.length_append] at lr
    have hX4 : Kn (Tk :: X) H5 := hX2.kp k5 .nil
    refine ⟨_, rfl, Tk :: X, b1, x, ks, hs, bs, _, rfl, ta2.kp (k5.mono (by simp)), hx, hok.length, hX4, fun v' H6 hb6 k6 => ?_⟩
    obtain ⟨pb, vb, rfl, hpbX, hpb, hlb⟩ := hb6
    have hX6 : Kn (Tk :: X) H6 := hX4.kp k6 .nil
    have hpa6 : H6 pa = some (.tup ((ns ++ [(i : Int)]).map V.int)) := k6 _ _ (k5 _ _ hpa (by simp)) (by simp)
    have lb := AtL.length hlb
    have hnbl : nblk x ≤ 2 := nblk_le
    refine ⟨_, rfl, b1, pb, vb, rfl, hpb.b, fun D hD => ?_⟩
    have hDX : D ∉ Tk :: X := hX6.out hD
    refine lc_it (walkE (xs := vb)) (fun j H' => ∃ us, H' D = some (.lst us) ∧ AtL (D :: Tk :: X) H' ((bs.take j).map T.tupled) us ∧ Kp [] H6 H') ?_ ?_ ?_ ?_
    · exact ⟨[], upd_same, rfl, Kp.rfl'.new hD⟩
    · rintro j H' hj ⟨us, f1, f2, k7⟩
      exact (hpb.kp k7 (by simp)).b
    · rintro j y H' H'' hj ⟨us, f1, f2, k7⟩ ⟨T1, z1, z2, rfl, hT1, rfl, g1, g2⟩
      cases g1
      obtain ⟨t2, ht2, hta2⟩ := AtL.get hlb g2
      have kT1 : Kp [] H6 (upd H' T1 (.tup [.int (j : Nat), z2])) := k7.trans (Kp.rfl'.new hT1)
      have hDT : D ≠ T1 := fun z => by rw [← z, f1] at hT1; cases hT1
      have hXD : Kn (D :: Tk :: X) (upd H' T1 (.tup [.int (j : Nat), z2])) := .cons (by rw [upd_ne hDT]; exact f1) (hX6.kp kT1 .nil)
      obtain ⟨b2, rs2, rfl, hl8, hrs2⟩ := hbs t2 (List.mem_of_getElem? ht2)
      refine ⟨T1, _, rfl, SqT.of upd_same, rfl, _, _, rfl, _, _, rfl, rfl, rfl, ?_⟩
      refine ⟨_, rfl, _, rfl, _, rfl, _, rfl, (by show 1 ≤ sizeLine; exact ltsz (by decide)), fun tp2 htp2 => catA_one (ns := ns ++ [(i : Int)]) (i := (j : Nat)) ((kT1.trans (Kp.rfl'.new htp2)) _ _ hpa6 (by simp)) upd_same (by rw [List.length_append]; show ns.length + 1 ≤ 100; omega) fun pa2 H7 hpa2 k8 => ?_⟩
      have k9 : Kp [] (upd H' T1 (.tup [.int (j : Nat), z2])) H7 := (Kp.rfl'.new htp2).trans k8
      refine ⟨_, rfl, D :: Tk :: X, m, b2, (mk || decide (x = "make")), rs2, z2, pa2, ns ++ [(i : Int)] ++ [(j : Int)], rfl, ((hta2.more hD).kp (kT1.mono (by simp))).kp (k9.mono (by simp)), hl8, hrs2, hpa2, by simp only [List.length_append, List.length_cons, List.length_nil]; omega, by omega, hXD.kp k9 .nil, fun v' H8 hv8 k10 => ?_⟩
      have hD8 : H8 D = some (.lst us) := k10 _ _ (k9 _ _ (by rw [upd_ne hDT]; exact f1) (by simp)) (by simp)
      have kk8 : Kp [] H' H8 := ((Kp.rfl'.new hT1).trans k9).trans k10
      refine ⟨us, hD8, by have := AtL.length f2; rw [List.length_map, List.length_take] at this; exact Nat.lt_of_le_of_lt (m := 3) (by omega) (by decide), us ++ [v'], upd_same, ?_, (k7.trans kk8).new hD⟩
      rw [List.take_add_one, ht2, List.map_append]
      exact AtL.kp (Kp.rfl'.at (by simp)) ((f2.kp (kk8.mono (by simp))).snoc (by rw [T.tupled]; exact hv8))
    · rintro H' ⟨us, f1, f2, k7⟩
      have kk7 : Kp [] H5 H' := k6.trans k7
      have hpr7 : Sq H' b1 pr (.str x :: r) := (hpr.kp k5 (by simp)).kp kk7 (by simp)
      have hpb7 : Sq H' b1 pb vb := hpb.kp k7 (by simp)
      have hX7 : Kn (D :: Tk :: X) H' := .cons f1 (hX6.kp k7 .nil)
      have hprD : pr ∉ D :: Tk :: X := fun z => (List.mem_cons.mp z).elim (fun e => rd_none (hpr.kp (k5.trans k6) (by simp)) (e ▸ hD)) hprX
      refine ⟨_, rfl, _, rfl, pr, _, rfl, hpr7.or, _, rfl, pb, _, rfl, hpb7.or, _, _, rfl, rfl, _, rfl, slice_seq hpr7 hX7 hprD fun ph H8 hphX hph k8 => ?_⟩
      have hlx : hs.length = ks.length := hok.length
      rw [cut_to (k := 1 + hs.length) (by rw [List.length_cons]; omega) (by rw [List.length_cons]; omega)] at hph
      have hph' : Sq H8 b1 ph (.str x :: r.take hs.length) := by rw [Nat.add_comm] at hph; exact hph
      have k48 : Kp [] (upd H0 T0 (.tup [.int (i : Nat), .ref pr])) H8 := ((k4.trans k5).trans kk7).trans k8
      have hTk8 : H8 Tk = some (.lst ts) := k48 _ _ hTk1 (by simp)
      have hD8 : H8 D = some (.lst us) := k8 _ _ f1 (by simp)
      have l3 := headsOf_len hx
      have lus : us.length = nblk x := by rw [f2.length, List.length_map, List.length_take, lb, Nat.min_self, hnb]
      refine ⟨_, rfl, .inl ⟨rfl, _, SqL.of hTk8⟩, _, rfl, ph, _, rfl, hph'.or.symm, _, rfl, D, _, rfl, .inr (SqL.of hD8), ltsz (by simp only [List.length_append, List.length_cons, List.length_nil, List.length_take]; omega), fun pt hpt => ?_⟩
      have hptT : pt ≠ Tk := fun z => by rw [z, hTk8] at hpt; cases hpt
      have hlts : ts.length = min i rs.length := by rw [e2'.length, List.length_map, List.length_take]
      refine ⟨Tk, _, _, rfl, rfl, by rw [upd_ne hptT.symm]; exact hTk8, Nat.lt_of_le_of_lt (m := 8) (by omega) (by decide), ts ++ [.ref pt], _, _, _, _, _, _, _, _, _, rfl, upd_same, ?_, ?_⟩
      · rw [List.take_add_one, ht, List.map_append]
        refine AtL.kp (Kp.rfl'.at (by simp)) ((e2'.kp ((k48.new (k48.free hpt (by simp))).mono (by simp))).snoc ?_)
        show At _ _ (T.tupled (.seq b1 (.str x :: (hs ++ bs)))) _
        rw [T.tupled, List.map_cons, List.map_append, hok.tup, show T.tupled (.str x) = .str x by rw [T.tupled]; intro b u z; cases z]
        have kpt : ∀ o, Kp (Tk :: X) H8 (upd H8 pt o) := fun o => ((Kp.rfl' : Kp [] H8 H8).new hpt).mono (by simp)
        refine ⟨pt, _, rfl, ?_, Sq.newT, .str x, _, rfl, rfl, ?_⟩
        · intro z
          exact (hX7.kp k8 .nil) pt (List.mem_cons_of_mem _ z) hpt
        · rw [List.append_nil]
          refine AtL.append (AtL.kp (kpt _) ?_) (AtL.kp (kpt _) ?_)
          · have := (hl2.take hs.length).kp ((((k5.trans kk7).trans k8)).mono (by simp) : Kp (Tk :: X) _ _)
            rwa [List.take_left] at this
          · have := (f2.kp (k8.mono (by simp))).less (X := Tk :: X) (fun z hz => List.mem_cons_of_mem _ hz)
            rwa [lb, List.take_length] at this
      · exact (((k2'.trans k48)).new ((k2'.trans k48).free hpt (by simp))).new hTk
  · rintro σ H' ⟨ts, o5, o6, o7, o8, o9, o10, o11, o12, o13, rfl, e1, e2, k1⟩
    have e2' := e2
    rw [hvl, List.take_length] at e2'
    refine ⟨_, rfl, Tk, _, rfl, .inl ⟨SqL.of e1, fun pl hpl => q (.ref pl) _ ?_ (k1.new (k1.free hpl (by simp)))⟩⟩
    exact ⟨pl, ts, rfl, hX.out (k1.free hpl (by simp)), Sq.newT, AtL.kp ((Kp.rfl' : Kp [] H' H').new hpl |>.mono (by simp)) (e2'.less fun z hz => List.mem_cons_of_mem _ hz)⟩
end
end Fs

namespace Fs
open PySem L2
/-! the walk of all rows -/
def blks : T → List T
  | .seq _ (.str x :: rest) => rest.drop ((headsOf x).getD []).length
  | _ => []
def pathT (ns : List Int) : T := .seq true (ns.map .int)
def pairT (q : List Int × T) : T := .seq true [pathT q.1, q.2]
def walkP : Nat → List Int → List T → List (List Int × T)
  | 0, _, _ => []
  | n + 1, ns, rs => rs.zipIdx.flatMap fun q => (ns ++ [(q.2 : Int)], q.1) :: (blks q.1).zipIdx.flatMap fun u => walkP n (ns ++ [(q.2 : Int)] ++ [(u.2 : Int)]) u.1.kids
def gP (n : Nat) (ns : List Int) (u : T × Nat) : List (List Int × T) := walkP n (ns ++ [(u.2 : Int)]) u.1.kids
def oneP (n : Nat) (ns : List Int) (q : T × Nat) : List (List Int × T) := (ns ++ [(q.2 : Int)], q.1) :: (blks q.1).zipIdx.flatMap (gP n (ns ++ [(q.2 : Int)]))
theorem walkP_succ {n : Nat} {ns : List Int} {rs : List T} : walkP (n + 1) ns rs = rs.zipIdx.flatMap (oneP n ns) := rfl
theorem flat_next {α β : Type} {xs : List α} {i : Nat} {x : α} {g : α × Nat → List β} (h : xs[i]? = some x) : (xs.zipIdx.take (i + 1)).flatMap g = (xs.zipIdx.take i).flatMap g ++ g (x, i) := by
  rw [List.take_add_one, List.getElem?_zipIdx, h, List.flatMap_append]
  simp
theorem flat_all {α β : Type} {xs : List α} {g : α × Nat → List β} : (xs.zipIdx.take xs.length).flatMap g = xs.zipIdx.flatMap g := by
  rw [List.take_of_length_le (by simp)]
theorem RowOk.blks {t : T} {b : Bool} {x : Str} {ks : List Bool} {hs bs : List T} (R : RowOk t b x ks hs bs) : blks t = bs := by
  rw [R.eq]
  show (hs ++ bs).drop ((headsOf x).getD []).length = bs
  rw [R.hk, Option.getD_some, ← R.ok.length, List.drop_left]
def cW : Nat → Nat
  | 0 => 0
  | n + 1 => 8 * (1 + 2 * cW n)
theorem flat_len {α β : Type} {g : α × Nat → List β} {c : Nat} : ∀ (xs : List (α × Nat)) (h : ∀ q ∈ xs, (g q).length ≤ c), (xs.flatMap g).length ≤ xs.length * c
  | [], _ => by simp
  | x :: xs, h => by
    rw [List.flatMap_cons, List.length_append, List.length_cons, Nat.add_mul, Nat.one_mul, Nat.add_comm]
    exact Nat.add_le_add (flat_len xs fun q hq => h q (List.mem_cons_of_mem _ hq)) (h x (List.mem_cons_self ..))
theorem mem_zip {α : Type} {xs : List α} {q : α × Nat} (h : q ∈ xs.zipIdx) : q.1 ∈ xs := by
  obtain ⟨a, i⟩ := q
  exact List.mem_of_getElem? (List.mem_zipIdx_iff_getElem?.mp h)
theorem walk_len : ∀ {n : Nat} {mk : Bool} {ns : List Int} {rs : List T}, rs.length ≤ 8 → (∀ r ∈ rs, RB n mk r) → (walkP n ns rs).length ≤ cW n ∧ ∀ q ∈ rs.zipIdx, ∀ m, n = m + 1 → (oneP m ns q).length ≤ 1 + 2 * cW m
  | 0, mk, ns, rs, _, _ => ⟨Nat.le_refl 0, fun _ _ m e => nomatch e⟩
  | n + 1, mk, ns, rs, hl, hr => by
    have one : ∀ q ∈ rs.zipIdx, (oneP n ns q).length ≤ 1 + 2 * cW n := by
      intro q hq
      obtain ⟨b1, x, ks, hs, bs, R, hmk, hbs⟩ := (grow_rb (hr q.1 (mem_zip hq))).row
      unfold oneP
      rw [List.length_cons, R.blks, Nat.add_comm]
      refine Nat.add_le_add_left (Nat.le_trans (flat_len (c := cW n) _ fun u hu => ?_) (Nat.mul_le_mul_right _ ?_)) 1
      · obtain ⟨b2, rs2, e, hl2, hr2⟩ := hbs u.1 (mem_zip hu)
        unfold gP
        rw [e]
        exact (walk_len hl2 hr2).1
      · rw [List.length_zipIdx, R.nb]
        exact nblk_le
    refine ⟨?_, fun q hq m e => by cases e; exact one q hq⟩
    rw [walkP_succ]
    refine Nat.le_trans (flat_len (c := 1 + 2 * cW n) _ one) (Nat.mul_le_mul_right _ ?_)
    rw [List.length_zipIdx]
    exact hl
theorem cW_le {n : Nat} (h : n ≤ 4) : cW n ≤ 34952 := by
  have : n = 0 ∨ n = 1 ∨ n = 2 ∨ n = 3 ∨ n = 4 := by omega
  rcases this with e | e | e | e | e <;> (rw [e]; decide)
theorem catA_new {K : PySem.W.Frag} {H : Hp} {X : List Addr} {a t : Addr} {ns : List Int} {i : Int} {Q : VK} (h1 : H a = some (.tup (ns.map V.int))) (h2 : H t = some (.tup [.int i])) (hl : ns.length ≤ 100) (hX : Kn X H) (ht : t ∉ X)
    (q : ∀ (r : Addr) (H' : Hp), r ∉ X → H' r = some (.tup ((ns ++ [i]).map V.int)) → Kp [] H H' → Q (.ref r) H') : rCatA K (.ref a) (.ref t) H Q := by
  refine ⟨a, t, _, _, rfl, rfl, SqT.of h1, SqT.of h2, ltsz (by rw [List.length_map]; show ns.length + 1 ≤ 1000; omega), fun e => ?_, (fun _ z => nomatch z), fun _ _ p hp => ?_⟩
  · have e' : ns = [] := List.map_eq_nil_iff.mp e
    exact q t H ht (by rw [h2, e']; rfl) Kp.rfl'
  · exact q p _ (hX.out hp) (by rw [upd_same, List.map_append]; rfl) (Kp.rfl'.new hp)
theorem atL_ints {X : List Addr} {H : Hp} : ∀ {ns : List Int}, AtL X H (ns.map T.int) (ns.map V.int)
  | [] => rfl
  | _ :: _ => ⟨_, _, rfl, rfl, atL_ints⟩
theorem at_pair {X : List Addr} {H : Hp} {p pa : Addr} {ns : List Int} {t : T} {v : V} (hp : p ∉ X) (h : H p = some (.tup [.ref pa, v])) (ha : pa ∉ X) (hpa : H pa = some (.tup (ns.map V.int))) (hv : At X H t v) : At X H (pairT (ns, t)) (.ref p) :=
  ⟨p, _, rfl, hp, .inl h, .ref pa, [v], rfl, ⟨pa, _, rfl, ha, .inl hpa, atL_ints⟩, .one hv⟩
def spWalk (n : Nat) : Sp := fun vs H Q _ => ∃ (X : List Addr) (b mk : Bool) (rs : List T) (v : V) (px : Addr) (ns : List Int), vs = [v, .ref px] ∧ At X H (.seq b rs) v ∧ rs.length ≤ 8 ∧ (∀ r ∈ rs, RB n mk r) ∧ H px = some (.tup (ns.map V.int)) ∧ ns.length ≤ 100 - 2 * n ∧ n ≤ 4 ∧ px ∉ X ∧ Kn X H ∧
  ∀ (p : Addr) (ws : List V) (H' : Hp), p ∉ X → H' p = some (.lst ws) → AtL X H' ((walkP n ns rs).map pairT) ws → Kp [] H H' → Q (.ref p) H'
def spWalkQ : Nat → Sp
  | 0 => fun _ _ _ _ => False
  | n + 1 => spWalk n
section
variable {P : Program} {w : World} {K : PySem.W.Frag} {mg : Str → Option Value} {base : Heap} {f f1 f2 f3 f4 f5 f6 : Addr} {fd fd1 fd2 fd3 fd4 fd5 fd6 : FuncData}
theorem ok_walk {n k : Nat} (hk : 1 ≤ k) (D : Df K mg "rows_by_path" srowsbypath ["rows", "prefix"] f fd) (B : Bn mg)
    (Dblocksof : Df K mg "blocks_of" sblocksof ["row"] f4 fd4) (Gblocksof : FnOk P w K mg base CX0 1 f4 fd4 ["row"] spBlocksOf)
    (Growsbypath : FnOk P w K mg base CX0 k f fd ["rows", "prefix"] (spWalkQ n)) : FnOk P w K mg base CX0 (k + 1) f fd ["rows", "prefix"] (spWalk n) := by
  have Drowsbypath := D
  refine D.F.ok scrowsbypath (fun vs H Q E h => ?_) (fun cdv A outer s H vs Q E hr h => ?_)
  · obtain ⟨X, b, mk, rs, v, px, ns, rfl, _⟩ := h
    rfl
  obtain ⟨X, b, mk, rs, v, px, ns, rfl, ⟨p, vs, rfl, hpX, hp, hl⟩, hlen, hrs, hpx, hns, hn4, hpxX, hX, q⟩ := h
  refine ⟨_, (pss_cons (ps_set (i := 2) scrowsbypath.nd rfl (Or.inl rfl) (pe_lst pa_nil))
 (pss_cons (ps_for PassesOwn.never rfl (pi_enumS (by rfl) B.enumerate (pa_cons (pv 0) pa_nil)) (pg_tup (by rfl) (pgs_cons (pg_name (i := 3) scrowsbypath.nd rfl (Or.inl rfl)) (pgs_cons (pg_name (i := 4) scrowsbypath.nd rfl (Or.inl rfl)) pgs_nil)))
  (pss_cons (ps_set (i := 5) scrowsbypath.nd rfl (Or.inl rfl) (pe_op op_catA (pv 1) (pe_tup (pa_cons (pv 3) pa_nil))))
 (pss_cons (ps_expr (pe_bm PySem.F.plainAttrs_list PySem.F.slot_list_append PySem.F.type_list_append mt_append (pv 2) (pa_cons (pe_tup (pa_cons (pv 5) (pa_cons (pv 4) pa_nil))) pa_nil)))
 (pss_one (ps_for PassesOwn.never rfl (pi_enumS (by rfl) B.enumerate (pa_cons (pe_call Gblocksof (hr.mono (by omega)) rfl Dblocksof.g Dblocksof.F.kp Dblocksof.b .nil pass0 (pa_cons (pv 4) pa_nil)) pa_nil)) (pg_tup (by rfl) (pgs_cons (pg_name (i := 6) scrowsbypath.nd rfl (Or.inl rfl)) (pgs_cons (pg_name (i := 7) scrowsbypath.nd rfl (Or.inl rfl)) pgs_nil)))
  (pss_one (ps_expr (pe_bm PySem.F.plainAttrs_list PySem.F.slot_list_extend PySem.F.type_list_extend mt_extend (pv 2) (pa_cons (pe_call Growsbypath (hr.mono (by omega)) rfl Drowsbypath.g Drowsbypath.F.kp Drowsbypath.b .nil pass0 (pa_cons (pv 7) (pa_cons (pe_op op_catA (pv 5) (pe_tup (pa_cons (pv 6) pa_nil))) pa_nil))) pa_nil)))))))))
 (pss_one (ps_ret (pv 2))))), ?_⟩
  have hvl := AtL.length hl
  refine ⟨(by show 0 ≤ sizeLine; exact ltsz (by decide)), fun Tk hTk => ?_⟩
  have hTX : Tk ∉ X := hX.out hTk
  have kT : ∀ o, Kp [] H (upd H Tk o) := fun o => Kp.rfl'.new hTk
  refine ⟨_, rfl, b, p, vs, rfl, (hp.kp (kT _) (by simp)).b, for_it (walkE (xs := vs)) (fun i σ H' => ∃ (ts : List V) (o3 o4 o5 o6 o7 : Option V), σ = [some (.ref p), some (.ref px), some (.ref Tk), o3, o4, o5, o6, o7] ∧
    H' Tk = some (.lst ts) ∧ AtL (Tk :: X) H' (((rs.zipIdx.take i).flatMap (oneP (n - 1) ns)).map pairT) ts ∧ Kp [] H H') ?_ ?_ ?_ ?_⟩
  · exact ⟨[], _, _, _, _, _, rfl, upd_same, rfl, kT _⟩
  · rintro i σ H' hi ⟨ts, o3, o4, o5, o6, o7, rfl, e1, e2, k1⟩
    exact (hp.kp k1 (by simp)).b
  · rintro i y σ H0 H'' hi ⟨ts, o3, o4, o5, o6, o7, rfl, e1, e2, k1⟩ ⟨T0, y1, y2, rfl, hT, rfl, g1, g2⟩
    cases g1
    obtain ⟨t, ht, hta⟩ := AtL.get hl g2
    have htm : t ∈ rs := List.mem_of_getElem? ht
    cases n with
    | zero => exact (hrs t htm).elim
    | succ n =>
    obtain ⟨b1, x, ks, hs, bs, R, hmk, hbs⟩ := (grow_rb (hrs t htm)).row
    have hTT : Tk ≠ T0 := fun z => by rw [← z, e1] at hT; cases hT
    have k2 : Kp [] H (upd H0 T0 (.tup [.int (i : Nat), y2])) := k1.trans (Kp.rfl'.new hT)
    have hX1 : Kn (Tk :: X) (upd H0 T0 (.tup [.int (i : Nat), y2])) := .cons (by rw [upd_ne hTT]; exact e1) (hX.kp k2 .nil)
    have hTk1 : (upd H0 T0 (.tup [.int (i : Nat), y2])) Tk = some (.lst ts) := by rw [upd_ne hTT]; exact e1
    have e2' : AtL (Tk :: X) (upd H0 T0 (.tup [.int (i : Nat), y2])) (((rs.zipIdx.take i).flatMap (oneP n ns)).map pairT) ts := e2.kp ((Kp.rfl'.new hT : Kp [] H0 _).mono (by simp))
    have ta1 : At (Tk :: X) (upd H0 T0 (.tup [.int (i : Nat), y2])) t y2 := (hta.more hTk).kp (k2.mono (by simp))
    generalize hH1 : upd H0 T0 (.tup [.int (i : Nat), y2]) = H1 at *
    refine ⟨T0, _, rfl, SqT.of (hH1 ▸ upd_same), rfl, _, _, rfl, _, _, rfl, rfl, ?_⟩
    refine ⟨_, rfl, _, rfl, (by show 1 ≤ sizeLine; exact ltsz (by decide)), fun tp htp => catA_new (X := Tk :: X) (i := (i : Nat)) ((k2.trans (Kp.rfl'.new htp)) _ _ hpx (by simp)) upd_same (by omega) hX1.upd (hX1.out htp) fun pa H2 hpaX hpa k3 => ?_⟩
    have k4 : Kp [] H1 H2 := (Kp.rfl'.new htp).trans k3
    have hX2 : Kn (Tk :: X) H2 := hX1.kp k4 .nil
    have hTk2 : H2 Tk = some (.lst ts) := k4 _ _ hTk1 (by simp)
    refine ⟨_, rfl, .inl ⟨rfl, _, SqL.of hTk2⟩, _, rfl, _, rfl, (by show 2 ≤ sizeLine; exact ltsz (by decide)), fun pq hpq => ?_⟩
    have hpqT : pq ≠ Tk := fun z => by rw [z, hTk2] at hpq; cases hpq
    have lts : ts.length ≤ 8 * (1 + 2 * cW n) := by
      rw [e2'.length, List.length_map]
      refine Nat.le_trans (flat_len (c := 1 + 2 * cW n) _ fun q hq => (walk_len hlen hrs).2 q (List.mem_of_mem_take hq) n rfl) (Nat.mul_le_mul_right _ ?_)
      rw [List.length_take, List.length_zipIdx]
      omega
    have cw3 : cW n ≤ 34952 := cW_le (by omega)
    have cs : ∀ m : Nat, m ≤ 1000000 → m < sizeLine := fun m h => Nat.lt_of_le_of_lt h (by decide)
    refine ⟨Tk, _, _, rfl, rfl, by rw [upd_ne hpqT.symm]; exact hTk2, cs _ (by omega), ?_⟩
    have kq : ∀ o, Kp [] H1 (upd H2 pq o) := fun o => k4.trans (Kp.rfl'.new hpq)
    have hlq : AtL (Tk :: X) (upd H2 pq (.tup [.ref pa, y2])) ((((rs.zipIdx.take i).flatMap (oneP n ns)) ++ [(ns ++ [(i : Int)], t)]).map pairT) (ts ++ [.ref pq]) := by
      rw [List.map_append]
      refine (e2'.kp ((kq _).mono (by simp))).snoc ?_
      refine at_pair (fun z => hX2 pq z hpq) upd_same hpaX ?_ (ta1.kp ((kq _).mono (by simp)))
      exact ((Kp.rfl' : Kp [] H2 H2).new hpq) _ _ hpa (by simp)
    have hlq' : AtL (Tk :: X) (upd (upd H2 pq (.tup [.ref pa, y2])) Tk (.lst (ts ++ [.ref pq]))) ((((rs.zipIdx.take i).flatMap (oneP n ns)) ++ [(ns ++ [(i : Int)], t)]).map pairT) (ts ++ [.ref pq]) := AtL.kp (Kp.rfl'.at (by simp)) hlq
    have kH3 : Kp [Tk] H1 (upd (upd H2 pq (.tup [.ref pa, y2])) Tk (.lst (ts ++ [.ref pq]))) := ((kq _).mono (by simp)).trans (Kp.rfl'.at (by simp))
    have hTk3 : (upd (upd H2 pq (.tup [.ref pa, y2])) Tk (.lst (ts ++ [.ref pq]))) Tk = some (.lst (ts ++ [.ref pq])) := upd_same
    have hpa3 : (upd (upd H2 pq (.tup [.ref pa, y2])) Tk (.lst (ts ++ [.ref pq]))) pa = some (.tup ((ns ++ [(i : Int)]).map V.int)) := by
      rw [upd_ne (fun z => hpaX (by rw [z]; simp))]
      exact ((Kp.rfl' : Kp [] H2 H2).new hpq) _ _ hpa (by simp)
    generalize hH3 : upd (upd H2 pq (.tup [.ref pa, y2])) Tk (.lst (ts ++ [.ref pq])) = H3 at *
    have hX3 : Kn (Tk :: X) H3 := hX1.kp kH3 (.cons hTk3 .nil)
    have ta3 : At (Tk :: X) H3 t y2 := ta1.kp (kH3.mono (by simp))
    have R' := R
    obtain ⟨rfl, hx, hok, hnb, hsq⟩ := R'
    refine ⟨_, rfl, Tk :: X, b1, x, ks, hs, bs, _, rfl, ta3, hx, hok.length, hX3, fun v' H6 hb6 k6 => ?_⟩
    obtain ⟨pb, vb, rfl, hpbX, hpb, hlb⟩ := hb6
    have lb := AtL.length hlb
    have hnbl : nblk x ≤ 2 := nblk_le
    have hX6 : Kn (Tk :: X) H6 := hX3.kp k6 .nil
    refine ⟨b1, pb, vb, rfl, hpb.b, for_it (walkE (xs := vb)) (fun j σ H' => ∃ (us : List V) (o6 o7 : Option V), σ = [some (.ref p), some (.ref px), some (.ref Tk), some (.int (i : Nat)), some y2, some (.ref pa), o6, o7] ∧
      H' Tk = some (.lst us) ∧ AtL (Tk :: X) H' ((((rs.zipIdx.take i).flatMap (oneP n ns)) ++ [(ns ++ [(i : Int)], T.seq b1 (.str x :: (hs ++ bs)))] ++ (bs.zipIdx.take j).flatMap (gP n (ns ++ [(i : Int)]))).map pairT) us ∧ Kp [Tk] H6 H') ?_ ?_ ?_ ?_⟩
    · exact ⟨_, _, _, rfl, k6 _ _ hTk3 (by simp), (by simpa using hlq'.kp (k6.mono (by simp))), Kp.rfl'⟩
    · rintro j σ H' hj ⟨us, o6, o7, rfl, f1, f2, k7⟩
      exact (hpb.kp k7 (fun z => hpbX (by rw [List.mem_singleton.mp z]; simp))).b
    · rintro j y σ H' H'' hj ⟨us, o6, o7, rfl, f1, f2, k7⟩ ⟨T1, z1, z2, rfl, hT1, rfl, g1, g2⟩
      cases g1
      obtain ⟨t2, ht2, hta2⟩ := AtL.get hlb g2
      have hT1T : Tk ≠ T1 := fun z => by rw [← z, f1] at hT1; cases hT1
      have kT1 : Kp [Tk] H6 (upd H' T1 (.tup [.int (j : Nat), z2])) := k7.trans ((Kp.rfl'.new hT1 : Kp [] H' _).mono (by simp))
      obtain ⟨b2, rs2, rfl, hl8, hrs2⟩ := hbs t2 (List.mem_of_getElem? ht2)
      have hTk7 : (upd H' T1 (.tup [.int (j : Nat), z2])) Tk = some (.lst us) := by rw [upd_ne hT1T]; exact f1
      have hX7 : Kn (Tk :: X) (upd H' T1 (.tup [.int (j : Nat), z2])) := hX6.kp kT1 (.cons hTk7 .nil)
      have hpa7 : (upd H' T1 (.tup [.int (j : Nat), z2])) pa = some (.tup ((ns ++ [(i : Int)]).map V.int)) := kT1 _ _ (k6 _ _ hpa3 (by simp)) (fun z => hpaX (by rw [List.mem_singleton.mp z]; simp))
      have f2' : AtL (Tk :: X) (upd H' T1 (.tup [.int (j : Nat), z2])) _ us := f2.kp ((Kp.rfl'.new hT1 : Kp [] H' _).mono (by simp))
      have ta2 : At (Tk :: X) (upd H' T1 (.tup [.int (j : Nat), z2])) (.seq b2 rs2) z2 := hta2.kp (kT1.mono (by simp))
      generalize hH7 : upd H' T1 (.tup [.int (j : Nat), z2]) = H7 at *
      refine ⟨T1, _, rfl, SqT.of (hH7 ▸ upd_same), rfl, _, _, rfl, _, _, rfl, rfl, ?_⟩
      refine ⟨_, rfl, .inl ⟨rfl, _, SqL.of hTk7⟩, _, rfl, _, rfl, _, rfl, (by show 1 ≤ sizeLine; exact ltsz (by decide)), fun tp2 htp2 => catA_new (X := Tk :: X) (ns := ns ++ [(i : Int)]) (i := (j : Nat)) ((Kp.rfl'.new htp2 : Kp [] H7 _) _ _ hpa7 (by simp)) upd_same (by rw [List.length_append]; show ns.length + 1 ≤ 100; omega) hX7.upd (hX7.out htp2) fun pa2 H8 hpa2X hpa2 k8 => ?_⟩
      have k9 : Kp [] H7 H8 := (Kp.rfl'.new htp2).trans k8
      have hX8 : Kn (Tk :: X) H8 := hX7.kp k9 .nil
      refine ⟨Tk :: X, b2, _, rs2, z2, pa2, ns ++ [(i : Int)] ++ [(j : Int)], rfl, ta2.kp (k9.mono (by simp)), hl8, hrs2, hpa2, by simp only [List.length_append, List.length_cons, List.length_nil]; omega, by omega, hpa2X, hX8, fun pw ws H9 hpwX hpw hws k10 => ?_⟩
      have k11 : Kp [] H7 H9 := k9.trans k10
      have f3 := hws.length
      rw [List.length_map] at f3
      have f4 := (walk_len (ns := ns ++ [(i : Int)] ++ [(j : Int)]) hl8 hrs2).1
      have f5 := f2.length
      have f6 : ((bs.zipIdx.take j).flatMap (gP n (ns ++ [(i : Int)]))).length ≤ 2 * cW n := by
        refine Nat.le_trans (flat_len (c := cW n) _ fun u hu => ?_) (Nat.mul_le_mul_right _ ?_)
        · obtain ⟨b3, rs3, e, hl3, hr3⟩ := hbs u.1 (mem_zip (List.mem_of_mem_take hu))
          unfold gP
          rw [e]
          exact (walk_len hl3 hr3).1
        · rw [List.length_take, List.length_zipIdx]
          omega
      simp only [List.length_map, List.length_append, List.length_cons, List.length_nil] at f5
      have lts' : ts.length = ((rs.zipIdx.take i).flatMap (oneP n ns)).length := by rw [e2'.length, List.length_map]
      refine ⟨Tk, pw, us, ws, rfl, rfl, k11 _ _ hTk7 (by simp), hpw, Nat.le_of_lt (cs _ (by omega)), us ++ ws, _, _, rfl, upd_same, ?_, ?_⟩
      · rw [flat_next ht2, ← List.append_assoc, List.map_append]
        exact AtL.kp (Kp.rfl'.at (by simp)) ((f2'.kp (k11.mono (by simp))).append hws)
      · exact (kT1.trans (k11.mono (by simp))).trans (Kp.rfl'.at (by simp))
    · rintro σ H' ⟨us, o6, o7, rfl, f1, f2, k7⟩
      refine ⟨us, _, _, _, _, _, rfl, f1, ?_, ?_⟩
      · rw [flat_next ht, oneP, R.blks]
        rw [lb, flat_all] at f2
        simpa using f2
      · exact Kp.drop (Y := [Tk]) (X := []) (((k2.mono (by simp)).trans kH3).trans ((k6.mono (by simp)).trans k7)) (fun z hz => by rw [List.mem_singleton.mp hz]; exact hTk)
  · rintro σ H' ⟨ts, o3, o4, o5, o6, o7, rfl, e1, e2, k1⟩
    refine ⟨_, rfl, q Tk ts H' hTX e1 ?_ k1⟩
    rw [hvl, flat_all] at e2
    cases n with
    | zero =>
      cases rs with
      | nil => exact e2.less fun z hz => List.mem_cons_of_mem _ hz
      | cons r rs => exact (hrs r (List.mem_cons_self ..)).elim
    | succ n => exact e2.less fun z hz => List.mem_cons_of_mem _ hz
end
end Fs

namespace Fs
open PySem L2
abbrev stakenmodules : Stmt := top 34
theorem sctakenmodules : FnScope ["modules", "module", "taken", "rows"] ["modules"] (defScope stakenmodules) := ⟨rfl, rfl, rfl, by decide +kernel, rfl, by decide +kernel, by decide +kernel⟩
theorem keysV {kvs : List (Key × V)} {ks : List Str} (h : kvs.map (·.1) = ks.map Sum.inr) : kvs.map (fun kv => kV kv.1) = ks.map V.str := by
  have : kvs.map (fun kv => kV kv.1) = (kvs.map (·.1)).map kV := by rw [List.map_map]; rfl
  rw [this, h, List.map_map]
  rfl
/-- what taken_modules makes of a library -/
structure Taken (lib out : List (Str × T)) : Prop where
  perm : (out.map (·.1)).Perm (lib.map (·.1))
  srt : PyProof.Rows.sortedS (out.map (·.1)) = true
  like : ∀ p ∈ out, ∃ q ∈ lib, q.1 = p.1 ∧ p.2 = q.2.tupled
def spTakenMods : Sp := fun vs H Q _ => ∃ (X : List Addr) (r : Addr) (lib : List (Str × T)), vs = [.ref r] ∧ LibAt X H r lib ∧ GLib lib ∧ lib ≠ [] ∧ Kn X H ∧
  ∀ (F : Addr) (out : List (Str × T)) (H' : Hp), F ∉ X → LibAt (F :: X) H' F out → Taken lib out → Kp [] H H' → Q (.ref F) H'
section
variable {P : Program} {w : World} {K : PySem.W.Frag} {mg : Str → Option Value} {base : Heap} {f f1 f2 f3 f4 f5 f6 : Addr} {fd fd1 fd2 fd3 fd4 fd5 fd6 : FuncData}
theorem ok_takenmods {k : Nat} (hk : 1 ≤ k) (D : Df K mg "taken_modules" stakenmodules ["modules"] f fd) (B : Bn mg)
    (Disword : Df K mg "is_word" sisword ["thing"] f1 fd1) (Gisword : FnOk P w K mg base CX0 1 f1 fd1 ["thing"] (spTest T.isWord fun t => t.slen ≤ 1000))
    (Dislist : Df K mg "is_list" sislist ["thing"] f2 fd2) (Gislist : FnOk P w K mg base CX0 1 f2 fd2 ["thing"] (spTest T.isSeq fun _ => True))
    (Dtakenrows : Df K mg "taken_rows" stakenrows ["module", "rows", "prefix", "in_function"] f3 fd3) (Gtakenrows : FnOk P w K mg base CX0 k f3 fd3 ["module", "rows", "prefix", "in_function"] (spTaken 4)) :
    FnOk P w K mg base CX0 (k + 1) f fd ["modules"] spTakenMods := by
  refine D.F.ok sctakenmodules (fun vs H Q E h => ?_) (fun cdv A outer s H vs Q E hr h => ?_)
  · obtain ⟨X, r, lib, rfl, _⟩ := h
    rfl
  obtain ⟨X, r, lib, rfl, ⟨kvs, hp, hkv⟩, gl, hne, hX, q⟩ := h
  refine ⟨_, (Evl.pss_cut (ps_if (PW.pt (pw_or (pt_not (pt_val (pe_callB call_isi (by rfl) B.isinstance (by decide +kernel) (pa_cons (pv 0) (pa_cons (pe_bltn (v := .ty "dict") (by rfl) B.dict (by decide +kernel) rfl) pa_nil))))) (pw_or1 (pt_cmpR op_eq (pe_callB call_lenD (by rfl) B.len PySem.boot_len (pa_cons (pv 0) pa_nil)) pe_int (nomark _)))))
  (pss_one ps_never)
  pss_nil)
 (Evl.pss_cut (ps_if (pt_not (pt_val (pe_callB (cr_all rfl) (by rfl) B.all (by decide +kernel) (pa_cons (pe_lc (own := [("module", 1)]) rfl sctakenmodules.nd (pi_list (pe_callTy (call_list_dK rfl) (by rfl) B.list (by decide +kernel) (pa_cons (pv 0) pa_nil))) (blkOk_by (N := ["modules", "module", "taken", "rows"]) (sc := defScope stakenmodules) (by decide +kernel)) (fun _ _ _ _ _ => (pg_name (i := 1) sctakenmodules.nd rfl (Or.inl rfl))) (fun _ _ _ _ _ => pts_nil) (fun _ _ _ _ _ => (pe_call Gisword (hr.mono (by omega)) rfl Disword.g Disword.F.kp Disword.b .nil pass0 (pa_cons (pv 1) pa_nil)))) pa_nil))))
  (pss_one ps_never)
  pss_nil)
 (pss_cons (ps_set (i := 2) sctakenmodules.nd rfl (Or.inl rfl) pe_dnewK)
 (pss_cons (ps_for PassesOwn.never rfl (pi_list (pe_callB (call_sortedD rfl) (by rfl) B.sorted (by decide +kernel) (pa_cons (pv 0) pa_nil))) (pg_name (i := 1) sctakenmodules.nd rfl (Or.inl rfl))
  (pss_cons (ps_set (i := 3) sctakenmodules.nd rfl (Or.inl rfl) (pe_dget (hu_of hr) (pv 0) (pv 1) (fun _ _ => rfl)))
 (Evl.pss_cut (ps_if (pt_not (pt_val (pe_call Gislist (hr.mono (by omega)) rfl Dislist.g Dislist.F.kp Dislist.b .nil pass0 (pa_cons (pv 3) pa_nil))))
  (pss_one ps_never)
  pss_nil)
 (pss_one (ps_dput (hu_of hr) (pv 2) (pv 1) (pe_call Gtakenrows (hr.mono (by omega)) rfl Dtakenrows.g Dtakenrows.F.kp Dtakenrows.b .nil pass0 (pa_cons (pv 1) (pa_cons (pv 3) (pa_cons (pe_tup pa_nil) (pa_cons pe_bl pa_nil))))) rfl)))))
 (pss_one (ps_ret (pv 2))))))), ?_⟩
  refine ⟨fun σ' H' => σ' = [some (.ref r), none, none, none] ∧ H' = H, ?_, ?_⟩
  · refine ⟨_, rfl, _, _, _, _, true, rfl, .ty _, .base (.dK hp), kit_ty (a := "dict") (b := "dict") (by decide +kernel), _, rfl, ?_⟩
    refine ite2 (fun z => nomatch z) (fun _ => ?_)
    refine ⟨_, rfl, r, kvs, rfl, hp, rfl, _, rfl, ?_⟩
    refine ite2 (fun z => ?_) (fun _ => ⟨rfl, rfl⟩)
    have z' := V.int.inj (of_decide_eq_true z)
    have l1 : lib.length ≠ 0 := fun e => hne (List.eq_nil_of_length_eq_zero e)
    rw [hkv.length] at z'
    omega
  rintro σ' H' ⟨rfl, rfl⟩
  have few := gl.few
  refine ⟨fun σ' H'' => σ' = [some (.ref r), none, none, none] ∧ Kp [] H' H'', ?_, ?_⟩
  · refine ⟨_, rfl, r, kvs, rfl, hp, fun L hL => ⟨L, rfl, ⟨_, SqL.of upd_same⟩, fun D hD => ?_⟩⟩
    have hDL : L ≠ D := fun z => by rw [← z, upd_same] at hD; cases hD
    have kL : ∀ o, Kp [] H' (upd H' L o) := fun o => Kp.rfl'.new hL
    rw [keysV hkv.keys] at *
    refine lc_it (walk_list (xs := (lib.map (·.1)).map V.str)) (fun i H2 => H2 D = some (.lst (List.replicate i (V.bl true))) ∧ Kp [] (upd H' L (.lst ((lib.map (·.1)).map V.str))) H2) ?_ ?_ ?_ ?_
    · exact ⟨upd_same, Kp.rfl'.new hD⟩
    · rintro i H2 hi ⟨e1, k2⟩
      exact SqL.of (k2 _ _ upd_same (by simp))
    · rintro i y H2 H3 hi ⟨e1, k2⟩ ⟨rfl, hy⟩
      rw [List.getElem?_map] at hy
      obtain ⟨nm, hn, rfl⟩ : ∃ nm, (lib.map (·.1))[i]? = some nm ∧ y = V.str nm := by
        cases e : (lib.map (·.1))[i]? with
        | none => rw [e] at hy; cases hy
        | some k => rw [e] at hy; exact ⟨k, rfl, (Option.some.inj hy).symm⟩
      obtain ⟨p', hp', rfl⟩ := List.mem_map.mp (List.mem_of_getElem? hn)
      have wn := (gl.ok p' hp').1
      refine ⟨rfl, _, rfl, X, .str p'.1, _, rfl, rfl, (HeadOk.test (k := true) ⟨p'.1, rfl, wn⟩).2, fun H4 k4 => ?_⟩
      refine ⟨_, k4 _ _ e1 (by simp), by rw [List.length_replicate]; exact Nat.lt_of_le_of_lt (m := 4) (by simp at hi; omega) (by decide), ?_, (k2.trans k4).new hD⟩
      rw [upd_same, show T.isWord (.str p'.1) = true from wn, ← List.replicate_succ']
    · rintro H2 ⟨e1, k2⟩
      have e1' : H2 D = some (.lst ((List.replicate lib.length true).map V.bl)) := by rw [List.map_replicate]; simpa using e1
      refine ⟨D, _, rfl, SqL.of e1', _, rfl, ?_⟩
      rw [all_true]
      exact ⟨rfl, (kL _).trans k2⟩
  rintro σ' H1 ⟨rfl, k1⟩
  intro F hF
  have hX1 : Kn X H1 := hX.kp k1 .nil
  have hFX : F ∉ X := hX1.out hF
  refine ⟨_, rfl, r, kvs, lib.map (·.1), rfl, .inl ((k1.trans (Kp.rfl'.new hF)) _ _ hp (by simp)), hkv.keys, by rw [List.length_map]; omega, fun ys L hperm hsrt hL => ?_⟩
  have hLX : L ∉ X := hX1.out ((Kp.rfl'.new (X := []) (o := .dK []) hF).free hL (by simp))
  have hLF : F ≠ L := fun z => by rw [← z, upd_same] at hL; cases hL
  have ylen : ys.length = lib.length := by rw [hperm.length_eq, List.length_map]
  have ynd : ys.Nodup := hperm.nodup_iff.mpr gl.nd
  have k5 : Kp [] H1 (upd (upd H1 F (.dK [])) L (.lst (ys.map V.str))) := (Kp.rfl'.new hF).trans (Kp.rfl'.new hL)
  have hF5 : (upd (upd H1 F (.dK [])) L (.lst (ys.map V.str))) F = some (.dK []) := by rw [upd_ne hLF]; exact upd_same
  have hL5 : (upd (upd H1 F (.dK [])) L (.lst (ys.map V.str))) L = some (.lst (ys.map V.str)) := upd_same
  generalize upd (upd H1 F (.dK [])) L (.lst (ys.map V.str)) = H5 at *
  have kk5 : Kp [] H' H5 := k1.trans k5
  have hFH : H' F = none := k1.free hF (by simp)
  have hFr : F ≠ r := fun z => by rw [z, hp] at hFH; cases hFH
  refine ⟨L, rfl, ⟨_, SqL.of hL5⟩, for_it (walk_list (xs := ys.map V.str)) (fun i σ H2 => ∃ (out : List (Str × T)) (v1 v3 : Option V), σ = [some (.ref r), v1, some (.ref F), v3] ∧ LibAt (F :: X) H2 F out ∧ out.map (·.1) = ys.take i ∧
    (∀ p ∈ out, ∃ q ∈ lib, q.1 = p.1 ∧ p.2 = q.2.tupled) ∧ Kp [F] H5 H2) ?_ ?_ ?_ ?_⟩
  · exact ⟨[], _, _, rfl, ⟨[], hF5, rfl⟩, rfl, (fun _ z => nomatch z), Kp.rfl'⟩
  · rintro i σ H2 hi ⟨out, v1, v3, rfl, _, _, _, k6⟩
    exact SqL.of (k6 _ _ hL5 (by simpa using hLF.symm))
  · rintro i y σ H2 H3 hi ⟨out, v1, v3, rfl, ⟨kvo, e1, e2⟩, e3, e4, k6⟩ ⟨rfl, hy⟩
    rw [List.getElem?_map] at hy
    obtain ⟨nm, hn, rfl⟩ : ∃ nm, ys[i]? = some nm ∧ y = V.str nm := by
      cases e : ys[i]? with
      | none => rw [e] at hy; cases hy
      | some k => rw [e] at hy; exact ⟨k, rfl, (Option.some.inj hy).symm⟩
    have hin : nm ∈ lib.map (·.1) := hperm.mem_iff.mp (List.mem_of_getElem? hn)
    obtain ⟨v, t, hv, hmem, hat⟩ := hkv.val hin
    have hk2 : Kp [F] H' H3 := (kk5.mono (by simp)).trans k6
    have hp3 : H3 r = some (.dK kvs) := hk2 _ _ hp (by simpa using hFr.symm)
    have hX3 : Kn (F :: X) H3 := .cons e1 (hX.kp hk2 (.cons e1 .nil))
    have hat3 : At (F :: X) H3 t v := (hat.more hFH).kp (hk2.mono (by simp))
    obtain ⟨b, rs, rfl, hl8, hrs⟩ := (gl.ok _ hmem).2
    refine ⟨_, rfl, _, rfl, r, v, rfl, DGet.k (k := .inr nm) hp3 |> (fun z => by rw [hv] at z; exact z), ?_⟩
    refine ⟨fun σ' H'' => σ' = [some (.ref r), some (.str nm), some (.ref F), some v] ∧ Kp [] H3 H'', ?_, ?_⟩
    · refine ⟨_, rfl, F :: X, _, v, rfl, hat3, trivial, fun H4 k7 => ⟨_, rfl, ?_⟩⟩
      exact ite2 (fun z => nomatch z) (fun _ => ⟨rfl, k7⟩)
    rintro σ' H4 ⟨rfl, k7⟩
    have hX4 : Kn (F :: X) H4 := hX3.kp k7 .nil
    refine ⟨_, rfl, _, rfl, (by show 0 ≤ sizeLine; exact Nat.zero_le _), fun px hpx => ?_⟩
    refine ⟨F :: X, nm, b, false, rs, v, px, [], rfl, ?_, hl8, hrs, upd_same, by simp, by omega, hX4.upd, fun v' H6 hv6 k8 => ?_⟩
    · exact (hat3.kp (k7.mono (by simp))).kp (((Kp.rfl' : Kp [] H4 H4).new hpx).mono (by simp))
    have k9 : Kp [] H3 H6 := (k7.trans (Kp.rfl'.new hpx)).trans k8
    have hF6 : H6 F = some (.dK kvo) := k9 _ _ e1 (by simp)
    have hol : out.length = i := by
      have := congrArg List.length e3
      rw [List.length_map, List.length_take] at this
      have : i < ys.length := by simpa using hi
      omega
    have hi' : i < ys.length := by simpa using hi
    have hko := e2.length
    refine ⟨_, rfl, _, rfl, F, _, rfl, DPut.k (k := .inr nm) hF6 (Nat.lt_of_le_of_lt (m := 4) (by omega) (by decide)), ?_⟩
    have hnew : (out.any fun p => decide (p.1 = nm)) = false := by
      rw [Bool.eq_false_iff]
      intro z
      obtain ⟨p', hp', ep⟩ := List.any_eq_true.mp z
      have ep := of_decide_eq_true ep
      have hmt : nm ∈ ys.take i := by
        rw [← e3, ← ep]
        exact List.mem_map_of_mem hp'
      obtain ⟨j, hj⟩ := List.mem_iff_getElem?.mp hmt
      have hji : j < i := by
        have hl := (List.getElem?_eq_some_iff.mp hj).1
        rw [List.length_take] at hl
        omega
      rw [List.getElem?_take_of_lt hji] at hj
      have hjl : j < ys.length := by omega
      rw [List.getElem?_eq_getElem hjl] at hj
      rw [List.getElem?_eq_getElem hi'] at hn
      have := (List.getElem_inj (h₀ := hjl) (h₁ := hi') ynd).mp ((Option.some.inj hj).trans (Option.some.inj hn).symm)
      omega
    have eput : putL out nm (.seq true (rs.map T.tupled)) = out ++ [(nm, .seq true (rs.map T.tupled))] := by
      unfold putL
      rw [hnew]
      rfl
    refine ⟨out ++ [(nm, .seq true (rs.map T.tupled))], _, _, rfl, ⟨_, upd_same, ?_⟩, ?_, ?_, ?_⟩
    · rw [← eput]
      exact ((e2.kp (k9.mono (by simp))).kp (Kp.rfl'.at (by simp))).put (hv6.kp (Kp.rfl'.at (by simp)))
    · rw [List.map_append, e3, List.take_add_one, hn]
      rfl
    · intro p' hp'
      rcases List.mem_append.mp hp' with hp' | hp'
      · exact e4 p' hp'
      · rw [List.mem_singleton.mp hp']
        exact ⟨_, hmem, rfl, by rw [T.tupled]⟩
    · exact (k6.trans (k9.mono (by simp))).trans (Kp.rfl'.at (by simp))
  · rintro σ H2 ⟨out, v1, v3, rfl, ⟨kvo, e1, e2⟩, e3, e4, k6⟩
    rw [List.length_map, List.take_length] at e3
    refine ⟨_, rfl, q F out H2 hFX ⟨kvo, e1, e2⟩ ⟨by rw [e3]; exact hperm, by rw [e3]; exact hsrt, e4⟩ ?_⟩
    exact Kp.drop (Y := [F]) (X := []) ((kk5.mono (by simp)).trans k6) (fun z hz => by rw [List.mem_singleton.mp hz]; exact hFH)
end
end Fs

namespace Fs
open PySem L2
/-- the law's own blocks of a row: a new list -/
def spLawBlocks : Sp := fun vs H Q _ => ∃ (X : List Addr) (t : T) (v : V) (b : Bool) (x : Str) (ks : List Bool) (hs bs : List T), vs = [v] ∧ At X H t v ∧ RowOk t b x ks hs bs ∧ Kn X H ∧
  ∀ (v' : V) (H' : Hp), At X H' (.seq false bs) v' → Kp [] H H' → Q v' H'
theorem merge3 {a b c : V} : mergeK [] [((.inr "make" : Key), a), (.inr "when", b), (.inr "try", c)] = [((.inr "make" : Key), a), (.inr "when", b), (.inr "try", c)] := by kernel_rfl
theorem val3 {x : Str} {a b c : V} : valV [((.inr "make" : Key), a), (.inr "when", b), (.inr "try", c)] (.inr x) = if x = "make" then some a else if x = "when" then some b else if x = "try" then some c else none := by
  unfold valV
  by_cases h1 : x = "make"
  · subst h1
    simp
  have n12 : ¬ ("make" : Str) = "when" := by decide +kernel
  have n13 : ¬ ("make" : Str) = "try" := by decide +kernel
  have n23 : ¬ ("when" : Str) = "try" := by decide +kernel
  by_cases h2 : x = "when"
  · subst h2
    simp [n12, h1]
  by_cases h3 : x = "try"
  · subst h3
    simp [n13, n23, h1, h2]
  have e1 : ¬ ("make" : Str) = x := fun z => h1 z.symm
  have e2 : ¬ ("when" : Str) = x := fun z => h2 z.symm
  have e3 : ¬ ("try" : Str) = x := fun z => h3 z.symm
  simp [h1, h2, h3, e1, e2, e3]
section
variable {P : Program} {w : World} {K : PySem.W.Frag} {mg : Str → Option Value} {base : Heap} {f f1 f2 f3 f4 f5 f6 : Addr} {fd fd1 fd2 fd3 fd4 fd5 fd6 : FuncData}
theorem ok_lawblocks (D : Df K mg "_law_blocks" sblocks ["_law_row_here"] f fd) (B : Bn mg) : FnOk P w K mg base CX0 1 f fd ["_law_row_here"] spLawBlocks := by
  refine D.F.ok scblocks (fun vs H Q E h => ?_) (fun cdv A outer s H vs Q E hr h => ?_)
  · obtain ⟨X, t, v, b, x, ks, hs, bs, rfl, _⟩ := h
    rfl
  obtain ⟨X, t, v, b, x, ks, hs, bs, rfl, hat, R, hX, q⟩ := h
  refine ⟨_, (pss_one (ps_ret (pe_dget2 (hu_of hr) (pe_disp (pps_cons pe_str (pe_callTy call_list_of (by rfl) B.list (by decide +kernel) (pa_cons (pe_slice sl_seq (pv 0) (po_some pe_int) po_none) pa_nil)) (pps_cons pe_str (pe_callTy call_list_of (by rfl) B.list (by decide +kernel) (pa_cons (pe_slice sl_seq (pv 0) (po_some pe_int) po_none) pa_nil)) (pps_cons pe_str (pe_callTy call_list_of (by rfl) B.list (by decide +kernel) (pa_cons (pe_slice sl_seq (pv 0) (po_some pe_int) po_none) pa_nil)) pps_nil))) (by rfl) (by rfl) (fun z => by cases z) (by decide)) (pe_ix (ix_list.or ix_tup) (pv 0) pe_int (fun _ _ => rfl)) (pe_lst pa_nil) ⟨rfl, rfl, rfl, rfl⟩))), ?_⟩
  obtain ⟨rfl, hx, hok, hnb, hsq⟩ := R
  obtain ⟨p, vs, rfl, hpX, hp, hl⟩ := hat
  obtain ⟨v0, r, rfl, e0, hl2⟩ := id hl
  cases (show v0 = .str x from e0)
  intro d hd
  have k0 : ∀ o, Kp [] H (upd H d o) := fun o => Kp.rfl'.new hd
  have lr := AtL.length hl2
  rw [List.length_append] at lr
  have hlk := hok.length
  refine ⟨_, rfl, _, rfl, slice_seq (hp.kp (k0 _) (by simp)) hX.upd hpX fun a1 H1 a1X ha1 k1 => ⟨a1, _, rfl, ha1.or, fun l1 hl1 => ?_⟩⟩
  have q1 : ∀ o, Kp [] (upd H d (.dK [])) (upd H1 l1 o) := fun o => k1.trans (Kp.rfl'.new hl1)
  have hX1 : ∀ o, Kn X (upd H1 l1 o) := fun o => (hX.upd.kp k1 .nil).upd
  refine ⟨_, rfl, _, rfl, slice_seq ((hp.kp (k0 _) (by simp)).kp (q1 _) (by simp)) (hX1 _) hpX fun a2 H2 a2X ha2 k2 => ⟨a2, _, rfl, ha2.or, fun l2 hl2' => ?_⟩⟩
  have q2 : ∀ o, Kp [] (upd H1 l1 (.lst (cutV (V.str x :: r) (some 2) none))) (upd H2 l2 o) := fun o => k2.trans (Kp.rfl'.new hl2')
  have hX2 : ∀ o, Kn X (upd H2 l2 o) := fun o => ((hX1 _).kp k2 .nil).upd
  refine ⟨_, rfl, _, rfl, slice_seq (((hp.kp (k0 _) (by simp)).kp (q1 _) (by simp)).kp (q2 _) (by simp)) (hX2 _) hpX fun a3 H3 a3X ha3 k3 => ⟨a3, _, rfl, ha3.or, fun l3 hl3 => ?_⟩⟩
  have q3 : ∀ o, Kp [] (upd H2 l2 (.lst (cutV (V.str x :: r) (some 2) none))) (upd H3 l3 o) := fun o => k3.trans (Kp.rfl'.new hl3)
  have hX3 : ∀ o, Kn X (upd H3 l3 o) := fun o => ((hX2 _).kp k3 .nil).upd
  have hd3 : (upd H3 l3 (.lst (cutV (V.str x :: r) (some 1) none))) d = some (.dK []) := q3 _ _ _ (q2 _ _ _ (q1 _ _ _ upd_same (by simp)) (by simp)) (by simp)
  refine ⟨hd3, [(.inr "make", .ref l1), (.inr "when", .ref l2), (.inr "try", .ref l3)], rfl, by show 3 ≤ 15; decide, ?_⟩
  have hm1 : (upd H3 l3 (.lst (cutV (V.str x :: r) (some 1) none))) l1 = some (.lst (cutV (V.str x :: r) (some 2) none)) := q3 _ _ _ (q2 _ _ _ upd_same (by simp)) (by simp)
  have hm2 : (upd H3 l3 (.lst (cutV (V.str x :: r) (some 1) none))) l2 = some (.lst (cutV (V.str x :: r) (some 2) none)) := q3 _ _ _ upd_same (by simp)
  have hm3 : (upd H3 l3 (.lst (cutV (V.str x :: r) (some 1) none))) l3 = some (.lst (cutV (V.str x :: r) (some 1) none)) := upd_same
  have kk : ∀ o o', Kp [] H (upd (upd H3 l3 o) d o') := fun o o' => ((((k0 (.dK [])).trans (q1 _)).trans (q2 _)).trans (q3 o)).new hd
  have hX4 : ∀ o, Kn X (upd (upd H3 l3 (.lst (cutV (V.str x :: r) (some 1) none))) d o) := fun o => (hX3 _).upd
  have dX : d ∉ X := hX.out hd
  have lX : l1 ∉ X ∧ l2 ∉ X ∧ l3 ∉ X := ⟨(hX.upd.kp k1 .nil).out hl1, ((hX1 _).kp k2 .nil).out hl2', ((hX2 _).kp k3 .nil).out hl3⟩
  have nd : l1 ≠ d ∧ l2 ≠ d ∧ l3 ≠ d := ⟨(fun z => by rw [z, hd3] at hm1; cases hm1), (fun z => by rw [z, hd3] at hm2; cases hm2), (fun z => by have := (k3 _ _ (q2 _ _ _ (q1 _ _ _ upd_same (by simp)) (by simp)) (by simp) : H3 d = some (.dK [])); rw [← z, hl3] at this; cases this)⟩
  rw [merge3]
  generalize hG : upd H3 l3 (.lst (cutV (V.str x :: r) (some 1) none)) = G at *
  have kk' : ∀ o', Kp [] H (upd G d o') := fun o' => by rw [← hG]; exact kk _ o'
  refine ⟨d, rfl, .inl ⟨_, .of upd_same⟩, _, rfl, ix_seq2 (hp.kp (kk' _) (by simp)) at0 ⟨(by show 0 ≤ sizeLine; exact Nat.zero_le _), fun el hel => ?_⟩⟩
  have ke : ∀ o, Kp [] H (upd (upd G d (.dK [(.inr "make", .ref l1), (.inr "when", .ref l2), (.inr "try", .ref l3)])) el o) := fun o => (kk' _).trans (Kp.rfl'.new hel)
  have ked : d ≠ el := fun z => by rw [← z, upd_same] at hel; cases hel
  refine ⟨_, DGet.k (k := .inr x) (by rw [upd_ne ked]; exact upd_same), ?_⟩
  rw [val3]
  have fin : ∀ (l : Addr) (ws : List V), l ∉ X → l ≠ d → G l = some (.lst ws) → AtL X H bs ws → Q (.ref l) (upd (upd G d (.dK [(.inr "make", .ref l1), (.inr "when", .ref l2), (.inr "try", .ref l3)])) el (.lst [])) := fun l ws lX ld hl ha => by
    refine q (.ref l) _ ⟨l, ws, rfl, lX, .inl ?_, ha.kp ((ke _).mono (by simp))⟩ (ke _)
    have hle : l ≠ el := fun z => by rw [← z, upd_ne ld, hl] at hel; cases hel
    rw [upd_ne hle, upd_ne ld]
    exact hl
  have hbs : AtL X H bs (r.drop hs.length) := by
    have := hl2.drop hs.length
    rwa [List.drop_left] at this
  by_cases h1 : x = "make"
  · rw [if_pos h1]
    have e : ks = [true] := by
      rw [h1, show headsOf "make" = some [true] by decide +kernel] at hx
      exact (Option.some.inj hx).symm
    have e1 : hs.length = 1 := by rw [hlk, e]; rfl
    rw [show cutV (V.str x :: r) (some 2) none = r.drop 1 from cut_from (i := 2) (k := 2) rfl (by rw [List.length_cons]; omega)] at hm1
    rw [e1] at hbs
    exact fin l1 _ lX.1 nd.1 hm1 hbs
  rw [if_neg h1]
  by_cases h2 : x = "when"
  · rw [if_pos h2]
    have e : ks = [true] := by
      rw [h2, show headsOf "when" = some [true] by decide +kernel] at hx
      exact (Option.some.inj hx).symm
    have e1 : hs.length = 1 := by rw [hlk, e]; rfl
    rw [show cutV (V.str x :: r) (some 2) none = r.drop 1 from cut_from (i := 2) (k := 2) rfl (by rw [List.length_cons]; omega)] at hm2
    rw [e1] at hbs
    exact fin l2 _ lX.2.1 nd.2.1 hm2 hbs
  rw [if_neg h2]
  by_cases h3 : x = "try"
  · rw [if_pos h3]
    have e : ks = [] := by
      rw [h3, show headsOf "try" = some [] by decide +kernel] at hx
      exact (Option.some.inj hx).symm
    have e1 : hs.length = 0 := by rw [hlk, e]; rfl
    rw [show cutV (V.str x :: r) (some 1) none = r.drop 0 from cut_from (i := 1) (k := 1) rfl (by rw [List.length_cons]; omega)] at hm3
    rw [e1] at hbs
    exact fin l3 _ lX.2.2 nd.2.2 hm3 hbs
  rw [if_neg h3]
  have e0 : bs = [] := by
    have : nblk x = 0 := by unfold nblk; rw [if_neg h1, if_neg h2, if_neg h3]
    rw [this] at hnb
    exact List.eq_nil_of_length_eq_zero hnb
  refine q (.ref el) _ ⟨el, [], rfl, ?_, .inl upd_same, ?_⟩ (ke _)
  · exact (hX4 _).out hel
  · rw [e0]
    rfl
end
end Fs

namespace Fs
open PySem L2
theorem catA_news {K : PySem.W.Frag} {H : Hp} {X : List Addr} {a t : Addr} {ns js : List Int} {Q : VK} (h1 : H a = some (.tup (ns.map V.int))) (h2 : H t = some (.tup (js.map V.int))) (hj : js ≠ []) (hl : ns.length + js.length ≤ 1000) (hX : Kn X H) (ht : t ∉ X)
    (q : ∀ (r : Addr) (H' : Hp), r ∉ X → H' r = some (.tup ((ns ++ js).map V.int)) → Kp [] H H' → Q (.ref r) H') : rCatA K (.ref a) (.ref t) H Q := by
  refine ⟨a, t, _, _, rfl, rfl, SqT.of h1, SqT.of h2, ltsz (by rw [List.length_map, List.length_map]; exact hl), fun e => ?_, (fun _ z => absurd (List.map_eq_nil_iff.mp z) hj), fun _ _ p hp => ?_⟩
  · have e' : ns = [] := List.map_eq_nil_iff.mp e
    exact q t H ht (by rw [h2, e']; rfl) Kp.rfl'
  · exact q p _ (hX.out hp) (by rw [upd_same, List.map_append]) (Kp.rfl'.new hp)
section
variable {P : Program} {w : World} {K : PySem.W.Frag} {mg : Str → Option Value} {base : Heap} {f f1 f2 f3 f4 f5 f6 : Addr} {fd fd1 fd2 fd3 fd4 fd5 fd6 : FuncData}
theorem ok_lawwalk {n k : Nat} (hk : 1 ≤ k) (D : Df K mg "_law_walked" swalked ["_law_rows", "_law_ahead"] f fd) (B : Bn mg)
    (Dblocks : Df K mg "_law_blocks" sblocks ["_law_row_here"] f4 fd4) (Gblocks : FnOk P w K mg base CX0 1 f4 fd4 ["_law_row_here"] spLawBlocks)
    (Gwalked : FnOk P w K mg base CX0 k f fd ["_law_rows", "_law_ahead"] (spWalkQ n)) : FnOk P w K mg base CX0 (k + 1) f fd ["_law_rows", "_law_ahead"] (spWalk n) := by
  have Dwalked := D
  refine D.F.ok scwalked (fun vs H Q E h => ?_) (fun cdv A outer s H vs Q E hr h => ?_)
  · obtain ⟨X, b, mk, rs, v, px, ns, rfl, _⟩ := h
    rfl
  obtain ⟨X, b, mk, rs, v, px, ns, rfl, ⟨p, vs, rfl, hpX, hp, hl⟩, hlen, hrs, hpx, hns, hn4, hpxX, hX, q⟩ := h
  refine ⟨_, (pss_cons (ps_set (i := 2) scwalked.nd rfl (Or.inl rfl) (pe_lst pa_nil))
 (pss_cons (ps_for PassesOwn.never rfl (pi_enumS (by rfl) B.enumerate (pa_cons (pv 0) pa_nil)) (pg_tup (by rfl) (pgs_cons (pg_name (i := 3) scwalked.nd rfl (Or.inl rfl)) (pgs_cons (pg_name (i := 4) scwalked.nd rfl (Or.inl rfl)) pgs_nil)))
  (pss_cons (ps_expr (pe_bm PySem.F.plainAttrs_list PySem.F.slot_list_append PySem.F.type_list_append mt_append (pv 2) (pa_cons (pe_tup (pa_cons (pe_op op_catA (pv 1) (pe_tup (pa_cons (pv 3) pa_nil))) (pa_cons (pv 4) pa_nil))) pa_nil)))
 (pss_one (ps_for PassesOwn.never rfl (pi_enumS (by rfl) B.enumerate (pa_cons (pe_call Gblocks (hr.mono (by omega)) rfl Dblocks.g Dblocks.F.kp Dblocks.b .nil pass0 (pa_cons (pv 4) pa_nil)) pa_nil)) (pg_tup (by rfl) (pgs_cons (pg_name (i := 5) scwalked.nd rfl (Or.inl rfl)) (pgs_cons (pg_name (i := 6) scwalked.nd rfl (Or.inl rfl)) pgs_nil)))
  (pss_one (ps_expr (pe_bm PySem.F.plainAttrs_list PySem.F.slot_list_extend PySem.F.type_list_extend mt_extend (pv 2) (pa_cons (pe_call Gwalked (hr.mono (by omega)) rfl Dwalked.g Dwalked.F.kp Dwalked.b .nil pass0 (pa_cons (pv 6) (pa_cons (pe_op op_catA (pv 1) (pe_tup (pa_cons (pv 3) (pa_cons (pv 5) pa_nil)))) pa_nil))) pa_nil))))))))
 (pss_one (ps_ret (pv 2))))), ?_⟩
  have hvl := AtL.length hl
  refine ⟨(by show 0 ≤ sizeLine; exact ltsz (by decide)), fun Tk hTk => ?_⟩
  have hTX : Tk ∉ X := hX.out hTk
  have hpx0 := hpx
  have hpxT : px ≠ Tk := fun z => by rw [z, hTk] at hpx; cases hpx
  have kT : ∀ o, Kp [] H (upd H Tk o) := fun o => Kp.rfl'.new hTk
  refine ⟨_, rfl, b, p, vs, rfl, (hp.kp (kT _) (by simp)).b, for_it (walkE (xs := vs)) (fun i σ H' => ∃ (ts : List V) (o3 o4 o5 o6 : Option V), σ = [some (.ref p), some (.ref px), some (.ref Tk), o3, o4, o5, o6] ∧
    H' Tk = some (.lst ts) ∧ AtL (Tk :: X) H' (((rs.zipIdx.take i).flatMap (oneP (n - 1) ns)).map pairT) ts ∧ Kp [] H H') ?_ ?_ ?_ ?_⟩
  · exact ⟨[], _, _, _, _, rfl, upd_same, rfl, kT _⟩
  · rintro i σ H' hi ⟨ts, o3, o4, o5, o6, rfl, e1, e2, k1⟩
    exact (hp.kp k1 (by simp)).b
  · rintro i y σ H0 H'' hi ⟨ts, o3, o4, o5, o6, rfl, e1, e2, k1⟩ ⟨T0, y1, y2, rfl, hT, rfl, g1, g2⟩
    cases g1
    obtain ⟨t, ht, hta⟩ := AtL.get hl g2
    have htm : t ∈ rs := List.mem_of_getElem? ht
    cases n with
    | zero => exact (hrs t htm).elim
    | succ n =>
    obtain ⟨b1, x, ks, hs, bs, R, hmk, hbs⟩ := (grow_rb (hrs t htm)).row
    have hTT : Tk ≠ T0 := fun z => by rw [← z, e1] at hT; cases hT
    have k2 : Kp [] H (upd H0 T0 (.tup [.int (i : Nat), y2])) := k1.trans (Kp.rfl'.new hT)
    have hX1 : Kn (Tk :: X) (upd H0 T0 (.tup [.int (i : Nat), y2])) := .cons (by rw [upd_ne hTT]; exact e1) (hX.kp k2 .nil)
    have hTk1 : (upd H0 T0 (.tup [.int (i : Nat), y2])) Tk = some (.lst ts) := by rw [upd_ne hTT]; exact e1
    have e2' : AtL (Tk :: X) (upd H0 T0 (.tup [.int (i : Nat), y2])) (((rs.zipIdx.take i).flatMap (oneP n ns)).map pairT) ts := e2.kp ((Kp.rfl'.new hT : Kp [] H0 _).mono (by simp))
    have ta1 : At (Tk :: X) (upd H0 T0 (.tup [.int (i : Nat), y2])) t y2 := (hta.more hTk).kp (k2.mono (by simp))
    generalize hH1 : upd H0 T0 (.tup [.int (i : Nat), y2]) = H1 at *
    refine ⟨T0, _, rfl, SqT.of (hH1 ▸ upd_same), rfl, _, _, rfl, _, _, rfl, rfl, ?_⟩
    refine ⟨_, rfl, .inl ⟨rfl, _, SqL.of hTk1⟩, _, rfl, _, rfl, (by show 1 ≤ sizeLine; exact ltsz (by decide)), fun tp htp => catA_new (X := Tk :: X) (i := (i : Nat)) ((k2.trans (Kp.rfl'.new htp)) _ _ hpx (by simp)) upd_same (by omega) hX1.upd (hX1.out htp) fun pa H2 hpaX hpa k3 => ?_⟩
    have k4 : Kp [] H1 H2 := (Kp.rfl'.new htp).trans k3
    have hX2 : Kn (Tk :: X) H2 := hX1.kp k4 .nil
    have hTk2 : H2 Tk = some (.lst ts) := k4 _ _ hTk1 (by simp)
    refine ⟨_, rfl, (by show 2 ≤ sizeLine; exact ltsz (by decide)), fun pq hpq => ?_⟩
    have hpqT : pq ≠ Tk := fun z => by rw [z, hTk2] at hpq; cases hpq
    have lts : ts.length ≤ 8 * (1 + 2 * cW n) := by
      rw [e2'.length, List.length_map]
      refine Nat.le_trans (flat_len (c := 1 + 2 * cW n) _ fun q hq => (walk_len hlen hrs).2 q (List.mem_of_mem_take hq) n rfl) (Nat.mul_le_mul_right _ ?_)
      rw [List.length_take, List.length_zipIdx]
      omega
    have cw3 : cW n ≤ 34952 := cW_le (by omega)
    have cs : ∀ m : Nat, m ≤ 1000000 → m < sizeLine := fun m h => Nat.lt_of_le_of_lt h (by decide)
    refine ⟨Tk, _, _, rfl, rfl, by rw [upd_ne hpqT.symm]; exact hTk2, cs _ (by omega), ?_⟩
    have kq : ∀ o, Kp [] H1 (upd H2 pq o) := fun o => k4.trans (Kp.rfl'.new hpq)
    have hlq : AtL (Tk :: X) (upd H2 pq (.tup [.ref pa, y2])) ((((rs.zipIdx.take i).flatMap (oneP n ns)) ++ [(ns ++ [(i : Int)], t)]).map pairT) (ts ++ [.ref pq]) := by
      rw [List.map_append]
      refine (e2'.kp ((kq _).mono (by simp))).snoc ?_
      refine at_pair (fun z => hX2 pq z hpq) upd_same hpaX ?_ (ta1.kp ((kq _).mono (by simp)))
      exact ((Kp.rfl' : Kp [] H2 H2).new hpq) _ _ hpa (by simp)
    have hlq' : AtL (Tk :: X) (upd (upd H2 pq (.tup [.ref pa, y2])) Tk (.lst (ts ++ [.ref pq]))) ((((rs.zipIdx.take i).flatMap (oneP n ns)) ++ [(ns ++ [(i : Int)], t)]).map pairT) (ts ++ [.ref pq]) := AtL.kp (Kp.rfl'.at (by simp)) hlq
    have kH3 : Kp [Tk] H1 (upd (upd H2 pq (.tup [.ref pa, y2])) Tk (.lst (ts ++ [.ref pq]))) := ((kq _).mono (by simp)).trans (Kp.rfl'.at (by simp))
    have hTk3 : (upd (upd H2 pq (.tup [.ref pa, y2])) Tk (.lst (ts ++ [.ref pq]))) Tk = some (.lst (ts ++ [.ref pq])) := upd_same
    have hpx3 : (upd (upd H2 pq (.tup [.ref pa, y2])) Tk (.lst (ts ++ [.ref pq]))) px = some (.tup (ns.map V.int)) := kH3 _ _ (k2 _ _ hpx (by simp)) (by simpa using hpxT)
    generalize hH3 : upd (upd H2 pq (.tup [.ref pa, y2])) Tk (.lst (ts ++ [.ref pq])) = H3 at *
    have hX3 : Kn (Tk :: X) H3 := hX1.kp kH3 (.cons hTk3 .nil)
    have ta3 : At (Tk :: X) H3 t y2 := ta1.kp (kH3.mono (by simp))
    have R' := R
    obtain ⟨rfl, hx, hok, hnb, hsq⟩ := R'
    refine ⟨_, rfl, Tk :: X, _, _, b1, x, ks, hs, bs, rfl, ta3, R, hX3, fun v' H6 hb6 k6 => ?_⟩
    obtain ⟨pb, vb, rfl, hpbX, hpb, hlb⟩ := hb6
    have lb := AtL.length hlb
    have hnbl : nblk x ≤ 2 := nblk_le
    have hX6 : Kn (Tk :: X) H6 := hX3.kp k6 .nil
    refine ⟨false, pb, vb, rfl, hpb.b, for_it (walkE (xs := vb)) (fun j σ H' => ∃ (us : List V) (o5 o6 : Option V), σ = [some (.ref p), some (.ref px), some (.ref Tk), some (.int (i : Nat)), some y2, o5, o6] ∧
      H' Tk = some (.lst us) ∧ AtL (Tk :: X) H' ((((rs.zipIdx.take i).flatMap (oneP n ns)) ++ [(ns ++ [(i : Int)], T.seq b1 (.str x :: (hs ++ bs)))] ++ (bs.zipIdx.take j).flatMap (gP n (ns ++ [(i : Int)]))).map pairT) us ∧ Kp [Tk] H6 H') ?_ ?_ ?_ ?_⟩
    · exact ⟨_, _, _, rfl, k6 _ _ hTk3 (by simp), (by simpa using hlq'.kp (k6.mono (by simp))), Kp.rfl'⟩
    · rintro j σ H' hj ⟨us, o5, o6, rfl, f1, f2, k7⟩
      exact (hpb.kp k7 (fun z => hpbX (by rw [List.mem_singleton.mp z]; simp))).b
    · rintro j y σ H' H'' hj ⟨us, o5, o6, rfl, f1, f2, k7⟩ ⟨T1, z1, z2, rfl, hT1, rfl, g1, g2⟩
      cases g1
      obtain ⟨t2, ht2, hta2⟩ := AtL.get hlb g2
      have hT1T : Tk ≠ T1 := fun z => by rw [← z, f1] at hT1; cases hT1
      have kT1 : Kp [Tk] H6 (upd H' T1 (.tup [.int (j : Nat), z2])) := k7.trans ((Kp.rfl'.new hT1 : Kp [] H' _).mono (by simp))
      obtain ⟨b2, rs2, rfl, hl8, hrs2⟩ := hbs t2 (List.mem_of_getElem? ht2)
      have hTk7 : (upd H' T1 (.tup [.int (j : Nat), z2])) Tk = some (.lst us) := by rw [upd_ne hT1T]; exact f1
      have hX7 : Kn (Tk :: X) (upd H' T1 (.tup [.int (j : Nat), z2])) := hX6.kp kT1 (.cons hTk7 .nil)
      have hpx7 : (upd H' T1 (.tup [.int (j : Nat), z2])) px = some (.tup (ns.map V.int)) := kT1 _ _ (k6 _ _ hpx3 (by simp)) (by simpa using hpxT)
      have f2' : AtL (Tk :: X) (upd H' T1 (.tup [.int (j : Nat), z2])) _ us := f2.kp ((Kp.rfl'.new hT1 : Kp [] H' _).mono (by simp))
      have ta2 : At (Tk :: X) (upd H' T1 (.tup [.int (j : Nat), z2])) (.seq b2 rs2) z2 := hta2.kp (kT1.mono (by simp))
      generalize hH7 : upd H' T1 (.tup [.int (j : Nat), z2]) = H7 at *
      refine ⟨T1, _, rfl, SqT.of (hH7 ▸ upd_same), rfl, _, _, rfl, _, _, rfl, rfl, ?_⟩
      refine ⟨_, rfl, .inl ⟨rfl, _, SqL.of hTk7⟩, _, rfl, _, rfl, _, rfl, _, rfl, (by show 2 ≤ sizeLine; exact ltsz (by decide)), fun tp2 htp2 => catA_news (X := Tk :: X) (ns := ns) (js := [(i : Int), (j : Int)]) ((Kp.rfl'.new htp2 : Kp [] H7 _) _ _ hpx7 (by simp)) (by rw [upd_same]; rfl) (fun z => by cases z) (by show ns.length + 2 ≤ 1000; omega) hX7.upd (hX7.out htp2) fun pa2 H8 hpa2X hpa2' k8 => ?_⟩
      have hpa2 : H8 pa2 = some (.tup ((ns ++ [(i : Int)] ++ [(j : Int)]).map V.int)) := by rw [hpa2']; simp
      have k9 : Kp [] H7 H8 := (Kp.rfl'.new htp2).trans k8
      have hX8 : Kn (Tk :: X) H8 := hX7.kp k9 .nil
      refine ⟨Tk :: X, b2, _, rs2, z2, pa2, ns ++ [(i : Int)] ++ [(j : Int)], rfl, ta2.kp (k9.mono (by simp)), hl8, hrs2, hpa2, by simp only [List.length_append, List.length_cons, List.length_nil]; omega, by omega, hpa2X, hX8, fun pw ws H9 hpwX hpw hws k10 => ?_⟩
      have k11 : Kp [] H7 H9 := k9.trans k10
      have f3 := hws.length
      rw [List.length_map] at f3
      have f4 := (walk_len (ns := ns ++ [(i : Int)] ++ [(j : Int)]) hl8 hrs2).1
      have f5 := f2.length
      have f6 : ((bs.zipIdx.take j).flatMap (gP n (ns ++ [(i : Int)]))).length ≤ 2 * cW n := by
        refine Nat.le_trans (flat_len (c := cW n) _ fun u hu => ?_) (Nat.mul_le_mul_right _ ?_)
        · obtain ⟨b3, rs3, e, hl3, hr3⟩ := hbs u.1 (mem_zip (List.mem_of_mem_take hu))
          unfold gP
          rw [e]
          exact (walk_len hl3 hr3).1
        · rw [List.length_take, List.length_zipIdx]
          omega
      simp only [List.length_map, List.length_append, List.length_cons, List.length_nil] at f5
      have lts' : ts.length = ((rs.zipIdx.take i).flatMap (oneP n ns)).length := by rw [e2'.length, List.length_map]
      refine ⟨Tk, pw, us, ws, rfl, rfl, k11 _ _ hTk7 (by simp), hpw, Nat.le_of_lt (cs _ (by omega)), us ++ ws, _, _, rfl, upd_same, ?_, ?_⟩
      · rw [flat_next ht2, ← List.append_assoc, List.map_append]
        exact AtL.kp (Kp.rfl'.at (by simp)) ((f2'.kp (k11.mono (by simp))).append hws)
      · exact (kT1.trans (k11.mono (by simp))).trans (Kp.rfl'.at (by simp))
    · rintro σ H' ⟨us, o5, o6, rfl, f1, f2, k7⟩
      refine ⟨us, _, _, _, _, rfl, f1, ?_, ?_⟩
      · rw [flat_next ht, oneP, R.blks]
        rw [lb, flat_all] at f2
        simpa using f2
      · exact Kp.drop (Y := [Tk]) (X := []) (((k2.mono (by simp)).trans kH3).trans ((k6.mono (by simp)).trans k7)) (fun z hz => by rw [List.mem_singleton.mp hz]; exact hTk)
  · rintro σ H' ⟨ts, o3, o4, o5, o6, rfl, e1, e2, k1⟩
    refine ⟨_, rfl, q Tk ts H' hTX e1 ?_ k1⟩
    rw [hvl, flat_all] at e2
    cases n with
    | zero =>
      cases rs with
      | nil => exact e2.less fun z hz => List.mem_cons_of_mem _ hz
      | cons r rs => exact (hrs r (List.mem_cons_self ..)).elim
    | succ n => exact e2.less fun z hz => List.mem_cons_of_mem _ hz
end
end Fs

namespace Fs
open PySem L2
abbrev ssame : Stmt := top 41
theorem scsame : FnScope ["_law_found", "_law_due", "_law_one", "_law_two"] ["_law_found", "_law_due"] (defScope ssame) := ⟨rfl, rfl, rfl, by decide +kernel, rfl, by decide +kernel, by decide +kernel⟩
/-- trees of whole numbers and words -/
def Pl : Nat → T → Prop
  | _, .int _ => True
  | _, .str _ => True
  | n + 1, .seq _ ts => ts.length ≤ 200000 ∧ ∀ t ∈ ts, Pl n t
  | _, _ => False
def spSame (n : Nat) : Sp := fun vs H Q _ => ∃ (X : List Addr) (t : T) (v1 v2 : V), vs = [v1, v2] ∧ At X H t v1 ∧ At X H t v2 ∧ Pl n t ∧ ∀ H' : Hp, Kp [] H H' → Q (.bl true) H'
def spSameQ : Nat → Sp
  | 0 => fun _ _ _ _ => False
  | n + 1 => spSame n
section
variable {P : Program} {w : World} {K : PySem.W.Frag} {mg : Str → Option Value} {base : Heap} {f f1 f2 f3 f4 f5 f6 : Addr} {fd fd1 fd2 fd3 fd4 fd5 fd6 : FuncData}
theorem ok_same {n k : Nat} (hk : 1 ≤ k) (D : Df K mg "_law_same" ssame ["_law_found", "_law_due"] f fd) (B : Bn mg)
    (Gsame : FnOk P w K mg base CX0 k f fd ["_law_found", "_law_due"] (spSameQ n)) : FnOk P w K mg base CX0 (k + 1) f fd ["_law_found", "_law_due"] (spSame n) := by
  have Dsame := D
  refine D.F.ok scsame (fun vs H Q E h => ?_) (fun cdv A outer s H vs Q E hr h => ?_)
  · obtain ⟨X, t, v1, v2, rfl, _⟩ := h
    rfl
  obtain ⟨X, t, v1, v2, rfl, h1, h2, hp, q⟩ := h
  refine ⟨_, (Evl.pss_cut (ps_if (pt_val (pe_callB call_isiT (by rfl) B.isinstance (by decide +kernel) (pa_cons (pv 1) (pa_cons (pe_tup (pa_cons (pe_bltn (v := .ty "list") (by rfl) B.list (by decide +kernel) rfl) (pa_cons (pe_bltn (v := .ty "tuple") (by rfl) B.tuple (by decide +kernel) rfl) pa_nil))) pa_nil))))
  (Evl.pss_cut (ps_if (PW.pt (pw_or (pt_cmpR op_ne (pe_callB call_isi (by rfl) B.isinstance (by decide +kernel) (pa_cons (pv 0) (pa_cons (pe_bltn (v := .ty "list") (by rfl) B.list (by decide +kernel) rfl) pa_nil))) (pe_callB call_isi (by rfl) B.isinstance (by decide +kernel) (pa_cons (pv 1) (pa_cons (pe_bltn (v := .ty "list") (by rfl) B.list (by decide +kernel) rfl) pa_nil))) (nomark _)) (pw_or1 (pt_cmpR op_ne (pe_callB call_isi (by rfl) B.isinstance (by decide +kernel) (pa_cons (pv 0) (pa_cons (pe_bltn (v := .ty "tuple") (by rfl) B.tuple (by decide +kernel) rfl) pa_nil))) (pe_callB call_isi (by rfl) B.isinstance (by decide +kernel) (pa_cons (pv 1) (pa_cons (pe_bltn (v := .ty "tuple") (by rfl) B.tuple (by decide +kernel) rfl) pa_nil))) (nomark _)))))
  (pss_one (ps_ret pe_bl))
  pss_nil)
 (pss_one (ps_ret (pe_and (pe_cmpR op_eq (pe_callB call_len_seq (by rfl) B.len PySem.boot_len (pa_cons (pv 0) pa_nil)) (pe_callB call_len_seq (by rfl) B.len PySem.boot_len (pa_cons (pv 1) pa_nil)) (nomark _)) (pe_one (pe_callB (cr_all rfl) (by rfl) B.all (by decide +kernel) (pa_cons (pe_lc (own := [("_law_one", 2), ("_law_two", 3)]) (g := (gTup K 2 (gCons (gName 2) (gCons (gName 3) gNil)))) rfl scsame.nd (pi_zipS (by rfl) B.zip (pa_cons (pv 0) (pa_cons (pv 1) pa_nil))) (blkOk_by (N := ["_law_found", "_law_due", "_law_one", "_law_two"]) (sc := defScope ssame) (by decide +kernel)) (fun _ _ _ _ _ => (pg_tup (by rfl) (pgs_cons (pg_name (i := 2) scsame.nd rfl (Or.inl rfl)) (pgs_cons (pg_name (i := 3) scsame.nd rfl (Or.inl rfl)) pgs_nil)))) (fun _ _ _ _ _ => pts_nil) (fun _ _ _ _ _ => (pe_call Gsame (hr.mono (by omega)) rfl Dsame.g Dsame.F.kp Dsame.b .nil pass0 (pa_cons (pv 2) (pa_cons (pv 3) pa_nil))))) pa_nil)))))))
  pss_nil)
 (Evl.pss_cut (ps_if (pt_val (pe_callB call_isiT (by rfl) B.isinstance (by decide +kernel) (pa_cons (pv 1) (pa_cons (pe_tup (pa_cons (pe_bltn (v := .ty "bool") (by rfl) B.bool (by decide +kernel) rfl) (pa_cons (pe_bltn (v := .ty "int") (by rfl) B.int (by decide +kernel) rfl) pa_nil))) pa_nil))))
  (pss_one (ps_ret (pe_and (pe_callB call_isi (by rfl) B.isinstance (by decide +kernel) (pa_cons (pv 0) (pa_cons (pe_bltn (v := .ty "int") (by rfl) B.int (by decide +kernel) rfl) pa_nil))) (pe_and (pe_cmpR op_eq (pe_callB call_isi (by rfl) B.isinstance (by decide +kernel) (pa_cons (pv 0) (pa_cons (pe_bltn (v := .ty "bool") (by rfl) B.bool (by decide +kernel) rfl) pa_nil))) (pe_callB call_isi (by rfl) B.isinstance (by decide +kernel) (pa_cons (pv 1) (pa_cons (pe_bltn (v := .ty "bool") (by rfl) B.bool (by decide +kernel) rfl) pa_nil))) (nomark _)) (pe_one (pe_cmpR op_eq (pv 0) (pv 1) (nomark _)))))))
  pss_nil)
 (pss_one (ps_ret (pe_and (pe_not (pe_callB call_isiT (by rfl) B.isinstance (by decide +kernel) (pa_cons (pv 0) (pa_cons (pe_tup (pa_cons (pe_bltn (v := .ty "bool") (by rfl) B.bool (by decide +kernel) rfl) (pa_cons (pe_bltn (v := .ty "list") (by rfl) B.list (by decide +kernel) rfl) (pa_cons (pe_bltn (v := .ty "tuple") (by rfl) B.tuple (by decide +kernel) rfl) pa_nil)))) pa_nil)))) (pe_one (pe_cmpR op_eq (pv 0) (pv 1) (nomark _)))))))), ?_⟩
  have hty1 := fun (H' : Hp) (k : Kp [] H H') => tyX_at (K := K) (h1.kp (k.mono (by simp)))
  have hty2 := fun (H' : Hp) (k : Kp [] H H') => tyX_at (K := K) (h2.kp (k.mono (by simp)))
  have kt : ∀ (tp : Addr) (o : HO), H tp = none → Kp [] H (upd H tp o) := fun tp o h => Kp.rfl'.new h
  cases t with
  | non => cases n <;> exact hp.elim
  | bl b => cases n <;> exact hp.elim
  | int i =>
    cases (show v1 = .int i from h1)
    cases (show v2 = .int i from h2)
    refine ⟨fun σ' H' => σ' = [some (.int i), some (.int i), none, none] ∧ Kp [] H H', ?_, ?_⟩
    · refine ⟨_, rfl, (by show 2 ≤ sizeLine; exact ltsz (by decide)), fun tp htp => ⟨_, tp, _, _, _, _, rfl, upd_same, isiP, hty2 _ (kt _ _ htp), kit_seq _, _, rfl, ?_⟩⟩
      exact ite2 (fun z => nomatch z) (fun _ => ⟨rfl, kt _ _ htp⟩)
    rintro σ' H1 ⟨rfl, k1⟩
    refine ⟨fun _ _ => False, ?_, fun _ _ z => z.elim⟩
    refine ⟨_, rfl, (by show 2 ≤ sizeLine; exact ltsz (by decide)), fun tp htp => ⟨_, tp, _, _, [.type "bool", .type "int"], true, rfl, upd_same, .cons (.ty _) (.cons (.ty _) .nil), hty2 _ (k1.new (k1.free htp (by simp))),
      kitAny_cons (b := false) (kit_ty (a := "int") (b := "bool") (by decide +kernel)) (fun _ => kitAny_cons (b := true) (kit_ty (a := "int") (b := "int") (by decide +kernel)) (fun z => nomatch z) (fun _ => rfl)) (fun z => nomatch z), _, rfl, ?_⟩⟩
    have k2 : ∀ o, Kp [] H (upd H1 tp o) := fun o => k1.new (k1.free htp (by simp))
    refine ⟨_, rfl, _, _, _, _, true, rfl, .ty _, hty1 _ (k2 _), kit_ty (a := "int") (b := "int") (by decide +kernel), _, rfl, ?_⟩
    refine ⟨_, rfl, _, _, _, _, false, rfl, .ty _, hty1 _ (k2 _), kit_ty (a := "int") (b := "bool") (by decide +kernel), _, rfl, _, _, _, _, false, rfl, .ty _, hty2 _ (k2 _), kit_ty (a := "int") (b := "bool") (by decide +kernel), rfl, _, rfl, ?_⟩
    refine ite2 (fun _ => ⟨_, rfl, _, rfl, rfl, ?_⟩) (fun z => absurd (by simp) z)
    rw [show decide (V.int i = V.int i) = true by simp]
    exact q _ (k2 _)
  | str x =>
    cases (show v1 = .str x from h1)
    cases (show v2 = .str x from h2)
    refine ⟨fun σ' H' => σ' = [some (.str x), some (.str x), none, none] ∧ Kp [] H H', ?_, ?_⟩
    · refine ⟨_, rfl, (by show 2 ≤ sizeLine; exact ltsz (by decide)), fun tp htp => ⟨_, tp, _, _, _, _, rfl, upd_same, isiP, hty2 _ (kt _ _ htp), kit_seq _, _, rfl, ?_⟩⟩
      exact ite2 (fun z => nomatch z) (fun _ => ⟨rfl, kt _ _ htp⟩)
    rintro σ' H1 ⟨rfl, k1⟩
    refine ⟨fun σ' H' => σ' = [some (.str x), some (.str x), none, none] ∧ Kp [] H H', ?_, ?_⟩
    · refine ⟨_, rfl, (by show 2 ≤ sizeLine; exact ltsz (by decide)), fun tp htp => ⟨_, tp, _, _, [.type "bool", .type "int"], false, rfl, upd_same, .cons (.ty _) (.cons (.ty _) .nil), hty2 _ (k1.new (k1.free htp (by simp))),
        kitAny_cons (b := false) (kit_ty (a := "str") (b := "bool") (by decide +kernel)) (fun _ => kitAny_cons (b := false) (kit_ty (a := "str") (b := "int") (by decide +kernel)) (fun _ => kitAny_nil) (fun z => nomatch z)) (fun z => nomatch z), _, rfl, ?_⟩⟩
      exact ite2 (fun z => nomatch z) (fun _ => ⟨rfl, k1.new (k1.free htp (by simp))⟩)
    rintro σ' H2 ⟨rfl, k2⟩
    refine ⟨_, rfl, (by show 3 ≤ sizeLine; exact ltsz (by decide)), fun tp htp => ⟨_, tp, _, _, [.type "bool", .type "list", .type "tuple"], false, rfl, upd_same, .cons (.ty _) (.cons (.ty _) (.cons (.ty _) .nil)), hty1 _ (k2.new (k2.free htp (by simp))),
        kitAny_cons (b := false) (kit_ty (a := "str") (b := "bool") (by decide +kernel)) (fun _ => kitAny_cons (b := false) (kit_ty (a := "str") (b := "list") (by decide +kernel)) (fun _ => kitAny_cons (b := false) (kit_ty (a := "str") (b := "tuple") (by decide +kernel)) (fun _ => kitAny_nil) (fun z => nomatch z)) (fun z => nomatch z)) (fun z => nomatch z), _, rfl, ?_⟩⟩
    refine ⟨_, rfl, ite2 (fun _ => ⟨_, rfl, _, rfl, rfl, ?_⟩) (fun z => absurd rfl z)⟩
    rw [show decide (V.str x = V.str x) = true by simp]
    exact q _ (k2.new (k2.free htp (by simp)))
  | seq b ts =>
    obtain ⟨p1, vs1, rfl, hp1X, hp1, hl1⟩ := h1
    obtain ⟨p2, vs2, rfl, hp2X, hp2, hl2⟩ := h2
    cases n with
    | zero => exact hp.elim
    | succ n =>
    obtain ⟨hlen, hall⟩ := (show ts.length ≤ 200000 ∧ ∀ t ∈ ts, Pl n t from hp)
    have kl : PySem.W.kitOne K (.type (T.seq b ts).ty) (.type "list") = some (!b) := by
      cases b
      · exact kit_ty (a := "list") (b := "list") (by decide +kernel)
      · exact kit_ty (a := "tuple") (b := "list") (by decide +kernel)
    have ktt : PySem.W.kitOne K (.type (T.seq b ts).ty) (.type "tuple") = some b := by
      cases b
      · exact kit_ty (a := "list") (b := "tuple") (by decide +kernel)
      · exact kit_ty (a := "tuple") (b := "tuple") (by decide +kernel)
    refine ⟨fun _ _ => False, ?_, fun _ _ z => z.elim⟩
    refine ⟨_, rfl, (by show 2 ≤ sizeLine; exact ltsz (by decide)), fun tp htp => ⟨_, tp, _, _, _, _, rfl, upd_same, isiP, hty2 _ (kt _ _ htp), kit_seq _, _, rfl, ?_⟩⟩
    have kg : ∀ o, Kp [] H (upd H tp o) := fun o => kt _ _ htp
    refine ite2 (fun _ => ?_) (fun z => absurd rfl z)
    generalize hG : upd H tp (HO.tup [V.ty "list", V.ty "tuple"]) = G
    have kG : Kp [] H G := hG ▸ kg _
    refine ⟨fun σ' H' => σ' = [some (.ref p1), some (.ref p2), none, none] ∧ H' = G, ?_, ?_⟩
    · refine ⟨_, rfl, _, _, _, _, _, rfl, .ty _, hty1 _ kG, kl, _, rfl, _, _, _, _, _, rfl, .ty _, hty2 _ kG, kl, rfl, _, rfl, ?_⟩
      refine ite2 (fun z => absurd z (by simp)) (fun _ => ?_)
      refine ⟨_, rfl, _, _, _, _, _, rfl, .ty _, hty1 _ kG, ktt, _, rfl, _, _, _, _, _, rfl, .ty _, hty2 _ kG, ktt, rfl, _, rfl, ?_⟩
      exact ite2 (fun z => absurd z (by simp)) (fun _ => ⟨rfl, rfl⟩)
    rintro σ' H1 ⟨rfl, rfl⟩
    have e1 := hl1.length
    have e2 := hl2.length
    have hp1' := hp1.kp kG (by simp)
    have hp2' := hp2.kp kG (by simp)
    refine ⟨_, rfl, p1, _, rfl, hp1'.or, _, rfl, p2, _, rfl, hp2'.or, rfl, _, rfl, ite2 (fun _ => ?_) (fun z => absurd (decide_eq_true (by rw [e1, e2])) z)⟩
    refine ⟨_, rfl, _, rfl, b, p1, b, p2, _, _, rfl, hp1'.b, hp2'.b, fun D hD => ?_⟩
    have lz : ts.length = min vs1.length vs2.length := by rw [e1, e2, Nat.min_self]
    refine lc_it (walkZ (xs := vs1) (ys := vs2) lz) (fun i H' => H' D = some (.lst (List.replicate i (V.bl true))) ∧ Kp [] H1 H') ?_ ?_ ?_ ?_
    · exact ⟨upd_same, Kp.rfl'.new hD⟩
    · rintro i H' hi ⟨_, k'⟩
      exact ⟨(hp1'.kp k' (by simp)).b, (hp2'.kp k' (by simp)).b⟩
    · rintro i y H' H'' hi ⟨f1, k'⟩ ⟨T0, y1, y2, rfl, hT, rfl, g1, g2⟩
      obtain ⟨t, ht, hta⟩ := AtL.get hl1 g1
      obtain ⟨t', ht', hta'⟩ := AtL.get hl2 g2
      rw [ht] at ht'
      cases ht'
      have hDT : D ≠ T0 := fun z => by rw [← z, f1] at hT; cases hT
      have kT : Kp [] H1 (upd H' T0 (.tup [y1, y2])) := k'.trans (Kp.rfl'.new hT)
      have kk := (kG.trans kT)
      have hpl := hall t (List.mem_of_getElem? ht)
      refine ⟨T0, _, rfl, SqT.of upd_same, rfl, _, _, rfl, _, _, rfl, rfl, rfl, _, rfl, _, rfl, ?_⟩
      refine ⟨X, t, y1, y2, rfl, hta.kp (kk.mono (by simp)), hta'.kp (kk.mono (by simp)), hpl, fun H3 k3 => ?_⟩
      have hD3 : H3 D = some (.lst (List.replicate i (V.bl true))) := k3 _ _ (by rw [upd_ne hDT]; exact f1) (by simp)
      refine ⟨_, hD3, by rw [List.length_replicate]; exact Nat.lt_of_le_of_lt (m := 200000) (by omega) (by decide), ?_, (kT.trans k3).new hD⟩
      rw [upd_same, ← List.replicate_succ']
    · rintro H' ⟨f1, k'⟩
      have f1' : H' D = some (.lst ((List.replicate ts.length true).map V.bl)) := by rw [List.map_replicate]; exact f1
      refine ⟨D, _, rfl, SqL.of f1', ?_⟩
      rw [all_true]
      exact q _ (kG.trans k')
end
end Fs

/-! sorted of a list of pairs (word, path) -/
namespace Fs
open PySem PySem.Spec PyProof.Rows L2 PySem.W
abbrev PP : Type := Str × List Int
def encP (q : PP) : PyData := .tuple [.str q.1, .tuple (q.2.map .int)]
def ppT (q : PP) : T := .seq true [.str q.1, pathT q.2]
theorem dp_ints {K : PySem.W.Frag} {X : List Addr} {H : Hp} : ∀ {ns : List Int} {vs : List V}, AtL X H (ns.map T.int) vs → DpAll K H vs (ns.map .int)
  | [], _, h => by rw [show _ = [] from h]; exact .nil
  | n :: ns, vs, h => by
    obtain ⟨v, r, rfl, a, l⟩ := h
    rw [show v = .int n from a]
    exact .cons (.int n) (dp_ints l)
theorem sqT_rd {K : PySem.W.Frag} {H : Hp} {p : Addr} {vs : List V} (h : Sq H true p vs) : SqT K H p vs := h.t
theorem dp_pp {K : PySem.W.Frag} {X : List Addr} {H : Hp} {q : PP} {v : V} (h : At X H (ppT q) v) : Dp K H v (encP q) := by
  obtain ⟨p, vs, rfl, _, hp, v1, r1, rfl, e1, v2, r2, rfl, ⟨p2, vs2, rfl, _, hp2, hl2⟩, e3⟩ := h
  rw [show v1 = .str q.1 from e1, show r2 = [] from e3] at hp
  exact .tup hp.t (.cons (.str _) (.cons (.tup hp2.t (dp_ints hl2)) .nil))
def rSortPP (K : PySem.W.Frag) : List V → Hp → VK → Prop := fun vs H Q => ∃ (X : List Addr) (a : Addr) (us : List V) (bs : List PP), vs = [.ref a] ∧ SqL K H a us ∧ AtL X H (bs.map ppT) us ∧
  ∀ (ws : List V) (p : Addr), H p = none → AtL X H ((bs.mergeSort (dataLe false encP)).map ppT) ws → Q (.ref p) (upd H p (.lst ws))
section
variable {X : Cx}
theorem each_at {Y : List Addr} {H : Hp} : ∀ {bs : List PP} {us : List V} {its : List Value}, AtL Y H (bs.map ppT) us → Vals us its → EachIs (fun v b => ∃ u, RelV u v ∧ At Y H (ppT b) u) its bs
  | [], us, its, h, r => by
    rw [show us = [] from h] at r
    cases r
    exact .nil
  | b :: bs, us, its, h, r => by
    obtain ⟨u, q, rfl, a, l⟩ := h
    cases r with
    | cons h1 h2 => exact .cons ⟨u, h1, a⟩ (each_at l h2)
theorem at_each {Y : List Addr} {H : Hp} : ∀ {bs : List PP} {its : List Value}, EachIs (fun v b => ∃ u, RelV u v ∧ At Y H (ppT b) u) its bs → ∃ us, AtL Y H (bs.map ppT) us ∧ Vals us its
  | _, _, .nil => ⟨[], rfl, .nil⟩
  | _, _, .cons ⟨u, r, a⟩ t => by
    obtain ⟨us, l, rs⟩ := at_each t
    exact ⟨u :: us, ⟨u, us, rfl, a, l⟩, .cons r rs⟩
theorem encP_alike (a b : PP) : alike (encP a) (encP b) = true := by
  show alike (.tuple [.str a.1, .tuple (a.2.map .int)]) (.tuple [.str b.1, .tuple (b.2.map .int)]) = true
  simp [alike, alikeAll, alike_ints]
theorem encP_depth (a : PP) : (encP a).depth ≤ 2 := by
  show PyData.depth (.tuple [.str a.1, .tuple (a.2.map .int)]) ≤ 2
  simp [PyData.depth, PyData.depthAll, depth_ints]
theorem cr_sortPP (hu : X.A.units + 64 < cLine) : CallR X (.builtin "sorted") (rSortPP X.K) := by
  intro pins s σ H vs us Q I r h
  obtain ⟨Y, a, xs, bs, rfl, hs, hat, q⟩ := h
  obtain ⟨its, rv, hl, hz⟩ := I.list hs
  rw [Vals.ref1 r]
  have hlen : xs.length = bs.length := by rw [hat.length, List.length_map]
  have e := each_at hat rv
  refine sorted_data (enc := encP) hl.isList e (e.mono fun v b ⟨u, ru, hu⟩ => Dp.reads I _ _ _ (dp_pp hu) ru) (AllAlike.of encP_alike) (Sortable.tuples fun b => ⟨_, _, rfl⟩) (by rw [← hlen]; exact hz) (fun b _ => by have := encP_depth b; omega) fun out ho hout => ?_
  obtain ⟨ws, hw, rw'⟩ := at_each hout
  obtain ⟨ep, he'⟩ := PyProof.Rows.sortedAll_at s.heap its out.toArray
  exact ⟨.ref _, upd H (s.heap.objs.size + 1) (.lst ws), I.laid (t' := s.toks) (fun _ _ => PyProof.Rows.sortedAll_old) (Nat.le_succ _) ⟨by rw [hw.length, List.length_map, List.length_mergeSort, ← hlen]; exact hz, out, ep, rw', he'⟩, rfl, q _ _ (I.hok.fresh (Nat.le_succ _)) hw⟩
end
end Fs

namespace Fs
open PySem L2
abbrev sPrograminit : Stmt := inClass (top 36) 0
theorem scPrograminit : FnScope ["self", "modules", "module", "rows", "listed", "path", "row"] ["self", "modules"] (defScope sPrograminit) := ⟨rfl, rfl, rfl, by decide +kernel, rfl, by decide +kernel, by decide +kernel⟩
abbrev sProgramplaces : Stmt := inClass (top 36) 2
theorem scProgramplaces : FnScope ["self"] ["self"] (defScope sProgramplaces) := ⟨rfl, rfl, rfl, by decide +kernel, rfl, by decide +kernel, by decide +kernel⟩
abbrev sblocksbyprefix : Stmt := top 35
theorem scblocksbyprefix : FnScope ["listed", "blocks", "module", "pairs", "path", "row", "key"] ["listed"] (defScope sblocksbyprefix) := ⟨rfl, rfl, rfl, by decide +kernel, rfl, by decide +kernel, by decide +kernel⟩
/-! walks by invariants: a dict comprehension; a list comprehension of two fors -/
section
variable {J J1 : It} {n m : Nat} {G G1 : Hp → Prop} {Y Y1 : Nat → Hp → V → Hp → Prop}
theorem by_walk (wk : Walk J n G Y) {Start : Hp} {Pv : Nat → Hp → Prop} {Fin : Hp → Prop} {Turn : (Hp → Prop) → V → Hp → Prop} (h0 : Pv 0 Start) (hG : ∀ i H, i ≤ n → Pv i H → G H)
    (hs : ∀ i x H H', i < n → Pv i H → Y i H x H' → Turn (Pv (i + 1)) x H') (hd : ∀ H, Pv n H → Fin H) :
    ∃ W : Nat → Nat → Hp → Prop, (∃ k, W 0 k Start) ∧ ∀ i k H, W i k H → (J.stop i H ∧ Fin H) ∨ (J.go i H ∧ ∃ Nx : Hp → Prop, (∀ H', Nx H' → ∃ k', k' < k ∧ W (i + 1) k' H') ∧ ∀ x H', J.yld i H x H' → Turn Nx x H') := by
  refine ⟨fun i left H => Pv i H ∧ left + i = n, ⟨n, h0, rfl⟩, fun i left H st => ?_⟩
  obtain ⟨pv, el⟩ := st
  have hle : i ≤ n := by omega
  have gh := hG i H hle pv
  by_cases hlt : i < n
  · refine .inr ⟨wk.goes i H hlt gh, Pv (i + 1), fun H2 p2 => ⟨left - 1, by omega, p2, by omega⟩, fun x H2 y => ?_⟩
    exact hs i x H H2 hlt pv (wk.yields i H x H2 hlt gh y)
  · have ei : i = n := by omega
    rw [ei] at pv ⊢
    exact .inl ⟨wk.stops H gh, hd H pv⟩
end
theorem GR.tupled {R : Bool → T → Prop} (hR : ∀ m t, R m t → R m t.tupled) {mk : Bool} {t : T} (h : GR R mk t) : GR R mk t.tupled := by
  obtain ⟨b, x, ks, hs, bs, rfl, h1, h2, h3, h4, h5⟩ := h
  refine ⟨true, x, ks, hs, bs.map T.tupled, ?_, h1, h2, by rw [List.length_map]; exact h3, h4, fun y hy => ?_⟩
  · rw [T.tupled, List.map_cons, List.map_append, h2.tup, show T.tupled (.str x) = .str x by rw [T.tupled]; intro b u z; cases z]
  · obtain ⟨y', hy', rfl⟩ := List.mem_map.mp hy
    obtain ⟨b', rs, rfl, l, a⟩ := h5 y' hy'
    refine ⟨true, rs.map T.tupled, by rw [T.tupled], by rw [List.length_map]; exact l, fun r hr => ?_⟩
    obtain ⟨r', hr', rfl⟩ := List.mem_map.mp hr
    exact hR _ _ (a r' hr')
theorem GRow.tupled : ∀ {n : Nat} {mk : Bool} {t : T}, GRow n mk t → GRow n mk t.tupled
  | 0, _, _, h => GR.tupled (fun _ _ z => z.elim) h
  | n + 1, _, _, h => GR.tupled (R := GRow n) (fun _ _ z => GRow.tupled z) h
theorem GB.tupled {n : Nat} {mk : Bool} {x : T} (h : GB (GRow n) mk x) : GB (GRow n) mk x.tupled := by
  obtain ⟨b, rs, rfl, l, a⟩ := h
  refine ⟨true, rs.map T.tupled, by rw [T.tupled], by rw [List.length_map]; exact l, fun r hr => ?_⟩
  obtain ⟨r', hr', rfl⟩ := List.mem_map.mp hr
  exact GRow.tupled (a r' hr')
theorem nd_take {α : Type} {l : List α} {i : Nat} {x : α} (h : l.Nodup) (e : l[i]? = some x) : x ∉ l.take i := fun hm => by
  obtain ⟨j, hj⟩ := List.mem_iff_getElem?.mp hm
  have hl := (List.getElem?_eq_some_iff.mp hj).1
  rw [List.length_take] at hl
  have hi := (List.getElem?_eq_some_iff.mp e).1
  have hji : j < i := by omega
  have hjl : j < l.length := by omega
  rw [List.getElem?_take_of_lt hji, List.getElem?_eq_getElem hjl] at hj
  rw [List.getElem?_eq_getElem hi] at e
  have := (List.getElem_inj (h₀ := hjl) (h₁ := hi) h).mp ((Option.some.inj hj).trans (Option.some.inj e).symm)
  omega
theorem putL_new {lib : List (Str × T)} {x : Str} {t : T} (h : x ∉ lib.map (·.1)) : putL lib x t = lib ++ [(x, t)] := by
  unfold putL
  rw [if_neg]
  intro z
  obtain ⟨p', hp', ep⟩ := List.any_eq_true.mp z
  exact h (by rw [← of_decide_eq_true ep]; exact List.mem_map_of_mem hp')
theorem KvAt.get {X : List Addr} {H : Hp} : ∀ {lib : List (Str × T)} {kvs : List (Key × V)} {i : Nat} {kv : Key × V}, KvAt X H lib kvs → kvs[i]? = some kv → ∃ q, lib[i]? = some q ∧ kv.1 = .inr q.1 ∧ At X H q.2 kv.2
  | [], kvs, i, kv, h, e => by rw [show kvs = [] from h] at e; cases e
  | (x, t) :: r, kvs, 0, kv, h, e => by
    obtain ⟨v, q, rfl, a, l⟩ := h
    cases e
    exact ⟨_, rfl, rfl, a⟩
  | (x, t) :: r, kvs, i + 1, kv, h, e => by
    obtain ⟨v, q, rfl, a, l⟩ := h
    exact KvAt.get (i := i) l e
theorem Kp.back {X : List Addr} {H H' : Hp} {a : Addr} {o : HO} (k : Kp (a :: X) H H') (h : H a = some o) (h' : H' a = some o) : Kp X H H' := fun b u e n => by
  by_cases z : b = a
  · rw [z] at e ⊢
    rw [h] at e
    rw [h', e]
  · exact k b u e fun y => (List.mem_cons.mp y).elim z n
def T.word : T → Str
  | .seq _ (.str x :: _) => x
  | _ => ""
def impB (u : List Int × T) : Bool := inV (.str u.2.word) [.str "load", .str "pick"]
def lstT (q : Str × T) : Str × T := (q.1, .seq false ((walkP 4 [] q.2.kids).map pairT))
def plOne (m : Str) (us : List (List Int × T)) : List PP := (us.filter impB).map fun u => (m, u.1)
def placesOf (out : List (Str × T)) : List PP := out.flatMap fun q => plOne q.1 (walkP 4 [] q.2.kids)
theorem walk_rows : ∀ {n : Nat} {mk : Bool} {ns : List Int} {rs : List T}, (∀ r ∈ rs, RB n mk r) → ∀ u ∈ walkP n ns rs, ∃ b x rest, u.2 = .seq b (.str x :: rest)
  | 0, _, _, _, _, u, hu => nomatch hu
  | n + 1, mk, ns, rs, hr, u, hu => by
    rw [walkP_succ] at hu
    obtain ⟨q, hq, hu⟩ := List.mem_flatMap.mp hu
    obtain ⟨b1, x, ks, hs, bs, R, hmk, hbs⟩ := (grow_rb (hr q.1 (mem_zip hq))).row
    unfold oneP at hu
    rcases List.mem_cons.mp hu with e | hu
    · rw [e]
      exact ⟨_, _, _, R.eq⟩
    · obtain ⟨y, hy, hu⟩ := List.mem_flatMap.mp hu
      rw [R.blks] at hy
      obtain ⟨b2, rs2, e, _, hr2⟩ := hbs y.1 (mem_zip hy)
      unfold gP at hu
      rw [e] at hu
      exact walk_rows (n := n) hr2 u hu
theorem plOne_len {m : Str} {us : List (List Int × T)} : (plOne m us).length ≤ us.length := by
  unfold plOne
  rw [List.length_map]
  exact List.length_filter_le _ _
theorem plOne_next {m : Str} {us : List (List Int × T)} {j : Nat} {u : List Int × T} (h : us[j]? = some u) : plOne m (us.take (j + 1)) = plOne m (us.take j) ++ (if impB u = true then [(m, u.1)] else []) := by
  unfold plOne
  rw [List.take_add_one, h, List.filter_append, List.map_append]
  by_cases e : impB u = true
  · rw [if_pos e]
    simp [e]
  · rw [if_neg e]
    simp [e]
/-- a library as it is taken: at most four modules, right rows -/
structure OLib (out : List (Str × T)) : Prop where
  few : out.length ≤ 4
  nd : (out.map (·.1)).Nodup
  ok : ∀ p ∈ out, wordB p.1 = true ∧ GB (GRow 3) false p.2
theorem OLib.walk {out : List (Str × T)} (o : OLib out) {q : Str × T} (h : q ∈ out) : (walkP 4 [] q.2.kids).length ≤ 34952 ∧ ∀ u ∈ walkP 4 [] q.2.kids, ∃ b x rest, u.2 = .seq b (.str x :: rest) := by
  obtain ⟨b, rs, e, l, a⟩ := (o.ok q h).2
  rw [e]
  exact ⟨Nat.le_trans (walk_len (n := 4) (mk := false) l a).1 (cW_le (Nat.le_refl 4)), walk_rows (n := 4) (mk := false) a⟩
theorem OLib.len {out : List (Str × T)} (o : OLib out) (i : Nat) : (placesOf (out.take i)).length ≤ 4 * 34952 := by
  unfold placesOf
  have h : ∀ (l : List (Str × T)), (∀ q ∈ l, q ∈ out) → (l.flatMap fun q => plOne q.1 (walkP 4 [] q.2.kids)).length ≤ l.length * 34952 := by
    intro l
    induction l with
    | nil => intro _; simp
    | cons q l ih =>
      intro hq
      rw [List.flatMap_cons, List.length_append, List.length_cons, Nat.add_mul, Nat.one_mul, Nat.add_comm]
      exact Nat.add_le_add (ih fun y hy => hq y (List.mem_cons_of_mem _ hy)) (Nat.le_trans plOne_len (o.walk (hq q (List.mem_cons_self ..))).1)
  refine Nat.le_trans (h _ fun q hq => List.mem_of_mem_take hq) (Nat.mul_le_mul_right _ ?_)
  rw [List.length_take]
  have := o.few
  omega
structure Pcl (K : PySem.W.Frag) (Cc : Addr) : Prop where
  cl : Cls K Cc
  nR : NoAttr K Cc "_rows"
  nL : NoAttr K Cc "_listed"
  nB : NoAttr K Cc "_blocks"
  nP : NoAttr K Cc "_places"
/-- blocks_by_prefix runs through -/
def spByPrefix : Sp := fun vs H Q _ => ∃ (X : List Addr) (g : Addr) (out : List (Str × T)), vs = [.ref g] ∧ g ∈ X ∧ LibAt X H g (out.map lstT) ∧ OLib out ∧ Kn X H ∧ ∀ (v : V) (H' : Hp), Kp [] H H' → Q v H'
def spPInit (Cc : Addr) : Sp := fun vs H Q _ => ∃ (X : List Addr) (p dx r : Addr) (lib : List (Str × T)), vs = [.ref p, .ref r] ∧ H p = some (.ins Cc dx []) ∧ p ∈ X ∧ LibAt X H r lib ∧ GLib lib ∧ lib ≠ [] ∧ Kn X H ∧
  ∀ (fs : List (Str × V)) (out : List (Str × T)) (Pl : Addr) (H' : Hp), H' p = some (.ins Cc dx fs) → fs.lookup ("_places" : Str) = some (.ref Pl) → (∀ m : Str, m ∉ (["_rows", "_listed", "_blocks", "_places"] : List Str) → fs.lookup m = none) → At X H' (.seq true ((placesOf out).map ppT)) (.ref Pl) → Taken lib out → Kp [p] H H' → Q .non H'
def spPlaces (Cc : Addr) : Sp := fun vs H Q _ => ∃ (X : List Addr) (p dx : Addr) (fs : List (Str × V)) (Pl : Addr) (ts : List T), vs = [.ref p] ∧ H p = some (.ins Cc dx fs) ∧ fs.lookup ("_places" : Str) = some (.ref Pl) ∧ At X H (.seq true ts) (.ref Pl) ∧ Kn X H ∧
  ∀ (l : Addr) (us : List V) (H' : Hp), H l = none → H' l = some (.lst us) → AtL X H' ts us → Kp [] H H' → Q (.ref l) H'
theorem lk_no {a b : Str} {v : V} {fs : List (Str × V)} (h : ¬ b = a) : (putF a v fs).lookup b = fs.lookup b := by rw [lookup_putF, if_neg h]
theorem lk_at {a : Str} {v : V} {fs : List (Str × V)} : (putF a v fs).lookup a = some v := by rw [lookup_putF, if_pos rfl]
theorem pf_len {a : Str} {v : V} {fs : List (Str × V)} {k : Nat} (h : fs.length ≤ k) : (putF a v fs).length ≤ k + 1 := Nat.le_trans (length_putF a v fs) (Nat.succ_le_succ h)
section
variable {P : Program} {w : World} {K : PySem.W.Frag} {mg : Str → Option Value} {base : Heap} {f f1 f2 f3 f4 f5 f6 : Addr} {fd fd1 fd2 fd3 fd4 fd5 fd6 : FuncData}
variable {hd bd im ba : Addr} {eh eb : Array DictEntry} {nh nb : Nat} {t1 t2 : Tok} {Cc : Addr}
theorem ok_pinit {k : Nat} (hk : 1 ≤ k) (F : Fun K "__init__" "Program.__init__" sPrograminit f fd) (Tc : Pcl K Cc) (B : Bn mg) (C : Cs K w mg hd bd im ba eh eb nh nb t1 t2)
    (Dtakenmodules : Df K mg "taken_modules" stakenmodules ["modules"] f1 fd1) (Gtakenmodules : FnOk P w K mg base CX0 k f1 fd1 ["modules"] spTakenMods)
    (Drowsbypath : Df K mg "rows_by_path" srowsbypath ["rows", "prefix"] f2 fd2) (Growsbypath : FnOk P w K mg base CX0 k f2 fd2 ["rows", "prefix"] (spWalk 4))
    (Dblocksbyprefix : Df K mg "blocks_by_prefix" sblocksbyprefix ["listed"] f3 fd3) (Gblocksbyprefix : FnOk P w K mg base CX0 k f3 fd3 ["listed"] spByPrefix) :
    FnOk P w K mg base CX0 (k + 1) f fd ["self", "modules"] (spPInit Cc) := by
  refine F.ok scPrograminit (fun vs H Q E h => ?_) (fun cdv A outer s H vs Q E hr h => ?_)
  · obtain ⟨X, p, dx, r, lib, rfl, _⟩ := h
    rfl
  obtain ⟨X, p, dx, r, lib, rfl, hp, hpX, hlib, gl, hne, hX, q⟩ := h
  refine ⟨_, (pss_cons (ps_fld (pv 0) (pe_call Gtakenmodules (hr.mono (by omega)) rfl Dtakenmodules.g Dtakenmodules.F.kp Dtakenmodules.b .nil pass0 (pa_cons (pv 1) pa_nil)) rfl)
 (pss_cons (ps_fld (pv 0) (pe_lock (pe_dc (own := [("module", 2), ("rows", 3)]) (g := (gTup K 2 (gCons (gName 2) (gCons (gName 3) gNil)))) rfl scPrograminit.nd (pi_items (pe_fld (pv 0) rfl)) (blkOk_by (N := ["self", "modules", "module", "rows", "listed", "path", "row"]) (sc := defScope sPrograminit) (by decide +kernel)) (fun _ _ _ _ _ => (pg_tup (by rfl) (pgs_cons (pg_name (i := 2) scPrograminit.nd rfl (Or.inl rfl)) (pgs_cons (pg_name (i := 3) scPrograminit.nd rfl (Or.inl rfl)) pgs_nil)))) (fun _ _ _ _ _ => pts_nil) (fun _ _ _ _ _ => (pv 2)) (fun _ _ _ _ _ => (pe_call Growsbypath (hr.mono (by omega)) rfl Drowsbypath.g Drowsbypath.F.kp Drowsbypath.b .nil pass0 (pa_cons (pv 3) (pa_cons (pe_tup pa_nil) pa_nil)))))) rfl)
 (pss_cons (ps_fld (pv 0) (pe_call Gblocksbyprefix (hr.mono (by omega)) rfl Dblocksbyprefix.g Dblocksbyprefix.F.kp Dblocksbyprefix.b .nil pass0 (pa_cons (pe_fld (pv 0) rfl) pa_nil)) rfl)
 (pss_one (ps_fld (pv 0) (pe_callTy call_tuple_of (by rfl) B.tuple (by decide +kernel) (pa_cons (pe_lock (pe_lc2 (own := [("module", 2), ("listed", 4), ("path", 5), ("row", 6)]) (vs1 := [5, 6]) (g := (gTup K 2 (gCons (gName 2) (gCons (gName 4) gNil)))) (g1 := (gTup K 2 (gCons (gName 5) (gCons (gName 6) gNil)))) (tt1 := tTest (tOp (rIn K false) (tOp (fun x y H Q => rIxL K x y H Q ∨ rIxT K x y H Q) (tVar 6) (tC (V.int 0))) (tC (V.ref im)))) (wi1 := iList K (tVar 4)) rfl scPrograminit.nd (pi_items (pe_fld (pv 0) rfl)) (blkOk_by (N := ["self", "modules", "module", "rows", "listed", "path", "row"]) (sc := defScope sPrograminit) (by decide +kernel)) (by decide) (fun _ _ _ _ _ => (pg_tup (by rfl) (pgs_cons (pg_name (i := 2) scPrograminit.nd rfl (Or.inl rfl)) (pgs_cons (pg_name (i := 4) scPrograminit.nd rfl (Or.inl rfl)) pgs_nil)))) (fun _ _ _ _ _ => pts_nil) (fun _ _ _ _ _ => (pi_list (pv 4))) (fun _ _ _ _ _ => (pg_tup (by rfl) (pgs_cons (pg_name (i := 5) scPrograminit.nd rfl (Or.inl rfl)) (pgs_cons (pg_name (i := 6) scPrograminit.nd rfl (Or.inl rfl)) pgs_nil)))) (fun _ _ _ _ _ => (pts_one (pt_cmpR op_in_seq (pe_ix (ix_list.or ix_tup) (pv 6) pe_int (fun _ _ => rfl)) (pe_glob (v := .ref im) rfl C.importing rfl) (by rfl)))) (fun _ _ _ _ _ => (pe_tup (pa_cons (pv 2) (pa_cons (pv 5) pa_nil)))))) pa_nil)) rfl))))), ?_⟩
  refine ⟨_, rfl, X, r, lib, rfl, hlib, gl, hne, hX, fun Fa out H1 hF ⟨kvo, e1, e2⟩ tk k1 => ?_⟩
  have hp1 : H1 p = some (.ins Cc dx []) := k1 _ _ hp (by simp)
  have hpF : p ≠ Fa := fun z => hF (z ▸ hpX)
  refine ⟨_, rfl, p, Cc, dx, [], rfl, hp1, Tc.cl, Tc.nR, (by show 0 < 1000; decide), ?_⟩
  have eF := e2
  generalize hfs1 : putF "_rows" (V.ref Fa) [] = fs1
  have l1 : fs1.length ≤ 1 := hfs1 ▸ pf_len (Nat.le_refl 0)
  have lkR : fs1.lookup ("_rows" : Str) = some (.ref Fa) := hfs1 ▸ lk_at
  have hF1 : (upd H1 p (.ins Cc dx fs1)) Fa = some (.dK kvo) := by rw [upd_ne hpF.symm]; exact e1
  have hX1 : Kn X (upd H1 p (.ins Cc dx fs1)) := (hX.kp k1 .nil).upd
  have kv1 : KvAt (Fa :: X) (upd H1 p (.ins Cc dx fs1)) out kvo := e2.kp (Kp.rfl'.at (by simp [hpX]))
  have kk1 : Kp [p] H (upd H1 p (.ins Cc dx fs1)) := (k1.mono (by simp)).trans (Kp.rfl'.at (by simp))
  have hp1' : (upd H1 p (.ins Cc dx fs1)) p = some (.ins Cc dx fs1) := upd_same
  have ol : OLib out := ⟨by have := tk.perm.length_eq; rw [List.length_map, List.length_map] at this; rw [this]; exact gl.few, tk.perm.nodup_iff.mpr gl.nd, fun q hq => by
    obtain ⟨q', hq', e, e'⟩ := tk.like q hq
    rw [← e, e']
    exact ⟨(gl.ok q' hq').1, GB.tupled (gl.ok q' hq').2⟩⟩
  generalize hG1 : upd H1 p (.ins Cc dx fs1) = G1 at *
  -- the listing
  refine ⟨Fa, .dK kvo, hF1, trivial, fun od => ?_⟩
  have kF : Kp [Fa] G1 (upd G1 Fa (.frz od (.dK kvo))) := Kp.rfl'.at (by simp)
  have hp2 : (upd G1 Fa (.frz od (.dK kvo))) p = some (.ins Cc dx fs1) := by rw [upd_ne hpF]; exact hp1'
  refine ⟨_, rfl, p, Cc, dx, _, .ref Fa, rfl, hp2, Tc.cl, Tc.nR, lkR, Fa, od, kvo, rfl, upd_same, fun D hD => ?_⟩
  have hFX : Fa ∉ X := hF
  have kF0 : ∀ o, Kp [Fa] G1 (upd G1 Fa o) := fun o => Kp.rfl'.at (by simp)
  have hX2 : Kn X (upd G1 Fa (.frz od (.dK kvo))) := hX1.upd
  have kv2 : KvAt (Fa :: X) (upd G1 Fa (.frz od (.dK kvo))) out kvo := kv1.kp ((kF0 _).mono (by simp))
  have hFa2 : (upd G1 Fa (.frz od (.dK kvo))) Fa = some (.frz od (.dK kvo)) := upd_same
  generalize hG2 : upd G1 Fa (.frz od (.dK kvo)) = G2 at *
  have hDX : D ∉ Fa :: X := (Kn.cons hFa2 hX2).out hD
  have hDF : Fa ≠ D := fun z => hDX (by rw [← z]; simp)
  have hkl := kv2.length
  refine by_walk (walk_items (kvs := kvo)) (Pv := fun i H' => ∃ kvs', H' D = some (.dK kvs') ∧ KvAt (D :: Fa :: X) H' ((out.take i).map lstT) kvs' ∧ H' Fa = some (.frz od (.dK kvo)) ∧ Kp [] G2 H') ?_ ?_ ?_ ?_
  · exact ⟨[], upd_same, rfl, by rw [upd_ne hDF]; exact hFa2, Kp.rfl'.new hD⟩
  · rintro i H' hi ⟨kvs', g1, g2, g3, k3⟩
    exact g3
  · rintro i y H' H'' hi ⟨kvs', g1, g2, g3, k3⟩ ⟨T0, y1, y2, rfl, hT, rfl, z1, z2⟩
    obtain ⟨kv, hkv⟩ : ∃ kv, kvo[i]? = some kv := ⟨kvo[i], List.getElem?_eq_getElem hi⟩
    have z1 : (kvo[i]?).map (fun kv => kV kv.1) = some y1 := z1
    have z2 : (kvo[i]?).map Prod.snd = some y2 := z2
    rw [hkv] at z1 z2
    cases z1
    cases z2
    obtain ⟨⟨m, t⟩, hq, hk, hat⟩ := kv2.get hkv
    obtain ⟨key, v⟩ := kv
    cases (show key = .inr m from hk)
    have hmem : (m, t) ∈ out := List.mem_of_getElem? hq
    obtain ⟨b, rs, rfl, hl8, hrs⟩ := (show GB (GRow 3) false t from (ol.ok _ hmem).2)
    have hDT : D ≠ T0 := fun z => by rw [← z, g1] at hT; cases hT
    have kT : Kp [] H' (upd H' T0 (.tup [kV (.inr m), v])) := Kp.rfl'.new hT
    have kT2 : Kp [] G2 (upd H' T0 (.tup [kV (.inr m), v])) := k3.trans kT
    refine ⟨T0, _, rfl, SqT.of upd_same, rfl, _, _, rfl, _, _, rfl, rfl, rfl, _, rfl, _, rfl, (by show 0 ≤ sizeLine; exact Nat.zero_le _), fun px hpx => ?_⟩
    have gD : (upd H' T0 (.tup [kV (.inr m), v])) D = some (.dK kvs') := by rw [upd_ne hDT]; exact g1
    have hXD : Kn (D :: Fa :: X) (upd H' T0 (.tup [kV (.inr m), v])) := .cons gD (.cons (kT2 _ _ hFa2 (by simp)) (hX2.kp kT2 .nil))
    refine ⟨D :: Fa :: X, b, false, rs, v, px, [], rfl, ?_, hl8, hrs, upd_same, by simp, by omega, hXD.out hpx, hXD.upd, fun pw ws H5 hpwX hpw hws k5 => ?_⟩
    · exact ((hat.more hD).kp (kT2.mono (by simp))).kp (((Kp.rfl' : Kp [] (upd H' T0 (.tup [kV (.inr m), v])) _).new hpx).mono (by simp))
    have k6 : Kp [] H' H5 := (kT.trans (Kp.rfl'.new hpx)).trans k5
    refine ⟨kvs', .inr m, rfl, k6 _ _ g1 (by simp), ?_, putK kvs' (.inr m) (.ref pw), upd_same, ?_, ?_, (k3.trans k6).new hD⟩
    · have := g2.length
      rw [List.length_map, List.length_take] at this
      exact Nat.lt_of_le_of_lt (m := 4) (by have := ol.few; omega) (by decide)
    · have hno : m ∉ ((out.take i).map lstT).map (·.1) := by
        rw [List.map_map]
        have := nd_take (x := m) (i := i) ol.nd (by rw [List.getElem?_map, hq]; rfl)
        rwa [← List.map_take] at this
      rw [List.take_add_one, hq, List.map_append, show (some (m, T.seq b rs)).toList.map lstT = [(m, (lstT (m, T.seq b rs)).2)] from rfl, ← putL_new hno]
      refine ((g2.kp (k6.mono (by simp))).kp (Kp.rfl'.at (by simp))).put ?_
      exact ⟨pw, ws, rfl, hpwX, .inl (by rw [upd_ne (fun z => hpwX (by rw [z]; simp))]; exact hpw), hws.kp (Kp.rfl'.at (by simp))⟩
    · rw [upd_ne hDF]
      exact k6 _ _ g3 (by simp)
  · rintro H5 ⟨kvL, g1, g2, g3, k3⟩
    have hkl' : kvo.length = out.length := hkl
    rw [hkl', List.take_length] at g2
    have hpF' : Fa ≠ p := fun z => hpF z.symm
    have hp6 : (upd H5 Fa (.dK kvo)) p = some (.ins Cc dx fs1) := by rw [upd_ne hpF]; exact k3 _ _ hp2 (by simp)
    refine ⟨g3, _, rfl, p, Cc, dx, fs1, rfl, hp6, Tc.cl, Tc.nL, (by omega), ?_⟩
    generalize hfs2 : putF "_listed" (V.ref D) fs1 = fs2
    have l2 : fs2.length ≤ 2 := hfs2 ▸ pf_len l1
    have lkL : fs2.lookup ("_listed" : Str) = some (.ref D) := hfs2 ▸ lk_at
    have hpD : p ≠ D := fun z => hDX (by rw [← z]; exact List.mem_cons_of_mem _ hpX)
    have kA : Kp [p, Fa] H5 (upd (upd H5 Fa (.dK kvo)) p (.ins Cc dx fs2)) := ((Kp.rfl' : Kp [p, Fa] H5 H5).at (by simp)).trans (Kp.rfl'.at (by simp))
    have hp7 : (upd (upd H5 Fa (.dK kvo)) p (.ins Cc dx fs2)) p = some (.ins Cc dx fs2) := upd_same
    have hD7 : (upd (upd H5 Fa (.dK kvo)) p (.ins Cc dx fs2)) D = some (.dK kvL) := by rw [upd_ne (fun z => hpD z.symm), upd_ne (fun z => hDF z.symm)]; exact g1
    have hF7 : (upd (upd H5 Fa (.dK kvo)) p (.ins Cc dx fs2)) Fa = some (.dK kvo) := by rw [upd_ne hpF', upd_same]
    have kv7 : KvAt (D :: Fa :: X) (upd (upd H5 Fa (.dK kvo)) p (.ins Cc dx fs2)) (out.map lstT) kvL := g2.kp (kA.mono (by simp [hpX]))
    have kG : Kp [p, Fa] G1 (upd (upd H5 Fa (.dK kvo)) p (.ins Cc dx fs2)) := ((hG2 ▸ (kF0 _).mono (by simp) : Kp [p, Fa] G1 G2).trans (k3.mono (by simp))).trans kA
    generalize hG3 : upd (upd H5 Fa (.dK kvo)) p (.ins Cc dx fs2) = G3 at *
    have hX7 : Kn X G3 := hX1.kp kG (.cons hp7 (.cons hF7 .nil))
    refine ⟨_, rfl, p, Cc, dx, _, .ref D, rfl, hp7, Tc.cl, Tc.nL, lkL, D :: Fa :: X, D, out, rfl, (by simp), ⟨kvL, hD7, kv7⟩, ol, .cons hD7 (.cons hF7 hX7), fun vb H8 k8 => ?_⟩
    refine ⟨_, rfl, p, Cc, dx, fs2, rfl, k8 _ _ hp7 (by simp), Tc.cl, Tc.nB, (by omega), ?_⟩
    generalize hfs3 : putF "_blocks" vb fs2 = fs3
    have l3 : fs3.length ≤ 3 := hfs3 ▸ pf_len l2
    have lkL3 : fs3.lookup ("_listed" : Str) = some (.ref D) := by rw [← hfs3, lk_no (by decide +kernel)]; exact lkL
    have hpD9 : (upd H8 p (.ins Cc dx fs3)) D = some (.dK kvL) := by rw [upd_ne (fun z => hpD z.symm)]; exact k8 _ _ hD7 (by simp)
    have kB : Kp [p] G3 (upd H8 p (.ins Cc dx fs3)) := (k8.mono (by simp)).trans (Kp.rfl'.at (by simp))
    have hp9 : (upd H8 p (.ins Cc dx fs3)) p = some (.ins Cc dx fs3) := upd_same
    have kv9 : KvAt (D :: Fa :: X) (upd H8 p (.ins Cc dx fs3)) (out.map lstT) kvL := kv7.kp (kB.mono (by simp [hpX]))
    have hX9 : Kn X (upd H8 p (.ins Cc dx fs3)) := hX7.kp kB (.cons hp9 .nil)
    generalize hG4 : upd H8 p (.ins Cc dx fs3) = G4 at *
    -- the places
    refine ⟨D, .dK kvL, hpD9, trivial, fun od2 => ?_⟩
    have hp10 : (upd G4 D (.frz od2 (.dK kvL))) p = some (.ins Cc dx fs3) := by rw [upd_ne hpD]; exact hp9
    refine ⟨_, rfl, p, Cc, dx, _, .ref D, rfl, hp10, Tc.cl, Tc.nL, lkL3, D, od2, kvL, rfl, upd_same, fun L hL => ?_⟩
    have kD0 : Kp [D] G4 (upd G4 D (.frz od2 (.dK kvL))) := Kp.rfl'.at (by simp)
    have kv10 : KvAt (D :: X) (upd G4 D (.frz od2 (.dK kvL))) (out.map lstT) kvL := (kv9.less (fun z hz => by
      rcases List.mem_cons.mp hz with e | hz
      · rw [e]; simp
      · simp [hz])).kp (kD0.mono (by simp))
    have hD10 : (upd G4 D (.frz od2 (.dK kvL))) D = some (.frz od2 (.dK kvL)) := upd_same
    have hX10 : Kn (D :: X) (upd G4 D (.frz od2 (.dK kvL))) := .cons hD10 hX9.upd
    generalize hG5 : upd G4 D (.frz od2 (.dK kvL)) = G5 at *
    have hLX : L ∉ D :: X := hX10.out hL
    have hLD : D ≠ L := fun z => hLX (by rw [← z]; simp)
    refine by_walk (walk_items (kvs := kvL)) (Pv := fun i H' => ∃ us, H' L = some (.lst us) ∧ AtL (L :: D :: X) H' ((placesOf (out.take i)).map ppT) us ∧ Kp [] G5 H') ?_ ?_ ?_ ?_
    · exact ⟨[], upd_same, rfl, Kp.rfl'.new hL⟩
    · rintro i H' hi ⟨us, g1, g2, k9⟩
      exact k9 _ _ hD10 (by simp)
    · rintro i y H' H'' hi ⟨us, g1, g2, k9⟩ ⟨T0, y1, y2, rfl, hT, rfl, z1, z2⟩
      obtain ⟨kv, hkv⟩ : ∃ kv, kvL[i]? = some kv := ⟨kvL[i], List.getElem?_eq_getElem hi⟩
      have z1 : (kvL[i]?).map (fun kv => kV kv.1) = some y1 := z1
      have z2 : (kvL[i]?).map Prod.snd = some y2 := z2
      rw [hkv] at z1 z2
      cases z1
      cases z2
      obtain ⟨q', hq', hk, hat⟩ := kv10.get hkv
      rw [List.getElem?_map] at hq'
      obtain ⟨⟨m, t⟩, hq, rfl⟩ : ∃ q, out[i]? = some q ∧ lstT q = q' := by
        cases e : out[i]? with
        | none => rw [e] at hq'; cases hq'
        | some q => rw [e] at hq'; exact ⟨q, rfl, Option.some.inj hq'⟩
      obtain ⟨key, v⟩ := kv
      cases (show key = .inr m from hk)
      have hmem : (m, t) ∈ out := List.mem_of_getElem? hq
      obtain ⟨wl, wr⟩ := ol.walk hmem
      have hLT : L ≠ T0 := fun z => by rw [← z, g1] at hT; cases hT
      have kT : Kp [] H' (upd H' T0 (.tup [kV (.inr m), v])) := Kp.rfl'.new hT
      have kT2 : Kp [] G5 (upd H' T0 (.tup [kV (.inr m), v])) := k9.trans kT
      obtain ⟨pl, vl, rfl, hplX, hpl, hll⟩ := ((show At (D :: X) G5 (.seq false ((walkP 4 [] t.kids).map pairT)) v from hat).more hL).kp (kT2.mono (by simp))
      have gL : (upd H' T0 (.tup [kV (.inr m), .ref pl])) L = some (.lst us) := by rw [upd_ne hLT]; exact g1
      have g2' := g2.kp (kT.mono (by simp))
      generalize hH7 : upd H' T0 (.tup [kV (.inr m), .ref pl]) = H7 at *
      have hvl := hll.length
      rw [List.length_map] at hvl
      refine ⟨T0, _, rfl, SqT.of (by rw [← hH7]; exact upd_same), rfl, _, _, rfl, _, _, rfl, rfl, rfl, _, rfl, pl, rfl, ⟨vl, hpl.l⟩, ?_⟩
      refine by_walk (walk_list (xs := vl)) (Pv := fun j H' => ∃ us, H' L = some (.lst us) ∧ AtL (L :: D :: X) H' ((placesOf (out.take i) ++ plOne m ((walkP 4 [] t.kids).take j)).map ppT) us ∧ Kp [L] H7 H') ?_ ?_ ?_ ?_
      · exact ⟨us, gL, (by simpa [plOne] using g2'), Kp.rfl'⟩
      · rintro j H8 hj ⟨us8, f1, f2, k10⟩
        exact (hpl.kp k10 (fun z => hplX (by rw [List.mem_singleton.mp z]; simp))).l
      · rintro j y H8 H9 hj ⟨us8, f1, f2, k10⟩ ⟨rfl, hy⟩
        obtain ⟨t', ht', hta⟩ := AtL.get hll hy
        rw [List.getElem?_map] at ht'
        obtain ⟨u, hu, rfl⟩ : ∃ u, (walkP 4 [] t.kids)[j]? = some u ∧ pairT u = t' := by
          cases e : (walkP 4 [] t.kids)[j]? with
          | none => rw [e] at ht'; cases ht'
          | some q => rw [e] at ht'; exact ⟨q, rfl, Option.some.inj ht'⟩
        have hta9 := hta.kp (k10.mono (by simp))
        obtain ⟨pr, vr, rfl, hprX, hpr, w1, r1, rfl, a1, w2, r2, rfl, a2, a3⟩ := hta9
        cases (show r2 = [] from a3)
        obtain ⟨b, x, rest, hux⟩ := wr u (List.mem_of_getElem? hu)
        have a2' := a2
        rw [hux] at a2'
        obtain ⟨pw, vw, rfl, hpwX, hpw, v0, r0, rfl, e0, _⟩ := a2'
        cases (show v0 = .str x from e0)
        refine ⟨pr, _, rfl, hpr.t, rfl, _, _, rfl, _, _, rfl, rfl, rfl, ?_⟩
        refine ⟨_, rfl, ix_seq2 hpw at0 ⟨im, _, rfl, .inr (C.iat _), rfl, rfl, _, rfl, ?_⟩⟩
        have ew : inV (V.str x) [.str "load", .str "pick"] = impB u := by
          unfold impB
          rw [hux]
          rfl
        show if inV (V.str x) [.str "load", .str "pick"] = true then _ else _
        rw [ew]
        refine ite2 (fun hb => ?_) (fun hb => ?_)
        · have kH9 : Kp [L] G5 H9 := (kT2.mono (by simp)).trans k10
          have hX12 : Kn (L :: D :: X) H9 := .cons f1 (hX10.kp kH9 (.cons f1 .nil))
          refine ⟨_, rfl, _, rfl, (by show 2 ≤ sizeLine; exact ltsz (by decide)), fun pt hpt => ?_⟩
          have hLpt : L ≠ pt := fun z => hX12 L (by simp) (by rw [z]; exact hpt)
          have kpt : ∀ o, Kp [] H9 (upd H9 pt o) := fun o => Kp.rfl'.new hpt
          refine ⟨us8, by rw [upd_ne hLpt]; exact f1, ?_, us8 ++ [.ref pt], upd_same, ?_, (k10.trans ((kpt _).mono (by simp))).trans (Kp.rfl'.at (by simp))⟩
          · have e1 := f2.length
            rw [List.length_map, List.length_append] at e1
            have e2 := ol.len i
            have e3 := plOne_len (m := m) (us := (walkP 4 [] t.kids).take j)
            rw [List.length_take] at e3
            exact Nat.lt_of_le_of_lt (m := 200000) (by have := wl; simp only at this; omega) (by decide)
          · rw [plOne_next hu, if_pos hb, ← List.append_assoc, List.map_append]
            refine AtL.kp (Kp.rfl'.at (by simp)) ((f2.kp ((kpt _).mono (by simp))).snoc ?_)
            exact ⟨pt, [.str m, w1], rfl, hX12.out hpt, .inl upd_same, .str m, [w1], rfl, rfl, .one (a1.kp ((kpt _).mono (by simp)))⟩
        · refine ⟨us8, f1, ?_, k10⟩
          rw [plOne_next hu, if_neg hb, List.append_nil]
          exact f2
      · rintro H8 ⟨us8, f1, f2, k10⟩
        refine ⟨us8, f1, ?_, ?_⟩
        · rw [hvl, List.take_length] at f2
          rw [List.take_add_one, hq]
          unfold placesOf at f2 ⊢
          rw [List.flatMap_append]
          simpa using f2
        · exact Kp.drop (Y := [L]) (X := []) ((kT2.mono (by simp)).trans k10) (fun z hz => by rw [List.mem_singleton.mp hz]; exact hL)
    · rintro H8 ⟨us, f1, f2, k10⟩
      have hkL : kvL.length = out.length := by rw [kv10.length, List.length_map]
      rw [hkL, List.take_length] at f2
      have hL8 : (upd H8 D (.dK kvL)) L = some (.lst us) := by rw [upd_ne (fun z => hLD z.symm)]; exact f1
      refine ⟨k10 _ _ hD10 (by simp), L, us, rfl, .inl ⟨SqL.of hL8, fun Pl hPl => ?_⟩⟩
      have hp12 : (upd (upd H8 D (.dK kvL)) Pl (.tup us)) p = some (.ins Cc dx fs3) := by
        have e : (upd H8 D (.dK kvL)) p = some (.ins Cc dx fs3) := by rw [upd_ne hpD]; exact k10 _ _ hp10 (by simp)
        rw [upd_ne (fun z => by rw [← z, e] at hPl; cases hPl)]
        exact e
      refine ⟨_, rfl, p, Cc, dx, fs3, rfl, hp12, Tc.cl, Tc.nP, (by omega), ?_⟩
      have hPlp : p ≠ Pl := fun z => by rw [← z, upd_ne hpD, k10 _ _ hp10 (by simp)] at hPl; cases hPl
      have hPlX : Pl ∉ X := fun z => ((hX10.kp k10 .nil).upd (p := D) (o := .dK kvL)) Pl (List.mem_cons_of_mem _ z) hPl
      have kEnd : Kp [] G4 (upd H8 D (.dK kvL)) := Kp.back (a := D) ((kD0.trans (k10.mono (by simp))).trans (Kp.rfl'.at (by simp))) hpD9 upd_same
      have kG' : Kp [p] G1 G3 := Kp.back (a := Fa) (kG.mono (by simp)) hF1 hF7
      have kAll : Kp [p] H (upd H8 D (.dK kvL)) := ((kk1.trans kG').trans kB).trans (kEnd.mono (by simp))
      have kP : ∀ o, Kp (D :: X) (upd H8 D (.dK kvL)) (upd (upd (upd H8 D (.dK kvL)) Pl (.tup us)) p o) := fun o => (((Kp.rfl' : Kp [] (upd H8 D (.dK kvL)) _).new hPl).mono (by simp)).trans (Kp.rfl'.at (by simp [hpX]))
      refine q _ out Pl _ upd_same lk_at (fun m hm => ?_) ⟨Pl, us, rfl, hPlX, .inl ?_, ?_⟩ tk ((kAll.trans (((Kp.rfl' : Kp [] (upd H8 D (.dK kvL)) _).new hPl).mono (by simp))).trans (Kp.rfl'.at (by simp)))
      · simp only [List.mem_cons, List.not_mem_nil, or_false, not_or] at hm
        rw [lk_no hm.2.2.2, ← hfs3, lk_no hm.2.2.1, ← hfs2, lk_no hm.2.1, ← hfs1, lk_no hm.1]
        rfl
      · rw [upd_ne hPlp.symm, upd_same]
        rfl
      · refine AtL.less (Y := D :: X) (fun z hz => List.mem_cons_of_mem _ hz) (AtL.kp (kP _) (AtL.kp (Kp.rfl'.at (by simp)) (f2.less fun z hz => List.mem_cons_of_mem _ hz)))
theorem ok_pplaces (F : Fun K "places" "Program.places" sProgramplaces f fd) (Tc : Pcl K Cc) (B : Bn mg) : FnOk P w K mg base CX0 1 f fd ["self"] (spPlaces Cc) := by
  refine F.ok scProgramplaces (fun vs H Q E h => ?_) (fun cdv A outer s H vs Q E hr h => ?_)
  · obtain ⟨X, p, dx, fs, Pl, ts, rfl, _⟩ := h
    rfl
  obtain ⟨X, p, dx, fs, Pl, ts, rfl, hp, hl, ⟨p', us, e, hPX, hPl, hat⟩, hX, q⟩ := h
  cases e
  refine ⟨_, (pss_one (ps_ret (pe_callTy call_list_of (by rfl) B.list (by decide +kernel) (pa_cons (pe_fld (pv 0) rfl) pa_nil)))), ?_⟩
  refine ⟨_, rfl, p, Cc, dx, fs, .ref Pl, rfl, hp, Tc.cl, Tc.nP, hl, Pl, us, rfl, .inr hPl.t, fun l hl' => ?_⟩
  exact q l us _ hl' upd_same (hat.kp (((Kp.rfl' : Kp [] H H).new hl').mono (by simp))) (Kp.rfl'.new hl')
end
end Fs

/-! the order of the places -/
namespace Fs
open PySem L2
theorem uniq {α : Type} {lt : α → α → Bool} : ∀ {l1 l2 : List α}, l1.Perm l2 → l1.Pairwise (fun a b => lt b a = false) → l2.Pairwise (fun a b => lt a b = true) → l1 = l2
  | l1, [], hp, _, _ => hp.eq_nil
  | [], b :: l2, hp, _, _ => absurd hp.length_eq (by simp)
  | a :: l1, b :: l2, hp, h1, h2 => by
    have hb := List.pairwise_cons.mp h2
    have ha := List.pairwise_cons.mp h1
    have e : a = b := by
      rcases List.mem_cons.mp (hp.mem_iff.mp (List.mem_cons_self ..)) with e | hm
      · exact e
      · rcases List.mem_cons.mp (hp.mem_iff.mpr (List.mem_cons_self (a := b) (l := l2))) with e | hm'
        · exact e.symm
        · have x := hb.1 a hm
          rw [ha.1 b hm'] at x
          cases x
    subst e
    rw [uniq (List.perm_cons a |>.mp hp) ha.2 hb.2]
theorem zip_up {α : Type} : ∀ (xs : List α) (k : Nat), (xs.zipIdx k).Pairwise (fun a b => a.2 < b.2)
  | [], _ => .nil
  | x :: xs, k => by
    rw [List.zipIdx_cons]
    refine List.pairwise_cons.mpr ⟨fun q hq => ?_, zip_up xs (k + 1)⟩
    have := List.le_snd_of_mem_zipIdx hq
    show k < q.2
    omega
theorem flat_up {α β : Type} {R : β → β → Prop} {g : α × Nat → List β} {xs : List α} (h1 : ∀ q ∈ xs.zipIdx, (g q).Pairwise R) (h2 : ∀ q ∈ xs.zipIdx, ∀ q' ∈ xs.zipIdx, q.2 < q'.2 → ∀ u ∈ g q, ∀ v ∈ g q', R u v) : (xs.zipIdx.flatMap g).Pairwise R :=
  List.pairwise_flatMap.mpr ⟨h1, (zip_up xs 0).imp_of_mem fun ha hb hab => h2 _ ha _ hb hab⟩
theorem app_lt {ns a b : List Int} (h : a < b) : ns ++ a < ns ++ b := by
  induction ns with
  | nil => exact h
  | cons n ns ih => exact List.cons_lt_cons_iff.mpr (.inr ⟨rfl, ih⟩)
theorem head_lt {ns r r' : List Int} {i j : Nat} (h : i < j) : ns ++ (i : Int) :: r < ns ++ (j : Int) :: r' := app_lt (List.cons_lt_cons_iff.mpr (.inl (by omega)))
theorem walk_up : ∀ {n : Nat} {ns : List Int} {rs : List T}, (walkP n ns rs).Pairwise (fun u v => u.1 < v.1) ∧ ∀ u ∈ walkP n ns rs, ∃ (i : Nat) (r : List Int), u.1 = ns ++ (i : Int) :: r ∧ r.length ≤ 2 * n
  | 0, _, _ => ⟨.nil, fun _ h => nomatch h⟩
  | n + 1, ns, rs => by
    have one : ∀ q : T × Nat, ∀ u ∈ oneP n ns q, ∃ r, u.1 = ns ++ (q.2 : Int) :: r ∧ r.length ≤ 2 * (n + 1) ∧ (r ≠ [] → ∃ (b : T × Nat), b ∈ (blks q.1).zipIdx ∧ u ∈ gP n (ns ++ [(q.2 : Int)]) b) := by
      intro q u hu
      unfold oneP at hu
      rcases List.mem_cons.mp hu with e | hu
      · exact ⟨[], by rw [e], Nat.zero_le _, fun z => absurd rfl z⟩
      · obtain ⟨b, hb, hu⟩ := List.mem_flatMap.mp hu
        unfold gP at hu
        obtain ⟨i, r, e, l⟩ := (walk_up (n := n)).2 u hu
        refine ⟨(b.2 : Int) :: (i : Int) :: r, by rw [e]; simp, by simp only [List.length_cons]; omega, fun _ => ⟨b, hb, hu⟩⟩
    rw [walkP_succ]
    refine ⟨flat_up (fun q hq => ?_) (fun q _ q' _ hlt u hu v hv => ?_), fun u hu => ?_⟩
    · unfold oneP
      refine List.pairwise_cons.mpr ⟨fun u hu => ?_, flat_up (fun b hb => ?_) (fun b _ b' _ hlt u hu v hv => ?_)⟩
      · obtain ⟨b, hb, hu⟩ := List.mem_flatMap.mp hu
        unfold gP at hu
        obtain ⟨i, r, e, _⟩ := (walk_up (n := n)).2 u hu
        show ns ++ [(q.2 : Int)] < u.1
        rw [e, List.append_assoc]
        have := app_lt (ns := ns ++ [(q.2 : Int)]) (a := []) (b := [(b.2 : Int)] ++ (i : Int) :: r) (List.nil_lt_cons _ _)
        simpa using this
      · unfold gP
        exact (walk_up (n := n)).1
      · unfold gP at hu hv
        obtain ⟨i, r, e, _⟩ := (walk_up (n := n)).2 u hu
        obtain ⟨i', r', e', _⟩ := (walk_up (n := n)).2 v hv
        show u.1 < v.1
        have := head_lt (ns := ns ++ [(q.2 : Int)]) (r := (i : Int) :: r) (r' := (i' : Int) :: r') hlt
        rw [e, e']
        simpa using this
    · obtain ⟨r, e, _⟩ := one q u hu
      obtain ⟨r', e', _⟩ := one q' v hv
      show u.1 < v.1
      rw [e, e']
      exact head_lt hlt
    · obtain ⟨q, hq, hu⟩ := List.mem_flatMap.mp hu
      obtain ⟨r, e, l, _⟩ := one q u hu
      exact ⟨q.2, r, e, l⟩
/-! the walk looks at words alone -/
theorem tup_seq {b : Bool} {ts : List T} : T.tupled (.seq b ts) = .seq true (ts.map T.tupled) := by rw [T.tupled]
theorem tup_str {x : Str} : T.tupled (.str x) = .str x := by rw [T.tupled]; intro b u z; cases z
theorem tup_int {x : Int} : T.tupled (.int x) = .int x := by rw [T.tupled]; intro b u z; cases z
theorem tup_bl {x : Bool} : T.tupled (.bl x) = .bl x := by rw [T.tupled]; intro b u z; cases z
theorem tup_non : T.tupled .non = .non := by rw [T.tupled]; intro b u z; cases z
theorem kids_tup {t : T} : t.tupled.kids = t.kids.map T.tupled := by
  cases t with
  | non => rw [tup_non]; rfl
  | bl b => rw [tup_bl]; rfl
  | int i => rw [tup_int]; rfl
  | str x => rw [tup_str]; rfl
  | seq b ts => rw [tup_seq]; rfl
theorem head_tup {t : T} {g : Str → List T → List T} {h : T → List T} (hh : ∀ x, h (.str x) = []) : True := trivial
theorem word_tup {t : T} : t.tupled.word = t.word := by
  cases t with
  | non => rw [tup_non]
  | bl b => rw [tup_bl]
  | int i => rw [tup_int]
  | str x => rw [tup_str]
  | seq b ts =>
    rw [tup_seq]
    cases ts with
    | nil => rfl
    | cons a ts =>
      rw [List.map_cons]
      cases a with
      | non => rw [tup_non]; rfl
      | bl b => rw [tup_bl]; rfl
      | int i => rw [tup_int]; rfl
      | str x => rw [tup_str]; rfl
      | seq b ts => rw [tup_seq]; rfl
theorem blks_tup {t : T} : blks t.tupled = (blks t).map T.tupled := by
  cases t with
  | non => rw [tup_non]; rfl
  | bl b => rw [tup_bl]; rfl
  | int i => rw [tup_int]; rfl
  | str x => rw [tup_str]; rfl
  | seq b ts =>
    rw [tup_seq]
    cases ts with
    | nil => rfl
    | cons a ts =>
      rw [List.map_cons]
      cases a with
      | non => rw [tup_non]; rfl
      | bl b => rw [tup_bl]; rfl
      | int i => rw [tup_int]; rfl
      | str x =>
        rw [tup_str]
        show (ts.map T.tupled).drop _ = (ts.drop _).map T.tupled
        rw [List.map_drop]
      | seq b ts => rw [tup_seq]; rfl
def tuU (u : List Int × T) : List Int × T := (u.1, u.2.tupled)
theorem flat_zip_map {α β γ δ : Type} {f : α → β} {g : β × Nat → List γ} {g' : α × Nat → List δ} {e : δ → γ} (h : ∀ a i, g (f a, i) = (g' (a, i)).map e) : ∀ (xs : List α) (k : Nat), ((xs.map f).zipIdx k).flatMap g = ((xs.zipIdx k).flatMap g').map e
  | [], _ => rfl
  | x :: xs, k => by
    rw [List.map_cons, List.zipIdx_cons, List.zipIdx_cons, List.flatMap_cons, List.flatMap_cons, List.map_append, h, flat_zip_map h xs (k + 1)]
theorem walk_tup : ∀ {n : Nat} {ns : List Int} {rs : List T}, walkP n ns (rs.map T.tupled) = (walkP n ns rs).map tuU
  | 0, _, _ => rfl
  | n + 1, ns, rs => by
    rw [walkP_succ, walkP_succ]
    refine flat_zip_map (fun t i => ?_) rs 0
    unfold oneP
    rw [List.map_cons, blks_tup]
    refine congrArg (_ :: ·) (flat_zip_map (fun b j => ?_) (blks t) 0)
    unfold gP
    rw [kids_tup]
    exact walk_tup
theorem plOne_tup {m : Str} {us : List (List Int × T)} : plOne m (us.map tuU) = plOne m us := by
  unfold plOne
  rw [List.filter_map, List.map_map]
  have e : (impB ∘ tuU) = impB := by
    funext u
    show inV (.str u.2.tupled.word) _ = inV (.str u.2.word) _
    rw [word_tup]
  rw [e]
  rfl
def fPl (q : Str × T) : List PP := plOne q.1 (walkP 4 [] q.2.kids)
theorem fPl_tup {q : Str × T} : fPl (q.1, q.2.tupled) = fPl q := by
  unfold fPl
  rw [kids_tup, walk_tup, plOne_tup]
theorem fPl_of {q q' : Str × T} (h1 : q.1 = q'.1) (h2 : q.2.tupled = q'.2.tupled) : fPl q = fPl q' := by
  rw [← fPl_tup, ← fPl_tup (q := q'), h1, h2]
/-- the same keys, each with the same told rows: the same places, in whatever order -/
theorem places_perm {lib out : List (Str × T)} (hp : (out.map (·.1)).Perm (lib.map (·.1))) (nd : (lib.map (·.1)).Nodup) (hl : ∀ p ∈ out, ∃ q ∈ lib, q.1 = p.1 ∧ p.2.tupled = q.2.tupled) : (placesOf out).Perm (placesOf lib) := by
  let g : Str → List PP := fun m => match lib.find? (fun q => decide (q.1 = m)) with
    | some q => fPl q
    | none => []
  have hg : ∀ q ∈ lib, g q.1 = fPl q := by
    intro q hq
    obtain ⟨q', hq', e⟩ : ∃ q', lib.find? (fun z => decide (z.1 = q.1)) = some q' ∧ q'.1 = q.1 := by
      cases h : lib.find? (fun z => decide (z.1 = q.1)) with
      | none => exact absurd (decide_eq_true rfl) (List.find?_eq_none.mp h q hq)
      | some q' => exact ⟨q', rfl, by have := List.find?_some h; simpa using this⟩
    have hm := List.mem_of_find?_eq_some hq'
    have e2 : q' = q := by
      obtain ⟨i, hi⟩ := List.mem_iff_getElem?.mp hm
      obtain ⟨j, hj⟩ := List.mem_iff_getElem?.mp hq
      have li := (List.getElem?_eq_some_iff.mp hi).1
      have lj := (List.getElem?_eq_some_iff.mp hj).1
      have hij : i = j := (List.getElem_inj (h₀ := by rw [List.length_map]; exact li) (h₁ := by rw [List.length_map]; exact lj) nd).mp (by
        rw [List.getElem_map, List.getElem_map, (List.getElem?_eq_some_iff.mp hi).2, (List.getElem?_eq_some_iff.mp hj).2]
        exact e)
      rw [hij, hj] at hi
      exact (Option.some.inj hi).symm
    show (match lib.find? (fun z => decide (z.1 = q.1)) with | some q => fPl q | none => []) = fPl q
    rw [hq', e2]
  have e1 : placesOf lib = ((lib.map (·.1)).map g).flatten := by
    show lib.flatMap fPl = _
    rw [List.flatMap_def, List.map_map]
    congr 1
    exact List.map_congr_left fun q hq => (hg q hq).symm
  have e2 : placesOf out = ((out.map (·.1)).map g).flatten := by
    show out.flatMap fPl = _
    rw [List.flatMap_def, List.map_map]
    congr 1
    refine List.map_congr_left fun p hq => ?_
    obtain ⟨q, hq', a, b⟩ := hl p hq
    rw [fPl_of (q' := q) a.symm b, ← hg q hq']
    show g q.1 = g p.1
    rw [a]
  rw [e1, e2]
  exact (hp.map g).flatten
/-! one order -/
theorem cps_lt : ∀ {a b : List Nat}, PySem.Spec.ltCps a b = true ↔ a < b
  | [], [] => by simp [PySem.Spec.ltCps]
  | [], b :: bs => by simp [PySem.Spec.ltCps]
  | a :: as, [] => by simp [PySem.Spec.ltCps]
  | a :: as, b :: bs => by
    rw [List.cons_lt_cons_iff, ← cps_lt (a := as) (b := bs)]
    simp [PySem.Spec.ltCps]
theorem nat_tri : ∀ (a b : List Nat), a < b ∨ a = b ∨ b < a
  | [], [] => .inr (.inl rfl)
  | [], b :: bs => .inl (List.nil_lt_cons _ _)
  | a :: as, [] => .inr (.inr (List.nil_lt_cons _ _))
  | a :: as, b :: bs => by
    rcases Nat.lt_trichotomy a b with h | h | h
    · exact .inl (List.cons_lt_cons_iff.mpr (.inl h))
    · subst h
      rcases nat_tri as bs with h | h | h
      · exact .inl (List.cons_lt_cons_iff.mpr (.inr ⟨rfl, h⟩))
      · exact .inr (.inl (by rw [h]))
      · exact .inr (.inr (List.cons_lt_cons_iff.mpr (.inr ⟨rfl, h⟩)))
    · exact .inr (.inr (List.cons_lt_cons_iff.mpr (.inl h)))
theorem nat_trans : ∀ {a b c : List Nat}, a < b → b < c → a < c
  | _, [], _, h, _ => absurd h (List.not_lt_nil _)
  | _, _ :: _, [], _, h => absurd h (List.not_lt_nil _)
  | [], _ :: _, _ :: _, _, _ => List.nil_lt_cons _ _
  | a :: as, b :: bs, c :: cs, h1, h2 => by
    rcases List.cons_lt_cons_iff.mp h1 with h | ⟨e, h⟩
    · rcases List.cons_lt_cons_iff.mp h2 with h' | ⟨e', h'⟩
      · exact List.cons_lt_cons_iff.mpr (.inl (by omega))
      · exact List.cons_lt_cons_iff.mpr (.inl (by omega))
    · rcases List.cons_lt_cons_iff.mp h2 with h' | ⟨e', h'⟩
      · exact List.cons_lt_cons_iff.mpr (.inl (by omega))
      · exact List.cons_lt_cons_iff.mpr (.inr ⟨e.trans e', nat_trans h h'⟩)
theorem cps_inj {x y : Str} (h : x.cps.toList = y.cps.toList) : x = y := by
  have hc : x.cps = y.cps := Array.toList_inj.mp h
  cases x; cases y; simp only [Str.mk.injEq]; exact hc
theorem keys_up : ∀ {p : Str} {ks : List Str}, PyProof.Rows.risingS p ks = true → (p :: ks).Nodup → (p :: ks).Pairwise (fun a b => a.cps.toList < b.cps.toList)
  | p, [], _, _ => List.pairwise_singleton _ _
  | p, x :: ks, h, nd => by
    have h' : (!PySem.Spec.ltCps x.cps.toList p.cps.toList && PyProof.Rows.risingS x ks) = true := h
    rw [Bool.and_eq_true] at h'
    have nd2 := (List.nodup_cons.mp nd)
    have ih := keys_up h'.2 nd2.2
    have hpx : p.cps.toList < x.cps.toList := by
      rcases nat_tri p.cps.toList x.cps.toList with h | h | h
      · exact h
      · exact absurd (cps_inj h) (fun e => nd2.1 (by rw [e]; simp))
      · have := h'.1
        rw [cps_lt.mpr h] at this
        cases this
    refine List.pairwise_cons.mpr ⟨fun y hy => ?_, ih⟩
    rcases List.mem_cons.mp hy with e | hy
    · rw [e]; exact hpx
    · exact nat_trans hpx ((List.pairwise_cons.mp ih).1 y hy)
theorem sorted_up {ks : List Str} (h : PyProof.Rows.sortedS ks = true) (nd : ks.Nodup) : ks.Pairwise (fun a b => a.cps.toList < b.cps.toList) := by
  cases ks with
  | nil => exact .nil
  | cons p ks => exact keys_up h nd
section
open PySem.W PySem.SeqAt PyProof.Rows
theorem lt_word {a b : PP} (h : a.1.cps.toList < b.1.cps.toList) : dataLt (encP a) (encP b) = true := by
  have ne : ¬ a.1 = b.1 := fun e => by
    rw [e] at h
    exact absurd h (List.lt_irrefl _)
  unfold encP
  rw [dataLt_pair rfl (by simp [alike, alike_ints])]
  have e1 : PyData.eqv (.str a.1) (.str b.1) = false := by
    show (a.1 == b.1) = false
    exact beq_eq_false_iff_ne.mpr ne
  rw [e1]
  simp only [Bool.false_eq_true, if_false]
  rw [dataLt_str]
  exact decide_eq_true h
theorem eqv_ints : ∀ {xs ys : List Int}, PyData.eqvAll (xs.map .int) (ys.map .int) = true → xs = ys
  | [], [], _ => rfl
  | [], _ :: _, h => by simp [PyData.eqvAll] at h
  | _ :: _, [], h => by simp [PyData.eqvAll] at h
  | x :: xs, y :: ys, h => by
    simp [PyData.eqvAll, PyData.eqv] at h
    rw [h.1, eqv_ints h.2]
theorem lt_path {a b : PP} (e : a.1 = b.1) (h : a.2 < b.2) : dataLt (encP a) (encP b) = true := by
  unfold encP
  rw [dataLt_pair rfl (by simp [alike, alike_ints])]
  have e1 : PyData.eqv (.str a.1) (.str b.1) = true := by
    show (a.1 == b.1) = true
    rw [e]
    exact beq_self_eq_true _
  rw [e1, if_pos rfl]
  have e2 : PyData.eqv (.tuple (a.2.map .int)) (.tuple (b.2.map .int)) = false := by
    rw [Bool.eq_false_iff]
    intro z
    have z' : PyData.eqvAll (a.2.map .int) (b.2.map .int) = true := z
    rw [eqv_ints z'] at h
    exact absurd h (List.lt_irrefl _)
  rw [e2]
  simp only [Bool.false_eq_true, if_false]
  show rowLt (a.2.map .int) (b.2.map .int) = true
  rw [dataLt_ints]
  exact decide_eq_true h
theorem places_up {out : List (Str × T)} (h : PyProof.Rows.sortedS (out.map (·.1)) = true) (nd : (out.map (·.1)).Nodup) : (placesOf out).Pairwise (fun a b => dataLt (encP a) (encP b) = true) := by
  unfold placesOf
  refine List.pairwise_flatMap.mpr ⟨fun q _ => ?_, ?_⟩
  · unfold plOne
    refine List.pairwise_map.mpr ((List.Pairwise.filter _ (walk_up (n := 4)).1).imp fun {u v} huv => ?_)
    exact lt_path rfl huv
  · refine (List.pairwise_map.mp (sorted_up h nd)).imp fun {q q'} hq u hu v hv => ?_
    obtain ⟨u', _, rfl⟩ := List.mem_map.mp hu
    obtain ⟨v', _, rfl⟩ := List.mem_map.mp hv
    exact lt_word hq
/-- what the law sorts is what the program tells -/
theorem sort_is {bs out : List PP} (hp : out.Perm bs) (hs : out.Pairwise (fun a b => dataLt (encP a) (encP b) = true)) : bs.mergeSort (dataLe false encP) = out := by
  have TL := sortLe_total (PyProof.Rows.listOrd PyProof.Rows.itemOrd) false fun b : PP => keyToks (encP b)
  refine uniq (lt := fun a b => dataLt (encP a) (encP b)) ((List.mergeSort_perm _ _).trans hp.symm) ?_ hs
  have := List.pairwise_mergeSort (le := dataLe false encP) (fun a b c h1 h2 => TL.trans a b c h1 h2) (fun a b => by
    rcases TL.total a b with h | h
    · exact Bool.or_eq_true_iff.mpr (.inl h)
    · exact Bool.or_eq_true_iff.mpr (.inr h)) bs
  refine this.imp fun {a b} hab => ?_
  have : (!dataLt (encP b) (encP a)) = true := hab
  simpa using this
end
end Fs

namespace Fs
open PySem L2
abbrev slaw : Stmt := top 53
theorem sclaw : FnScope ["_law_script", "_law_turn", "_law_source_here", "_law_library_here", "_law_program", "_law_due", "_law_name", "_law_path", "_law_row_here", "_law_again", "_law_found"] ["_law_script"] (defScope slaw) := ⟨rfl, rfl, rfl, by decide +kernel, rfl, by decide +kernel, by decide +kernel⟩
theorem str_of_tup {t : T} {x : Str} (h : t.tupled = .str x) : t = .str x := by
  cases t with
  | non => rw [tup_non] at h; cases h
  | bl b => rw [tup_bl] at h; cases h
  | int i => rw [tup_int] at h; cases h
  | str y => rw [tup_str] at h; exact h
  | seq b ts => rw [tup_seq] at h; cases h
theorem int_of_tup {t : T} {x : Int} (h : t.tupled = .int x) : t = .int x := by
  cases t with
  | non => rw [tup_non] at h; cases h
  | bl b => rw [tup_bl] at h; cases h
  | int i => rw [tup_int] at h; exact h
  | str y => rw [tup_str] at h; cases h
  | seq b ts => rw [tup_seq] at h; cases h
theorem seq_of_tup {t : T} {b : Bool} {us : List T} (h : t.tupled = .seq b us) : ∃ b' ts, t = .seq b' ts ∧ us = ts.map T.tupled := by
  cases t with
  | non => rw [tup_non] at h; cases h
  | bl b => rw [tup_bl] at h; cases h
  | int i => rw [tup_int] at h; cases h
  | str y => rw [tup_str] at h; cases h
  | seq b ts => rw [tup_seq] at h; cases h; exact ⟨_, _, rfl, rfl⟩
theorem HeadsOk.untup : ∀ {ks : List Bool} {ts : List T}, HeadsOk ks (ts.map T.tupled) → HeadsOk ks ts
  | [], ts, h => List.map_eq_nil_iff.mp h
  | k :: ks, [], h => by
    obtain ⟨t, r, e, _⟩ := h
    cases e
  | k :: ks, t :: ts, h => by
    obtain ⟨u, r, e, a, l⟩ := h
    rw [List.map_cons] at e
    injection e with e1 e2
    rw [← e2] at l
    refine ⟨t, ts, rfl, ?_, HeadsOk.untup l⟩
    rw [← e1] at a
    cases k
    · obtain ⟨i, e, z⟩ := a
      exact ⟨i, int_of_tup e, z⟩
    · obtain ⟨x, e, z⟩ := a
      exact ⟨x, str_of_tup e, z⟩
theorem GR.untup {R : Bool → T → Prop} (hR : ∀ m t, R m t.tupled → R m t) {mk : Bool} {t : T} (h : GR R mk t.tupled) : GR R mk t := by
  obtain ⟨b, x, ks, hs, bs, e, h1, h2, h3, h4, h5⟩ := h
  obtain ⟨b', ts, rfl, e2⟩ := seq_of_tup e
  cases ts with
  | nil => cases e2
  | cons a ts =>
    rw [List.map_cons] at e2
    injection e2 with e3 e4
    obtain ⟨l1, l2, rfl, e5, e6⟩ := List.map_eq_append_iff.mp e4.symm
    subst e5
    subst e6
    rw [str_of_tup e3.symm]
    refine ⟨b', x, ks, l1, l2, rfl, h1, h2.untup, by rw [List.length_map] at h3; exact h3, h4, fun y hy => ?_⟩
    obtain ⟨b2, rs, e7, l, a⟩ := h5 y.tupled (List.mem_map_of_mem hy)
    obtain ⟨b3, us, rfl, rfl⟩ := seq_of_tup e7
    exact ⟨b3, us, rfl, by rw [List.length_map] at l; exact l, fun r hr => hR _ _ (a _ (List.mem_map_of_mem hr))⟩
theorem GRow.untup : ∀ {n : Nat} {mk : Bool} {t : T}, GRow n mk t.tupled → GRow n mk t
  | 0, _, _, h => GR.untup (fun _ _ z => z.elim) h
  | n + 1, _, _, h => GR.untup (R := GRow n) (fun _ _ z => GRow.untup z) h
theorem GB.untup {n : Nat} {mk : Bool} {x : T} (h : GB (GRow n) mk x.tupled) : GB (GRow n) mk x := by
  obtain ⟨b, rs, e, l, a⟩ := h
  obtain ⟨b3, us, rfl, rfl⟩ := seq_of_tup e
  exact ⟨b3, us, rfl, by rw [List.length_map] at l; exact l, fun r hr => GRow.untup (a _ (List.mem_map_of_mem hr))⟩
theorem LikeLib.glib {lib lib' : List (Str × T)} (k : LikeLib lib lib') (g : GLib lib) : GLib lib' :=
  ⟨by have := k.keys.length_eq; rw [List.length_map, List.length_map] at this; rw [this]; exact g.few, k.keys.nodup_iff.mpr g.nd, fun p hp => by
    obtain ⟨q, hq, e1, e2⟩ := k.like p hp
    rw [← e1]
    refine ⟨(g.ok q hq).1, GB.untup ?_⟩
    rw [e2]
    exact GB.tupled (g.ok q hq).2⟩
theorem Taken.olib {lib out : List (Str × T)} (tk : Taken lib out) (gl : GLib lib) : OLib out :=
  ⟨by have := tk.perm.length_eq; rw [List.length_map, List.length_map] at this; rw [this]; exact gl.few, tk.perm.nodup_iff.mpr gl.nd, fun q hq => by
    obtain ⟨q', hq', e, e'⟩ := tk.like q hq
    rw [← e, e']
    exact ⟨(gl.ok q' hq').1, GB.tupled (gl.ok q' hq').2⟩⟩
theorem GLib.olib {lib : List (Str × T)} (gl : GLib lib) : OLib lib := ⟨gl.few, gl.nd, gl.ok⟩
theorem tup_idem : ∀ {n : Nat} {t : T}, Sm n t → t.tupled.tupled = t.tupled
  | n, .non, _ => by rw [tup_non, tup_non]
  | n, .bl _, _ => by rw [tup_bl, tup_bl]
  | n, .int _, _ => by rw [tup_int, tup_int]
  | n, .str _, _ => by rw [tup_str, tup_str]
  | 0, .seq b ts, h => by cases (show (T.seq b ts).isSeq = false from h)
  | n + 1, .seq b ts, h => by
    rw [tup_seq, tup_seq, List.map_map]
    congr 1
    exact List.map_congr_left fun t ht => tup_idem (n := n) (h.2 t ht)
/-- the law's own places, sorted, are what the program tells -/
theorem places_are {lib lib' out : List (Str × T)} (g : GLib lib) (k : LikeLib lib lib') (tk : Taken lib' out) : (placesOf lib).mergeSort (PySem.W.dataLe false encP) = placesOf out := by
  have g' := k.glib g
  refine sort_is ?_ (places_up tk.srt (tk.perm.nodup_iff.mpr g'.nd))
  refine (places_perm tk.perm g'.nd fun p hp => ?_).trans (places_perm k.keys g.nd fun p hp => ?_)
  · obtain ⟨q, hq, e, e'⟩ := tk.like p hp
    exact ⟨q, hq, e, by rw [e', tup_idem (GB.sm (g'.ok q hq).2)]⟩
  · obtain ⟨q, hq, e, e'⟩ := k.like p hp
    exact ⟨q, hq, e, e'⟩
theorem pl_ints {n : Nat} {ns : List Int} (h : ns.length ≤ 200000) : Pl (n + 1) (pathT ns) := by
  refine ⟨by rw [List.length_map]; exact h, fun t ht => ?_⟩
  obtain ⟨i, _, rfl⟩ := List.mem_map.mp ht
  cases n <;> trivial
theorem pl_places {out : List (Str × T)} (o : OLib out) : Pl 3 (.seq false ((placesOf out).map ppT)) := by
  refine ⟨?_, fun t ht => ?_⟩
  · have := o.len out.length
    rw [List.take_length] at this
    rw [List.length_map]
    omega
  · obtain ⟨q, hq, rfl⟩ := List.mem_map.mp ht
    refine ⟨by show 2 ≤ 200000; omega, fun t ht => ?_⟩
    rcases List.mem_cons.mp ht with e | ht
    · rw [e]
      trivial
    · rcases List.mem_cons.mp ht with e | ht
      · rw [e]
        refine pl_ints ?_
        obtain ⟨p, hp, hq⟩ := List.mem_flatMap.mp hq
        obtain ⟨u, hu, rfl⟩ := List.mem_map.mp hq
        obtain ⟨i, r, e, l⟩ := (walk_up (n := 4)).2 u (List.mem_filter.mp hu).1
        show u.1.length ≤ _
        rw [e]
        simp only [List.nil_append, List.length_cons]
        omega
      · exact nomatch ht
theorem valV_at : ∀ {kvs : List (Key × V)} {j : Nat} {k : Key} {v : V}, (kvs.map (·.1)).Nodup → kvs[j]? = some (k, v) → valV kvs k = some v
  | [], _, _, _, _, e => by cases e
  | (k', v') :: r, 0, k, v, _, e => by
    cases e
    unfold valV
    simp
  | (k', v') :: r, j + 1, k, v, nd, e => by
    have e' : r[j]? = some (k, v) := e
    have nd' := List.nodup_cons.mp nd
    have ne : ¬ k' = k := fun z => nd'.1 (by rw [z]; exact List.mem_map.mpr ⟨(k, v), List.mem_of_getElem? e', rfl⟩)
    have ih := valV_at nd'.2 e'
    unfold valV at ih ⊢
    rw [List.find?_cons_of_neg (by simpa using ne)]
    exact ih
def spLaw6 (K : PySem.W.Frag) : Sp := fun vs H Q _ => ∃ (a : Addr) (ns : List Int), vs = [.ref a] ∧ SqL K H a (ns.map V.int) ∧ ns.length ≤ 63 ∧ ∀ H', Q (.bl true) H'
section
variable {P : Program} {w : World} {K : PySem.W.Frag} {mg : Str → Option Value} {base : Heap} {f f1 f2 f3 f4 f5 f6 fI fPl Cc : Addr} {fd fd1 fd2 fd3 fd4 fd5 fd6 fdI fdPl : FuncData}
theorem ok_law6 {k : Nat} (hk : 20 ≤ k) (D : Df K mg "law" slaw ["_law_script"] f fd) (B : Bn mg)
    (Dsource : Df K mg "_law_source" ssource ["_law_script", "_law_k"] f1 fd1) (Gsource : FnOk P w K mg base CX0 1 f1 fd1 ["_law_script", "_law_k"] (spSource K))
    (Dlibrary : Df K mg "_law_library" slibrary ["_law_source_here"] f2 fd2) (Glibrary : FnOk P w K mg base CX0 12 f2 fd2 ["_law_source_here"] spLib)
    (Dhanded : Df K mg "_law_handed" shanded ["_law_source_here", "_law_library_here"] f3 fd3) (Ghanded : FnOk P w K mg base CX0 k f3 fd3 ["_law_source_here", "_law_library_here"] spHanded)
    (Dwalked : Df K mg "_law_walked" swalked ["_law_rows", "_law_ahead"] f4 fd4) (Gwalked : FnOk P w K mg base CX0 k f4 fd4 ["_law_rows", "_law_ahead"] (spWalk 4))
    (Dsame : Df K mg "_law_same" ssame ["_law_found", "_law_due"] f5 fd5) (Gsame : FnOk P w K mg base CX0 k f5 fd5 ["_law_found", "_law_due"] (spSame 3))
    (Tc : Pcl K Cc) (Mp : Mk K Cc fI) (gP : mg "Program" = some (.ref Cc)) (bP : Binds K fdI ["self", "modules"] []) (Gpinit : FnOk P w K mg base CX0 k fI fdI ["self", "modules"] (spPInit Cc))
    (mPl : Meth K Cc "places" fPl) (bPl : Binds K fdPl ["self"] []) (Gpplaces : FnOk P w K mg base CX0 1 fPl fdPl ["self"] (spPlaces Cc)) :
    FnOk P w K mg base CX0 (k + 2) f fd ["_law_script"] (spLaw6 K) := by
  refine D.F.ok sclaw (fun vs H Q E h => ?_) (fun cdv A outer s H vs Q E hr h => ?_)
  · obtain ⟨a, ns, rfl, _⟩ := h
    rfl
  obtain ⟨a, ns, rfl, hsc, hlen, q⟩ := h
  refine ⟨_, (pss_cons (ps_for PassesOwn.never rfl (pi_range1 (by rfl) B.range (pa_cons (pe_callB (call_max2 rfl) (by rfl) B.max (by decide +kernel) (pa_cons pe_int (pa_cons (pe_callB (call_min2 rfl) (by rfl) B.min (by decide +kernel) (pa_cons pe_int (pa_cons (pe_callB call_len_seq (by rfl) B.len PySem.boot_len (pa_cons (pv 0) pa_nil)) pa_nil))) pa_nil))) pa_nil)) (pg_name (i := 1) sclaw.nd rfl (Or.inl rfl))
  (pss_cons (ps_set (i := 2) sclaw.nd rfl (Or.inl rfl) (pe_call Gsource (hr.mono (by omega)) rfl Dsource.g Dsource.F.kp Dsource.b .nil pass0 (pa_cons (pv 0) (pa_cons (pv 1) pa_nil))))
 (pss_cons (ps_set (i := 3) sclaw.nd rfl (Or.inl rfl) (pe_call Glibrary (hr.mono (by omega)) rfl Dlibrary.g Dlibrary.F.kp Dlibrary.b .nil pass0 (pa_cons (pv 2) pa_nil)))
 (pss_cons (ps_par (i := 4) (j := 5) (by rfl) sclaw.nd rfl rfl (by decide) rfl rfl (pa_cons (pe_make Mp Gpinit hr rfl gP bP .nil pass0 (pa_cons (pe_call Ghanded (hr.mono (by omega)) rfl Dhanded.g Dhanded.F.kp Dhanded.b .nil pass0 (pa_cons (pv 2) (pa_cons (pv 3) pa_nil))) pa_nil)) (pa_cons (pe_lst pa_nil) pa_nil)) (by rfl))
 (Evl.pss_cut (ps_lock (ps_for PassesOwn.never rfl (pi_keys (pv 3)) (pg_name (i := 6) sclaw.nd rfl (Or.inl rfl))
  (pss_one (ps_for PassesOwn.never rfl (pi_list (pe_call Gwalked (hr.mono (by omega)) rfl Dwalked.g Dwalked.F.kp Dwalked.b .nil pass0 (pa_cons (pe_dget (hu_of hr) (pv 3) (pv 6) (fun _ _ => rfl)) (pa_cons (pe_tup pa_nil) pa_nil)))) (pg_tup (by rfl) (pgs_cons (pg_name (i := 7) sclaw.nd rfl (Or.inl rfl)) (pgs_cons (pg_name (i := 8) sclaw.nd rfl (Or.inl rfl)) pgs_nil)))
  (pss_one (ps_if (pt_cmpR op_in_seq (pe_ix (ix_list.or ix_tup) (pv 8) pe_int (fun _ _ => rfl)) (pe_tup (pa_cons pe_str (pa_cons pe_str pa_nil))) (by rfl))
  (pss_one (ps_expr (pe_bm PySem.F.plainAttrs_list PySem.F.slot_list_append PySem.F.type_list_append mt_append (pv 5) (pa_cons (pe_tup (pa_cons (pv 6) (pa_cons (pv 7) pa_nil))) pa_nil))))
  pss_nil))))))
 (pss_cons (ps_set (i := 5) sclaw.nd rfl (Or.inl rfl) (pe_callB (cr_sortPP hr.units) (by rfl) B.sorted (by decide +kernel) (pa_cons (pv 5) pa_nil)))
 (pss_one (ps_for PassesOwn.never rfl (pi_range1 (by rfl) B.range (pa_cons pe_int pa_nil)) (pg_name (i := 9) sclaw.nd rfl (Or.inl rfl))
  (pss_cons (ps_set (i := 10) sclaw.nd rfl (Or.inl rfl) (pe_meth0 (pv 4) Tc.cl mPl Gpplaces (hr.mono (by omega)) bPl .nil pass0))
 (pss_cons (ps_if (pt_not (pt_val (pe_call Gsame (hr.mono (by omega)) rfl Dsame.g Dsame.F.kp Dsame.b .nil pass0 (pa_cons (pv 10) (pa_cons (pv 5) pa_nil)))))
  (pss_one (ps_ret pe_bl))
  pss_nil)
 (pss_one (ps_expr (pe_bm PySem.F.plainAttrs_list PySem.F.slot_list_append PySem.F.type_list_append mt_append (pv 10) (pa_cons (pe_tup (pa_cons pe_str (pa_cons (pe_tup (pa_cons pe_int pa_nil)) pa_nil))) pa_nil))))))))))))))
 (pss_one (ps_ret pe_bl))), ?_⟩
  obtain ⟨N, hN, hN0, hN1⟩ : ∃ N : Int, (if (if ((ns.map V.int).length : Int) < 14 then ((ns.map V.int).length : Int) else 14) > 6 then (if ((ns.map V.int).length : Int) < 14 then ((ns.map V.int).length : Int) else 14) else 6) = N ∧ 6 ≤ N ∧ N ≤ 14 := by
    refine ⟨_, rfl, ?_, ?_⟩ <;> (repeat' split) <;> omega
  refine ⟨_, rfl, a, _, rfl, .inl hsc, _, _, rfl, _, _, rfl, N, congrArg (fun z => [V.int z]) hN, by omega, by omega, for_range (lo := 0) (n := N.toNat) (fun i σ H' => ∃ (o1 o2 o3 o4 o5 o6 o7 o8 o9 o10 : Option V), σ = [some (.ref a), o1, o2, o3, o4, o5, o6, o7, o8, o9, o10] ∧ Kp [] H H') ?_ ?_ ?_⟩
  · exact ⟨_, _, _, _, _, _, _, _, _, _, rfl, Kp.rfl'⟩
  · rintro i σ H0 hi ⟨o1, o2, o3, o4, o5, o6, o7, o8, o9, o10, rfl, k0⟩
    refine ⟨_, rfl, _, rfl, a, ns, _, rfl, k0.sqL hsc (by simp), hlen, by omega, by omega, fun sa H1 hsa S1 k1 => ?_⟩
    refine ⟨_, rfl, sa, 0, [sa], rfl, S1, by decide, S1.kn, by simp, fun lp lib c' H2 hlpX hne gl hlib S2 c0 c1 k2 => ?_⟩
    have g9 : gC 9 = 19173961 := by decide
    obtain ⟨kvs, hlp, hkv⟩ := hlib
    have hX2 : Kn [lp, sa] H2 := .cons hlp (S1.kn.kp k2 S2.kn)
    refine ⟨_, rfl, _, rfl, sa, lp, c', [lp, sa], lib, rfl, S2, by omega, hX2, by simp, by simp, gl, ⟨kvs, hlp, hkv⟩, fun hp lib' c2 H3 hhX like hlib' S3 c3 c4 k3 => ?_⟩
    intro x dx nx ndx nex
    obtain ⟨kvh, hhp, hkvh⟩ := hlib'
    have hX3 : Kn [hp, lp, sa] H3 := .cons hhp (hX2.kp k3 S3.kn)
    have hxX : x ∉ [hp, lp, sa] := hX3.out nx
    have kI : Kp [] H3 (upd (upd H3 dx (.own x)) x (.ins Cc dx [])) := (Kp.rfl'.new ndx).new nx
    have hxl : x ≠ lp := fun z => hxX (by rw [z]; simp)
    have hlp3 : H3 lp = some (.dK kvs) := k3 _ _ hlp (by
      intro z
      obtain ⟨_, _, e, _⟩ := S2
      rw [← List.mem_singleton.mp z, hlp] at e
      cases e)
    have hsl : sa ≠ lp := fun z => hlpX (by rw [z]; simp)
    have gl' := like.glib gl
    have hne' : lib' ≠ [] := fun z => hne (List.eq_nil_of_length_eq_zero (by
      have := like.keys.length_eq
      rw [List.length_map, List.length_map, z] at this
      exact this.symm))
    refine ⟨[x, hp, lp, sa], x, dx, hp, lib', rfl, upd_same, by simp, ⟨kvh, kI _ _ hhp (by simp), (hkvh.more nx).kp (kI.mono (by simp))⟩, gl', hne', .cons upd_same (hX3.kp kI .nil), fun fs out Pl H4 hx4 hPl hno hPlat tk k4 => ⟨rfl, ?_⟩⟩
    have kk4 : Kp [x] H3 H4 := (kI.mono (by simp)).trans k4
    have hlp4 : H4 lp = some (.dK kvs) := kk4 _ _ hlp3 (by simpa using hxl.symm)
    have kv4 : KvAt [x, lp, sa] H4 lib kvs := ((hkv.kp (k3.mono (by simp))).more nx).kp (kk4.mono (by simp))
    refine ⟨(by show 0 ≤ sizeLine; exact Nat.zero_le _), fun Ld hLd => ⟨_, _, rfl, ?_⟩⟩
    have kL : ∀ o, Kp [] H4 (upd H4 Ld o) := fun o => Kp.rfl'.new hLd
    have hLd5 : (upd H4 Ld (.lst [])) Ld = some (.lst []) := upd_same
    have hlp5 : (upd H4 Ld (.lst [])) lp = some (.dK kvs) := kL _ _ _ hlp4 (by simp)
    have hLl : Ld ≠ lp := fun z => by rw [z, hlp4] at hLd; cases hLd
    have hLx : Ld ≠ x := fun z => by rw [z, hx4] at hLd; cases hLd
    have kv5 : KvAt [Ld, x, lp, sa] (upd H4 Ld (.lst [])) lib kvs := (kv4.more hLd).kp ((kL _).mono (by simp))
    have hx5 : (upd H4 Ld (.lst [])) x = some (.ins Cc dx fs) := kL _ _ _ hx4 (by simp)
    have hPl5 : At [Ld, x, hp, lp, sa] (upd H4 Ld (.lst [])) (.seq true ((placesOf out).map ppT)) (.ref Pl) := (hPlat.more hLd).kp ((kL _).mono (by simp))
    have hsa4 : ∃ o, H4 sa = some o := by
      obtain ⟨d, m, e, _⟩ := S3
      have hxs : sa ≠ x := fun z => hxX (by rw [← z]; simp)
      exact ⟨_, kk4 _ _ e (by simpa using hxs)⟩
    have hLdH : H Ld = none := by
      obtain ⟨o, e⟩ := hsa4
      have hLs : Ld ≠ sa := fun z => by rw [z, e] at hLd; cases hLd
      exact (k0.trans k1).free (k2.free (k3.free (kk4.free hLd (by simpa using hLx)) (by simpa using hLs)) (by simpa using hLs)) (by simp)
    have hX5 : Kn [Ld, x, lp, sa] (upd H4 Ld (.lst [])) := by
      obtain ⟨o, e⟩ := hsa4
      exact .cons hLd5 (.cons hx5 (.cons hlp5 (.cons (kL _ _ _ e (by simp)) .nil)))
    have k05 : Kp [] H (upd H4 Ld (.lst [])) := by
      have c1 : Kp [x, sa] H1 H4 := ((k2.mono (by simp)).trans (k3.mono (by simp))).trans (fun b u e n => kk4 b u e (fun z => n (by simp at z; simp [z])))
      have c2 : Kp [x, sa] H (upd H4 Ld (.lst [])) := ((k0.trans k1).mono (by simp)).trans (c1.trans ((kL _).mono (by simp)))
      refine Kp.drop (Y := [x, sa]) (X := []) c2 fun z hz => ?_
      simp at hz
      rcases hz with e | e
      · rw [e]
        have f3 : H2 x = none := k3.free nx (fun z => hxX (by rw [List.mem_singleton.mp z]; simp))
        have f2 : H1 x = none := k2.free f3 (fun z => hxX (by rw [List.mem_singleton.mp z]; simp))
        exact (k0.trans k1).free f2 (by simp)
      · rw [e]
        exact k0.free hsa (by simp)
    generalize hH5 : upd H4 Ld (.lst []) = H5 at *
    refine ⟨fun σ' H' => ∃ (us : List V) (p6 p7 p8 p9 p10 : Option V), σ' = [some (.ref a), some (.int (0 + (i : Nat))), some (.ref sa), some (.ref lp), some (.ref x), some (.ref Ld), p6, p7, p8, p9, p10] ∧ H' Ld = some (.lst us) ∧
      AtL [Ld, x, lp, sa] H' ((placesOf lib).map ppT) us ∧ Kp [Ld] H5 H', ?_, ?_⟩
    · refine ⟨lp, .dK kvs, hlp5, trivial, fun od => ?_⟩
      refine ⟨_, rfl, lp, od, rfl, .inl ⟨kvs, upd_same, for_it walk_keys (fun j σ H' => ∃ (us : List V) (p6 p7 p8 p9 p10 : Option V), σ = [some (.ref a), some (.int (0 + (i : Nat))), some (.ref sa), some (.ref lp), some (.ref x), some (.ref Ld), p6, p7, p8, p9, p10] ∧
        H' Ld = some (.lst us) ∧ AtL [Ld, x, lp, sa] H' ((placesOf (lib.take j)).map ppT) us ∧ Kp [Ld] (upd H5 lp (.frz od (.dK kvs))) H') ?_ ?_ ?_ ?_⟩⟩
      all_goals have hLd6 : (upd H5 lp (.frz od (.dK kvs))) Ld = some (.lst []) := by rw [upd_ne hLl]; exact hLd5
      all_goals have kf : Kp [lp] H5 (upd H5 lp (.frz od (.dK kvs))) := Kp.rfl'.at (by simp)
      all_goals have hlp6 : (upd H5 lp (.frz od (.dK kvs))) lp = some (.frz od (.dK kvs)) := upd_same
      all_goals have hX6 : Kn [Ld, x, lp, sa] (upd H5 lp (.frz od (.dK kvs))) := hX5.upd
      all_goals have kv6 : KvAt [Ld, x, lp, sa] (upd H5 lp (.frz od (.dK kvs))) lib kvs := kv5.kp (kf.mono (by simp))
      · exact ⟨[], _, _, _, _, _, rfl, hLd6, rfl, Kp.rfl'⟩
      · rintro j σ H' hj ⟨us, p6, p7, p8, p9, p10, rfl, f1, f2, k6⟩
        exact k6 _ _ hlp6 (by simpa using hLl.symm)
      · generalize upd H5 lp (.frz od (.dK kvs)) = G at *
        rintro j y σ H' H'' hj ⟨us, p6, p7, p8, p9, p10, rfl, f1, f2, k6⟩ ⟨rfl, key, v, hkv', rfl⟩
        obtain ⟨⟨m, t⟩, hq, hk', hat⟩ := kv6.get hkv'
        cases (show key = .inr m from hk')
        have hmem : (m, t) ∈ lib := List.mem_of_getElem? hq
        obtain ⟨b, rs, rfl, hl8, hrs⟩ := (gl.ok _ hmem).2
        have hat6 := hat.kp (k6.mono (by simp))
        have hvv : valV kvs (.inr m) = some v := by
          refine valV_at ?_ hkv'
          rw [hkv.keys]
          exact gl.nd.map (f := (Sum.inr : Str → Key)) (fun _ _ h => fun z => h (Sum.inr.inj z))
        refine ⟨_, rfl, _, rfl, lp, v, rfl, .inl ⟨kvs, .inr m, .inr ⟨od, k6 _ _ hlp6 (by simpa using hLl.symm)⟩, rfl, hvv.symm⟩, (by show 0 ≤ sizeLine; exact Nat.zero_le _), fun px hpx => ?_⟩
        have hX7 : Kn [Ld, x, lp, sa] H'' := hX6.kp k6 (.cons f1 .nil)
        refine ⟨[Ld, x, lp, sa], b, false, rs, v, px, [], rfl, ?_, hl8, hrs, upd_same, by simp, by omega, hX7.out hpx, hX7.upd, fun pw ws H7 hpwX hpw hws k7 => ⟨pw, rfl, ⟨ws, SqL.of hpw⟩, ?_⟩⟩
        · exact hat6.kp (((Kp.rfl' : Kp [] H'' H'').new hpx).mono (by simp))
        have k8 : Kp [] H'' H7 := (Kp.rfl'.new hpx).trans k7
        have wl := ((gl.olib).walk hmem).1
        have wr := ((gl.olib).walk hmem).2
        have f2' := f2.kp (k8.mono (by simp))
        have hwl := hws.length
        rw [List.length_map] at hwl
        refine for_it (walk_list (xs := ws)) (fun jj σ H8 => ∃ (us : List V) (p7 p8 p9 p10 : Option V), σ = [some (.ref a), some (.int (0 + (i : Nat))), some (.ref sa), some (.ref lp), some (.ref x), some (.ref Ld), some (.str m), p7, p8, p9, p10] ∧
          H8 Ld = some (.lst us) ∧ AtL [Ld, x, lp, sa] H8 ((placesOf (lib.take j) ++ plOne m ((walkP 4 [] rs).take jj)).map ppT) us ∧ Kp [Ld] H7 H8) ?_ ?_ ?_ ?_
        · exact ⟨us, _, _, _, _, rfl, k8 _ _ f1 (by simp), (by simpa [plOne] using f2'), Kp.rfl'⟩
        · rintro jj σ H8 hjj ⟨us8, p7, p8, p9, p10, rfl, g1, g2, k9⟩
          exact SqL.of (k9 _ _ hpw (fun z => hpwX (by rw [List.mem_singleton.mp z]; simp)))
        · rintro jj y σ H8 H9 hjj ⟨us8, p7, p8, p9, p10, rfl, g1, g2, k9⟩ ⟨rfl, hy⟩
          obtain ⟨t', ht', hta⟩ := AtL.get hws hy
          rw [List.getElem?_map] at ht'
          obtain ⟨u, hu, rfl⟩ : ∃ u, (walkP 4 [] rs)[jj]? = some u ∧ pairT u = t' := by
            cases e : (walkP 4 [] rs)[jj]? with
            | none => rw [e] at ht'; cases ht'
            | some q => rw [e] at ht'; exact ⟨q, rfl, Option.some.inj ht'⟩
          obtain ⟨pr, vr, rfl, hprX, hpr, w1, r1, rfl, a1, w2, r2, rfl, a2, a3⟩ := hta.kp (k9.mono (by simp))
          cases (show r2 = [] from a3)
          obtain ⟨b', xw, rest, hux⟩ := wr u (List.mem_of_getElem? hu)
          have a2' := a2
          rw [hux] at a2'
          obtain ⟨pq, vq, rfl, hpqX, hpq, v0, r0, rfl, e0, _⟩ := a2'
          cases (show v0 = .str xw from e0)
          refine ⟨pr, _, rfl, hpr.t, rfl, _, _, rfl, _, _, rfl, rfl, ?_⟩
          refine ⟨_, rfl, ix_seq2 hpq at0 ⟨(by show 2 ≤ sizeLine; exact ltsz (by decide)), fun tq htq => ⟨tq, _, rfl, .inr (SqT.of upd_same), rfl, rfl, _, rfl, ?_⟩⟩⟩
          have kq : ∀ o, Kp [] H9 (upd H9 tq o) := fun o => Kp.rfl'.new htq
          have hLq : Ld ≠ tq := fun z => by rw [← z, g1] at htq; cases htq
          have g1' : ∀ o, (upd H9 tq o) Ld = some (.lst us8) := fun o => by rw [upd_ne hLq]; exact g1
          have ew : inV (V.str xw) [.str "load", .str "pick"] = impB u := by
            unfold impB
            rw [hux]
            rfl
          show if inV (V.str xw) [.str "load", .str "pick"] = true then _ else _
          rw [ew]
          refine ite2 (fun hb => ?_) (fun hb => ?_)
          · refine ⟨_, rfl, .inl ⟨rfl, _, SqL.of (g1' _)⟩, _, rfl, _, rfl, (by show 2 ≤ sizeLine; exact ltsz (by decide)), fun pt hpt => ?_⟩
            have hLpt : Ld ≠ pt := fun z => by rw [← z, g1' _] at hpt; cases hpt
            have kpt : ∀ o, Kp [] H9 (upd (upd H9 tq (.tup [.str "load", .str "pick"])) pt o) := fun o => (kq _).trans (Kp.rfl'.new hpt)
            have hX12 : Kn [Ld, x, lp, sa] H9 := hX7.kp ((k8.mono (by simp)).trans k9) (.cons g1 .nil)
            refine ⟨Ld, us8, _, rfl, rfl, by rw [upd_ne hLpt]; exact g1' _, ?_, us8 ++ [.ref pt], _, _, _, _, rfl, upd_same, ?_, (k9.trans ((kpt _).mono (by simp))).trans (Kp.rfl'.at (by simp))⟩
            · have e1 := g2.length
              rw [List.length_map, List.length_append] at e1
              have e2 := (gl.olib).len j
              have e3 := plOne_len (m := m) (us := (walkP 4 [] rs).take jj)
              rw [List.length_take] at e3
              have wl' : (walkP 4 [] rs).length ≤ 34952 := wl
              exact Nat.lt_of_le_of_lt (m := 200000) (by omega) (by decide)
            · rw [plOne_next hu, if_pos hb, ← List.append_assoc, List.map_append]
              refine AtL.kp (Kp.rfl'.at (by simp)) ((g2.kp ((kpt _).mono (by simp))).snoc ?_)
              exact ⟨pt, [.str m, w1], rfl, hX12.upd.out hpt, .inl upd_same, .str m, [w1], rfl, rfl, .one (a1.kp ((kpt _).mono (by simp)))⟩
          · refine ⟨us8, _, _, _, _, rfl, g1' _, ?_, k9.trans ((kq _).mono (by simp))⟩
            rw [plOne_next hu, if_neg hb, List.append_nil]
            exact g2.kp ((kq _).mono (by simp))
        · rintro σ H8 ⟨us8, p7, p8, p9, p10, rfl, g1, g2, k9⟩
          refine ⟨us8, _, _, _, _, _, rfl, g1, ?_, k6.trans ((k8.mono (by simp)).trans k9)⟩
          rw [hwl, List.take_length] at g2
          rw [List.take_add_one, hq]
          unfold placesOf at g2 ⊢
          rw [List.flatMap_append]
          simpa [T.kids] using g2
      · rintro σ H' ⟨us, p6, p7, p8, p9, p10, rfl, f1, f2, k6⟩
        have hkl := kv6.length
        rw [hkl, List.take_length] at f2
        refine ⟨k6 _ _ hlp6 (by simpa using hLl.symm), us, _, _, _, _, _, rfl, by rw [upd_ne hLl]; exact f1, f2.kp (Kp.rfl'.at (by simp)), ?_⟩
        exact Kp.back (a := lp) (((kf.mono (by simp)).trans (k6.mono (by simp))).trans (Kp.rfl'.at (by simp))) hlp5 upd_same
    rintro σ' H6 ⟨us, p6, p7, p8, p9, p10, rfl, f1, f2, k6⟩
    have hLx' : x ≠ Ld := fun z => hLx z.symm
    have hX6 : Kn [Ld, x, lp, sa] H6 := hX5.kp k6 (.cons f1 .nil)
    have hx6 : H6 x = some (.ins Cc dx fs) := k6 _ _ hx5 (by simpa using hLx')
    have hPl6 : At [Ld, x, hp, lp, sa] H6 (.seq true ((placesOf out).map ppT)) (.ref Pl) := hPl5.kp (k6.mono (by simp))
    refine ⟨_, rfl, [Ld, x, lp, sa], Ld, us, placesOf lib, rfl, SqL.of f1, f2, fun ws S hS hws => ?_⟩
    rw [places_are gl like tk] at hws
    have kS : ∀ o, Kp [] H6 (upd H6 S o) := fun o => Kp.rfl'.new hS
    have hS6 : (upd H6 S (.lst ws)) S = some (.lst ws) := upd_same
    have hSX : S ∉ [Ld, x, lp, sa] := hX6.out hS
    have hdue : At [Ld, x, lp, sa] (upd H6 S (.lst ws)) (.seq false ((placesOf out).map ppT)) (.ref S) := ⟨S, ws, rfl, hSX, .inl upd_same, hws.kp ((kS _).mono (by simp))⟩
    have hfnd : At [Ld, x, lp, sa] (upd H6 S (.lst ws)) (.seq true ((placesOf out).map ppT)) (.ref Pl) := (hPl6.less (fun z hz => by simp at hz ⊢; rcases hz with e | e | e | e <;> simp [e])).kp ((kS _).mono (by simp))
    have hx7 : (upd H6 S (.lst ws)) x = some (.ins Cc dx fs) := kS _ _ _ hx6 (by simp)
    have hX7 : Kn [Ld, x, lp, sa] (upd H6 S (.lst ws)) := hX6.upd
    have kAll : Kp [] H (upd H6 S (.lst ws)) := by
      have c : Kp [Ld] H (upd H6 S (.lst ws)) := ((k05.mono (by simp)).trans k6).trans ((kS _).mono (by simp))
      exact Kp.drop (Y := [Ld]) (X := []) c fun z hz => by rw [List.mem_singleton.mp hz]; exact hLdH
    generalize upd H6 S (.lst ws) = H7 at *
    refine ⟨2, rfl, by decide, by decide, for_range (lo := 0) (n := 2) (fun j σ H' => ∃ (p6 p7 p8 p9 p10 : Option V), σ = [some (.ref a), some (.int (0 + (i : Nat))), some (.ref sa), some (.ref lp), some (.ref x), some (.ref S), p6, p7, p8, p9, p10] ∧ Kp [] H7 H') ?_ ?_ ?_⟩
    · exact ⟨_, _, _, _, _, rfl, Kp.rfl'⟩
    · rintro j σ H' hj ⟨p6, p7, p8, p9, p10, rfl, k8⟩
      refine ⟨_, rfl, x, dx, fs, rfl, k8 _ _ hx7 (by simp), hno "places" (by decide +kernel), [Ld, x, lp, sa], x, dx, fs, Pl, _, rfl, k8 _ _ hx7 (by simp), hPl, hfnd.kp (k8.mono (by simp)), hX7.kp k8 .nil, fun l us8 H8 hlN hl8 hat8 k9 => ?_⟩
      have k10 : Kp [] H7 H8 := k8.trans k9
      refine ⟨_, rfl, _, rfl, [Ld, x, lp, sa], .seq false ((placesOf out).map ppT), .ref l, .ref S, rfl, ⟨l, us8, rfl, (hX7.kp k8 .nil).out hlN, .inl hl8, hat8⟩, hdue.kp (k10.mono (by simp)), pl_places (tk.olib gl'), fun H9 k11 => ⟨_, rfl, ?_⟩⟩
      refine ite2 (fun z => nomatch z) (fun _ => ?_)
      have hl9 : H9 l = some (.lst us8) := k11 _ _ hl8 (by simp)
      have hlH7 : H7 l = none := k8.free hlN (by simp)
      refine ⟨_, rfl, .inl ⟨rfl, _, SqL.of hl9⟩, (by show 1 ≤ sizeLine; exact ltsz (by decide)), fun t1 ht1 => ⟨(by show 2 ≤ sizeLine; exact ltsz (by decide)), fun t2 ht2 => ?_⟩⟩
      have e1 : l ≠ t1 := fun z => by rw [← z, hl9] at ht1; cases ht1
      have hl10 : ∀ o, (upd H9 t1 o) l = some (.lst us8) := fun o => by rw [upd_ne e1]; exact hl9
      have e2 : l ≠ t2 := fun z => by rw [← z, hl10] at ht2; cases ht2
      have hul : us8.length ≤ 200000 := by
        have e3 := hat8.length
        rw [List.length_map] at e3
        have e4 := (tk.olib gl').len out.length
        rw [List.take_length] at e4
        omega
      refine ⟨l, us8, _, rfl, rfl, by rw [upd_ne e2]; exact hl10 _, Nat.lt_of_le_of_lt hul (by decide), _, _, _, _, _, rfl, ?_⟩
      exact (((k10.trans k11).trans (Kp.rfl'.new ht1)).trans (Kp.rfl'.new ht2)).new hlH7
    · rintro σ H' ⟨p6, p7, p8, p9, p10, rfl, k8⟩
      exact ⟨_, _, _, _, _, _, _, _, _, _, rfl, kAll.trans k8⟩
  · rintro σ H' ⟨o1, o2, o3, o4, o5, o6, o7, o8, o9, o10, rfl, k0⟩
    exact q H'
end
end Fs

/-! dicts with keys (word, path) -/
namespace Fs
open PySem PySem.Spec PyProof.Rows L2
abbrev KX : Type := PP × Addr × V
def nk (q : PP) : NestedKey := .tup [.text q.1, .tup (q.2.map .num)]
def rawOf (xs : List KX) (us : List Value) : List (NestedKey × Addr × Value) := (xs.zip us).map fun p => (nk p.1.1, p.1.2.1, p.2)
/-- the dict's own object -/
def KdIs (P : Program) (w : World) (a : Addr) (xs : List KX) (h : Heap) : Prop := (a == sysModules) = false ∧ xs.length ≤ sizeLine ∧ (xs.map fun x => nk x.1).Nodup ∧
  ∃ us : List Value, Vals (xs.map fun x => x.2.2) us ∧ ∃ o es ep, h.get? a = some o ∧ o.ExactDict ∧ o.data = .dict es ep ∧ es.toList = (rawOf xs us).map (entryOfKey (nestedKind P w))
def KdO (P : Program) (w : World) (a : Addr) (xs : List KX) : HO := .ext (KdIs P w a xs)
theorem KdIs.at' {P : Program} {w : World} {a : Addr} {xs : List KX} {h h' : Heap} (k : KdIs P w a xs h) (e : ∀ o, h.get? a = some o → h'.get? a = some o) : KdIs P w a xs h' := by
  obtain ⟨z1, z2, z3, us, r, o, es, ep, ho, q⟩ := k
  exact ⟨z1, z2, z3, us, r, o, es, ep, e o ho, q⟩
theorem kd_new {P : Program} {w : World} {H : Hp} {h : Heap} {a : Addr} {xs : List KX} (k : KdIs P w a xs h) : ObjOk P w H h a (KdO P w a xs) := by
  have ⟨_, _, _, us, r, o, es, ep, ho, _⟩ := k
  exact ⟨k, ⟨o, ho⟩, fun h1 h2 p e => p.at' e⟩
section
variable {X : Cx} {pins : List (Addr × Obj)} {σ : L2.St} {H : Hp} {s : Shared} {a b : Addr} {xs : List KX} {q : PP}
theorem kd_of (I : Inv X pins σ H s) (e : H a = some (KdO X.prog X.w a xs)) : KdIs X.prog X.w a xs s.heap := (I.hok a _ e).1
theorem nums_are {h : Heap} : ∀ {ns : List Int} {us : List Value}, Vals (ns.map V.int) us → NestedAll h (ns.map .num) us
  | [], _, r => by cases r; exact .nil
  | n :: ns, us, r => by
    rw [List.map_cons] at r
    cases r with
    | cons h1 h2 =>
      obtain ⟨t, rfl⟩ := h1
      exact .cons (.int n t) (nums_are h2)
theorem nums_depth : ∀ ns : List Int, NestedKey.depthAll (ns.map .num) = 0
  | [] => by simp [NestedKey.depthAll]
  | n :: ns => by
    rw [List.map_cons, NestedKey.depthAll, nums_depth ns]
    simp [NestedKey.depth]
theorem ints_of_at {Y : List Addr} {H : Hp} : ∀ {ns : List Int} {vs : List V}, AtL Y H (ns.map T.int) vs → vs = ns.map V.int
  | [], _, h => h
  | n :: ns, vs, h => by
    obtain ⟨v, r, rfl, e, l⟩ := h
    rw [List.map_cons, ints_of_at l, show v = .int n from e]
/-- the key's own tuple -/
theorem key_is {Y : List Addr} (I : Inv X pins σ H s) (h : At Y H (ppT q) (.ref b)) : (nestedKind X.prog X.w).is s.heap (nk q) b := by
  obtain ⟨p, vs, e, _, hp, v1, r1, rfl, e1, v2, r2, rfl, ⟨p2, vs2, rfl, _, hp2, hl2⟩, e3⟩ := h
  cases e
  cases (show r2 = [] from e3)
  cases (show v1 = .str q.1 from e1)
  cases ints_of_at hl2
  obtain ⟨its, r, ⟨o, ho, hc, n, hd⟩, _⟩ := I.tuple (hp.t (K := X.K))
  obtain ⟨its2, r2, ⟨o2, ho2, hc2, n2, hd2⟩, _⟩ := I.tuple (hp2.t (K := X.K))
  cases r with
  | cons h1 hr =>
    obtain ⟨t, rfl⟩ := h1
    cases hr with
    | cons h2 hr =>
      cases hr
      obtain rfl : _ = Value.ref p2 := h2
      refine ⟨.tup ho hc hd (.cons (.text _ _) (.cons (.tup ho2 hc2 hd2 (nums_are r2)) .nil)), ?_⟩
      show NestedKey.depth (nk q) ≤ 8
      unfold nk
      simp [NestedKey.depth, NestedKey.depthAll, nums_depth]
theorem raw_keys : ∀ {xs : List KX} {us : List Value}, Vals (xs.map fun x => x.2.2) us → (rawOf xs us).map (·.1) = xs.map fun x => nk x.1
  | [], us, r => by cases r; rfl
  | x :: xs, us, r => by
    rw [List.map_cons] at r
    cases r with
    | cons h1 h2 =>
      show nk x.1 :: _ = nk x.1 :: _
      rw [← raw_keys h2]
      rfl
theorem raw_mem : ∀ {xs : List KX} {us : List Value} {y : NestedKey × Addr × Value}, y ∈ rawOf xs us → ∃ x ∈ xs, y.1 = nk x.1 ∧ y.2.1 = x.2.1 := by
  intro xs us y h
  obtain ⟨p, hp, rfl⟩ := List.mem_map.mp h
  exact ⟨p.1, (List.of_mem_zip hp).1, rfl, rfl⟩
/-- told as the library tells it -/
theorem kd_dict {Y : List Addr} (I : Inv X pins σ H s) (e : H a = some (KdO X.prog X.w a xs)) (hk : ∀ x ∈ xs, At Y H (ppT x.1) (.ref x.2.1)) :
    ∃ us, Vals (xs.map fun x => x.2.2) us ∧ s.heap.DictOfH (nestedKind X.prog X.w) a (rawOf xs us) := by
  obtain ⟨z1, z2, z3, us, r, o, es, ep, ho, h1, h2, h3⟩ := kd_of I e
  refine ⟨us, r, o, es, ep, ho, h1, h2, h3, fun y hy => ?_, by rw [raw_keys r]; exact z3⟩
  obtain ⟨x, hx, e1, e2⟩ := raw_mem hy
  rw [e1, e2]
  exact key_is I (hk x hx)
theorem raw_snoc {xs : List KX} {us : List Value} {x : KX} {u : Value} (r : Vals (xs.map fun x => x.2.2) us) : rawOf (xs ++ [x]) (us ++ [u]) = rawOf xs us ++ [(nk x.1, x.2.1, u)] := by
  have hl : xs.length = us.length := by
    have := r.length
    rw [List.length_map] at this
    exact this
  unfold rawOf
  rw [List.zip_append hl, List.map_append]
  rfl
theorem kd_from {h' : Heap} {us : List Value} (z1 : (a == sysModules) = false) (z2 : xs.length ≤ sizeLine) (r : Vals (xs.map fun x => x.2.2) us) (d : h'.DictOfH (nestedKind X.prog X.w) a (rawOf xs us)) : KdIs X.prog X.w a xs h' := by
  obtain ⟨o, es, ep, ho, h1, h2, h3, _, nd⟩ := d
  exact ⟨z1, z2, by rw [← raw_keys r]; exact nd, us, r, o, es, ep, ho, h1, h2, h3⟩
theorem num_inj : ∀ {a b : List Int}, a.map NestedKey.num = b.map NestedKey.num → a = b
  | [], [], _ => rfl
  | [], _ :: _, h => by cases h
  | _ :: _, [], h => by cases h
  | x :: a, y :: b, h => by
    rw [List.map_cons, List.map_cons] at h
    injection h with h1 h2
    injection h1 with h1
    rw [h1, num_inj h2]
theorem nk_inj {p q : PP} (h : nk p = nk q) : p = q := by
  unfold nk at h
  injection h with h
  injection h with h1 h
  injection h1 with h1
  injection h with h2 _
  injection h2 with h2
  exact Prod.ext h1 (num_inj h2)
theorem raw_rel : ∀ {xs : List KX} {us : List Value} {y : NestedKey × Addr × Value}, Vals (xs.map fun x => x.2.2) us → y ∈ rawOf xs us → ∃ x ∈ xs, y.1 = nk x.1 ∧ y.2.1 = x.2.1 ∧ RelV x.2.2 y.2.2
  | [], us, y, r, h => by cases r; exact nomatch h
  | x :: xs, us, y, r, h => by
    rw [List.map_cons] at r
    cases r with
    | cons h1 h2 =>
      rcases List.mem_cons.mp (show y ∈ (nk x.1, x.2.1, _) :: rawOf xs _ from h) with e | h
      · rw [e]
        exact ⟨x, List.mem_cons_self .., rfl, rfl, h1⟩
      · obtain ⟨x', hx, z⟩ := raw_rel h2 h
        exact ⟨x', List.mem_cons_of_mem _ hx, z⟩
theorem raw_has : ∀ {xs : List KX} {us : List Value} {x : KX}, Vals (xs.map fun x => x.2.2) us → x ∈ xs → ∃ y ∈ rawOf xs us, y.1 = nk x.1
  | [], us, x, r, h => nomatch h
  | z :: xs, us, x, r, h => by
    rw [List.map_cons] at r
    cases r with
    | cons h1 h2 =>
      rcases List.mem_cons.mp h with e | h
      · rw [e]
        exact ⟨_, List.mem_cons_self .., rfl⟩
      · obtain ⟨y, hy, e⟩ := raw_has h2 h
        exact ⟨y, List.mem_cons_of_mem _ hy, e⟩
theorem d_ksetd {Y : List Addr} {d : V} {r : Value} {Q : Value → Shared → Prop} {E : Value → Shared → Prop} (hu : X.A.units + 64 < cLine) (I : Inv X pins σ H s) (e : H a = some (KdO X.prog X.w a xs)) (hk : ∀ x ∈ xs, At Y H (ppT x.1) (.ref x.2.1)) (hb : At Y H (ppT q) (.ref b)) (rd : RelV d r) (hl : xs.length < sizeLine)
    (h1 : ∀ x ∈ xs, x.1 = q → ∀ (w' : Value) (s' : Shared), Inv X pins σ H s' → RelV x.2.2 w' → Q w' s') (h2 : (∀ x ∈ xs, x.1 ≠ q) → ∀ s' : Shared, Inv X pins σ (upd H a (KdO X.prog X.w a (xs ++ [(q, b, d)]))) s' → Q r s') :
    wpAny (model X.prog X.w) X.A (call (.builtin "dict.setdefault") [.ref a, .ref b, r]) Q E s := by
  obtain ⟨us, rv, dd⟩ := kd_dict I e hk
  obtain ⟨z1, z2, _⟩ := kd_of I e
  have hlen : (rawOf xs us).length = xs.length := by
    have := congrArg List.length (raw_keys rv)
    rw [List.length_map, List.length_map] at this
    exact this
  refine call_setdefault_heap (knd := nestedKind X.prog X.w) (k := nk q) (by show X.A.units + 1 + 8 < cLine; omega) (key_is I hb) z1 dd (fun p hp => ?_) (fun hn h' dd' hs => ?_) (hsz := by rw [hlen]; exact z2)
  · unfold atKey at hp
    obtain ⟨y, hy, rfl⟩ := Option.map_eq_some_iff.mp hp
    have hyk := List.find?_some hy
    obtain ⟨x, hx, e1, e2, e3⟩ := raw_rel rv (List.mem_of_find?_eq_some hy)
    refine h1 x hx (nk_inj ?_) _ _ (I.tok _) e3
    rw [← e1]
    simpa using hyk
  · have hno : ∀ x ∈ xs, x.1 ≠ q := fun x hx z => by
      obtain ⟨y, hy, ey⟩ := raw_has rv hx
      unfold atKey at hn
      have := List.find?_eq_none.mp (Option.map_eq_none_iff.mp hn) y hy
      rw [ey, z] at this
      simp at this
    rw [storedH_new hn, ← raw_snoc (x := (q, b, d)) rv] at dd'
    have he : ∃ o, h'.get? a = some o := let ⟨o, _, _, ho, _⟩ := dd'; ⟨o, ho⟩
    refine h2 hno _ (d_write I (by rw [e]; exact True.intro) hs he (kd_new (kd_from z1 (by rw [List.length_append]; exact hl) ?_ dd')))
    rw [List.map_append]
    exact rv.append (.cons rd .nil)
theorem isKd_at (I : Inv X pins σ H s) (e : H a = some (KdO X.prog X.w a xs)) : s.TypeIs (.ref a) "dict" := by
  obtain ⟨_, _, _, us, r, o, es, ep, ho, hc, hd, _⟩ := kd_of I e
  exact ⟨o, ho, hc.1⟩
end
section
variable {X : Cx} {o e f : Expr} {td ty tx : TE} {apos cpos : Pos}
def tKSetd (P : Program) (w : World) (td ty tx : TE) : TE := fun σ H Q => td σ H fun x H1 => ∃ a, x = .ref a ∧ (∃ xs, H1 a = some (KdO P w a xs)) ∧ ty σ H1 fun y H2 => tx σ H2 fun z H3 =>
  ∃ (Y : List Addr) (xs : List KX) (q : PP) (b : Addr), H3 a = some (KdO P w a xs) ∧ y = .ref b ∧ (∀ x ∈ xs, At Y H3 (ppT x.1) (.ref x.2.1)) ∧ At Y H3 (ppT q) (.ref b) ∧ xs.length < sizeLine ∧
    (∀ x ∈ xs, x.1 = q → Q x.2.2 H3) ∧ ((∀ x ∈ xs, x.1 ≠ q) → Q z (upd H3 a (KdO P w a (xs ++ [(q, b, z)]))))
theorem pe_ksetd (hu : X.A.units + 64 < cLine) (ho : PE X o td) (he : PE X e ty) (hf : PE X f tx) (m : M2 X o "setdefault" apos e f cpos) : PE X (.Call (.Attribute o "setdefault" apos) [e, f] [] cpos) (tKSetd X.prog X.w td ty tx) := by
  constructor
  intro pins s σ H Q I h
  apply wpAny_Call_method m.base m.few m.line PySem.F.plainAttrs_dict PySem.F.slot_dict_setdefault PySem.F.type_dict_setdefault
  refine thn (ho.run pins s σ H _ I h) fun u s1 q1 => ?_
  obtain ⟨x, H1, I1, rx, a, rfl, ⟨xs0, ha0⟩, q1⟩ := q1
  obtain rfl : u = Value.ref a := rx
  have tt := isKd_at I1 ha0
  refine ⟨tt, ?_, ?_⟩
  · intro c hc
    cases hc
    obtain ⟨_, _, _, us, r, ob, es, ep, ho, hd, _⟩ := kd_of I1 ha0
    exact ⟨ob, ho, hd.2.1⟩
  rw [m.trees]
  refine Calls.callWith_builtin rfl (Calls.evalArgs_plain (Calls.spliced_cons (thn (he.run pins s1 σ H1 _ I1 q1) fun iv s2 q2 => ?_)))
  obtain ⟨y, H2, I2, ry, q2⟩ := q2
  refine Calls.spliced_cons (thn (hf.run pins s2 σ H2 _ I2 q2) fun fv s3 q3 => Calls.spliced_nil ?_)
  obtain ⟨z, H3, I3, rz, Y, xs, q, b, ha, rfl, hk, hb, hl, h1, h2⟩ := q3
  obtain rfl : iv = Value.ref b := ry
  exact d_ksetd hu I3 ha hk hb rz hl (fun x hx e w' s4 I4 rw' => ⟨x.2.2, _, I4, rw', h1 x hx e⟩) (fun hn s4 I4 => ⟨z, _, I4, rz, h2 hn⟩)
end
end Fs

/-! the pairs of such a dict, walked; a new such dict of a walk -/
namespace Fs
open PySem PySem.Spec PyProof.Rows L2
def ItX (P : Program) (w : World) (d : Addr) (ob : Obj) (xs : List KX) : It :=
  ⟨fun i H => H d = some (.frz ob (KdO P w d xs)) ∧ i < xs.length, fun i H x H' => ∃ T y, xs[i]? = some y ∧ x = .ref T ∧ H T = none ∧ H' = upd H T (.tup [.ref y.2.1, y.2.2]), fun i H => H d = some (.frz ob (KdO P w d xs)) ∧ xs.length ≤ i⟩
theorem walk_itemsX {P : Program} {w : World} {d : Addr} {ob : Obj} {xs : List KX} : Walk (ItX P w d ob xs) xs.length (fun H => H d = some (.frz ob (KdO P w d xs))) (YPair (fun i => xs[i]?.map fun y => V.ref y.2.1) (fun i => xs[i]?.map fun y => y.2.2)) := by
  refine ⟨fun _ _ lt here => ⟨here, lt⟩, fun _ here => ⟨here, Nat.le_refl _⟩, fun i H x H' _ _ y => ?_⟩
  obtain ⟨T0, y, h1, h2, h3, h4⟩ := y
  exact ⟨T0, _, _, h2, h3, h4, by simp [h1], by simp [h1]⟩
section
variable {X : Cx} {pins : List (Addr × Obj)} {σ : L2.St} {H : Hp} {s : Shared} {d : Addr} {ob : Obj} {xs : List KX}
theorem raw_get : ∀ {xs : List KX} {us : List Value} {i : Nat} {y : KX}, Vals (xs.map fun x => x.2.2) us → xs[i]? = some y → ∃ u, (rawOf xs us)[i]? = some (nk y.1, y.2.1, u) ∧ RelV y.2.2 u
  | [], us, i, y, r, e => by cases e
  | x :: xs, us, i, y, r, e => by
    rw [List.map_cons] at r
    cases r with
    | cons h1 h2 =>
      cases i with
      | zero =>
        cases e
        exact ⟨_, rfl, h1⟩
      | succ i =>
        obtain ⟨u, hu, ru⟩ := raw_get (i := i) h2 e
        exact ⟨u, hu, ru⟩
/-- a frozen one: its entries -/
theorem kd_frz (I : Inv X pins σ H s) (e : H d = some (.frz ob (KdO X.prog X.w d xs))) :
    (d == sysModules) = false ∧ s.heap.get? d = some ob ∧ ∃ (es : Array DictEntry) (ep : Nat), ob.data = .dict es ep ∧ ob.ExactDict ∧ es.size = xs.length ∧ s.heap.DictRaw d es ep ∧ ∀ (i : Nat) (hi : i < es.size) (y : KX), xs[i]? = some y → es[i].key = .ref y.2.1 ∧ RelV y.2.2 es[i].val := by
  obtain ⟨hd, k, _⟩ := I.hok d _ e
  obtain ⟨z1, z2, z3, us, r, o, es, ep, ho, h1, h2, h3⟩ := k
  rw [hd] at ho
  cases ho
  have hsz : es.size = xs.length := by
    have := congrArg List.length h3
    rw [List.length_map, Array.length_toList] at this
    rw [this]
    have := congrArg List.length (raw_keys r)
    rw [List.length_map, List.length_map] at this
    exact this
  refine ⟨z1, hd, es, ep, h2, h1, hsz, ⟨_, hd, h1, h2⟩, fun i hi y hy => ?_⟩
  obtain ⟨u, hu, ru⟩ := raw_get r hy
  have e1 : es.toList[i]? = some es[i] := by rw [Array.getElem?_toList, Array.getElem?_eq_getElem hi]
  rw [h3, List.getElem?_map, hu] at e1
  have e2 := Option.some.inj e1
  rw [← e2]
  exact ⟨rfl, ru⟩
theorem turnX {P : Program} {w : World} {K : PySem.W.Frag} {elts : List Expr} {kk : Nat} {tpos : Pos} {es : Array DictEntry} {ep : Nat} (it : Addr) (hod : ob.data = .dict es ep) :
    Turn P w K (.Tuple elts kk tpos) (ItX P w d ob xs) [it] it (fun i h => ∃ ok ov, IsItemIter h it d i xs.length ep ok ov) := by
  constructor
  case mem => exact List.mem_singleton_self it
  case obj =>
    intro i h st b hb
    obtain ⟨ok, ov, e⟩ := st
    rw [List.mem_singleton.mp hb]
    exact ⟨_, e, fun v z => nomatch z⟩
  case keep =>
    intro i h h' st kp
    obtain ⟨ok, ov, e⟩ := st
    exact ⟨ok, ov, kp it (List.mem_singleton_self it) _ e⟩
  case self => exact fun A i sh Qf Ef st q => let ⟨_, _, e⟩ := st; PySem.W.kcp_self e q
  case done =>
    intro cx e1 e2 e3 calm i pn sh lo hp Ef inv free st here
    subst e1 e2 e3
    obtain ⟨f0, f1, f2, f3, f4, f5⟩ := free it (by simp)
    obtain ⟨z1, hg, es', ep', hdt, hx, hsz, raw, _⟩ := kd_frz inv here.1
    obtain ⟨rfl, rfl⟩ := dict_ep hod hdt
    obtain ⟨ok, ov, e⟩ := st
    rw [← hsz] at e
    exact wpAny_pyNext_items_end_raw (inv.ok.hd calm) e raw (by rw [hsz]; exact here.2) fun h' eb => ⟨rfl, inv.turned (t' := sh.toks) (fun b o hb z => eb b o hb z) f0 f1 f3 f4 f5⟩
  case item =>
    intro cx e1 e2 e3 calm i pn sh lo hp Ef inv free st here
    subst e1 e2 e3
    obtain ⟨z1, hg, es', ep', hdt, hx, hsz, raw, ents⟩ := kd_frz inv here.1
    obtain ⟨rfl, rfl⟩ := dict_ep hod hdt
    obtain ⟨y, hy⟩ : ∃ y, xs[i]? = some y := ⟨xs[i]'here.2, List.getElem?_eq_getElem here.2⟩
    have hi : i < es'.size := by rw [hsz]; exact here.2
    obtain ⟨ek, ev⟩ := ents i hi y hy
    obtain ⟨ok, ov, e⟩ := st
    rw [← hsz] at e
    have lt := Heap.lt_size e
    refine wpAny_pyNext_items_item_raw e raw hi fun h' out tupAt _ kp => ⟨_, rfl, wpAny_letOwnedTupleGo_items (s := { sh with heap := h' }) out fun h2 back same => ?_⟩
    have tup2 : h2.get? sh.heap.objs.size = some { cls := .type "tuple", data := .seq #[es'[i].key, es'[i].val] } := (same.2 _ (Nat.ne_of_gt lt)).trans tupAt
    have made : ObjOk cx.prog cx.w (upd hp sh.heap.objs.size (.tup [.ref y.2.1, y.2.2])) h2 sh.heap.objs.size (.tup [.ref y.2.1, y.2.2]) :=
      ⟨(by show 2 ≤ sizeLine; decide), [es'[i].key, es'[i].val], .cons ek (.cons ev .nil), ⟨_, tup2, rfl, _, rfl⟩⟩
    refine ⟨.ref sh.heap.objs.size, _, inv.turnedNew (t' := sh.toks) (ch := [it]) (fun b o hb z => (same.2 b (by simpa using hb)).trans (kp b o (by simpa using hb) z)) free (Nat.le_refl _) made, rfl, ⟨_, y, hy, rfl, inv.hok.fresh (Nat.le_refl _), rfl⟩, ?_, fun b hb => ?_⟩
    · rw [hsz] at back
      exact ⟨_, _, back⟩
    · rw [List.mem_singleton.mp hb, upd_ne (Nat.ne_of_lt lt)]
      exact (free it (by simp)).1
end
section
variable {X : Cx} {e : Expr} {td : TE} {apos cpos : Pos}
def iItemsX (P : Program) (w : World) (td : TE) : TI := fun σ H R => td σ H fun x H1 => ∃ d ob xs, x = .ref d ∧ H1 d = some (.frz ob (KdO P w d xs)) ∧ R (ItX P w d ob xs) H1
theorem pi_itemsX {elts : List Expr} {kk : Nat} {tpos : Pos} (he : PE X e td) (hbase : attributeBase e "items" X.env (eval e X.env) = eval e X.env := by rfl) (hline : (apos.endLine == cpos.line) = true := by rfl) :
    PI X (.Tuple elts kk tpos) (.Call (.Attribute e "items" apos) [] [] cpos) (iItemsX X.prog X.w td) := by
  constructor
  intro pins s σ H R I h
  apply wpAny_Call_method (T := "dict") (id := "dict.items") hbase rfl hline F.plainAttrs_dict F.slot_dict_items F.type_dict_items
  refine thn (he.run pins s σ H _ I h) fun u s1 q1 => ?_
  obtain ⟨x, H1, I1, rx, d, ob, xs, rfl, hd, q⟩ := q1
  obtain rfl : u = Value.ref d := rx
  obtain ⟨z1, hg, es, ep, hdt, hx, hsz, raw, _⟩ := kd_frz I1 hd
  refine ⟨raw.typeIs, fun c hc => by cases hc; exact ⟨ob, hg, hx.2.1⟩, ?_⟩
  have I2 : Inv X pins σ H1 { s1 with heap := s1.heap.push { cls := .type "dict_items", data := .fields #[.ref d] } } := I1.kept (t' := s1.toks) fun b o z => Heap.get?_push_of_some _ z
  have final : wpAny (model X.prog X.w) X.A (pyIter (.ref s1.heap.objs.size)) (PIE X pins σ (.Tuple elts kk tpos) R) X.xe { s1 with heap := s1.heap.push { cls := .type "dict_items", data := .fields #[.ref d] } } := by
    refine wpAny_pyIter_items_raw (d := d) ⟨_, Heap.get?_push_size _ rfl, rfl, rfl⟩ (raw.at fun o z => Heap.get?_push_of_some _ z) (pi_one (tk := s1.toks) I2 _ (turnX _ hdt) ⟨.none, .none, ?_⟩ q)
    rw [← hsz]
    exact Heap.get?_push_size _ rfl
  exact method_meetsIn F.slot_dict_items F.entry_dict_items rfl (PySem.evalArgs_none ⟨rfl, raw.typeIs, F.args_dict_items_1 _, _, meets_dict_items_raw d z1, ⟨es, ep, raw⟩, final⟩)
end
end Fs

/-! {k: v for ..} with keys (word, path), all new -/
namespace Fs
open PySem PySem.Spec PyProof.Rows L2
section
variable {X : Cx} {pins : List (Addr × Obj)} {σ : L2.St} {H : Hp} {s : Shared} {a b : Addr} {xs : List KX} {q : PP}
theorem d_kdictSet {Y : List Addr} {d : V} {r : Value} {Q : Unit → Shared → Prop} {E : Value → Shared → Prop} (hu : X.A.units + 64 < cLine) (I : Inv X pins σ H s) (e : H a = some (KdO X.prog X.w a xs)) (hk : ∀ x ∈ xs, At Y H (ppT x.1) (.ref x.2.1)) (hb : At Y H (ppT q) (.ref b)) (rd : RelV d r) (hl : xs.length < sizeLine)
    (no : ∀ x ∈ xs, x.1 ≠ q) (h2 : ∀ s' : Shared, Inv X pins σ (upd H a (KdO X.prog X.w a (xs ++ [(q, b, d)]))) s' → Q () s') : wpAny (model X.prog X.w) X.A (dictSet a (.ref b) r) Q E s := by
  obtain ⟨us, rv, dd⟩ := kd_dict I e hk
  obtain ⟨z1, z2, _⟩ := kd_of I e
  have hlen : (rawOf xs us).length = xs.length := by
    have := congrArg List.length (raw_keys rv)
    rw [List.length_map, List.length_map] at this
    exact this
  have hn : atKey (rawOf xs us) (nk q) = none := by
    unfold atKey
    rw [Option.map_eq_none_iff, List.find?_eq_none]
    intro y hy z
    obtain ⟨x, hx, e1, _⟩ := raw_rel rv hy
    have z' : y.1 = nk q := by simpa using z
    exact no x hx (nk_inj (by rw [← e1, z']))
  refine wpAny_dictSet_heap (knd := nestedKind X.prog X.w) (k := nk q) (by show X.A.units + 8 < cLine; omega) (key_is I hb) dd (fun h' dd' hs => ?_) (by rw [hlen]; exact z2)
  rw [storedH_new hn, ← raw_snoc (x := (q, b, d)) rv] at dd'
  have he : ∃ o, h'.get? a = some o := let ⟨o, _, _, ho, _⟩ := dd'; ⟨o, ho⟩
  refine h2 _ (d_write I (by rw [e]; exact True.intro) hs he (kd_new (kd_from z1 (by rw [List.length_append]; exact hl) ?_ dd')))
  rw [List.map_append]
  exact rv.append (.cons rd .nil)
theorem kd_empty {P : Program} {w : World} (h : Heap) (hb : sysModules < h.objs.size) : KdIs P w h.objs.size [] (h.push { cls := .type "dict", data := .dict #[] }) :=
  ⟨beq_eq_false_iff_ne.mpr (Ne.symm (Nat.ne_of_lt hb)), Nat.zero_le _, List.nodup_nil, [], .nil, _, #[], 0, Heap.get?_push_size _ rfl, ⟨rfl, rfl, rfl⟩, rfl, rfl⟩
end
section
variable {X : Cx}
def tKc (P : Program) (w : World) (wi : TI) (g : TG) (tk tv : TE) (vs : List Nat) : TE := fun σ H Q => wi σ H fun J H1 => ∀ D, H1 D = none → ∃ W : Nat → Nat → Hp → Prop, (∃ m, W 0 m (upd H1 D (KdO P w D []))) ∧ ∀ i m H, W i m H →
  (J.stop i H ∧ Q (.ref D) H) ∨ (J.go i H ∧ ∃ Nx : Hp → Prop, (∀ H', Nx H' → ∃ m', m' < m ∧ W (i + 1) m' H') ∧ ∀ x H', J.yld i H x H' → g x (wipe σ vs) H' fun σ2 H2 => wipe σ2 vs = wipe σ vs ∧
    tk σ2 H2 fun y H4 => tv σ2 H4 fun z H5 => ∃ (Y : List Addr) (xs : List KX) (q : PP) (b : Addr), y = .ref b ∧ H5 D = some (KdO P w D xs) ∧ (∀ x ∈ xs, At Y H5 (ppT x.1) (.ref x.2.1)) ∧ At Y H5 (ppT q) (.ref b) ∧ xs.length < sizeLine ∧ (∀ x ∈ xs, x.1 ≠ q) ∧
      Nx (upd H5 D (KdO P w D (xs ++ [(q, b, z)]))))
abbrev AllBlk (X : Cx) (scope : Scope) (F : Cx → Prop) : Prop := ∀ (s : Shared) (H : Hp) (C : Addr) (cl : List (Str × Addr)) (fp : List Addr), F (X.blk s H scope (compEnvC scope cl C X.env) fp)
theorem pe_kc {kx vx tg iter : Expr} {scope : Scope} {own : List (Str × Nat)} {pos : Pos} {wi : TI} {g : TG} {tk tv : TE} (calm : X.calm = true) (room : X.A.units + 64 < cLine) (nd : X.N.Nodup) (it1 : PI X tg iter wi) (ok : BlkOk X.N X.env.scope scope own)
    (gs : AllBlk X scope fun B => PG B tg g) (ks : AllBlk X scope fun B => PE B kx tk) (es : AllBlk X scope fun B => PE B vx tv) (fold : ∀ x, foldedSetIterable iter X.env x = pure x := by intro _; rfl) :
    PE X (.DictComp kx vx [⟨tg, iter, [], 0⟩] scope pos) (tKc X.prog X.w wi g tk tv (own.map (·.2))) := by
  constructor
  intro pn sh lo hp Q inv rd
  rw [arm_eval_DictComp]
  have frees : ∀ y ∈ scope.names, y.2 = .free → ∃ c, X.env.cells.lookup y.1 = some c := by
    intro y hy e
    rcases ok.free y hy e with z | z
    · exact inv.ok.has _ (.inl z)
    · exact inv.ok.has _ (.inr z)
  refine wpAny_comprehension_free (use := none) rfl fold (closure_ok frees) ok.kind (fun y hy e => by rw [ok.uniq y hy, e]) (thn (it1.run pn sh lo hp _ inv rd) fun xv s1 hx => thn hx fun itv s2 got => ?_)
  obtain ⟨it, fp, tn, J, H2, rfl, inv2, turn, st2, apart, rest⟩ := got
  refine wpAny_newObj_type (newEnv_comp ?_)
  generalize eD : s2.heap.objs.size = D
  have freeD : H2 D = none := inv2.hok.fresh (Nat.le_of_eq eD)
  obtain ⟨W, ⟨m0, w0⟩, step⟩ := rest D freeD
  generalize es3 : ({ s2 with heap := s2.heap.push { cls := .type "dict", data := .dict #[] } } : Shared) = s3
  have heap3 : s3.heap = s2.heap.push { cls := .type "dict", data := .dict #[] } := by rw [← es3]
  have inv3 : Inv X pn lo (upd H2 D (KdO X.prog X.w D [])) s3 := by
    rw [← es3]
    refine inv2.laid (t' := s2.toks) (fun b o e => Heap.get?_push_of_some _ e) (Nat.le_of_eq eD) (kd_new ?_)
    rw [← eD]
    exact kd_empty s2.heap inv2.big
  have below : ∀ b ∈ fp, b < s2.heap.objs.size := by
    intro b hb
    obtain ⟨o, e, _⟩ := turn.obj _ _ st2 b hb
    exact Heap.lt_size e
  have apart3 : ∀ b ∈ fp, FpOk X pn (upd H2 D (KdO X.prog X.w D [])) b ∧ b < s3.heap.objs.size := by
    intro b hb
    have lt := below b hb
    refine ⟨⟨?_, (apart b hb).2⟩, by rw [heap3, Heap.size_push]; exact Nat.lt_succ_of_lt lt⟩
    rw [upd_ne (by rw [← eD]; exact Nat.ne_of_lt lt)]
    exact (apart b hb).1
  have st3 : tn 0 s3.heap := turn.keep _ _ _ st2 fun b _ o e => by rw [heap3]; exact Heap.get?_push_of_some _ e
  have inv4 := block_start inv3 ok nd apart3
  have pg := gs s3 (upd H2 D (KdO X.prog X.w D [])) s3.heap.objs.size (cellsFrom (s3.heap.objs.size + 1) scope.names (cloFrom X.env.cells scope.names [])) fp
  have pk := ks s3 (upd H2 D (KdO X.prog X.w D [])) s3.heap.objs.size (cellsFrom (s3.heap.objs.size + 1) scope.names (cloFrom X.env.cells scope.names [])) fp
  have pv' := es s3 (upd H2 D (KdO X.prog X.w D [])) s3.heap.objs.size (cellsFrom (s3.heap.objs.size + 1) scope.names (cloFrom X.env.cells scope.names [])) fp
  have none3 : ∀ b ∈ fp, (upd H2 D (KdO X.prog X.w D [])) b = none := fun b hb => (apart3 b hb).1.1
  show codeAny _ _ (.compStart (.DictComp kx vx [⟨tg, iter, [], 0⟩] scope pos) 0 (.ref it) (.ref D) (compEnvC scope (cellsFrom (s3.heap.objs.size + 1) scope.names (cloFrom X.env.cells scope.names [])) s3.heap.objs.size X.env)) _ _
  generalize ece : compEnvC scope (cellsFrom (s3.heap.objs.size + 1) scope.names (cloFrom X.env.cells scope.names [])) s3.heap.objs.size X.env = ce at inv4 pg pk pv' ⊢
  have locs : ce.locals = s3.heap.objs.size := by rw [← ece]; rfl
  generalize eH3 : upd H2 D (KdO X.prog X.w D []) = H3 at inv3 inv4 pg pk pv' w0 none3 apart3
  generalize es4 : ({ s3 with heap := pushCells (s3.heap.push { cls := .type "dict", data := .dict #[] }) scope.names } : Shared) = s4 at inv4 ⊢
  have st4 : tn 0 s4.heap := turn.keep _ _ _ st3 fun b _ o e => by rw [← es4]; exact pushCells_keeps _ _ _ _ (Heap.get?_push_of_some _ e)
  have out : ∀ {lo' : L2.St} {hp' : Hp} {sh' : Shared}, Inv (X.blk s3 H3 scope ce fp) [] lo' hp' sh' → (∀ b ∈ fp, hp' b = none) → ∀ b ∈ fp, FpOk (X.blk s3 H3 scope ce fp) [] hp' b := by
    intro lo' hp' sh' inv' none' b hb
    exact ⟨none' b hb, (inv'.ok.exf b hb).1, inv'.ok.exfs b hb, .inl hb, fun x c e => (inv'.ok.exf b hb).2 x c e, fun p z => by cases z⟩
  have loop : codeAny (model X.prog X.w) X.A (.compLoop (.DictComp kx vx [⟨tg, iter, [], 0⟩] scope pos) 0 (.ref it) (.ref D) ce) (compPost (model X.prog X.w) X.A X.xe none (fun v sh' => ∃ x hp', Inv X pn lo hp' sh' ∧ RelV x v ∧ Q x hp') (.ref D) s3.heap.objs.size) s4 := by
    refine compLoop_anyD (fun left sh' => ∃ i hp', Inv (X.blk s3 H3 scope ce fp) [] (wipe lo (own.map (·.2))) hp' sh' ∧ tn i sh'.heap ∧ (∀ b ∈ fp, hp' b = none) ∧ W i left hp') ?_ m0 ⟨0, H3, inv4, st4, none3, w0⟩
    intro left s5 now
    obtain ⟨i, H5, inv5, st5, none5, w5⟩ := now
    rcases step i left H5 w5 with ⟨stop, fine⟩ | ⟨go, Nx, down, each⟩
    · refine thnF (turn.done (X.blk s3 H3 scope ce fp) rfl rfl rfl calm i [] s5 _ H5 (fun _ _ => False) inv5 (out inv5 none5) st5 stop) fun r s6 fin6 => ?_
      obtain ⟨rfl, inv6⟩ := fin6
      have inv7 : Inv X pn lo H5 s6 := inv3.call' (ch := fp) inv6.os inv6.base inv6.hok inv6.bare fun b hb => ⟨(apart3 b hb).1.2.2.2.1, (apart3 b hb).1.2.1, (apart3 b hb).1.2.2.2.2.1, (apart3 b hb).1.2.2.2.2.2⟩
      have noC : H5 s3.heap.objs.size = none := by
        have z : H5 ce.locals = none := inv6.free
        rwa [locs] at z
      obtain ⟨m, ns, _⟩ := inv6.loc
      have ns' : s6.heap.Ns ce.locals m := ns
      rw [locs] at ns'
      obtain ⟨f0, f1, f2, f3, f4, f5⟩ := inv3.fpOk (Nat.le_refl _) noC
      exact ⟨m, ns', fun h'' sb => ⟨.ref D, H5, inv7.turned (t' := s6.toks) (fun b o hb e => (sb.2 b hb).trans e) f0 f1 f3 f4 f5, rfl, fine⟩⟩
    · refine thnF (turn.item (X.blk s3 H3 scope ce fp) rfl rfl rfl calm i [] s5 _ H5 (fun _ _ => False) inv5 (out inv5 none5) st5 go) fun r s6 got6 => ?_
      obtain ⟨u, rfl, h6⟩ := got6
      refine thnF h6 fun _ s7 got7 => ?_
      obtain ⟨x, H7, inv7, r7, y7, st7, none7⟩ := got7
      have inv7' := inv7.pinned (out inv7 none7) (turn.obj _ _ st7)
      refine thnF (pg.run _ s7 _ H7 x u _ inv7' r7 (each x H7 y7)) fun _ s8 got8 => ?_
      obtain ⟨lo8, H8, inv8, hw8, q8⟩ := got8
      refine thnF ((pts_nil (X := X.blk s3 H3 scope ce fp)).run _ s8 lo8 H8 (fun c hp' => c = true ∧ hp' = H8) inv8 ⟨rfl, rfl⟩) fun c s9 got9 => ?_
      obtain ⟨H9, inv9, rfl, rfl⟩ := got9
      simp only [if_true]
      have room' : (X.blk s3 H9 scope ce fp).A.units + 64 < cLine := room
      refine thnF (pk.run _ s9 lo8 H9 _ inv9 q8) fun z s10 got10 => ?_
      obtain ⟨yk, H10, inv10, r10, q10⟩ := got10
      refine thnF (pv'.run _ s10 lo8 H10 _ inv10 q10) fun z2 s11 got11 => ?_
      obtain ⟨yv, H11, inv11, r11, Y, xs, q, b, rfl, hD11, hk, hb, hl, no, nx⟩ := got11
      obtain rfl : z = Value.ref b := r10
      refine d_kdictSet (X := X.blk s3 H3 scope ce fp) room inv11 hD11 hk hb r11 hl no fun s12 inv12 => ?_
      obtain ⟨m', hm, w'⟩ := down _ nx
      have pinned : ∀ c ∈ fp, ∀ o, s7.heap.get? c = some o → s12.heap.get? c = some o ∧ (upd H11 D (KdO X.prog X.w D (xs ++ [(q, b, yv)]))) c = none := by
        intro c hc o e
        have z := inv12.pin (c, o) (List.mem_append_right _ (List.mem_append_right _ (mem_pinsAt hc e)))
        exact ⟨z.1, z.2.1⟩
      have same : (wipe lo (own.map (·.2))).length = lo8.length := by rw [← hw8, wipe_length]
      refine ⟨m', hm, i + 1, _, (inv12.unpinned (pins := [])).weak same (fun j v e => ?_), turn.keep _ _ _ st7 fun c hc o e => (pinned c hc o e).1, fun c hc => ?_, w'⟩
      · rw [← hw8] at e
        exact (wipe_some e).1
      · obtain ⟨o, e, _⟩ := turn.obj _ _ st7 c hc
        exact (pinned c hc o e).2
  exact codeAny_compStart_dict loop (turn.self X.A 0 _ _ _ st4 loop)
end
end Fs

/-! the blocks by module and prefix -/
namespace Fs
open PySem PySem.Spec PyProof.Rows L2
def tDNewX (P : Program) (w : World) : TE := fun _ H Q => ∀ p, H p = none → Q (.ref p) (upd H p (KdO P w p []))
theorem pe_dnewX {X : Cx} {pos : Pos} : PE X (.Dict [] [] pos) (tDNewX X.prog X.w) := by
  constructor
  intro pins s σ H Q I h
  exact wpAny_Dict_empty ⟨.ref s.heap.objs.size, _, I.laid (t' := s.toks) (fun _ _ z => Heap.get?_push_of_some _ z) (Nat.le_refl _) (kd_new (kd_empty s.heap I.big)), rfl, h _ (I.hok.fresh (Nat.le_refl _))⟩
theorem cut_last {K : PySem.W.Frag} {H : Hp} {p : Addr} {ns : List Int} {Q : VK} (h : SqT K H p (ns.map V.int)) (hne : ns ≠ []) (q : ∀ r, H r = none → Q (.ref r) (upd H r (.tup (ns.dropLast.map V.int)))) : rSlA K (.ref p) none (some (-1)) H Q := by
  have hl : 1 ≤ ns.length := List.length_pos_iff.mpr hne
  have e1 : HT.sIx (ns.map V.int).length (ns.map V.int).length (some (-1)) = ns.length - 1 := by
    unfold HT.sIx
    rw [List.length_map]
    show (if (-1 : Int) < 0 then ((-1 : Int) + (ns.length : Int)).toNat else _) = _
    rw [if_pos (by decide)]
    omega
  refine ⟨p, _, rfl, h, fun z => ?_, fun _ r hr => ?_⟩
  · have := z.2
    rw [e1, List.length_map] at this
    omega
  · have e2 : cutV (ns.map V.int) none (some (-1)) = ns.dropLast.map V.int := by
      unfold cutV
      rw [e1, HT.sIx_none, List.drop_zero, Nat.sub_zero, ← List.map_take, List.dropLast_eq_take]
    rw [e2]
    exact q r hr
def KeyAt (H : Hp) (q : PP) (b : Addr) : Prop := ∃ r, H b = some (.tup [.str q.1, .ref r]) ∧ H r = some (.tup (q.2.map V.int))
theorem KeyAt.at' {H : Hp} {q : PP} {b : Addr} (h : KeyAt H q b) : At [] H (ppT q) (.ref b) := by
  obtain ⟨r, h1, h2⟩ := h
  exact ⟨b, _, rfl, (by simp), .inl h1, .str q.1, [.ref r], rfl, rfl, .ref r, [], rfl, ⟨r, _, rfl, (by simp), .inl h2, atL_ints⟩, rfl⟩
/-- tuples stay, whatever is written into places that hold none -/
theorem KeyAt.keep {H H' : Hp} {q : PP} {b : Addr} (h : KeyAt H q b) (k : ∀ c xs, H c = some (.tup xs) → H' c = some (.tup xs)) : KeyAt H' q b := by
  obtain ⟨r, h1, h2⟩ := h
  exact ⟨r, k _ _ h1, k _ _ h2⟩
/-- the dict so far: its lists are new -/
structure BInv (P : Program) (w : World) (H0 : Hp) (B : Addr) (N : Nat) (H : Hp) (xs : List KX) : Prop where
  d : H B = some (KdO P w B xs)
  len : xs.length ≤ N
  nd : (xs.map (·.1)).Nodup
  keys : ∀ x ∈ xs, KeyAt H x.1 x.2.1
  vals : ∀ x ∈ xs, ∃ l us, x.2.2 = .ref l ∧ H l = some (.lst us) ∧ us.length ≤ N ∧ H0 l = none
  kp : Kp [B] H0 H
theorem tup_upd {H : Hp} {a : Addr} {o : HO} {c : Addr} {xs : List V} (h : H c = some (.tup xs)) (n : ∀ xs, H a ≠ some (.tup xs)) : (upd H a o) c = some (.tup xs) := by
  rw [upd_ne (fun z => n xs (by rw [← z]; exact h))]
  exact h
section
variable {P : Program} {w : World} {H0 H : Hp} {Bk : Addr} {N : Nat} {xs : List KX}
theorem BInv.free (b : BInv P w H0 Bk N H xs) {a : Addr} (h : H a = none) : H0 a = none ∧ a ≠ Bk := by
  have n : a ≠ Bk := fun z => by rw [z, b.d] at h; cases h
  exact ⟨b.kp.free h (by simpa using n), n⟩
theorem BInv.new (b : BInv P w H0 Bk N H xs) {a : Addr} {o : HO} (h : H a = none) : BInv P w H0 Bk N (upd H a o) xs := by
  obtain ⟨h0, n⟩ := b.free h
  refine ⟨by rw [upd_ne n.symm]; exact b.d, b.len, b.nd, fun x hx => (b.keys x hx).keep fun c ys e => tup_upd e (fun zs z => by rw [h] at z; cases z), fun x hx => ?_, b.kp.new h0⟩
  obtain ⟨l, us, e1, e2, e3, e4⟩ := b.vals x hx
  exact ⟨l, us, e1, by rw [upd_ne (fun z => by rw [← z, e2] at h; cases h)]; exact e2, e3, e4⟩
theorem BInv.unlock {g : Addr} {od : Obj} {u : HO} {N' : Nat} (b : BInv P w (upd H0 g (.frz od u)) Bk N H xs) (hg : H0 g = some u) (n : g ≠ Bk) (hN : N ≤ N') : BInv P w H0 Bk N' (upd H g u) xs := by
  have hf : H g = some (.frz od u) := b.kp _ _ upd_same (by simpa using n)
  refine ⟨by rw [upd_ne n.symm]; exact b.d, Nat.le_trans b.len hN, b.nd, fun x hx => (b.keys x hx).keep fun c ys e => tup_upd e (fun zs z => by rw [hf] at z; cases z), fun x hx => ?_, fun c o e nc => ?_⟩
  · obtain ⟨l, us, e1, e2, e3, e4⟩ := b.vals x hx
    have nl : l ≠ g := fun z => by rw [z, hf] at e2; cases e2
    rw [upd_ne nl] at e4
    exact ⟨l, us, e1, by rw [upd_ne nl]; exact e2, Nat.le_trans e3 hN, e4⟩
  · by_cases z : c = g
    · rw [z] at e ⊢
      rw [hg] at e
      rw [upd_same, e]
    · rw [upd_ne z]
      exact b.kp c o (by rw [upd_ne z]; exact e) nc
theorem BInv.mono (b : BInv P w H0 Bk N H xs) {N' : Nat} (h : N ≤ N') : BInv P w H0 Bk N' H xs :=
  ⟨b.d, Nat.le_trans b.len h, b.nd, b.keys, fun x hx => by
    obtain ⟨l, us, e1, e2, e3, e4⟩ := b.vals x hx
    exact ⟨l, us, e1, e2, Nat.le_trans e3 h, e4⟩, b.kp⟩
theorem BInv.app (b : BInv P w H0 Bk N H xs) {x : KX} {l : Addr} {us : List V} {v : V} (hx : x ∈ xs) (e : x.2.2 = .ref l) (hl : H l = some (.lst us)) : BInv P w H0 Bk (N + 1) (upd H l (.lst (us ++ [v]))) xs := by
  obtain ⟨l0, us0, e1, e2, e3, e4⟩ := b.vals x hx
  rw [e] at e1
  cases e1
  rw [hl] at e2
  cases e2
  have n : l ≠ Bk := fun z => by rw [z, b.d] at hl; cases hl
  refine ⟨by rw [upd_ne n.symm]; exact b.d, Nat.le_succ_of_le b.len, b.nd, fun y hy => (b.keys y hy).keep fun c ys z => tup_upd z (fun zs z' => by rw [hl] at z'; cases z'), fun y hy => ?_, b.kp.new e4⟩
  obtain ⟨l', us', f1, f2, f3, f4⟩ := b.vals y hy
  by_cases z : l' = l
  · subst z
    rw [hl] at f2
    cases f2
    exact ⟨l', _, f1, upd_same, by rw [List.length_append]; exact Nat.succ_le_succ f3, f4⟩
  · exact ⟨l', us', f1, by rw [upd_ne z]; exact f2, Nat.le_succ_of_le f3, f4⟩
theorem BInv.add (b : BInv P w H0 Bk N H xs) {q : PP} {kb nl : Addr} (no : ∀ x ∈ xs, x.1 ≠ q) (hk : KeyAt H q kb) (hl : H nl = some (.lst [])) (h0 : H0 nl = none) : BInv P w H0 Bk (N + 1) (upd H Bk (KdO P w Bk (xs ++ [(q, kb, .ref nl)]))) (xs ++ [(q, kb, .ref nl)]) := by
  have n : nl ≠ Bk := fun z => by rw [z, b.d] at hl; cases hl
  have kk : ∀ c ys, H c = some (.tup ys) → (upd H Bk (KdO P w Bk (xs ++ [(q, kb, .ref nl)]))) c = some (.tup ys) := fun c ys z => tup_upd z fun zs z' => by rw [b.d] at z'; cases z'
  refine ⟨upd_same, by rw [List.length_append]; exact Nat.succ_le_succ b.len, ?_, fun x hx => ?_, fun x hx => ?_, b.kp.trans (Kp.rfl'.at (by simp))⟩
  · rw [List.map_append]
    refine List.nodup_append.mpr ⟨b.nd, (by simp), fun y hy z hz => ?_⟩
    obtain ⟨x, hx, rfl⟩ := List.mem_map.mp hy
    have : z = q := by simpa using hz
    rw [this]
    exact no x hx
  · rcases List.mem_append.mp hx with hx | hx
    · exact (b.keys x hx).keep kk
    · rw [List.mem_singleton.mp hx]
      exact hk.keep kk
  · rcases List.mem_append.mp hx with hx | hx
    · obtain ⟨l, us, e1, e2, e3, e4⟩ := b.vals x hx
      exact ⟨l, us, e1, by rw [upd_ne (fun z => by rw [z, b.d] at e2; cases e2)]; exact e2, Nat.le_succ_of_le e3, e4⟩
    · rw [List.mem_singleton.mp hx]
      exact ⟨nl, [], rfl, by rw [upd_ne n]; exact hl, Nat.zero_le _, h0⟩
end
section
variable {P : Program} {w : World} {K : PySem.W.Frag} {mg : Str → Option Value} {base : Heap} {f f1 f2 f3 f4 f5 f6 : Addr} {fd fd1 fd2 fd3 fd4 fd5 fd6 : FuncData}
theorem ok_byprefix (D : Df K mg "blocks_by_prefix" sblocksbyprefix ["listed"] f fd) (B : Bn mg) : FnOk P w K mg base CX0 1 f fd ["listed"] spByPrefix := by
  refine D.F.ok scblocksbyprefix (fun vs H Q E h => ?_) (fun cdv A outer s H vs Q E hr h => ?_)
  · obtain ⟨X, g, out, rfl, _⟩ := h
    rfl
  obtain ⟨X, g, out, rfl, hgX, ⟨kvL, hg, hkv⟩, ol, hX, q⟩ := h
  refine ⟨_, (pss_cons (ps_set (i := 1) scblocksbyprefix.nd rfl (Or.inl rfl) pe_dnewX)
 (Evl.pss_cut (ps_lock (ps_for PassesOwn.never rfl (pi_items (pv 0)) (pg_tup (by rfl) (pgs_cons (pg_name (i := 2) scblocksbyprefix.nd rfl (Or.inl rfl)) (pgs_cons (pg_name (i := 3) scblocksbyprefix.nd rfl (Or.inl rfl)) pgs_nil)))
  (pss_one (ps_for PassesOwn.never rfl (pi_list (pv 3)) (pg_tup (by rfl) (pgs_cons (pg_name (i := 4) scblocksbyprefix.nd rfl (Or.inl rfl)) (pgs_cons (pg_name (i := 5) scblocksbyprefix.nd rfl (Or.inl rfl)) pgs_nil)))
  (pss_one (ps_expr (pe_bm PySem.F.plainAttrs_list PySem.F.slot_list_append PySem.F.type_list_append mt_append (pe_ksetd hr.units (pv 1) (pe_tup (pa_cons (pv 2) (pa_cons (pe_slice sl_tupA (pv 4) po_none (po_some (pe_un un_neg pe_int))) pa_nil))) (pe_lst pa_nil) ⟨rfl, rfl, rfl, rfl⟩) (pa_cons (pe_tup (pa_cons (pv 4) (pa_cons (pv 5) pa_nil))) pa_nil))))))))
 (pss_one (ps_ret (pe_lock (pe_kc (own := [("key", 6), ("pairs", 3)]) (g := (gTup K 2 (gCons (gName 6) (gCons (gName 3) gNil)))) (tv := tCB (fun xs H Q => ∃ p ys, xs = [V.ref p] ∧ ((SqL K H p ys ∧ ∀ l, H l = none → Q (.ref l) (upd H l (.tup ys))) ∨ (SqT K H p ys ∧ Q (.ref p) H))) (tCons (tVar 3) tNil)) rfl hr.units scblocksbyprefix.nd (pi_itemsX (pv 1)) (blkOk_by (N := ["listed", "blocks", "module", "pairs", "path", "row", "key"]) (sc := defScope sblocksbyprefix) (by decide +kernel)) (fun _ _ _ _ _ => (pg_tup (by rfl) (pgs_cons (pg_name (i := 6) scblocksbyprefix.nd rfl (Or.inl rfl)) (pgs_cons (pg_name (i := 3) scblocksbyprefix.nd rfl (Or.inl rfl)) pgs_nil)))) (fun _ _ _ _ _ => (pv 6)) (fun _ _ _ _ _ => (pe_callTy call_tuple_of (by rfl) B.tuple (by decide +kernel) (pa_cons (pv 3) pa_nil))))))))), ?_⟩
  intro Bk hBk
  have hgB : g ≠ Bk := fun z => by rw [← z, hg] at hBk; cases hBk
  have hg1 : (upd H Bk (KdO P w Bk [])) g = some (.dK kvL) := by rw [upd_ne hgB]; exact hg
  have kv1 : KvAt (Bk :: X) (upd H Bk (KdO P w Bk [])) (out.map lstT) kvL := (hkv.more hBk).kp (Kp.rfl'.at (by simp))
  have k1 : Kp [] H (upd H Bk (KdO P w Bk [])) := Kp.rfl'.new hBk
  have hB1 : (upd H Bk (KdO P w Bk [])) Bk = some (KdO P w Bk []) := upd_same
  refine ⟨fun σ' H' => ∃ (o2 o3 o4 o5 o6 : Option V) (xs : List KX), σ' = [some (.ref g), some (.ref Bk), o2, o3, o4, o5, o6] ∧ BInv P w (upd H Bk (KdO P w Bk [])) Bk 1000000 H' xs, ?_, ?_⟩
  · refine ⟨g, .dK kvL, hg1, trivial, fun od => ?_⟩
    have hgG : (upd (upd H Bk (KdO P w Bk [])) g (.frz od (.dK kvL))) g = some (.frz od (.dK kvL)) := upd_same
    have hBG : (upd (upd H Bk (KdO P w Bk [])) g (.frz od (.dK kvL))) Bk = some (KdO P w Bk []) := by rw [upd_ne hgB.symm]; exact hB1
    have kvG : KvAt (Bk :: X) (upd (upd H Bk (KdO P w Bk [])) g (.frz od (.dK kvL))) (out.map lstT) kvL := kv1.kp (Kp.rfl'.at (by simp [hgX]))
    refine ⟨_, rfl, g, od, kvL, rfl, upd_same, for_it (walk_items (kvs := kvL)) (fun i σ H' => ∃ (o2 o3 o4 o5 o6 : Option V) (xs : List KX), σ = [some (.ref g), some (.ref Bk), o2, o3, o4, o5, o6] ∧ BInv P w (upd (upd H Bk (KdO P w Bk [])) g (.frz od (.dK kvL))) Bk (2 * (i * 34952)) H' xs) ?_ ?_ ?_ ?_⟩
    · exact ⟨_, _, _, _, _, [], rfl, hBG, Nat.zero_le _, List.nodup_nil, (fun _ z => nomatch z), (fun _ z => nomatch z), Kp.rfl'⟩
    · rintro i σ H' hi ⟨o2, o3, o4, o5, o6, xs, rfl, bi⟩
      exact bi.kp _ _ hgG (by simpa using hgB)
    · generalize hGe : upd (upd H Bk (KdO P w Bk [])) g (.frz od (.dK kvL)) = G at *
      rintro i y σ H' H'' hi ⟨o2, o3, o4, o5, o6, xs, rfl, bi⟩ ⟨T0, y1, y2, rfl, hT, rfl, z1, z2⟩
      obtain ⟨kv, hkv'⟩ : ∃ kv, kvL[i]? = some kv := ⟨kvL[i], List.getElem?_eq_getElem hi⟩
      have z1 : (kvL[i]?).map (fun kv => kV kv.1) = some y1 := z1
      have z2 : (kvL[i]?).map Prod.snd = some y2 := z2
      rw [hkv'] at z1 z2
      cases z1
      cases z2
      obtain ⟨q', hq', hk, hat⟩ := kvG.get hkv'
      rw [List.getElem?_map] at hq'
      obtain ⟨⟨m, t⟩, hq, rfl⟩ : ∃ q, out[i]? = some q ∧ lstT q = q' := by
        cases e : out[i]? with
        | none => rw [e] at hq'; cases hq'
        | some q => rw [e] at hq'; exact ⟨q, rfl, Option.some.inj hq'⟩
      obtain ⟨key, v⟩ := kv
      cases (show key = .inr m from hk)
      have hmem : (m, t) ∈ out := List.mem_of_getElem? hq
      obtain ⟨wl0, wr⟩ := ol.walk hmem
      have wl : (walkP 4 [] t.kids).length ≤ 34952 := wl0
      obtain ⟨pl, vl, rfl, hplX, hpl, hll⟩ := (show At (Bk :: X) G (.seq false ((walkP 4 [] t.kids).map pairT)) v from hat)
      have hvl := hll.length
      rw [List.length_map] at hvl
      have bT : BInv P w G Bk (2 * (i * 34952)) (upd H' T0 (.tup [kV (.inr m), .ref pl])) xs := bi.new hT
      have hplT : SqL K (upd H' T0 (.tup [kV (.inr m), .ref pl])) pl vl := (hpl.kp bT.kp (fun z => hplX (by rw [List.mem_singleton.mp z]; simp))).l
      refine ⟨T0, _, rfl, SqT.of upd_same, rfl, _, _, rfl, _, _, rfl, rfl, ?_⟩
      refine ⟨_, rfl, pl, rfl, ⟨vl, hplT⟩, for_it (walk_list (xs := vl)) (fun j σ H8 => ∃ (o4 o5 o6 : Option V) (xs : List KX), σ = [some (.ref g), some (.ref Bk), some (.str m), some (.ref pl), o4, o5, o6] ∧ BInv P w G Bk (2 * (i * 34952 + j)) H8 xs) ?_ ?_ ?_ ?_⟩
      · exact ⟨_, _, _, xs, rfl, bT⟩
      · rintro j σ H8 hj ⟨o4, o5, o6, xs, rfl, bj⟩
        exact (hpl.kp bj.kp (fun z => hplX (by rw [List.mem_singleton.mp z]; simp))).l
      · rintro j y σ H8 H9 hj ⟨o4, o5, o6, xs, rfl, bj⟩ ⟨rfl, hy⟩
        obtain ⟨t', ht', hta⟩ := AtL.get hll hy
        rw [List.getElem?_map] at ht'
        obtain ⟨u, hu, rfl⟩ : ∃ u, (walkP 4 [] t.kids)[j]? = some u ∧ pairT u = t' := by
          cases e : (walkP 4 [] t.kids)[j]? with
          | none => rw [e] at ht'; cases ht'
          | some q => rw [e] at ht'; exact ⟨q, rfl, Option.some.inj ht'⟩
        obtain ⟨pr, vr, rfl, hprX, hpr, w1, r1, rfl, a1, w2, r2, rfl, a2, a3⟩ := hta.kp (bj.kp.mono (by simp))
        cases (show r2 = [] from a3)
        obtain ⟨pa, va, rfl, hpaX, hpa, hla⟩ := (show At (Bk :: X) H9 (.seq true (u.1.map T.int)) w1 from a1)
        cases ints_of_at hla
        have hune : u.1 ≠ [] := by
          obtain ⟨k, r, e, _⟩ := (walk_up (n := 4)).2 u (List.mem_of_getElem? hu)
          rw [e]
          simp
        have hj' : j < 34952 := by omega
        have few := ol.few
        have i4 : i < 4 := by
          have := kvG.length
          rw [List.length_map] at this
          omega
        refine ⟨pr, _, rfl, hpr.t, rfl, _, _, rfl, _, _, rfl, rfl, ?_⟩
        refine ⟨_, rfl, Bk, rfl, ⟨xs, bj.d⟩, _, rfl, _, rfl, ?_⟩
        refine ⟨_, rfl, _, rfl, cut_last hpa.t hune fun rp hrp => ?_⟩
        have b1 := bj.new (o := .tup (u.1.dropLast.map V.int)) hrp
        refine ⟨(by show 2 ≤ sizeLine; exact ltsz (by decide)), fun kb hkb => ⟨(by show 0 ≤ sizeLine; exact Nat.zero_le _), fun nl hnl => ?_⟩⟩
        have b2 := b1.new (o := .tup [.str m, .ref rp]) hkb
        have b3 := b2.new (o := .lst []) hnl
        have key : KeyAt (upd (upd (upd H9 rp (.tup (u.1.dropLast.map V.int))) kb (.tup [.str m, .ref rp])) nl (.lst [])) (m, u.1.dropLast) kb := by
          have e1 : (upd (upd H9 rp (.tup (u.1.dropLast.map V.int))) kb (.tup [.str m, .ref rp])) rp = some (.tup (u.1.dropLast.map V.int)) := tup_upd upd_same (fun zs z => by rw [hkb] at z; cases z)
          exact ⟨rp, tup_upd upd_same (fun zs z => by rw [hnl] at z; cases z), tup_upd e1 (fun zs z => by rw [hnl] at z; cases z)⟩
        have hnl3 : (upd (upd (upd H9 rp (.tup (u.1.dropLast.map V.int))) kb (.tup [.str m, .ref rp])) nl (.lst [])) nl = some (.lst []) := upd_same
        have hnl0 : G nl = none := (b2.free hnl).1
        generalize hH10 : upd (upd (upd H9 rp (.tup (u.1.dropLast.map V.int))) kb (.tup [.str m, .ref rp])) nl (.lst []) = H10 at *
        have xl := b3.len
        have lims : ∀ k : Nat, k ≤ 1000000 → k < sizeLine := fun k h => Nat.lt_of_le_of_lt h (by decide)
        refine ⟨[], xs, (m, u.1.dropLast), kb, b3.d, rfl, fun x hx => (b3.keys x hx).at', key.at', lims _ (by omega), fun x hx ex => ?_, fun no => ?_⟩
        · obtain ⟨l, us, e1, e2, e3, e4⟩ := b3.vals x hx
          rw [e1]
          refine ⟨.inl ⟨rfl, _, SqL.of e2⟩, _, rfl, _, rfl, (by show 2 ≤ sizeLine; exact ltsz (by decide)), fun pt hpt => ?_⟩
          have b4 := b3.new (o := .tup [.ref pa, w2]) hpt
          have hl4 : (upd H10 pt (.tup [.ref pa, w2])) l = some (.lst us) := by rw [upd_ne (fun z => by rw [z, hpt] at e2; cases e2)]; exact e2
          exact ⟨l, us, _, rfl, rfl, hl4, lims _ (by omega), _, _, _, xs, rfl, (b4.app hx e1 hl4).mono (by omega)⟩
        · have b4 := b3.add no key hnl3 hnl0
          have nB : nl ≠ Bk := (b2.free hnl).2
          have hl4 : (upd H10 Bk (KdO P w Bk (xs ++ [((m, u.1.dropLast), kb, .ref nl)]))) nl = some (.lst []) := by rw [upd_ne nB]; exact hnl3
          refine ⟨.inl ⟨rfl, _, SqL.of hl4⟩, _, rfl, _, rfl, (by show 2 ≤ sizeLine; exact ltsz (by decide)), fun pt hpt => ?_⟩
          have b5 := b4.new (o := .tup [.ref pa, w2]) hpt
          have hl5 : (upd (upd H10 Bk (KdO P w Bk (xs ++ [((m, u.1.dropLast), kb, .ref nl)]))) pt (.tup [.ref pa, w2])) nl = some (.lst []) := by rw [upd_ne (fun z => by subst z; exact nomatch (hl4.symm.trans hpt))]; exact hl4
          exact ⟨nl, [], _, rfl, rfl, hl5, lims _ (Nat.zero_le _), _, _, _, _, rfl, (b5.app (x := ((m, u.1.dropLast), kb, .ref nl)) (by simp) rfl hl5).mono (by omega)⟩
      · rintro σ H8 ⟨o4, o5, o6, xs, rfl, bj⟩
        exact ⟨_, _, _, _, _, xs, rfl, bj.mono (by omega)⟩
    · rintro σ H' ⟨o2, o3, o4, o5, o6, xs, rfl, bi⟩
      have hkl := kvG.length
      rw [List.length_map] at hkl
      have few := ol.few
      exact ⟨bi.kp _ _ hgG (by simpa using hgB), _, _, _, _, _, xs, rfl, bi.unlock hg1 hgB (by omega)⟩
  rintro σ' H2 ⟨o2, o3, o4, o5, o6, xs, rfl, bi⟩
  refine ⟨Bk, KdO P w Bk xs, bi.d, trivial, fun ob => ?_⟩
  refine ⟨_, rfl, Bk, ob, xs, rfl, upd_same, fun Dn hDn => ?_⟩
  have few := bi.len
  have kb3 : Kp [Bk] H2 (upd H2 Bk (.frz ob (KdO P w Bk xs))) := Kp.rfl'.at (by simp)
  have hB3 : (upd H2 Bk (.frz ob (KdO P w Bk xs))) Bk = some (.frz ob (KdO P w Bk xs)) := upd_same
  have tup3 : ∀ c zs, H2 c = some (.tup zs) → (upd H2 Bk (.frz ob (KdO P w Bk xs))) c = some (.tup zs) := fun c zs z => tup_upd z (fun zs z' => by rw [bi.d] at z'; cases z')
  have lst3 : ∀ c zs, H2 c = some (.lst zs) → (upd H2 Bk (.frz ob (KdO P w Bk xs))) c = some (.lst zs) := fun c zs z => by
    rw [upd_ne (fun y => by rw [y, bi.d] at z; cases z)]
    exact z
  have hDB : Bk ≠ Dn := fun z => by
    rw [← z] at hDn
    exact nomatch (hB3.symm.trans hDn)
  refine by_walk walk_itemsX (Pv := fun i H' => ∃ ys : List KX, H' Dn = some (KdO P w Dn ys) ∧ ys.map (fun y => (y.1, y.2.1)) = (xs.take i).map (fun y => (y.1, y.2.1)) ∧ Kp [] (upd H2 Bk (.frz ob (KdO P w Bk xs))) H') ?_ ?_ ?_ ?_
  · exact ⟨[], upd_same, rfl, Kp.rfl'.new hDn⟩
  · rintro i H' hi ⟨ys, e1, e2, k3⟩
    exact k3 _ _ hB3 (by simp)
  · rintro i y H' H'' hi ⟨ys, e1, e2, k3⟩ ⟨T0, y1, y2, rfl, hT, rfl, z1, z2⟩
    obtain ⟨x, hx⟩ : ∃ x, xs[i]? = some x := ⟨xs[i], List.getElem?_eq_getElem hi⟩
    have z1 : (xs[i]?).map (fun y => V.ref y.2.1) = some y1 := z1
    have z2 : (xs[i]?).map (fun y => y.2.2) = some y2 := z2
    rw [hx] at z1 z2
    cases z1
    cases z2
    have hxm := List.mem_of_getElem? hx
    obtain ⟨l, us, f1, f2, f3, f4⟩ := bi.vals x hxm
    have kT : ∀ o, Kp [] (upd H2 Bk (.frz ob (KdO P w Bk xs))) (upd H' T0 o) := fun o => k3.trans (Kp.rfl'.new hT)
    have hDT : Dn ≠ T0 := fun z => by
      rw [← z] at hT
      exact nomatch (e1.symm.trans hT)
    refine ⟨T0, _, rfl, SqT.of upd_same, rfl, _, _, rfl, _, _, rfl, rfl, rfl, _, rfl, _, rfl, l, us, (show [x.2.2] = [V.ref l] by rw [f1]), .inl ⟨SqL.of (kT _ _ _ (lst3 _ _ f2) (by simp)), fun tl htl => ?_⟩⟩
    have kn : Kp [] (upd H2 Bk (.frz ob (KdO P w Bk xs))) (upd (upd H' T0 (.tup [.ref x.2.1, x.2.2])) tl (.tup us)) := (kT _).trans (Kp.rfl'.new htl)
    have hDn1 : (upd H' T0 (.tup [.ref x.2.1, x.2.2])) Dn = some (KdO P w Dn ys) := by rw [upd_ne hDT]; exact e1
    have hDtl : Dn ≠ tl := fun z => by
      rw [← z] at htl
      exact nomatch (hDn1.symm.trans htl)
    have tupN : ∀ c zs, H2 c = some (.tup zs) → (upd (upd H' T0 (.tup [.ref x.2.1, x.2.2])) tl (.tup us)) c = some (.tup zs) := fun c zs z => kn _ _ (tup3 c zs z) (by simp)
    have mem : ∀ y ∈ ys, ∃ x' ∈ xs.take i, x'.1 = y.1 ∧ x'.2.1 = y.2.1 := fun y hy => by
      have : (y.1, y.2.1) ∈ ys.map (fun y => (y.1, y.2.1)) := List.mem_map_of_mem hy
      rw [e2] at this
      obtain ⟨x', hx', e⟩ := List.mem_map.mp this
      exact ⟨x', hx', (Prod.mk.inj e).1, (Prod.mk.inj e).2⟩
    have yl : ys.length ≤ 1000000 := by
      have := congrArg List.length e2
      rw [List.length_map, List.length_map, List.length_take] at this
      omega
    refine ⟨[], ys, x.1, x.2.1, rfl, by rw [upd_ne hDtl]; exact hDn1, fun y hy => ?_, ((bi.keys x hxm).keep tupN).at', Nat.lt_of_le_of_lt yl (by decide), fun y hy z => ?_, ys ++ [(x.1, x.2.1, .ref tl)], upd_same, ?_, kn.new ?_⟩
    · obtain ⟨x', hx', g1, g2⟩ := mem y hy
      rw [← g1, ← g2]
      exact ((bi.keys x' (List.mem_of_mem_take hx')).keep tupN).at'
    · obtain ⟨x', hx', g1, g2⟩ := mem y hy
      refine nd_take (x := x.1) (i := i) bi.nd (by rw [List.getElem?_map, hx]; rfl) ?_
      rw [← List.map_take, ← z, ← g1]
      exact List.mem_map_of_mem hx'
    · rw [List.map_append, e2, List.take_add_one, hx, List.map_append]
      rfl
    · exact hDn
  · rintro H' ⟨ys, e1, e2, k3⟩
    refine ⟨k3 _ _ hB3 (by simp), q (.ref Dn) _ ?_⟩
    exact Kp.drop (Y := [Bk]) (X := []) ((((k1.mono (by simp)).trans bi.kp).trans kb3).trans ((k3.mono (by simp)).trans (Kp.rfl'.at (by simp)))) (fun z hz => by rw [List.mem_singleton.mp hz]; exact hBk)
end
end Fs

namespace Fs
open PySem L2
/-! what the top has written -/
theorem all_mk {l : PySem.W.OpenLaw} {w : World} {K : PySem.W.Frag} {h : Heap} {mg : Str → Option Value} {fa : Addr} (X : K.In h) (G : h.Ns mainGlobals mg) (hfa : mg "law" = some (.ref fa))
    {hd bd im ba Cc : Addr} {eh eb : Array DictEntry} {nh nb : Nat} {t1 t2 : Tok}
    {odim : Option Addr} {nim : Nat} {slim : Array (Option Value)} {tkim0 tkim1 : Tok}
    {odba : Option Addr} {nba : Nat} {slba : Array (Option Value)} {tkba0 tkba1 : Tok}
    {aloadW : Addr}
    {odWload : Option Addr} {nWload : Nat} {slWload : Array (Option Value)} {tkWload0 tkWload1 : Tok}
    {apickW : Addr}
    {odWpick : Option Addr} {nWpick : Nat} {slWpick : Array (Option Value)} {tkWpick0 tkWpick1 tkWpick2 : Tok}
    {aputW : Addr}
    {odWput : Option Addr} {nWput : Nat} {slWput : Array (Option Value)} {tkWput0 tkWput1 : Tok}
    {acopyW : Addr}
    {odWcopy : Option Addr} {nWcopy : Nat} {slWcopy : Array (Option Value)} {tkWcopy0 tkWcopy1 : Tok}
    {apartW : Addr}
    {odWpart : Option Addr} {nWpart : Nat} {slWpart : Array (Option Value)} {tkWpart0 tkWpart1 tkWpart2 : Tok}
    {adropW : Addr}
    {odWdrop : Option Addr} {nWdrop : Nat} {slWdrop : Array (Option Value)} {tkWdrop0 : Tok}
    {asayW : Addr}
    {odWsay : Option Addr} {nWsay : Nat} {slWsay : Array (Option Value)} {tkWsay0 : Tok}
    {atellW : Addr}
    {odWtell : Option Addr} {nWtell : Nat} {slWtell : Array (Option Value)} {tkWtell0 : Tok}
    {aseenW : Addr}
    {odWseen : Option Addr} {nWseen : Nat} {slWseen : Array (Option Value)} {tkWseen0 tkWseen1 : Tok}
    {afailW : Addr}
    {odWfail : Option Addr} {nWfail : Nat} {slWfail : Array (Option Value)} {tkWfail0 : Tok}
    {amakeW : Addr}
    {odWmake : Option Addr} {nWmake : Nat} {slWmake : Array (Option Value)} {tkWmake0 : Tok}
    {acallW : Addr}
    {odWcall : Option Addr} {nWcall : Nat} {slWcall : Array (Option Value)} {tkWcall0 : Tok}
    {awhenW : Addr}
    {odWwhen : Option Addr} {nWwhen : Nat} {slWwhen : Array (Option Value)} {tkWwhen0 : Tok}
    {atryW : Addr}
    {odWtry : Option Addr} {nWtry : Nat} {slWtry : Array (Option Value)}
    {tbmake : Tok}
    {tbwhen : Tok}
    {tbtry : Tok}
    {fsource : Addr} {odsource ansource : Option Addr} {slsource : Array (Option Value)} {ocsource kVsource dcsource pmsource cdsource ctsource : Value}
    {fdraw : Addr} {oddraw andraw : Option Addr} {sldraw : Array (Option Value)} {ocdraw kVdraw dcdraw pmdraw cddraw ctdraw : Value}
    {fpick : Addr} {odpick anpick : Option Addr} {slpick : Array (Option Value)} {ocpick kVpick dcpick pmpick cdpick ctpick : Value}
    {fword : Addr} {odword anword : Option Addr} {slword : Array (Option Value)} {ocword kVword dcword pmword cdword ctword : Value}
    {fnumber : Addr} {odnumber annumber : Option Addr} {slnumber : Array (Option Value)} {ocnumber kVnumber dcnumber pmnumber cdnumber ctnumber : Value}
    {fplainrow : Addr} {odplainrow anplainrow : Option Addr} {slplainrow : Array (Option Value)} {ocplainrow kVplainrow dcplainrow pmplainrow cdplainrow ctplainrow : Value}
    {frow : Addr} {odrow anrow : Option Addr} {slrow : Array (Option Value)} {ocrow kVrow dcrow pmrow cdrow ctrow : Value}
    {fblock : Addr} {odblock anblock : Option Addr} {slblock : Array (Option Value)} {ocblock kVblock dcblock pmblock cdblock ctblock : Value}
    {flibrary : Addr} {odlibrary anlibrary : Option Addr} {sllibrary : Array (Option Value)} {oclibrary kVlibrary dclibrary pmlibrary cdlibrary ctlibrary : Value}
    {fgiven : Addr} {odgiven angiven : Option Addr} {slgiven : Array (Option Value)} {ocgiven kVgiven dcgiven pmgiven cdgiven ctgiven : Value}
    {fhanded : Addr} {odhanded anhanded : Option Addr} {slhanded : Array (Option Value)} {ochanded kVhanded dchanded pmhanded cdhanded cthanded : Value}
    {fblocks : Addr} {odblocks anblocks : Option Addr} {slblocks : Array (Option Value)} {ocblocks kVblocks dcblocks pmblocks cdblocks ctblocks : Value}
    {fwalked : Addr} {odwalked anwalked : Option Addr} {slwalked : Array (Option Value)} {ocwalked kVwalked dcwalked pmwalked cdwalked ctwalked : Value}
    {fsame : Addr} {odsame ansame : Option Addr} {slsame : Array (Option Value)} {ocsame kVsame dcsame pmsame cdsame ctsame : Value}
    {flaw : Addr} {odlaw anlaw : Option Addr} {sllaw : Array (Option Value)} {oclaw kVlaw dclaw pmlaw cdlaw ctlaw : Value}
    {fisinteger : Addr} {odisinteger anisinteger : Option Addr} {slisinteger : Array (Option Value)} {ocisinteger kVisinteger dcisinteger pmisinteger cdisinteger ctisinteger : Value}
    {fislist : Addr} {odislist anislist : Option Addr} {slislist : Array (Option Value)} {ocislist kVislist dcislist pmislist cdislist ctislist : Value}
    {fisword : Addr} {odisword anisword : Option Addr} {slisword : Array (Option Value)} {ocisword kVisword dcisword pmisword cdisword ctisword : Value}
    {fblockcount : Addr} {odblockcount anblockcount : Option Addr} {slblockcount : Array (Option Value)} {ocblockcount kVblockcount dcblockcount pmblockcount cdblockcount ctblockcount : Value}
    {fblocksof : Addr} {odblocksof anblocksof : Option Addr} {slblocksof : Array (Option Value)} {ocblocksof kVblocksof dcblocksof pmblocksof cdblocksof ctblocksof : Value}
    {fishead : Addr} {odishead anishead : Option Addr} {slishead : Array (Option Value)} {ocishead kVishead dcishead pmishead cdishead ctishead : Value}
    {fisrow : Addr} {odisrow anisrow : Option Addr} {slisrow : Array (Option Value)} {ocisrow kVisrow dcisrow pmisrow cdisrow ctisrow : Value}
    {ftakenrows : Addr} {odtakenrows antakenrows : Option Addr} {sltakenrows : Array (Option Value)} {octakenrows kVtakenrows dctakenrows pmtakenrows cdtakenrows cttakenrows : Value}
    {frowsbypath : Addr} {odrowsbypath anrowsbypath : Option Addr} {slrowsbypath : Array (Option Value)} {ocrowsbypath kVrowsbypath dcrowsbypath pmrowsbypath cdrowsbypath ctrowsbypath : Value}
    {ftakenmodules : Addr} {odtakenmodules antakenmodules : Option Addr} {sltakenmodules : Array (Option Value)} {octakenmodules kVtakenmodules dctakenmodules pmtakenmodules cdtakenmodules cttakenmodules : Value}
    {fblocksbyprefix : Addr} {odblocksbyprefix anblocksbyprefix : Option Addr} {slblocksbyprefix : Array (Option Value)} {ocblocksbyprefix kVblocksbyprefix dcblocksbyprefix pmblocksbyprefix cdblocksbyprefix ctblocksbyprefix : Value}
    {fPrograminit : Addr} {odPrograminit anPrograminit : Option Addr} {slPrograminit : Array (Option Value)} {ocPrograminit kVPrograminit dcPrograminit pmPrograminit cdPrograminit ctPrograminit : Value}
    {fProgramplaces : Addr} {odProgramplaces anProgramplaces : Option Addr} {slProgramplaces : Array (Option Value)} {ocProgramplaces kVProgramplaces dcProgramplaces pmProgramplaces cdProgramplaces ctProgramplaces : Value}
    (aC : PySem.W.nsIn K mainGlobals "Program" = some (some (.ref Cc)))
    (pg : PySem.W.plainGet K Cc Str.empty = true)
    (hdC : PySem.W.hasDictIn K Cc = true)
    (po : PySem.W.plainOver K Cc = true)
    (sa : PySem.W.findIn K (.ref Cc) "__setattr__" = some (some (.builtin "object.__setattr__")))
    (mkC : PySem.W.makesIn K Cc = true)
    (kcC : PySem.W.keepIn K (.ref Cc) = true)
    (n_rows : PySem.W.findIn K (.ref Cc) "_rows" = some none)
    (n_listed : PySem.W.findIn K (.ref Cc) "_listed" = some none)
    (n_blocks : PySem.W.findIn K (.ref Cc) "_blocks" = some none)
    (n_places : PySem.W.findIn K (.ref Cc) "_places" = some none)
    (aLe : PySem.W.nsIn K mainGlobals "LETTERS" = some (some (.str "abcdefghijklmnopqrstuvwxyz" t1)))
    (aLo : PySem.W.nsIn K mainGlobals "LONGEST_WORD" = some (some (.int 8 t2)))
    (ahd : PySem.W.nsIn K mainGlobals "HEADS" = some (some (.ref hd)))
    (lhd : K.lookup hd = some ⟨.type "dict", none, .dict eh nh, #[]⟩)
    (Khd : PySem.W.KeysLit w.params eh.toList)
    (whd : (hd == sysModules) = false)
    (abd : PySem.W.nsIn K mainGlobals "BLOCKS" = some (some (.ref bd)))
    (lbd : K.lookup bd = some ⟨.type "dict", none, .dict eb nb, #[]⟩)
    (Kbd : PySem.W.KeysLit w.params eb.toList)
    (wbd : (bd == sysModules) = false)
    (aim : PySem.W.nsIn K mainGlobals "IMPORTING" = some (some (.ref im)))
    (lim : K.lookup im = some ⟨.type "tuple", odim, .seq #[.str "load" tkim0, .str "pick" tkim1] nim, slim⟩)
    (aba : PySem.W.nsIn K mainGlobals "BARRED_IN_FUNCTIONS" = some (some (.ref ba)))
    (lba : K.lookup ba = some ⟨.type "tuple", odba, .seq #[.str "make" tkba0, .str "call" tkba1] nba, slba⟩)
    (hload : PySem.W.nsIn K hd "load" = some (some (.ref aloadW)))
    (gload : K.lookup aloadW = some ⟨.type "tuple", odWload, .seq #[.str "word" tkWload0, .str "word" tkWload1] nWload, slWload⟩)
    (hpick : PySem.W.nsIn K hd "pick" = some (some (.ref apickW)))
    (gpick : K.lookup apickW = some ⟨.type "tuple", odWpick, .seq #[.str "word" tkWpick0, .str "word" tkWpick1, .str "word" tkWpick2] nWpick, slWpick⟩)
    (hput : PySem.W.nsIn K hd "put" = some (some (.ref aputW)))
    (gput : K.lookup aputW = some ⟨.type "tuple", odWput, .seq #[.str "word" tkWput0, .str "number" tkWput1] nWput, slWput⟩)
    (hcopy : PySem.W.nsIn K hd "copy" = some (some (.ref acopyW)))
    (gcopy : K.lookup acopyW = some ⟨.type "tuple", odWcopy, .seq #[.str "word" tkWcopy0, .str "word" tkWcopy1] nWcopy, slWcopy⟩)
    (hpart : PySem.W.nsIn K hd "part" = some (some (.ref apartW)))
    (gpart : K.lookup apartW = some ⟨.type "tuple", odWpart, .seq #[.str "word" tkWpart0, .str "word" tkWpart1, .str "word" tkWpart2] nWpart, slWpart⟩)
    (hdrop : PySem.W.nsIn K hd "drop" = some (some (.ref adropW)))
    (gdrop : K.lookup adropW = some ⟨.type "tuple", odWdrop, .seq #[.str "word" tkWdrop0] nWdrop, slWdrop⟩)
    (hsay : PySem.W.nsIn K hd "say" = some (some (.ref asayW)))
    (gsay : K.lookup asayW = some ⟨.type "tuple", odWsay, .seq #[.str "number" tkWsay0] nWsay, slWsay⟩)
    (htell : PySem.W.nsIn K hd "tell" = some (some (.ref atellW)))
    (gtell : K.lookup atellW = some ⟨.type "tuple", odWtell, .seq #[.str "word" tkWtell0] nWtell, slWtell⟩)
    (hseen : PySem.W.nsIn K hd "seen" = some (some (.ref aseenW)))
    (gseen : K.lookup aseenW = some ⟨.type "tuple", odWseen, .seq #[.str "word" tkWseen0, .str "word" tkWseen1] nWseen, slWseen⟩)
    (hfail : PySem.W.nsIn K hd "fail" = some (some (.ref afailW)))
    (gfail : K.lookup afailW = some ⟨.type "tuple", odWfail, .seq #[.str "number" tkWfail0] nWfail, slWfail⟩)
    (hmake : PySem.W.nsIn K hd "make" = some (some (.ref amakeW)))
    (gmake : K.lookup amakeW = some ⟨.type "tuple", odWmake, .seq #[.str "word" tkWmake0] nWmake, slWmake⟩)
    (hcall : PySem.W.nsIn K hd "call" = some (some (.ref acallW)))
    (gcall : K.lookup acallW = some ⟨.type "tuple", odWcall, .seq #[.str "word" tkWcall0] nWcall, slWcall⟩)
    (hwhen : PySem.W.nsIn K hd "when" = some (some (.ref awhenW)))
    (gwhen : K.lookup awhenW = some ⟨.type "tuple", odWwhen, .seq #[.str "word" tkWwhen0] nWwhen, slWwhen⟩)
    (htry : PySem.W.nsIn K hd "try" = some (some (.ref atryW)))
    (gtry : K.lookup atryW = some ⟨.type "tuple", odWtry, .seq #[] nWtry, slWtry⟩)
    (bload : PySem.W.nsIn K bd "load" = some none)
    (bpick : PySem.W.nsIn K bd "pick" = some none)
    (bput : PySem.W.nsIn K bd "put" = some none)
    (bcopy : PySem.W.nsIn K bd "copy" = some none)
    (bpart : PySem.W.nsIn K bd "part" = some none)
    (bdrop : PySem.W.nsIn K bd "drop" = some none)
    (bsay : PySem.W.nsIn K bd "say" = some none)
    (btell : PySem.W.nsIn K bd "tell" = some none)
    (bseen : PySem.W.nsIn K bd "seen" = some none)
    (bfail : PySem.W.nsIn K bd "fail" = some none)
    (bmake : PySem.W.nsIn K bd "make" = some (some (.int 1 tbmake)))
    (bcall : PySem.W.nsIn K bd "call" = some none)
    (bwhen : PySem.W.nsIn K bd "when" = some (some (.int 2 tbwhen)))
    (btry : PySem.W.nsIn K bd "try" = some (some (.int 2 tbtry)))
    (zlen : PySem.W.nsIn K mainGlobals "len" = some none)
    (zint : PySem.W.nsIn K mainGlobals "int" = some none)
    (zstr : PySem.W.nsIn K mainGlobals "str" = some none)
    (zbool : PySem.W.nsIn K mainGlobals "bool" = some none)
    (zlist : PySem.W.nsIn K mainGlobals "list" = some none)
    (ztuple : PySem.W.nsIn K mainGlobals "tuple" = some none)
    (zdict : PySem.W.nsIn K mainGlobals "dict" = some none)
    (zrange : PySem.W.nsIn K mainGlobals "range" = some none)
    (zenumerate : PySem.W.nsIn K mainGlobals "enumerate" = some none)
    (zzip : PySem.W.nsIn K mainGlobals "zip" = some none)
    (zall : PySem.W.nsIn K mainGlobals "all" = some none)
    (zsorted : PySem.W.nsIn K mainGlobals "sorted" = some none)
    (zisinstance : PySem.W.nsIn K mainGlobals "isinstance" = some none)
    (zmax : PySem.W.nsIn K mainGlobals "max" = some none)
    (zmin : PySem.W.nsIn K mainGlobals "min" = some none)
    (asource : PySem.W.nsIn K mainGlobals "_law_source" = some (some (.ref fsource)))
    (lsource : K.lookup fsource = some ⟨ocsource, odsource, .func (PySem.W.fnOf "_law_source" "_law_source" (defArgs ssource) (defBody ssource) (defScope ssource) .none kVsource dcsource pmsource ansource cdsource ctsource), slsource⟩)
    (csource : PySem.W.codeIn K cdsource "_law_source" = true)
    (ksource : PySem.W.keepIn K (.ref fsource) = true)
    (adraw : PySem.W.nsIn K mainGlobals "_law_draw" = some (some (.ref fdraw)))
    (ldraw : K.lookup fdraw = some ⟨ocdraw, oddraw, .func (PySem.W.fnOf "_law_draw" "_law_draw" (defArgs sdraw) (defBody sdraw) (defScope sdraw) .none kVdraw dcdraw pmdraw andraw cddraw ctdraw), sldraw⟩)
    (cdraw : PySem.W.codeIn K cddraw "_law_draw" = true)
    (kdraw : PySem.W.keepIn K (.ref fdraw) = true)
    (apick : PySem.W.nsIn K mainGlobals "_law_pick" = some (some (.ref fpick)))
    (lpick : K.lookup fpick = some ⟨ocpick, odpick, .func (PySem.W.fnOf "_law_pick" "_law_pick" (defArgs spick) (defBody spick) (defScope spick) .none kVpick dcpick pmpick anpick cdpick ctpick), slpick⟩)
    (cpick : PySem.W.codeIn K cdpick "_law_pick" = true)
    (kpick : PySem.W.keepIn K (.ref fpick) = true)
    (aword : PySem.W.nsIn K mainGlobals "_law_word" = some (some (.ref fword)))
    (lword : K.lookup fword = some ⟨ocword, odword, .func (PySem.W.fnOf "_law_word" "_law_word" (defArgs sword) (defBody sword) (defScope sword) .none kVword dcword pmword anword cdword ctword), slword⟩)
    (cword : PySem.W.codeIn K cdword "_law_word" = true)
    (kword : PySem.W.keepIn K (.ref fword) = true)
    (anumber : PySem.W.nsIn K mainGlobals "_law_number" = some (some (.ref fnumber)))
    (lnumber : K.lookup fnumber = some ⟨ocnumber, odnumber, .func (PySem.W.fnOf "_law_number" "_law_number" (defArgs snumber) (defBody snumber) (defScope snumber) .none kVnumber dcnumber pmnumber annumber cdnumber ctnumber), slnumber⟩)
    (cnumber : PySem.W.codeIn K cdnumber "_law_number" = true)
    (knumber : PySem.W.keepIn K (.ref fnumber) = true)
    (aplainrow : PySem.W.nsIn K mainGlobals "_law_plain_row" = some (some (.ref fplainrow)))
    (lplainrow : K.lookup fplainrow = some ⟨ocplainrow, odplainrow, .func (PySem.W.fnOf "_law_plain_row" "_law_plain_row" (defArgs splainrow) (defBody splainrow) (defScope splainrow) .none kVplainrow dcplainrow pmplainrow anplainrow cdplainrow ctplainrow), slplainrow⟩)
    (cplainrow : PySem.W.codeIn K cdplainrow "_law_plain_row" = true)
    (kplainrow : PySem.W.keepIn K (.ref fplainrow) = true)
    (arow : PySem.W.nsIn K mainGlobals "_law_row" = some (some (.ref frow)))
    (lrow : K.lookup frow = some ⟨ocrow, odrow, .func (PySem.W.fnOf "_law_row" "_law_row" (defArgs srow) (defBody srow) (defScope srow) .none kVrow dcrow pmrow anrow cdrow ctrow), slrow⟩)
    (crow : PySem.W.codeIn K cdrow "_law_row" = true)
    (krow : PySem.W.keepIn K (.ref frow) = true)
    (ablock : PySem.W.nsIn K mainGlobals "_law_block" = some (some (.ref fblock)))
    (lblock : K.lookup fblock = some ⟨ocblock, odblock, .func (PySem.W.fnOf "_law_block" "_law_block" (defArgs sblock) (defBody sblock) (defScope sblock) .none kVblock dcblock pmblock anblock cdblock ctblock), slblock⟩)
    (cblock : PySem.W.codeIn K cdblock "_law_block" = true)
    (kblock : PySem.W.keepIn K (.ref fblock) = true)
    (alibrary : PySem.W.nsIn K mainGlobals "_law_library" = some (some (.ref flibrary)))
    (llibrary : K.lookup flibrary = some ⟨oclibrary, odlibrary, .func (PySem.W.fnOf "_law_library" "_law_library" (defArgs slibrary) (defBody slibrary) (defScope slibrary) .none kVlibrary dclibrary pmlibrary anlibrary cdlibrary ctlibrary), sllibrary⟩)
    (clibrary : PySem.W.codeIn K cdlibrary "_law_library" = true)
    (klibrary : PySem.W.keepIn K (.ref flibrary) = true)
    (agiven : PySem.W.nsIn K mainGlobals "_law_given" = some (some (.ref fgiven)))
    (lgiven : K.lookup fgiven = some ⟨ocgiven, odgiven, .func (PySem.W.fnOf "_law_given" "_law_given" (defArgs sgiven) (defBody sgiven) (defScope sgiven) .none kVgiven dcgiven pmgiven angiven cdgiven ctgiven), slgiven⟩)
    (cgiven : PySem.W.codeIn K cdgiven "_law_given" = true)
    (kgiven : PySem.W.keepIn K (.ref fgiven) = true)
    (ahanded : PySem.W.nsIn K mainGlobals "_law_handed" = some (some (.ref fhanded)))
    (lhanded : K.lookup fhanded = some ⟨ochanded, odhanded, .func (PySem.W.fnOf "_law_handed" "_law_handed" (defArgs shanded) (defBody shanded) (defScope shanded) .none kVhanded dchanded pmhanded anhanded cdhanded cthanded), slhanded⟩)
    (chanded : PySem.W.codeIn K cdhanded "_law_handed" = true)
    (khanded : PySem.W.keepIn K (.ref fhanded) = true)
    (ablocks : PySem.W.nsIn K mainGlobals "_law_blocks" = some (some (.ref fblocks)))
    (lblocks : K.lookup fblocks = some ⟨ocblocks, odblocks, .func (PySem.W.fnOf "_law_blocks" "_law_blocks" (defArgs sblocks) (defBody sblocks) (defScope sblocks) .none kVblocks dcblocks pmblocks anblocks cdblocks ctblocks), slblocks⟩)
    (cblocks : PySem.W.codeIn K cdblocks "_law_blocks" = true)
    (kblocks : PySem.W.keepIn K (.ref fblocks) = true)
    (awalked : PySem.W.nsIn K mainGlobals "_law_walked" = some (some (.ref fwalked)))
    (lwalked : K.lookup fwalked = some ⟨ocwalked, odwalked, .func (PySem.W.fnOf "_law_walked" "_law_walked" (defArgs swalked) (defBody swalked) (defScope swalked) .none kVwalked dcwalked pmwalked anwalked cdwalked ctwalked), slwalked⟩)
    (cwalked : PySem.W.codeIn K cdwalked "_law_walked" = true)
    (kwalked : PySem.W.keepIn K (.ref fwalked) = true)
    (asame : PySem.W.nsIn K mainGlobals "_law_same" = some (some (.ref fsame)))
    (lsame : K.lookup fsame = some ⟨ocsame, odsame, .func (PySem.W.fnOf "_law_same" "_law_same" (defArgs ssame) (defBody ssame) (defScope ssame) .none kVsame dcsame pmsame ansame cdsame ctsame), slsame⟩)
    (csame : PySem.W.codeIn K cdsame "_law_same" = true)
    (ksame : PySem.W.keepIn K (.ref fsame) = true)
    (alaw : PySem.W.nsIn K mainGlobals "law" = some (some (.ref flaw)))
    (llaw : K.lookup flaw = some ⟨oclaw, odlaw, .func (PySem.W.fnOf "law" "law" (defArgs slaw) (defBody slaw) (defScope slaw) .none kVlaw dclaw pmlaw anlaw cdlaw ctlaw), sllaw⟩)
    (claw : PySem.W.codeIn K cdlaw "law" = true)
    (klaw : PySem.W.keepIn K (.ref flaw) = true)
    (aisinteger : PySem.W.nsIn K mainGlobals "is_integer" = some (some (.ref fisinteger)))
    (lisinteger : K.lookup fisinteger = some ⟨ocisinteger, odisinteger, .func (PySem.W.fnOf "is_integer" "is_integer" (defArgs sisinteger) (defBody sisinteger) (defScope sisinteger) .none kVisinteger dcisinteger pmisinteger anisinteger cdisinteger ctisinteger), slisinteger⟩)
    (cisinteger : PySem.W.codeIn K cdisinteger "is_integer" = true)
    (kisinteger : PySem.W.keepIn K (.ref fisinteger) = true)
    (aislist : PySem.W.nsIn K mainGlobals "is_list" = some (some (.ref fislist)))
    (lislist : K.lookup fislist = some ⟨ocislist, odislist, .func (PySem.W.fnOf "is_list" "is_list" (defArgs sislist) (defBody sislist) (defScope sislist) .none kVislist dcislist pmislist anislist cdislist ctislist), slislist⟩)
    (cislist : PySem.W.codeIn K cdislist "is_list" = true)
    (kislist : PySem.W.keepIn K (.ref fislist) = true)
    (aisword : PySem.W.nsIn K mainGlobals "is_word" = some (some (.ref fisword)))
    (lisword : K.lookup fisword = some ⟨ocisword, odisword, .func (PySem.W.fnOf "is_word" "is_word" (defArgs sisword) (defBody sisword) (defScope sisword) .none kVisword dcisword pmisword anisword cdisword ctisword), slisword⟩)
    (cisword : PySem.W.codeIn K cdisword "is_word" = true)
    (kisword : PySem.W.keepIn K (.ref fisword) = true)
    (ablockcount : PySem.W.nsIn K mainGlobals "block_count" = some (some (.ref fblockcount)))
    (lblockcount : K.lookup fblockcount = some ⟨ocblockcount, odblockcount, .func (PySem.W.fnOf "block_count" "block_count" (defArgs sblockcount) (defBody sblockcount) (defScope sblockcount) .none kVblockcount dcblockcount pmblockcount anblockcount cdblockcount ctblockcount), slblockcount⟩)
    (cblockcount : PySem.W.codeIn K cdblockcount "block_count" = true)
    (kblockcount : PySem.W.keepIn K (.ref fblockcount) = true)
    (ablocksof : PySem.W.nsIn K mainGlobals "blocks_of" = some (some (.ref fblocksof)))
    (lblocksof : K.lookup fblocksof = some ⟨ocblocksof, odblocksof, .func (PySem.W.fnOf "blocks_of" "blocks_of" (defArgs sblocksof) (defBody sblocksof) (defScope sblocksof) .none kVblocksof dcblocksof pmblocksof anblocksof cdblocksof ctblocksof), slblocksof⟩)
    (cblocksof : PySem.W.codeIn K cdblocksof "blocks_of" = true)
    (kblocksof : PySem.W.keepIn K (.ref fblocksof) = true)
    (aishead : PySem.W.nsIn K mainGlobals "is_head" = some (some (.ref fishead)))
    (lishead : K.lookup fishead = some ⟨ocishead, odishead, .func (PySem.W.fnOf "is_head" "is_head" (defArgs sishead) (defBody sishead) (defScope sishead) .none kVishead dcishead pmishead anishead cdishead ctishead), slishead⟩)
    (cishead : PySem.W.codeIn K cdishead "is_head" = true)
    (kishead : PySem.W.keepIn K (.ref fishead) = true)
    (aisrow : PySem.W.nsIn K mainGlobals "is_row" = some (some (.ref fisrow)))
    (lisrow : K.lookup fisrow = some ⟨ocisrow, odisrow, .func (PySem.W.fnOf "is_row" "is_row" (defArgs sisrow) (defBody sisrow) (defScope sisrow) .none kVisrow dcisrow pmisrow anisrow cdisrow ctisrow), slisrow⟩)
    (cisrow : PySem.W.codeIn K cdisrow "is_row" = true)
    (kisrow : PySem.W.keepIn K (.ref fisrow) = true)
    (atakenrows : PySem.W.nsIn K mainGlobals "taken_rows" = some (some (.ref ftakenrows)))
    (ltakenrows : K.lookup ftakenrows = some ⟨octakenrows, odtakenrows, .func (PySem.W.fnOf "taken_rows" "taken_rows" (defArgs stakenrows) (defBody stakenrows) (defScope stakenrows) .none kVtakenrows dctakenrows pmtakenrows antakenrows cdtakenrows cttakenrows), sltakenrows⟩)
    (ctakenrows : PySem.W.codeIn K cdtakenrows "taken_rows" = true)
    (ktakenrows : PySem.W.keepIn K (.ref ftakenrows) = true)
    (arowsbypath : PySem.W.nsIn K mainGlobals "rows_by_path" = some (some (.ref frowsbypath)))
    (lrowsbypath : K.lookup frowsbypath = some ⟨ocrowsbypath, odrowsbypath, .func (PySem.W.fnOf "rows_by_path" "rows_by_path" (defArgs srowsbypath) (defBody srowsbypath) (defScope srowsbypath) .none kVrowsbypath dcrowsbypath pmrowsbypath anrowsbypath cdrowsbypath ctrowsbypath), slrowsbypath⟩)
    (crowsbypath : PySem.W.codeIn K cdrowsbypath "rows_by_path" = true)
    (krowsbypath : PySem.W.keepIn K (.ref frowsbypath) = true)
    (atakenmodules : PySem.W.nsIn K mainGlobals "taken_modules" = some (some (.ref ftakenmodules)))
    (ltakenmodules : K.lookup ftakenmodules = some ⟨octakenmodules, odtakenmodules, .func (PySem.W.fnOf "taken_modules" "taken_modules" (defArgs stakenmodules) (defBody stakenmodules) (defScope stakenmodules) .none kVtakenmodules dctakenmodules pmtakenmodules antakenmodules cdtakenmodules cttakenmodules), sltakenmodules⟩)
    (ctakenmodules : PySem.W.codeIn K cdtakenmodules "taken_modules" = true)
    (ktakenmodules : PySem.W.keepIn K (.ref ftakenmodules) = true)
    (ablocksbyprefix : PySem.W.nsIn K mainGlobals "blocks_by_prefix" = some (some (.ref fblocksbyprefix)))
    (lblocksbyprefix : K.lookup fblocksbyprefix = some ⟨ocblocksbyprefix, odblocksbyprefix, .func (PySem.W.fnOf "blocks_by_prefix" "blocks_by_prefix" (defArgs sblocksbyprefix) (defBody sblocksbyprefix) (defScope sblocksbyprefix) .none kVblocksbyprefix dcblocksbyprefix pmblocksbyprefix anblocksbyprefix cdblocksbyprefix ctblocksbyprefix), slblocksbyprefix⟩)
    (cblocksbyprefix : PySem.W.codeIn K cdblocksbyprefix "blocks_by_prefix" = true)
    (kblocksbyprefix : PySem.W.keepIn K (.ref fblocksbyprefix) = true)
    (aPrograminit : PySem.W.findIn K (.ref Cc) "__init__" = some (some (.ref fPrograminit)))
    (iPrograminit : PySem.W.isFn K (.ref fPrograminit) = true)
    (lPrograminit : K.lookup fPrograminit = some ⟨ocPrograminit, odPrograminit, .func (PySem.W.fnOf "__init__" "Program.__init__" (defArgs sPrograminit) (defBody sPrograminit) (defScope sPrograminit) .none kVPrograminit dcPrograminit pmPrograminit anPrograminit cdPrograminit ctPrograminit), slPrograminit⟩)
    (cPrograminit : PySem.W.codeIn K cdPrograminit "Program.__init__" = true)
    (kPrograminit : PySem.W.keepIn K (.ref fPrograminit) = true)
    (aProgramplaces : PySem.W.findIn K (.ref Cc) "places" = some (some (.ref fProgramplaces)))
    (iProgramplaces : PySem.W.isFn K (.ref fProgramplaces) = true)
    (lProgramplaces : K.lookup fProgramplaces = some ⟨ocProgramplaces, odProgramplaces, .func (PySem.W.fnOf "places" "Program.places" (defArgs sProgramplaces) (defBody sProgramplaces) (defScope sProgramplaces) .none kVProgramplaces dcProgramplaces pmProgramplaces anProgramplaces cdProgramplaces ctProgramplaces), slProgramplaces⟩)
    (cProgramplaces : PySem.W.codeIn K cdProgramplaces "Program.places" = true)
    (kProgramplaces : PySem.W.keepIn K (.ref fProgramplaces) = true)
    : ∃ fd : FuncData, (∀ (s : Shared) (v : Value), BindsTo s fd ⟨[v], []⟩ [("_law_script", v)]) ∧ ∀ base : Heap, K.In base → base.Ns mainGlobals mg → FnOk l.prog w K mg base CX0 22 fa fd ["_law_script"] (spLaw6 K) := by
  have e := hfa.symm.trans (PySem.W.mg_of X G alaw)
  cases e
  have B : Bn mg := ⟨PySem.W.mg_none_of X G zlen, PySem.W.mg_none_of X G zint, PySem.W.mg_none_of X G zstr, PySem.W.mg_none_of X G zbool, PySem.W.mg_none_of X G zlist, PySem.W.mg_none_of X G ztuple, PySem.W.mg_none_of X G zdict, PySem.W.mg_none_of X G zrange, PySem.W.mg_none_of X G zenumerate, PySem.W.mg_none_of X G zzip, PySem.W.mg_none_of X G zall, PySem.W.mg_none_of X G zsorted, PySem.W.mg_none_of X G zisinstance, PySem.W.mg_none_of X G zmax, PySem.W.mg_none_of X G zmin⟩
  have hatF : ∀ (x : Str) (ks : List Bool), headsOf x = some ks → ∃ a : Addr, PySem.W.nsIn K hd x = some (some (.ref a)) ∧ ∀ H : Hp, SqT K H a (ks.map fun k => V.str (kindStr k)) := (fun x ks hx => by
    unfold headsOf at hx
    by_cases hloadX : x = "load"
    · subst hloadX
      rw [if_pos rfl] at hx
      cases hx
      exact ⟨_, hload, fun H => .inr ⟨_, _, _, gload, rfl, rfl, (by show 2 ≤ sizeLine; exact ltsz (by decide)), (.cons ⟨tkWload0, rfl⟩ (.cons ⟨tkWload1, rfl⟩ .nil))⟩⟩
    rw [if_neg hloadX] at hx
    by_cases hpickX : x = "pick"
    · subst hpickX
      rw [if_pos rfl] at hx
      cases hx
      exact ⟨_, hpick, fun H => .inr ⟨_, _, _, gpick, rfl, rfl, (by show 3 ≤ sizeLine; exact ltsz (by decide)), (.cons ⟨tkWpick0, rfl⟩ (.cons ⟨tkWpick1, rfl⟩ (.cons ⟨tkWpick2, rfl⟩ .nil)))⟩⟩
    rw [if_neg hpickX] at hx
    by_cases hputX : x = "put"
    · subst hputX
      rw [if_pos rfl] at hx
      cases hx
      exact ⟨_, hput, fun H => .inr ⟨_, _, _, gput, rfl, rfl, (by show 2 ≤ sizeLine; exact ltsz (by decide)), (.cons ⟨tkWput0, rfl⟩ (.cons ⟨tkWput1, rfl⟩ .nil))⟩⟩
    rw [if_neg hputX] at hx
    by_cases hcopyX : x = "copy"
    · subst hcopyX
      rw [if_pos rfl] at hx
      cases hx
      exact ⟨_, hcopy, fun H => .inr ⟨_, _, _, gcopy, rfl, rfl, (by show 2 ≤ sizeLine; exact ltsz (by decide)), (.cons ⟨tkWcopy0, rfl⟩ (.cons ⟨tkWcopy1, rfl⟩ .nil))⟩⟩
    rw [if_neg hcopyX] at hx
    by_cases hpartX : x = "part"
    · subst hpartX
      rw [if_pos rfl] at hx
      cases hx
      exact ⟨_, hpart, fun H => .inr ⟨_, _, _, gpart, rfl, rfl, (by show 3 ≤ sizeLine; exact ltsz (by decide)), (.cons ⟨tkWpart0, rfl⟩ (.cons ⟨tkWpart1, rfl⟩ (.cons ⟨tkWpart2, rfl⟩ .nil)))⟩⟩
    rw [if_neg hpartX] at hx
    by_cases hdropX : x = "drop"
    · subst hdropX
      rw [if_pos rfl] at hx
      cases hx
      exact ⟨_, hdrop, fun H => .inr ⟨_, _, _, gdrop, rfl, rfl, (by show 1 ≤ sizeLine; exact ltsz (by decide)), (.cons ⟨tkWdrop0, rfl⟩ .nil)⟩⟩
    rw [if_neg hdropX] at hx
    by_cases hsayX : x = "say"
    · subst hsayX
      rw [if_pos rfl] at hx
      cases hx
      exact ⟨_, hsay, fun H => .inr ⟨_, _, _, gsay, rfl, rfl, (by show 1 ≤ sizeLine; exact ltsz (by decide)), (.cons ⟨tkWsay0, rfl⟩ .nil)⟩⟩
    rw [if_neg hsayX] at hx
    by_cases htellX : x = "tell"
    · subst htellX
      rw [if_pos rfl] at hx
      cases hx
      exact ⟨_, htell, fun H => .inr ⟨_, _, _, gtell, rfl, rfl, (by show 1 ≤ sizeLine; exact ltsz (by decide)), (.cons ⟨tkWtell0, rfl⟩ .nil)⟩⟩
    rw [if_neg htellX] at hx
    by_cases hseenX : x = "seen"
    · subst hseenX
      rw [if_pos rfl] at hx
      cases hx
      exact ⟨_, hseen, fun H => .inr ⟨_, _, _, gseen, rfl, rfl, (by show 2 ≤ sizeLine; exact ltsz (by decide)), (.cons ⟨tkWseen0, rfl⟩ (.cons ⟨tkWseen1, rfl⟩ .nil))⟩⟩
    rw [if_neg hseenX] at hx
    by_cases hfailX : x = "fail"
    · subst hfailX
      rw [if_pos rfl] at hx
      cases hx
      exact ⟨_, hfail, fun H => .inr ⟨_, _, _, gfail, rfl, rfl, (by show 1 ≤ sizeLine; exact ltsz (by decide)), (.cons ⟨tkWfail0, rfl⟩ .nil)⟩⟩
    rw [if_neg hfailX] at hx
    by_cases hmakeX : x = "make"
    · subst hmakeX
      rw [if_pos rfl] at hx
      cases hx
      exact ⟨_, hmake, fun H => .inr ⟨_, _, _, gmake, rfl, rfl, (by show 1 ≤ sizeLine; exact ltsz (by decide)), (.cons ⟨tkWmake0, rfl⟩ .nil)⟩⟩
    rw [if_neg hmakeX] at hx
    by_cases hcallX : x = "call"
    · subst hcallX
      rw [if_pos rfl] at hx
      cases hx
      exact ⟨_, hcall, fun H => .inr ⟨_, _, _, gcall, rfl, rfl, (by show 1 ≤ sizeLine; exact ltsz (by decide)), (.cons ⟨tkWcall0, rfl⟩ .nil)⟩⟩
    rw [if_neg hcallX] at hx
    by_cases hwhenX : x = "when"
    · subst hwhenX
      rw [if_pos rfl] at hx
      cases hx
      exact ⟨_, hwhen, fun H => .inr ⟨_, _, _, gwhen, rfl, rfl, (by show 1 ≤ sizeLine; exact ltsz (by decide)), (.cons ⟨tkWwhen0, rfl⟩ .nil)⟩⟩
    rw [if_neg hwhenX] at hx
    by_cases htryX : x = "try"
    · subst htryX
      rw [if_pos rfl] at hx
      cases hx
      exact ⟨_, htry, fun H => .inr ⟨_, _, _, gtry, rfl, rfl, (by show 0 ≤ sizeLine; exact ltsz (by decide)), .nil⟩⟩
    rw [if_neg htryX] at hx
    cases hx)
  have batF : ∀ (x : Str) (ks : List Bool), headsOf x = some ks → (nblk x = 0 ∧ PySem.W.nsIn K bd x = some none) ∨ ∃ t : Tok, PySem.W.nsIn K bd x = some (some (.int (nblk x : Nat) t)) := (fun x ks hx => by
    unfold headsOf at hx
    by_cases hloadX : x = "load"
    · subst hloadX
      exact .inl ⟨by decide +kernel, bload⟩
    rw [if_neg hloadX] at hx
    by_cases hpickX : x = "pick"
    · subst hpickX
      exact .inl ⟨by decide +kernel, bpick⟩
    rw [if_neg hpickX] at hx
    by_cases hputX : x = "put"
    · subst hputX
      exact .inl ⟨by decide +kernel, bput⟩
    rw [if_neg hputX] at hx
    by_cases hcopyX : x = "copy"
    · subst hcopyX
      exact .inl ⟨by decide +kernel, bcopy⟩
    rw [if_neg hcopyX] at hx
    by_cases hpartX : x = "part"
    · subst hpartX
      exact .inl ⟨by decide +kernel, bpart⟩
    rw [if_neg hpartX] at hx
    by_cases hdropX : x = "drop"
    · subst hdropX
      exact .inl ⟨by decide +kernel, bdrop⟩
    rw [if_neg hdropX] at hx
    by_cases hsayX : x = "say"
    · subst hsayX
      exact .inl ⟨by decide +kernel, bsay⟩
    rw [if_neg hsayX] at hx
    by_cases htellX : x = "tell"
    · subst htellX
      exact .inl ⟨by decide +kernel, btell⟩
    rw [if_neg htellX] at hx
    by_cases hseenX : x = "seen"
    · subst hseenX
      exact .inl ⟨by decide +kernel, bseen⟩
    rw [if_neg hseenX] at hx
    by_cases hfailX : x = "fail"
    · subst hfailX
      exact .inl ⟨by decide +kernel, bfail⟩
    rw [if_neg hfailX] at hx
    by_cases hmakeX : x = "make"
    · subst hmakeX
      exact .inr ⟨_, by rw [show nblk "make" = 1 by decide +kernel]; exact bmake⟩
    rw [if_neg hmakeX] at hx
    by_cases hcallX : x = "call"
    · subst hcallX
      exact .inl ⟨by decide +kernel, bcall⟩
    rw [if_neg hcallX] at hx
    by_cases hwhenX : x = "when"
    · subst hwhenX
      exact .inr ⟨_, by rw [show nblk "when" = 2 by decide +kernel]; exact bwhen⟩
    rw [if_neg hwhenX] at hx
    by_cases htryX : x = "try"
    · subst htryX
      exact .inr ⟨_, by rw [show nblk "try" = 2 by decide +kernel]; exact btry⟩
    rw [if_neg htryX] at hx
    cases hx)
  have C : Cs K w mg hd bd im ba eh eb nh nb t1 t2 := ⟨PySem.W.mg_of X G aLe, PySem.W.mg_of X G aLo, PySem.W.mg_of X G ahd, PySem.W.mg_of X G abd, PySem.W.mg_of X G aim, PySem.W.mg_of X G aba, ⟨lhd, Khd, whd⟩, ⟨lbd, Kbd, wbd⟩, hatF, batF, fun H => .inr ⟨_, _, _, lim, rfl, rfl, (by show 2 ≤ sizeLine; exact ltsz (by decide)), (.cons ⟨tkim0, rfl⟩ (.cons ⟨tkim1, rfl⟩ .nil))⟩, fun H => .inr ⟨_, _, _, lba, rfl, rfl, (by show 2 ≤ sizeLine; exact ltsz (by decide)), (.cons ⟨tkba0, rfl⟩ (.cons ⟨tkba1, rfl⟩ .nil))⟩⟩
  have Fsource := fun_mk (st := ssource) lsource csource ksource
  have bsourceB := Fsource.binds (ps := ["_law_script", "_law_k"]) fun _ _ _ _ _ _ us hl => match us, hl with | [_, _], _ => rfl
  have Dsource : Df K mg "_law_source" ssource ["_law_script", "_law_k"] _ _ := ⟨Fsource, PySem.W.mg_of X G asource, bsourceB⟩
  have Fdraw := fun_mk (st := sdraw) ldraw cdraw kdraw
  have bdrawB := Fdraw.binds (ps := ["_law_source_here", "_law_many"]) fun _ _ _ _ _ _ us hl => match us, hl with | [_, _], _ => rfl
  have Ddraw : Df K mg "_law_draw" sdraw ["_law_source_here", "_law_many"] _ _ := ⟨Fdraw, PySem.W.mg_of X G adraw, bdrawB⟩
  have Fpick := fun_mk (st := spick) lpick cpick kpick
  have bpickB := Fpick.binds (ps := ["_law_source_here", "_law_some"]) fun _ _ _ _ _ _ us hl => match us, hl with | [_, _], _ => rfl
  have Dpick : Df K mg "_law_pick" spick ["_law_source_here", "_law_some"] _ _ := ⟨Fpick, PySem.W.mg_of X G apick, bpickB⟩
  have Fword := fun_mk (st := sword) lword cword kword
  have bwordB := Fword.binds (ps := ["_law_source_here"]) fun _ _ _ _ _ _ us hl => match us, hl with | [_], _ => rfl
  have Dword : Df K mg "_law_word" sword ["_law_source_here"] _ _ := ⟨Fword, PySem.W.mg_of X G aword, bwordB⟩
  have Fnumber := fun_mk (st := snumber) lnumber cnumber knumber
  have bnumberB := Fnumber.binds (ps := ["_law_source_here"]) fun _ _ _ _ _ _ us hl => match us, hl with | [_], _ => rfl
  have Dnumber : Df K mg "_law_number" snumber ["_law_source_here"] _ _ := ⟨Fnumber, PySem.W.mg_of X G anumber, bnumberB⟩
  have Fplainrow := fun_mk (st := splainrow) lplainrow cplainrow kplainrow
  have bplainrowB := Fplainrow.binds (ps := ["_law_source_here", "_law_word_here"]) fun _ _ _ _ _ _ us hl => match us, hl with | [_, _], _ => rfl
  have Dplainrow : Df K mg "_law_plain_row" splainrow ["_law_source_here", "_law_word_here"] _ _ := ⟨Fplainrow, PySem.W.mg_of X G aplainrow, bplainrowB⟩
  have Frow := fun_mk (st := srow) lrow crow krow
  have browB := Frow.binds (ps := ["_law_source_here", "_law_budget", "_law_deep", "_law_in_make"]) fun _ _ _ _ _ _ us hl => match us, hl with | [_, _, _, _], _ => rfl
  have Drow : Df K mg "_law_row" srow ["_law_source_here", "_law_budget", "_law_deep", "_law_in_make"] _ _ := ⟨Frow, PySem.W.mg_of X G arow, browB⟩
  have Fblock := fun_mk (st := sblock) lblock cblock kblock
  have bblockB := Fblock.binds (ps := ["_law_source_here", "_law_budget", "_law_deep", "_law_in_make"]) fun _ _ _ _ _ _ us hl => match us, hl with | [_, _, _, _], _ => rfl
  have Dblock : Df K mg "_law_block" sblock ["_law_source_here", "_law_budget", "_law_deep", "_law_in_make"] _ _ := ⟨Fblock, PySem.W.mg_of X G ablock, bblockB⟩
  have Flibrary := fun_mk (st := slibrary) llibrary clibrary klibrary
  have blibraryB := Flibrary.binds (ps := ["_law_source_here"]) fun _ _ _ _ _ _ us hl => match us, hl with | [_], _ => rfl
  have Dlibrary : Df K mg "_law_library" slibrary ["_law_source_here"] _ _ := ⟨Flibrary, PySem.W.mg_of X G alibrary, blibraryB⟩
  have Fgiven := fun_mk (st := sgiven) lgiven cgiven kgiven
  have bgivenB := Fgiven.binds (ps := ["_law_source_here", "_law_thing"]) fun _ _ _ _ _ _ us hl => match us, hl with | [_, _], _ => rfl
  have Dgiven : Df K mg "_law_given" sgiven ["_law_source_here", "_law_thing"] _ _ := ⟨Fgiven, PySem.W.mg_of X G agiven, bgivenB⟩
  have Fhanded := fun_mk (st := shanded) lhanded chanded khanded
  have bhandedB := Fhanded.binds (ps := ["_law_source_here", "_law_library_here"]) fun _ _ _ _ _ _ us hl => match us, hl with | [_, _], _ => rfl
  have Dhanded : Df K mg "_law_handed" shanded ["_law_source_here", "_law_library_here"] _ _ := ⟨Fhanded, PySem.W.mg_of X G ahanded, bhandedB⟩
  have Fblocks := fun_mk (st := sblocks) lblocks cblocks kblocks
  have bblocksB := Fblocks.binds (ps := ["_law_row_here"]) fun _ _ _ _ _ _ us hl => match us, hl with | [_], _ => rfl
  have Dblocks : Df K mg "_law_blocks" sblocks ["_law_row_here"] _ _ := ⟨Fblocks, PySem.W.mg_of X G ablocks, bblocksB⟩
  have Fwalked := fun_mk (st := swalked) lwalked cwalked kwalked
  have bwalkedB := Fwalked.binds (ps := ["_law_rows", "_law_ahead"]) fun _ _ _ _ _ _ us hl => match us, hl with | [_, _], _ => rfl
  have Dwalked : Df K mg "_law_walked" swalked ["_law_rows", "_law_ahead"] _ _ := ⟨Fwalked, PySem.W.mg_of X G awalked, bwalkedB⟩
  have Fsame := fun_mk (st := ssame) lsame csame ksame
  have bsameB := Fsame.binds (ps := ["_law_found", "_law_due"]) fun _ _ _ _ _ _ us hl => match us, hl with | [_, _], _ => rfl
  have Dsame : Df K mg "_law_same" ssame ["_law_found", "_law_due"] _ _ := ⟨Fsame, PySem.W.mg_of X G asame, bsameB⟩
  have Flaw := fun_mk (st := slaw) llaw claw klaw
  have blawB := Flaw.binds (ps := ["_law_script"]) fun _ _ _ _ _ _ us hl => match us, hl with | [_], _ => rfl
  have Dlaw : Df K mg "law" slaw ["_law_script"] _ _ := ⟨Flaw, PySem.W.mg_of X G alaw, blawB⟩
  have Fisinteger := fun_mk (st := sisinteger) lisinteger cisinteger kisinteger
  have bisintegerB := Fisinteger.binds (ps := ["thing"]) fun _ _ _ _ _ _ us hl => match us, hl with | [_], _ => rfl
  have Disinteger : Df K mg "is_integer" sisinteger ["thing"] _ _ := ⟨Fisinteger, PySem.W.mg_of X G aisinteger, bisintegerB⟩
  have Fislist := fun_mk (st := sislist) lislist cislist kislist
  have bislistB := Fislist.binds (ps := ["thing"]) fun _ _ _ _ _ _ us hl => match us, hl with | [_], _ => rfl
  have Dislist : Df K mg "is_list" sislist ["thing"] _ _ := ⟨Fislist, PySem.W.mg_of X G aislist, bislistB⟩
  have Fisword := fun_mk (st := sisword) lisword cisword kisword
  have biswordB := Fisword.binds (ps := ["thing"]) fun _ _ _ _ _ _ us hl => match us, hl with | [_], _ => rfl
  have Disword : Df K mg "is_word" sisword ["thing"] _ _ := ⟨Fisword, PySem.W.mg_of X G aisword, biswordB⟩
  have Fblockcount := fun_mk (st := sblockcount) lblockcount cblockcount kblockcount
  have bblockcountB := Fblockcount.binds (ps := ["word"]) fun _ _ _ _ _ _ us hl => match us, hl with | [_], _ => rfl
  have Dblockcount : Df K mg "block_count" sblockcount ["word"] _ _ := ⟨Fblockcount, PySem.W.mg_of X G ablockcount, bblockcountB⟩
  have Fblocksof := fun_mk (st := sblocksof) lblocksof cblocksof kblocksof
  have bblocksofB := Fblocksof.binds (ps := ["row"]) fun _ _ _ _ _ _ us hl => match us, hl with | [_], _ => rfl
  have Dblocksof : Df K mg "blocks_of" sblocksof ["row"] _ _ := ⟨Fblocksof, PySem.W.mg_of X G ablocksof, bblocksofB⟩
  have Fishead := fun_mk (st := sishead) lishead cishead kishead
  have bisheadB := Fishead.binds (ps := ["kind", "thing"]) fun _ _ _ _ _ _ us hl => match us, hl with | [_, _], _ => rfl
  have Dishead : Df K mg "is_head" sishead ["kind", "thing"] _ _ := ⟨Fishead, PySem.W.mg_of X G aishead, bisheadB⟩
  have Fisrow := fun_mk (st := sisrow) lisrow cisrow kisrow
  have bisrowB := Fisrow.binds (ps := ["thing"]) fun _ _ _ _ _ _ us hl => match us, hl with | [_], _ => rfl
  have Disrow : Df K mg "is_row" sisrow ["thing"] _ _ := ⟨Fisrow, PySem.W.mg_of X G aisrow, bisrowB⟩
  have Ftakenrows := fun_mk (st := stakenrows) ltakenrows ctakenrows ktakenrows
  have btakenrowsB := Ftakenrows.binds (ps := ["module", "rows", "prefix", "in_function"]) fun _ _ _ _ _ _ us hl => match us, hl with | [_, _, _, _], _ => rfl
  have Dtakenrows : Df K mg "taken_rows" stakenrows ["module", "rows", "prefix", "in_function"] _ _ := ⟨Ftakenrows, PySem.W.mg_of X G atakenrows, btakenrowsB⟩
  have Frowsbypath := fun_mk (st := srowsbypath) lrowsbypath crowsbypath krowsbypath
  have browsbypathB := Frowsbypath.binds (ps := ["rows", "prefix"]) fun _ _ _ _ _ _ us hl => match us, hl with | [_, _], _ => rfl
  have Drowsbypath : Df K mg "rows_by_path" srowsbypath ["rows", "prefix"] _ _ := ⟨Frowsbypath, PySem.W.mg_of X G arowsbypath, browsbypathB⟩
  have Ftakenmodules := fun_mk (st := stakenmodules) ltakenmodules ctakenmodules ktakenmodules
  have btakenmodulesB := Ftakenmodules.binds (ps := ["modules"]) fun _ _ _ _ _ _ us hl => match us, hl with | [_], _ => rfl
  have Dtakenmodules : Df K mg "taken_modules" stakenmodules ["modules"] _ _ := ⟨Ftakenmodules, PySem.W.mg_of X G atakenmodules, btakenmodulesB⟩
  have Fblocksbyprefix := fun_mk (st := sblocksbyprefix) lblocksbyprefix cblocksbyprefix kblocksbyprefix
  have bblocksbyprefixB := Fblocksbyprefix.binds (ps := ["listed"]) fun _ _ _ _ _ _ us hl => match us, hl with | [_], _ => rfl
  have Dblocksbyprefix : Df K mg "blocks_by_prefix" sblocksbyprefix ["listed"] _ _ := ⟨Fblocksbyprefix, PySem.W.mg_of X G ablocksbyprefix, bblocksbyprefixB⟩
  have FPrograminit := fun_mk (st := sPrograminit) lPrograminit cPrograminit kPrograminit
  have bPrograminitB := FPrograminit.binds (ps := ["self", "modules"]) fun _ _ _ _ _ _ us hl => match us, hl with | [_, _], _ => rfl
  have FProgramplaces := fun_mk (st := sProgramplaces) lProgramplaces cProgramplaces kProgramplaces
  have bProgramplacesB := FProgramplaces.binds (ps := ["self"]) fun _ _ _ _ _ _ us hl => match us, hl with | [_], _ => rfl
  have Tc : Pcl K Cc := ⟨⟨pg, hdC, po, sa⟩, n_rows, n_listed, n_blocks, n_places⟩
  refine ⟨PySem.W.fnOf "law" "law" (defArgs slaw) (defBody slaw) (defScope slaw) .none kVlaw dclaw pmlaw anlaw cdlaw ctlaw, fun s v => .of_eq rfl, fun base _ _ => ?_⟩
  have Gdraw := ok_draw (P := l.prog) (w := w) (base := base) Ddraw B
  have Gpick := ok_pick (P := l.prog) (w := w) (base := base) Dpick Ddraw B
  have Gsource := ok_source (P := l.prog) (w := w) (base := base) Dsource B
  have Gword := ok_word Dword Dpick Gpick
  have Gnumber := ok_number Dnumber Dpick Ddraw Gpick Gdraw
  have Gplain := ok_plain Dplainrow B Dword Dnumber Gword Gnumber
  have Grow := (ok_rows B Drow Dblock Dplainrow Gplain Dword Gword Dpick Gpick Ddraw Gdraw 3).1
  have Glibrary := ok_library Dlibrary B Drow Grow Dword Gword Ddraw Gdraw
  have Gg0 := ok_given (n := 0) (k := 9) (by omega) Dgiven B Ddraw Gdraw (fun m e => nomatch e)
  have Gg1 := ok_given (n := 1) (k := 10) (by omega) Dgiven B Ddraw Gdraw (fun m e => by cases e; exact Gg0)
  have Gg2 := ok_given (n := 2) (k := 11) (by omega) Dgiven B Ddraw Gdraw (fun m e => by cases e; exact Gg1)
  have Gg3 := ok_given (n := 3) (k := 12) (by omega) Dgiven B Ddraw Gdraw (fun m e => by cases e; exact Gg2)
  have Gg4 := ok_given (n := 4) (k := 13) (by omega) Dgiven B Ddraw Gdraw (fun m e => by cases e; exact Gg3)
  have Gg5 := ok_given (n := 5) (k := 14) (by omega) Dgiven B Ddraw Gdraw (fun m e => by cases e; exact Gg4)
  have Gg6 := ok_given (n := 6) (k := 15) (by omega) Dgiven B Ddraw Gdraw (fun m e => by cases e; exact Gg5)
  have Gg7 := ok_given (n := 7) (k := 16) (by omega) Dgiven B Ddraw Gdraw (fun m e => by cases e; exact Gg6)
  have Gg8 := ok_given (n := 8) (k := 17) (by omega) Dgiven B Ddraw Gdraw (fun m e => by cases e; exact Gg7)
  have Gg9 := ok_given (n := 9) (k := 18) (by omega) Dgiven B Ddraw Gdraw (fun m e => by cases e; exact Gg8)
  have Ghanded := ok_handed (k := 19) (by omega) Dhanded B Ddraw Gdraw Dgiven Gg9
  have Gblocks := ok_lawblocks (P := l.prog) (w := w) (base := base) Dblocks B
  have Gw0 := ok_lawwalk (n := 0) (k := 15) (by omega) Dwalked B Dblocks Gblocks none_left
  have Gw1 := ok_lawwalk (n := 1) (k := 16) (by omega) Dwalked B Dblocks Gblocks Gw0
  have Gw2 := ok_lawwalk (n := 2) (k := 17) (by omega) Dwalked B Dblocks Gblocks Gw1
  have Gw3 := ok_lawwalk (n := 3) (k := 18) (by omega) Dwalked B Dblocks Gblocks Gw2
  have Gw4 := ok_lawwalk (n := 4) (k := 19) (by omega) Dwalked B Dblocks Gblocks Gw3
  have Gs0 := ok_same (P := l.prog) (w := w) (base := base) (n := 0) (k := 16) (by omega) Dsame B none_left
  have Gs1 := ok_same (n := 1) (k := 17) (by omega) Dsame B Gs0
  have Gs2 := ok_same (n := 2) (k := 18) (by omega) Dsame B Gs1
  have Gs3 := ok_same (n := 3) (k := 19) (by omega) Dsame B Gs2
  have Gisword := ok_isword (P := l.prog) (w := w) (base := base) Disword B C
  have Gislist := ok_islist (P := l.prog) (w := w) (base := base) Dislist B
  have Gisinteger := ok_isinteger (P := l.prog) (w := w) (base := base) Disinteger B
  have Gishead := ok_ishead Dishead Disword Gisword Disinteger Gisinteger
  have Gblockcount := ok_blockcount (P := l.prog) (w := w) (base := base) Dblockcount C
  have Gblocksof := ok_blocksof (P := l.prog) (w := w) (base := base) Dblocksof B C
  have Gisrow := ok_isrow Disrow B C Dislist Gislist Dishead Gishead Dblockcount Gblockcount Dblocksof Gblocksof
  have Gt0 := ok_taken (n := 0) (k := 13) (by omega) Dtakenrows B C Disrow Gisrow Dblocksof Gblocksof none_left
  have Gt1 := ok_taken (n := 1) (k := 14) (by omega) Dtakenrows B C Disrow Gisrow Dblocksof Gblocksof Gt0
  have Gt2 := ok_taken (n := 2) (k := 15) (by omega) Dtakenrows B C Disrow Gisrow Dblocksof Gblocksof Gt1
  have Gt3 := ok_taken (n := 3) (k := 16) (by omega) Dtakenrows B C Disrow Gisrow Dblocksof Gblocksof Gt2
  have Gt4 := ok_taken (n := 4) (k := 17) (by omega) Dtakenrows B C Disrow Gisrow Dblocksof Gblocksof Gt3
  have Gr0 := ok_walk (n := 0) (k := 14) (by omega) Drowsbypath B Dblocksof Gblocksof none_left
  have Gr1 := ok_walk (n := 1) (k := 15) (by omega) Drowsbypath B Dblocksof Gblocksof Gr0
  have Gr2 := ok_walk (n := 2) (k := 16) (by omega) Drowsbypath B Dblocksof Gblocksof Gr1
  have Gr3 := ok_walk (n := 3) (k := 17) (by omega) Drowsbypath B Dblocksof Gblocksof Gr2
  have Gr4 := ok_walk (n := 4) (k := 18) (by omega) Drowsbypath B Dblocksof Gblocksof Gr3
  have Gtm := ok_takenmods (k := 18) (by omega) Dtakenmodules B Disword Gisword Dislist Gislist Dtakenrows Gt4
  have Gbp := (ok_byprefix (P := l.prog) (w := w) (base := base) Dblocksbyprefix B).mono (k := 19) (by omega)
  have Gpi := ok_pinit (k := 19) (by omega) FPrograminit Tc B C Dtakenmodules Gtm Drowsbypath Gr4 Dblocksbyprefix Gbp
  have Gpp := ok_pplaces (P := l.prog) (w := w) (base := base) (mg := mg) FProgramplaces Tc B
  exact ok_law6 (k := 20) (by omega) Dlaw B Dsource Gsource Dlibrary Glibrary Dhanded Ghanded Dwalked Gw4 Dsame Gs3 Tc ⟨mkC, aPrograminit, iPrograminit, kcC⟩ (PySem.W.mg_of X G aC) bPrograminitB Gpi ⟨aProgramplaces, iProgramplaces, kProgramplaces⟩ bProgramplacesB Gpp
theorem walk6 {l : PySem.W.OpenLaw} {q : Program} {loose : List Str} {XP : (Str → Option Value) → Heap → Prop} {YP : World → Heap → Prop} {d : DefRec} {K : Params → PySem.W.Frag} (hn : l.most = some 63) (hdf : d.params.defaults = [])
    (hY : ∀ (w : World) (h : Heap), YP w h → (K w.params).In h)
    (F : ∀ (w : World) (mg : Str → Option Value) (fa : Addr) (h : Heap), (K w.params).In h → h.Ns mainGlobals mg → mg d.name = some (.ref fa) →
      ∃ fd : FuncData, (∀ (s : Shared) (u : Value), BindsTo s fd ⟨[u], []⟩ [("_law_script", u)]) ∧ ∀ base : Heap, (K w.params).In base → base.Ns mainGlobals mg → FnOk l.prog w (K w.params) mg base CX0 22 fa fd ["_law_script"] (spLaw6 (K w.params))) :
    PySem.W.WalkO q loose XP YP l.row.toRowW d [] (fun f vs => PySem.call f vs) :=
  L2.walk_of (n := 63) (k := 22) (x := "_law_script") (CX := fun _ => CX0) (sp := fun w => spLaw6 (K w.params)) hn (by decide) hdf ⟨rfl, by decide, by decide⟩ hY F (fun _ _ a ns hl _ hS => ⟨a, ns, rfl, hS, hl, fun _ => rfl⟩) fun _ _ _ _ _ z => z
end Fs

open PySem PySem.W PyProof.Rows
set_option maxRecDepth 100000 in
set_option maxHeartbeats 0 in
theorem PySem.Challenge.cw_firsttouch_k06_places_told_holds : PySem.Challenge.rw_firsttouch_k06_places_told.Holds := by
  w_on; o_law; k_head; (case hw => w_witness2)
  k_fill
  refine Fs.walk6 (l := PySem.Challenge.rw_firsttouch_k06_places_told) rfl rfl (fun w h Y => PySem.W.kIn_of Y) ?F
  case F =>
    intro w mg fa h KX G hmg
    refine' Fs.all_mk KX G hmg ?aC ?pg ?hdC ?po ?sa ?mkC ?kcC ?n_rows ?n_listed ?n_blocks ?n_places ?aLe ?aLo ?ahd ?lhd ?Khd ?whd ?abd ?lbd ?Kbd ?wbd ?aim ?lim ?aba ?lba ?hload ?gload ?hpick ?gpick ?hput ?gput ?hcopy ?gcopy ?hpart ?gpart ?hdrop ?gdrop ?hsay ?gsay ?htell ?gtell ?hseen ?gseen ?hfail ?gfail ?hmake ?gmake ?hcall ?gcall ?hwhen ?gwhen ?htry ?gtry ?bload ?bpick ?bput ?bcopy ?bpart ?bdrop ?bsay ?btell ?bseen ?bfail ?bmake ?bcall ?bwhen ?btry ?zlen ?zint ?zstr ?zbool ?zlist ?ztuple ?zdict ?zrange ?zenumerate ?zzip ?zall ?zsorted ?zisinstance ?zmax ?zmin ?asource ?lsource ?csource ?ksource ?adraw ?ldraw ?cdraw ?kdraw ?apick ?lpick ?cpick ?kpick ?aword ?lword ?cword ?kword ?anumber ?lnumber ?cnumber ?knumber ?aplainrow ?lplainrow ?cplainrow ?kplainrow ?arow ?lrow ?crow ?krow ?ablock ?lblock ?cblock ?kblock ?alibrary ?llibrary ?clibrary ?klibrary ?agiven ?lgiven ?cgiven ?kgiven ?ahanded ?lhanded ?chanded ?khanded ?ablocks ?lblocks ?cblocks ?kblocks ?awalked ?lwalked ?cwalked ?kwalked ?asame ?lsame ?csame ?ksame ?alaw ?llaw ?claw ?klaw ?aisinteger ?lisinteger ?cisinteger ?kisinteger ?aislist ?lislist ?cislist ?kislist ?aisword ?lisword ?cisword ?kisword ?ablockcount ?lblockcount ?cblockcount ?kblockcount ?ablocksof ?lblocksof ?cblocksof ?kblocksof ?aishead ?lishead ?cishead ?kishead ?aisrow ?lisrow ?cisrow ?kisrow ?atakenrows ?ltakenrows ?ctakenrows ?ktakenrows ?arowsbypath ?lrowsbypath ?crowsbypath ?krowsbypath ?atakenmodules ?ltakenmodules ?ctakenmodules ?ktakenmodules ?ablocksbyprefix ?lblocksbyprefix ?cblocksbyprefix ?kblocksbyprefix ?aPrograminit ?iPrograminit ?lPrograminit ?cPrograminit ?kPrograminit ?aProgramplaces ?iProgramplaces ?lProgramplaces ?cProgramplaces ?kProgramplaces
    (case aC => k_is)
    (case pg => k_is)
    (case hdC => k_is)
    (case po => k_is)
    (case sa => k_is)
    (case mkC => k_is)
    (case kcC => k_is)
    (case n_rows => k_is)
    (case n_listed => k_is)
    (case n_blocks => k_is)
    (case n_places => k_is)
    (case aLe => k_is)
    (case aLo => k_is)
    (case ahd => k_is)
    (case lhd => k_is)
    (case Khd => first | k_is | (repeat' first | exact trivial | refine ⟨⟨_, _, rfl, rfl⟩, ?_⟩))
    (case whd => first | rfl | decide)
    (case abd => k_is)
    (case lbd => k_is)
    (case Kbd => first | k_is | (repeat' first | exact trivial | refine ⟨⟨_, _, rfl, rfl⟩, ?_⟩))
    (case wbd => first | rfl | decide)
    (case aim => k_is)
    (case lim => k_is)
    (case aba => k_is)
    (case lba => k_is)
    (case hload => k_is)
    (case gload => k_is)
    (case hpick => k_is)
    (case gpick => k_is)
    (case hput => k_is)
    (case gput => k_is)
    (case hcopy => k_is)
    (case gcopy => k_is)
    (case hpart => k_is)
    (case gpart => k_is)
    (case hdrop => k_is)
    (case gdrop => k_is)
    (case hsay => k_is)
    (case gsay => k_is)
    (case htell => k_is)
    (case gtell => k_is)
    (case hseen => k_is)
    (case gseen => k_is)
    (case hfail => k_is)
    (case gfail => k_is)
    (case hmake => k_is)
    (case gmake => k_is)
    (case hcall => k_is)
    (case gcall => k_is)
    (case hwhen => k_is)
    (case gwhen => k_is)
    (case htry => k_is)
    (case gtry => k_is)
    (case bload => k_is)
    (case bpick => k_is)
    (case bput => k_is)
    (case bcopy => k_is)
    (case bpart => k_is)
    (case bdrop => k_is)
    (case bsay => k_is)
    (case btell => k_is)
    (case bseen => k_is)
    (case bfail => k_is)
    (case bmake => k_is)
    (case bcall => k_is)
    (case bwhen => k_is)
    (case btry => k_is)
    (case zlen => k_is)
    (case zint => k_is)
    (case zstr => k_is)
    (case zbool => k_is)
    (case zlist => k_is)
    (case ztuple => k_is)
    (case zdict => k_is)
    (case zrange => k_is)
    (case zenumerate => k_is)
    (case zzip => k_is)
    (case zall => k_is)
    (case zsorted => k_is)
    (case zisinstance => k_is)
    (case zmax => k_is)
    (case zmin => k_is)
    (case asource => k_is)
    (case lsource => k_is)
    (case csource => k_is)
    (case ksource => k_is)
    (case adraw => k_is)
    (case ldraw => k_is)
    (case cdraw => k_is)
    (case kdraw => k_is)
    (case apick => k_is)
    (case lpick => k_is)
    (case cpick => k_is)
    (case kpick => k_is)
    (case aword => k_is)
    (case lword => k_is)
    (case cword => k_is)
    (case kword => k_is)
    (case anumber => k_is)
    (case lnumber => k_is)
    (case cnumber => k_is)
    (case knumber => k_is)
    (case aplainrow => k_is)
    (case lplainrow => k_is)
    (case cplainrow => k_is)
    (case kplainrow => k_is)
    (case arow => k_is)
    (case lrow => k_is)
    (case crow => k_is)
    (case krow => k_is)
    (case ablock => k_is)
    (case lblock => k_is)
    (case cblock => k_is)
    (case kblock => k_is)
    (case alibrary => k_is)
    (case llibrary => k_is)
    (case clibrary => k_is)
    (case klibrary => k_is)
    (case agiven => k_is)
    (case lgiven => k_is)
    (case cgiven => k_is)
    (case kgiven => k_is)
    (case ahanded => k_is)
    (case lhanded => k_is)
    (case chanded => k_is)
    (case khanded => k_is)
    (case ablocks => k_is)
    (case lblocks => k_is)
    (case cblocks => k_is)
    (case kblocks => k_is)
    (case awalked => k_is)
    (case lwalked => k_is)
    (case cwalked => k_is)
    (case kwalked => k_is)
    (case asame => k_is)
    (case lsame => k_is)
    (case csame => k_is)
    (case ksame => k_is)
    (case alaw => k_is)
    (case llaw => k_is)
    (case claw => k_is)
    (case klaw => k_is)
    (case aisinteger => k_is)
    (case lisinteger => k_is)
    (case cisinteger => k_is)
    (case kisinteger => k_is)
    (case aislist => k_is)
    (case lislist => k_is)
    (case cislist => k_is)
    (case kislist => k_is)
    (case aisword => k_is)
    (case lisword => k_is)
    (case cisword => k_is)
    (case kisword => k_is)
    (case ablockcount => k_is)
    (case lblockcount => k_is)
    (case cblockcount => k_is)
    (case kblockcount => k_is)
    (case ablocksof => k_is)
    (case lblocksof => k_is)
    (case cblocksof => k_is)
    (case kblocksof => k_is)
    (case aishead => k_is)
    (case lishead => k_is)
    (case cishead => k_is)
    (case kishead => k_is)
    (case aisrow => k_is)
    (case lisrow => k_is)
    (case cisrow => k_is)
    (case kisrow => k_is)
    (case atakenrows => k_is)
    (case ltakenrows => k_is)
    (case ctakenrows => k_is)
    (case ktakenrows => k_is)
    (case arowsbypath => k_is)
    (case lrowsbypath => k_is)
    (case crowsbypath => k_is)
    (case krowsbypath => k_is)
    (case atakenmodules => k_is)
    (case ltakenmodules => k_is)
    (case ctakenmodules => k_is)
    (case ktakenmodules => k_is)
    (case ablocksbyprefix => k_is)
    (case lblocksbyprefix => k_is)
    (case cblocksbyprefix => k_is)
    (case kblocksbyprefix => k_is)
    (case aPrograminit => k_is)
    (case iPrograminit => k_is)
    (case lPrograminit => k_is)
    (case cPrograminit => k_is)
    (case kPrograminit => k_is)
    (case aProgramplaces => k_is)
    (case iProgramplaces => k_is)
    (case lProgramplaces => k_is)
    (case cProgramplaces => k_is)
    (case kProgramplaces => k_is)
