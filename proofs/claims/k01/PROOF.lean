import PyProof.Rows.All
import Wide.All
import OpenK.AllK
import Wide.FinOn
import HandS.ForMost
import HandS.ForExc
import HandS.Evl
import HandS.WideBits
import HandS.StrMore
import HandS.StrSplit
import HandS.FStr
import HandS.IsInst
import HandS.TupMul
import HandS.TupAny
import HandS.SetKeys
import HandS.Deep
import HandS.Replace
import HandS.ReplaceList
import HandS.ReplaceLit
import HandS.ReplaceDef
import HandS.NoneIn
import HandS.Wide
import HandS.Codes
import HandS.Style
import PyProof.StrOps2
import KE.DataEq
import PyProof.Rows.StrPins
import PySem.Challenge.RW_freshpage_k01_words_and_signs
set_option Elab.async false
set_option linter.all false
set_option maxRecDepth 100000
section
namespace VI
open PySem PySem.Spec PyProof.Rows L2

/-! ### values, memory -/
inductive D where
  | non | bl (b : Bool) | int (i : Int) | str (s : List Nat)
  | tup (ds : List D) | lst (ds : List D) | lsk (ds : List D) | cell (n : Nat) | ty (n : String)
inductive O where
  | dead | lst (ds : List D) | dct (kvs : List (Key × D)) | ins (c : Addr) (fs : List (Str × D))
abbrev Mem := List O
abbrev Env := List (Option D)
def S (l : List Nat) : Str := ⟨l.toArray⟩
@[simp] theorem S_tl (l : List Nat) : (S l).cps.toList = l := by simp [S]
@[simp] theorem S_len (l : List Nat) : (S l).length = l.length := by simp [S, Str.length]
theorem S_mk (x : Str) : S x.cps.toList = x := Str.ext' (by simp [S])
theorem S_inj {a b : List Nat} (h : S a = S b) : a = b := by
  have := congrArg (fun x => x.cps.toList) h
  simpa using this
theorem S_app (a b : List Nat) : S a ++ S b = S (a ++ b) := by
  apply Str.ext'
  rw [Str.cps_append]
  simp [S]

mutual
inductive VR (K : PySem.W.Frag) (F : Hp) (φ : List Addr) : D → V → Prop
  | non : VR K F φ .non .non
  | bl (b : Bool) : VR K F φ (.bl b) (.bl b)
  | int (i : Int) : VR K F φ (.int i) (.int i)
  | str (s : List Nat) : VR K F φ (.str s) (.str (S s))
  | tup {a : Addr} {ds : List D} {vs : List V} : SqT K F a vs → VRs K F φ ds vs → VR K F φ (.tup ds) (.ref a)
  | lst {a : Addr} {ds : List D} {vs : List V} : F a = some (.lst vs) → VRs K F φ ds vs → VR K F φ (.lst ds) (.ref a)
  | lsk {a : Addr} {ds : List D} {vs : List V} : SqL K F a vs → VRs K F φ ds vs → VR K F φ (.lsk ds) (.ref a)
  | cell {i : Nat} {a : Addr} : φ[i]? = some a → VR K F φ (.cell i) (.ref a)
  | ty (n : String) : VR K F φ (.ty n) (.ty n)
inductive VRs (K : PySem.W.Frag) (F : Hp) (φ : List Addr) : List D → List V → Prop
  | nil : VRs K F φ [] []
  | cons {d : D} {ds : List D} {v : V} {vs : List V} : VR K F φ d v → VRs K F φ ds vs → VRs K F φ (d :: ds) (v :: vs)
end

def Pre (φ φ' : List Addr) : Prop := ∀ (i : Nat) (a : Addr), φ[i]? = some a → φ'[i]? = some a
theorem Pre.refl (φ : List Addr) : Pre φ φ := fun _ _ h => h
theorem Pre.trans {a b c : List Addr} (h : Pre a b) (g : Pre b c) : Pre a c := fun i x e => g i x (h i x e)
theorem Pre.snoc (φ : List Addr) (a : Addr) : Pre φ (φ ++ [a]) := fun i x e => by
  rw [List.getElem?_append_left (List.getElem?_eq_some_iff.mp e).1]
  exact e

section
variable {K : PySem.W.Frag} {F F' : Hp} {φ φ' : List Addr}
mutual
theorem VR.mono (e : Evl.Ex F F') (p : Pre φ φ') : ∀ {d : D} {v : V}, VR K F φ d v → VR K F' φ' d v
  | _, _, .non => .non
  | _, _, .bl b => .bl b
  | _, _, .int i => .int i
  | _, _, .str s => .str s
  | _, _, .tup h r => .tup (Evl.ex_t e h) (VRs.mono e p r)
  | _, _, .lst h r => .lst (e _ _ h) (VRs.mono e p r)
  | _, _, .lsk h r => .lsk (Evl.ex_l e h) (VRs.mono e p r)
  | _, _, .cell h => .cell (p _ _ h)
  | _, _, .ty n => .ty n
theorem VRs.mono (e : Evl.Ex F F') (p : Pre φ φ') : ∀ {ds : List D} {vs : List V}, VRs K F φ ds vs → VRs K F' φ' ds vs
  | _, _, .nil => .nil
  | _, _, .cons h r => .cons (VR.mono e p h) (VRs.mono e p r)
end
theorem VRs.len : ∀ {ds : List D} {vs : List V}, VRs K F φ ds vs → ds.length = vs.length
  | _, _, .nil => rfl
  | _, _, .cons _ r => by rw [List.length_cons, List.length_cons, VRs.len r]
theorem VRs.get : ∀ {ds : List D} {vs : List V} {i : Nat} {d : D}, VRs K F φ ds vs → ds[i]? = some d → ∃ v, vs[i]? = some v ∧ VR K F φ d v
  | _, _, _, _, .nil, e => by simp at e
  | _, _, 0, _, .cons r _, e => by simp at e; subst e; exact ⟨_, rfl, r⟩
  | _, _, i + 1, d, .cons _ t, e => by
    obtain ⟨v, h1, h2⟩ := VRs.get (i := i) (d := d) t (by simpa using e)
    exact ⟨v, by simpa using h1, h2⟩
theorem VRs.app : ∀ {ds es : List D} {vs ws : List V}, VRs K F φ ds vs → VRs K F φ es ws → VRs K F φ (ds ++ es) (vs ++ ws)
  | _, _, _, _, .nil, h => h
  | _, _, _, _, .cons a r, h => .cons a (VRs.app r h)
theorem VRs.take : ∀ {ds : List D} {vs : List V} (n : Nat), VRs K F φ ds vs → VRs K F φ (ds.take n) (vs.take n)
  | _, _, 0, _ => .nil
  | _, _, _ + 1, .nil => .nil
  | _, _, n + 1, .cons a r => .cons a (VRs.take n r)
theorem VRs.drop : ∀ {ds : List D} {vs : List V} (n : Nat), VRs K F φ ds vs → VRs K F φ (ds.drop n) (vs.drop n)
  | _, _, 0, r => r
  | _, _, _ + 1, .nil => .nil
  | _, _, n + 1, .cons _ r => VRs.drop n r
theorem VRs.set {d : D} {v : V} (h : VR K F φ d v) : ∀ {ds : List D} {vs : List V} (i : Nat), VRs K F φ ds vs → VRs K F φ (ds.set i d) (vs.set i v)
  | _, _, _, .nil => .nil
  | _, _, 0, .cons _ r => .cons h r
  | _, _, i + 1, .cons a r => .cons a (VRs.set h i r)
theorem VRs.ints : ∀ (ns : List Int), VRs K F φ (ns.map D.int) (ns.map V.int)
  | [] => .nil
  | n :: r => .cons (.int n) (VRs.ints r)
theorem VRs.strs : ∀ (ns : List (List Nat)), VRs K F φ (ns.map D.str) ((ns.map S).map V.str)
  | [] => .nil
  | n :: r => .cons (.str n) (VRs.strs r)
theorem VRs.ints_inv : ∀ {ns : List Int} {vs : List V}, VRs K F φ (ns.map D.int) vs → vs = ns.map V.int
  | [], _, .nil => rfl
  | n :: r, _, .cons (.int _) t => by rw [VRs.ints_inv t]; rfl
theorem VRs.strs_inv : ∀ {ns : List (List Nat)} {vs : List V}, VRs K F φ (ns.map D.str) vs → vs = (ns.map S).map V.str
  | [], _, .nil => rfl
  | n :: r, _, .cons (.str _) t => by rw [VRs.strs_inv t]; rfl
theorem VRs.rev : ∀ {ds : List D} {vs : List V}, VRs K F φ ds vs → VRs K F φ ds.reverse vs.reverse
  | _, _, .nil => .nil
  | _, _, .cons h r => by
    rw [List.reverse_cons, List.reverse_cons]
    exact (VRs.rev r).app (.cons h .nil)
end

/-! ### the heap represented -/
def Live (φ : List Addr) (m : Mem) (a : Addr) : Prop := ∃ (i : Nat) (o : O), m[i]? = some o ∧ o ≠ O.dead ∧ φ[i]? = some a
/-- pairs of a dict -/
inductive KR (K : PySem.W.Frag) (F : Hp) (φ : List Addr) : List (Key × D) → List (Key × V) → Prop
  | nil : KR K F φ [] []
  | cons {k : Key} {d : D} {v : V} {ds vs} : VR K F φ d v → KR K F φ ds vs → KR K F φ ((k, d) :: ds) ((k, v) :: vs)
inductive FR (K : PySem.W.Frag) (F : Hp) (φ : List Addr) : List (Str × D) → List (Str × V) → Prop
  | nil : FR K F φ [] []
  | cons {k : Str} {d : D} {v : V} {ds vs} : VR K F φ d v → FR K F φ ds vs → FR K F φ ((k, d) :: ds) ((k, v) :: vs)
def OR (K : PySem.W.Frag) (F : Hp) (φ : List Addr) : O → HO → Prop
  | .lst ds, h => ∃ vs, h = .lst vs ∧ VRs K F φ ds vs
  | .dct kvs, h => ∃ vs, h = .dK vs ∧ KR K F φ kvs vs
  | .ins c fs, h => ∃ dx vs, h = .ins c dx vs ∧ FR K F φ fs vs
  | .dead, _ => False
section
variable {K : PySem.W.Frag} {F F' : Hp} {φ φ' : List Addr}
theorem KR.mono (e : Evl.Ex F F') (p : Pre φ φ') : ∀ {ds vs}, KR K F φ ds vs → KR K F' φ' ds vs
  | _, _, .nil => .nil
  | _, _, .cons h r => .cons (h.mono e p) (KR.mono e p r)
theorem FR.mono (e : Evl.Ex F F') (p : Pre φ φ') : ∀ {ds vs}, FR K F φ ds vs → FR K F' φ' ds vs
  | _, _, .nil => .nil
  | _, _, .cons h r => .cons (h.mono e p) (FR.mono e p r)
theorem OR.mono (e : Evl.Ex F F') (p : Pre φ φ') {o : O} {h : HO} (r : OR K F φ o h) : OR K F' φ' o h := by
  cases o with
  | dead => exact r
  | lst ds => obtain ⟨vs, q, r⟩ := r; exact ⟨vs, q, r.mono e p⟩
  | dct ds => obtain ⟨vs, q, r⟩ := r; exact ⟨vs, q, r.mono e p⟩
  | ins c ds => obtain ⟨dx, vs, q, r⟩ := r; exact ⟨dx, vs, q, r.mono e p⟩
end

structure Rep (K : PySem.W.Frag) (F : Hp) (φ : List Addr) (m : Mem) (H : Hp) : Prop where
  len : φ.length = m.length
  ex : Evl.Ex F H
  cell : ∀ (i : Nat) (o : O) (a : Addr), m[i]? = some o → o ≠ O.dead → φ[i]? = some a → F a = none ∧ ∃ h, H a = some h ∧ OR K F φ o h
  inj : ∀ (i j : Nat) (o o' : O) (a : Addr), m[i]? = some o → o ≠ O.dead → m[j]? = some o' → o' ≠ O.dead → φ[i]? = some a → φ[j]? = some a → i = j
structure Nxt (K : PySem.W.Frag) (F : Hp) (φ : List Addr) (m : Mem) (H : Hp) (F' : Hp) (φ' : List Addr) (m' : Mem) (H' : Hp) : Prop where
  exF : Evl.Ex F F'
  pre : Pre φ φ'
  rep : Rep K F' φ' m' H'
  keep : ∀ a o, H a = some o → ¬ Live φ m a → H' a = some o ∧ ¬ Live φ' m' a ∧ F' a = F a
section
variable {K : PySem.W.Frag} {F F1 F2 : Hp} {φ φ1 φ2 : List Addr} {m m1 m2 : Mem} {H H1 H2 : Hp}
theorem Nxt.refl (r : Rep K F φ m H) : Nxt K F φ m H F φ m H := ⟨Evl.Ex.refl _, Pre.refl _, r, fun a o h n => ⟨h, n, rfl⟩⟩
theorem Nxt.trans (a : Nxt K F φ m H F1 φ1 m1 H1) (b : Nxt K F1 φ1 m1 H1 F2 φ2 m2 H2) : Nxt K F φ m H F2 φ2 m2 H2 :=
  ⟨a.exF.trans b.exF, a.pre.trans b.pre, b.rep, fun x o h n => by
    obtain ⟨h1, n1, e1⟩ := a.keep x o h n
    obtain ⟨h2, n2, e2⟩ := b.keep x o h1 n1
    exact ⟨h2, n2, e2.trans e1⟩⟩
theorem Rep.live_some (r : Rep K F φ m H) {a : Addr} (h : Live φ m a) : ∃ o, H a = some o := by
  obtain ⟨i, o, h1, h2, h3⟩ := h
  obtain ⟨_, x, e, _⟩ := r.cell i o a h1 h2 h3
  exact ⟨x, e⟩
/-- a new object that never changes -/
theorem Rep.frozen (r : Rep K F φ m H) {p : Addr} {o : HO} (hp : H p = none) : Nxt K F φ m H (upd F p o) φ m (upd H p o) := by
  have hF : F p = none := by
    cases e : F p with
    | none => rfl
    | some x => rw [r.ex p x e] at hp; cases hp
  have nl : ∀ (i : Nat) (o : O) (a : Addr), m[i]? = some o → o ≠ O.dead → φ[i]? = some a → a ≠ p := fun i o a h1 h2 h3 e => by
    subst e
    obtain ⟨_, x, e, _⟩ := r.cell i o a h1 h2 h3
    rw [hp] at e; cases e
  refine ⟨Evl.Ex.new hF, Pre.refl _, ⟨r.len, fun a x h => ?_, fun i o' a h1 h2 h3 => ?_, r.inj⟩, fun a x h n => ?_⟩
  · by_cases e : a = p
    · subst e; rw [upd_same] at h ⊢; exact h
    · rw [upd_ne e] at h ⊢; exact r.ex a x h
  · obtain ⟨q1, x, q2, q3⟩ := r.cell i o' a h1 h2 h3
    have ne := nl i o' a h1 h2 h3
    exact ⟨by rw [upd_ne ne]; exact q1, x, by rw [upd_ne ne]; exact q2, q3.mono (Evl.Ex.new hF) (Pre.refl _)⟩
  · have ne : a ≠ p := fun e => by subst e; rw [hp] at h; cases h
    exact ⟨by rw [upd_ne ne]; exact h, n, by rw [upd_ne ne]⟩
/-- a new cell -/
theorem Rep.alloc (r : Rep K F φ m H) {p : Addr} {o : HO} {x : O} (hp : H p = none) (hx : x ≠ O.dead) (ho : OR K F φ x o) : Nxt K F φ m H F (φ ++ [p]) (m ++ [x]) (upd H p o) := by
  have hF : F p = none := by
    cases e : F p with
    | none => rfl
    | some x => rw [r.ex p x e] at hp; cases hp
  have nl : ∀ (i : Nat) (o : O) (a : Addr), m[i]? = some o → o ≠ O.dead → φ[i]? = some a → a ≠ p := fun i o a h1 h2 h3 e => by
    subst e
    obtain ⟨_, x, e, _⟩ := r.cell i o a h1 h2 h3
    rw [hp] at e; cases e
  have spl : ∀ (i : Nat) (y : O) (a : Addr), (m ++ [x])[i]? = some y → (φ ++ [p])[i]? = some a → (m[i]? = some y ∧ φ[i]? = some a) ∨ (i = m.length ∧ y = x ∧ a = p) := fun i y a h1 h2 => by
    by_cases hi : i < m.length
    · rw [List.getElem?_append_left hi] at h1
      rw [List.getElem?_append_left (by rw [r.len]; exact hi)] at h2
      exact .inl ⟨h1, h2⟩
    · have hb := (List.getElem?_eq_some_iff.mp h1).1
      rw [List.length_append] at hb
      have e : i = m.length := by simp at hb; omega
      subst e
      rw [List.getElem?_append_right (Nat.le_refl _)] at h1
      rw [← r.len, List.getElem?_append_right (Nat.le_refl _)] at h2
      simp at h1 h2
      exact .inr ⟨rfl, h1.symm, h2.symm⟩
  refine ⟨Evl.Ex.refl _, Pre.snoc _ _, ⟨by simp [r.len], fun a y h => ?_, fun i y a h1 h2 h3 => ?_, fun i j y y' a h1 h2 h3 h4 h5 h6 => ?_⟩, fun a y h n => ?_⟩
  · have ne : a ≠ p := fun e => by subst e; rw [hF] at h; cases h
    rw [upd_ne ne]; exact r.ex a y h
  · rcases spl i y a h1 h3 with ⟨g1, g3⟩ | ⟨e1, e2, e3⟩
    · obtain ⟨q1, z, q2, q3⟩ := r.cell i y a g1 h2 g3
      exact ⟨q1, z, by rw [upd_ne (nl i y a g1 h2 g3)]; exact q2, q3.mono (Evl.Ex.refl _) (Pre.snoc _ _)⟩
    · subst e2 e3
      exact ⟨hF, o, upd_same, ho.mono (Evl.Ex.refl _) (Pre.snoc _ _)⟩
  · rcases spl i y a h1 h5 with ⟨g1, g3⟩ | ⟨e1, e2, e3⟩ <;> rcases spl j y' a h3 h6 with ⟨g1', g3'⟩ | ⟨e1', e2', e3'⟩
    · exact r.inj i j y y' a g1 h2 g1' h4 g3 g3'
    · exact absurd e3' (nl i y a g1 h2 g3)
    · exact absurd e3 (nl j y' a g1' h4 g3')
    · rw [e1, e1']
  · have ne : a ≠ p := fun e => by subst e; rw [hp] at h; cases h
    refine ⟨by rw [upd_ne ne]; exact h, fun ⟨i, y, h1, h2, h3⟩ => ?_, rfl⟩
    rcases spl i y a h1 h3 with ⟨g1, g3⟩ | ⟨_, _, e3⟩
    · exact n ⟨i, y, g1, h2, g3⟩
    · exact ne e3
/-- a cell is written -/
theorem Rep.write (r : Rep K F φ m H) {i : Nat} {p : Addr} {x y : O} {o : HO} (hi : m[i]? = some x) (hx : x ≠ O.dead) (hp : φ[i]? = some p) (hy : y ≠ O.dead) (ho : OR K F φ y o) : Nxt K F φ m H F φ (m.set i y) (upd H p o) := by
  obtain ⟨hF, _⟩ := r.cell i x p hi hx hp
  have hil := (List.getElem?_eq_some_iff.mp hi).1
  have spl : ∀ (j : Nat) (z : O) (a : Addr), (m.set i y)[j]? = some z → z ≠ O.dead → φ[j]? = some a → (j = i ∧ z = y ∧ a = p) ∨ (j ≠ i ∧ m[j]? = some z ∧ a ≠ p) := fun j z a h1 h2 h3 => by
    by_cases e : j = i
    · subst e
      rw [List.getElem?_set_self hil] at h1
      rw [hp] at h3
      exact .inl ⟨rfl, (Option.some.inj h1).symm, (Option.some.inj h3).symm⟩
    · rw [List.getElem?_set_ne (Ne.symm e)] at h1
      refine .inr ⟨e, h1, fun q => e ?_⟩
      subst q
      exact r.inj j i z x a h1 h2 hi hx h3 hp
  refine ⟨Evl.Ex.refl _, Pre.refl _, ⟨by simp [r.len], fun a z h => ?_, fun j z a h1 h2 h3 => ?_, fun j k z z' a h1 h2 h3 h4 h5 h6 => ?_⟩, fun a z h n => ?_⟩
  · have ne : a ≠ p := fun e => by subst e; rw [hF] at h; cases h
    rw [upd_ne ne]; exact r.ex a z h
  · rcases spl j z a h1 h2 h3 with ⟨_, rfl, rfl⟩ | ⟨_, g1, ne⟩
    · exact ⟨hF, o, upd_same, ho⟩
    · obtain ⟨q1, w, q2, q3⟩ := r.cell j z a g1 h2 h3
      exact ⟨q1, w, by rw [upd_ne ne]; exact q2, q3⟩
  · rcases spl j z a h1 h2 h5 with ⟨e1, _, e3⟩ | ⟨_, g1, ne⟩ <;> rcases spl k z' a h3 h4 h6 with ⟨e1', _, e3'⟩ | ⟨_, g1', ne'⟩
    · rw [e1, e1']
    · exact absurd e3 ne'
    · exact absurd e3' ne
    · exact r.inj j k z z' a g1 h2 g1' h4 h5 h6
  · have ne : a ≠ p := fun e => by subst e; exact n ⟨i, x, hi, hx, hp⟩
    refine ⟨by rw [upd_ne ne]; exact h, fun ⟨j, z, h1, h2, h3⟩ => ?_, rfl⟩
    rcases spl j z a h1 h2 h3 with ⟨_, _, e3⟩ | ⟨_, g1, _⟩
    · exact ne e3
    · exact n ⟨j, z, g1, h2, h3⟩
/-- a list's cell is given up: from here on it is a value -/
theorem Rep.freeze (r : Rep K F φ m H) {i : Nat} {p : Addr} {ds : List D} (hi : m[i]? = some (.lst ds)) (hp : φ[i]? = some p) :
    ∃ vs, H p = some (.lst vs) ∧ VRs K F φ ds vs ∧ Nxt K F φ m H (upd F p (.lst vs)) φ (m.set i O.dead) H := by
  obtain ⟨hF, o, ho, vs, rfl, rv⟩ := r.cell i _ p hi (fun e => nomatch e) hp
  have hil := (List.getElem?_eq_some_iff.mp hi).1
  refine ⟨vs, ho, rv, Evl.Ex.new hF, Pre.refl _, ⟨by simp [r.len], fun a z h => ?_, fun j z a h1 h2 h3 => ?_, fun j k z z' a h1 h2 h3 h4 h5 h6 => ?_⟩, fun a z h n => ?_⟩
  · by_cases e : a = p
    · subst e; rw [upd_same] at h; rw [ho]; exact h
    · rw [upd_ne e] at h; exact r.ex a z h
  · have e : j ≠ i := fun e => by subst e; rw [List.getElem?_set_self hil] at h1; exact h2 (Option.some.inj h1).symm
    rw [List.getElem?_set_ne (Ne.symm e)] at h1
    have ne : a ≠ p := fun q => e (by subst q; exact r.inj j i z _ a h1 h2 hi (fun e => nomatch e) h3 hp)
    obtain ⟨q1, w, q2, q3⟩ := r.cell j z a h1 h2 h3
    exact ⟨by rw [upd_ne ne]; exact q1, w, q2, q3.mono (Evl.Ex.new hF) (Pre.refl _)⟩
  · have e : j ≠ i := fun e => by subst e; rw [List.getElem?_set_self hil] at h1; exact h2 (Option.some.inj h1).symm
    have e' : k ≠ i := fun e => by subst e; rw [List.getElem?_set_self hil] at h3; exact h4 (Option.some.inj h3).symm
    rw [List.getElem?_set_ne (Ne.symm e)] at h1
    rw [List.getElem?_set_ne (Ne.symm e')] at h3
    exact r.inj j k z z' a h1 h2 h3 h4 h5 h6
  · have ne : a ≠ p := fun e => by subst e; exact n ⟨i, _, hi, (fun e => nomatch e), hp⟩
    refine ⟨h, fun ⟨j, w, h1, h2, h3⟩ => ?_, by rw [upd_ne ne]⟩
    have e : j ≠ i := fun e => by subst e; rw [List.getElem?_set_self hil] at h1; exact h2 (Option.some.inj h1).symm
    rw [List.getElem?_set_ne (Ne.symm e)] at h1
    exact n ⟨j, w, h1, h2, h3⟩
end
end VI
end
section
namespace VI
open PySem PySem.Spec PyProof.Rows L2

abbrev EF := Env → Mem → Option (D × Mem)
abbrev AF := Env → Mem → Option (List D × Mem)
abbrev TF := Env → Mem → Option (Bool × Mem)
inductive Fl where
  | nx (ρ : Env) | rt (d : D) | bk (ρ : Env) | ct (ρ : Env)
abbrev BF := Env → Mem → Option (Fl × Mem)
abbrev GF := D → Env → Mem → Option (Env × Mem)
abbrev GFs := List D → Env → Mem → Option (Env × Mem)
abbrev FD := List D → Mem → Option (D × Mem)

def wipeD (ρ : Env) : List Nat → Env
  | [] => ρ
  | i :: is => (wipeD ρ is).set i none
structure EnvR (K : PySem.W.Frag) (F : Hp) (φ : List Addr) (ρ : Env) (σ : L2.St) : Prop where
  len : ρ.length = σ.length
  at_ : ∀ (i : Nat) (d : D), ρ[i]? = some (some d) → ∃ v, σ[i]? = some (some v) ∧ VR K F φ d v
section
variable {K : PySem.W.Frag} {F F' : Hp} {φ φ' : List Addr} {ρ : Env} {σ : L2.St}
theorem EnvR.mono (e : Evl.Ex F F') (p : Pre φ φ') (r : EnvR K F φ ρ σ) : EnvR K F' φ' ρ σ := ⟨r.len, fun i d h => by
  obtain ⟨v, h1, h2⟩ := r.at_ i d h
  exact ⟨v, h1, h2.mono e p⟩⟩
theorem EnvR.set (r : EnvR K F φ ρ σ) (i : Nat) {d : D} {v : V} (h : VR K F φ d v) : EnvR K F φ (ρ.set i (some d)) (σ.set i (some v)) := by
  refine ⟨by simp [r.len], fun j e q => ?_⟩
  by_cases hj : j = i
  · subst hj
    have hb : j < ρ.length := by
      have := (List.getElem?_eq_some_iff.mp q).1
      simpa using this
    rw [List.getElem?_set_self hb] at q
    have q2 : d = e := by injection (Option.some.inj q)
    subst q2
    exact ⟨v, by rw [List.getElem?_set_self (by rw [← r.len]; exact hb)], h⟩
  · rw [List.getElem?_set_ne (Ne.symm hj)] at q ⊢
    exact r.at_ j e q
theorem EnvR.wipe (r : EnvR K F φ ρ σ) : ∀ vs : List Nat, EnvR K F φ (wipeD ρ vs) (L2.wipe σ vs)
  | [] => r
  | v :: vs => by
    have ih := EnvR.wipe r vs
    unfold wipeD L2.wipe
    refine ⟨by simp [ih.len], fun i d h => ?_⟩
    by_cases e : i = v
    · subst e
      have hb := (List.getElem?_eq_some_iff.mp h).1
      rw [List.getElem?_set_self (by simpa using hb)] at h
      cases h
    · rw [List.getElem?_set_ne (Ne.symm e)] at h ⊢
      exact ih.at_ i d h
theorem EnvR.begin {ds : List D} {vs : List V} {N : List Str} {n : Nat} (hN : N.length = n) (h : VRs K F φ ds vs) : EnvR K F φ (ds.map some ++ List.replicate (n - ds.length) none) (L2.start N vs) := by
  subst hN
  unfold L2.start
  refine ⟨by simp [h.len], fun i d e => ?_⟩
  by_cases hi : i < ds.length
  · rw [List.getElem?_append_left (by simpa using hi), List.getElem?_map] at e
    cases q : ds[i]? with
    | none => rw [q] at e; cases e
    | some d' =>
      rw [q] at e
      have e2 : d' = d := by injection (Option.some.inj e)
      subst e2
      obtain ⟨v, h1, h2⟩ := h.get q
      exact ⟨v, by rw [List.getElem?_append_left (by simp; rw [← h.len]; exact hi), List.getElem?_map, h1]; rfl, h2⟩
  · rw [List.getElem?_append_right (by simpa using hi), List.getElem?_replicate] at e
    split at e <;> cases e
end

/-! ### what is wanted, as the weakest readings -/
section
variable (X : Cx)
def WE (e : Expr) : TE := fun σ H Q => ∀ pins s, Inv X pins σ H s → wpAny (model X.prog X.w) X.A (eval e X.env) (EP X pins σ Q) X.xe s
def WT (e : Expr) : TT := fun σ H Q => ∀ pins s, Inv X pins σ H s → wpAny (model X.prog X.w) X.A (isTrue e X.env (eval e X.env)) (TP X pins σ Q) X.xe s
def WW (e : Expr) : TT := fun σ H Q => ∀ (whole : Sem Value) pins s, Inv X pins σ H s → wpAny (model X.prog X.w) X.A (isTrue e X.env whole) (TP X pins σ Q) X.xe s
def WA (es : List Expr) : TA := fun σ H Q => ∀ (pos : Pos) pins s, Inv X pins σ H s → wpAny (model X.prog X.w) X.A (spliced (backTo pos (starEach es X.env))) (AP X pins σ Q) X.xe s
def WS (st : Stmt) : TS := fun D σ H => ∀ pins s, Inv X pins σ H s → wpAny (model X.prog X.w) X.A (exec st X.env) (SP X pins D) X.xe s
def WB (st : List Stmt) : TS := fun D σ H => ∀ pins s, Inv X pins σ H s → wpAny (model X.prog X.w) X.A (execs st X.env) (SP X pins D) X.xe s
def WG (tg : Expr) : TG := fun v σ H Q => ∀ pins s u, Inv X pins σ H s → RelV v u → wpAny (model X.prog X.w) X.A (assign tg X.env u) (fun _ s' => ∃ σ' H', Inv X pins σ' H' s' ∧ Q σ' H') X.xe s
def WGs (ts : List Expr) : TGs := fun vs σ H Q => ∀ pins s us, Inv X pins σ H s → Vals vs us → wpAny (model X.prog X.w) X.A (assignInOrder ((assignEach ts X.env).map (·.2)) us) (fun _ s' => ∃ σ' H', Inv X pins σ' H' s' ∧ Q σ' H') X.xe s
def WI (tg iter : Expr) : TI := fun σ H R => ∀ pins s, Inv X pins σ H s → wpAny (model X.prog X.w) X.A (eval iter X.env) (fun v s1 => wpAny (model X.prog X.w) X.A (pyIter v) (PIE X pins σ tg R) X.xe s1) X.xe s
end
section
variable {X : Cx} {e tg : Expr} {es : List Expr} {st : Stmt} {sts : List Stmt}
theorem pe_w : PE X e (WE X e) := ⟨fun pins s σ H Q I h => h pins s I⟩
theorem pt_w : PT X e (WT X e) := ⟨fun pins s σ H Q I h => h pins s I⟩
theorem pw_w : PW X e (WW X e) := ⟨fun w pins s σ H Q I h => h w pins s I⟩
theorem pa_w : PA X es (WA X es) := ⟨fun pos pins s σ H Q I h => h pos pins s I⟩
theorem ps_w : PS X st (WS X st) := ⟨fun pins s σ H D I h => h pins s I⟩
theorem pss_w : PSs X sts (WB X sts) := ⟨fun pins s σ H D I h => h pins s I⟩
theorem pg_w : PG X tg (WG X tg) := ⟨fun pins s σ H v u Q I r h => h pins s u I r⟩
theorem pgs_w : PGs X es (WGs X es) := ⟨fun pins s σ H v u Q I r h => h pins s u I r⟩
theorem pi_w : PI X tg e (WI X tg e) := ⟨fun pins s σ H R I h => h pins s I⟩
theorem we_of {t : TE} (h : PE X e t) {σ H Q} (q : t σ H Q) : WE X e σ H Q := fun pins s I => h.run pins s σ H Q I q
theorem wt_of {t : TT} (h : PT X e t) {σ H Q} (q : t σ H Q) : WT X e σ H Q := fun pins s I => h.run pins s σ H Q I q
theorem ww_of {t : TT} (h : PW X e t) {σ H Q} (q : t σ H Q) : WW X e σ H Q := fun w pins s I => h.run w pins s σ H Q I q
theorem wa_of {t : TA} (h : PA X es t) {σ H Q} (q : t σ H Q) : WA X es σ H Q := fun pos pins s I => h.run pos pins s σ H Q I q
theorem ws_of {t : TS} (h : PS X st t) {σ H D} (q : t D σ H) : WS X st D σ H := fun pins s I => h.run pins s σ H D I q
theorem wb_of {t : TS} (h : PSs X sts t) {σ H D} (q : t D σ H) : WB X sts D σ H := fun pins s I => h.run pins s σ H D I q
theorem wg_of {t : TG} (h : PG X tg t) {v σ H Q} (q : t v σ H Q) : WG X tg v σ H Q := fun pins s u I r => h.run pins s σ H v u Q I r q
theorem wgs_of {t : TGs} (h : PGs X es t) {v σ H Q} (q : t v σ H Q) : WGs X es v σ H Q := fun pins s u I r => h.run pins s σ H v u Q I r q
theorem wi_of {t : TI} (h : PI X tg e t) {σ H Q} (q : t σ H Q) : WI X tg e σ H Q := fun pins s I => h.run pins s σ H Q I q
end

/-! ### the judgements -/
/-- J walks ds -/
structure ItD (K : PySem.W.Frag) (F : Hp) (φ : List Addr) (J : It) (ds : List D) : Prop where
  go : ∀ (i : Nat) (H : Hp), Evl.Ex F H → i < ds.length → J.go i H
  yld : ∀ (i : Nat) (F1 : Hp) (φ1 : List Addr) (m1 : Mem) (H : Hp) (x : V) (H' : Hp) (d : D), Rep K F1 φ1 m1 H → Evl.Ex F F1 → Pre φ φ1 → ds[i]? = some d → J.yld i H x H' → ∃ F2, Nxt K F1 φ1 m1 H F2 φ1 m1 H' ∧ VR K F2 φ1 d x
  stop : ∀ (i : Nat) (H : Hp), Evl.Ex F H → ds.length ≤ i → J.stop i H
structure JE (X : Cx) (e : Expr) (f : EF) : Prop where
  run : ∀ {F φ m H ρ σ d m'}, Rep X.K F φ m H → EnvR X.K F φ ρ σ → f ρ m = some (d, m') → ∀ Q : VK, (∀ F' φ' v H', Nxt X.K F φ m H F' φ' m' H' → VR X.K F' φ' d v → Q v H') → WE X e σ H Q
structure JT (X : Cx) (e : Expr) (f : TF) : Prop where
  run : ∀ {F φ m H ρ σ b m'}, Rep X.K F φ m H → EnvR X.K F φ ρ σ → f ρ m = some (b, m') → ∀ Q : Bool → Hp → Prop, (∀ F' φ' H', Nxt X.K F φ m H F' φ' m' H' → Q b H') → WT X e σ H Q
structure JW (X : Cx) (e : Expr) (f : TF) : Prop where
  run : ∀ {F φ m H ρ σ b m'}, Rep X.K F φ m H → EnvR X.K F φ ρ σ → f ρ m = some (b, m') → ∀ Q : Bool → Hp → Prop, (∀ F' φ' H', Nxt X.K F φ m H F' φ' m' H' → Q b H') → WW X e σ H Q
structure JA (X : Cx) (es : List Expr) (f : AF) : Prop where
  run : ∀ {F φ m H ρ σ ds m'}, Rep X.K F φ m H → EnvR X.K F φ ρ σ → f ρ m = some (ds, m') → ∀ Q : List V → Hp → Prop, (∀ F' φ' vs H', Nxt X.K F φ m H F' φ' m' H' → VRs X.K F' φ' ds vs → Q vs H') → WA X es σ H Q
def FlOk (K : PySem.W.Frag) (F : Hp) (φ : List Addr) (m : Mem) (H : Hp) (m' : Mem) (D : Ends) : Fl → Prop
  | .nx ρ' => ∀ F' φ' σ' H', Nxt K F φ m H F' φ' m' H' → EnvR K F' φ' ρ' σ' → D.nx σ' H'
  | .bk ρ' => ∀ F' φ' σ' H', Nxt K F φ m H F' φ' m' H' → EnvR K F' φ' ρ' σ' → D.bk σ' H'
  | .ct ρ' => ∀ F' φ' σ' H', Nxt K F φ m H F' φ' m' H' → EnvR K F' φ' ρ' σ' → D.ct σ' H'
  | .rt d => ∀ F' φ' v H', Nxt K F φ m H F' φ' m' H' → VR K F' φ' d v → D.rt v H'
structure JS (X : Cx) (st : Stmt) (f : BF) : Prop where
  run : ∀ {F φ m H ρ σ r m'}, Rep X.K F φ m H → EnvR X.K F φ ρ σ → f ρ m = some (r, m') → ∀ D : Ends, FlOk X.K F φ m H m' D r → WS X st D σ H
structure JB (X : Cx) (sts : List Stmt) (f : BF) : Prop where
  run : ∀ {F φ m H ρ σ r m'}, Rep X.K F φ m H → EnvR X.K F φ ρ σ → f ρ m = some (r, m') → ∀ D : Ends, FlOk X.K F φ m H m' D r → WB X sts D σ H
/-- σ' is σ but for the slots ws -/
structure But (ws : List Nat) (σ σ' : L2.St) : Prop where
  len : σ'.length = σ.length
  at_ : ∀ i : Nat, i ∉ ws → σ'[i]? = σ[i]?
theorem But.refl (ws : List Nat) (σ : L2.St) : But ws σ σ := ⟨rfl, fun _ _ => rfl⟩
theorem But.trans {ws us : List Nat} {σ σ1 σ2 : L2.St} (a : But ws σ σ1) (b : But us σ1 σ2) : But (ws ++ us) σ σ2 := ⟨b.len.trans a.len, fun i h => (b.at_ i fun z => h (List.mem_append_right _ z)).trans (a.at_ i fun z => h (List.mem_append_left _ z))⟩
structure JG (X : Cx) (tg : Expr) (g : GF) (ws : List Nat) : Prop where
  run : ∀ {F φ m H ρ σ d v ρ' m'}, Rep X.K F φ m H → EnvR X.K F φ ρ σ → VR X.K F φ d v → g d ρ m = some (ρ', m') → ∀ Q : L2.St → Hp → Prop, (∀ F' φ' σ' H', Nxt X.K F φ m H F' φ' m' H' → EnvR X.K F' φ' ρ' σ' → But ws σ σ' → Q σ' H') → WG X tg v σ H Q
structure JGs (X : Cx) (ts : List Expr) (g : GFs) (ws : List Nat) : Prop where
  run : ∀ {F φ m H ρ σ ds vs ρ' m'}, Rep X.K F φ m H → EnvR X.K F φ ρ σ → VRs X.K F φ ds vs → g ds ρ m = some (ρ', m') → ∀ Q : L2.St → Hp → Prop, (∀ F' φ' σ' H', Nxt X.K F φ m H F' φ' m' H' → EnvR X.K F' φ' ρ' σ' → But ws σ σ' → Q σ' H') → WGs X ts vs σ H Q
structure JI (X : Cx) (tg iter : Expr) (f : AF) : Prop where
  run : ∀ {F φ m H ρ σ ds m'}, Rep X.K F φ m H → EnvR X.K F φ ρ σ → f ρ m = some (ds, m') → ∀ R : It → Hp → Prop, (∀ F' φ' J H', Nxt X.K F φ m H F' φ' m' H' → ItD X.K F' φ' J ds → R J H') → WI X tg iter σ H R
/-- operators by values: the memory is read, not changed -/
def OD (X : Cx) (op : Value → Value → Sem Value) (r : Mem → D → D → Option D) : Prop :=
  ∀ {F φ m H x y d vx vy}, Rep X.K F φ m H → VR X.K F φ x vx → VR X.K F φ y vy → r m x y = some d → ∀ Q : VK, (∀ F' φ' v H', Nxt X.K F φ m H F' φ' m H' → VR X.K F' φ' d v → Q v H') → ∃ rr, OpR X op rr ∧ rr vx vy H Q
def UD (X : Cx) (op : Value → Sem Value) (r : Mem → D → Option D) : Prop :=
  ∀ {F φ m H x d vx}, Rep X.K F φ m H → VR X.K F φ x vx → r m x = some d → ∀ Q : VK, (∀ F' φ' v H', Nxt X.K F φ m H F' φ' m H' → VR X.K F' φ' d v → Q v H') → ∃ rr, UnR X op rr ∧ rr vx H Q
/-- built-in calls, methods: the memory may be changed -/
def CD (X : Cx) (f : Value) (r : List D → Mem → Option (D × Mem)) : Prop :=
  ∀ {F φ m H ds d m' vs}, Rep X.K F φ m H → VRs X.K F φ ds vs → r ds m = some (d, m') → ∀ Q : VK, (∀ F' φ' v H', Nxt X.K F φ m H F' φ' m' H' → VR X.K F' φ' d v → Q v H') → ∃ rr, CallR X f rr ∧ rr vs H Q
def MD (X : Cx) (T id : String) (r : D → List D → Mem → Option (D × Mem)) : Prop :=
  ∀ {F φ m H x ds d m' vx vs}, Rep X.K F φ m H → VR X.K F φ x vx → VRs X.K F φ ds vs → r x ds m = some (d, m') → ∀ Q : VK, (∀ F' φ' v H', Nxt X.K F φ m H F' φ' m' H' → VR X.K F' φ' d v → Q v H') → ∃ rr, MtR X id rr ∧ rr vx vs H Q

/-! ### the combinators -/
def eVar (i : Nat) : EF := fun ρ m => match ρ[i]? with | some (some d) => some (d, m) | _ => none
def eC (d : D) : EF := fun _ m => some (d, m)
def eOp (r : Mem → D → D → Option D) (a b : EF) : EF := fun ρ m => match a ρ m with
  | some (x, m1) => match b ρ m1 with
    | some (y, m2) => match r m2 x y with
      | some d => some (d, m2)
      | none => none
    | none => none
  | none => none
def eUn (r : Mem → D → Option D) (a : EF) : EF := fun ρ m => match a ρ m with
  | some (x, m1) => match r m1 x with
    | some d => some (d, m1)
    | none => none
  | none => none
def eNot (a : EF) : EF := fun ρ m => match a ρ m with
  | some (.bl b, m1) => some (.bl (!b), m1)
  | _ => none
def eAnd (a b : EF) : EF := fun ρ m => match a ρ m with
  | some (.bl true, m1) => b ρ m1
  | some (.bl false, m1) => some (.bl false, m1)
  | _ => none
def eOr (a b : EF) : EF := fun ρ m => match a ρ m with
  | some (.bl false, m1) => b ρ m1
  | some (.bl true, m1) => some (.bl true, m1)
  | _ => none
def eIf (c : TF) (a b : EF) : EF := fun ρ m => match c ρ m with
  | some (true, m1) => a ρ m1
  | some (false, m1) => b ρ m1
  | none => none
def eChain (r r' : Mem → D → D → Option D) (a b c : EF) : EF := fun ρ m => match a ρ m with
  | some (x, m1) => match b ρ m1 with
    | some (y, m2) => match r m2 x y with
      | some (.bl true) => match c ρ m2 with
        | some (z, m3) => match r' m3 y z with
          | some d => some (d, m3)
          | none => none
        | none => none
      | some (.bl false) => some (.bl false, m2)
      | _ => none
    | none => none
  | none => none
def aNil : AF := fun _ m => some ([], m)
def aCons (a : EF) (r : AF) : AF := fun ρ m => match a ρ m with
  | some (x, m1) => match r ρ m1 with
    | some (xs, m2) => some (x :: xs, m2)
    | none => none
  | none => none
def eTup (a : AF) : EF := fun ρ m => match a ρ m with
  | some (xs, m1) => some (.tup xs, m1)
  | none => none
def eLst (a : AF) : EF := fun ρ m => match a ρ m with
  | some (xs, m1) => some (.lst xs, m1)
  | none => none
def eCel (a : AF) : EF := fun ρ m => match a ρ m with
  | some (xs, m1) => some (.cell m1.length, m1 ++ [.lst xs])
  | none => none
def eFrz (a : EF) : EF := fun ρ m => match a ρ m with
  | some (.cell i, m1) => match m1[i]? with
    | some (.lst ds) => some (.lst ds, m1.set i .dead)
    | _ => none
  | _ => none
/-- a value list becomes a cell? no: only a new one may. a call -/
def eCall (g : FD) (a : AF) : EF := fun ρ m => match a ρ m with
  | some (xs, m1) => g xs m1
  | none => none
def eMth (r : D → List D → Mem → Option (D × Mem)) (o : EF) (a : AF) : EF := fun ρ m => match o ρ m with
  | some (x, m1) => match a ρ m1 with
    | some (xs, m2) => r x xs m2
    | none => none
  | none => none
def tV (a : EF) : TF := fun ρ m => match a ρ m with
  | some (.bl b, m1) => some (b, m1)
  | _ => none
def tNot (a : TF) : TF := fun ρ m => match a ρ m with
  | some (b, m1) => some (!b, m1)
  | none => none
def tAnd (a b : TF) : TF := fun ρ m => match a ρ m with
  | some (true, m1) => b ρ m1
  | some (false, m1) => some (false, m1)
  | none => none
def tOr (a b : TF) : TF := fun ρ m => match a ρ m with
  | some (false, m1) => b ρ m1
  | some (true, m1) => some (true, m1)
  | none => none
def bNil : BF := fun ρ m => some (.nx ρ, m)
def bSeq (a b : BF) : BF := fun ρ m => match a ρ m with
  | some (.nx ρ1, m1) => b ρ1 m1
  | some (r, m1) => some (r, m1)
  | none => none
def bDrop (e : EF) : BF := fun ρ m => match e ρ m with
  | some (_, m1) => some (.nx ρ, m1)
  | none => none
def bRet (e : EF) : BF := fun ρ m => match e ρ m with
  | some (d, m1) => some (.rt d, m1)
  | none => none
def bIf (c : TF) (a b : BF) : BF := fun ρ m => match c ρ m with
  | some (true, m1) => a ρ m1
  | some (false, m1) => b ρ m1
  | none => none
def bSet (g : GF) (e : EF) : BF := fun ρ m => match e ρ m with
  | some (d, m1) => match g d ρ m1 with
    | some (ρ1, m2) => some (.nx ρ1, m2)
    | none => none
  | none => none
def gName (i : Nat) : GF := fun d ρ m => some (ρ.set i (some d), m)
def gNil : GFs := fun ds ρ m => match ds with | [] => some (ρ, m) | _ => none
def gCons (g : GF) (r : GFs) : GFs := fun ds ρ m => match ds with
  | d :: ds => match g d ρ m with
    | some (ρ1, m1) => r ds ρ1 m1
    | none => none
  | [] => none
def gTup (n : Nat) (g : GFs) : GF := fun d ρ m => match d with
  | .tup ds => if ds.length = n then g ds ρ m else none
  | _ => none
def gLst (n : Nat) (g : GFs) : GF := fun d ρ m => match d with
  | .lst ds => if ds.length = n then g ds ρ m else none
  | .cell i => match m[i]? with
    | some (.lst ds) => if ds.length = n then g ds ρ m else none
    | _ => none
  | _ => none
def bAug (i : Nat) (r : Mem → D → D → Option D) (e : EF) : BF := fun ρ m => match ρ[i]? with
  | some (some x) => match e ρ m with
    | some (y, m1) => match r m1 x y with
      | some d => some (.nx (ρ.set i (some d)), m1)
      | none => none
    | none => none
  | _ => none
def forV (g : GF) (b : BF) : List D → BF
  | [], ρ, m => some (.nx ρ, m)
  | d :: ds, ρ, m => match g d ρ m with
    | some (ρ1, m1) => match b ρ1 m1 with
      | some (.nx ρ2, m2) => forV g b ds ρ2 m2
      | some (.ct ρ2, m2) => forV g b ds ρ2 m2
      | some (.bk ρ2, m2) => some (.nx ρ2, m2)
      | some (.rt d, m2) => some (.rt d, m2)
      | none => none
    | none => none
def bFor (it : AF) (g : GF) (b : BF) : BF := fun ρ m => match it ρ m with
  | some (ds, m1) => forV g b ds ρ m1
  | none => none
def whileV (c : TF) (b : BF) : Nat → BF
  | 0, _, _ => none
  | n + 1, ρ, m => match c ρ m with
    | some (true, m1) => match b ρ m1 with
      | some (.nx ρ2, m2) => whileV c b n ρ2 m2
      | some (.ct ρ2, m2) => whileV c b n ρ2 m2
      | some (.bk ρ2, m2) => some (.nx ρ2, m2)
      | some (.rt d, m2) => some (.rt d, m2)
      | none => none
    | some (false, m1) => some (.nx ρ, m1)
    | none => none
def tYes : TF := fun _ m => some (true, m)
def compV (own : List Nat) (g : GF) (c : TF) (e : EF) (ρ : Env) : List D → List D → Mem → Option (List D × Mem)
  | [], acc, m => some (acc, m)
  | d :: ds, acc, m => match g d (wipeD ρ own) m with
    | some (ρ1, m1) => match c ρ1 m1 with
      | some (true, m2) => match e ρ1 m2 with
        | some (y, m3) => compV own g c e ρ ds (acc ++ [y]) m3
        | none => none
      | some (false, m2) => compV own g c e ρ ds acc m2
      | none => none
    | none => none
def aComp (own : List Nat) (it : AF) (g : GF) (c : TF) (e : EF) : AF := fun ρ m => match it ρ m with
  | some (ds, m1) => if ds.length ≤ 16777215 then compV own g c e ρ ds [] m1 else none
  | none => none
def eComp (own : List Nat) (it : AF) (g : GF) (c : TF) (e : EF) : EF := eLst (aComp own it g c e)
end VI
end
section
namespace VI
open PySem PySem.Spec PyProof.Rows L2
section
variable {X : Cx} {a b c e : Expr} {es : List Expr} {pos : Pos} {fa fb fc fe : EF}

/-! ### the weakest by-value rules -/
theorem opr_w {op : Value → Value → Sem Value} : OpR X op (fun x y H Q => ∃ rr, OpR X op rr ∧ rr x y H Q) := fun pins s σ H x y v u Q I rx ry ⟨_, h, q⟩ => h pins s σ H x y v u Q I rx ry q
theorem unr_w {op : Value → Sem Value} : UnR X op (fun x H Q => ∃ rr, UnR X op rr ∧ rr x H Q) := fun pins s σ H x v Q I rx ⟨_, h, q⟩ => h pins s σ H x v Q I rx q
theorem callr_w {f : Value} : CallR X f (fun xs H Q => ∃ rr, CallR X f rr ∧ rr xs H Q) := fun pins s σ H xs us Q I r ⟨_, h, q⟩ => h pins s σ H xs us Q I r q
theorem mtr_w {id : String} : MtR X id (fun x xs H Q => ∃ rr, MtR X id rr ∧ rr x xs H Q) := fun pins s σ H x xs v us Q I rx r ⟨_, h, q⟩ => h pins s σ H x xs v us Q I rx r q
theorem ixr_w : IxR X (fun x y H Q => ∃ rr, IxR X rr ∧ rr x y H Q) := fun va sl pins s σ H x y v u Q I rx ry ⟨_, h, q⟩ hs => h va sl pins s σ H x y v u Q I rx ry q hs
theorem slr_w : SlR X (fun x lo hi H Q => ∃ rr, SlR X rr ∧ rr x lo hi H Q) := fun pins s σ H x v vl vu lo hi sl Q I rx h1 h2 h3 ⟨_, h, q⟩ => h pins s σ H x v vl vu lo hi sl Q I rx h1 h2 h3 q
theorem trur_w : TruR X (fun x H Q => ∃ rr, TruR X rr ∧ rr x H Q) := fun pins s σ H x v Q I rx ⟨_, h, q⟩ => h pins s σ H x v Q I rx q

/-! ### names, constants -/
theorem j_var (i : Nat) {x : Str} (hN : X.N[i]? = some x := by rfl) (hv : Vis X.env.scope x := by first | exact Or.inl rfl | exact Or.inr (Or.inl rfl) | exact Or.inr (Or.inr rfl)) (hd : (x == ("__debug__" : Str)) = false := by decide)
    (hcd : (x == ("__classdict__" : Str)) = false := by decide) : JE X (.Name x pos) (eVar i) := ⟨fun {F φ m H ρ σ d m'} rp er hf Q q => by
  unfold eVar at hf
  split at hf
  · rename_i d' h1
    cases hf
    obtain ⟨v, h2, h3⟩ := er.at_ i _ h1
    exact we_of (pv i hN hv hd hcd) ⟨v, h2, q _ _ _ _ (Nxt.refl rp) h3⟩
  · cases hf⟩
theorem j_int {i j} : JE X (.Constant (.int i) j pos) (eC (.int i)) := ⟨fun rp er hf Q q => by
  cases hf
  exact we_of pe_int (q _ _ _ _ (Nxt.refl rp) (.int i))⟩
theorem j_bl {b j} : JE X (.Constant (.bool b) j pos) (eC (.bl b)) := ⟨fun rp er hf Q q => by
  cases hf
  exact we_of pe_bl (q _ _ _ _ (Nxt.refl rp) (.bl b))⟩
theorem j_non {j} : JE X (.Constant .none j pos) (eC .non) := ⟨fun rp er hf Q q => by
  cases hf
  exact we_of pe_non (q _ _ _ _ (Nxt.refl rp) .non)⟩
theorem j_str {x : Str} {j} (l : List Nat) (h : x.cps.toList = l := by decide +kernel) : JE X (.Constant (.str x) j pos) (eC (.str l)) := ⟨fun rp er hf Q q => by
  cases hf
  subst h
  have e : (V.str x) = V.str (S x.cps.toList) := by rw [S_mk]
  refine we_of pe_str (q _ _ _ _ (Nxt.refl rp) ?_)
  rw [e]
  exact .str _⟩
/-- a module's constant -/
def GlobD (K : PySem.W.Frag) (mg : Str → Option Value) (x : Str) (d : D) : Prop := ∃ u v, mg x = some u ∧ RelV v u ∧ ∀ F φ, VR K F φ d v
theorem j_glob {x : Str} {d : D} (g : GlobD X.K X.mg x d) (hg : Gl X x := by rfl) (hd : (x == ("__debug__" : Str)) = false := by decide) : JE X (.Name x pos) (eC d) := ⟨fun rp er hf Q q => by
  cases hf
  obtain ⟨u, v, h1, h2, h3⟩ := g
  exact we_of (pe_glob hg h1 h2 hd) (q _ _ _ _ (Nxt.refl rp) (h3 _ _))⟩

/-! ### operators -/
theorem two {F φ m H ρ σ d m'} {r : Mem → D → D → Option D} (ha : JE X a fa) (hb : JE X b fb) (rp : Rep X.K F φ m H) (er : EnvR X.K F φ ρ σ) (hf : eOp r fa fb ρ m = some (d, m')) {Q : VK} {W : V → V → Hp → Prop}
    (h : ∀ F2 φ2 H2 x y vx vy, Nxt X.K F φ m H F2 φ2 m' H2 → VR X.K F2 φ2 x vx → VR X.K F2 φ2 y vy → r m' x y = some d → W vx vy H2) : WE X a σ H fun x H1 => WE X b σ H1 fun y H2 => W x y H2 := by
  unfold eOp at hf
  split at hf
  · rename_i x m1 h1
    split at hf
    · rename_i y m2 h2
      split at hf
      · rename_i d' h3
        cases hf
        refine ha.run rp er h1 _ fun F1 φ1 vx H1 n1 r1 => ?_
        refine hb.run n1.rep (er.mono n1.exF n1.pre) h2 _ fun F2 φ2 vy H2 n2 r2 => ?_
        exact h F2 φ2 H2 x y vx vy (n1.trans n2) (r1.mono n2.exF n2.pre) r2 h3
      · cases hf
    · cases hf
  · cases hf
theorem j_op {op : Operator} {r : Mem → D → D → Option D} (ho : OD X (binaryOp op) r) (ha : JE X a fa) (hb : JE X b fb) : JE X (.BinOp a op b pos) (eOp r fa fb) := ⟨fun rp er hf Q q => by
  refine we_of (pe_op opr_w pe_w pe_w) ?_
  exact two (Q := Q) ha hb rp er hf fun F2 φ2 H2 x y vx vy n rx ry h => ho n.rep rx ry h Q fun F' φ' v H' n' r' => q _ _ _ _ (n.trans n') r'⟩
theorem j_cmp {op : CmpOp} {r : Mem → D → D → Option D} (ho : OD X (compareOp op) r) (ha : JE X a fa) (hb : JE X b fb) (hm : behindInMarks op b = false := by first | rfl | exact nomark _) : JE X (.Compare a [op] [b] pos) (eOp r fa fb) := ⟨fun rp er hf Q q => by
  refine we_of (pe_cmpR opr_w pe_w pe_w hm) ?_
  exact two (Q := Q) ha hb rp er hf fun F2 φ2 H2 x y vx vy n rx ry h => ho n.rep rx ry h Q fun F' φ' v H' n' r' => q _ _ _ _ (n.trans n') r'⟩
theorem jt_cmp {op : CmpOp} {r : Mem → D → D → Option D} (ho : OD X (compareOp op) r) (ha : JE X a fa) (hb : JE X b fb) (hm : behindInMarks op b = false := by first | rfl | exact nomark _) : JT X (.Compare a [op] [b] pos) (tV (eOp r fa fb)) := ⟨fun {F φ m H ρ σ bb m'} rp er hf Q q => by
  refine wt_of (pt_cmpR opr_w pe_w pe_w hm) ?_
  unfold tV at hf
  split at hf
  · rename_i b' m1 h1
    cases hf
    refine two (Q := fun _ _ => True) ha hb rp er h1 fun F2 φ2 H2 x y vx vy n rx ry h => ?_
    refine ho n.rep rx ry h _ fun F' φ' v H' n' r' => ?_
    cases r'
    exact ⟨_, rfl, q _ _ _ (n.trans n')⟩
  · cases hf⟩
theorem j_chain {op op' : CmpOp} {r r' : Mem → D → D → Option D} (ho : OD X (compareOp op) r) (ho' : OD X (compareOp op') r') (ha : JE X a fa) (hb : JE X b fb) (hc : JE X c fc) (hm : lastMarks [op, op'] [b, c] = false := by with_unfolding_all rfl) :
    JE X (.Compare a [op, op'] [b, c] pos) (eChain r r' fa fb fc) := ⟨fun {F φ m H ρ σ d m'} rp er hf Q q => by
  refine we_of (pe_chain opr_w opr_w pe_w pe_w pe_w hm) ?_
  unfold eChain at hf
  split at hf
  · rename_i x m1 h1
    split at hf
    · rename_i y m2 h2
      refine ha.run rp er h1 _ fun F1 φ1 vx H1 n1 r1 => ?_
      refine hb.run n1.rep (er.mono n1.exF n1.pre) h2 _ fun F2 φ2 vy H2 n2 r2 => ?_
      split at hf
      · rename_i h3
        split at hf
        · rename_i z m3 h4
          split at hf
          · rename_i d' h5
            cases hf
            refine ho n2.rep (r1.mono n2.exF n2.pre) r2 h3 _ fun F3 φ3 v3 H3 n3 r3 => ?_
            cases r3
            refine ⟨true, rfl, ?_⟩
            rw [if_pos rfl]
            refine hc.run n3.rep (((er.mono n1.exF n1.pre).mono n2.exF n2.pre).mono n3.exF n3.pre) h4 _ fun F4 φ4 vz H4 n4 r4 => ?_
            exact ho' n4.rep ((r2.mono n3.exF n3.pre).mono n4.exF n4.pre) r4 h5 Q fun F' φ' v H' n' r' => q _ _ _ _ ((((n1.trans n2).trans n3).trans n4).trans n') r'
          · cases hf
        · cases hf
      · rename_i h3
        cases hf
        refine ho n2.rep (r1.mono n2.exF n2.pre) r2 h3 _ fun F3 φ3 v3 H3 n3 r3 => ?_
        cases r3
        refine ⟨false, rfl, ?_⟩
        rw [if_neg Bool.false_ne_true]
        exact q _ _ _ _ ((n1.trans n2).trans n3) (.bl false)
      · cases hf
    · cases hf
  · cases hf⟩
theorem j_un {op : UnaryOp} {r : Mem → D → Option D} (ho : UD X (unaryOp op) r) (ha : JE X a fa) : JE X (.UnaryOp op a pos) (eUn r fa) := ⟨fun {F φ m H ρ σ d m'} rp er hf Q q => by
  refine we_of (pe_un unr_w pe_w) ?_
  unfold eUn at hf
  split at hf
  · rename_i x m1 h1
    split at hf
    · rename_i d' h2
      cases hf
      refine ha.run rp er h1 _ fun F1 φ1 vx H1 n1 r1 => ?_
      exact ho n1.rep r1 h2 Q fun F' φ' v H' n' r' => q _ _ _ _ (n1.trans n') r'
    · cases hf
  · cases hf⟩
theorem j_not (ha : JE X a fa) : JE X (.UnaryOp .Not a pos) (eNot fa) := ⟨fun {F φ m H ρ σ d m'} rp er hf Q q => by
  refine we_of (pe_not pe_w) ?_
  unfold eNot at hf
  split at hf
  · rename_i bb m1 h1
    cases hf
    refine ha.run rp er h1 _ fun F1 φ1 vx H1 n1 r1 => ?_
    cases r1
    exact ⟨bb, rfl, q _ _ _ _ n1 (.bl _)⟩
  · cases hf⟩
variable {rest : List Expr}
theorem j_one {op} (h : JE X a fa) : JE X (.BoolOp op [a] pos) fa := ⟨fun rp er hf Q q => we_of (pe_one pe_w) (h.run rp er hf Q q)⟩
theorem j_and (ha : JE X a fa) (hb : JE X (.BoolOp .And (b :: rest) pos) fb) : JE X (.BoolOp .And (a :: b :: rest) pos) (eAnd fa fb) := ⟨fun {F φ m H ρ σ d m'} rp er hf Q q => by
  refine we_of (pe_and pe_w pe_w) ?_
  unfold eAnd at hf
  split at hf
  · rename_i m1 h1
    refine ha.run rp er h1 _ fun F1 φ1 vx H1 n1 r1 => ?_
    cases r1
    refine ⟨true, rfl, ?_⟩
    rw [if_pos rfl]
    exact hb.run n1.rep (er.mono n1.exF n1.pre) hf Q fun F' φ' v H' n' r' => q _ _ _ _ (n1.trans n') r'
  · rename_i m1 h1
    cases hf
    refine ha.run rp er h1 _ fun F1 φ1 vx H1 n1 r1 => ?_
    cases r1
    refine ⟨false, rfl, ?_⟩
    rw [if_neg Bool.false_ne_true]
    exact q _ _ _ _ n1 (.bl false)
  · cases hf⟩
theorem j_or (ha : JE X a fa) (hb : JE X (.BoolOp .Or (b :: rest) pos) fb) : JE X (.BoolOp .Or (a :: b :: rest) pos) (eOr fa fb) := ⟨fun {F φ m H ρ σ d m'} rp er hf Q q => by
  refine we_of (pe_or pe_w pe_w) ?_
  unfold eOr at hf
  split at hf
  · rename_i m1 h1
    refine ha.run rp er h1 _ fun F1 φ1 vx H1 n1 r1 => ?_
    cases r1
    refine ⟨false, rfl, ?_⟩
    rw [if_neg Bool.false_ne_true]
    exact hb.run n1.rep (er.mono n1.exF n1.pre) hf Q fun F' φ' v H' n' r' => q _ _ _ _ (n1.trans n') r'
  · rename_i m1 h1
    cases hf
    refine ha.run rp er h1 _ fun F1 φ1 vx H1 n1 r1 => ?_
    cases r1
    refine ⟨true, rfl, ?_⟩
    rw [if_pos rfl]
    exact q _ _ _ _ n1 (.bl true)
  · cases hf⟩

/-! ### tests -/
theorem jt_val (h : JE X a fa) (he : ∀ whole, isTrue a X.env whole = (do let v ← whole; standAt a.pos; holding [v] (truthy v)) := by intro _; rfl) : JT X a (tV fa) := ⟨fun {F φ m H ρ σ bb m'} rp er hf Q q => by
  refine wt_of (pt_val pe_w he) ?_
  unfold tV at hf
  split at hf
  · rename_i b' m1 h1
    cases hf
    refine h.run rp er h1 _ fun F1 φ1 vx H1 n1 r1 => ?_
    cases r1
    exact ⟨_, rfl, q _ _ _ n1⟩
  · cases hf⟩
variable {ta tb tc : TF}
theorem jt_not (h : JT X a ta) : JT X (.UnaryOp .Not a pos) (tNot ta) := ⟨fun {F φ m H ρ σ bb m'} rp er hf Q q => by
  refine wt_of (pt_not pt_w) ?_
  unfold tNot at hf
  split at hf
  · rename_i b' m1 h1
    cases hf
    exact h.run rp er h1 _ fun F1 φ1 H1 n1 => q _ _ _ n1
  · cases hf⟩
theorem jt_w (h : JW X a ta) : JT X a ta := ⟨fun {F φ m H ρ σ bb m'} rp er hf Q q => wt_of pw_w.pt (h.run rp er hf Q q)⟩
theorem jw_and1 (h : JT X a ta) : JW X (.BoolOp .And [a] pos) ta := ⟨fun rp er hf Q q => ww_of (pw_and1 pt_w) (h.run rp er hf Q q)⟩
theorem jw_or1 (h : JT X a ta) : JW X (.BoolOp .Or [a] pos) ta := ⟨fun rp er hf Q q => ww_of (pw_or1 pt_w) (h.run rp er hf Q q)⟩
theorem jw_and (ha : JT X a ta) (hb : JW X (.BoolOp .And (b :: rest) pos) tb) : JW X (.BoolOp .And (a :: b :: rest) pos) (tAnd ta tb) := ⟨fun {F φ m H ρ σ bb m'} rp er hf Q q => by
  refine ww_of (pw_and pt_w pw_w) ?_
  unfold tAnd at hf
  split at hf
  · rename_i m1 h1
    refine ha.run rp er h1 _ fun F1 φ1 H1 n1 => ?_
    rw [if_pos rfl]
    exact hb.run n1.rep (er.mono n1.exF n1.pre) hf Q fun F' φ' H' n' => q _ _ _ (n1.trans n')
  · rename_i m1 h1
    cases hf
    refine ha.run rp er h1 _ fun F1 φ1 H1 n1 => ?_
    rw [if_neg Bool.false_ne_true]
    exact q _ _ _ n1
  · cases hf⟩
theorem jw_or (ha : JT X a ta) (hb : JW X (.BoolOp .Or (b :: rest) pos) tb) : JW X (.BoolOp .Or (a :: b :: rest) pos) (tOr ta tb) := ⟨fun {F φ m H ρ σ bb m'} rp er hf Q q => by
  refine ww_of (pw_or pt_w pw_w) ?_
  unfold tOr at hf
  split at hf
  · rename_i m1 h1
    refine ha.run rp er h1 _ fun F1 φ1 H1 n1 => ?_
    rw [if_neg Bool.false_ne_true]
    exact hb.run n1.rep (er.mono n1.exF n1.pre) hf Q fun F' φ' H' n' => q _ _ _ (n1.trans n')
  · rename_i m1 h1
    cases hf
    refine ha.run rp er h1 _ fun F1 φ1 H1 n1 => ?_
    rw [if_pos rfl]
    exact q _ _ _ n1
  · cases hf⟩
theorem j_if {cc : Expr} (hc : JT X cc tc) (ha : JE X a fa) (hb : JE X b fb) : JE X (.IfExp cc a b pos) (eIf tc fa fb) := ⟨fun {F φ m H ρ σ d m'} rp er hf Q q => by
  refine we_of (pe_ifExp pt_w pe_w pe_w) ?_
  unfold eIf at hf
  split at hf
  · rename_i m1 h1
    refine hc.run rp er h1 _ fun F1 φ1 H1 n1 => ?_
    rw [if_pos rfl]
    exact ha.run n1.rep (er.mono n1.exF n1.pre) hf Q fun F' φ' v H' n' r' => q _ _ _ _ (n1.trans n') r'
  · rename_i m1 h1
    refine hc.run rp er h1 _ fun F1 φ1 H1 n1 => ?_
    rw [if_neg Bool.false_ne_true]
    exact hb.run n1.rep (er.mono n1.exF n1.pre) hf Q fun F' φ' v H' n' r' => q _ _ _ _ (n1.trans n') r'
  · cases hf⟩

/-! ### argument lists, displays -/
theorem ja_nil : JA X [] aNil := ⟨fun rp er hf Q q => by
  cases hf
  exact wa_of pa_nil (q _ _ _ _ (Nxt.refl rp) .nil)⟩
variable {fr : AF}
theorem ja_cons (ha : JE X e fe) (hr : JA X es fr) (hs : starEach (e :: es) X.env = (false, eval e X.env) :: starEach es X.env := by rfl) : JA X (e :: es) (aCons fe fr) := ⟨fun {F φ m H ρ σ ds m'} rp er hf Q q => by
  refine wa_of (pa_cons pe_w pa_w hs) ?_
  unfold aCons at hf
  split at hf
  · rename_i x m1 h1
    split at hf
    · rename_i xs m2 h2
      cases hf
      refine ha.run rp er h1 _ fun F1 φ1 vx H1 n1 r1 => ?_
      refine hr.run n1.rep (er.mono n1.exF n1.pre) h2 _ fun F2 φ2 vs H2 n2 r2 => ?_
      exact q _ _ _ _ (n1.trans n2) (.cons (r1.mono n2.exF n2.pre) r2)
    · cases hf
  · cases hf⟩
theorem len_of {F φ ds vs} (h : VRs X.K F φ ds vs) (l : ds.length ≤ 16777216) : vs.length ≤ sizeLine := by rw [← h.len]; exact l
/-- a display's length is written -/
def Few (fr : AF) : Prop := ∀ ρ m ds m', fr ρ m = some (ds, m') → ds.length ≤ 16777216
def FewN (n : Nat) (fr : AF) : Prop := ∀ ρ m ds m', fr ρ m = some (ds, m') → ds.length = n
theorem few_nil : FewN 0 aNil := fun ρ m ds m' h => by cases h; rfl
theorem few_cons {n : Nat} (h : FewN n fr) : FewN (n + 1) (aCons fe fr) := fun ρ m ds m' hf => by
  unfold aCons at hf
  split at hf
  · split at hf
    · rename_i h2
      cases hf
      rw [List.length_cons, h _ _ _ _ h2]
    · cases hf
  · cases hf
theorem few_of {n : Nat} (h : FewN n fr) (hn : n ≤ 16777216 := by decide) : Few fr := fun ρ m ds m' hf => by rw [h _ _ _ _ hf]; exact hn
theorem j_tup {x1} (h : JA X es fr) (hl : Few fr) : JE X (.Tuple es x1 pos) (eTup fr) := ⟨fun {F φ m H ρ σ d m'} rp er hf Q q => by
  refine we_of (pe_tup pa_w) ?_
  unfold eTup at hf
  split at hf
  · rename_i xs m1 h1
    cases hf
    refine h.run rp er h1 _ fun F1 φ1 vs H1 n1 r1 => ⟨len_of r1 (hl _ _ _ _ h1), fun p hp => ?_⟩
    have n2 := n1.rep.frozen (o := .tup vs) hp
    exact q _ _ _ _ (n1.trans n2) (.tup (SqT.of upd_same) (r1.mono n2.exF n2.pre))
  · cases hf⟩
theorem j_lst (h : JA X es fr) (hl : Few fr) : JE X (.List es pos) (eLst fr) := ⟨fun {F φ m H ρ σ d m'} rp er hf Q q => by
  refine we_of (pe_lst pa_w) ?_
  unfold eLst at hf
  split at hf
  · rename_i xs m1 h1
    cases hf
    refine h.run rp er h1 _ fun F1 φ1 vs H1 n1 r1 => ⟨len_of r1 (hl _ _ _ _ h1), fun p hp => ?_⟩
    have n2 := n1.rep.frozen (o := .lst vs) hp
    exact q _ _ _ _ (n1.trans n2) (.lst upd_same (r1.mono n2.exF n2.pre))
  · cases hf⟩
theorem j_cel (h : JA X es fr) (hl : Few fr) : JE X (.List es pos) (eCel fr) := ⟨fun {F φ m H ρ σ d m'} rp er hf Q q => by
  refine we_of (pe_lst pa_w) ?_
  unfold eCel at hf
  split at hf
  · rename_i xs m1 h1
    cases hf
    refine h.run rp er h1 _ fun F1 φ1 vs H1 n1 r1 => ⟨len_of r1 (hl _ _ _ _ h1), fun p hp => ?_⟩
    have n2 := n1.rep.alloc (x := O.lst xs) (o := .lst vs) hp (fun e => nomatch e) ⟨vs, rfl, r1⟩
    refine q _ _ _ _ (n1.trans n2) (.cell ?_)
    rw [← n1.rep.len, List.getElem?_append_right (Nat.le_refl _)]
    simp
  · cases hf⟩
theorem j_frz (h : JE X e fe) : JE X e (eFrz fe) := ⟨fun {F φ m H ρ σ d m'} rp er hf Q q => by
  unfold eFrz at hf
  split at hf
  · rename_i i m1 h1
    split at hf
    · rename_i ds h2
      cases hf
      refine h.run rp er h1 _ fun F1 φ1 v H1 n1 r1 => ?_
      cases r1 with
      | cell hp =>
        obtain ⟨vs, h3, h4, n2⟩ := n1.rep.freeze h2 hp
        exact q _ _ _ _ (n1.trans n2) (.lst upd_same (h4.mono n2.exF n2.pre))
    · cases hf
  · cases hf⟩
end
end VI
end
section
namespace VI
open PySem PySem.Spec PyProof.Rows L2
section
variable {X : Cx} {a b c e tg iter : Expr} {es : List Expr} {st : Stmt} {sts : List Stmt} {pos : Pos} {fa fb fc fe : EF} {g : GF} {gs : GFs} {ws us : List Nat} {f1 f2 : BF} {tc : TF} {fi fr : AF}

/-! ### targets -/
theorem but_set {σ : L2.St} {i : Nat} {v : V} : But [i] σ (σ.set i (some v)) := ⟨by simp, fun j h => by
  rw [List.getElem?_set_ne]
  intro e
  subst e
  exact h (by simp)⟩
theorem jg_name (i : Nat) {x : Str} (hN : X.N.Nodup) (hi : X.N[i]? = some x := by rfl) (hx : Loc X.env.scope x := by first | exact Or.inl rfl | exact Or.inr rfl) (hf : X.fn x = true ∨ X.env.scope.names.lookup x = some .local := by first | exact .inl rfl | exact .inr rfl) :
    JG X (.Name x pos) (gName i) [i] := ⟨fun rp er rv hg Q q => by
  cases hg
  exact wg_of (pg_name hN hi hx hf) (q _ _ _ _ (Nxt.refl rp) (er.set i rv) but_set)⟩
theorem jgs_nil : JGs X [] gNil [] := ⟨fun rp er rv hg Q q => by
  unfold gNil at hg
  split at hg
  · cases hg
    cases rv
    exact wgs_of pgs_nil ⟨rfl, q _ _ _ _ (Nxt.refl rp) er (But.refl _ _)⟩
  · cases hg⟩
theorem jgs_cons (h1 : JG X e g ws) (h2 : JGs X es gs us) (hs : (assignEach (e :: es) X.env).map (·.2) = assign e X.env :: (assignEach es X.env).map (·.2) := by rfl) : JGs X (e :: es) (gCons g gs) (ws ++ us) := ⟨fun rp er rv hg Q q => by
  unfold gCons at hg
  split at hg
  · rename_i d ds
    split at hg
    · rename_i ρ1 m1 e1
      cases rv with
      | cons r0 rr =>
        refine wgs_of (pgs_cons pg_w pgs_w hs) ⟨_, _, rfl, ?_⟩
        refine h1.run rp er r0 e1 _ fun F1 φ1 σ1 H1 n1 er1 b1 => ?_
        exact h2.run n1.rep er1 (rr.mono n1.exF n1.pre) hg _ fun F2 φ2 σ2 H2 n2 er2 b2 => q _ _ _ _ (n1.trans n2) er2 (b1.trans b2)
    · cases hg
  · cases hg⟩
theorem jg_tup {k n : Nat} (hc : X.calm = true) (h : JGs X es gs ws) (hn : (assignEach es X.env).length = n := by rfl) (hst : (assignEach es X.env).findIdx? (·.1) = none := by rfl) : JG X (.Tuple es k pos) (gTup n gs) ws := ⟨fun rp er rv hg Q q => by
  unfold gTup at hg
  split at hg
  · split at hg
    · rename_i hl
      cases rv with
      | tup hq rvs =>
        exact wg_of (pg_tup hc pgs_w hn hst) ⟨_, _, rfl, Evl.ex_t rp.ex hq, rvs.len.symm.trans hl, h.run rp er rvs hg Q q⟩
    · cases hg
  · cases hg⟩
theorem jg_lst {k n : Nat} (hc : X.calm = true) (h : JGs X es gs ws) (hn : (assignEach es X.env).length = n := by rfl) (hst : (assignEach es X.env).findIdx? (·.1) = none := by rfl) : JG X (.Tuple es k pos) (gLst n gs) ws := ⟨fun {F φ m H ρ σ d v ρ' m'} rp er rv hg Q q => by
  unfold gLst at hg
  split at hg
  · split at hg
    · rename_i hl
      cases rv with
      | lst hq rvs =>
        exact wg_of (pg_unl hc pgs_w hn hst) ⟨_, _, rfl, SqL.of (rp.ex _ _ hq), rvs.len.symm.trans hl, h.run rp er rvs hg Q q⟩
    · cases hg
  · split at hg
    · rename_i hm
      split at hg
      · rename_i hl
        cases rv with
        | cell hp =>
          obtain ⟨_, o, ho, vs, rfl, rvs⟩ := rp.cell _ _ _ hm (fun e => nomatch e) hp
          exact wg_of (pg_unl hc pgs_w hn hst) ⟨_, _, rfl, SqL.of ho, rvs.len.symm.trans hl, h.run rp er rvs hg Q q⟩
      · cases hg
    · cases hg
  · cases hg⟩

/-! ### blocks, small statements -/
theorem jb_nil : JB X [] bNil := ⟨fun rp er hf D q => by
  cases hf
  exact wb_of pss_nil (q _ _ _ _ (Nxt.refl rp) er)⟩
theorem FlOk.after {K F φ m H F1 φ1 m1 H1 m'} {D : Ends} {r : Fl} (n : Nxt K F φ m H F1 φ1 m1 H1) (q : FlOk K F φ m H m' D r) : FlOk K F1 φ1 m1 H1 m' D r := by
  cases r with
  | nx ρ => exact fun F' φ' σ' H' n' er => q _ _ _ _ (n.trans n') er
  | bk ρ => exact fun F' φ' σ' H' n' er => q _ _ _ _ (n.trans n') er
  | ct ρ => exact fun F' φ' σ' H' n' er => q _ _ _ _ (n.trans n') er
  | rt d => exact fun F' φ' v H' n' er => q _ _ _ _ (n.trans n') er
theorem jb_cons (h1 : JS X st f1) (h2 : JB X sts f2) : JB X (st :: sts) (bSeq f1 f2) := ⟨fun {F φ m H ρ σ r m'} rp er hf D q => by
  refine wb_of (pss_cons ps_w pss_w) ?_
  unfold bSeq at hf
  split at hf
  · rename_i ρ1 m1 e1
    refine h1.run rp er e1 _ fun F1 φ1 σ1 H1 n1 er1 => ?_
    exact h2.run n1.rep er1 hf D (q.after n1)
  · rename_i r1 m1 hne e1
    cases hf
    refine h1.run rp er e1 _ ?_
    cases r with
    | nx ρ => exact (hne _ rfl).elim
    | bk ρ => exact q
    | ct ρ => exact q
    | rt d => exact q
  · cases hf⟩
theorem jb_one (h1 : JS X st f1) : JB X [st] f1 := ⟨fun rp er hf D q => wb_of (pss_one ps_w) (h1.run rp er hf D q)⟩
theorem js_expr (he : JE X e fe) (hs : swapsWith e none pos.line X.env = pure false := by rfl) : JS X (.Expr e pos) (bDrop fe) := ⟨fun rp er hf D q => by
  unfold bDrop at hf
  split at hf
  · rename_i d m1 h1
    cases hf
    refine ws_of (ps_expr pe_w hs) (he.run rp er h1 _ fun F1 φ1 v H1 n1 r1 => ?_)
    exact q _ _ _ _ n1 (er.mono n1.exF n1.pre)
  · cases hf⟩
theorem js_ret (he : JE X e fe) : JS X (.Return (some e) pos) (bRet fe) := ⟨fun rp er hf D q => by
  unfold bRet at hf
  split at hf
  · rename_i d m1 h1
    cases hf
    exact ws_of (ps_ret pe_w) (he.run rp er h1 _ fun F1 φ1 v H1 n1 r1 => q _ _ _ _ n1 r1)
  · cases hf⟩
theorem js_if {c : Expr} {a b : List Stmt} (hc : JT X c tc) (ha : JB X a f1) (hb : JB X b f2) : JS X (.If c a b pos) (bIf tc f1 f2) := ⟨fun {F φ m H ρ σ r m'} rp er hf D q => by
  refine ws_of (ps_if pt_w pss_w pss_w) ?_
  unfold bIf at hf
  split at hf
  · rename_i m1 h1
    refine hc.run rp er h1 _ fun F1 φ1 H1 n1 => ?_
    rw [if_pos rfl]
    exact ha.run n1.rep (er.mono n1.exF n1.pre) hf D (q.after n1)
  · rename_i m1 h1
    refine hc.run rp er h1 _ fun F1 φ1 H1 n1 => ?_
    rw [if_neg Bool.false_ne_true]
    exact hb.run n1.rep (er.mono n1.exF n1.pre) hf D (q.after n1)
  · cases hf⟩
theorem js_set (hg : JG X tg g ws) (he : JE X e fe) (hs : swapsWithSole [tg] e pos.line X.env = pure false := by rfl) (hw : swappedStores [tg] e X.env = pure none := by rfl)
    (h1 : (assignEach [tg] X.env).map (·.2) = [assign tg X.env] := by rfl) : JS X (.Assign [tg] e pos) (bSet g fe) := ⟨fun {F φ m H ρ σ r m'} rp er hf D q => by
  refine ws_of (ps_asg pe_w pg_w hs hw h1) ?_
  unfold bSet at hf
  split at hf
  · rename_i d m1 e1
    split at hf
    · rename_i ρ1 m2 e2
      cases hf
      refine he.run rp er e1 _ fun F1 φ1 v H1 n1 r1 => ?_
      exact hg.run n1.rep (er.mono n1.exF n1.pre) r1 e2 _ fun F2 φ2 σ2 H2 n2 er2 _ => q _ _ _ _ (n1.trans n2) er2
    · cases hf
  · cases hf⟩
theorem js_pass : JS X (.Pass pos) bNil := ⟨fun rp er hf D q => by
  cases hf
  exact ws_of ps_pass (q _ _ _ _ (Nxt.refl rp) er)⟩
def bBk : BF := fun ρ m => some (.bk ρ, m)
def bCt : BF := fun ρ m => some (.ct ρ, m)
theorem js_break : JS X (.Break pos) bBk := ⟨fun rp er hf D q => by
  cases hf
  exact ws_of ps_break (q _ _ _ _ (Nxt.refl rp) er)⟩
theorem js_continue : JS X (.Continue pos) bCt := ⟨fun rp er hf D q => by
  cases hf
  exact ws_of ps_continue (q _ _ _ _ (Nxt.refl rp) er)⟩
theorem js_aug (i : Nat) {x : Str} {pos' : Pos} {op : Operator} {r : Mem → D → D → Option D} (hN : X.N.Nodup) (ho : OD X (inplaceOp op) r) (he : JE X e fe) (hi : X.N[i]? = some x := by rfl) (hx : Loc X.env.scope x := by first | exact Or.inl rfl | exact Or.inr rfl)
    (hf : X.fn x = true ∨ X.env.scope.names.lookup x = some .local := by first | exact .inl rfl | exact .inr rfl) : JS X (.AugAssign (.Name x pos') op e pos) (bAug i r fe) := ⟨fun {F φ m H ρ σ r' m'} rp er hf' D q => by
  have pip : PIp X op (fun x y H Q => ∃ rr, OpR X (inplaceOp op) rr ∧ rr x y H Q) := fun pins s σ H x y v u Q I rx ry ⟨_, h, q⟩ => h pins s σ H x y v u Q I rx ry q
  refine ws_of (ps_aug hN hi hx pe_w pip hf) ?_
  unfold bAug at hf'
  split at hf'
  · rename_i x' h0
    split at hf'
    · rename_i y m1 h1
      split at hf'
      · rename_i d h2
        cases hf'
        obtain ⟨v, hv, rv⟩ := er.at_ i _ h0
        refine ⟨v, hv, he.run rp er h1 _ fun F1 φ1 vy H1 n1 r1 => ?_⟩
        refine ho n1.rep (rv.mono n1.exF n1.pre) r1 h2 _ fun F2 φ2 vz H2 n2 r2 => ?_
        exact q _ _ _ _ (n1.trans n2) (((er.mono n1.exF n1.pre).mono n2.exF n2.pre).set i r2)
      · cases hf'
    · cases hf'
  · cases hf'⟩

/-! ### loops -/
theorem js_for (hp : PassesOwn (model X.prog X.w) X.A X.env X.xe) (hc : X.calm = true) (hi : JI X tg iter fi) (hg : JG X tg g ws) (hb : JB X sts f1) (hs : ∀ x, foldedSetIterable iter X.env x = pure x := by intro _; rfl) :
    JS X (.For tg iter sts [] pos) (bFor fi g f1) := ⟨fun {F φ m H ρ σ r m'} rp er hf D q => by
  refine ws_of (ps_for hp hc pi_w pg_w pss_w hs) ?_
  unfold bFor at hf
  split at hf
  · rename_i ds m1 h1
    refine hi.run rp er h1 _ fun F1 φ1 J H1 n1 it => ?_
    have q1 := q.after n1
    have er1 := er.mono n1.exF n1.pre
    refine ⟨fun i k σ H => ∃ F φ m ρ, k = ds.length - i ∧ i ≤ ds.length ∧ Rep X.K F φ m H ∧ Evl.Ex F1 F ∧ Pre φ1 φ ∧ EnvR X.K F φ ρ σ ∧ forV g f1 (ds.drop i) ρ m = some (r, m') ∧ FlOk X.K F φ m H m' D r,
      ⟨ds.length, F1, φ1, m1, ρ, rfl, Nat.zero_le _, n1.rep, Evl.Ex.refl _, Pre.refl _, er1, by rw [List.drop_zero]; exact hf, q1⟩, ?_⟩
    rintro i k σ2 H2 ⟨F2, φ2, m2, ρ2, rfl, hle, rp2, ex2, pr2, er2, hf2, q2⟩
    by_cases hlt : i < ds.length
    · refine .inr ⟨it.go i H2 (ex2.trans rp2.ex) hlt, fun σ' H' => ∃ F φ m ρ, i + 1 ≤ ds.length ∧ Rep X.K F φ m H' ∧ Evl.Ex F1 F ∧ Pre φ1 φ ∧ EnvR X.K F φ ρ σ' ∧ forV g f1 (ds.drop (i + 1)) ρ m = some (r, m') ∧ FlOk X.K F φ m H' m' D r,
        fun σ' H' ⟨F', φ', m'', ρ', a1, a2, a3, a4, a5, a6, a7⟩ => ⟨ds.length - (i + 1), by omega, F', φ', m'', ρ', rfl, a1, a2, a3, a4, a5, a6, a7⟩, fun x H3 hy => ?_⟩
      obtain ⟨F3, n3, r3⟩ := it.yld i F2 φ2 m2 H2 x H3 ds[i] rp2 ex2 pr2 (List.getElem?_eq_getElem hlt) hy
      rw [List.drop_eq_getElem_cons hlt] at hf2
      unfold forV at hf2
      split at hf2
      · rename_i ρ4 m4 e4
        refine hg.run n3.rep (er2.mono n3.exF n3.pre) r3 e4 _ fun F4 φ4 σ4 H4 n4 er4 _ => ?_
        have n34 := n3.trans n4
        split at hf2
        · rename_i ρ5 m5 e5
          refine hb.run n4.rep er4 e5 _ fun F5 φ5 σ5 H5 n5 er5 => ?_
          have n35 := n34.trans n5
          exact ⟨F5, φ5, m5, ρ5, hlt, n5.rep, ex2.trans n35.exF, pr2.trans n35.pre, er5, hf2, q2.after n35⟩
        · rename_i ρ5 m5 e5
          refine hb.run n4.rep er4 e5 _ fun F5 φ5 σ5 H5 n5 er5 => ?_
          have n35 := n34.trans n5
          exact ⟨F5, φ5, m5, ρ5, hlt, n5.rep, ex2.trans n35.exF, pr2.trans n35.pre, er5, hf2, q2.after n35⟩
        · rename_i ρ5 m5 e5
          cases hf2
          exact hb.run n4.rep er4 e5 _ fun F5 φ5 σ5 H5 n5 er5 => q2 _ _ _ _ (n34.trans n5) er5
        · rename_i d5 m5 e5
          cases hf2
          exact hb.run n4.rep er4 e5 _ fun F5 φ5 v5 H5 n5 r5 => q2 _ _ _ _ (n34.trans n5) r5
        · cases hf2
      · cases hf2
    · have hi' : i = ds.length := by omega
      subst hi'
      rw [List.drop_length] at hf2
      cases hf2
      exact .inl ⟨it.stop _ H2 (ex2.trans rp2.ex) (Nat.le_refl _), q2 _ _ _ _ (Nxt.refl rp2) er2⟩
  · cases hf⟩
theorem js_while {c : Expr} (n : Nat) (hp : PassesOwn (model X.prog X.w) X.A X.env X.xe) (hc : JT X c tc) (hb : JB X sts f1) : JS X (.While c sts [] pos) (whileV tc f1 n) := ⟨fun {F φ m H ρ σ r m'} rp er hf D q => by
  refine ws_of (ps_while hp pt_w pss_w) ?_
  refine ⟨fun k σ H => ∃ F φ m ρ, Rep X.K F φ m H ∧ EnvR X.K F φ ρ σ ∧ whileV tc f1 k ρ m = some (r, m') ∧ FlOk X.K F φ m H m' D r, ⟨n, F, φ, m, ρ, rp, er, hf, q⟩, ?_⟩
  rintro k σ2 H2 ⟨F2, φ2, m2, ρ2, rp2, er2, hf2, q2⟩
  cases k with
  | zero => cases hf2
  | succ k =>
    unfold whileV at hf2
    split at hf2
    · rename_i m3 e3
      refine hc.run rp2 er2 e3 _ fun F3 φ3 H3 n3 => ?_
      rw [if_pos rfl]
      refine ⟨fun σ' H' => ∃ F φ m ρ, Rep X.K F φ m H' ∧ EnvR X.K F φ ρ σ' ∧ whileV tc f1 k ρ m = some (r, m') ∧ FlOk X.K F φ m H' m' D r, fun σ' H' h => ⟨k, Nat.lt_succ_self _, h⟩, ?_⟩
      have er3 := er2.mono n3.exF n3.pre
      split at hf2
      · rename_i ρ5 m5 e5
        refine hb.run n3.rep er3 e5 _ fun F5 φ5 σ5 H5 n5 er5 => ?_
        exact ⟨F5, φ5, m5, ρ5, n5.rep, er5, hf2, q2.after (n3.trans n5)⟩
      · rename_i ρ5 m5 e5
        refine hb.run n3.rep er3 e5 _ fun F5 φ5 σ5 H5 n5 er5 => ?_
        exact ⟨F5, φ5, m5, ρ5, n5.rep, er5, hf2, q2.after (n3.trans n5)⟩
      · rename_i ρ5 m5 e5
        cases hf2
        exact hb.run n3.rep er3 e5 _ fun F5 φ5 σ5 H5 n5 er5 => q2 _ _ _ _ (n3.trans n5) er5
      · rename_i d5 m5 e5
        cases hf2
        exact hb.run n3.rep er3 e5 _ fun F5 φ5 v5 H5 n5 r5 => q2 _ _ _ _ (n3.trans n5) r5
      · cases hf2
    · rename_i m3 e3
      cases hf2
      refine hc.run rp2 er2 e3 _ fun F3 φ3 H3 n3 => ?_
      rw [if_neg Bool.false_ne_true]
      exact q2 _ _ _ _ n3 (er2.mono n3.exF n3.pre)
    · cases hf2⟩
end
end VI
end
section
namespace VI
open PySem PySem.Spec PyProof.Rows L2

section
variable {K : PySem.W.Frag} {F F' : Hp} {φ φ' : List Addr} {m m' : Mem} {H H' : Hp} {p : Addr} {o : HO}
/-- an object beside all that is told here changes -/
theorem Nxt.mut (n : Nxt K F φ m H F' φ' m' H') (h0 : H p = none) (nl : ¬ Live φ' m' p) (hF : F' p = none) : Nxt K F φ m H F' φ' m' (upd H' p o) := by
  have ne : ∀ (i : Nat) (x : O) (a : Addr), m'[i]? = some x → x ≠ O.dead → φ'[i]? = some a → a ≠ p := fun i x a h1 h2 h3 e => by
    subst e; exact nl ⟨i, x, h1, h2, h3⟩
  refine ⟨n.exF, n.pre, ⟨n.rep.len, fun a x h => ?_, fun i x a h1 h2 h3 => ?_, n.rep.inj⟩, fun a x h l => ?_⟩
  · have e : a ≠ p := fun e => by subst e; rw [hF] at h; cases h
    rw [upd_ne e]; exact n.rep.ex a x h
  · obtain ⟨q1, y, q2, q3⟩ := n.rep.cell i x a h1 h2 h3
    exact ⟨q1, y, by rw [upd_ne (ne i x a h1 h2 h3)]; exact q2, q3⟩
  · have e : a ≠ p := fun e => by subst e; rw [h0] at h; cases h
    obtain ⟨q1, q2, q3⟩ := n.keep a x h l
    exact ⟨by rw [upd_ne e]; exact q1, q2, q3⟩
theorem Nxt.settle (n : Nxt K F φ m H F' φ' m' H') (h0 : H p = none) (h1 : H' p = some o) (nl : ¬ Live φ' m' p) (hF : F' p = none) : Nxt K F φ m H (upd F' p o) φ' m' H' := by
  have e0 : Evl.Ex F' (upd F' p o) := Evl.Ex.new hF
  refine ⟨n.exF.trans e0, n.pre, ⟨n.rep.len, fun a x h => ?_, fun i x a g1 g2 g3 => ?_, n.rep.inj⟩, fun a x h l => ?_⟩
  · by_cases e : a = p
    · subst e; rw [upd_same] at h; rw [h1]; exact h
    · rw [upd_ne e] at h; exact n.rep.ex a x h
  · obtain ⟨q1, y, q2, q3⟩ := n.rep.cell i x a g1 g2 g3
    have e : a ≠ p := fun e => by subst e; exact nl ⟨i, x, g1, g2, g3⟩
    exact ⟨by rw [upd_ne e]; exact q1, y, q2, q3.mono e0 (Pre.refl _)⟩
  · have e : a ≠ p := fun e => by subst e; rw [h0] at h; cases h
    obtain ⟨q1, q2, q3⟩ := n.keep a x h l
    exact ⟨q1, q2, by rw [upd_ne e]; exact q3⟩
theorem Rep.fresh_F (r : Rep K F φ m H) (h : H p = none) : F p = none := by
  cases e : F p with
  | none => rfl
  | some x => rw [r.ex p x e] at h; cases h
theorem Rep.fresh_L (r : Rep K F φ m H) (h : H p = none) : ¬ Live φ m p := fun l => by
  obtain ⟨x, e⟩ := r.live_some l
  rw [h] at e; cases e
end

section
variable {X : Cx} {a b c e elt tg iter : Expr} {es ifs : List Expr} {pos : Pos} {fa fb fc fe : EF} {g : GF} {ws : List Nat} {tc : TF} {fi fr : AF}
def WC (X : Cx) (ifs : List Expr) : TT := fun σ H Q => ∀ pins s, Inv X pins σ H s → wpAny (model X.prog X.w) X.A (forIn ifs true fun c r => if r = true then do let ok ← isTrue c X.env (eval c X.env); pure (ForInStep.yield ok) else pure (ForInStep.yield r)) (TP X pins σ Q) X.xe s
structure JC (X : Cx) (ifs : List Expr) (f : TF) : Prop where
  run : ∀ {F φ m H ρ σ b m'}, Rep X.K F φ m H → EnvR X.K F φ ρ σ → f ρ m = some (b, m') → ∀ Q : Bool → Hp → Prop, (∀ F' φ' H', Nxt X.K F φ m H F' φ' m' H' → Q b H') → WC X ifs σ H Q
theorem jc_nil : JC X [] tYes := ⟨fun rp er hf Q q pins s I => by
  cases hf
  exact pts_nil.run pins s _ _ Q I (q _ _ _ (Nxt.refl rp))⟩
theorem jc_one (h : JT X c tc) : JC X [c] tc := ⟨fun rp er hf Q q pins s I => (pts_one pt_w).run pins s _ _ Q I (h.run rp er hf Q q)⟩

theorem wipe_but {ws vs : List Nat} (h : ∀ i ∈ ws, i ∈ vs) {σ σ' : L2.St} (b : But ws (L2.wipe σ vs) σ') : L2.wipe σ' vs = L2.wipe σ vs := by
  have key : ∀ (τ : L2.St) (us : List Nat) (i : Nat), (L2.wipe τ us)[i]? = if i ∈ us then (if i < τ.length then some none else none) else τ[i]? := by
    intro τ us
    induction us with
    | nil => intro i; simp [L2.wipe]
    | cons u us ih =>
      intro i
      unfold L2.wipe
      by_cases e : u = i
      · subst e
        rw [List.getElem?_set_self']
        simp only [List.mem_cons, true_or, if_true]
        rw [ih]
        split
        · split <;> simp
        · by_cases hl : u < τ.length
          · rw [if_pos hl, List.getElem?_eq_getElem hl]; rfl
          · rw [if_neg hl, List.getElem?_eq_none (by omega)]; rfl
      · rw [List.getElem?_set_ne e, ih]
        have : (i ∈ u :: us) ↔ i ∈ us := by simp [Ne.symm e]
        simp only [this]
  apply List.ext_getElem?
  intro i
  rw [key, key]
  have hl : σ'.length = σ.length := by rw [b.len, wipe_length]
  by_cases hm : i ∈ vs
  · rw [if_pos hm, if_pos hm, hl]
  · rw [if_neg hm, if_neg hm]
    rw [b.at_ i fun z => hm (h i z), key, if_neg hm]

theorem compV_len {own : List Nat} {ρ : Env} : ∀ (ds acc res : List D) (m m' : Mem), compV own g tc fe ρ ds acc m = some (res, m') → res.length ≤ acc.length + ds.length
  | [], acc, res, m, m', h => by cases h; simp
  | d :: ds, acc, res, m, m', h => by
    unfold compV at h
    split at h
    · split at h
      · split at h
        · have := compV_len ds _ res _ m' h
          simp only [List.length_append, List.length_cons, List.length_nil] at this ⊢
          omega
        · cases h
      · have := compV_len ds _ res _ m' h
        simp only [List.length_cons] at this ⊢
        omega
      · cases h
    · cases h

def gB (X : Cx) (scope : Scope) (tg : Expr) : TG := fun v σ H Q => ∀ s0 H0 C cl fp, WG (X.blk s0 H0 scope (compEnvC scope cl C X.env) fp) tg v σ H Q
def tB2 (X : Cx) (scope : Scope) (ifs : List Expr) : TT := fun σ H Q => ∀ s0 H0 C cl fp, WC (X.blk s0 H0 scope (compEnvC scope cl C X.env) fp) ifs σ H Q
def eB (X : Cx) (scope : Scope) (elt : Expr) : TE := fun σ H Q => ∀ s0 H0 C cl fp, WE (X.blk s0 H0 scope (compEnvC scope cl C X.env) fp) elt σ H Q
theorem comp_read (own : List (Str × Nat)) {scope : Scope} (hc : X.calm = true) (hN : X.N.Nodup) (hi : JI X tg iter fi) (hok : BlkOk X.N X.env.scope scope own)
    (hg : ∀ (s : Shared) (H : Hp) (C : Addr) (cl : List (Str × Addr)) (fp : List Addr), JG (X.blk s H scope (compEnvC scope cl C X.env) fp) tg g ws)
    (ht : ∀ (s : Shared) (H : Hp) (C : Addr) (cl : List (Str × Addr)) (fp : List Addr), JC (X.blk s H scope (compEnvC scope cl C X.env) fp) ifs tc)
    (he : ∀ (s : Shared) (H : Hp) (C : Addr) (cl : List (Str × Addr)) (fp : List Addr), JE (X.blk s H scope (compEnvC scope cl C X.env) fp) elt fe)
    (hws : ∀ i ∈ ws, i ∈ own.map (·.2))
    {F φ m H ρ σ d m'} (rp : Rep X.K F φ m H) (er : EnvR X.K F φ ρ σ) (hf : eComp (own.map (·.2)) fi g tc fe ρ m = some (d, m')) (Q : VK) (q : ∀ F' φ' v H', Nxt X.K F φ m H F' φ' m' H' → VR X.K F' φ' d v → Q v H') :
    tLc (WI X tg iter) (gB X scope tg) (tB2 X scope ifs) (eB X scope elt) (own.map (·.2)) σ H Q := by
  unfold eComp eLst aComp at hf
  split at hf
  · rename_i res m1 h1
    cases hf
    split at h1
    · rename_i ds m2 h2
      split at h1
      · rename_i hsz
        refine hi.run rp er h2 _ fun F1 φ1 J H1 n1 it D hD => ?_
        have er1 := er.mono n1.exF n1.pre
        have hFD := n1.rep.fresh_F hD
        have hLD := n1.rep.fresh_L hD
        refine ⟨fun i k H => ∃ F φ m acc vs, k = ds.length - i ∧ i ≤ ds.length ∧ Nxt X.K F1 φ1 m2 H1 F φ m H ∧ H D = some (.lst vs) ∧ VRs X.K F φ acc vs ∧ ¬ Live φ m D ∧ F D = none ∧ acc.length ≤ i ∧ compV (own.map (·.2)) g tc fe ρ (ds.drop i) acc m = some (res, m'),
          ⟨ds.length, F1, φ1, m2, [], [], rfl, Nat.zero_le _, (Nxt.refl n1.rep).mut hD hLD hFD, upd_same, .nil, hLD, hFD, Nat.le_refl _, by rw [List.drop_zero]; exact h1⟩, ?_⟩
        rintro i k H2 ⟨F2, φ2, m3, acc, vs, rfl, hle, n2, hD2, rv2, hL2, hF2, hlen, hf2⟩
        have ex2 := n2.exF
        have pr2 := n2.pre
        by_cases hlt : i < ds.length
        · refine .inr ⟨it.go i H2 (ex2.trans n2.rep.ex) hlt, fun H' => ∃ F φ m acc vs, i + 1 ≤ ds.length ∧ Nxt X.K F1 φ1 m2 H1 F φ m H' ∧ H' D = some (.lst vs) ∧ VRs X.K F φ acc vs ∧ ¬ Live φ m D ∧ F D = none ∧ acc.length ≤ i + 1 ∧ compV (own.map (·.2)) g tc fe ρ (ds.drop (i + 1)) acc m = some (res, m'),
            fun H' ⟨F', φ', m'', acc', vs', a1, a2⟩ => ⟨ds.length - (i + 1), by omega, F', φ', m'', acc', vs', rfl, a1, a2⟩, fun x H3 hy s0 H0 C cl fp => ?_⟩
          obtain ⟨F3, n3, r3⟩ := it.yld i F2 φ2 m3 H2 x H3 ds[i] n2.rep ex2 pr2 (List.getElem?_eq_getElem hlt) hy
          obtain ⟨hD3, hL3, hF3⟩ := n3.keep D _ hD2 hL2
          have n13 := n2.trans n3
          rw [List.drop_eq_getElem_cons hlt] at hf2
          unfold compV at hf2
          split at hf2
          · rename_i ρ4 m4 e4
            have er3 := (er1.mono n13.exF n13.pre).wipe (own.map (·.2))
            refine (hg s0 H0 C cl fp).run n3.rep er3 r3 e4 _ fun F4 φ4 σ4 H4 n4 er4 bt => ⟨wipe_but hws bt, fun s0 H0 C cl fp => ?_⟩
            obtain ⟨hD4, hL4, hF4⟩ := n4.keep D _ hD3 hL3
            have n14 := n13.trans n4
            split at hf2
            · rename_i m5 e5
              refine (ht s0 H0 C cl fp).run n4.rep er4 e5 _ fun F5 φ5 H5 n5 => ?_
              obtain ⟨hD5, hL5, hF5⟩ := n5.keep D _ hD4 hL4
              have n15 := n14.trans n5
              rw [if_pos rfl]
              intro s0 H0 C cl fp
              split at hf2
              · rename_i y m6 e6
                refine (he s0 H0 C cl fp).run n5.rep (er4.mono n5.exF n5.pre) e6 _ fun F6 φ6 vy H6 n6 r6 => ?_
                obtain ⟨hD6, hL6, hF6⟩ := n6.keep D _ hD5 hL5
                have n16 := n15.trans n6
                have n26 := ((n3.trans n4).trans n5).trans n6
                have rv6 := rv2.mono n26.exF n26.pre
                have hF6' : F6 D = none := by rw [hF6, hF5, hF4, hF3, hF2]
                refine ⟨vs, hD6, ?_, F6, φ6, m6, acc ++ [y], vs ++ [vy], hlt, n16.mut hD hL6 hF6', upd_same, rv6.app (.cons r6 .nil), hL6, hF6', by rw [List.length_append, List.length_cons, List.length_nil]; omega, hf2⟩
                rw [← rv2.len]
                show acc.length < 16777216
                omega
              · cases hf2
            · rename_i m5 e5
              refine (ht s0 H0 C cl fp).run n4.rep er4 e5 _ fun F5 φ5 H5 n5 => ?_
              obtain ⟨hD5, hL5, hF5⟩ := n5.keep D _ hD4 hL4
              have n15 := n14.trans n5
              have n25 := (n3.trans n4).trans n5
              rw [if_neg Bool.false_ne_true]
              exact ⟨F5, φ5, m5, acc, vs, hlt, n15, hD5, rv2.mono n25.exF n25.pre, hL5, by rw [hF5, hF4, hF3, hF2], by omega, hf2⟩
            · cases hf2
          · cases hf2
        · have hi' : i = ds.length := by omega
          subst hi'
          rw [List.drop_length] at hf2
          cases hf2
          have n3 := n2.settle hD hD2 hL2 hF2
          exact .inl ⟨it.stop _ H2 (ex2.trans n2.rep.ex) (Nat.le_refl _), q _ _ _ _ (n1.trans n3) (.lst upd_same (rv2.mono (Evl.Ex.new hF2) (Pre.refl _)))⟩
      · cases h1
    · cases h1
  · cases hf
theorem j_comp (own : List (Str × Nat)) {scope : Scope} (hc : X.calm = true) (hN : X.N.Nodup) (hi : JI X tg iter fi) (hok : BlkOk X.N X.env.scope scope own)
    (hg : ∀ (s : Shared) (H : Hp) (C : Addr) (cl : List (Str × Addr)) (fp : List Addr), JG (X.blk s H scope (compEnvC scope cl C X.env) fp) tg g ws)
    (ht : ∀ (s : Shared) (H : Hp) (C : Addr) (cl : List (Str × Addr)) (fp : List Addr), JC (X.blk s H scope (compEnvC scope cl C X.env) fp) ifs tc)
    (he : ∀ (s : Shared) (H : Hp) (C : Addr) (cl : List (Str × Addr)) (fp : List Addr), JE (X.blk s H scope (compEnvC scope cl C X.env) fp) elt fe)
    (hws : ∀ i ∈ ws, i ∈ own.map (·.2)) (hs : ∀ x, foldedSetIterable iter X.env x = pure x := by intro _; rfl) :
    JE X (.ListComp elt [⟨tg, iter, ifs, 0⟩] scope pos) (eComp (own.map (·.2)) fi g tc fe) := ⟨fun {F φ m H ρ σ d m'} rp er hf Q q =>
  we_of (pe_lc (g := gB X scope tg) (tt := tB2 X scope ifs) (te := eB X scope elt) hc hN pi_w hok
    (fun s0 H0 C cl fp => ⟨fun pins s σ H v u Q I r h => h s0 H0 C cl fp pins s u I r⟩) (fun s0 H0 C cl fp => ⟨fun pins s σ H Q I h => h s0 H0 C cl fp pins s I⟩)
    (fun s0 H0 C cl fp => ⟨fun pins s σ H Q I h => h s0 H0 C cl fp pins s I⟩) hs) (comp_read own hc hN hi hok hg ht he hws rp er hf Q q)⟩
theorem js_setLc (i : Nat) (own : List (Str × Nat)) {scope : Scope} {y : Str} {py spos : Pos} (hc : X.calm = true) (hN : X.N.Nodup) (hi : JI X tg iter fi) (hok : BlkOk X.N X.env.scope scope own)
    (hg : ∀ (s : Shared) (H : Hp) (C : Addr) (cl : List (Str × Addr)) (fp : List Addr), JG (X.blk s H scope (compEnvC scope cl C X.env) fp) tg g ws)
    (ht : ∀ (s : Shared) (H : Hp) (C : Addr) (cl : List (Str × Addr)) (fp : List Addr), JC (X.blk s H scope (compEnvC scope cl C X.env) fp) ifs tc)
    (he : ∀ (s : Shared) (H : Hp) (C : Addr) (cl : List (Str × Addr)) (fp : List Addr), JE (X.blk s H scope (compEnvC scope cl C X.env) fp) elt fe)
    (hws : ∀ i ∈ ws, i ∈ own.map (·.2)) (hy : X.N[i]? = some y := by rfl) (hyl : X.env.scope.names.lookup y = some .local := by rfl) (hln : (py.line == pos.line) = true := by rfl) (hkf : X.env.scope.kind = .function := by rfl)
    (han : (scope.names.any fun (n, k) => n == y && (k == .local || k == .cell)) = false := by decide +kernel) (hs : ∀ x, foldedSetIterable iter X.env x = pure x := by intro _; rfl) :
    JS X (.Assign [.Name y py] (.ListComp elt [⟨tg, iter, ifs, 0⟩] scope pos) spos) (bSet (gName i) (eComp (own.map (·.2)) fi g tc fe)) := ⟨fun {F φ m H ρ σ r m'} rp er hf D q => by
  refine ws_of (ps_setLc (g := gB X scope tg) (tt := tB2 X scope ifs) (te := eB X scope elt) hc hN hy hyl (sw_true hkf hyl hln han) pi_w hok
    (fun s0 H0 C cl fp => ⟨fun pins s σ H v u Q I r h => h s0 H0 C cl fp pins s u I r⟩) (fun s0 H0 C cl fp => ⟨fun pins s σ H Q I h => h s0 H0 C cl fp pins s I⟩)
    (fun s0 H0 C cl fp => ⟨fun pins s σ H Q I h => h s0 H0 C cl fp pins s I⟩) hs) ?_
  unfold bSet at hf
  split at hf
  · rename_i d m1 h1
    cases hf
    exact comp_read own hc hN hi hok hg ht he hws rp er h1 _ fun F' φ' v H' n r => q _ _ _ _ n ((er.mono n.exF n.pre).set i r)
  · cases hf⟩
end
end VI
end
section
namespace VI
open PySem PySem.Spec PyProof.Rows L2

/-! ### data, for == of whole trees -/
mutual
def D.pd : D → Option PyData
  | .non => some .none
  | .bl b => some (.bool b)
  | .int i => some (.int i)
  | .str s => some (.str (S s))
  | .tup ds => match D.pds ds with | some xs => some (.tuple xs) | none => none
  | .lst ds => match D.pds ds with | some xs => some (.list xs) | none => none
  | .lsk _ => none
  | .cell _ => none
  | .ty _ => none
def D.pds : List D → Option (List PyData)
  | [] => some []
  | d :: ds => match D.pd d with
    | some x => match D.pds ds with
      | some xs => some (x :: xs)
      | none => none
    | none => none
end
section
variable {K : PySem.W.Frag} {F H : Hp} {φ : List Addr}
mutual
theorem VR.dp (ex : Evl.Ex F H) : ∀ {d : D} {v : V} {p : PyData}, VR K F φ d v → d.pd = some p → Dp K H v p
  | _, _, _, .non, h => by cases h; exact .non
  | _, _, _, .bl b, h => by cases h; exact .bl b
  | _, _, _, .int i, h => by cases h; exact .int i
  | _, _, _, .str s, h => by cases h; exact .str _
  | .tup ds, _, _, .tup q r, h => by
    unfold D.pd at h
    split at h
    · rename_i xs e
      cases h
      exact .tup (Evl.ex_t ex q) (VRs.dps ex r e)
    · cases h
  | .lst ds, _, _, .lst q r, h => by
    unfold D.pd at h
    split at h
    · rename_i xs e
      cases h
      exact .lst (SqL.of (ex _ _ q)) (VRs.dps ex r e)
    · cases h
  | _, _, _, .lsk _ _, h => by cases h
  | _, _, _, .cell _, h => by cases h
  | _, _, _, .ty _, h => by cases h
theorem VRs.dps (ex : Evl.Ex F H) : ∀ {ds : List D} {vs : List V} {ps : List PyData}, VRs K F φ ds vs → D.pds ds = some ps → DpAll K H vs ps
  | _, _, _, .nil, h => by cases h; exact .nil
  | d :: ds, _, _, .cons r rr, h => by
    unfold D.pds at h
    split at h
    · rename_i x e
      split at h
      · rename_i xs e2
        cases h
        exact .cons (VR.dp ex r e) (VRs.dps ex rr e2)
      · cases h
    · cases h
end
end

/-! ### scalars -/
def toV : D → Option V
  | .non => some .non
  | .bl b => some (.bl b)
  | .int i => some (.int i)
  | .str s => some (.str (S s))
  | _ => none
theorem VR.toV {K : PySem.W.Frag} {F : Hp} {φ : List Addr} {d : D} {v w : V} (r : VR K F φ d v) (h : toV d = some w) : v = w := by
  cases r <;> (unfold VI.toV at h; first | (cases h; rfl) | cases h)
theorem toV_VR {K : PySem.W.Frag} {F : Hp} {φ : List Addr} {d : D} {w : V} (h : toV d = some w) : VR K F φ d w := by
  cases d <;> (unfold VI.toV at h; first | (cases h; constructor) | cases h)
def toVs : List D → Option (List V)
  | [] => some []
  | d :: ds => match toV d with
    | some x => match toVs ds with
      | some xs => some (x :: xs)
      | none => none
    | none => none
theorem VRs.toVs {K : PySem.W.Frag} {F : Hp} {φ : List Addr} : ∀ {ds : List D} {vs ws : List V}, VRs K F φ ds vs → toVs ds = some ws → vs = ws ∧ ws.all flatV = true
  | _, _, _, .nil, h => by cases h; exact ⟨rfl, rfl⟩
  | d :: ds, _, _, .cons r rr, h => by
    unfold VI.toVs at h
    split at h
    · rename_i x e
      split at h
      · rename_i xs e2
        cases h
        obtain ⟨q1, q2⟩ := VRs.toVs rr e2
        refine ⟨by rw [r.toV e, q1], ?_⟩
        rw [List.all_cons, q2, Bool.and_true]
        cases d <;> (unfold VI.toV at e; first | (cases e; rfl) | cases e)
      · cases h
    · cases h
/-- what == of two scalars tells -/
def eqSc : D → D → Option Bool
  | .int i, .int j => some (decide (i = j))
  | .str s, .str t => some (decide (s = t))
  | .bl a, .bl b => some (decide (a = b))
  | .non, .non => some true
  | .non, .int _ => some false
  | .int _, .non => some false
  | .non, .bl _ => some false
  | .bl _, .non => some false
  | .non, .str _ => some false
  | .str _, .non => some false
  | .int _, .str _ => some false
  | .str _, .int _ => some false
  | .bl _, .str _ => some false
  | .str _, .bl _ => some false
  | _, _ => none
theorem dI (i j : Int) : decide (V.int i = V.int j) = decide (i = j) := decide_eq_decide.mpr ⟨V.int.inj, fun e => by rw [e]⟩
theorem dS (i j : List Nat) : decide (V.str (S i) = V.str (S j)) = decide (i = j) := decide_eq_decide.mpr ⟨fun e => S_inj (V.str.inj e), fun e => by rw [e]⟩
theorem dB (i j : Bool) : decide (V.bl i = V.bl j) = decide (i = j) := decide_eq_decide.mpr ⟨V.bl.inj, fun e => by rw [e]⟩
theorem eqSc_ok {K : PySem.W.Frag} {F : Hp} {φ : List Addr} {x y : D} {b : Bool} {vx vy : V} (rx : VR K F φ x vx) (ry : VR K F φ y vy) (h : eqSc x y = some b) : scal vx vy = true ∧ decide (vx = vy) = b := by
  cases rx <;> cases ry <;> (unfold eqSc at h; first
    | (cases h; refine ⟨rfl, ?_⟩; first
        | rfl
        | exact dI _ _
        | exact dS _ _
        | exact dB _ _
        | exact decide_eq_false (fun e => nomatch e))
    | cases h)

section
variable {X : Cx} {a b c e : Expr} {es : List Expr} {pos : Pos} {fa fb fe : EF} {fr : AF}
/-- the end of a rule whose value needs no room -/
theorem same {K : PySem.W.Frag} {F : Hp} {φ : List Addr} {m : Mem} {H : Hp} {d : D} {v : V} {Q : VK} (rp : Rep K F φ m H) (q : ∀ F' φ' v H', Nxt K F φ m H F' φ' m H' → VR K F' φ' d v → Q v H') (r : VR K F φ d v) : Q v H := q _ _ _ _ (Nxt.refl rp) r

def oAdd : Mem → D → D → Option D
  | _, .int i, .int j => some (.int (i + j))
  | _, .int i, .bl k => some (.int (i + (if k then 1 else 0)))
  | _, .str s, .str t => if s.length + t.length ≤ 16777216 then some (.str (s ++ t)) else none
  | _, .tup s, .tup t => if s.length + t.length ≤ 16777216 then some (.tup (s ++ t)) else none
  | _, .lst s, .lst t => if s.length + t.length ≤ 16777216 then some (.lst (s ++ t)) else none
  | m, .cell i, .lst t => match m[i]? with
    | some (.lst s) => if s.length + t.length ≤ 16777216 then some (.lst (s ++ t)) else none
    | _ => none
  | m, .lst s, .cell i => match m[i]? with
    | some (.lst t) => if s.length + t.length ≤ 16777216 then some (.lst (s ++ t)) else none
    | _ => none
  | _, _, _ => none
theorem cat_ok {F φ m H ds es vs ws a b} (rp : Rep X.K F φ m H) (ha : H a = some (.lst vs)) (hb : H b = some (.lst ws)) (r1 : VRs X.K F φ ds vs) (r2 : VRs X.K F φ es ws) (hl : ds.length + es.length ≤ 16777216) {Q : VK}
    (q : ∀ F' φ' v H', Nxt X.K F φ m H F' φ' m H' → VR X.K F' φ' (.lst (ds ++ es)) v → Q v H') : ∃ rr, OpR X (binaryOp .Add) rr ∧ rr (.ref a) (.ref b) H Q := by
  refine ⟨_, op_cat, a, b, vs, ws, rfl, rfl, ha, hb, ?_, fun p hp => ?_⟩
  · rw [← r1.len, ← r2.len]; exact hl
  · have n := rp.frozen (o := .lst (vs ++ ws)) hp
    exact q _ _ _ _ n (.lst upd_same ((r1.app r2).mono n.exF n.pre))
theorem od_add : OD X (binaryOp .Add) oAdd := by
  intro F φ m H x y d vx vy rp rx ry h Q q
  unfold oAdd at h
  split at h
  · cases h; cases rx; cases ry
    exact ⟨_, op_add, _, _, rfl, rfl, same rp q (.int _)⟩
  · cases h; cases rx; cases ry
    exact ⟨_, op_add_ib, _, _, rfl, rfl, same rp q (.int _)⟩
  · split at h
    · rename_i hl
      cases h; cases rx; cases ry
      refine ⟨_, op_add_str, _, _, rfl, rfl, ?_, ?_⟩
      · rw [S_len, S_len]; exact hl
      · rw [S_app]; exact same rp q (.str _)
    · cases h
  · split at h
    · rename_i s t hl
      cases h
      cases rx with
      | @tup a _ vs q1 r1 =>
        cases ry with
        | @tup b _ ws q2 r2 =>
          refine ⟨_, op_catA, a, b, vs, ws, rfl, rfl, Evl.ex_t rp.ex q1, Evl.ex_t rp.ex q2, ?_, fun e => ?_, fun _ e => ?_, fun _ _ p hp => ?_⟩
          · rw [← r1.len, ← r2.len]; exact hl
          · subst e; cases r1; exact same rp q (.tup q2 r2)
          · subst e; cases r2; rw [List.append_nil] at q; exact same rp q (.tup q1 r1)
          · have n := rp.frozen (o := .tup (vs ++ ws)) hp
            exact q _ _ _ _ n (.tup (SqT.of upd_same) ((r1.app r2).mono n.exF n.pre))
    · cases h
  · split at h
    · rename_i hl
      cases h
      cases rx with
      | lst q1 r1 =>
        cases ry with
        | lst q2 r2 => exact cat_ok rp (rp.ex _ _ q1) (rp.ex _ _ q2) r1 r2 hl q
    · cases h
  · split at h
    · rename_i hm
      split at h
      · rename_i hl
        cases h
        cases rx with
        | cell hp =>
          obtain ⟨_, o, ho, vs, rfl, r1⟩ := rp.cell _ _ _ hm (fun e => nomatch e) hp
          cases ry with
          | lst q2 r2 => exact cat_ok rp ho (rp.ex _ _ q2) r1 r2 hl q
      · cases h
    · cases h
  · split at h
    · rename_i hm
      split at h
      · rename_i hl
        cases h
        cases ry with
        | cell hp =>
          obtain ⟨_, o, ho, vs, rfl, r2⟩ := rp.cell _ _ _ hm (fun e => nomatch e) hp
          cases rx with
          | lst q1 r1 => exact cat_ok rp (rp.ex _ _ q1) ho r1 r2 hl q
      · cases h
    · cases h
  · cases h
def oSub : Mem → D → D → Option D
  | _, .int i, .int j => some (.int (i - j))
  | _, _, _ => none
theorem od_sub : OD X (binaryOp .Sub) oSub := by
  intro F φ m H x y d vx vy rp rx ry h Q q
  unfold oSub at h
  split at h
  · cases h; cases rx; cases ry
    exact ⟨_, op_sub, _, _, rfl, rfl, same rp q (.int _)⟩
  · cases h
def small64 (i : Int) : Bool := decide (-(18446744073709551616) < i) && decide (i < 18446744073709551616)
def oMul : Mem → D → D → Option D
  | _, .int i, .int j => if (small64 i || small64 j) = true then some (.int (i * j)) else none
  | _, .str s, .int j => if -1000000 < j ∧ j < 1000000 ∧ s.length ≤ 16 then some (.str (List.replicate j.toNat s).flatten) else none
  | _, _, _ => none
theorem repl_fold (s : Array Nat) : ∀ (k : Nat) (acc : Array Nat), ((List.replicate k s).foldl (· ++ ·) acc).toList = acc.toList ++ (List.replicate k s.toList).flatten
  | 0, acc => by simp
  | k + 1, acc => by
    rw [List.replicate_succ, List.foldl_cons, repl_fold s k, List.replicate_succ, List.flatten_cons, Array.toList_append, List.append_assoc]
theorem od_mul : OD X (binaryOp .Mult) oMul := by
  intro F φ m H x y d vx vy rp rx ry h Q q
  unfold oMul at h
  split at h
  · split at h
    · rename_i i j hc
      cases h; cases rx; cases ry
      refine ⟨_, op_mul, _, _, rfl, rfl, ?_, same rp q (.int _)⟩
      unfold small64 at hc
      simp only [Bool.or_eq_true, Bool.and_eq_true, decide_eq_true_eq] at hc
      unfold CMul
      have e : (2 : Int) ^ 64 = 18446744073709551616 := by decide
      rw [e]
      exact hc
    · cases h
  · split at h
    · rename_i s j hc
      obtain ⟨h1, h2, h3⟩ := hc
      cases h; cases rx; cases ry
      refine ⟨fun x y H Q => x = .str (S s) ∧ y = .int j ∧ Q (.str (S (List.replicate j.toNat s).flatten)) H, ?_, rfl, rfl, same rp q (.str _)⟩
      intro pins s0 σ H0 x y v u Q0 I rx ry ⟨e1, e2, q0⟩
      subst e1; subst e2
      obtain ⟨t, rfl⟩ := rx
      obtain ⟨u', rfl⟩ := ry
      refine PySem.P.mul_str ?_ ?_ ?_ ?_
      · rw [decide_eq_false (by omega), decide_eq_false (by omega)]; rfl
      · intro hn _
        rw [S_len]
        have : (1 : Int) * 9223372036854775807 / 1000000 ≤ (2 ^ 63 - 1) / j := by
          rw [Int.le_ediv_iff_mul_le (by omega)]
          have : (1 : Int) * 9223372036854775807 / 1000000 = 9223372036854 := by decide
          rw [this]
          have e : (2 : Int) ^ 63 - 1 = 9223372036854775807 := by decide
          rw [e]
          omega
        have e2 : (1 : Int) * 9223372036854775807 / 1000000 = 9223372036854 := by decide
        omega
      · intro hn _
        rw [S_len]
        have : s.length * j.toNat ≤ 16 * 1000000 := Nat.mul_le_mul h3 (by omega)
        have esz : sizeLine = 16777216 := by decide
        unfold Builtin.Str.tooLong
        first
          | exact decide_eq_false (by omega)
          | (simp; omega)
      · have big : (List.replicate j.toNat s).flatten.length ≤ 16777216 := by
          rw [List.length_flatten, List.map_replicate, List.sum_replicate_nat]
          have : j.toNat * s.length ≤ 1000000 * 16 := Nat.mul_le_mul (by omega) h3
          omega
        have fin : ∀ (z : Str) (tk : Tok), z.cps.toList = (List.replicate j.toNat s).flatten → ∀ st : Shared, (∃ k, st = { s0 with toks := k }) → EP X pins σ Q0 (.str z tk) st := fun z tk hz st ⟨k, hk⟩ => by
          subst hk
          have ez : z = S (List.replicate j.toNat s).flatten := by rw [← hz, S_mk]
          subst ez
          exact ⟨V.str (S (List.replicate j.toNat s).flatten), H0, I.tok k, ⟨_, rfl⟩, q0⟩
        split
        · rename_i hn
          refine ⟨by decide, fin _ _ ?_ _ ⟨_, rfl⟩⟩
          have : j.toNat = 0 := by omega
          rw [this]; rfl
        · split
          · rename_i hn h1
            simp only [Bool.or_eq_true, beq_iff_eq, S_len] at h1
            refine fin _ _ ?_ _ ⟨s0.toks, rfl⟩
            rw [S_tl]
            rcases h1 with h1 | h1
            · have : j.toNat = 1 := by omega
              rw [this]; simp
            · have : s = [] := List.eq_nil_of_length_eq_zero h1
              subst this; simp
          · refine ⟨?_, fin _ _ ?_ _ ⟨_, rfl⟩⟩
            · show _
              have : (⟨(List.replicate j.toNat (S s).cps).foldl (· ++ ·) #[]⟩ : Str).length ≤ 16777216 := by
                show Array.size _ ≤ _
                rw [← Array.length_toList, repl_fold]
                simpa [S] using big
              first
                | exact this
                | (simp [Data.fits]; exact this)
                | (show (if _ then _ else _) = none; rw [if_neg (by have := this; omega)])
            · rw [repl_fold]; simp [S]
    · cases h
  · cases h
def oMod : Mem → D → D → Option D
  | _, .int i, .int j => if 0 < j then some (.int (i % j)) else none
  | _, _, _ => none
theorem od_mod : OD X (binaryOp .Mod) oMod := by
  intro F φ m H x y d vx vy rp rx ry h Q q
  unfold oMod at h
  split at h
  · split at h
    · rename_i hj
      cases h; cases rx; cases ry
      exact ⟨_, op_mod, _, _, rfl, rfl, hj, same rp q (.int _)⟩
    · cases h
  · cases h
def oDiv : Mem → D → D → Option D
  | _, .int i, .int j => if 0 < j ∧ j < 18446744073709551616 then some (.int (i / j)) else none
  | _, _, _ => none
theorem od_div : OD X (binaryOp .FloorDiv) oDiv := by
  intro F φ m H x y d vx vy rp rx ry h Q q
  unfold oDiv at h
  split at h
  · split at h
    · rename_i hj
      cases h; cases rx; cases ry
      refine ⟨_, op_fdivW, _, _, rfl, rfl, wide_div (b := 64) hj.1 ?_ (by decide) (by decide), same rp q (.int _)⟩
      have e : (2 : Nat) ^ 64 = 18446744073709551616 := by decide
      rw [e]; omega
    · cases h
  · cases h
def oPow : Mem → D → D → Option D
  | _, .int i, .int j => if 0 ≤ j ∧ j ≤ 64 ∧ i.natAbs.log2 < 100000 then some (.int (i ^ j.toNat)) else none
  | _, _, _ => none
theorem od_pow : OD X (binaryOp .Pow) oPow := by
  intro F φ m H x y d vx vy rp rx ry h Q q
  unfold oPow at h
  split at h
  · split at h
    · rename_i i j hj
      cases h; cases rx; cases ry
      refine ⟨fun x y H Q => x = .int i ∧ y = .int j ∧ Q (.int (i ^ j.toNat)) H, ?_, rfl, rfl, same rp q (.int _)⟩
      intro pins s0 σ H0 x y v u Q0 I rx ry ⟨e1, e2, q0⟩
      subst e1; subst e2
      obtain ⟨t, rfl⟩ := rx
      obtain ⟨u', rfl⟩ := ry
      refine pow_int hj.1 ?_ ⟨V.int (i ^ j.toNat), H0, I.tok _, ⟨_, rfl⟩, q0⟩
      have hb : Builtin.Int.intBits i ≤ i.natAbs.log2 + 1 := by
        unfold Builtin.Int.intBits
        split <;> omega
      have h1 : (Builtin.Int.intBits i : Int) ≤ 100000 := by omega
      have h2 : (Builtin.Int.intBits i : Int) * j ≤ 100000 * 64 := Int.mul_le_mul h1 hj.2.1 hj.1 (by omega)
      have e : (2 : Int) ^ 27 = 134217728 := by decide
      rw [e]; omega
    · cases h
  · cases h
def oNeg : Mem → D → Option D
  | _, .int i => some (.int (-i))
  | _, _ => none
theorem ud_neg : UD X (unaryOp .USub) oNeg := by
  intro F φ m H x d vx rp rx h Q q
  unfold oNeg at h
  split at h
  · cases h; cases rx
    exact ⟨_, un_neg, _, rfl, same rp q (.int _)⟩
  · cases h
/-! comparisons -/
def cI (p : Int → Int → Bool) : Mem → D → D → Option D
  | _, .int i, .int j => some (.bl (p i j))
  | _, _, _ => none
theorem od_lt : OD X (compareOp .Lt) (cI fun i j => decide (i < j)) := by
  intro F φ m H x y d vx vy rp rx ry h Q q
  unfold cI at h
  split at h
  · cases h; cases rx; cases ry
    exact ⟨_, op_lt, _, _, rfl, rfl, same rp q (.bl _)⟩
  · cases h
theorem od_le : OD X (compareOp .LtE) (cI fun i j => decide (i ≤ j)) := by
  intro F φ m H x y d vx vy rp rx ry h Q q
  unfold cI at h
  split at h
  · cases h; cases rx; cases ry
    exact ⟨_, op_le, _, _, rfl, rfl, same rp q (.bl _)⟩
  · cases h
theorem od_gt : OD X (compareOp .Gt) (cI fun i j => decide (j < i)) := by
  intro F φ m H x y d vx vy rp rx ry h Q q
  unfold cI at h
  split at h
  · cases h; cases rx; cases ry
    exact ⟨_, op_gt, _, _, rfl, rfl, same rp q (.bl _)⟩
  · cases h
theorem od_ge : OD X (compareOp .GtE) (cI fun i j => decide (j ≤ i)) := by
  intro F φ m H x y d vx vy rp rx ry h Q q
  unfold cI at h
  split at h
  · cases h; cases rx; cases ry
    exact ⟨_, op_ge, _, _, rfl, rfl, same rp q (.bl _)⟩
  · cases h
/-- data without dicts, of no great depth -/
def okPD (d : PyData) : Bool := d.plain && decide (d.depth ≤ 64)
theorem okPD.p {d : PyData} (h : okPD d = true) : d.plain = true := (Bool.and_eq_true_iff.mp h).1
theorem okPD.room {A : Around} {a b : PyData} (h : okPD a = true) (hu : A.units + 64 < cLine) : A.units + min a.depth b.depth < cLine := by
  have h1 : a.depth ≤ 64 := of_decide_eq_true (Bool.and_eq_true_iff.mp h).2
  have h2 : min a.depth b.depth ≤ a.depth := Nat.min_le_left _ _
  omega
def rEqP (K : PySem.W.Frag) : R2 := fun x y H Q => ∃ d e, Dp K H x d ∧ Dp K H y e ∧ okPD d = true ∧ okPD e = true ∧ Q (.bl (PyData.eqv d e)) H
def rNeP (K : PySem.W.Frag) : R2 := fun x y H Q => ∃ d e, Dp K H x d ∧ Dp K H y e ∧ okPD d = true ∧ okPD e = true ∧ Q (.bl (!PyData.eqv d e)) H
theorem op_eqP (hu : X.A.units + 64 < cLine) : OpR X (compareOp .Eq) (rEqP X.K) := by
  intro pins s σ H x y v u Q I rx ry h
  obtain ⟨d, e, hd, he, sd, se, q⟩ := h
  obtain ⟨as, r1⟩ := Dp.reads I d x v hd rx
  obtain ⟨bs, r2⟩ := Dp.reads I e y u he ry
  exact SeqAt.eq_plain r1 r2 (okPD.p sd) (okPD.p se) (okPD.room sd hu) ⟨.bl _, H, I, rfl, q⟩
theorem op_neP (hu : X.A.units + 64 < cLine) : OpR X (compareOp .NotEq) (rNeP X.K) := by
  intro pins s σ H x y v u Q I rx ry h
  obtain ⟨d, e, hd, he, sd, se, q⟩ := h
  obtain ⟨as, r1⟩ := Dp.reads I d x v hd rx
  obtain ⟨bs, r2⟩ := Dp.reads I e y u he ry
  exact SeqAt.ne_plain r1 r2 (okPD.p sd) (okPD.p se) (okPD.room sd hu) ⟨.bl _, H, I, rfl, q⟩
def eqDt (x y : D) : Option Bool := match x.pd, y.pd with
  | some p, some r => if (okPD p && okPD r) = true then some (PyData.eqv p r) else none
  | _, _ => none
/-- is it a scalar? then so compared; else as data -/
def isSc : D → Bool
  | .non => true | .bl _ => true | .int _ => true | .str _ => true | _ => false
def oEq (_ : Mem) (x y : D) : Option D := if (isSc x && isSc y) = true then (match eqSc x y with | some b => some (.bl b) | none => none) else (match eqDt x y with | some b => some (.bl b) | none => none)
def oNe (_ : Mem) (x y : D) : Option D := if (isSc x && isSc y) = true then (match eqSc x y with | some b => some (.bl (!b)) | none => none) else (match eqDt x y with | some b => some (.bl (!b)) | none => none)
theorem od_eq (hu : X.A.units + 64 < cLine) : OD X (compareOp .Eq) oEq := by
  intro F φ m H x y d vx vy rp rx ry h Q q
  unfold oEq at h
  split at h
  · split at h
    · rename_i b hb
      cases h
      obtain ⟨h1, h2⟩ := eqSc_ok rx ry hb
      refine ⟨_, op_eq, h1, ?_⟩
      rw [h2]
      exact same rp q (.bl _)
    · cases h
  · unfold eqDt at h
    split at h
    · rename_i b hb
      cases h
      split at hb
      · rename_i p r e1 e2
        split at hb
        · rename_i hs
          cases hb
          rw [Bool.and_eq_true] at hs
          exact ⟨_, op_eqP hu, p, r, rx.dp rp.ex e1, ry.dp rp.ex e2, hs.1, hs.2, same rp q (.bl _)⟩
        · cases hb
      · cases hb
    · cases h
theorem od_ne (hu : X.A.units + 64 < cLine) : OD X (compareOp .NotEq) oNe := by
  intro F φ m H x y d vx vy rp rx ry h Q q
  unfold oNe at h
  split at h
  · split at h
    · rename_i b hb
      cases h
      obtain ⟨h1, h2⟩ := eqSc_ok rx ry hb
      refine ⟨_, op_ne, h1, ?_⟩
      rw [h2]
      exact same rp q (.bl _)
    · cases h
  · unfold eqDt at h
    split at h
    · rename_i b hb
      cases h
      split at hb
      · rename_i p r e1 e2
        split at hb
        · rename_i hs
          cases hb
          rw [Bool.and_eq_true] at hs
          exact ⟨_, op_neP hu, p, r, rx.dp rp.ex e1, ry.dp rp.ex e2, hs.1, hs.2, same rp q (.bl _)⟩
        · cases hb
      · cases hb
    · cases h
def isNon : D → Bool
  | .non => true
  | _ => false
theorem VR.isNon {K : PySem.W.Frag} {F : Hp} {φ : List Addr} {d : D} {v : V} (r : VR K F φ d v) : decide (v = .non) = VI.isNon d := by
  cases r <;> first | rfl | exact decide_eq_false (fun e => nomatch e)
def oIs : Mem → D → D → Option D
  | _, x, .non => some (.bl (isNon x))
  | _, .bl a, .bl b => some (.bl (decide (a = b)))
  | _, _, _ => none
def oIsNot : Mem → D → D → Option D
  | _, x, .non => some (.bl (!isNon x))
  | _, .bl a, .bl b => some (.bl (!decide (a = b)))
  | _, _, _ => none
theorem od_is : OD X (compareOp .Is) oIs := by
  intro F φ m H x y d vx vy rp rx ry h Q q
  unfold oIs at h
  split at h
  · cases h; cases ry
    refine ⟨_, op_isN, rfl, ?_⟩
    rw [rx.isNon]
    exact same rp q (.bl _)
  · cases h; cases rx; cases ry
    exact ⟨_, op_isBl, _, _, rfl, rfl, same rp q (.bl _)⟩
  · cases h
theorem od_isnot : OD X (compareOp .IsNot) oIsNot := by
  intro F φ m H x y d vx vy rp rx ry h Q q
  unfold oIsNot at h
  split at h
  · cases h; cases ry
    refine ⟨_, op_notN, rfl, ?_⟩
    rw [rx.isNon]
    exact same rp q (.bl _)
  · cases h; cases rx; cases ry
    exact ⟨_, op_notBl, _, _, rfl, rfl, same rp q (.bl _)⟩
  · cases h
/-- in: of a sign in a text, of a text in a text, of a scalar in a list or tuple of scalars, of data in a list of data -/
def inSub (s t : List Nat) : Bool := !(Builtin.Str.occurrences (S t) (S s) 0 t.length 1).isEmpty
def inFl (x : D) (ds : List D) : Option Bool := match toV x, toVs ds with
  | some v, some vs => some (inV v vs)
  | _, _ => none
def inB : Mem → D → D → Option Bool
  | _, .str [c], .str t => some (decide (c ∈ t))
  | _, .str s, .str t => some (inSub s t)
  | _, x, .lst ds => inFl x ds
  | _, x, .tup ds => inFl x ds
  | _, x, .lsk ds => inFl x ds
  | m, x, .cell i => match m[i]? with
    | some (.lst ds) => inFl x ds
    | _ => none
  | _, _, _ => none
def oIn (m : Mem) (x y : D) : Option D := match inB m x y with | some b => some (.bl b) | none => none
def oNotIn (m : Mem) (x y : D) : Option D := match inB m x y with | some b => some (.bl (!b)) | none => none
theorem flat_of {x : D} {v : V} (h : toV x = some v) : flatV v = true := by
  cases x <;> (unfold toV at h; first | (cases h; rfl) | cases h)
theorem inFl_ok {F φ m H x ds vx p vs b} (rp : Rep X.K F φ m H) (rx : VR X.K F φ x vx) (hs : SqL X.K H p vs ∨ SqT X.K H p vs) (rv : VRs X.K F φ ds vs) (h : inFl x ds = some b) :
    (SqL X.K H p vs ∨ SqT X.K H p vs) ∧ flatV vx = true ∧ vs.all flatV = true ∧ inV vx vs = b := by
  unfold inFl at h
  split at h
  · rename_i v ws e1 e2
    cases h
    obtain ⟨q1, q2⟩ := rv.toVs e2
    have q3 := rx.toV e1
    subst q1 q3
    exact ⟨hs, flat_of e1, q2, rfl⟩
  · cases h
theorem inB_ok {F φ m H x y b vx vy} (rp : Rep X.K F φ m H) (rx : VR X.K F φ x vx) (ry : VR X.K F φ y vy) (h : inB m x y = some b) {Q : VK} (neg : Bool) (q : Q (.bl (if neg then !b else b)) H) :
    (∃ (i : Nat) (j : Str), vx = .str ⟨#[i]⟩ ∧ vy = .str j ∧ b = decide (i ∈ j.cps.toList)) ∨ (∃ i j : Str, vx = .str i ∧ vy = .str j ∧ b = !(Builtin.Str.occurrences j i 0 j.length 1).isEmpty) ∨ rIn X.K neg vx vy H Q := by
  unfold inB at h
  split at h
  · rename_i c t
    cases h; cases rx; cases ry
    exact .inl ⟨c, S t, rfl, rfl, by rw [S_tl]⟩
  · cases h; cases rx; cases ry
    exact .inr (.inl ⟨_, _, rfl, rfl, by rw [S_len]; rfl⟩)
  · cases ry with
    | lst q1 r1 =>
      obtain ⟨h1, h2, h3, h4⟩ := inFl_ok rp rx (.inl (SqL.of (rp.ex _ _ q1))) r1 h
      exact .inr (.inr ⟨_, _, rfl, h1, h2, h3, by rw [h4]; exact q⟩)
  · cases ry with
    | tup q1 r1 =>
      obtain ⟨h1, h2, h3, h4⟩ := inFl_ok rp rx (.inr (Evl.ex_t rp.ex q1)) r1 h
      exact .inr (.inr ⟨_, _, rfl, h1, h2, h3, by rw [h4]; exact q⟩)
  · cases ry with
    | lsk q1 r1 =>
      obtain ⟨h1, h2, h3, h4⟩ := inFl_ok rp rx (.inl (Evl.ex_l rp.ex q1)) r1 h
      exact .inr (.inr ⟨_, _, rfl, h1, h2, h3, by rw [h4]; exact q⟩)
  · split at h
    · rename_i hm
      cases ry with
      | cell hp =>
        obtain ⟨_, o, ho, vs, rfl, r1⟩ := rp.cell _ _ _ hm (fun e => nomatch e) hp
        obtain ⟨h1, h2, h3, h4⟩ := inFl_ok rp rx (.inl (SqL.of ho)) r1 h
        exact .inr (.inr ⟨_, _, rfl, h1, h2, h3, by rw [h4]; exact q⟩)
    · cases h
  · cases h
theorem od_in : OD X (compareOp .In) oIn := by
  intro F φ m H x y d vx vy rp rx ry h Q q
  unfold oIn at h
  split at h
  · rename_i b hb
    cases h
    rcases inB_ok rp rx ry hb (Q := Q) false (same rp q (.bl _)) with ⟨i, j, e1, e2, e3⟩ | ⟨i, j, e1, e2, e3⟩ | e
    · exact ⟨_, op_in_sign, _, _, e1, e2, by rw [← e3]; exact same rp q (.bl _)⟩
    · exact ⟨_, op_in_str, _, _, e1, e2, by rw [← e3]; exact same rp q (.bl _)⟩
    · exact ⟨_, op_in_seq, e⟩
  · cases h
theorem od_notIn : OD X (compareOp .NotIn) oNotIn := by
  intro F φ m H x y d vx vy rp rx ry h Q q
  unfold oNotIn at h
  split at h
  · rename_i b hb
    cases h
    rcases inB_ok rp rx ry hb (Q := Q) true (same rp q (.bl _)) with ⟨i, j, e1, e2, e3⟩ | ⟨i, j, e1, e2, e3⟩ | e
    · exact ⟨_, op_notIn_sign, _, _, e1, e2, by rw [← e3]; exact same rp q (.bl _)⟩
    · exact ⟨_, op_notin_str, _, _, e1, e2, by rw [← e3]; exact same rp q (.bl _)⟩
    · exact ⟨_, op_notIn_seq, e⟩
  · cases h
end
end VI
end
section
namespace VI
open PySem PySem.Spec PyProof.Rows L2

/-! ### defs -/
def fnD (np n : Nat) (b : BF) : FD := fun ds m => if ds.length = np then (match b (ds.map some ++ List.replicate (n - ds.length) none) m with
  | some (.rt d, m1) => some (d, m1)
  | some (.nx _, m1) => some (.non, m1)
  | _ => none) else none
def spD (K : PySem.W.Frag) (g : FD) : Sp := fun vs H Q _ => ∃ F φ m ds d m', Rep K F φ m H ∧ VRs K F φ ds vs ∧ g ds m = some (d, m') ∧ ∀ F' φ' v H', Nxt K F φ m H F' φ' m' H' → VR K F' φ' d v → Q v H'
/-- all arguments by name, in the parameters' order -/
def KwB (fd : FuncData) (ps : List Str) : Prop := ∀ us : List Value, us.length = ps.length → bindArgs fd ⟨[], ps.zip us⟩ = pure (ps.zip us)
structure Fn (P : Program) (w : World) (K : PySem.W.Frag) (mg : Str → Option Value) (base : Heap) (k : Nat) (x : Str) (ps : List Str) (g : FD) : Prop where
  ex : ∃ f fd, FnOk P w K mg base CX0 k f fd ps (spD K g) ∧ mg x = some (.ref f) ∧ PySem.W.keepIn K (.ref f) = true ∧ Binds K fd ps []
structure FnK (P : Program) (w : World) (K : PySem.W.Frag) (mg : Str → Option Value) (base : Heap) (k : Nat) (x : Str) (ps : List Str) (g : FD) : Prop where
  ex : ∃ f fd, FnOk P w K mg base CX0 k f fd ps (spD K g) ∧ mg x = some (.ref f) ∧ PySem.W.keepIn K (.ref f) = true ∧ KwB fd ps
theorem Fn.mono {P w K mg base j k x ps g} (F : Fn P w K mg base j x ps g) (h : j ≤ k) : Fn P w K mg base k x ps g := by
  obtain ⟨f, fd, a, b⟩ := F.ex
  exact ⟨f, fd, a.mono h, b⟩
section
variable {P : Program} {w : World} {K : PySem.W.Frag} {mg : Str → Option Value} {base : Heap}
theorem okD {x qual : Str} {st : Stmt} {f : Addr} {fd : FuncData} {N ps : List Str} {k : Nat} {b : BF} (F : Fun K x qual st f fd) (S : FnScope N ps (defScope st))
    (body : ∀ (cdv : Value) (A : Around) (outer : List PySem.Env) (s : Shared) (H : Hp) (E : XK), Room k (A.deeper (envOfC qual (defScope st) s.heap.objs.size f cdv)) → JB (cxOf CX0 P w K mg base N qual (defScope st) f cdv A outer s H E).nox (defBody st) b) :
    FnOk P w K mg base CX0 (k + 1) f fd ps (spD K (fnD ps.length N.length b)) := by
  refine F.ok S (fun vs H Q E h => ?_) (fun cdv A outer s H vs Q E hr h => ?_)
  · obtain ⟨F0, φ, m, ds, d, m', rp, rv, hg, _⟩ := h
    unfold fnD at hg
    split at hg
    · rename_i hl
      rw [← rv.len]; exact hl
    · cases hg
  · obtain ⟨F0, φ, m, ds, d, m', rp, rv, hg, q⟩ := h
    unfold fnD at hg
    split at hg
    · rename_i hl
      refine ⟨WB _ (defBody st), pss_w, ?_⟩
      split at hg
      · rename_i d1 m1 hb
        cases hg
        exact (body cdv A outer s H E hr).run (X := _) rp (EnvR.begin rfl rv) hb _ fun F' φ' v H' n r => q _ _ _ _ n r
      · rename_i ρ1 m1 hb
        cases hg
        exact (body cdv A outer s H E hr).run (X := _) rp (EnvR.begin rfl rv) hb _ fun F' φ' σ' H' n r => q _ _ _ _ n .non
      · cases hg
    · cases hg
end
section
variable {X : Cx} {a b c e o tg : Expr} {es : List Expr} {pos p apos cpos : Pos} {fa fb fe fo fi : EF} {fr : AF} {x name : Str} {ps : List Str} {g : FD} {k : Nat}
theorem j_call (F : Fn X.prog X.w X.K X.mg X.base k x ps g) (hr : Room k X.A) (ha : JA X (e :: es) fr) (hg : Gl X x := by rfl) (hdb : (x == ("__debug__" : Str)) = false := by decide) (he : starEach (e :: es) X.env = (false, eval e X.env) :: starEach es X.env := by rfl)
    (hpl : (backTo pos (starEach es X.env)).any (·.1) = false := by rfl) : JE X (.Call (.Name x p) (e :: es) [] pos) (eCall g fr) := ⟨fun {F0 φ m H ρ σ d m'} rp er hf Q q => by
  obtain ⟨f, fd, F, hm, hk, hb⟩ := F.ex
  unfold eCall at hf
  split at hf
  · rename_i ds m1 h1
    refine we_of (pe_call F hr hg hm hk hb .nil pass0 pa_w hdb he hpl) (ha.run rp er h1 _ fun F1 φ1 vs H1 n1 r1 => ?_)
    show spD X.K g (vs ++ []) H1 Q E0
    rw [List.append_nil]
    exact ⟨F1, φ1, m1, ds, d, m', n1.rep, r1, hf, fun F' φ' v H' n r => q _ _ _ _ (n1.trans n) r⟩
  · cases hf⟩
theorem j_call0 (F : Fn X.prog X.w X.K X.mg X.base k x ps g) (hr : Room k X.A) (hg : Gl X x := by rfl) (hdb : (x == ("__debug__" : Str)) = false := by decide) : JE X (.Call (.Name x p) [] [] pos) (eCall g aNil) := ⟨fun {F0 φ m H ρ σ d m'} rp er hf Q q => by
  obtain ⟨f, fd, F, hm, hk, hb⟩ := F.ex
  refine we_of (pe_call0 F hr hg hm hk hb .nil pass0 hdb) ?_
  show spD X.K g ([] ++ []) H Q E0
  exact ⟨F0, φ, m, [], d, m', rp, .nil, hf, fun F' φ' v H' n r => q _ _ _ _ n r⟩⟩
/-- f(a = .., b = ..), all by keywords, in the parameters' order -/
def WK (X : Cx) (kws : List Keyword) : TA := fun σ H Q => ∀ (pos : Pos) (pins : List (Addr × Obj)) (s : Shared), Inv X pins σ H s → wpAny (model X.prog X.w) X.A (evalAll ((backToKw pos (keywordEach kws X.env)).map (·.2))) (AP X pins σ Q) X.xe s
structure JK (X : Cx) (kws : List Keyword) (f : AF) : Prop where
  run : ∀ {F φ m H ρ σ ds m'}, Rep X.K F φ m H → EnvR X.K F φ ρ σ → f ρ m = some (ds, m') → ∀ Q : List V → Hp → Prop, (∀ F' φ' vs H', Nxt X.K F φ m H F' φ' m' H' → VRs X.K F' φ' ds vs → Q vs H') → WK X kws σ H Q
theorem pk_w {kws : List Keyword} : PK X kws (WK X kws) := ⟨fun pos pins s σ H Q I h => h pos pins s I⟩
theorem jk_nil : JK X [] aNil := ⟨fun rp er hf Q q => by
  cases hf
  exact fun pos pins s I => pk_nil.run pos pins s _ _ Q I (q _ _ _ _ (Nxt.refl rp) .nil)⟩
theorem jk_cons {nm : Option Str} {kpos : Pos} {kws : List Keyword} (ha : JE X e fe) (hr : JK X kws fr) : JK X (⟨nm, e, kpos⟩ :: kws) (aCons fe fr) := ⟨fun {F φ m H ρ σ ds m'} rp er hf Q q => by
  intro pos pins s I
  refine (pk_cons pe_w pk_w).run pos pins s σ H Q I ?_
  unfold aCons at hf
  split at hf
  · rename_i x m1 h1
    split at hf
    · rename_i xs m2 h2
      cases hf
      refine ha.run rp er h1 _ fun F1 φ1 vx H1 n1 r1 => ?_
      refine hr.run n1.rep (er.mono n1.exF n1.pre) h2 _ fun F2 φ2 vs H2 n2 r2 => ?_
      exact q _ _ _ _ (n1.trans n2) (.cons (r1.mono n2.exF n2.pre) r2)
    · cases hf
  · cases hf⟩
theorem j_callK {kws : List Keyword} (F : FnK X.prog X.w X.K X.mg X.base k x ps g) (hr : Room k X.A) (ha : JK X kws fr) (hks : (backToKw pos (keywordEach kws X.env)).filterMap (·.1) = ps := by rfl) (hg : Gl X x := by rfl)
    (hall : (backToKw pos (keywordEach kws X.env)).all (·.1.isSome) = true := by rfl) (hdb : (x == ("__debug__" : Str)) = false := by decide)
    (hpl : ((backTo pos (starEach [] X.env)).any (·.1) || (backToKw pos (keywordEach kws X.env)).any (·.1.isNone)) = false := by rfl) : JE X (.Call (.Name x p) [] kws pos) (eCall g fr) := ⟨fun {F0 φ m H ρ σ d m'} rp er hf Q q => by
  obtain ⟨f, fd, F, hm, hk, hbk⟩ := F.ex
  unfold eCall at hf
  split at hf
  · rename_i ds m1 h1
    intro pins s I
    refine wpAny_Call_Name_kw (ld_glob I hg hm ?_ hdb)
    refine PySem.W.callWith_KW0 (h₀ := X.base) I.ok.mod.kin hk hall ?_ hpl
    refine thn (ha.run rp er h1 (fun vs H1 => spD X.K g vs H1 Q E0) (fun F1 φ1 vs H1 n1 r1 => ⟨F1, φ1, m1, ds, d, m', n1.rep, r1, hf, fun F' φ' v H' n r => q _ _ _ _ (n1.trans n) r⟩) pos pins s I) fun ws s2 ⟨zs, H2, I2, rz, q2⟩ => ⟨I2.kIn, ?_⟩
    rw [hks]
    have hl : ws.length = ps.length := by rw [← rz.length]; exact F.len _ _ _ E0 q2
    refine wpAny_call (codeAny_mono (F.run X.A X.stack s2 H2 ⟨[], ps.zip ws⟩ ws zs Q E0 hr I2.env0 (.of_eq (hbk ws hl)) rz q2) fun r s' hq => ?_)
    cases r with
    | error e => exact hq.elim
    | ok fl =>
      cases fl with
      | ret u => exact I2.after hq
      | next => exact hq.elim
      | brk => exact hq.elim
      | cont => exact hq.elim
  · cases hf⟩
end
end VI
end
section
namespace VI
open PySem PySem.Spec PyProof.Rows L2

section
variable {K : PySem.W.Frag} {F : Hp} {φ : List Addr}
theorem VRs.atI {ds : List D} {vs : List V} {i : Int} {d : D} (r : VRs K F φ ds vs) (h : L2.atI ds i = some d) : ∃ v, L2.atI vs i = some v ∧ VR K F φ d v := by
  unfold L2.atI at h ⊢
  rw [← r.len]
  cases e : ixN ds.length i with
  | none => rw [e] at h; cases h
  | some j =>
    rw [e] at h
    obtain ⟨v, h1, h2⟩ := r.get h
    exact ⟨v, h1, h2⟩
def cutD {α : Type} (xs : List α) (lo hi : Option Int) : List α := (xs.drop (HT.sIx xs.length 0 lo)).take (HT.sIx xs.length xs.length hi - HT.sIx xs.length 0 lo)
theorem VRs.cut {ds : List D} {vs : List V} (r : VRs K F φ ds vs) (lo hi : Option Int) : VRs K F φ (cutD ds lo hi) (cutV vs lo hi) := by
  unfold cutD cutV
  rw [← r.len]
  exact (r.drop _).take _
theorem cutS_S (s : List Nat) (lo hi : Option Int) : cutS (S s) lo hi = S (cutD s lo hi) := by
  unfold cutS cutD S
  simp [Str.length]
end
section
variable {X : Cx} {a b c e o tg : Expr} {es : List Expr} {pos p apos cpos : Pos} {fa fb fe fo fi : EF} {fr : AF} {x name : Str}

/-! ### subscripts -/
def oIx : Mem → D → D → Option D
  | _, .tup ds, .int i => atI ds i
  | _, .lst ds, .int i => atI ds i
  | _, .lsk ds, .int i => atI ds i
  | m, .cell c, .int i => match m[c]? with
    | some (.lst ds) => atI ds i
    | _ => none
  | _, .str s, .int i => if s.length ≤ 16777216 then (match atI s i with | some c => some (.str [c]) | none => none) else none
  | _, _, _ => none
theorem j_ix (ha : JE X a fa) (hb : JE X b fb) (hs : PlainIx b := by exact fun _ _ => rfl) : JE X (.Subscript a b pos) (eOp oIx fa fb) := ⟨fun rp er hf Q q => by
  refine we_of (pe_ix ixr_w pe_w pe_w hs) ?_
  refine two (Q := Q) ha hb rp er hf fun F2 φ2 H2 x y vx vy n rx ry h => ?_
  unfold oIx at h
  split at h
  · cases ry
    cases rx with
    | tup q1 r1 =>
      obtain ⟨v, h1, h2⟩ := r1.atI h
      exact ⟨_, ix_tup, _, _, _, v, rfl, rfl, Evl.ex_t n.rep.ex q1, h1, q _ _ _ _ n h2⟩
  · cases ry
    cases rx with
    | lst q1 r1 =>
      obtain ⟨v, h1, h2⟩ := r1.atI h
      exact ⟨_, ix_list, _, _, _, v, rfl, rfl, SqL.of (n.rep.ex _ _ q1), h1, q _ _ _ _ n h2⟩
  · cases ry
    cases rx with
    | lsk q1 r1 =>
      obtain ⟨v, h1, h2⟩ := r1.atI h
      exact ⟨_, ix_list, _, _, _, v, rfl, rfl, Evl.ex_l n.rep.ex q1, h1, q _ _ _ _ n h2⟩
  · split at h
    · rename_i hm
      cases ry
      cases rx with
      | cell hp =>
        obtain ⟨_, o, ho, vs, rfl, r1⟩ := n.rep.cell _ _ _ hm (fun e => nomatch e) hp
        obtain ⟨v, h1, h2⟩ := r1.atI h
        exact ⟨_, ix_list, _, _, _, v, rfl, rfl, SqL.of ho, h1, q _ _ _ _ n h2⟩
    · cases h
  · split at h
    · rename_i hl
      split at h
      · rename_i c hc
        cases h; cases rx; cases ry
        refine ⟨_, ix_str, _, _, c, rfl, rfl, ?_, ?_, q _ _ _ _ n (.str [c])⟩
        · rw [S_len]; exact hl
        · rw [S_tl]; exact hc
      · cases h
    · cases h
  · cases h⟩
/-! ### slices -/
abbrev PFn := Env → Mem → Option (Option Int × Mem)
def WP (X : Cx) (e : Option Expr) : TO := fun σ H Q => ∀ pins s, Inv X pins σ H s → wpAny (model X.prog X.w) X.A (evalPart e X.env) (fun u s' => ∃ o H', Inv X pins σ H' s' ∧ IsPart u o ∧ Q o H') X.xe s
theorem po_w {e : Option Expr} : PO X e (WP X e) := ⟨fun pins s σ H Q I h => h pins s I⟩
structure JP (X : Cx) (e : Option Expr) (f : PFn) : Prop where
  run : ∀ {F φ m H ρ σ o m'}, Rep X.K F φ m H → EnvR X.K F φ ρ σ → f ρ m = some (o, m') → ∀ Q : Option Int → Hp → Prop, (∀ F' φ' H', Nxt X.K F φ m H F' φ' m' H' → Q o H') → WP X e σ H Q
def pNo : PFn := fun _ m => some (none, m)
def pSo (f : EF) : PFn := fun ρ m => match f ρ m with
  | some (.int i, m1) => some (some i, m1)
  | _ => none
theorem jp_no : JP X none pNo := ⟨fun rp er hf Q q pins s I => by
  cases hf
  exact po_none.run pins s _ _ Q I (q _ _ _ (Nxt.refl rp))⟩
theorem jp_so (h : JE X e fe) : JP X (some e) (pSo fe) := ⟨fun {F φ m H ρ σ o m'} rp er hf Q q pins s I => by
  refine (po_some pe_w).run pins s σ H Q I ?_
  unfold pSo at hf
  split at hf
  · rename_i i m1 h1
    cases hf
    refine h.run rp er h1 _ fun F1 φ1 v H1 n1 r1 => ?_
    cases r1
    exact ⟨i, rfl, q _ _ _ n1⟩
  · cases hf⟩
def slD : Mem → D → Option Int → Option Int → Option D
  | _, .str s, lo, hi => if s.length ≤ 16777216 then some (.str (cutD s lo hi)) else none
  | _, .tup ds, lo, hi => some (.tup (cutD ds lo hi))
  | _, .lst ds, lo, hi => some (.lst (cutD ds lo hi))
  | _, .lsk ds, lo, hi => some (.lst (cutD ds lo hi))
  | m, .cell c, lo, hi => match m[c]? with
    | some (.lst ds) => some (.lst (cutD ds lo hi))
    | _ => none
  | _, _, _, _ => none
def eSl (fa : EF) (f1 f2 : PFn) : EF := fun ρ m => match fa ρ m with
  | some (x, m1) => match f1 ρ m1 with
    | some (lo, m2) => match f2 ρ m2 with
      | some (hi, m3) => match slD m3 x lo hi with
        | some d => some (d, m3)
        | none => none
      | none => none
    | none => none
  | none => none
theorem cutD_all {α : Type} {xs : List α} {lo hi : Option Int} (h : HT.sIx xs.length 0 lo = 0 ∧ HT.sIx xs.length xs.length hi = xs.length) : cutD xs lo hi = xs := by
  unfold cutD
  rw [h.1, h.2, List.drop_zero, Nat.sub_zero, List.take_length]
theorem j_sl {lo hi : Option Expr} {f1 f2 : PFn} {p2 : Pos} (ha : JE X a fa) (h1 : JP X lo f1) (h2 : JP X hi f2) : JE X (.Subscript a (.Slice lo hi none p2) pos) (eSl fa f1 f2) := ⟨fun {F φ m H ρ σ d m'} rp er hf Q q => by
  refine we_of (pe_slice slr_w pe_w po_w po_w) ?_
  unfold eSl at hf
  split at hf
  · rename_i x m1 e1
    split at hf
    · rename_i lo' m2 e2
      split at hf
      · rename_i hi' m3 e3
        split at hf
        · rename_i d' e4
          cases hf
          refine ha.run rp er e1 _ fun F1 φ1 v H1 n1 r1 => ?_
          have er1 := er.mono n1.exF n1.pre
          refine h1.run n1.rep er1 e2 _ fun F2 φ2 H2 n2 => ?_
          refine h2.run n2.rep (er1.mono n2.exF n2.pre) e3 _ fun F3 φ3 H3 n3 => ?_
          have n := (n1.trans n2).trans n3
          have r3 := (r1.mono n2.exF n2.pre).mono n3.exF n3.pre
          have lst : ∀ {p : Addr} {ds : List D} {vs : List V}, SqL X.K H3 p vs → VRs X.K F3 φ3 ds vs → d = .lst (cutD ds lo' hi') → ∃ rr, SlR X rr ∧ rr (.ref p) lo' hi' H3 Q := fun {p ds vs} hs hr hd => by
            refine ⟨_, sl_list, p, vs, rfl, hs, fun p' hp => ?_⟩
            have n4 := n3.rep.frozen (o := .lst (cutV vs lo' hi')) hp
            subst hd
            exact q _ _ _ _ (n.trans n4) (.lst upd_same ((hr.cut lo' hi').mono n4.exF n4.pre))
          unfold slD at e4
          split at e4
          · split at e4
            · rename_i s hl
              cases e4; cases r3
              refine ⟨_, sl_str, S s, rfl, ?_, ?_⟩
              · rw [S_len]; exact hl
              · rw [cutS_S]; exact q _ _ _ _ n (.str _)
            · cases e4
          · rename_i ds
            cases e4
            cases r3 with
            | @tup p _ vs q1 rv =>
              refine ⟨_, sl_tupA, p, vs, rfl, Evl.ex_t n3.rep.ex q1, fun hw => ?_, fun _ p' hp => ?_⟩
              · rw [← rv.len] at hw
                rw [cutD_all hw] at q
                exact q _ _ _ _ n (.tup q1 rv)
              · have n4 := n3.rep.frozen (o := .tup (cutV vs lo' hi')) hp
                exact q _ _ _ _ (n.trans n4) (.tup (SqT.of upd_same) ((rv.cut lo' hi').mono n4.exF n4.pre))
          · cases e4
            cases r3 with
            | lst q1 rv => exact lst (SqL.of (n3.rep.ex _ _ q1)) rv rfl
          · cases e4
            cases r3 with
            | lsk q1 rv => exact lst (Evl.ex_l n3.rep.ex q1) rv rfl
          · split at e4
            · rename_i hm
              cases e4
              cases r3 with
              | cell hp =>
                obtain ⟨_, o, ho, vs, rfl, rv⟩ := n3.rep.cell _ _ _ hm (fun e => nomatch e) hp
                exact lst (SqL.of ho) rv rfl
            · cases e4
          · cases e4
        · cases hf
      · cases hf
    · cases hf
  · cases hf⟩
/-! ### xs[i] = v, d[k] = v -/
def toKey : D → Option Key
  | .int i => some (.inl i)
  | .str s => some (.inr (S s))
  | _ => none
def putD (kvs : List (Key × D)) (k : Key) (v : D) : List (Key × D) := match kvs with
  | [] => [(k, v)]
  | (k', v') :: r => if k' = k then (k, v) :: r else (k', v') :: putD r k v
def gIx (fo fi : EF) : GF := fun d ρ m => match fo ρ m with
  | some (.cell c, m1) => match fi ρ m1 with
    | some (.int i, m2) => match m2[c]? with
      | some (.lst ds) => match ixN ds.length i with
        | some j => some (ρ, m2.set c (.lst (ds.set j d)))
        | none => none
      | _ => none
    | _ => none
  | _ => none
theorem jg_ix (ho : JE X o fo) (hi : JE X e fi) (ha : ∀ v, assign (.Subscript o e pos) X.env v = (do
      let ov ← holding [v] (eval o X.env)
      let iv ← holding [v, ov] (eval e X.env)
      standAt pos
      holding [v, ov, iv] (setItem ov iv v)
      release [v, ov, iv] []) := by intro _; rfl) : JG X (.Subscript o e pos) (gIx fo fi) [] := ⟨fun {F φ m H ρ σ d v ρ' m'} rp er rv hf Q q => by
  refine wg_of (pg_sub pe_w pe_w set_list ha) ?_
  unfold gIx at hf
  split at hf
  · rename_i c m1 e1
    split at hf
    · rename_i i m2 e2
      split at hf
      · rename_i ds hm
        split at hf
        · rename_i j hj
          cases hf
          refine ho.run rp er e1 _ fun F1 φ1 vo H1 n1 r1 => ?_
          refine hi.run n1.rep (er.mono n1.exF n1.pre) e2 _ fun F2 φ2 vi H2 n2 r2 => ?_
          have n := n1.trans n2
          cases r2
          have r1' := r1.mono n2.exF n2.pre
          cases r1' with
          | @cell _ a hp =>
            obtain ⟨_, o, ho2, vs, rfl, r3⟩ := n2.rep.cell _ _ _ hm (fun e => nomatch e) hp
            refine ⟨a, vs, i, j, rfl, rfl, ho2, by rw [← r3.len]; exact hj, ?_⟩
            have n3 := n2.rep.write (y := O.lst (ds.set j d)) (o := .lst (vs.set j v)) hm (fun e => nomatch e) hp (fun e => nomatch e) ⟨_, rfl, r3.set (rv.mono n.exF n.pre) j⟩
            exact q _ _ _ _ (n.trans n3) (er.mono n.exF n.pre) (But.refl _ _)
        · cases hf
      · cases hf
    · cases hf
  · cases hf⟩

/-! ### what a for walks -/
theorem it_list {F : Hp} {φ : List Addr} {a : Addr} {ds : List D} {vs : List V} {K : PySem.W.Frag} (h : SqL K F a vs) (r : VRs K F φ ds vs) : ItD K F φ (Itl K a) ds :=
  ⟨fun i H ex hi => by
    obtain ⟨v, h1, _⟩ := r.get (List.getElem?_eq_getElem hi)
    exact ⟨vs, v, Evl.ex_l ex h, h1⟩,
   fun i F1 φ1 m1 H x H' d rp ex pr hd hy => by
    obtain ⟨e, hy⟩ := hy
    subst e
    obtain ⟨v, h1, h2⟩ := r.get hd
    have := hy vs (Evl.ex_l (ex.trans rp.ex) h)
    rw [h1] at this
    cases this
    exact ⟨F1, Nxt.refl rp, h2.mono ex pr⟩,
   fun i H ex hi => ⟨vs, Evl.ex_l ex h, by rw [← r.len]; exact hi⟩⟩
theorem it_tup {F : Hp} {φ : List Addr} {a : Addr} {ds : List D} {vs : List V} {K : PySem.W.Frag} (h : SqT K F a vs) (r : VRs K F φ ds vs) : ItD K F φ (Itt K a) ds :=
  ⟨fun i H ex hi => by
    obtain ⟨v, h1, _⟩ := r.get (List.getElem?_eq_getElem hi)
    exact ⟨vs, v, Evl.ex_t ex h, h1⟩,
   fun i F1 φ1 m1 H x H' d rp ex pr hd hy => by
    obtain ⟨e, hy⟩ := hy
    subst e
    obtain ⟨v, h1, h2⟩ := r.get hd
    have := hy vs (Evl.ex_t (ex.trans rp.ex) h)
    rw [h1] at this
    cases this
    exact ⟨F1, Nxt.refl rp, h2.mono ex pr⟩,
   fun i H ex hi => ⟨vs, Evl.ex_t ex h, by rw [← r.len]; exact hi⟩⟩
def rngD (lo : Int) (n : Nat) : List D := (List.range n).map fun (i : Nat) => D.int (lo + (i : Int))
theorem rngD_len (lo : Int) (n : Nat) : (rngD lo n).length = n := by simp [rngD]
theorem rngD_get {lo : Int} {n i : Nat} {d : D} (h : (rngD lo n)[i]? = some d) : d = .int (lo + i) := by
  unfold rngD at h
  rw [List.getElem?_map] at h
  by_cases hi : i < n
  · rw [List.getElem?_range hi] at h
    cases h; rfl
  · rw [List.getElem?_eq_none (by simp; omega)] at h
    cases h
theorem it_rng {F : Hp} {φ : List Addr} {K : PySem.W.Frag} (lo : Int) (n : Nat) : ItD K F φ (Itr lo n) (rngD lo n) :=
  ⟨fun i H ex hi => by rw [rngD_len] at hi; exact hi,
   fun i F1 φ1 m1 H x H' d rp ex pr hd hy => by
    obtain ⟨e, hy⟩ := hy
    subst e; subst hy
    rw [rngD_get hd]
    exact ⟨F1, Nxt.refl rp, .int _⟩,
   fun i H ex hi => by rw [rngD_len] at hi; exact hi⟩
theorem it_str {F : Hp} {φ : List Addr} {K : PySem.W.Frag} (s : List Nat) : ItD K F φ (Its (S s)) (s.map fun c => .str [c]) :=
  ⟨fun i H ex hi => by
    have h : i < (S s).cps.size := by
      have := S_len s
      unfold Str.length at this
      rw [this]; simpa using hi
    exact h,
   fun i F1 φ1 m1 H x H' d rp ex pr hd hy => by
    obtain ⟨e, c, hc, hx⟩ := hy
    subst e; subst hx
    have h2 : s[i]? = some c := by
      have : (S s).cps[i]? = s[i]? := by
        rw [← Array.getElem?_toList, S_tl]
      rw [← this]; exact hc
    rw [List.getElem?_map, h2] at hd
    cases hd
    exact ⟨F1, Nxt.refl rp, .str [c]⟩,
   fun i H ex hi => by
    have h : (S s).cps.size ≤ i := by
      have := S_len s
      unfold Str.length at this
      rw [this]; simpa using hi
    exact h⟩
def aIt (f : EF) : AF := fun ρ m => match f ρ m with
  | some (.tup ds, m1) => some (ds, m1)
  | some (.lst ds, m1) => some (ds, m1)
  | some (.lsk ds, m1) => some (ds, m1)
  | some (.str s, m1) => some (s.map fun c => .str [c], m1)
  | _ => none
theorem ji_e (h : JE X e fe) : JI X tg e (aIt fe) := ⟨fun {F φ m H ρ σ ds m'} rp er hf R q => by
  unfold aIt at hf
  split at hf
  · rename_i ds m1 h1
    cases hf
    refine wi_of (pi_tup pe_w) (h.run rp er h1 _ fun F1 φ1 v H1 n1 r1 => ?_)
    cases r1 with
    | @tup a _ vs q1 rv => exact ⟨a, rfl, ⟨vs, Evl.ex_t n1.rep.ex q1⟩, q _ _ _ _ n1 (it_tup q1 rv)⟩
  · rename_i ds m1 h1
    cases hf
    refine wi_of (pi_list pe_w) (h.run rp er h1 _ fun F1 φ1 v H1 n1 r1 => ?_)
    cases r1 with
    | @lst a _ vs q1 rv => exact ⟨a, rfl, ⟨vs, SqL.of (n1.rep.ex _ _ q1)⟩, q _ _ _ _ n1 (it_list (SqL.of q1) rv)⟩
  · rename_i ds m1 h1
    cases hf
    refine wi_of (pi_list pe_w) (h.run rp er h1 _ fun F1 φ1 v H1 n1 r1 => ?_)
    cases r1 with
    | @lsk a _ vs q1 rv => exact ⟨a, rfl, ⟨vs, Evl.ex_l n1.rep.ex q1⟩, q _ _ _ _ n1 (it_list q1 rv)⟩
  · rename_i s m1 h1
    cases hf
    refine wi_of (pi_str pe_w) (h.run rp er h1 _ fun F1 φ1 v H1 n1 r1 => ?_)
    cases r1
    exact ⟨S s, rfl, q _ _ _ _ n1 (it_str s)⟩
  · cases hf⟩
def big62 (i : Int) : Bool := decide (-(4611686018427387904) ≤ i) && decide (i < 4611686018427387904)
theorem big62_ok {i : Int} (h : big62 i = true) : -(2 ^ 62) ≤ i ∧ i < 2 ^ 62 := by
  unfold big62 at h
  simp only [Bool.and_eq_true, decide_eq_true_eq] at h
  have e : (2 : Int) ^ 62 = 4611686018427387904 := by decide
  rw [e]; exact h
def aRng1 (f : EF) : AF := fun ρ m => match f ρ m with
  | some (.int i, m1) => if big62 i = true then some (rngD 0 i.toNat, m1) else none
  | _ => none
def aRng2 (f g : EF) : AF := fun ρ m => match f ρ m with
  | some (.int i, m1) => match g ρ m1 with
    | some (.int j, m2) => if (big62 i && big62 j) = true then some (rngD i (j - i).toNat, m2) else none
    | _ => none
  | _ => none
theorem ji_rng1 (h : JE X e fe) (hm : X.mg "range" = none) (hg : Gl X "range" := by rfl) (hs : starEach [e] X.env = [(false, eval e X.env)] := by rfl) : JI X tg (.Call (.Name "range" p) [e] [] pos) (aRng1 fe) := ⟨fun {F φ m H ρ σ ds m'} rp er hf R q => by
  unfold aRng1 at hf
  split at hf
  · rename_i i m1 h1
    split at hf
    · rename_i hb
      cases hf
      refine wi_of (pi_range1 hg hm pa_w hs) ?_
      refine (ja_cons (X := X) h ja_nil hs).run rp er (ds := [.int i]) (m' := m') ?_ _ fun F1 φ1 vs H1 n1 r1 => ?_
      · unfold aCons; rw [h1]; rfl
      · cases r1 with
        | cons r0 rr =>
          cases r0; cases rr
          exact ⟨i, rfl, (big62_ok hb).1, (big62_ok hb).2, q _ _ _ _ n1 (it_rng 0 _)⟩
    · cases hf
  · cases hf⟩
theorem ji_rng2 (ha : JE X a fa) (hb : JE X b fb) (hm : X.mg "range" = none) (hg : Gl X "range" := by rfl) (hs : starEach [a, b] X.env = [(false, eval a X.env), (false, eval b X.env)] := by rfl) (hs2 : starEach [b] X.env = [(false, eval b X.env)] := by rfl) :
    JI X tg (.Call (.Name "range" p) [a, b] [] pos) (aRng2 fa fb) := ⟨fun {F φ m H ρ σ ds m'} rp er hf R q => by
  unfold aRng2 at hf
  split at hf
  · rename_i i m1 h1
    split at hf
    · rename_i j m2 h2
      split at hf
      · rename_i hbb
        cases hf
        rw [Bool.and_eq_true] at hbb
        refine wi_of (pi_range2 hg hm pa_w hs hs2) ?_
        refine (ja_cons (X := X) ha (ja_cons hb ja_nil hs2) (by rw [hs, hs2])).run rp er (ds := [.int i, .int j]) (m' := m') ?_ _ fun F1 φ1 vs H1 n1 r1 => ?_
        · simp only [aCons, h1, h2, aNil]
        · cases r1 with
          | cons r0 rr =>
            cases rr with
            | cons r1 rr =>
              cases r0; cases r1; cases rr
              exact ⟨i, j, rfl, ⟨(big62_ok hbb.1).1, (big62_ok hbb.1).2, (big62_ok hbb.2).1, (big62_ok hbb.2).2⟩, q _ _ _ _ n1 (it_rng i _)⟩
      · cases hf
    · cases hf
  · cases hf⟩
end
end VI
end
section
namespace VI
open PySem PySem.Spec PyProof.Rows L2

section
variable {X : Cx} {a b c e f o tg : Expr} {es : List Expr} {pos p apos cpos : Pos} {fa fb fe ff fo fi : EF} {fr : AF} {x name : Str}

/-! ### built-in functions, types by name -/
def CB (X : Cx) (f : Value) (r : Mem → List D → Option D) : Prop :=
  ∀ {F φ m H ds d vs}, Rep X.K F φ m H → VRs X.K F φ ds vs → r m ds = some d → ∀ Q : VK, (∀ F' φ' v H', Nxt X.K F φ m H F' φ' m H' → VR X.K F' φ' d v → Q v H') → ∃ rr, CallR X f rr ∧ rr vs H Q
def eBlt (r : Mem → List D → Option D) (fr : AF) : EF := fun ρ m => match fr ρ m with
  | some (ds, m1) => match r m1 ds with
    | some d => some (d, m1)
    | none => none
  | none => none
theorem j_bltB {id : String} {r : Mem → List D → Option D} (hc : CB X (.builtin id) r) (hm : X.mg x = none) (hv : bootBuiltins x = some (.builtin id)) (ha : JA X (e :: es) fr) (hg : Gl X x := by rfl) (hn : x ≠ "__name__" := by decide)
    (hdb : (x == ("__debug__" : Str)) = false := by decide) (he : starEach (e :: es) X.env = (false, eval e X.env) :: starEach es X.env := by rfl) (hpl : (backTo pos (starEach es X.env)).any (·.1) = false := by rfl) :
    JE X (.Call (.Name x p) (e :: es) [] pos) (eBlt r fr) := ⟨fun {F φ m H ρ σ d m'} rp er hf Q q => by
  unfold eBlt at hf
  split at hf
  · rename_i ds m1 h1
    split at hf
    · rename_i d' h2
      cases hf
      refine we_of (pe_callB callr_w hg hm hv pa_w hn hdb he hpl) (ha.run rp er h1 _ fun F1 φ1 vs H1 n1 r1 => ?_)
      exact hc n1.rep r1 h2 Q fun F' φ' v H' n r => q _ _ _ _ (n1.trans n) r
    · cases hf
  · cases hf⟩
theorem j_bltT {T : String} {r : Mem → List D → Option D} (hc : CB X (.type T) r) (hm : X.mg x = none) (hv : bootBuiltins x = some (.type T)) (ha : JA X (e :: es) fr) (hg : Gl X x := by rfl) (hn : x ≠ "__name__" := by decide)
    (hdb : (x == ("__debug__" : Str)) = false := by decide) (he : starEach (e :: es) X.env = (false, eval e X.env) :: starEach es X.env := by rfl) (hpl : (backTo pos (starEach es X.env)).any (·.1) = false := by rfl) :
    JE X (.Call (.Name x p) (e :: es) [] pos) (eBlt r fr) := ⟨fun {F φ m H ρ σ d m'} rp er hf Q q => by
  unfold eBlt at hf
  split at hf
  · rename_i ds m1 h1
    split at hf
    · rename_i d' h2
      cases hf
      refine we_of (pe_callTy callr_w hg hm hv pa_w hn hdb he hpl) (ha.run rp er h1 _ fun F1 φ1 vs H1 n1 r1 => ?_)
      exact hc n1.rep r1 h2 Q fun F' φ' v H' n r => q _ _ _ _ (n1.trans n) r
    · cases hf
  · cases hf⟩
/-- a built-in type as a value -/
theorem j_ty {n : String} (hm : X.mg x = none) (hv : bootBuiltins x = some (.type n)) (hg : Gl X x := by rfl) (hn : x ≠ "__name__" := by decide) (hd : (x == ("__debug__" : Str)) = false := by decide) : JE X (.Name x pos) (eC (.ty n)) := ⟨fun rp er hf Q q => by
  cases hf
  exact we_of (pe_bltn (v := V.ty n) hg hm hv rfl hn hd) (q _ _ _ _ (Nxt.refl rp) (.ty n))⟩
theorem VRs.one {K F φ d vs} (r : VRs K F φ [d] vs) : ∃ v, vs = [v] ∧ VR K F φ d v := by
  cases r with
  | cons r0 rr => cases rr; exact ⟨_, rfl, r0⟩
theorem VRs.two {K F φ d1 d2 vs} (r : VRs K F φ [d1, d2] vs) : ∃ v w, vs = [v, w] ∧ VR K F φ d1 v ∧ VR K F φ d2 w := by
  cases r with
  | cons r0 rr =>
    obtain ⟨w, rfl, h⟩ := VRs.one rr
    exact ⟨_, _, rfl, r0, h⟩
def bLen : Mem → List D → Option D
  | _, [.str s] => if s.length ≤ 16777216 then some (.int s.length) else none
  | _, [.tup ds] => some (.int ds.length)
  | _, [.lst ds] => some (.int ds.length)
  | _, [.lsk ds] => some (.int ds.length)
  | m, [.cell c] => match m[c]? with
    | some (.lst ds) => some (.int ds.length)
    | some (.dct ds) => some (.int ds.length)
    | _ => none
  | _, _ => none
theorem KR.len {K F φ} : ∀ {ds vs}, KR K F φ ds vs → ds.length = vs.length
  | _, _, .nil => rfl
  | _, _, .cons _ r => by rw [List.length_cons, List.length_cons, KR.len r]
theorem cb_len : CB X (.builtin "len") bLen := by
  intro F φ m H ds d vs rp r h Q q
  unfold bLen at h
  split at h
  · split at h
    · rename_i hl
      cases h
      obtain ⟨v, rfl, r0⟩ := r.one
      cases r0
      refine ⟨_, call_len_str, _, rfl, by rw [S_len]; exact hl, ?_⟩
      rw [S_len]; exact same rp q (.int _)
    · cases h
  · cases h
    obtain ⟨v, rfl, r0⟩ := r.one
    cases r0 with
    | tup q1 rv => exact ⟨_, call_len_seq, _, _, rfl, .inr (Evl.ex_t rp.ex q1), by rw [← rv.len]; exact same rp q (.int _)⟩
  · cases h
    obtain ⟨v, rfl, r0⟩ := r.one
    cases r0 with
    | lst q1 rv => exact ⟨_, call_len_seq, _, _, rfl, .inl (SqL.of (rp.ex _ _ q1)), by rw [← rv.len]; exact same rp q (.int _)⟩
  · cases h
    obtain ⟨v, rfl, r0⟩ := r.one
    cases r0 with
    | lsk q1 rv => exact ⟨_, call_len_seq, _, _, rfl, .inl (Evl.ex_l rp.ex q1), by rw [← rv.len]; exact same rp q (.int _)⟩
  · obtain ⟨v, rfl, r0⟩ := r.one
    cases r0 with
    | cell hp =>
      split at h
      · rename_i hm
        cases h
        obtain ⟨_, o, ho, vs, rfl, rv⟩ := rp.cell _ _ _ hm (fun e => nomatch e) hp
        exact ⟨_, call_len_seq, _, _, rfl, .inl (SqL.of ho), by rw [← rv.len]; exact same rp q (.int _)⟩
      · rename_i hm
        cases h
        obtain ⟨_, o, ho, vs, rfl, rv⟩ := rp.cell _ _ _ hm (fun e => nomatch e) hp
        exact ⟨_, call_lenD, _, _, rfl, ho, by rw [← rv.len]; exact same rp q (.int _)⟩
      · cases h
  · cases h
def bAbs : Mem → List D → Option D
  | _, [.int i] => some (.int (if i < 0 then -i else i))
  | _, _ => none
theorem cb_abs : CB X (.builtin "abs") bAbs := by
  intro F φ m H ds d vs rp r h Q q
  unfold bAbs at h
  split at h
  · cases h
    obtain ⟨v, rfl, r0⟩ := r.one
    cases r0
    exact ⟨_, call_abs, _, rfl, same rp q (.int _)⟩
  · cases h
def bInt : Mem → List D → Option D
  | _, [.int i] => some (.int i)
  | _, [.bl b] => some (.int (if b then 1 else 0))
  | _, _ => none
theorem cb_int : CB X (.type "int") bInt := by
  intro F φ m H ds d vs rp r h Q q
  unfold bInt at h
  split at h
  · cases h
    obtain ⟨v, rfl, r0⟩ := r.one
    cases r0
    exact ⟨_, call_int1, .inl ⟨_, rfl, same rp q (.int _)⟩⟩
  · cases h
    obtain ⟨v, rfl, r0⟩ := r.one
    cases r0
    exact ⟨_, call_int1, .inr ⟨_, rfl, same rp q (.int _)⟩⟩
  · cases h
def bMax2 : Mem → List D → Option D
  | _, [.int i, .int j] => some (.int (if j > i then j else i))
  | _, _ => none
theorem cb_max2 (hc : X.calm = true) : CB X (.builtin "max") bMax2 := by
  intro F φ m H ds d vs rp r h Q q
  unfold bMax2 at h
  split at h
  · cases h
    obtain ⟨v, w, rfl, r0, r1⟩ := r.two
    cases r0; cases r1
    exact ⟨_, call_max2 hc, _, _, rfl, same rp q (.int _)⟩
  · cases h
def bMin2 : Mem → List D → Option D
  | _, [.int i, .int j] => some (.int (if j < i then j else i))
  | _, _ => none
theorem cb_min2 (hc : X.calm = true) : CB X (.builtin "min") bMin2 := by
  intro F φ m H ds d vs rp r h Q q
  unfold bMin2 at h
  split at h
  · cases h
    obtain ⟨v, w, rfl, r0, r1⟩ := r.two
    cases r0; cases r1
    exact ⟨_, call_min2 hc, _, _, rfl, same rp q (.int _)⟩
  · cases h
/-- the name of a value's type -/
def tyN (m : Mem) : D → Option String
  | .non => some "NoneType" | .bl _ => some "bool" | .int _ => some "int" | .str _ => some "str" | .tup _ => some "tuple" | .lst _ => some "list"
  | .cell c => match m[c]? with
    | some (.lst _) => some "list"
    | some (.dct _) => some "dict"
    | _ => none
  | _ => none
def subT (t n : String) : Bool := t == n || (t == "bool" && n == "int")
def bIsi : Mem → List D → Option D
  | m, [x, .ty n] => match tyN m x with
    | some t => if ["bool", "int", "str", "tuple", "list", "dict"].contains n = true then some (.bl (subT t n)) else none
    | none => none
  | _, _ => none
theorem tyN_ok {K F φ m H x vx t} (rp : Rep K F φ m H) (r : VR K F φ x vx) (h : tyN m x = some t) : TyX K H vx (.type t) ∧ t ∈ ["NoneType", "bool", "int", "str", "tuple", "list", "dict"] := by
  unfold tyN at h
  split at h
  · cases h; cases r; exact ⟨.base .non, by decide⟩
  · cases h; cases r; exact ⟨.base (.bl _), by decide⟩
  · cases h; cases r; exact ⟨.base (.int _), by decide⟩
  · cases h; cases r; exact ⟨.base (.str _), by decide⟩
  · cases h
    cases r with
    | tup q1 rv =>
      refine ⟨?_, by decide⟩
      rcases Evl.ex_t rp.ex q1 with (q | ⟨o, q⟩) | ⟨o, its, n, h1, h2, h3, _⟩
      · exact .base (.tup q)
      · exact .fTuple q
      · exact .kTuple h1 h2
  · cases h
    cases r with
    | lst q1 rv => exact ⟨.base (.lst (rp.ex _ _ q1)), by decide⟩
  · cases r with
    | cell hp =>
      split at h
      · rename_i hm
        cases h
        obtain ⟨_, o, ho, vs, rfl, rv⟩ := rp.cell _ _ _ hm (fun e => nomatch e) hp
        exact ⟨.base (.lst ho), by decide⟩
      · rename_i hm
        cases h
        obtain ⟨_, o, ho, vs, rfl, rv⟩ := rp.cell _ _ _ hm (fun e => nomatch e) hp
        exact ⟨.base (.dK ho), by decide⟩
      · cases h
  · cases h
theorem kit_all : ∀ t ∈ ["NoneType", "bool", "int", "str", "tuple", "list", "dict"], ∀ n ∈ ["bool", "int", "str", "tuple", "list", "dict"], kitB t n = some (subT t n) := by decide +kernel
theorem cb_isi : CB X (.builtin "isinstance") bIsi := by
  intro F φ m H ds d vs rp r h Q q
  unfold bIsi at h
  split at h
  · rename_i x n
    split at h
    · rename_i t ht
      split at h
      · rename_i hn
        cases h
        obtain ⟨v, w, rfl, r0, r1⟩ := r.two
        obtain ⟨ty, hmem⟩ := tyN_ok rp r0 ht
        cases r1
        exact ⟨_, call_isi, v, _, _, _, _, rfl, .ty n, ty, kit_ty (kit_all t hmem n (by simpa using hn)), same rp q (.bl _)⟩
      · cases h
    · cases h
  · cases h

/-! ### methods of texts -/
def MS (X : Cx) (id : String) (r : List Nat → Mem → List D → Option D) : Prop :=
  ∀ {F φ m H s ds d vs}, Rep X.K F φ m H → VRs X.K F φ ds vs → r s m ds = some d → ∀ Q : VK, (∀ F' φ' v H', Nxt X.K F φ m H F' φ' m H' → VR X.K F' φ' d v → Q v H') → ∃ rr, MtR X id rr ∧ rr (.str (S s)) vs H Q
def eMS (r : List Nat → Mem → List D → Option D) (fo : EF) (fr : AF) : EF := fun ρ m => match fo ρ m with
  | some (.str s, m1) => match fr ρ m1 with
    | some (ds, m2) => match r s m2 ds with
      | some d => some (d, m2)
      | none => none
    | none => none
  | _ => none
theorem j_mS {id : String} {r : List Nat → Mem → List D → Option D} (pa : PlainAttrs "str") (slot : Slot "str" name id) (hty : typeOf (.builtin id) = pure (.type "method_descriptor")) (hm : MS X id r) (ho : JE X o fo) (ha : JA X (e :: es) fr)
    (hbase : attributeBase o name X.env (eval o X.env) = eval o X.env := by rfl)
    (hfew : ((backTo cpos (starEach (e :: es) X.env)).all (fun x => !x.1) && (backToKw cpos (keywordEach [] X.env)).all (fun x => x.1.isSome)
      && decide ((e :: es).length + ([] : List Keyword).length + (if ([] : List Keyword).isEmpty then 0 else 1) < 30)) = true := by rfl)
    (hline : (apos.endLine == cpos.line) = true := by rfl) (hs : starEach (e :: es) X.env = (false, eval e X.env) :: starEach es X.env := by rfl) (hplain : (backTo cpos (starEach es X.env)).any (·.1) = false := by rfl) :
    JE X (.Call (.Attribute o name apos) (e :: es) [] cpos) (eMS r fo fr) := ⟨fun {F φ m H ρ σ d m'} rp er hf Q q => by
  refine we_of (pe_bm pa slot hty mtr_w pe_w pa_w hbase hfew hline hs hplain) ?_
  unfold eMS at hf
  split at hf
  · rename_i s m1 h1
    split at hf
    · rename_i ds m2 h2
      split at hf
      · rename_i d' h3
        cases hf
        refine ho.run rp er h1 _ fun F1 φ1 v H1 n1 r1 => ?_
        cases r1
        refine ⟨rfl, ha.run n1.rep (er.mono n1.exF n1.pre) h2 _ fun F2 φ2 vs H2 n2 r2 => ?_⟩
        exact hm n2.rep r2 h3 Q fun F' φ' v H' n r => q _ _ _ _ ((n1.trans n2).trans n) r
      · cases hf
    · cases hf
  · cases hf⟩
/-- .join(texts) -/
def toStrs : List D → Option (List (List Nat))
  | [] => some []
  | .str s :: r => match toStrs r with
    | some ss => some (s :: ss)
    | none => none
  | _ => none
theorem toStrs_eq : ∀ {ds : List D} {ss : List (List Nat)}, toStrs ds = some ss → ds = ss.map D.str
  | [], _, h => by cases h; rfl
  | .str s :: r, _, h => by
    unfold toStrs at h
    split at h
    · rename_i e
      cases h
      rw [toStrs_eq e]; rfl
    · cases h
  | .non :: _, _, h => by cases h
  | .bl _ :: _, _, h => by cases h
  | .int _ :: _, _, h => by cases h
  | .tup _ :: _, _, h => by cases h
  | .lst _ :: _, _, h => by cases h
  | .lsk _ :: _, _, h => by cases h
  | .cell _ :: _, _, h => by cases h
  | .ty _ :: _, _, h => by cases h
def joinD (s : List Nat) (ss : List (List Nat)) : List Nat := (Txt.join (S s) (ss.map S)).cps.toList
def sJoin (s : List Nat) : Mem → List D → Option D
  | _, [.lst ds] => match toStrs ds with
    | some ss => if (ss.map (·.length)).sum + ss.length * s.length ≤ 16777216 then some (.str (joinD s ss)) else none
    | none => none
  | m, [.cell c] => match m[c]? with
    | some (.lst ds) => match toStrs ds with
      | some ss => if (ss.map (·.length)).sum + ss.length * s.length ≤ 16777216 then some (.str (joinD s ss)) else none
      | none => none
    | _ => none
  | _, _ => none
theorem lens_S (ss : List (List Nat)) : ((ss.map S).map (·.length)).sum = (ss.map (·.length)).sum := by
  rw [List.map_map]
  have e : ((fun x : Str => x.length) ∘ S) = (fun x : List Nat => x.length) := by
    funext s
    exact S_len s
  rw [e]
theorem ms_join : MS X "str.join" sJoin := by
  intro F φ m H s ds d vs rp r h Q q
  have go : ∀ {p : Addr} {ws : List V} {es : List D} {ss : List (List Nat)}, toStrs es = some ss → VRs X.K F φ es ws → SqL X.K H p ws → (ss.map (·.length)).sum + ss.length * s.length ≤ 16777216 → d = .str (joinD s ss) → ∃ rr, MtR X "str.join" rr ∧ rr (.str (S s)) [.ref p] H Q := by
    intro p ws es ss e rv hs hl hd
    have e1 := toStrs_eq e
    subst e1
    have e2 := rv.strs_inv
    subst e2
    refine ⟨_, mt_join, S s, p, ss.map S, rfl, rfl, .inl hs, ?_, ?_⟩
    · rw [lens_S, List.length_map, S_len]; exact hl
    · have : (Txt.join (S s) (ss.map S)) = S (joinD s ss) := by unfold joinD; rw [S_mk]
      rw [this]
      subst hd
      exact same rp q (.str _)
  unfold sJoin at h
  split at h
  · split at h
    · rename_i es ss e
      split at h
      · rename_i hl
        cases h
        obtain ⟨v, rfl, r0⟩ := r.one
        cases r0 with
        | lst q1 rv => exact go e rv (SqL.of (rp.ex _ _ q1)) hl rfl
      · cases h
    · cases h
  · split at h
    · rename_i hm
      split at h
      · rename_i ss e
        split at h
        · rename_i hl
          cases h
          obtain ⟨v, rfl, r0⟩ := r.one
          cases r0 with
          | cell hp =>
            obtain ⟨_, o, ho, ws, rfl, rv⟩ := rp.cell _ _ _ hm (fun e => nomatch e) hp
            exact go e rv (SqL.of ho) hl rfl
        · cases h
      · cases h
    · cases h
  · cases h
/-- a rule of one text argument -/
def s1 (g : List Nat → List Nat → D) (s : List Nat) : Mem → List D → Option D
  | _, [.str t] => some (g s t)
  | _, _ => none
theorem ms_s1 {id : String} {g : List Nat → List Nat → D} {gv : Str → Str → V} (h : MtR X id (fun x xs H Q => ∃ a b, x = .str a ∧ xs = [.str b] ∧ Q (gv a b) H)) (hg : ∀ K F φ s t, VR K F φ (g s t) (gv (S s) (S t))) : MS X id (s1 g) := by
  intro F φ m H s ds d vs rp r hh Q q
  unfold s1 at hh
  split at hh
  · cases hh
    obtain ⟨v, rfl, r0⟩ := r.one
    cases r0
    exact ⟨_, h, _, _, rfl, rfl, same rp q (hg _ _ _ _ _)⟩
  · cases hh
def startsD (s t : List Nat) : Bool := Txt.startswith (S s) (S t)
theorem ms_startswith : MS X "str.startswith" (s1 fun s t => .bl (startsD s t)) := ms_s1 mt_startswith fun _ _ _ _ _ => .bl _
/-- .bit_length() -/
def eBits (fo : EF) : EF := fun ρ m => match fo ρ m with
  | some (.int i, m1) => some (.int (Builtin.Int.intBits i : Nat), m1)
  | _ => none
theorem j_bits (ho : JE X o fo) (hbase : attributeBase o "bit_length" X.env (eval o X.env) = eval o X.env := by rfl) (hline : (apos.endLine == pos.line) = true := by rfl) : JE X (.Call (.Attribute o "bit_length" apos) [] [] pos) (eBits fo) := ⟨fun {F φ m H ρ σ d m'} rp er hf Q q => by
  refine we_of (pe_bits pe_w hbase hline) ?_
  unfold eBits at hf
  split at hf
  · rename_i i m1 h1
    cases hf
    refine ho.run rp er h1 _ fun F1 φ1 v H1 n1 r1 => ?_
    cases r1
    exact ⟨i, rfl, q _ _ _ _ n1 (.int _)⟩
  · cases hf⟩
/-- xs.append(e), xs a cell -/
def eApp (fo fe : EF) : EF := fun ρ m => match fo ρ m with
  | some (.cell c, m1) => match m1[c]? with
    | some (.lst _) => match fe ρ m1 with
      | some (d, m2) => match m2[c]? with
        | some (.lst ds) => if ds.length < 16777216 then some (.non, m2.set c (.lst (ds ++ [d]))) else none
        | _ => none
      | none => none
    | _ => none
  | _ => none
theorem j_app (ho : JE X o fo) (he : JE X e fe) (hbase : attributeBase o "append" X.env (eval o X.env) = eval o X.env := by rfl)
    (hfew : ((backTo cpos (starEach [e] X.env)).all (fun x => !x.1) && (backToKw cpos (keywordEach [] X.env)).all (fun x => x.1.isSome)
      && decide ([e].length + ([] : List Keyword).length + (if ([] : List Keyword).isEmpty then 0 else 1) < 30)) = true := by rfl)
    (hline : (apos.endLine == cpos.line) = true := by rfl) (hs : starEach [e] X.env = (false, eval e X.env) :: starEach [] X.env := by rfl) (hplain : (backTo cpos (starEach [] X.env)).any (·.1) = false := by rfl) :
    JE X (.Call (.Attribute o "append" apos) [e] [] cpos) (eApp fo fe) := ⟨fun {F φ m H ρ σ d m'} rp er hf Q q => by
  refine we_of (pe_bm PySem.F.plainAttrs_list PySem.F.slot_list_append PySem.F.type_list_append mt_append pe_w pa_w hbase hfew hline hs hplain) ?_
  unfold eApp at hf
  split at hf
  · rename_i c m1 h1
    split at hf
    · rename_i ds0 hm0
      split at hf
      · rename_i d1 m2 h2
        split at hf
        · rename_i ds hm
          split at hf
          · rename_i hl
            cases hf
            refine ho.run rp er h1 _ fun F1 φ1 v H1 n1 r1 => ?_
            cases r1 with
            | @cell _ a hp =>
              obtain ⟨_, o1, ho1, vs1, rfl, rv1⟩ := n1.rep.cell _ _ _ hm0 (fun e => nomatch e) hp
              refine ⟨.inl ⟨rfl, _, SqL.of ho1⟩, ?_⟩
              refine (ja_cons (X := X) he ja_nil hs).run n1.rep (er.mono n1.exF n1.pre) (ds := [d1]) (m' := m2) ?_ _ fun F2 φ2 vs H2 n2 r2 => ?_
              · simp only [aCons, h2, aNil]
              · obtain ⟨vy, rfl, ry⟩ := r2.one
                have hp2 := n2.pre _ _ hp
                obtain ⟨_, o2, ho2, vs2, rfl, rv2⟩ := n2.rep.cell _ _ _ hm (fun e => nomatch e) hp2
                refine ⟨a, vs2, vy, rfl, rfl, ho2, by rw [← rv2.len]; exact hl, ?_⟩
                have n3 := n2.rep.write (y := O.lst (ds ++ [d1])) (o := .lst (vs2 ++ [vy])) hm (fun e => nomatch e) hp2 (fun e => nomatch e) ⟨_, rfl, rv2.app (.cons ry .nil)⟩
                exact q _ _ _ _ ((n1.trans n2).trans n3) .non
          · cases hf
        · cases hf
      · cases hf
    · cases hf
  · cases hf⟩
end
end VI
end
section
namespace VI
open PySem PySem.Spec PyProof.Rows L2

def oLt : Mem → D → D → Option D := cI fun i j => decide (i < j)
def oLe : Mem → D → D → Option D := cI fun i j => decide (i ≤ j)
def oGt : Mem → D → D → Option D := cI fun i j => decide (j < i)
def oGe : Mem → D → D → Option D := cI fun i j => decide (j ≤ i)
def fuel : Nat := 10000000
def bRetN : BF := fun _ m => some (.rt .non, m)
section
variable {X : Cx} {a b c e f o tg elt iter : Expr} {es ifs : List Expr} {pos p apos cpos : Pos} {fa fb fc fe ff fo fi : EF} {fr it : AF} {x name : Str} {g : GF} {ws : List Nat} {tc : TF}
theorem js_retN : JS X (.Return none pos) bRetN := ⟨fun rp er hf D q => by
  cases hf
  exact ws_of ps_retN (q _ _ _ _ (Nxt.refl rp) .non)⟩
def ioAdd : Mem → D → D → Option D
  | _, .int i, .int j => some (.int (i + j))
  | _, .str s, .str t => if s.length + t.length ≤ 16777216 then some (.str (s ++ t)) else none
  | _, _, _ => none
theorem iod_add : OD X (inplaceOp .Add) ioAdd := by
  intro F φ m H x y d vx vy rp rx ry h Q q
  unfold ioAdd at h
  split at h
  · cases h; cases rx; cases ry
    exact ⟨_, iop_add, _, _, rfl, rfl, same rp q (.int _)⟩
  · split at h
    · rename_i hl
      cases h; cases rx; cases ry
      refine ⟨_, iop_add_str, _, _, rfl, rfl, ?_, ?_⟩
      · rw [S_len, S_len]; exact hl
      · rw [S_app]; exact same rp q (.str _)
    · cases h
  · cases h
theorem iod_sub : OD X (inplaceOp .Sub) oSub := by
  intro F φ m H x y d vx vy rp rx ry h Q q
  unfold oSub at h
  split at h
  · cases h; cases rx; cases ry
    exact ⟨_, iop_sub, _, _, rfl, rfl, same rp q (.int _)⟩
  · cases h
/-- a chain as a test -/
theorem jt_chain {op op' : CmpOp} {r r' : Mem → D → D → Option D} (ho : OD X (compareOp op) r) (ho' : OD X (compareOp op') r') (ha : JE X a fa) (hb : JE X b fb) (hc : JE X c fc) (hm : lastMarks [op, op'] [b, c] = false := by with_unfolding_all rfl) :
    JT X (.Compare a [op, op'] [b, c] pos) (tV (eChain r r' fa fb fc)) := ⟨fun {F φ m H ρ σ bb m'} rp er hf Q q => by
  refine wt_of (pt_chain opr_w opr_w pe_w pe_w pe_w hm) ?_
  unfold tV at hf
  split at hf
  · rename_i b' m1' h0
    cases hf
    have hf := h0
    unfold eChain at hf
    split at hf
    · rename_i x m1 h1
      split at hf
      · rename_i y m2 h2
        refine ha.run rp er h1 _ fun F1 φ1 vx H1 n1 r1 => ?_
        refine hb.run n1.rep (er.mono n1.exF n1.pre) h2 _ fun F2 φ2 vy H2 n2 r2 => ?_
        split at hf
        · rename_i h3
          split at hf
          · rename_i z m3 h4
            split at hf
            · rename_i d' h5
              cases hf
              refine ho n2.rep (r1.mono n2.exF n2.pre) r2 h3 _ fun F3 φ3 v3 H3 n3 r3 => ?_
              cases r3
              refine ⟨true, rfl, ?_⟩
              rw [if_pos rfl]
              refine hc.run n3.rep (((er.mono n1.exF n1.pre).mono n2.exF n2.pre).mono n3.exF n3.pre) h4 _ fun F4 φ4 vz H4 n4 r4 => ?_
              refine ho' n4.rep ((r2.mono n3.exF n3.pre).mono n4.exF n4.pre) r4 h5 _ fun F' φ' v H' n' r' => ?_
              cases r'
              exact ⟨_, rfl, q _ _ _ ((((n1.trans n2).trans n3).trans n4).trans n')⟩
            · cases hf
          · cases hf
        · rename_i h3
          cases hf
          refine ho n2.rep (r1.mono n2.exF n2.pre) r2 h3 _ fun F3 φ3 v3 H3 n3 r3 => ?_
          cases r3
          refine ⟨false, rfl, ?_⟩
          rw [if_neg Bool.false_ne_true]
          exact ⟨_, rfl, q _ _ _ ((n1.trans n2).trans n3)⟩
        · cases hf
      · cases hf
    · cases hf
  · cases hf⟩
/-! ### dicts -/
def valD (kvs : List (Key × D)) (k : Key) : Option D := (kvs.find? fun kv => decide (kv.1 = k)).map (·.2)
def putKD (kvs : List (Key × D)) (k : Key) (v : D) : List (Key × D) := if (kvs.any fun kv => decide (kv.1 = k)) = true then kvs.map (fun kv => if kv.1 = k then (kv.1, v) else kv) else kvs ++ [(k, v)]
theorem KR.val {K F φ} {k : Key} : ∀ {ds vs}, KR K F φ ds vs → (∀ d, valD ds k = some d → ∃ v, valV vs k = some v ∧ VR K F φ d v) ∧ (valD ds k = none → valV vs k = none)
  | _, _, .nil => ⟨fun d h => (by cases h), fun _ => rfl⟩
  | _, _, .cons (k := k') (d := d') (v := v') (ds := ds) (vs := vs) h r => by
    obtain ⟨q1, q2⟩ := KR.val (k := k) r
    unfold valD valV at q1 q2 ⊢
    by_cases e : k' = k
    · refine ⟨fun d hd => ?_, fun hd => ?_⟩
      · simp only [List.find?_cons, e, decide_true, Option.map_some] at hd ⊢
        cases hd
        exact ⟨v', rfl, h⟩
      · simp only [List.find?_cons, e, decide_true, Option.map_some] at hd
        cases hd
    · refine ⟨fun d hd => ?_, fun hd => ?_⟩
      · simp only [List.find?_cons, e, decide_false] at hd ⊢
        exact q1 d hd
      · simp only [List.find?_cons, e, decide_false] at hd ⊢
        exact q2 hd
theorem KR.any {K F φ} {k : Key} : ∀ {ds vs}, KR K F φ ds vs → (ds.any fun kv => decide (kv.1 = k)) = (vs.any fun kv => decide (kv.1 = k))
  | _, _, .nil => rfl
  | _, _, .cons _ r => by rw [List.any_cons, List.any_cons, KR.any r]
theorem KR.app {K F φ} : ∀ {ds vs es ws}, KR K F φ ds vs → KR K F φ es ws → KR K F φ (ds ++ es) (vs ++ ws)
  | _, _, _, _, .nil, h => h
  | _, _, _, _, .cons h r, g => .cons h (KR.app r g)
theorem KR.mapput {K F φ} {k : Key} {d : D} {v : V} (h : VR K F φ d v) : ∀ {ds vs}, KR K F φ ds vs → KR K F φ (ds.map (fun kv => if kv.1 = k then (kv.1, d) else kv)) (vs.map (fun kv => if kv.1 = k then (kv.1, v) else kv))
  | _, _, .nil => .nil
  | _, _, .cons (k := k') h0 r => by
    rw [List.map_cons, List.map_cons]
    by_cases e : k' = k
    · rw [if_pos e, if_pos e]; exact .cons h (KR.mapput h r)
    · rw [if_neg e, if_neg e]; exact .cons h0 (KR.mapput h r)
theorem KR.put {K F φ} {k : Key} {d : D} {v : V} {ds vs} (r : KR K F φ ds vs) (h : VR K F φ d v) : KR K F φ (putKD ds k d) (putK vs k v) := by
  unfold putKD putK
  rw [r.any]
  split
  · exact r.mapput h
  · exact r.app (.cons h .nil)
def mergeD (kvs : List (Key × D)) (more : List (Key × D)) : List (Key × D) := more.foldl (fun acc kv => putKD acc kv.1 kv.2) kvs
theorem KR.merge {K F φ} : ∀ {more ms ds vs}, KR K F φ more ms → KR K F φ ds vs → KR K F φ (mergeD ds more) (mergeK vs ms)
  | _, _, _, _, .nil, h => h
  | _, _, _, _, .cons h r, g => by
    unfold mergeD mergeK
    rw [List.foldl_cons, List.foldl_cons]
    exact KR.merge r (g.put h)
theorem toKey_ok {K F φ} {d : D} {v : V} {k : Key} (r : VR K F φ d v) (h : toKey d = some k) : v = kV k := by
  cases r <;> (unfold toKey at h; first | (cases h; rfl) | cases h)
abbrev DFn := Env → Mem → Option (List (Key × D) × Mem)
def dNil : DFn := fun _ m => some ([], m)
def dCons (fk fv : EF) (r : DFn) : DFn := fun ρ m => match fk ρ m with
  | some (x, m1) => match toKey x with
    | some k => match fv ρ m1 with
      | some (y, m2) => match r ρ m2 with
        | some (ps, m3) => some ((k, y) :: ps, m3)
        | none => none
      | none => none
    | none => none
  | none => none
def eDict (r : DFn) : EF := fun ρ m => match r ρ (m ++ [.dct []]) with
  | some (ps, m1) => match m1[m.length]? with
    | some (.dct []) => if ps.length ≤ 15 then some (.cell m.length, m1.set m.length (.dct (mergeD [] ps))) else none
    | _ => none
  | none => none
structure JD (X : Cx) (keys : List (Option Expr)) (values : List Expr) (trs : List (TE × TE)) (f : DFn) : Prop where
  pps : ∀ pos, PPs X pos keys values trs
  all : keys.all (·.isSome) = true
  len : keys.length = values.length
  run : ∀ {F φ m H ρ σ ps m'}, Rep X.K F φ m H → EnvR X.K F φ ρ σ → f ρ m = some (ps, m') → ∀ Q : List (V × V) → Hp → Prop, (∀ F' φ' kvs H', Nxt X.K F φ m H F' φ' m' H' → KR X.K F' φ' ps kvs → Q (kvs.map fun kv => (kV kv.1, kv.2)) H') → tPairs trs σ H Q
theorem jd_nil : JD X [] [] [] dNil := ⟨fun _ => pps_nil, rfl, rfl, fun rp er hf Q q => by
  cases hf
  exact q _ _ _ _ (Nxt.refl rp) .nil⟩
theorem jd_cons {k v : Expr} {fk fv : EF} {ks : List (Option Expr)} {vs : List Expr} {trs : List (TE × TE)} {r : DFn} (hk : JE X k fk) (hv : JE X v fv) (hr : JD X ks vs trs r) : JD X (some k :: ks) (v :: vs) ((WE X k, WE X v) :: trs) (dCons fk fv r) :=
  ⟨fun pos => pps_cons pe_w pe_w (hr.pps pos), by rw [List.all_cons, hr.all]; rfl, by rw [List.length_cons, List.length_cons, hr.len], fun {F φ m H ρ σ ps m'} rp er hf Q q => by
    unfold dCons at hf
    split at hf
    · rename_i x m1 h1
      split at hf
      · rename_i key hkey
        split at hf
        · rename_i y m2 h2
          split at hf
          · rename_i ps2 m3 h3
            cases hf
            show WE X k σ H fun x H1 => WE X v σ H1 fun y H2 => tPairs trs σ H2 fun ps H3 => Q ((x, y) :: ps) H3
            refine hk.run rp er h1 _ fun F1 φ1 vx H1 n1 r1 => ?_
            have er1 := er.mono n1.exF n1.pre
            refine hv.run n1.rep er1 h2 _ fun F2 φ2 vy H2 n2 r2 => ?_
            refine hr.run n2.rep (er1.mono n2.exF n2.pre) h3 _ fun F3 φ3 kvs H3 n3 r3 => ?_
            rw [toKey_ok r1 hkey]
            exact q _ _ ((key, vy) :: kvs) _ ((n1.trans n2).trans n3) (.cons (r2.mono n3.exF n3.pre) r3)
          · cases hf
        · cases hf
      · cases hf
    · cases hf⟩
theorem j_dict {keys : List (Option Expr)} {values : List Expr} {trs : List (TE × TE)} {r : DFn} (h : JD X keys values trs r) (h0 : keys ≠ [] := by exact fun e => nomatch e) (h15 : keys.length ≤ 15 := by decide) : JE X (.Dict keys values pos) (eDict r) := ⟨fun {F φ m H ρ σ d m'} rp er hf Q q => by
  refine we_of (pe_disp (h.pps pos) h.all h.len h0 h15) fun p hp => ?_
  unfold eDict at hf
  split at hf
  · rename_i ps m1 h1
    split at hf
    · rename_i hm
      split at hf
      · rename_i hl
        cases hf
        have n0 := rp.alloc (x := O.dct []) (o := .dK []) hp (fun e => nomatch e) ⟨[], rfl, .nil⟩
        refine h.run n0.rep (er.mono n0.exF n0.pre) h1 _ fun F1 φ1 kvs H1 n1 r1 => ?_
        have hc0 : (φ ++ [p])[m.length]? = some p := by
          rw [← rp.len, List.getElem?_append_right (Nat.le_refl _)]; simp
        have hc1 := n1.pre _ _ hc0
        obtain ⟨_, o1, ho1, vs1, rfl, rv1⟩ := n1.rep.cell _ _ _ hm (fun e => nomatch e) hc1
        cases rv1
        have hkl : kvs.length ≤ 15 := by rw [← r1.len]; exact hl
        refine ⟨ho1, kvs, rfl, hkl, ?_⟩
        have n2 := n1.rep.write (y := O.dct (mergeD [] ps)) (o := .dK (mergeK [] kvs)) hm (fun e => nomatch e) hc1 (fun e => nomatch e) ⟨_, rfl, KR.merge r1 .nil⟩
        exact q _ _ _ _ ((n0.trans n1).trans n2) (.cell hc1)
      · cases hf
    · cases hf
  · cases hf⟩
def eDict0 : EF := fun _ m => some (.cell m.length, m ++ [.dct []])
theorem j_dict0 : JE X (.Dict [] [] pos) eDict0 := ⟨fun {F φ m H ρ σ d m'} rp er hf Q q => by
  refine we_of pe_dnewK fun p hp => ?_
  cases hf
  have n0 := rp.alloc (x := O.dct []) (o := .dK []) hp (fun e => nomatch e) ⟨[], rfl, .nil⟩
  refine q _ _ _ _ n0 (.cell ?_)
  rw [← rp.len, List.getElem?_append_right (Nat.le_refl _)]; simp⟩
def eGet2 (fo fk fx : EF) : EF := fun ρ m => match fo ρ m with
  | some (.cell c, m1) => match m1[c]? with
    | some (.dct _) => match fk ρ m1 with
      | some (x, m2) => match toKey x with
        | some k => match fx ρ m2 with
          | some (y, m3) => match m3[c]? with
            | some (.dct kvs) => some ((valD kvs k).getD y, m3)
            | _ => none
          | none => none
        | none => none
      | none => none
    | _ => none
  | _ => none
theorem j_get2 (hu : X.A.units + 1 < cLine) (ho : JE X o fo) (he : JE X e fe) (hf' : JE X f ff) (hbase : attributeBase o "get" X.env (eval o X.env) = eval o X.env := by rfl)
    (hfew : ((backTo cpos (starEach [e, f] X.env)).all (fun x => !x.1) && (backToKw cpos (keywordEach [] X.env)).all (fun x => x.1.isSome) && decide (([e, f] : List Expr).length + ([] : List Keyword).length + (if ([] : List Keyword).isEmpty then 0 else 1) < 30)) = true := by rfl)
    (hline : (apos.endLine == cpos.line) = true := by rfl) (htr : backTo cpos (starEach [e, f] X.env) = [(false, eval e X.env), (false, eval f X.env)] := by rfl) :
    JE X (.Call (.Attribute o "get" apos) [e, f] [] cpos) (eGet2 fo fe ff) := ⟨fun {F φ m H ρ σ d m'} rp er hf Q q => by
  refine we_of (pe_dget2 hu pe_w pe_w pe_w ⟨hbase, hfew, hline, htr⟩) ?_
  unfold eGet2 at hf
  split at hf
  · rename_i c m1 h1
    split at hf
    · rename_i kv0 hm0
      split at hf
      · rename_i x m2 h2
        split at hf
        · rename_i k hk
          split at hf
          · rename_i y m3 h3
            split at hf
            · rename_i kvs hm
              cases hf
              refine ho.run rp er h1 _ fun F1 φ1 v H1 n1 r1 => ?_
              cases r1 with
              | @cell _ a hp =>
                obtain ⟨_, o1, ho1, vs1, rfl, rv1⟩ := n1.rep.cell _ _ _ hm0 (fun e => nomatch e) hp
                have er1 := er.mono n1.exF n1.pre
                refine ⟨a, rfl, .inl ⟨vs1, .inl ho1⟩, he.run n1.rep er1 h2 _ fun F2 φ2 vy H2 n2 r2 => ?_⟩
                refine hf'.run n2.rep (er1.mono n2.exF n2.pre) h3 _ fun F3 φ3 vz H3 n3 r3 => ?_
                have hp3 := n3.pre _ _ (n2.pre _ _ hp)
                obtain ⟨_, o3, ho3, vs3, rfl, rv3⟩ := n3.rep.cell _ _ _ hm (fun e => nomatch e) hp3
                obtain ⟨q1, q2⟩ := rv3.val (k := k)
                have n := (n1.trans n2).trans n3
                refine ⟨valV vs3 k, .inl ⟨vs3, k, .inl ho3, toKey_ok r2 hk, rfl⟩, ?_⟩
                cases hv : valD kvs k with
                | none =>
                  rw [q2 hv]
                  rw [hv] at q
                  exact q _ _ _ _ n r3
                | some d1 =>
                  obtain ⟨w1, hw1, rw1⟩ := q1 d1 hv
                  rw [hw1]
                  rw [hv] at q
                  exact q _ _ _ _ n rw1
            · cases hf
          · cases hf
        · cases hf
      · cases hf
    · cases hf
  · cases hf⟩
end
end VI
end
section
namespace VI
open PySem PySem.Spec PyProof.Rows L2
section
variable {P : Program} {w : World} {K : PySem.W.Frag} {mg : Str → Option Value} {base : Heap}
/-- a def's body, wherever it runs -/
abbrev Body (P : Program) (w : World) (K : PySem.W.Frag) (mg : Str → Option Value) (base : Heap) (k : Nat) (N : List Str) (qual : Str) (st : Stmt) (b : BF) : Prop :=
  ∀ (f : Addr) (cdv : Value) (A : Around) (outer : List PySem.Env) (s : Shared) (H : Hp) (E : XK), Room k (A.deeper (envOfC qual (defScope st) s.heap.objs.size f cdv)) → JB (cxOf CX0 P w K mg base N qual (defScope st) f cdv A outer s H E).nox (defBody st) b
theorem Fn.of {x qual : Str} {st : Stmt} {N ps : List Str} {k : Nat} {b : BF} (D : ∃ f fd, Fun K x qual st f fd ∧ mg x = some (.ref f)) (S : FnScope N ps (defScope st))
    (bn : ∀ (kV doc pm : Value) (an : Option Addr) (cdv ct : Value) (us : List Value), us.length = ps.length → bindArgs (PySem.W.fnOf x qual (defArgs st) (defBody st) (defScope st) .none kV doc pm an cdv ct) ⟨us, []⟩ = pure (ps.zip us))
    (body : Body P w K mg base k N qual st b) : Fn P w K mg base (k + 1) x ps (fnD ps.length N.length b) := by
  obtain ⟨f, fd, F, gm⟩ := D
  exact ⟨f, fd, okD F S (body f), gm, F.kp, F.binds bn⟩
theorem FnK.of {x qual : Str} {st : Stmt} {N ps : List Str} {k : Nat} {b : BF} (D : ∃ f fd, Fun K x qual st f fd ∧ mg x = some (.ref f)) (S : FnScope N ps (defScope st))
    (bn : ∀ (kV doc pm : Value) (an : Option Addr) (cdv ct : Value) (us : List Value), us.length = ps.length → bindArgs (PySem.W.fnOf x qual (defArgs st) (defBody st) (defScope st) .none kV doc pm an cdv ct) ⟨us, []⟩ = pure (ps.zip us))
    (bk : ∀ (kV doc pm : Value) (an : Option Addr) (cdv ct : Value) (us : List Value), us.length = ps.length → bindArgs (PySem.W.fnOf x qual (defArgs st) (defBody st) (defScope st) .none kV doc pm an cdv ct) ⟨[], ps.zip us⟩ = pure (ps.zip us))
    (body : Body P w K mg base k N qual st b) : FnK P w K mg base (k + 1) x ps (fnD ps.length N.length b) := by
  obtain ⟨f, fd, F, gm⟩ := D
  refine ⟨f, fd, okD F S (body f), gm, F.kp, ?_⟩
  obtain ⟨oc, od, kV, doc, pm, an, cdv, ct, osl, rfl, lk, hcd⟩ := F.ex
  exact fun us hl => bk kV doc pm an cdv ct us hl
end
end VI
end
section
namespace VI
open PySem PySem.Spec PyProof.Rows L2
def spLaw (K : PySem.W.Frag) : Sp := fun vs H Q _ => ∃ (a : Addr) (ns : List Int), vs = [.ref a] ∧ SqL K H a (ns.map V.int) ∧ ns.length ≤ 63 ∧ ∀ H', Q (.bl true) H'
theorem law_end {P : Program} {w : World} {K : PySem.W.Frag} {mg : Str → Option Value} {fa : Addr} {st : Stmt} {N : List Str} {k : Nat} {b : BF} (hfa : mg "law" = some (.ref fa)) (Df : ∃ f fd, Fun K "law" "law" st f fd ∧ mg "law" = some (.ref f))
    (S : FnScope N ["script"] (defScope st))
    (bn : ∀ (kV doc pm : Value) (an : Option Addr) (cdv ct : Value) (us : List Value), us.length = 1 → bindArgs (PySem.W.fnOf "law" "law" (defArgs st) (defBody st) (defScope st) .none kV doc pm an cdv ct) ⟨us, []⟩ = pure ((["script"] : List Str).zip us))
    (body : ∀ base, K.In base → base.Ns mainGlobals mg → Body P w K mg base k N "law" st b)
    (main : ∀ ns : List Int, ns.length ≤ 63 → ∃ m', fnD 1 N.length b [.lsk (ns.map D.int)] [] = some (.bl true, m')) :
    ∃ fd : FuncData, (∀ (s : Shared) (u : Value), BindsTo s fd ⟨[u], []⟩ [("script", u)]) ∧ ∀ base : Heap, K.In base → base.Ns mainGlobals mg → FnOk P w K mg base CX0 (k + 1) fa fd ["script"] (spLaw K) := by
  obtain ⟨f, fd, F, gm⟩ := Df
  rw [hfa] at gm
  cases gm
  refine ⟨fd, fun s u => ?_, fun base h1 h2 => ?_⟩
  · obtain ⟨oc, od, kV, doc, pm, an, cdv, ct, osl, rfl, lk, hcd⟩ := F.ex
    exact .of_eq (bn kV doc pm an cdv ct [u] rfl)
  · refine (okD F S (body base h1 h2 fa)).imp fun vs H Q E h => ?_
    obtain ⟨a, ns, rfl, hs, hl, q⟩ := h
    obtain ⟨m', hm⟩ := main ns hl
    refine ⟨H, [], [], [.lsk (ns.map D.int)], .bl true, m', ⟨rfl, Evl.Ex.refl _, fun i o a h => by simp at h, fun i j o o' a h => by simp at h⟩, .cons (.lsk hs (VRs.ints ns)) .nil, hm, fun F' φ' v H' n r => ?_⟩
    cases r
    exact q H'
/-! constants of the top -/
section
variable {K : PySem.W.Frag} {h : Heap} {mg : Str → Option Value}
/-- a value of the written part, seen as a value that never changes -/
def CV (K : PySem.W.Frag) (d : D) (u : Value) : Prop := ∃ v, RelV v u ∧ ∀ F φ, VR K F φ d v
def CVs (K : PySem.W.Frag) (ds : List D) (us : List Value) : Prop := ∃ vs, Vals vs us ∧ ∀ F φ, VRs K F φ ds vs
theorem cv_int (i : Int) (t : Tok) : CV K (.int i) (.int i t) := ⟨.int i, ⟨t, rfl⟩, fun _ _ => .int i⟩
theorem cv_str {x : Str} {l : List Nat} {t : Tok} (e : x.cps.toList = l) : CV K (.str l) (.str x t) := by
  subst e
  refine ⟨.str x, ⟨t, rfl⟩, fun _ _ => ?_⟩
  have e : (V.str x) = V.str (S x.cps.toList) := by rw [S_mk]
  rw [e]
  exact .str _
theorem cv_non : CV K .non .none := ⟨.non, rfl, fun _ _ => .non⟩
theorem cv_bl (b : Bool) : CV K (.bl b) (.bool b) := ⟨.bl b, rfl, fun _ _ => .bl b⟩
theorem cvs_nil : CVs K [] [] := ⟨[], .nil, fun _ _ => .nil⟩
theorem cvs_cons {d : D} {ds : List D} {u : Value} {us : List Value} (h : CV K d u) (r : CVs K ds us) : CVs K (d :: ds) (u :: us) := by
  obtain ⟨v, h1, h2⟩ := h
  obtain ⟨vs, r1, r2⟩ := r
  exact ⟨v :: vs, .cons h1 r1, fun F φ => .cons (h2 F φ) (r2 F φ)⟩
theorem cv_tup {a : Addr} {dd : Option Addr} {its : Array Value} {n : Nat} {sl : Array (Option Value)} {ds : List D} (l : K.lookup a = some ⟨.type "tuple", dd, .seq its n, sl⟩) (r : CVs K ds its.toList) (hz : its.size ≤ 100000) : CV K (.tup ds) (.ref a) := by
  obtain ⟨vs, r1, r2⟩ := r
  exact ⟨.ref a, rfl, fun F φ => .tup (.inr ⟨_, its, n, l, rfl, rfl, Evl.sz_of hz, r1⟩) (r2 F φ)⟩
theorem glob_of {x : Str} {u : Value} {d : D} (X : K.In h) (G : h.Ns mainGlobals mg) (e : PySem.W.nsIn K mainGlobals x = some (some u)) (c : CV K d u) : GlobD K mg x d := by
  obtain ⟨v, h1, h2⟩ := c
  exact ⟨u, v, PySem.W.mg_of X G e, h1, h2⟩
end
end VI
end
section
namespace VI
open PySem PySem.Spec PyProof.Rows L2
/-- a name is set: what was wanted of it, and the names behind it -/
theorem set_both {M : Model} {Γ : PySem.Ctx} {E : Value → Pos → Shared → Prop} {p : Pos} {s : Shared} {a : Addr} {m : Str → Option Value} {x : Str} {v : Value} {Q : Unit → Pos → Shared → Prop} (hn : s.heap.Ns a m)
    (h : Sem.wp M Γ (nsSet a x v) Q E p s) : Sem.wp M Γ (nsSet a x v) (fun u q s' => Q u q s' ∧ s'.heap.Ns a (fun y => if y = x then some v else m y)) E p s := by
  have g := Sem.wp_nsSet M Γ E p s hn x v (fun _ _ s' => s'.heap.Ns a (fun y => if y = x then some v else m y)) fun _ n _ => n
  obtain ⟨o, es, ep, ho, hd, hk, hm⟩ := hn
  have none : (es.any fun e => e.refKey) = false := by
    refine Array.any_eq_false'.mpr fun e he => ?_
    obtain ⟨n, t, hs⟩ := hk e he
    unfold DictEntry.refKey
    rw [hs]
    simp
  simp only [Sem.wp_pure', Sem.wp_bind', nsSet, Sem.wp_cmd_ask, Sem.wp_cmd_mkText, strHash] at h g ⊢
  rw [Sem.wp_loadPart_of M Γ E p { s with toks := s.toks + 1 } (o := o) _ ho] at h g ⊢
  simp only [hd, none, aRefKeyMayBeTheName_eq, Sem.wp_cmd_updatePart, aRefKeyMayBeTheNameByArray, Bool.and_false, Bool.false_eq_true, if_false] at h g ⊢
  exact ⟨h.1, h.2, g.2⟩
section
variable {X : Cx} {pins : List (Addr × Obj)} {σ : L2.St} {H : Hp} {s : Shared}
/-- a local name is stored: the state, and the value itself -/
theorem store_raw {i : Nat} {x : Str} {v : V} {u : Value} {m : Str → Option Value} {E : Value → Shared → Prop} {Q : Unit → Shared → Prop} (I : Inv X pins σ H s) (hN : X.N.Nodup) (hi : X.N[i]? = some x) (hk : X.env.scope.names.lookup x = some .local) (r : RelV v u)
    (hn : s.heap.Ns X.env.locals m) (q : ∀ s', Inv X pins (σ.set i (some v)) H s' → s'.heap.Ns X.env.locals (fun y => if y = x then some u else m y) → Q () s') : wpAny (model X.prog X.w) X.A (storeName X.env x u) Q E s := by
  have hcls : (X.env.scope.kind == .class || (X.env.scope.kind == .module && X.env.locals != X.env.globals)) = false := by rw [I.ok.kind]; rfl
  have h1 : wpAny (model X.prog X.w) X.A (storeName X.env x u) (fun _ s' => Inv X pins (σ.set i (some v)) H s') E s := store_ok I hN hi (.inl hk) r (fun _ J => J) (.inr hk)
  rw [storeName_local hk hcls] at h1 ⊢
  intro Γ p hΓ
  exact Sem.wp_mono _ Γ _ (fun _ _ s' g => q s' g.1 g.2) (fun _ _ _ e => e) p s (set_both hn (h1 Γ p hΓ))
/-- a tuple of two written texts, of the module: its objects are two -/
structure PairT (K : PySem.W.Frag) (a : Addr) (y z : Str) : Prop where
  ex : ∃ o n t u, K.lookup a = some o ∧ o.cls = .type "tuple" ∧ o.data = .seq #[.str y t, .str z u] n ∧ t ≠ 0 ∧ u ≠ 0 ∧ t ≠ u
  ne : (y == z) = false
  one : z.length = 1
theorem load_raw {x : Str} {v : Value} {m : Str → Option Value} {pos : Pos} {Q E : Value → Shared → Prop} (I : Inv X pins σ H s) (hk : X.env.scope.names.lookup x = some .local) (hn : s.heap.Ns X.env.locals m) (hm : m x = some v) (q : Q v s)
    (hd : (x == ("__debug__" : Str)) = false := by decide) : wpAny (model X.prog X.w) X.A (eval (.Name x pos) X.env) Q E s :=
  wpAny_Name (wpAny_loadName_local I.ok.kind hk hn hm q) hd
/-- one turn: for a, b in ..: text = text.replace(a, b) -/
theorem rep_turn {a : Addr} {y z cur x0 x1 x2 : Str} {p1 p2 p3 p4 p5 p6 p7 p8 apos cpos : Pos} {k : Nat} (hc : X.calm = true) (hN : X.N = [x0, x1, x2]) (hnd : X.N.Nodup) (l0 : X.env.scope.names.lookup x0 = some .local) (l1 : X.env.scope.names.lookup x1 = some .local) (l2 : X.env.scope.names.lookup x2 = some .local)
    (d0 : (x0 == ("__debug__" : Str)) = false) (d1 : (x1 == ("__debug__" : Str)) = false) (d2 : (x2 == ("__debug__" : Str)) = false) (c0 : (x0 == ("__classdict__" : Str)) = false)
    (hst : starEach [.Name x1 p6, .Name x2 p7] X.env = [(false, eval (.Name x1 p6) X.env), (false, eval (.Name x2 p7) X.env)])
    (hbase : attributeBase (.Name x0 p5) "replace" X.env (eval (.Name x0 p5) X.env) = eval (.Name x0 p5) X.env) (hline : (apos.endLine == cpos.line) = true)
    (hsw : swapsWith (.Call (.Attribute (.Name x0 p5) "replace" apos) [.Name x1 p6, .Name x2 p7] [] cpos) (some (.Name x0 p4)) p8.line X.env = pure false)
    (hae : assignEach [.Name x1 p1, .Name x2 p2] X.env = [(false, assign (.Name x1 p1) X.env), (false, assign (.Name x2 p2) X.env)])
    (I : Inv X pins σ H s) (hp : PairT X.K a y z) (h0 : σ[0]? = some (some (.str cur))) (hb : cur.length + (cur.length + 1) * z.length ≤ 16777216) {Q : Flow → Shared → Prop} {E E' : Value → Shared → Prop}
    (q : ∀ σ' s', Inv X pins σ' H s' → σ'[0]? = some (some (.str (Txt.replace cur y z))) → Q .next s') :
    wpAny (model X.prog X.w) X.A (assign (.Tuple [.Name x1 p1, .Name x2 p2] k p3) X.env (.ref a)) (fun _ s1 => wpAny (model X.prog X.w) X.A (execs [.Assign [.Name x0 p4] (.Call (.Attribute (.Name x0 p5) "replace" apos) [.Name x1 p6, .Name x2 p7] [] cpos) p8] X.env) Q E' s1) E s := by
  obtain ⟨⟨o, n, t, u, hl, ho, hd, ht, hu, htu⟩, hyz, hz⟩ := hp
  have hi0 : X.N[0]? = some x0 := by rw [hN]; rfl
  have hi1 : X.N[1]? = some x1 := by rw [hN]; rfl
  have hi2 : X.N[2]? = some x2 := by rw [hN]; rfl
  have n12 : x2 ≠ x1 := by
    rw [hN] at hnd
    intro e
    subst e
    simp at hnd
  refine assign_Tuple_tuple (items := #[.str y t, .str z u]) (I.ok.hd hc) ⟨o, I.kIn a o hl, ho, n, hd⟩ (by rw [hae]; rfl) (by rw [hae]; rfl) fun h' hx => ?_
  have I1 : Inv X pins σ H { s with heap := h' } := I.kept (t' := s.toks) fun b o e => hx b o (Nat.ne_of_lt (Heap.lt_size e)) e
  rw [hae]
  obtain ⟨m, hm, _⟩ := id I1.loc
  refine assignInOrder_cons (wpAny_assign_Name (store_raw I1 hnd hi1 l1 (v := .str y) ⟨t, rfl⟩ hm fun s2 I2 m2 => ?_))
  refine assignInOrder_cons (wpAny_assign_Name (store_raw I2 hnd hi2 l2 (v := .str z) ⟨u, rfl⟩ m2 fun s3 I3 m3 => assignInOrder_nil ?_))
  have k1 : (fun w => if w = x2 then some (Value.str z u) else if w = x1 then some (Value.str y t) else m w) x1 = some (Value.str y t) := by
    show (if x1 = x2 then _ else if x1 = x1 then _ else _) = _
    rw [if_neg (Ne.symm n12), if_pos rfl]
  have k2 : (fun w => if w = x2 then some (Value.str z u) else if w = x1 then some (Value.str y t) else m w) x2 = some (Value.str z u) := by
    show (if x2 = x2 then _ else _) = _
    rw [if_pos rfl]
  have g0 : (((σ.set 1 (some (V.str y))).set 2 (some (V.str z))) : L2.St)[0]? = some (some (.str cur)) := by
    rw [List.getElem?_set_ne (by decide), List.getElem?_set_ne (by decide)]; exact h0
  have hlen := I3.len
  refine wpAny_execs_cons (wpAny_Assign_Name (PySem.Call_method2 hbase hst hline (raw_name hi0 (.inl l0) I3 g0 (fun v r => ?_) d0 c0)) hsw)
  obtain ⟨tx, e⟩ := r
  subst e
  refine ⟨"str", _, F.plainAttrs_str, F.slot_str_replace, F.type_str_replace, typeIs_str _ _ _, (fun _ e => nomatch e), Calls.callWith_builtin rfl (Calls.evalArgs_plain (Calls.spliced_cons ?_))⟩
  refine load_raw I3 l1 m3 k1 (Calls.spliced_cons (load_raw I3 l2 m3 k2 (Calls.spliced_nil ?_) d2)) d1
  refine PySem.SC.replace ht hu htu hyz hb fun t' j => ?_
  refine store_ok (v := V.str (Txt.replace cur y z)) (I3.tok j) hnd hi0 (.inl l0) ⟨t', rfl⟩ (fun s4 I4 => ?_) (.inr l0)
  refine wpAny_execs_nil (q _ _ I4 ?_)
  rw [List.getElem?_set_self (by rw [hlen, hN]; show 0 < 3; omega)]
/-- one replacing behind another -/
def reps : Str → List (Str × Str) → Str
  | x, [] => x
  | x, p :: r => reps (Txt.replace x p.1 p.2) r
theorem isTupleIter_keep {h h' : Heap} {it a : Addr} {i : Nat} (t : h.IsTupleIter it a i) (k : ∀ o, h.get? it = some o → h'.get? it = some o) : h'.IsTupleIter it a i := by
  obtain ⟨o, e, c, d⟩ := t
  exact ⟨o, k o e, c, d⟩
theorem ps_reps {a : Addr} {as : List Addr} {ps : List (Str × Str)} {x0 x1 x2 gx : Str} {p1 p2 p3 p4 p5 p6 p7 p8 p9 p10 apos cpos : Pos} {k n : Nat} {dd : Option Addr} {sl : Array (Option Value)} (hp : PassesOwn (model X.prog X.w) X.A X.env X.xe) (hc : X.calm = true)
    (hN : X.N = [x0, x1, x2]) (hnd : X.N.Nodup) (l0 : X.env.scope.names.lookup x0 = some .local) (l1 : X.env.scope.names.lookup x1 = some .local) (l2 : X.env.scope.names.lookup x2 = some .local)
    (d0 : (x0 == ("__debug__" : Str)) = false) (d1 : (x1 == ("__debug__" : Str)) = false) (d2 : (x2 == ("__debug__" : Str)) = false) (c0 : (x0 == ("__classdict__" : Str)) = false) (dg : (gx == ("__debug__" : Str)) = false)
    (hst : starEach [.Name x1 p6, .Name x2 p7] X.env = [(false, eval (.Name x1 p6) X.env), (false, eval (.Name x2 p7) X.env)])
    (hbase : attributeBase (.Name x0 p5) "replace" X.env (eval (.Name x0 p5) X.env) = eval (.Name x0 p5) X.env) (hline : (apos.endLine == cpos.line) = true)
    (hsw : swapsWith (.Call (.Attribute (.Name x0 p5) "replace" apos) [.Name x1 p6, .Name x2 p7] [] cpos) (some (.Name x0 p4)) p8.line X.env = pure false)
    (hae : assignEach [.Name x1 p1, .Name x2 p2] X.env = [(false, assign (.Name x1 p1) X.env), (false, assign (.Name x2 p2) X.env)]) (hfs : ∀ x, foldedSetIterable (.Name gx p9) X.env x = pure x)
    (hg : Gl X gx) (hm : X.mg gx = some (.ref a)) (hl : X.K.lookup a = some ⟨.type "tuple", dd, .seq (as.map Value.ref).toArray n, sl⟩) (hlen : as.length ≤ 4) (hps : ps.length = as.length)
    (hpr : ∀ (i : Nat) (b : Addr), as[i]? = some b → ∃ y z, ps[i]? = some (y, z) ∧ PairT X.K b y z) :
    PS X (.For (.Tuple [.Name x1 p1, .Name x2 p2] k p3) (.Name gx p9) [.Assign [.Name x0 p4] (.Call (.Attribute (.Name x0 p5) "replace" apos) [.Name x1 p6, .Name x2 p7] [] cpos) p8] [] p10)
      (fun D σ H => ∃ cur, σ[0]? = some (some (.str cur)) ∧ cur.length ≤ 400000 ∧ ∀ σ', σ'[0]? = some (some (.str (reps cur ps))) → D.nx σ' H) := by
  refine ⟨fun pins s σ H D I h => ?_⟩
  obtain ⟨cur, h0, hb, q⟩ := h
  have vals : ∀ bs : List Addr, Vals (bs.map V.ref) (bs.map Value.ref) := fun bs => by
    induction bs with
    | nil => exact .nil
    | cons b r ih => exact .cons rfl ih
  have sq : SqT X.K H a (as.map V.ref) := .inr ⟨_, _, n, hl, rfl, rfl, Evl.sz_of (by simp; omega), by simpa using vals as⟩
  refine wpAny_For (ld_glob I hg hm ?_ dg) hfs
  refine wpAny_pyIter_tuple (items := (as.map Value.ref).toArray) ⟨_, I.kIn a _ hl, rfl, n, rfl⟩ ?_
  generalize hit : s.heap.objs.size = it
  have fp : ∀ b ∈ [it], FpOk X pins H b := fun b hb => by
    have e : b = it := by simpa using hb
    subst e
    subst hit
    exact I.fpOk (Nat.le_refl _) (I.hok.fresh (Nat.le_refl _))
  have T : Turn X.prog X.w X.K (.Tuple [.Name x1 p1, .Name x2 p2] k p3) (Itt X.K a) [it] it (fun i h => h.IsTupleIter it a i) := turn_tuple a it
  refine codeAny_forLoop_any (fun m s' => ∃ i σ' c, m + i = as.length ∧ Inv X pins σ' H s' ∧ s'.heap.IsTupleIter it a i ∧ σ'[0]? = some (some (.str c)) ∧ reps c (ps.drop i) = reps cur ps ∧ (c.length + 1) * 2 ^ m ≤ 8000000) ?_ as.length
    ⟨0, σ, cur, rfl, ?_, ?_, h0, rfl, ?_⟩
  · rintro m s3 ⟨i, σ3, c, hmi, I3, t3, g3, r3, b3⟩
    by_cases hi : i < as.length
    · have hx : (as.map V.ref)[i]? = some (.ref as[i]) := by rw [List.getElem?_map, List.getElem?_eq_getElem hi]; rfl
      obtain ⟨y, z, hyz, P⟩ := hpr i as[i] (List.getElem?_eq_getElem hi)
      have hz := P.one
      refine wpAny_passesOwn hp (thn (T.item X rfl rfl rfl hc i pins s3 σ3 H X.xe I3 fp t3 ⟨_, _, sq, hx⟩) fun r s4 ⟨u, hr, h4⟩ => ?_)
      subst hr
      refine wpAny_passesOwn hp (thn h4 fun _ s5 ⟨x, H5, I5, r5, y5, t5, f5⟩ => ?_)
      obtain ⟨e5, y5⟩ := y5
      subst e5
      have e6 : x = .ref as[i] := by
        have := y5 _ sq
        rw [hx] at this
        exact (Option.some.inj this).symm
      subst e6
      cases r5
      have J5 := I5.pinned fp (T.obj _ _ t5)
      have hm1 : 1 ≤ m := by omega
      have hpow : 2 ^ m = 2 * 2 ^ (m - 1) := by
        obtain ⟨m', rfl⟩ : ∃ m', m = m' + 1 := ⟨m - 1, by omega⟩
        rw [Nat.add_sub_cancel, Nat.pow_succ, Nat.mul_comm]
      have hp1 : 1 ≤ 2 ^ (m - 1) := Nat.one_le_two_pow
      have hcl : c.length + 1 ≤ 8000000 := Nat.le_trans (Nat.le_mul_of_pos_right _ (Nat.two_pow_pos m)) b3
      refine wpAny_passesOwn hp ?_
      refine rep_turn hc hN hnd l0 l1 l2 d0 d1 d2 c0 hst hbase hline hsw hae J5 P g3 (by rw [hz]; omega) fun σ6 s6 I6 g6 => ?_
      refine ⟨m - 1, by omega, i + 1, σ6, _, by omega, I6.unpinned, isTupleIter_keep t5 fun o ho => (I6.pin (it, o) (List.mem_append_right _ (List.mem_append_right _ (mem_pinsAt (List.mem_singleton.mpr rfl) ho)))).1, g6, ?_, ?_⟩
      · rw [← r3]
        have e : ps.drop i = (y, z) :: ps.drop (i + 1) := by
          have hl := (List.getElem?_eq_some_iff.mp hyz).1
          rw [List.drop_eq_getElem_cons hl]
          rw [List.getElem?_eq_getElem hl] at hyz
          rw [Option.some.inj hyz]
        rw [e]
        rfl
      · have hrl := TK.replace_len c y z
        rw [hz] at hrl
        rw [hpow] at b3
        have : (Txt.replace c y z).length + 1 ≤ (c.length + 1) * 2 := by omega
        calc ((Txt.replace c y z).length + 1) * 2 ^ (m - 1) ≤ (c.length + 1) * 2 * 2 ^ (m - 1) := Nat.mul_le_mul_right _ this
          _ = (c.length + 1) * (2 * 2 ^ (m - 1)) := Nat.mul_assoc _ _ _
          _ ≤ _ := b3
    · refine wpAny_passesOwn hp (thn (T.done X rfl rfl rfl hc i pins s3 σ3 H X.xe I3 fp t3 ⟨_, sq, by rw [List.length_map]; omega⟩) fun r s4 ⟨hr, I4⟩ => ?_)
      subst hr
      refine wpAny_execs_nil ⟨σ3, H, I4, q _ ?_⟩
      rw [g3]
      rw [List.drop_eq_nil_of_le (by omega)] at r3
      rw [← r3]
      rfl
  · exact I.kept (t' := s.toks) fun b o e => Heap.get?_push_of_some _ e
  · subst hit
    exact ⟨_, Heap.get?_push_size _ rfl, rfl, rfl⟩
  · have : 2 ^ as.length ≤ 2 ^ 4 := Nat.pow_le_pow_right (by decide) hlen
    calc (cur.length + 1) * 2 ^ as.length ≤ (cur.length + 1) * 2 ^ 4 := Nat.mul_le_mul_left _ this
      _ ≤ _ := by omega
end
section
variable {K : PySem.W.Frag} {mg : Str → Option Value}
/-- a tuple of such pairs, of the module -/
structure PairsT (K : PySem.W.Frag) (mg : Str → Option Value) (gx : Str) (ps : List (Str × Str)) : Prop where
  ex : ∃ (a : Addr) (as : List Addr) (n : Nat) (dd : Option Addr) (sl : Array (Option Value)), mg gx = some (.ref a) ∧ K.lookup a = some ⟨.type "tuple", dd, .seq (as.map Value.ref).toArray n, sl⟩ ∧ as.length ≤ 4 ∧ ps.length = as.length ∧
    ∀ (i : Nat) (b : Addr), as[i]? = some b → ∃ y z, ps[i]? = some (y, z) ∧ PairT K b y z
theorem pair_of {a : Addr} {dd : Option Addr} {y z : Str} {t u : Tok} {n : Nat} {sl : Array (Option Value)} (l : K.lookup a = some ⟨.type "tuple", dd, .seq #[.str y t, .str z u] n, sl⟩) (h : t ≠ 0 ∧ u ≠ 0 ∧ t ≠ u) (ne : (y == z) = false) (one : z.length = 1) : PairT K a y z :=
  ⟨⟨_, n, t, u, l, rfl, rfl, h.1, h.2.1, h.2.2⟩, ne, one⟩
theorem pairs_nil : ∀ (i : Nat) (b : Addr), ([] : List Addr)[i]? = some b → ∃ y z, ([] : List (Str × Str))[i]? = some (y, z) ∧ PairT K b y z := fun i b h => by simp at h
theorem pairs_cons {a : Addr} {y z : Str} {as : List Addr} {ps : List (Str × Str)} (h : PairT K a y z) (r : ∀ (i : Nat) (b : Addr), as[i]? = some b → ∃ y z, ps[i]? = some (y, z) ∧ PairT K b y z) :
    ∀ (i : Nat) (b : Addr), (a :: as)[i]? = some b → ∃ y' z', ((y, z) :: ps)[i]? = some (y', z') ∧ PairT K b y' z'
  | 0, b, e => by
    cases e
    exact ⟨y, z, rfl, h⟩
  | i + 1, b, e => r i b (by simpa using e)
end
end VI
end
section
open PySem PySem.StrLaws
namespace Law
abbrev cLt : List Nat := [38, 108, 116, 59]
abbrev cGt : List Nat := [38, 103, 116, 59]
abbrev cQuot : List Nat := [38, 113, 117, 111, 116, 59]
abbrev cAmp : List Nat := [38, 97, 109, 112, 59]
/-- written: & first, then < -/
def wrS (s : List Nat) : List Nat := replL [60] cLt (replL [38] cAmp s)
/-- read: in the order of the program -/
def plS (s : List Nat) : List Nat := replL cAmp [38] (replL cQuot [34] (replL cGt [62] (replL cLt [60] s)))
def esc (c : Nat) : List Nat := if c = 38 then cAmp else if c = 60 then cLt else [c]
theorem miss1 {k c : Nat} {z r : List Nat} (h : c ≠ k) : replL [k] z (c :: r) = c :: replL [k] z r := replL_miss (by
  intro e
  have : c = k := by simpa using e
  exact h this)
theorem hit1 {k : Nat} {z r : List Nat} : replL [k] z (k :: r) = z ++ replL [k] z r := replL_hit (by simp) (by simp)
theorem wrS_nil : wrS [] = [] := by unfold wrS; rw [replL_nil, replL_nil]
theorem wrS_cons (c : Nat) (r : List Nat) : wrS (c :: r) = esc c ++ wrS r := by
  unfold wrS esc
  by_cases h : c = 38
  · subst h
    rw [hit1, if_pos rfl]
    show replL [60] cLt (38 :: 97 :: 109 :: 112 :: 59 :: _) = _
    rw [miss1 (by decide), miss1 (by decide), miss1 (by decide), miss1 (by decide), miss1 (by decide)]
    rfl
  · rw [miss1 h, if_neg h]
    by_cases g : c = 60
    · subst g; rw [hit1, if_pos rfl]
    · rw [miss1 g, if_neg g]; rfl
theorem wrS_flat : ∀ s : List Nat, wrS s = (s.map esc).flatten
  | [] => wrS_nil
  | c :: r => by rw [wrS_cons, wrS_flat r]; rfl
theorem esc_len (c : Nat) : (esc c).length ≤ 5 := by
  unfold esc
  split
  · decide
  · split
    · decide
    · show 1 ≤ 5; decide
theorem wrS_len (s : List Nat) : (wrS s).length ≤ 5 * s.length := by
  induction s with
  | nil => rw [wrS_nil]; exact Nat.le_refl _
  | cons c r ih => rw [wrS_cons, List.length_append, List.length_cons]; have := esc_len c; omega
/-! reading -/
theorem missN {c : Nat} {y z r : List Nat} (h : c ≠ 38) : replL (38 :: y) z (c :: r) = c :: replL (38 :: y) z r := replL_miss (by
  intro e
  rw [List.length_cons, List.take_succ_cons] at e
  injection e with e1 e2
  exact h e1)
/-- what the start of a text behind a replacing is: it was so ahead of it -/
theorem start_repl {y : List Nat} {k : Nat} : ∀ (w r : List Nat), k ∉ w → (replL y [k] r).take w.length = w → r.take w.length = w
  | [], _, _, _ => by rw [List.length_nil, List.take_zero]
  | a :: w, [], _, h => by rw [replL_nil] at h; cases h
  | a :: w, c :: r, hk, h => by
    by_cases hy : (c :: r).take y.length = y
    · by_cases hy0 : y = []
      · subst hy0
        have e : replL [] [k] (c :: r) = k :: replS [] [k] 0 r := by
          unfold replL
          rw [replS, if_pos (by rfl)]
          rfl
        rw [e, List.length_cons, List.take_succ_cons] at h
        injection h with e1 e2
        exact absurd (List.mem_cons_self) (e1 ▸ hk)
      · rw [replL_hit hy0 hy] at h
        have h2 : k :: ((replL y [k] ((c :: r).drop y.length)).take w.length) = a :: w := h
        injection h2 with e1 e2
        exact absurd (List.mem_cons_self) (e1 ▸ hk)
    · rw [replL_miss hy, List.length_cons, List.take_succ_cons] at h
      injection h with e1 e2
      subst e1
      rw [List.length_cons, List.take_succ_cons, start_repl w r (fun h => hk (List.mem_cons_of_mem _ h)) e2]
def stepL (l : List Nat) : Nat × Nat := if l.take 4 = cLt then (60, 4) else if l.take 4 = cGt then (62, 4) else if l.take 5 = cAmp then (38, 5) else if l.take 6 = cQuot then (34, 6) else (l.headD 0, 1)
theorem plS_nil : plS [] = [] := by unfold plS; rw [replL_nil, replL_nil, replL_nil, replL_nil]
theorem plS_other {c : Nat} {r : List Nat} (h : c ≠ 38) : plS (c :: r) = c :: plS r := by
  unfold plS
  rw [missN h, missN h, missN h, missN h]
theorem drop_of_take {l w : List Nat} (h : l.take w.length = w) : l = w ++ l.drop w.length := by
  conv => lhs; rw [← List.take_append_drop w.length l, h]
theorem plS_lt (x : List Nat) : plS (cLt ++ x) = 60 :: plS x := by
  unfold plS
  show replL cAmp [38] (replL cQuot [34] (replL cGt [62] (replL cLt [60] (38 :: 108 :: 116 :: 59 :: x)))) = _
  rw [replL_hit (y := cLt) (by decide) rfl]
  show replL cAmp [38] (replL cQuot [34] (replL cGt [62] (60 :: replL cLt [60] x))) = _
  rw [missN (by decide), missN (by decide), missN (by decide)]
theorem passT {y z x : List Nat} : ∀ {t : List Nat}, 38 ∉ t → replL (38 :: y) z (t ++ x) = t ++ replL (38 :: y) z x
  | [], _ => rfl
  | c :: t, h => by
    rw [List.cons_append, missN (fun e => h (e ▸ List.mem_cons_self)), passT (fun e => h (List.mem_cons_of_mem _ e))]
    rfl
theorem passC {y z x t : List Nat} (ht : 38 ∉ t) (h : ¬ (38 :: (t ++ x)).take (38 :: y).length = 38 :: y) : replL (38 :: y) z (38 :: (t ++ x)) = 38 :: (t ++ replL (38 :: y) z x) := by
  rw [replL_miss h, passT ht]
theorem hitC {t z x : List Nat} : replL (38 :: t) z (38 :: (t ++ x)) = z ++ replL (38 :: t) z x := by
  have e : (38 :: (t ++ x)).take (38 :: t).length = 38 :: t := by rw [List.length_cons, List.take_succ_cons, List.take_left]
  rw [replL_hit (by simp) e]
  congr 2
  show (38 :: (t ++ x)).drop (t.length + 1) = x
  rw [List.drop_succ_cons, List.drop_left]
theorem plS_gt (x : List Nat) : plS (cGt ++ x) = 62 :: plS x := by
  unfold plS
  show replL cAmp [38] (replL cQuot [34] (replL cGt [62] (replL cLt [60] (38 :: ([103, 116, 59] ++ x))))) = _
  rw [passC (y := [108, 116, 59]) (by decide) (by simp), hitC (t := [103, 116, 59])]
  show replL cAmp [38] (replL cQuot [34] (62 :: replL cGt [62] (replL cLt [60] x))) = _
  rw [missN (y := [113, 117, 111, 116, 59]) (by decide), missN (y := [97, 109, 112, 59]) (by decide)]
theorem plS_quot (x : List Nat) : plS (cQuot ++ x) = 34 :: plS x := by
  unfold plS
  show replL cAmp [38] (replL cQuot [34] (replL cGt [62] (replL cLt [60] (38 :: ([113, 117, 111, 116, 59] ++ x))))) = _
  rw [passC (y := [108, 116, 59]) (by decide) (by simp), passC (y := [103, 116, 59]) (by decide) (by simp), hitC (t := [113, 117, 111, 116, 59])]
  show replL cAmp [38] (34 :: replL cQuot [34] (replL cGt [62] (replL cLt [60] x))) = _
  rw [missN (y := [97, 109, 112, 59]) (by decide)]
theorem plS_amp (x : List Nat) : plS (cAmp ++ x) = 38 :: plS x := by
  unfold plS
  show replL cAmp [38] (replL cQuot [34] (replL cGt [62] (replL cLt [60] (38 :: ([97, 109, 112, 59] ++ x))))) = _
  rw [passC (y := [108, 116, 59]) (by decide) (by simp), passC (y := [103, 116, 59]) (by decide) (by simp), passC (y := [113, 117, 111, 116, 59]) (by decide) (by simp), hitC (t := [97, 109, 112, 59])]
  rfl
theorem plS_none {r : List Nat} (h1 : ¬ (38 :: r).take 4 = cLt) (h2 : ¬ (38 :: r).take 4 = cGt) (h3 : ¬ (38 :: r).take 5 = cAmp) (h4 : ¬ (38 :: r).take 6 = cQuot) : plS (38 :: r) = 38 :: plS r := by
  unfold plS
  rw [replL_miss (y := cLt) h1]
  have g2 : ¬ (38 :: replL cLt [60] r).take 4 = cGt := by
    intro e
    rw [List.take_succ_cons] at e
    injection e with _ e
    have e2 : r.take 3 = [103, 116, 59] := start_repl [103, 116, 59] r (by decide) e
    exact h2 (by rw [List.take_succ_cons, e2])
  rw [replL_miss (y := cGt) g2]
  have g4 : ¬ (38 :: replL cGt [62] (replL cLt [60] r)).take 6 = cQuot := by
    intro e
    rw [List.take_succ_cons] at e
    injection e with _ e
    have e2 : r.take 5 = [113, 117, 111, 116, 59] := start_repl [113, 117, 111, 116, 59] r (by decide) (start_repl [113, 117, 111, 116, 59] _ (by decide) e)
    exact h4 (by rw [List.take_succ_cons, e2])
  rw [replL_miss (y := cQuot) g4]
  have g3 : ¬ (38 :: replL cQuot [34] (replL cGt [62] (replL cLt [60] r))).take 5 = cAmp := by
    intro e
    rw [List.take_succ_cons] at e
    injection e with _ e
    have e2 : r.take 4 = [97, 109, 112, 59] := start_repl [97, 109, 112, 59] r (by decide) (start_repl [97, 109, 112, 59] _ (by decide) (start_repl [97, 109, 112, 59] _ (by decide) e))
    exact h3 (by rw [List.take_succ_cons, e2])
  rw [replL_miss (y := cAmp) g3]
/-- read sign by sign, going along -/
theorem plS_step {l : List Nat} (h : l ≠ []) : plS l = (stepL l).1 :: plS (l.drop (stepL l).2) := by
  unfold stepL
  split
  · rename_i e
    conv => lhs; rw [drop_of_take (w := cLt) e, plS_lt]
    rfl
  split
  · rename_i e
    conv => lhs; rw [drop_of_take (w := cGt) e, plS_gt]
    rfl
  split
  · rename_i e
    conv => lhs; rw [drop_of_take (w := cAmp) e, plS_amp]
    rfl
  split
  · rename_i e
    conv => lhs; rw [drop_of_take (w := cQuot) e, plS_quot]
    rfl
  rename_i h1 h2 h3 h4
  cases l with
  | nil => exact absurd rfl h
  | cons c r =>
    show plS (c :: r) = c :: plS r
    by_cases hc : c = 38
    · subst hc; exact plS_none h1 h2 h3 h4
    · exact plS_other hc
theorem stepL_pos (l : List Nat) : 1 ≤ (stepL l).2 := by
  unfold stepL
  split
  · decide
  split
  · decide
  split
  · decide
  split
  · decide
  · exact Nat.le_refl _
theorem take_le {l w : List Nat} (h : l.take w.length = w) : w.length ≤ l.length := by
  have := congrArg List.length h
  rw [List.length_take] at this
  omega
theorem stepL_le {l : List Nat} (h : l ≠ []) : (stepL l).2 ≤ l.length := by
  unfold stepL
  split
  · rename_i e; exact take_le (w := cLt) e
  split
  · rename_i e; exact take_le (w := cGt) e
  split
  · rename_i e; exact take_le (w := cAmp) e
  split
  · rename_i e; exact take_le (w := cQuot) e
  · exact List.length_pos_iff.mpr h
theorem plS_wr : ∀ (x y : List Nat), plS (wrS x ++ y) = x ++ plS y
  | [], y => by rw [wrS_nil]; rfl
  | c :: r, y => by
    rw [wrS_cons, List.append_assoc, List.cons_append, ← plS_wr r y]
    unfold esc
    split
    · rename_i e; subst e; exact plS_amp _
    split
    · rename_i e; subst e; exact plS_lt _
    · rename_i h1 h2; exact plS_other h1
theorem plS_len (l : List Nat) : (plS l).length ≤ l.length := by
  have key : ∀ n (l : List Nat), l.length ≤ n → (plS l).length ≤ l.length := by
    intro n
    induction n with
    | zero => intro l h; rw [List.length_eq_zero_iff.mp (Nat.le_zero.mp h), plS_nil]; exact Nat.le_refl _
    | succ n ih =>
      intro l h
      by_cases hl : l = []
      · rw [hl, plS_nil]; exact Nat.le_refl _
      · have h1 := stepL_pos l
        have h2 := stepL_le hl
        rw [plS_step hl, List.length_cons]
        have := ih (l.drop (stepL l).2) (by rw [List.length_drop]; omega)
        rw [List.length_drop] at this
        omega
  exact key _ l (Nat.le_refl _)
end Law
end
section
namespace VI
open PySem PySem.Spec PyProof.Rows L2
section
variable {X : Cx}
/-- s.lstrip(t) -/
def sLstrip (s : List Nat) : Mem → List D → Option D
  | _, [.str t] => if s.length ≤ 16777216 then some (.str (Txt.lstripChars (S s) (S t)).cps.toList) else none
  | _, _ => none
theorem ms_lstrip : MS X "str.lstrip" sLstrip := by
  intro F φ m H s ds d vs rp r hh Q q
  unfold sLstrip at hh
  split at hh
  · split at hh
    · rename_i t' hl
      cases hh
      obtain ⟨v, rfl, r0⟩ := r.one
      cases r0
      refine ⟨_, mt_lstripChars, _, _, rfl, rfl, ?_, ?_⟩
      · rw [S_len]; exact hl
      · have e := S_mk (Txt.lstripChars (S s) (S t'))
        rw [← e]
        exact same rp q (.str _)
    · cases hh
  · cases hh
end
end VI
end
section
namespace Law
open VI
def f_written_sign : FD := fun ds m => match ds with
  | [.str s] => if s.length ≤ 100000 then some (.str (wrS s), m) else none
  | _ => none
def f_plain_signs : FD := fun ds m => match ds with
  | [.str s] => if s.length ≤ 100000 then some (.str (plS s), m) else none
  | _ => none
end Law
end
section
namespace VI
open PySem
/-! ### how a meaning is reckoned: what must hold so that it ends, with Q of its end -/
def W {α : Type} (x : Option (α × Mem)) (Q : α → Mem → Prop) : Prop := ∃ a m', x = some (a, m') ∧ Q a m'
theorem W.mono {α : Type} {x : Option (α × Mem)} {Q Q' : α → Mem → Prop} (h : W x Q) (q : ∀ a m, Q a m → Q' a m) : W x Q' := by
  obtain ⟨a, m', e, h⟩ := h
  exact ⟨a, m', e, q a m' h⟩
theorem W.of {α : Type} {x : Option (α × Mem)} {a : α} {m' : Mem} {Q : α → Mem → Prop} (e : x = some (a, m')) (h : Q a m') : W x Q := ⟨a, m', e, h⟩
section
variable {ρ : Env} {m : Mem} {Q : D → Mem → Prop} {QA : List D → Mem → Prop} {QT : Bool → Mem → Prop} {QB : Fl → Mem → Prop} {QG : Env → Mem → Prop} {a b c e : EF} {r : AF} {t u : TF} {f1 f2 : BF} {g : GF} {gs : GFs} {d x y : D} {ds : List D}
theorem w_var {i : Nat} (h : ρ[i]? = some (some d)) (q : Q d m) : W (eVar i ρ m) Q := ⟨d, m, by unfold eVar; rw [h], q⟩
theorem w_c (q : Q d m) : W (eC d ρ m) Q := ⟨d, m, rfl, q⟩
/-- the operator's own word -/
def opQ (o : Option D) (Q : D → Mem → Prop) (m : Mem) : Prop := ∃ d, o = some d ∧ Q d m
theorem opq (h : Option.some d = o) (q : Q d m) : opQ o Q m := ⟨d, h.symm, q⟩
theorem w_op {p : Mem → D → D → Option D} (h : W (a ρ m) fun x m1 => W (b ρ m1) fun y m2 => opQ (p m2 x y) Q m2) : W (eOp p a b ρ m) Q := by
  obtain ⟨x, m1, e1, y, m2, e2, d, e3, q⟩ := h
  exact ⟨d, m2, by unfold eOp; rw [e1]; dsimp only; rw [e2]; dsimp only; rw [e3], q⟩
theorem w_un {p : Mem → D → Option D} (h : W (a ρ m) fun x m1 => opQ (p m1 x) Q m1) : W (eUn p a ρ m) Q := by
  obtain ⟨x, m1, e1, d, e3, q⟩ := h
  exact ⟨d, m1, by unfold eUn; rw [e1]; dsimp only; rw [e3], q⟩
theorem w_blt {p : Mem → List D → Option D} (h : W (r ρ m) fun x m1 => opQ (p m1 x) Q m1) : W (eBlt p r ρ m) Q := by
  obtain ⟨x, m1, e1, d, e3, q⟩ := h
  exact ⟨d, m1, by unfold eBlt; rw [e1]; dsimp only; rw [e3], q⟩
/-- the end is a truth -/
def blQ (QT : Bool → Mem → Prop) (d : D) (m : Mem) : Prop := ∃ b, d = .bl b ∧ QT b m
theorem blq {v : Bool} (q : QT v m) : blQ QT (.bl v) m := ⟨v, rfl, q⟩
theorem w_not (h : W (a ρ m) (blQ fun v m1 => Q (.bl (!v)) m1)) : W (eNot a ρ m) Q := by
  obtain ⟨x, m1, e1, v, rfl, q⟩ := h
  exact ⟨_, m1, by unfold eNot; rw [e1], q⟩
/-- which way -/
def ifQ (v : Bool) (A B : Prop) : Prop := (v = true → A) ∧ (v = false → B)
theorem ifq_t {A B : Prop} (h : A) : ifQ true A B := ⟨fun _ => h, fun e => (nomatch e)⟩
theorem ifq_f {A B : Prop} (h : B) : ifQ false A B := ⟨fun e => (nomatch e), fun _ => h⟩
theorem ifq_d {p : Prop} [Decidable p] {A B : Prop} (h1 : p → A) (h2 : ¬ p → B) : ifQ (decide p) A B := ⟨fun e => h1 (of_decide_eq_true e), fun e => h2 (of_decide_eq_false e)⟩
theorem ifq_nd {p : Prop} [Decidable p] {A B : Prop} (h1 : ¬ p → A) (h2 : p → B) : ifQ (!decide p) A B := by
  by_cases h : p
  · rw [decide_eq_true h]; exact ifq_f (h2 h)
  · rw [decide_eq_false h]; exact ifq_t (h1 h)
theorem ifq_n {v : Bool} {A B : Prop} (h : ifQ v B A) : ifQ (!v) A B := by
  cases v
  · exact ifq_t (h.2 rfl)
  · exact ifq_f (h.1 rfl)
theorem w_and (h : W (a ρ m) (blQ fun v m1 => ifQ v (W (b ρ m1) Q) (Q (.bl false) m1))) : W (eAnd a b ρ m) Q := by
  obtain ⟨x, m1, e1, v, rfl, q1, q2⟩ := h
  cases v
  · exact ⟨_, m1, by unfold eAnd; rw [e1], q2 rfl⟩
  · obtain ⟨y, m2, e2, q⟩ := q1 rfl
    exact ⟨y, m2, by unfold eAnd; rw [e1]; exact e2, q⟩
theorem w_or (h : W (a ρ m) (blQ fun v m1 => ifQ v (Q (.bl true) m1) (W (b ρ m1) Q))) : W (eOr a b ρ m) Q := by
  obtain ⟨x, m1, e1, v, rfl, q1, q2⟩ := h
  cases v
  · obtain ⟨y, m2, e2, q⟩ := q2 rfl
    exact ⟨y, m2, by unfold eOr; rw [e1]; exact e2, q⟩
  · exact ⟨_, m1, by unfold eOr; rw [e1], q1 rfl⟩
theorem w_if (h : W (t ρ m) fun v m1 => ifQ v (W (a ρ m1) Q) (W (b ρ m1) Q)) : W (eIf t a b ρ m) Q := by
  obtain ⟨v, m1, e1, q1, q2⟩ := h
  cases v
  · obtain ⟨y, m2, e2, q⟩ := q2 rfl
    exact ⟨y, m2, by unfold eIf; rw [e1]; exact e2, q⟩
  · obtain ⟨y, m2, e2, q⟩ := q1 rfl
    exact ⟨y, m2, by unfold eIf; rw [e1]; exact e2, q⟩
theorem w_chain {p p' : Mem → D → D → Option D} (h : W (a ρ m) fun x m1 => W (b ρ m1) fun y m2 => opQ (p m2 x y) (blQ fun v m2 => ifQ v (W (c ρ m2) fun z m3 => opQ (p' m3 y z) Q m3) (Q (.bl false) m2)) m2) : W (eChain p p' a b c ρ m) Q := by
  obtain ⟨x, m1, e1, y, m2, e2, d, e3, v, rfl, q1, q2⟩ := h
  cases v
  · exact ⟨_, m2, by unfold eChain; rw [e1]; dsimp only; rw [e2]; dsimp only; rw [e3], q2 rfl⟩
  · obtain ⟨z, m3, e4, d', e5, q⟩ := q1 rfl
    exact ⟨d', m3, by unfold eChain; rw [e1]; dsimp only; rw [e2]; dsimp only; rw [e3]; dsimp only; rw [e4]; dsimp only; rw [e5], q⟩
theorem w_anil (q : QA [] m) : W (aNil ρ m) QA := ⟨[], m, rfl, q⟩
theorem w_acons (h : W (a ρ m) fun x m1 => W (r ρ m1) fun xs m2 => QA (x :: xs) m2) : W (aCons a r ρ m) QA := by
  obtain ⟨x, m1, e1, xs, m2, e2, q⟩ := h
  exact ⟨_, m2, by unfold aCons; rw [e1]; dsimp only; rw [e2], q⟩
theorem w_tup (h : W (r ρ m) fun xs m1 => Q (.tup xs) m1) : W (eTup r ρ m) Q := by
  obtain ⟨x, m1, e1, q⟩ := h
  exact ⟨_, m1, by unfold eTup; rw [e1], q⟩
theorem w_lst (h : W (r ρ m) fun xs m1 => Q (.lst xs) m1) : W (eLst r ρ m) Q := by
  obtain ⟨x, m1, e1, q⟩ := h
  exact ⟨_, m1, by unfold eLst; rw [e1], q⟩
theorem w_cel (h : W (r ρ m) fun xs m1 => Q (.cell m1.length) (m1 ++ [.lst xs])) : W (eCel r ρ m) Q := by
  obtain ⟨x, m1, e1, q⟩ := h
  exact ⟨_, _, by unfold eCel; rw [e1], q⟩
theorem w_frz (h : W (a ρ m) fun x m1 => ∃ i ds, x = .cell i ∧ m1[i]? = some (.lst ds) ∧ Q (.lst ds) (m1.set i .dead)) : W (eFrz a ρ m) Q := by
  obtain ⟨x, m1, e1, i, ds, rfl, e2, q⟩ := h
  exact ⟨_, _, by unfold eFrz; rw [e1]; dsimp only; rw [e2], q⟩
theorem w_call {f : FD} (h : W (r ρ m) fun xs m1 => W (f xs m1) Q) : W (eCall f r ρ m) Q := by
  obtain ⟨x, m1, e1, y, m2, e2, q⟩ := h
  exact ⟨y, m2, by unfold eCall; rw [e1]; exact e2, q⟩
theorem w_tv (h : W (a ρ m) (blQ QT)) : W (tV a ρ m) QT := by
  obtain ⟨x, m1, e1, v, rfl, q⟩ := h
  exact ⟨v, m1, by unfold tV; rw [e1], q⟩
theorem w_tnot (h : W (t ρ m) fun v m1 => QT (!v) m1) : W (tNot t ρ m) QT := by
  obtain ⟨v, m1, e1, q⟩ := h
  exact ⟨_, m1, by unfold tNot; rw [e1], q⟩
theorem w_tand (h : W (t ρ m) fun v m1 => ifQ v (W (u ρ m1) QT) (QT false m1)) : W (tAnd t u ρ m) QT := by
  obtain ⟨v, m1, e1, q1, q2⟩ := h
  cases v
  · exact ⟨_, m1, by unfold tAnd; rw [e1], q2 rfl⟩
  · obtain ⟨y, m2, e2, q⟩ := q1 rfl
    exact ⟨y, m2, by unfold tAnd; rw [e1]; exact e2, q⟩
theorem w_tor (h : W (t ρ m) fun v m1 => ifQ v (QT true m1) (W (u ρ m1) QT)) : W (tOr t u ρ m) QT := by
  obtain ⟨v, m1, e1, q1, q2⟩ := h
  cases v
  · obtain ⟨y, m2, e2, q⟩ := q2 rfl
    exact ⟨y, m2, by unfold tOr; rw [e1]; exact e2, q⟩
  · exact ⟨_, m1, by unfold tOr; rw [e1], q1 rfl⟩
theorem w_bits (h : W (a ρ m) fun x m1 => ∃ i, x = .int i ∧ Q (.int (Builtin.Int.intBits i : Nat)) m1) : W (eBits a ρ m) Q := by
  obtain ⟨x, m1, e1, i, rfl, q⟩ := h
  exact ⟨_, m1, by unfold eBits; rw [e1], q⟩
theorem w_mS {p : List Nat → Mem → List D → Option D} (h : W (a ρ m) fun x m1 => ∃ s, x = .str s ∧ W (r ρ m1) fun xs m2 => opQ (p s m2 xs) Q m2) : W (eMS p a r ρ m) Q := by
  obtain ⟨x, m1, e1, s, rfl, y, m2, e2, d, e3, q⟩ := h
  exact ⟨d, m2, by unfold eMS; rw [e1]; dsimp only; rw [e2]; dsimp only; rw [e3], q⟩
theorem w_app (h : W (a ρ m) fun x m1 => ∃ i ds0, x = .cell i ∧ m1[i]? = some (.lst ds0) ∧ W (e ρ m1) fun d m2 => ∃ ds, m2[i]? = some (.lst ds) ∧ ds.length < 16777216 ∧ Q .non (m2.set i (.lst (ds ++ [d])))) : W (eApp a e ρ m) Q := by
  obtain ⟨x, m1, e1, i, ds0, rfl, e2, d, m2, e3, ds, e4, hl, q⟩ := h
  exact ⟨_, _, by unfold eApp; rw [e1]; dsimp only; rw [e2]; dsimp only; rw [e3]; dsimp only; rw [e4]; dsimp only; rw [if_pos hl], q⟩
/-! slices -/
theorem w_pno {QP : Option Int → Mem → Prop} (q : QP none m) : W (pNo ρ m) QP := ⟨_, m, rfl, q⟩
theorem w_pso {QP : Option Int → Mem → Prop} (h : W (a ρ m) fun x m1 => ∃ i, x = .int i ∧ QP (some i) m1) : W (pSo a ρ m) QP := by
  obtain ⟨x, m1, e1, i, rfl, q⟩ := h
  exact ⟨_, m1, by unfold pSo; rw [e1], q⟩
theorem w_sl {p1 p2 : PFn} (h : W (a ρ m) fun x m1 => W (p1 ρ m1) fun lo m2 => W (p2 ρ m2) fun hi m3 => opQ (slD m3 x lo hi) Q m3) : W (eSl a p1 p2 ρ m) Q := by
  obtain ⟨x, m1, e1, lo, m2, e2, hi, m3, e3, d, e4, q⟩ := h
  exact ⟨d, m3, by unfold eSl; rw [e1]; dsimp only; rw [e2]; dsimp only; rw [e3]; dsimp only; rw [e4], q⟩
/-! blocks -/
def seqQ (b : BF) (QB : Fl → Mem → Prop) : Fl → Mem → Prop
  | .nx ρ, m => W (b ρ m) QB
  | r, m => QB r m
theorem w_bnil (q : QB (.nx ρ) m) : W (bNil ρ m) QB := ⟨_, m, rfl, q⟩
theorem w_seq (h : W (f1 ρ m) (seqQ f2 QB)) : W (bSeq f1 f2 ρ m) QB := by
  obtain ⟨x, m1, e1, q⟩ := h
  cases x with
  | nx ρ1 =>
    obtain ⟨y, m2, e2, q⟩ := q
    exact ⟨y, m2, by unfold bSeq; rw [e1]; exact e2, q⟩
  | rt d => exact ⟨_, m1, by unfold bSeq; rw [e1], q⟩
  | bk d => exact ⟨_, m1, by unfold bSeq; rw [e1], q⟩
  | ct d => exact ⟨_, m1, by unfold bSeq; rw [e1], q⟩
theorem seq_nx {ρ1 : Env} (h : W (f2 ρ1 m) QB) : seqQ f2 QB (.nx ρ1) m := h
theorem seq_rt (h : QB (.rt d) m) : seqQ f2 QB (.rt d) m := h
theorem seq_bk {ρ1 : Env} (h : QB (.bk ρ1) m) : seqQ f2 QB (.bk ρ1) m := h
theorem seq_ct {ρ1 : Env} (h : QB (.ct ρ1) m) : seqQ f2 QB (.ct ρ1) m := h
theorem w_drop (h : W (e ρ m) fun _ m1 => QB (.nx ρ) m1) : W (bDrop e ρ m) QB := by
  obtain ⟨x, m1, e1, q⟩ := h
  exact ⟨_, m1, by unfold bDrop; rw [e1], q⟩
theorem w_ret (h : W (e ρ m) fun d m1 => QB (.rt d) m1) : W (bRet e ρ m) QB := by
  obtain ⟨x, m1, e1, q⟩ := h
  exact ⟨_, m1, by unfold bRet; rw [e1], q⟩
theorem w_retN (q : QB (.rt .non) m) : W (bRetN ρ m) QB := ⟨_, m, rfl, q⟩
theorem w_bk (q : QB (.bk ρ) m) : W (bBk ρ m) QB := ⟨_, m, rfl, q⟩
theorem w_ct (q : QB (.ct ρ) m) : W (bCt ρ m) QB := ⟨_, m, rfl, q⟩
theorem w_bif (h : W (t ρ m) fun v m1 => ifQ v (W (f1 ρ m1) QB) (W (f2 ρ m1) QB)) : W (bIf t f1 f2 ρ m) QB := by
  obtain ⟨v, m1, e1, q1, q2⟩ := h
  cases v
  · obtain ⟨y, m2, e2, q⟩ := q2 rfl
    exact ⟨y, m2, by unfold bIf; rw [e1]; exact e2, q⟩
  · obtain ⟨y, m2, e2, q⟩ := q1 rfl
    exact ⟨y, m2, by unfold bIf; rw [e1]; exact e2, q⟩
theorem w_set (h : W (e ρ m) fun d m1 => W (g d ρ m1) fun ρ1 m2 => QB (.nx ρ1) m2) : W (bSet g e ρ m) QB := by
  obtain ⟨x, m1, e1, ρ1, m2, e2, q⟩ := h
  exact ⟨_, m2, by unfold bSet; rw [e1]; dsimp only; rw [e2], q⟩
theorem w_aug {i : Nat} {p : Mem → D → D → Option D} (hx : ρ[i]? = some (some x)) (h : W (e ρ m) fun y m1 => opQ (p m1 x y) (fun d m1 => QB (.nx (ρ.set i (some d))) m1) m1) : W (bAug i p e ρ m) QB := by
  obtain ⟨y, m1, e1, d, e2, q⟩ := h
  exact ⟨_, m1, by unfold bAug; rw [hx]; dsimp only; rw [e1]; dsimp only; rw [e2], q⟩
/-! targets -/
theorem w_name {i : Nat} (q : QG (ρ.set i (some d)) m) : W (gName i d ρ m) QG := ⟨_, m, rfl, q⟩
theorem w_name0 {x0 : Option D} {l : Env} (q : QG (some d :: l) m) : W (gName 0 d (x0 :: l) m) QG := ⟨_, m, rfl, q⟩
theorem w_name1 {x0 x1 : Option D} {l : Env} (q : QG (x0 :: some d :: l) m) : W (gName 1 d (x0 :: x1 :: l) m) QG := ⟨_, m, rfl, q⟩
theorem w_name2 {x0 x1 x2 : Option D} {l : Env} (q : QG (x0 :: x1 :: some d :: l) m) : W (gName 2 d (x0 :: x1 :: x2 :: l) m) QG := ⟨_, m, rfl, q⟩
theorem w_name3 {x0 x1 x2 x3 : Option D} {l : Env} (q : QG (x0 :: x1 :: x2 :: some d :: l) m) : W (gName 3 d (x0 :: x1 :: x2 :: x3 :: l) m) QG := ⟨_, m, rfl, q⟩
theorem w_name4 {x0 x1 x2 x3 x4 : Option D} {l : Env} (q : QG (x0 :: x1 :: x2 :: x3 :: some d :: l) m) : W (gName 4 d (x0 :: x1 :: x2 :: x3 :: x4 :: l) m) QG := ⟨_, m, rfl, q⟩
theorem w_name5 {x0 x1 x2 x3 x4 x5 : Option D} {l : Env} (q : QG (x0 :: x1 :: x2 :: x3 :: x4 :: some d :: l) m) : W (gName 5 d (x0 :: x1 :: x2 :: x3 :: x4 :: x5 :: l) m) QG := ⟨_, m, rfl, q⟩
theorem w_name6 {x0 x1 x2 x3 x4 x5 x6 : Option D} {l : Env} (q : QG (x0 :: x1 :: x2 :: x3 :: x4 :: x5 :: some d :: l) m) : W (gName 6 d (x0 :: x1 :: x2 :: x3 :: x4 :: x5 :: x6 :: l) m) QG := ⟨_, m, rfl, q⟩
theorem w_name7 {x0 x1 x2 x3 x4 x5 x6 x7 : Option D} {l : Env} (q : QG (x0 :: x1 :: x2 :: x3 :: x4 :: x5 :: x6 :: some d :: l) m) : W (gName 7 d (x0 :: x1 :: x2 :: x3 :: x4 :: x5 :: x6 :: x7 :: l) m) QG := ⟨_, m, rfl, q⟩
theorem w_name8 {x0 x1 x2 x3 x4 x5 x6 x7 x8 : Option D} {l : Env} (q : QG (x0 :: x1 :: x2 :: x3 :: x4 :: x5 :: x6 :: x7 :: some d :: l) m) : W (gName 8 d (x0 :: x1 :: x2 :: x3 :: x4 :: x5 :: x6 :: x7 :: x8 :: l) m) QG := ⟨_, m, rfl, q⟩
theorem w_name9 {x0 x1 x2 x3 x4 x5 x6 x7 x8 x9 : Option D} {l : Env} (q : QG (x0 :: x1 :: x2 :: x3 :: x4 :: x5 :: x6 :: x7 :: x8 :: some d :: l) m) : W (gName 9 d (x0 :: x1 :: x2 :: x3 :: x4 :: x5 :: x6 :: x7 :: x8 :: x9 :: l) m) QG := ⟨_, m, rfl, q⟩
theorem w_name10 {x0 x1 x2 x3 x4 x5 x6 x7 x8 x9 x10 : Option D} {l : Env} (q : QG (x0 :: x1 :: x2 :: x3 :: x4 :: x5 :: x6 :: x7 :: x8 :: x9 :: some d :: l) m) : W (gName 10 d (x0 :: x1 :: x2 :: x3 :: x4 :: x5 :: x6 :: x7 :: x8 :: x9 :: x10 :: l) m) QG := ⟨_, m, rfl, q⟩
theorem w_name11 {x0 x1 x2 x3 x4 x5 x6 x7 x8 x9 x10 x11 : Option D} {l : Env} (q : QG (x0 :: x1 :: x2 :: x3 :: x4 :: x5 :: x6 :: x7 :: x8 :: x9 :: x10 :: some d :: l) m) : W (gName 11 d (x0 :: x1 :: x2 :: x3 :: x4 :: x5 :: x6 :: x7 :: x8 :: x9 :: x10 :: x11 :: l) m) QG := ⟨_, m, rfl, q⟩
theorem w_name12 {x0 x1 x2 x3 x4 x5 x6 x7 x8 x9 x10 x11 x12 : Option D} {l : Env} (q : QG (x0 :: x1 :: x2 :: x3 :: x4 :: x5 :: x6 :: x7 :: x8 :: x9 :: x10 :: x11 :: some d :: l) m) : W (gName 12 d (x0 :: x1 :: x2 :: x3 :: x4 :: x5 :: x6 :: x7 :: x8 :: x9 :: x10 :: x11 :: x12 :: l) m) QG := ⟨_, m, rfl, q⟩
theorem w_name13 {x0 x1 x2 x3 x4 x5 x6 x7 x8 x9 x10 x11 x12 x13 : Option D} {l : Env} (q : QG (x0 :: x1 :: x2 :: x3 :: x4 :: x5 :: x6 :: x7 :: x8 :: x9 :: x10 :: x11 :: x12 :: some d :: l) m) : W (gName 13 d (x0 :: x1 :: x2 :: x3 :: x4 :: x5 :: x6 :: x7 :: x8 :: x9 :: x10 :: x11 :: x12 :: x13 :: l) m) QG := ⟨_, m, rfl, q⟩
theorem w_name14 {x0 x1 x2 x3 x4 x5 x6 x7 x8 x9 x10 x11 x12 x13 x14 : Option D} {l : Env} (q : QG (x0 :: x1 :: x2 :: x3 :: x4 :: x5 :: x6 :: x7 :: x8 :: x9 :: x10 :: x11 :: x12 :: x13 :: some d :: l) m) : W (gName 14 d (x0 :: x1 :: x2 :: x3 :: x4 :: x5 :: x6 :: x7 :: x8 :: x9 :: x10 :: x11 :: x12 :: x13 :: x14 :: l) m) QG := ⟨_, m, rfl, q⟩
theorem w_name15 {x0 x1 x2 x3 x4 x5 x6 x7 x8 x9 x10 x11 x12 x13 x14 x15 : Option D} {l : Env} (q : QG (x0 :: x1 :: x2 :: x3 :: x4 :: x5 :: x6 :: x7 :: x8 :: x9 :: x10 :: x11 :: x12 :: x13 :: x14 :: some d :: l) m) : W (gName 15 d (x0 :: x1 :: x2 :: x3 :: x4 :: x5 :: x6 :: x7 :: x8 :: x9 :: x10 :: x11 :: x12 :: x13 :: x14 :: x15 :: l) m) QG := ⟨_, m, rfl, q⟩
theorem w_gnil (q : QG ρ m) : W (gNil [] ρ m) QG := ⟨_, m, rfl, q⟩
theorem w_gcons (h : W (g d ρ m) fun ρ1 m1 => W (gs ds ρ1 m1) QG) : W (gCons g gs (d :: ds) ρ m) QG := by
  obtain ⟨ρ1, m1, e1, ρ2, m2, e2, q⟩ := h
  exact ⟨_, m2, by unfold gCons; dsimp only; rw [e1]; exact e2, q⟩
theorem w_gtup {n : Nat} (hl : ds.length = n) (h : W (gs ds ρ m) QG) : W (gTup n gs (.tup ds) ρ m) QG := by
  obtain ⟨ρ1, m1, e1, q⟩ := h
  exact ⟨_, m1, by unfold gTup; dsimp only; rw [if_pos hl]; exact e1, q⟩
theorem w_gix (h : W (a ρ m) fun x m1 => ∃ k, x = .cell k ∧ W (b ρ m1) fun y m2 => ∃ i ds j, y = .int i ∧ m2[k]? = some (.lst ds) ∧ L2.ixN ds.length i = some j ∧ QG ρ (m2.set k (.lst (ds.set j d)))) : W (gIx a b d ρ m) QG := by
  obtain ⟨x, m1, e1, k, rfl, y, m2, e2, i, ds, j, rfl, e3, e4, q⟩ := h
  exact ⟨_, _, by unfold gIx; rw [e1]; dsimp only; rw [e2]; dsimp only; rw [e3]; dsimp only; rw [e4], q⟩
/-! loops -/
def turnQ (I : Env → Mem → Prop) (QB : Fl → Mem → Prop) : Fl → Mem → Prop
  | .nx ρ, m => I ρ m
  | .ct ρ, m => I ρ m
  | .bk ρ, m => QB (.nx ρ) m
  | .rt d, m => QB (.rt d) m
theorem turn_nx {I : Env → Mem → Prop} (h : I ρ m) : turnQ I QB (.nx ρ) m := h
theorem turn_ct {I : Env → Mem → Prop} (h : I ρ m) : turnQ I QB (.ct ρ) m := h
theorem turn_bk {I : Env → Mem → Prop} (h : QB (.nx ρ) m) : turnQ I QB (.bk ρ) m := h
theorem turn_rt {I : Env → Mem → Prop} (h : QB (.rt d) m) : turnQ I QB (.rt d) m := h
theorem w_forV (I : Nat → Env → Mem → Prop) : ∀ (ds : List D) (k : Nat) (ρ : Env) (m : Mem), I k ρ m →
    (∀ i d ρ m, ds[i]? = some d → I (k + i) ρ m → W (g d ρ m) fun ρ1 m1 => W (f1 ρ1 m1) (turnQ (I (k + i + 1)) QB)) → (∀ ρ m, I (k + ds.length) ρ m → QB (.nx ρ) m) → W (forV g f1 ds ρ m) QB
  | [], k, ρ, m, h0, _, hd => ⟨_, m, rfl, hd ρ m h0⟩
  | d :: ds, k, ρ, m, h0, hs, hd => by
    obtain ⟨ρ1, m1, e1, x, m2, e2, q⟩ := hs 0 d ρ m rfl h0
    have next : ∀ ρ2, I (k + 1) ρ2 m2 → W (forV g f1 ds ρ2 m2) QB := fun ρ2 h2 => w_forV I ds (k + 1) ρ2 m2 h2 (fun i d ρ m hi hI => by
      have e : k + 1 + i = k + (i + 1) := by omega
      rw [e] at hI ⊢
      exact hs (i + 1) d ρ m (by simpa using hi) hI) fun ρ m hI => hd ρ m (by
        have e : k + (d :: ds).length = k + 1 + ds.length := by simp; omega
        rw [e]; exact hI)
    cases x with
    | nx ρ2 =>
      obtain ⟨y, m3, e3, q⟩ := next ρ2 q
      exact ⟨y, m3, by unfold forV; rw [e1]; dsimp only; rw [e2]; exact e3, q⟩
    | ct ρ2 =>
      obtain ⟨y, m3, e3, q⟩ := next ρ2 q
      exact ⟨y, m3, by unfold forV; rw [e1]; dsimp only; rw [e2]; exact e3, q⟩
    | bk ρ2 => exact ⟨_, m2, by unfold forV; rw [e1]; dsimp only; rw [e2], q⟩
    | rt d => exact ⟨_, m2, by unfold forV; rw [e1]; dsimp only; rw [e2], q⟩
/-- a for, by what holds between two turns -/
theorem w_for (I : Nat → Env → Mem → Prop) (h : W (r ρ m) fun ds m1 => I 0 ρ m1 ∧ (∀ i d ρ m, ds[i]? = some d → I i ρ m → W (g d ρ m) fun ρ1 m1 => W (f1 ρ1 m1) (turnQ (I (i + 1)) QB)) ∧ ∀ ρ m, I ds.length ρ m → QB (.nx ρ) m) : W (bFor r g f1 ρ m) QB := by
  obtain ⟨ds, m1, e1, h0, hs, hd⟩ := h
  obtain ⟨y, m2, e2, q⟩ := w_forV (g := g) (f1 := f1) (QB := QB) I ds 0 ρ m1 h0 (fun i d ρ m hi hI => by rw [Nat.zero_add] at hI ⊢; exact hs i d ρ m hi hI) (fun ρ m hI => hd ρ m (by rw [Nat.zero_add] at hI; exact hI))
  exact ⟨y, m2, by unfold bFor; rw [e1]; exact e2, q⟩
theorem w_while (I : Env → Mem → Prop) (μ : Env → Mem → Nat) : ∀ (n : Nat) (ρ : Env) (m : Mem), I ρ m → μ ρ m < n →
    (∀ ρ m, I ρ m → W (t ρ m) fun v m1 => ifQ v (W (f1 ρ m1) (turnQ (fun ρ2 m2 => I ρ2 m2 ∧ μ ρ2 m2 < μ ρ m) QB)) (QB (.nx ρ) m1)) → W (whileV t f1 n ρ m) QB
  | 0, ρ, m, _, hn, _ => absurd hn (Nat.not_lt_zero _)
  | n + 1, ρ, m, h0, hn, hs => by
    obtain ⟨v, m1, e1, q1, q2⟩ := hs ρ m h0
    cases v with
    | false => exact ⟨_, m1, by unfold whileV; rw [e1], q2 rfl⟩
    | true =>
      obtain ⟨x, m2, e2, q⟩ := q1 rfl
      cases x with
      | nx ρ2 =>
        obtain ⟨y, m3, e3, q⟩ := w_while I μ n ρ2 m2 q.1 (by have := q.2; omega) hs
        exact ⟨y, m3, by unfold whileV; rw [e1]; dsimp only; rw [e2]; exact e3, q⟩
      | ct ρ2 =>
        obtain ⟨y, m3, e3, q⟩ := w_while I μ n ρ2 m2 q.1 (by have := q.2; omega) hs
        exact ⟨y, m3, by unfold whileV; rw [e1]; dsimp only; rw [e2]; exact e3, q⟩
      | bk ρ2 => exact ⟨_, m2, by unfold whileV; rw [e1]; dsimp only; rw [e2], q⟩
      | rt d => exact ⟨_, m2, by unfold whileV; rw [e1]; dsimp only; rw [e2], q⟩
theorem w_compV {own : List Nat} (I : Nat → List D → Mem → Prop) {QA : List D → Mem → Prop} : ∀ (ds : List D) (k : Nat) (acc : List D) (m : Mem), I k acc m →
    (∀ i d acc m, ds[i]? = some d → I (k + i) acc m → W (g d (wipeD ρ own) m) fun ρ1 m1 => W (t ρ1 m1) fun v m2 => ifQ v (W (e ρ1 m2) fun y m3 => I (k + i + 1) (acc ++ [y]) m3) (I (k + i + 1) acc m2)) →
    (∀ acc m, I (k + ds.length) acc m → QA acc m) → W (compV own g t e ρ ds acc m) QA
  | [], k, acc, m, h0, _, hd => ⟨_, m, rfl, hd acc m h0⟩
  | d :: ds, k, acc, m, h0, hs, hd => by
    obtain ⟨ρ1, m1, e1, v, m2, e2, q1, q2⟩ := hs 0 d acc m rfl h0
    have next : ∀ acc m, I (k + 1) acc m → W (compV own g t e ρ ds acc m) QA := fun acc m h2 => w_compV I ds (k + 1) acc m h2 (fun i d acc m hi hI => by
      have e : k + 1 + i = k + (i + 1) := by omega
      rw [e] at hI ⊢
      exact hs (i + 1) d acc m (by simpa using hi) hI) fun acc m hI => hd acc m (by
        have e : k + (d :: ds).length = k + 1 + ds.length := by simp; omega
        rw [e]; exact hI)
    cases v with
    | false =>
      obtain ⟨y, m3, e3, q⟩ := next acc m2 (q2 rfl)
      exact ⟨y, m3, by unfold compV; rw [e1]; dsimp only; rw [e2]; exact e3, q⟩
    | true =>
      obtain ⟨y, m3, e3, q3⟩ := q1 rfl
      obtain ⟨z, m4, e4, q⟩ := next (acc ++ [y]) m3 q3
      exact ⟨z, m4, by unfold compV; rw [e1]; dsimp only; rw [e2]; dsimp only; rw [e3]; exact e4, q⟩
/-- a comprehension, by what holds of what is made so far -/
theorem w_comp {own : List Nat} (I : Nat → List D → Mem → Prop) (h : W (r ρ m) fun ds m1 => ds.length ≤ 16777215 ∧ I 0 [] m1 ∧
    (∀ i d acc m, ds[i]? = some d → I i acc m → W (g d (wipeD ρ own) m) fun ρ1 m1 => W (t ρ1 m1) fun v m2 => ifQ v (W (e ρ1 m2) fun y m3 => I (i + 1) (acc ++ [y]) m3) (I (i + 1) acc m2)) ∧ ∀ acc m, I ds.length acc m → Q (.lst acc) m) : W (eComp own r g t e ρ m) Q := by
  obtain ⟨ds, m1, e1, hl, h0, hs, hd⟩ := h
  obtain ⟨y, m2, e2, q⟩ := w_compV (ρ := ρ) (own := own) (g := g) (t := t) (e := e) (QA := fun acc m => Q (.lst acc) m) I ds 0 [] m1 h0 (fun i d acc m hi hI => by rw [Nat.zero_add] at hI ⊢; exact hs i d acc m hi hI) (fun acc m hI => hd acc m (by rw [Nat.zero_add] at hI; exact hI))
  exact ⟨_, m2, by unfold eComp eLst aComp; rw [e1]; dsimp only; rw [if_pos hl, e2], q⟩
theorem w_yes (q : QT true m) : W (tYes ρ m) QT := ⟨_, m, rfl, q⟩
/-! what is walked -/
def itQ (QA : List D → Mem → Prop) : D → Mem → Prop
  | .tup ds, m => QA ds m
  | .lst ds, m => QA ds m
  | .lsk ds, m => QA ds m
  | .str s, m => QA (s.map fun c => .str [c]) m
  | _, _ => False
theorem w_it (h : W (a ρ m) (itQ QA)) : W (aIt a ρ m) QA := by
  obtain ⟨x, m1, e1, q⟩ := h
  cases x with
  | tup ds => exact ⟨_, m1, by unfold aIt; rw [e1], q⟩
  | lst ds => exact ⟨_, m1, by unfold aIt; rw [e1], q⟩
  | lsk ds => exact ⟨_, m1, by unfold aIt; rw [e1], q⟩
  | str s => exact ⟨_, m1, by unfold aIt; rw [e1], q⟩
  | non => exact q.elim
  | bl b => exact q.elim
  | int i => exact q.elim
  | cell i => exact q.elim
  | ty i => exact q.elim
theorem w_rng1 (h : W (a ρ m) fun x m1 => ∃ i, x = .int i ∧ (-4611686018427387904 ≤ i ∧ i < 4611686018427387904) ∧ QA (rngD 0 i.toNat) m1) : W (aRng1 a ρ m) QA := by
  obtain ⟨x, m1, e1, i, rfl, hb, q⟩ := h
  refine ⟨_, m1, ?_, q⟩
  unfold aRng1; rw [e1]; dsimp only
  rw [if_pos]
  unfold big62
  rw [Bool.and_eq_true]
  exact ⟨decide_eq_true hb.1, decide_eq_true hb.2⟩
theorem w_rng2 (h : W (a ρ m) fun x m1 => ∃ i, x = .int i ∧ (-4611686018427387904 ≤ i ∧ i < 4611686018427387904) ∧ W (b ρ m1) fun y m2 => ∃ j, y = .int j ∧ (-4611686018427387904 ≤ j ∧ j < 4611686018427387904) ∧ QA (rngD i (j - i).toNat) m2) : W (aRng2 a b ρ m) QA := by
  obtain ⟨x, m1, e1, i, rfl, hb, y, m2, e2, j, rfl, hc, q⟩ := h
  refine ⟨_, m2, ?_, q⟩
  unfold aRng2; rw [e1]; dsimp only; rw [e2]; dsimp only
  rw [if_pos]
  unfold big62
  rw [Bool.and_eq_true, Bool.and_eq_true, Bool.and_eq_true]
  exact ⟨⟨decide_eq_true hb.1, decide_eq_true hb.2⟩, decide_eq_true hc.1, decide_eq_true hc.2⟩
/-! dicts -/
def QD' := List (L2.Key × D) → Mem → Prop
theorem w_dict0 (q : Q (.cell m.length) (m ++ [.dct []])) : W (eDict0 ρ m) Q := ⟨_, _, rfl, q⟩
theorem w_get2 (h : W (a ρ m) fun x m1 => ∃ k kv0, x = .cell k ∧ m1[k]? = some (.dct kv0) ∧ W (b ρ m1) fun y m2 => ∃ key, toKey y = some key ∧ W (c ρ m2) fun z m3 => ∃ kvs, m3[k]? = some (.dct kvs) ∧ Q ((valD kvs key).getD z) m3) : W (eGet2 a b c ρ m) Q := by
  obtain ⟨x, m1, e1, k, kv0, rfl, e2, y, m2, e3, key, e4, z, m3, e5, kvs, e6, q⟩ := h
  exact ⟨_, m3, by unfold eGet2; rw [e1]; dsimp only; rw [e2]; dsimp only; rw [e3]; dsimp only; rw [e4]; dsimp only; rw [e5]; dsimp only; rw [e6], q⟩
/-! defs -/
def retQ (Q : D → Mem → Prop) : Fl → Mem → Prop
  | .rt d, m => Q d m
  | .nx _, m => Q .non m
  | _, _ => False
theorem ret_rt (h : Q d m) : retQ Q (.rt d) m := h
theorem ret_nx (h : Q .non m) : retQ Q (.nx ρ) m := h
theorem w_fn {np n : Nat} (hl : ds.length = np) (he : ds.map some ++ List.replicate (n - ds.length) none = ρ) (h : W (f1 ρ m) (retQ Q)) : W (fnD np n f1 ds m) Q := by
  subst he
  obtain ⟨x, m1, e1, q⟩ := h
  cases x with
  | rt d => exact ⟨_, m1, by unfold fnD; rw [if_pos hl, e1], q⟩
  | nx ρ1 => exact ⟨_, m1, by unfold fnD; rw [if_pos hl, e1], q⟩
  | bk ρ1 => exact q.elim
  | ct ρ1 => exact q.elim
/-! operators -/
theorem q_add {i j : Int} (q : Q (.int (i + j)) m) : opQ (oAdd m (.int i) (.int j)) Q m := ⟨_, rfl, q⟩
theorem q_addS {s t : List Nat} (h : s.length + t.length ≤ 16777216) (q : Q (.str (s ++ t)) m) : opQ (oAdd m (.str s) (.str t)) Q m := ⟨_, by unfold oAdd; dsimp only; rw [if_pos h], q⟩
theorem q_addL {s t : List D} (h : s.length + t.length ≤ 16777216) (q : Q (.lst (s ++ t)) m) : opQ (oAdd m (.lst s) (.lst t)) Q m := ⟨_, by unfold oAdd; dsimp only; rw [if_pos h], q⟩
theorem q_addT {s t : List D} (h : s.length + t.length ≤ 16777216) (q : Q (.tup (s ++ t)) m) : opQ (oAdd m (.tup s) (.tup t)) Q m := ⟨_, by unfold oAdd; dsimp only; rw [if_pos h], q⟩
theorem q_iadd {i j : Int} (q : Q (.int (i + j)) m) : opQ (ioAdd m (.int i) (.int j)) Q m := ⟨_, rfl, q⟩
theorem q_iaddS {s t : List Nat} (h : s.length + t.length ≤ 16777216) (q : Q (.str (s ++ t)) m) : opQ (ioAdd m (.str s) (.str t)) Q m := ⟨_, by unfold ioAdd; dsimp only; rw [if_pos h], q⟩
theorem q_sub {i j : Int} (q : Q (.int (i - j)) m) : opQ (oSub m (.int i) (.int j)) Q m := ⟨_, rfl, q⟩
theorem q_mulL {i j : Int} (h : -18446744073709551616 < i ∧ i < 18446744073709551616) (q : Q (.int (i * j)) m) : opQ (oMul m (.int i) (.int j)) Q m := ⟨_, by
  unfold oMul; dsimp only; rw [if_pos]
  unfold small64
  rw [Bool.or_eq_true, Bool.and_eq_true]
  exact .inl ⟨decide_eq_true h.1, decide_eq_true h.2⟩, q⟩
theorem q_mulR {i j : Int} (h : -18446744073709551616 < j ∧ j < 18446744073709551616) (q : Q (.int (i * j)) m) : opQ (oMul m (.int i) (.int j)) Q m := ⟨_, by
  unfold oMul; dsimp only; rw [if_pos]
  unfold small64
  rw [Bool.or_eq_true, Bool.and_eq_true, Bool.and_eq_true]
  exact .inr ⟨decide_eq_true h.1, decide_eq_true h.2⟩, q⟩
theorem q_mulS {s : List Nat} {j : Int} (h : -1000000 < j ∧ j < 1000000 ∧ s.length ≤ 16) (q : Q (.str (List.replicate j.toNat s).flatten) m) : opQ (oMul m (.str s) (.int j)) Q m := ⟨_, by unfold oMul; dsimp only; rw [if_pos h], q⟩
theorem q_mod {i j : Int} (h : 0 < j) (q : Q (.int (i % j)) m) : opQ (oMod m (.int i) (.int j)) Q m := ⟨_, by unfold oMod; dsimp only; rw [if_pos h], q⟩
theorem q_div {i j : Int} (h : 0 < j ∧ j < 18446744073709551616) (q : Q (.int (i / j)) m) : opQ (oDiv m (.int i) (.int j)) Q m := ⟨_, by unfold oDiv; dsimp only; rw [if_pos h], q⟩
theorem q_pow {i j : Int} (h : 0 ≤ j ∧ j ≤ 64 ∧ i.natAbs.log2 < 100000) (q : Q (.int (i ^ j.toNat)) m) : opQ (oPow m (.int i) (.int j)) Q m := ⟨_, by unfold oPow; dsimp only; rw [if_pos h], q⟩
theorem q_neg {i : Int} (q : Q (.int (-i)) m) : opQ (oNeg m (.int i)) Q m := ⟨_, rfl, q⟩
theorem q_lt {i j : Int} (q : Q (.bl (decide (i < j))) m) : opQ (oLt m (.int i) (.int j)) Q m := ⟨_, rfl, q⟩
theorem q_le {i j : Int} (q : Q (.bl (decide (i ≤ j))) m) : opQ (oLe m (.int i) (.int j)) Q m := ⟨_, rfl, q⟩
theorem q_gt {i j : Int} (q : Q (.bl (decide (j < i))) m) : opQ (oGt m (.int i) (.int j)) Q m := ⟨_, rfl, q⟩
theorem q_ge {i j : Int} (q : Q (.bl (decide (j ≤ i))) m) : opQ (oGe m (.int i) (.int j)) Q m := ⟨_, rfl, q⟩
theorem q_eqI {i j : Int} (q : Q (.bl (decide (i = j))) m) : opQ (oEq m (.int i) (.int j)) Q m := ⟨_, rfl, q⟩
theorem q_eqS {i j : List Nat} (q : Q (.bl (decide (i = j))) m) : opQ (oEq m (.str i) (.str j)) Q m := ⟨_, rfl, q⟩
theorem q_eqB {i j : Bool} (q : Q (.bl (decide (i = j))) m) : opQ (oEq m (.bl i) (.bl j)) Q m := ⟨_, rfl, q⟩
theorem q_neI {i j : Int} (q : Q (.bl (!decide (i = j))) m) : opQ (oNe m (.int i) (.int j)) Q m := ⟨_, rfl, q⟩
theorem q_neS {i j : List Nat} (q : Q (.bl (!decide (i = j))) m) : opQ (oNe m (.str i) (.str j)) Q m := ⟨_, rfl, q⟩
theorem q_neB {i j : Bool} (q : Q (.bl (!decide (i = j))) m) : opQ (oNe m (.bl i) (.bl j)) Q m := ⟨_, rfl, q⟩
theorem q_inC {k : Nat} {s : List Nat} (q : Q (.bl (decide (k ∈ s))) m) : opQ (oIn m (.str [k]) (.str s)) Q m := ⟨_, rfl, q⟩
theorem q_ninC {k : Nat} {s : List Nat} (q : Q (.bl (!decide (k ∈ s))) m) : opQ (oNotIn m (.str [k]) (.str s)) Q m := ⟨_, rfl, q⟩
theorem q_ixT {i : Int} (h : L2.atI ds i = some d) (q : Q d m) : opQ (oIx m (.tup ds) (.int i)) Q m := ⟨d, h, q⟩
theorem q_ixL {i : Int} (h : L2.atI ds i = some d) (q : Q d m) : opQ (oIx m (.lst ds) (.int i)) Q m := ⟨d, h, q⟩
theorem q_ixK {i : Int} (h : L2.atI ds i = some d) (q : Q d m) : opQ (oIx m (.lsk ds) (.int i)) Q m := ⟨d, h, q⟩
theorem q_ixC {k : Nat} {i : Int} (h0 : m[k]? = some (.lst ds)) (h : L2.atI ds i = some d) (q : Q d m) : opQ (oIx m (.cell k) (.int i)) Q m := ⟨d, by unfold oIx; dsimp only; rw [h0]; exact h, q⟩
theorem q_ixS {s : List Nat} {i : Int} {k : Nat} (hl : s.length ≤ 16777216) (h : L2.atI s i = some k) (q : Q (.str [k]) m) : opQ (oIx m (.str s) (.int i)) Q m := ⟨_, by unfold oIx; dsimp only; rw [if_pos hl, h], q⟩
theorem q_slS {s : List Nat} {lo hi : Option Int} (hl : s.length ≤ 16777216) (q : Q (.str (cutD s lo hi)) m) : opQ (slD m (.str s) lo hi) Q m := ⟨_, by unfold slD; dsimp only; rw [if_pos hl], q⟩
theorem q_slT {lo hi : Option Int} (q : Q (.tup (cutD ds lo hi)) m) : opQ (slD m (.tup ds) lo hi) Q m := ⟨_, rfl, q⟩
theorem q_slL {lo hi : Option Int} (q : Q (.lst (cutD ds lo hi)) m) : opQ (slD m (.lst ds) lo hi) Q m := ⟨_, rfl, q⟩
theorem q_slK {lo hi : Option Int} (q : Q (.lst (cutD ds lo hi)) m) : opQ (slD m (.lsk ds) lo hi) Q m := ⟨_, rfl, q⟩
theorem q_lenS {s : List Nat} (hl : s.length ≤ 16777216) (q : Q (.int s.length) m) : opQ (bLen m [.str s]) Q m := ⟨_, by unfold bLen; dsimp only; rw [if_pos hl], q⟩
theorem q_lenT (q : Q (.int ds.length) m) : opQ (bLen m [.tup ds]) Q m := ⟨_, rfl, q⟩
theorem q_lenL (q : Q (.int ds.length) m) : opQ (bLen m [.lst ds]) Q m := ⟨_, rfl, q⟩
theorem q_lenC {k : Nat} (h : m[k]? = some (.lst ds)) (q : Q (.int ds.length) m) : opQ (bLen m [.cell k]) Q m := ⟨_, by unfold bLen; dsimp only; rw [h], q⟩
theorem q_abs {i : Int} (q : Q (.int (if i < 0 then -i else i)) m) : opQ (bAbs m [.int i]) Q m := ⟨_, rfl, q⟩
theorem q_intI {i : Int} (q : Q (.int i) m) : opQ (bInt m [.int i]) Q m := ⟨_, rfl, q⟩
theorem q_intB {v : Bool} (q : Q (.int (if v then 1 else 0)) m) : opQ (bInt m [.bl v]) Q m := ⟨_, rfl, q⟩
theorem q_starts {s t : List Nat} (q : Q (.bl (startsD s t)) m) : opQ (s1 (fun s t => .bl (startsD s t)) s m [.str t]) Q m := ⟨_, rfl, q⟩
theorem toStrs_map : ∀ ss : List (List Nat), toStrs (ss.map D.str) = some ss
  | [] => rfl
  | s :: r => by show toStrs (.str s :: r.map D.str) = _; unfold toStrs; rw [toStrs_map r]
theorem q_joinL {s : List Nat} {ss : List (List Nat)} (hd : ds = ss.map D.str) (hl : (ss.map (·.length)).sum + ss.length * s.length ≤ 16777216) (q : Q (.str (joinD s ss)) m) : opQ (sJoin s m [.lst ds]) Q m := ⟨_, by
  subst hd; unfold sJoin; dsimp only; rw [toStrs_map]; dsimp only; rw [if_pos hl], q⟩
theorem q_isiB {v : Bool} (q : Q (.bl true) m) : opQ (bIsi m [.bl v, .ty "bool"]) Q m := ⟨_, rfl, q⟩
theorem q_isiS {s : List Nat} (q : Q (.bl true) m) : opQ (bIsi m [.str s, .ty "str"]) Q m := ⟨_, rfl, q⟩
end
end VI
namespace VI
open PySem
section
variable {m : Mem} {QA : List D → Mem → Prop} {ds : List D}
theorem it_tup' (q : QA ds m) : itQ QA (.tup ds) m := q
theorem it_lst' (q : QA ds m) : itQ QA (.lst ds) m := q
theorem it_lsk' (q : QA ds m) : itQ QA (.lsk ds) m := q
theorem it_str' {s : List Nat} (q : QA (s.map fun c => .str [c]) m) : itQ QA (.str s) m := q
theorem ixN_ok {n : Nat} {i : Int} (j : Nat) (h : (j : Int) = i) (hj : j < n) : L2.ixN n i = some j := by
  subst h
  unfold L2.ixN
  rw [if_pos (by omega), if_pos (by omega)]
  rfl
theorem atI_ok {α : Type} {xs : List α} {i : Int} {v : α} (j : Nat) (h : (j : Int) = i) (hj : xs[j]? = some v) : L2.atI xs i = some v := by
  unfold L2.atI
  rw [ixN_ok j h (List.getElem?_eq_some_iff.mp hj).1]
  exact hj
/-- at an index that lies within, whatever it is -/
theorem atI_in {α : Type} {xs : List α} {i : Int} (h0 : 0 ≤ i) (h1 : i < xs.length) : ∃ v, L2.atI xs i = some v ∧ v ∈ xs := by
  have hl : i.toNat < xs.length := by omega
  exact ⟨xs[i.toNat], atI_ok i.toNat (by omega) (List.getElem?_eq_getElem hl), List.getElem_mem hl⟩
end
end VI
end
section
namespace VI
open PySem
section
variable {ρ : Env} {m : Mem} {QB : Fl → Mem → Prop} {f1 f2 f3 : BF} {v : Bool} {d : D}
/-- where two ways meet -/
def nxQ (P : Env → Mem → Prop) (QB : Fl → Mem → Prop) : Fl → Mem → Prop
  | .nx ρ, m => P ρ m
  | r, m => QB r m
theorem nxq_nx {P : Env → Mem → Prop} (h : P ρ m) : nxQ P QB (.nx ρ) m := h
theorem nxq_rt {P : Env → Mem → Prop} (h : QB (.rt d) m) : nxQ P QB (.rt d) m := h
theorem nxq_seq {P : Env → Mem → Prop} (g : ∀ ρ m, P ρ m → W (f2 ρ m) QB) {r : Fl} {m : Mem} (h : nxQ P QB r m) : seqQ f2 QB r m := by
  cases r with
  | nx ρ => exact g ρ m h
  | rt d => exact h
  | bk d => exact h
  | ct d => exact h
theorem ifq_mid (P : Env → Mem → Prop) (h : ifQ v (W (f1 ρ m) (nxQ P QB)) (W (f3 ρ m) (nxQ P QB))) (g : ∀ ρ m, P ρ m → W (f2 ρ m) QB) : ifQ v (W (f1 ρ m) (seqQ f2 QB)) (W (f3 ρ m) (seqQ f2 QB)) :=
  ⟨fun e => (h.1 e).mono fun _ _ => nxq_seq g, fun e => (h.2 e).mono fun _ _ => nxq_seq g⟩
/-! dict displays -/
variable {Q : D → Mem → Prop} {QD : List (L2.Key × D) → Mem → Prop} {fk fv : EF} {r : DFn}
theorem w_dnil (q : QD [] m) : W (dNil ρ m) QD := ⟨_, m, rfl, q⟩
theorem w_dcons (h : W (fk ρ m) fun x m1 => ∃ k, toKey x = some k ∧ W (fv ρ m1) fun y m2 => W (r ρ m2) fun ps m3 => QD ((k, y) :: ps) m3) : W (dCons fk fv r ρ m) QD := by
  obtain ⟨x, m1, e1, k, e2, y, m2, e3, ps, m3, e4, q⟩ := h
  exact ⟨_, m3, by unfold dCons; rw [e1]; dsimp only; rw [e2]; dsimp only; rw [e3]; dsimp only; rw [e4], q⟩
theorem w_dict (h : W (r ρ (m ++ [.dct []])) fun ps m1 => m1[m.length]? = some (.dct []) ∧ ps.length ≤ 15 ∧ Q (.cell m.length) (m1.set m.length (.dct (mergeD [] ps)))) : W (eDict r ρ m) Q := by
  obtain ⟨ps, m1, e1, e2, e3, q⟩ := h
  exact ⟨_, _, by unfold eDict; rw [e1]; dsimp only; rw [e2]; dsimp only; rw [if_pos e3], q⟩
end
end VI
end
section
namespace VI
open PySem
theorem glueL_nil : ∀ ss : List (List Nat), PySem.StrLaws.glueL [] (ss.map S) = ss.flatten
  | [] => rfl
  | s :: r => by
    show [] ++ ((S s).cps.toList ++ PySem.StrLaws.glueL [] (r.map S)) = _
    rw [glueL_nil r, S_tl, List.nil_append, List.flatten_cons]
theorem joinD_nil (ss : List (List Nat)) : joinD [] ss = ss.flatten := by
  unfold joinD Txt.join
  cases ss with
  | nil => rfl
  | cons s r =>
    show (Builtin.Str.glued (S []) (S s :: r.map S)).cps.toList = _
    rw [PySem.StrLaws.glued_list]
    show (S s).cps.toList ++ PySem.StrLaws.glueL (S []).cps.toList (r.map S) = _
    rw [S_tl, S_tl, glueL_nil, List.flatten_cons]
theorem subAt_S (s t : List Nat) (i : Nat) : Builtin.Str.subAt (S s) (S t) i = decide ((s.drop i).take t.length = t) := by
  unfold Builtin.Str.subAt
  have e : ((S s).cps.extract i (i + (S t).length) == (S t).cps) = decide ((S s).cps.extract i (i + (S t).length) = (S t).cps) := by
    rw [Bool.eq_iff_iff, beq_iff_eq, decide_eq_true_iff]
  rw [e]
  apply decide_eq_decide.mpr
  rw [← Array.toList_inj, Array.toList_extract, S_tl, S_tl, S_len]
  rw [List.extract_eq_drop_take]
  have : i + t.length - i = t.length := by omega
  rw [this]
theorem startsD_eq (s t : List Nat) : startsD s t = decide (s.take t.length = t) := by
  unfold startsD Txt.startswith
  rw [subAt_S, S_len, S_len, List.drop_zero]
  by_cases h : s.take t.length = t
  · have hl : t.length ≤ s.length := by
      have := congrArg List.length h
      rw [List.length_take] at this
      omega
    rw [decide_eq_true h, Bool.and_true]
    exact decide_eq_true (by omega)
  · rw [decide_eq_false h, Bool.and_false]
theorem startsD_one (s : List Nat) (c : Nat) : startsD s [c] = decide (s.head? = some c) := by
  rw [startsD_eq]
  apply decide_eq_decide.mpr
  cases s with
  | nil => simp
  | cons x r => simp
end VI
end
section
namespace VI
open PySem PySem.Spec PyProof.Rows L2
theorem contains_S (t : List Nat) (c : Nat) : (S t).cps.contains c = decide (c ∈ t) := by
  rw [Bool.eq_iff_iff, decide_eq_true_iff, ← Array.contains_toList, S_tl]
  simp
theorem lstrip_S (s t : List Nat) : (Txt.lstripChars (S s) (S t)).cps.toList = s.drop (s.takeWhile fun c => decide (c ∈ t)).length := by
  have hg : (fun c => (S t).cps.contains c) = fun c => decide (c ∈ t) := by funext c; exact contains_S t c
  have e : Txt.lstripChars (S s) (S t) = Builtin.Str.strSub (S s) (s.takeWhile fun c => decide (c ∈ t)).length (S s).length := by
    have hlo : stripLo (S t).cps.contains true (S s) = (s.takeWhile fun c => decide (c ∈ t)).length := by
      unfold stripLo
      rw [if_pos rfl, S_tl, ← hg]
    unfold Txt.lstripChars Txt.stripBy
    split
    · rename_i h
      unfold stripSame at h
      rw [hlo, Bool.and_eq_true] at h
      rw [beq_iff_eq.mp h.1]
      exact (PyProof.Rows.strSub_whole _).symm
    · unfold stripped
      rw [hlo]
      rfl
  rw [e, StrLaws.strSub_toList, S_tl, S_len]
  exact List.take_of_length_le (by rw [List.length_drop]; exact Nat.le_refl _)
theorem q_lstrip {s t : List Nat} {m : Mem} {Q : D → Mem → Prop} (hl : s.length ≤ 16777216) (q : Q (.str (s.drop (s.takeWhile fun c => decide (c ∈ t)).length)) m) : opQ (sLstrip s m [.str t]) Q m := ⟨_, by unfold sLstrip; dsimp only; rw [if_pos hl, lstrip_S], q⟩
end VI
end
section
set_option maxHeartbeats 4000000
open PySem PySem.Spec PyProof.Rows L2 VI
namespace Law
def topS (i : Nat) : Stmt := PySem.Challenge.pw_freshpage_k01_words_and_signs.main.body.getD i (.Pass ⟨0, 0, 0, 0⟩)
def lit32d10c : List Nat := [97, 98, 99, 100, 101, 102, 103, 104, 105, 106, 107, 108, 109, 110, 111, 112, 113, 114, 115, 116, 117, 118, 119, 120, 121, 122]
def lit905a33 : List Nat := [32, 33, 34, 35, 36, 38, 39, 40, 41, 42, 43, 44, 45, 46, 47, 48, 49, 50, 51, 52, 53, 54, 55, 56, 57, 58, 59, 60, 61, 62, 63, 64, 65, 66, 67, 68, 69, 70, 71, 72, 73, 74, 75, 76, 77, 78, 79, 80, 81, 82, 83, 84, 85, 86, 87, 88, 89, 90, 91, 92, 93, 94, 95, 96, 97, 98, 99, 100, 101, 102, 103, 104, 105, 106, 107, 108, 109, 110, 111, 112, 113, 114, 115, 116, 117, 118, 119, 120, 121, 122, 123, 124, 125, 126, 10]
def lit2ecc59 : List Nat := [60, 62, 38, 34, 59, 32, 108, 116, 38, 103, 116, 59, 97, 109, 112, 47, 97, 98, 10]
def lit41428f : List Nat := [60, 62, 47, 38, 59, 61, 34, 32, 97, 98, 112, 45, 10]
def lit6e3145 : List Nat := [97, 98, 99, 100, 101, 102, 103, 104, 105, 106, 107, 108, 109, 110, 111, 112, 113, 114, 115, 116, 117, 118, 119, 120, 121, 122, 45]
def lita2c655 : List Nat := [38, 97, 109, 112, 59, 108, 116, 59]
def k_WORD_SIGNS : D := (.str lit6e3145)
def k_MOST_WORD_SIGNS : D := (.int 12)
def k_WRITTEN_SIGNS : D := (.tup [(.tup [(.str [38, 108, 116, 59]), (.str [60])]), (.tup [(.str [38, 103, 116, 59]), (.str [62])]), (.tup [(.str [38, 113, 117, 111, 116, 59]), (.str [34])]), (.tup [(.str [38, 97, 109, 112, 59]), (.str [38])])])
/-! meanings -/
def b_run_at : BF := bSeq (bSet (gName 3) (eSl (eVar 0) (pSo (eVar 1)) (pNo))) (bRet (eSl (eVar 3) (pNo) (pSo (eOp oSub (eBlt bLen (aCons (eVar 3) (aNil))) (eBlt bLen (aCons (eMS sLstrip (eVar 3) (aCons (eVar 2) (aNil))) (aNil)))))))
def f_run_at : FD := fnD 3 4 b_run_at
def b_word_at : BF := bSeq (bSet (gName 2) (eCall f_run_at (aCons (eSl (eVar 0) (pSo (eVar 1)) (pSo (eOp oAdd (eOp oAdd (eVar 1) (eC k_MOST_WORD_SIGNS)) (eC (.int 1))))) (aCons (eC (.int 0)) (aCons (eC k_WORD_SIGNS) (aNil)))))) (bSeq (bIf (tOr (tV (eOp oGt (eBlt bLen (aCons (eVar 2) (aNil))) (eC k_MOST_WORD_SIGNS))) (tV (eMS (s1 fun s t => .bl (startsD s t)) (eVar 2) (aCons (eC (.str [45])) (aNil))))) (bRet (eC (.str []))) (bNil)) (bRet (eVar 2)))
def f_word_at : FD := fnD 2 3 b_word_at
def b_is_word : BF := bRet (eAnd (eOp oNe (eVar 0) (eC (.str []))) (eOp oEq (eCall f_word_at (aCons (eVar 0) (aCons (eC (.int 0)) (aNil)))) (eVar 0)))
def f_is_word : FD := fnD 1 1 b_is_word
def b__law_bag : BF := bSeq (bSet (gName 1) (eC (.int 31))) (bSeq (bFor (aIt (eSl (eVar 0) (pNo) (pSo (eC (.int 63))))) (gName 2) (bSet (gName 1) (eOp oMod (eOp oAdd (eOp oAdd (eOp oMul (eVar 1) (eC (.int 48271))) (eOp oMod (eVar 2) (eC (.int 2147483629)))) (eC (.int 1))) (eC (.int 2147483647))))) (bRet (eCel (aCons (eComp [2] (aIt (eSl (eVar 0) (pNo) (pSo (eC (.int 63))))) (gName 2) (tYes) (eOp oMod (eBlt bAbs (aCons (eVar 2) (aNil))) (eOp oPow (eOp oPow (eC (.int 10)) (eC (.int 60))) (eC (.int 10))))) (aCons (eC (.int 0)) (aCons (eC (.int 0)) (aCons (eVar 1) (aCons (eC (.int 0)) (aNil)))))))))
def f__law_bag : FD := fnD 1 3 b__law_bag
def b__law_stirred : BF := bSeq (bSet (gName 2) (eC (.int 0))) (bSeq (bFor (aRng1 (eOp oAdd (eC (.int 1)) (eOp oDiv (eBits (eVar 1)) (eC (.int 27))))) (gName 3) (bSeq (bSet (gIx (eVar 0) (eC (.int 4))) (eOp oAdd (eOp oIx (eVar 0) (eC (.int 4))) (eC (.int 1)))) (bSeq (bSet (gIx (eVar 0) (eC (.int 3))) (eOp oMod (eOp oAdd (eOp oAdd (eOp oAdd (eOp oPow (eOp oIx (eVar 0) (eC (.int 3))) (eC (.int 3))) (eOp oMul (eC (.int 69621)) (eOp oIx (eVar 0) (eC (.int 3))))) (eOp oMul (eC (.int 1031)) (eOp oIx (eVar 0) (eC (.int 4))))) (eC (.int 1))) (eC (.int 2147483647)))) (bSet (gName 2) (eOp oAdd (eOp oMul (eVar 2) (eC (.int 134217728))) (eOp oDiv (eOp oIx (eVar 0) (eC (.int 3))) (eC (.int 16)))))))) (bRet (eOp oMod (eVar 2) (eVar 1))))
def f__law_stirred : FD := fnD 2 4 b__law_stirred
def b__law_draw : BF := bSeq (bIf (tAnd (tV (eOp oEq (eOp oIx (eVar 0) (eC (.int 2))) (eC (.int 0)))) (tV (eOp oLt (eOp oIx (eVar 0) (eC (.int 1))) (eBlt bLen (aCons (eOp oIx (eVar 0) (eC (.int 0))) (aNil)))))) (bSeq (bSet (gIx (eVar 0) (eC (.int 2))) (eOp oIx (eOp oIx (eVar 0) (eC (.int 0))) (eOp oIx (eVar 0) (eC (.int 1))))) (bSet (gIx (eVar 0) (eC (.int 1))) (eOp oAdd (eOp oIx (eVar 0) (eC (.int 1))) (eC (.int 1))))) (bIf (tV (eOp oEq (eOp oIx (eVar 0) (eC (.int 2))) (eC (.int 0)))) (bRet (eCall f__law_stirred (aCons (eVar 0) (aCons (eVar 1) (aNil))))) (bNil))) (bSeq (bSet (gName 2) (eOp oMod (eOp oIx (eVar 0) (eC (.int 2))) (eVar 1))) (bSeq (bSet (gIx (eVar 0) (eC (.int 2))) (eOp oDiv (eOp oIx (eVar 0) (eC (.int 2))) (eVar 1))) (bRet (eVar 2))))
def f__law_draw : FD := fnD 2 3 b__law_draw
def b__law_pool : BF := bSeq (bSet (gName 1) (eC (.str lit32d10c))) (bSeq (bSet (gName 2) (eCall f__law_draw (aCons (eVar 0) (aCons (eC (.int 3)) (aNil))))) (bSeq (bSet (gName 3) (eMS sJoin (eC (.str [])) (aCons (eComp [5] (aRng1 (eOp oAdd (eC (.int 1)) (eCall f__law_draw (aCons (eVar 0) (aCons (eC (.int 6)) (aNil)))))) (gName 5) (tYes) (eOp oIx (eVar 1) (eCall f__law_draw (aCons (eVar 0) (aCons (eC (.int 26)) (aNil)))))) (aNil)))) (bSeq (bSet (gName 4) (eCel (aNil))) (bSeq (bFor (aRng1 (eC (.int 5))) (gName 5) (bSeq (bSet (gName 6) (eMS sJoin (eC (.str [])) (aCons (eComp [8] (aRng1 (eOp oAdd (eC (.int 1)) (eCall f__law_draw (aCons (eVar 0) (aCons (eC (.int 6)) (aNil)))))) (gName 8) (tYes) (eOp oIx (eVar 1) (eCall f__law_draw (aCons (eVar 0) (aCons (eC (.int 26)) (aNil)))))) (aNil)))) (bSeq (bSet (gName 6) (eOp oIx (eLst (aCons (eVar 6) (aCons (eOp oAdd (eSl (eVar 3) (pNo) (pSo (eUn oNeg (eC (.int 1))))) (eSl (eVar 6) (pNo) (pSo (eC (.int 1))))) (aCons (eSl (eOp oAdd (eVar 3) (eVar 6)) (pNo) (pSo (eOp oAdd (eC (.int 1)) (eCall f__law_draw (aCons (eVar 0) (aCons (eC (.int 7)) (aNil))))))) (aNil))))) (eVar 2))) (bSeq (bSet (gName 7) (eC (.int 0))) (bSeq (whileV (tV (eOp oIn (eVar 6) (eVar 4))) (bSeq (bSet (gName 6) (eOp oAdd (eSl (eVar 6) (pNo) (pSo (eC (.int 7)))) (eOp oIx (eVar 1) (eVar 7)))) (bSet (gName 7) (eOp oAdd (eVar 7) (eC (.int 1))))) fuel) (bDrop (eApp (eVar 4) (eVar 6)))))))) (bRet (eFrz (eVar 4)))))))
def f__law_pool : FD := fnD 1 9 b__law_pool
def b__law_word : BF := bSeq (bIf (tV (eOp oLt (eBlt bLen (aCons (eVar 0) (aNil))) (eC (.int 6)))) (bDrop (eApp (eVar 0) (eCall f__law_pool (aCons (eVar 0) (aNil))))) (bNil)) (bRet (eOp oIx (eOp oIx (eVar 0) (eC (.int 5))) (eCall f__law_draw (aCons (eVar 0) (aCons (eC (.int 5)) (aNil))))))
def f__law_word : FD := fnD 1 1 b__law_word
def b__law_signs : BF := bSeq (bSet (gName 2) (eC (.str lit905a33))) (bSeq (bSet (gName 3) (eOp oIx (eLst (aCons (eVar 2) (aCons (eC (.str lit2ecc59)) (aCons (eC (.str [97, 98, 99, 32, 100])) (aCons (eC (.str [60, 38])) (aNil)))))) (eCall f__law_draw (aCons (eVar 0) (aCons (eC (.int 4)) (aNil)))))) (bRet (eMS sJoin (eC (.str [])) (aCons (eComp [4] (aRng1 (eVar 1)) (gName 4) (tYes) (eOp oIx (eVar 3) (eCall f__law_draw (aCons (eVar 0) (aCons (eBlt bLen (aCons (eVar 3) (aNil))) (aNil)))))) (aNil)))))
def f__law_signs : FD := fnD 2 5 b__law_signs
def b__law_spoilt : BF := bSeq (bSet (gName 3) (eC (.str lit41428f))) (bSeq (bFor (aRng1 (eVar 2)) (gName 4) (bSeq (bSet (gName 5) (eCall f__law_draw (aCons (eVar 0) (aCons (eOp oAdd (eBlt bLen (aCons (eVar 1) (aNil))) (eC (.int 1))) (aNil))))) (bSeq (bSet (gName 6) (eCall f__law_draw (aCons (eVar 0) (aCons (eC (.int 3)) (aNil))))) (bSet (gName 1) (eOp oAdd (eOp oAdd (eSl (eVar 1) (pNo) (pSo (eVar 5))) (eOp oIx (eLst (aCons (eC (.str [])) (aCons (eOp oIx (eVar 3) (eCall f__law_draw (aCons (eVar 0) (aCons (eBlt bLen (aCons (eVar 3) (aNil))) (aNil))))) (aNil)))) (eBlt bInt (aCons (eOp oGt (eVar 6) (eC (.int 0))) (aNil))))) (eSl (eVar 1) (pSo (eOp oAdd (eVar 5) (eBlt bInt (aCons (eOp oLt (eVar 6) (eC (.int 2))) (aNil))))) (pNo))))))) (bRet (eVar 1)))
def f__law_spoilt : FD := fnD 3 7 b__law_spoilt
def b__law_is_word : BF := bSeq (bIf (tOr (tNot (tV (eChain oLe oLe (eC (.int 1)) (eBlt bLen (aCons (eVar 0) (aNil))) (eC (.int 12))))) (tV (eOp oEq (eOp oIx (eVar 0) (eC (.int 0))) (eC (.str [45]))))) (bRet (eC (.bl false))) (bNil)) (bRet (eOp oEq (eComp [1] (aIt (eVar 0)) (gName 1) (tV (eOp oNotIn (eVar 1) (eC (.str lit6e3145)))) (eVar 1)) (eLst (aNil))))
def f__law_is_word : FD := fnD 1 2 b__law_is_word
def b__law_sign : BF := bSeq (bFor (aIt (eLst (aCons (eTup (aCons (eC (.str [38, 108, 116, 59])) (aCons (eC (.str [60])) (aNil)))) (aCons (eTup (aCons (eC (.str [38, 103, 116, 59])) (aCons (eC (.str [62])) (aNil)))) (aCons (eTup (aCons (eC (.str [38, 97, 109, 112, 59])) (aCons (eC (.str [38])) (aNil)))) (aCons (eTup (aCons (eC (.str [38, 113, 117, 111, 116, 59])) (aCons (eC (.str [34])) (aNil)))) (aNil))))))) (gTup 2 (gCons (gName 2) (gCons (gName 3) (gNil)))) (bIf (tV (eOp oEq (eSl (eVar 0) (pSo (eVar 1)) (pSo (eOp oAdd (eVar 1) (eBlt bLen (aCons (eVar 2) (aNil)))))) (eVar 2))) (bRet (eTup (aCons (eVar 3) (aCons (eOp oAdd (eVar 1) (eBlt bLen (aCons (eVar 2) (aNil)))) (aNil))))) (bNil))) (bRet (eTup (aCons (eOp oIx (eVar 0) (eVar 1)) (aCons (eOp oAdd (eVar 1) (eC (.int 1))) (aNil)))))
def f__law_sign : FD := fnD 2 4 b__law_sign
def b__law_plain : BF := bSeq (bSet (gName 1) (eC (.str []))) (bSeq (bSet (gName 2) (eC (.int 0))) (bSeq (whileV (tV (eOp oLt (eVar 2) (eBlt bLen (aCons (eVar 0) (aNil))))) (bSeq (bSet (gTup 2 (gCons (gName 3) (gCons (gName 2) (gNil)))) (eCall f__law_sign (aCons (eVar 0) (aCons (eVar 2) (aNil))))) (bSet (gName 1) (eOp oAdd (eVar 1) (eVar 3)))) fuel) (bRet (eVar 1))))
def f__law_plain : FD := fnD 1 4 b__law_plain
def b__law_drawn_word : BF := bSeq (bSet (gName 1) (eC (.str lit6e3145))) (bSeq (bSet (gName 2) (eCall f__law_draw (aCons (eVar 0) (aCons (eC (.int 4)) (aNil))))) (bSeq (bSet (gName 3) (eCall f__law_word (aCons (eVar 0) (aNil)))) (bSeq (bIf (tV (eOp oEq (eVar 2) (eC (.int 1)))) (bSeq (bSet (gName 4) (eOp oIx (eLst (aCons (eCall f__law_draw (aCons (eVar 0) (aCons (eC (.int 15)) (aNil)))) (aCons (eC (.int 11)) (aCons (eC (.int 12)) (aCons (eC (.int 13)) (aNil)))))) (eCall f__law_draw (aCons (eVar 0) (aCons (eC (.int 4)) (aNil)))))) (bSet (gName 3) (eMS sJoin (eC (.str [])) (aCons (eComp [6] (aRng1 (eVar 4)) (gName 6) (tYes) (eOp oIx (eVar 1) (eCall f__law_draw (aCons (eVar 0) (aCons (eC (.int 27)) (aNil)))))) (aNil))))) (bNil)) (bSeq (bIf (tV (eOp oEq (eVar 2) (eC (.int 2)))) (bSet (gName 3) (eCall f__law_spoilt (aCons (eVar 0) (aCons (eVar 3) (aCons (eC (.int 1)) (aNil)))))) (bNil)) (bSeq (bIf (tV (eOp oEq (eVar 2) (eC (.int 3)))) (bSeq (bSet (gName 5) (eCall f__law_draw (aCons (eVar 0) (aCons (eOp oAdd (eBlt bLen (aCons (eVar 3) (aNil))) (eC (.int 1))) (aNil))))) (bSet (gName 3) (eOp oAdd (eOp oAdd (eSl (eVar 3) (pNo) (pSo (eVar 5))) (eCall f__law_signs (aCons (eVar 0) (aCons (eC (.int 1)) (aNil))))) (eSl (eVar 3) (pSo (eVar 5)) (pNo))))) (bNil)) (bRet (eVar 3)))))))
def f__law_drawn_word : FD := fnD 1 7 b__law_drawn_word
def b__law_drawn_text : BF := bSeq (bSet (gName 1) (eC (.str []))) (bSeq (bFor (aRng1 (eOp oIx (eLst (aCons (eCall f__law_draw (aCons (eVar 0) (aCons (eC (.int 4)) (aNil)))) (aCons (eCall f__law_draw (aCons (eVar 0) (aCons (eC (.int 12)) (aNil)))) (aCons (eC (.int 80)) (aNil))))) (eOp oDiv (eCall f__law_draw (aCons (eVar 0) (aCons (eC (.int 16)) (aNil)))) (eC (.int 7))))) (gName 2) (bSeq (bSet (gName 3) (eLst (aCons (eC (.str [38, 108, 116, 59])) (aCons (eC (.str [38, 103, 116, 59])) (aCons (eC (.str [38, 97, 109, 112, 59])) (aCons (eC (.str [38, 113, 117, 111, 116, 59])) (aCons (eC (.str [38, 108, 116])) (aCons (eC (.str [97, 109, 112, 59])) (aCons (eC (.str lita2c655)) (aCons (eC (.str [38])) (aCons (eC (.str [38, 76, 84, 59])) (aCons (eC (.str [38, 110, 98, 115, 112, 59])) (aCons (eC (.str [38, 35, 54, 48, 59])) (aNil)))))))))))))) (bSet (gName 1) (eOp oAdd (eVar 1) (eOp oIx (eLst (aCons (eCall f__law_signs (aCons (eVar 0) (aCons (eCall f__law_draw (aCons (eVar 0) (aCons (eC (.int 5)) (aNil)))) (aNil)))) (aCons (eOp oIx (eVar 3) (eCall f__law_draw (aCons (eVar 0) (aCons (eC (.int 11)) (aNil))))) (aNil)))) (eCall f__law_draw (aCons (eVar 0) (aCons (eC (.int 2)) (aNil))))))))) (bRet (eOp oAdd (eVar 1) (eOp oMul (eC (.str [97, 98, 32, 99])) (eOp oIx (eLst (aCons (eC (.int 0)) (aCons (eC (.int 0)) (aCons (eC (.int 0)) (aCons (eC (.int 380)) (aNil)))))) (eCall f__law_draw (aCons (eVar 0) (aCons (eC (.int 4)) (aNil)))))))))
def f__law_drawn_text : FD := fnD 1 4 b__law_drawn_text
def b__law_signs_right : BF := bSeq (bSet (gName 1) (eDict (dCons (eC (.str [60])) (eC (.str [38, 108, 116, 59])) (dCons (eC (.str [38])) (eC (.str [38, 97, 109, 112, 59])) (dNil))))) (bSeq (bSet (gName 2) (eMS sJoin (eC (.str [])) (aCons (eComp [4] (aIt (eVar 0)) (gName 4) (tYes) (eGet2 (eVar 1) (eVar 4) (eVar 4))) (aNil)))) (bSeq (bFor (aRng1 (eC (.int 2))) (gName 3) (bSeq (bIf (tOr (tV (eOp oNe (eCall f_written_sign (aCons (eVar 0) (aNil))) (eVar 2))) (tOr (tV (eOp oNe (eCall f_written_sign (aCons (eVar 0) (aNil))) (eVar 2))) (tV (eOp oNe (eCall f_plain_signs (aCons (eVar 2) (aNil))) (eVar 0))))) (bRet (eC (.bl false))) (bNil)) (bIf (tOr (tV (eOp oNe (eCall f_plain_signs (aCons (eVar 0) (aNil))) (eCall f__law_plain (aCons (eVar 0) (aNil))))) (tV (eOp oNe (eCall f_plain_signs (aCons (eVar 0) (aNil))) (eCall f__law_plain (aCons (eVar 0) (aNil)))))) (bRet (eC (.bl false))) (bNil)))) (bRet (eAnd (eBlt bIsi (aCons (eCall f_written_sign (aCons (eVar 0) (aNil))) (aCons (eC (.ty "str")) (aNil)))) (eBlt bIsi (aCons (eCall f_plain_signs (aCons (eVar 0) (aNil))) (aCons (eC (.ty "str")) (aNil))))))))
def f__law_signs_right : FD := fnD 1 5 b__law_signs_right
def b_law : BF := bSeq (bSet (gName 1) (eCall f__law_bag (aCons (eVar 0) (aNil)))) (bSeq (bSet (gName 2) (eC (.str []))) (bSeq (bFor (aRng1 (eC (.int 8))) (gName 3) (bSeq (bSet (gName 4) (eCall f__law_drawn_word (aCons (eVar 1) (aNil)))) (bSeq (bFor (aRng1 (eC (.int 2))) (gName 5) (bSeq (bSet (gName 7) (eCall f_is_word (aCons (eVar 4) (aNil)))) (bIf (tOr (tNot (tV (eBlt bIsi (aCons (eVar 7) (aCons (eC (.ty "bool")) (aNil)))))) (tOr (tV (eOp oNe (eVar 7) (eCall f__law_is_word (aCons (eVar 4) (aNil))))) (tV (eOp oNe (eCall f_is_word (aCons (eVar 4) (aNil))) (eVar 7))))) (bRet (eC (.bl false))) (bNil)))) (bSeq (bSet (gName 6) (eCall f__law_drawn_text (aCons (eVar 1) (aNil)))) (bSeq (bIf (tOr (tNot (tV (eCall f__law_signs_right (aCons (eVar 6) (aNil))))) (tNot (tV (eCall f__law_signs_right (aCons (eVar 4) (aNil)))))) (bRet (eC (.bl false))) (bNil)) (bSeq (bIf (tV (eOp oNe (eCall f_plain_signs (aCons (eOp oAdd (eCall f_written_sign (aCons (eVar 2) (aNil))) (eSl (eVar 6) (pNo) (pSo (eC (.int 60))))) (aNil))) (eOp oAdd (eVar 2) (eCall f_plain_signs (aCons (eSl (eVar 6) (pNo) (pSo (eC (.int 60)))) (aNil)))))) (bRet (eC (.bl false))) (bNil)) (bSet (gName 2) (eVar 6)))))))) (bRet (eC (.bl true)))))
def f_law : FD := fnD 1 8 b_law
structure Top (K : PySem.W.Frag) (mg : Str → Option Value) : Prop where
  d_run_at : ∃ f fd, Fun K "run_at" "run_at" (topS 4) f fd ∧ mg "run_at" = some (.ref f)
  d_word_at : ∃ f fd, Fun K "word_at" "word_at" (topS 5) f fd ∧ mg "word_at" = some (.ref f)
  d_is_word : ∃ f fd, Fun K "is_word" "is_word" (topS 6) f fd ∧ mg "is_word" = some (.ref f)
  d_written_sign : ∃ f fd, Fun K "written_sign" "written_sign" (topS 7) f fd ∧ mg "written_sign" = some (.ref f)
  d_plain_signs : ∃ f fd, Fun K "plain_signs" "plain_signs" (topS 8) f fd ∧ mg "plain_signs" = some (.ref f)
  d__law_bag : ∃ f fd, Fun K "_law_bag" "_law_bag" (topS 10) f fd ∧ mg "_law_bag" = some (.ref f)
  d__law_stirred : ∃ f fd, Fun K "_law_stirred" "_law_stirred" (topS 11) f fd ∧ mg "_law_stirred" = some (.ref f)
  d__law_draw : ∃ f fd, Fun K "_law_draw" "_law_draw" (topS 12) f fd ∧ mg "_law_draw" = some (.ref f)
  d__law_pool : ∃ f fd, Fun K "_law_pool" "_law_pool" (topS 13) f fd ∧ mg "_law_pool" = some (.ref f)
  d__law_word : ∃ f fd, Fun K "_law_word" "_law_word" (topS 14) f fd ∧ mg "_law_word" = some (.ref f)
  d__law_signs : ∃ f fd, Fun K "_law_signs" "_law_signs" (topS 15) f fd ∧ mg "_law_signs" = some (.ref f)
  d__law_spoilt : ∃ f fd, Fun K "_law_spoilt" "_law_spoilt" (topS 16) f fd ∧ mg "_law_spoilt" = some (.ref f)
  d__law_is_word : ∃ f fd, Fun K "_law_is_word" "_law_is_word" (topS 17) f fd ∧ mg "_law_is_word" = some (.ref f)
  d__law_sign : ∃ f fd, Fun K "_law_sign" "_law_sign" (topS 18) f fd ∧ mg "_law_sign" = some (.ref f)
  d__law_plain : ∃ f fd, Fun K "_law_plain" "_law_plain" (topS 19) f fd ∧ mg "_law_plain" = some (.ref f)
  d__law_drawn_word : ∃ f fd, Fun K "_law_drawn_word" "_law_drawn_word" (topS 20) f fd ∧ mg "_law_drawn_word" = some (.ref f)
  d__law_drawn_text : ∃ f fd, Fun K "_law_drawn_text" "_law_drawn_text" (topS 21) f fd ∧ mg "_law_drawn_text" = some (.ref f)
  d__law_signs_right : ∃ f fd, Fun K "_law_signs_right" "_law_signs_right" (topS 22) f fd ∧ mg "_law_signs_right" = some (.ref f)
  d_law : ∃ f fd, Fun K "law" "law" (topS 23) f fd ∧ mg "law" = some (.ref f)
  z_abs : mg "abs" = none
  z_bool : mg "bool" = none
  z_int : mg "int" = none
  z_isinstance : mg "isinstance" = none
  z_len : mg "len" = none
  z_range : mg "range" = none
  z_str : mg "str" = none
  g_WORD_SIGNS : GlobD K mg "WORD_SIGNS" k_WORD_SIGNS
  g_MOST_WORD_SIGNS : GlobD K mg "MOST_WORD_SIGNS" k_MOST_WORD_SIGNS
  g_WRITTEN_SIGNS : GlobD K mg "WRITTEN_SIGNS" k_WRITTEN_SIGNS
  r_WRITTEN_SIGNS : PairsT K mg "WRITTEN_SIGNS" [("&lt;", "<"), ("&gt;", ">"), ("&quot;", "\""), ("&amp;", "&")]
section
variable {P : Program} {w : World} {K : PySem.W.Frag} {mg : Str → Option Value} {base : Heap}
abbrev s_run_at : Stmt := topS 4
theorem sc_run_at : FnScope ["text", "at", "signs", "rest"] ["text", "at", "signs"] (defScope s_run_at) := ⟨rfl, rfl, rfl, by decide +kernel, rfl, by decide +kernel, by decide +kernel⟩
theorem y_run_at (T : Top K mg)    : Body P w K mg base 0 ["text", "at", "signs", "rest"] "run_at" s_run_at b_run_at := fun f cdv A outer s H E hr =>
  have sc := sc_run_at
  jb_cons (js_set (jg_name 3 sc.nd) (j_sl (j_var 0) (jp_so (j_var 1)) (jp_no))) (jb_one (js_ret (j_sl (j_var 3) (jp_no) (jp_so (j_op od_sub (j_bltB cb_len T.z_len PySem.boot_len (ja_cons (j_var 3) (ja_nil))) (j_bltB cb_len T.z_len PySem.boot_len (ja_cons (j_mS PySem.F.plainAttrs_str PySem.F.slot_str_lstrip PySem.F.type_str_lstrip ms_lstrip (j_var 3) (ja_cons (j_var 2) (ja_nil))) (ja_nil))))))))
theorem o_run_at (T : Top K mg)    : Fn P w K mg base 1 "run_at" ["text", "at", "signs"] f_run_at := Fn.of T.d_run_at sc_run_at (fun _ _ _ _ _ _ us hl => match us, hl with | [_, _, _], _ => rfl) (y_run_at T   )
abbrev s_word_at : Stmt := topS 5
theorem sc_word_at : FnScope ["text", "at", "word"] ["text", "at"] (defScope s_word_at) := ⟨rfl, rfl, rfl, by decide +kernel, rfl, by decide +kernel, by decide +kernel⟩
theorem y_word_at (T : Top K mg) (h_run_at : Fn P w K mg base 1 "run_at" ["text", "at", "signs"] f_run_at)   : Body P w K mg base 1 ["text", "at", "word"] "word_at" s_word_at b_word_at := fun f cdv A outer s H E hr =>
  have sc := sc_word_at
  jb_cons (js_set (jg_name 2 sc.nd) (j_call h_run_at hr (ja_cons (j_sl (j_var 0) (jp_so (j_var 1)) (jp_so (j_op od_add (j_op od_add (j_var 1) (j_glob T.g_MOST_WORD_SIGNS)) (j_int)))) (ja_cons (j_int) (ja_cons (j_glob T.g_WORD_SIGNS) (ja_nil)))))) (jb_cons (js_if (jt_w (jw_or (jt_cmp od_gt (j_bltB cb_len T.z_len PySem.boot_len (ja_cons (j_var 2) (ja_nil))) (j_glob T.g_MOST_WORD_SIGNS)) (jw_or1 (jt_val (j_mS PySem.F.plainAttrs_str PySem.F.slot_str_startswith PySem.F.type_str_startswith ms_startswith (j_var 2) (ja_cons (j_str [45]) (ja_nil))))))) (jb_one (js_ret (j_str []))) (jb_nil)) (jb_one (js_ret (j_var 2))))
theorem o_word_at (T : Top K mg) (h_run_at : Fn P w K mg base 1 "run_at" ["text", "at", "signs"] f_run_at)   : Fn P w K mg base 2 "word_at" ["text", "at"] f_word_at := Fn.of T.d_word_at sc_word_at (fun _ _ _ _ _ _ us hl => match us, hl with | [_, _], _ => rfl) (y_word_at T h_run_at  )
abbrev s_is_word : Stmt := topS 6
theorem sc_is_word : FnScope ["text"] ["text"] (defScope s_is_word) := ⟨rfl, rfl, rfl, by decide +kernel, rfl, by decide +kernel, by decide +kernel⟩
theorem y_is_word (T : Top K mg) (h_word_at : Fn P w K mg base 2 "word_at" ["text", "at"] f_word_at)   : Body P w K mg base 2 ["text"] "is_word" s_is_word b_is_word := fun f cdv A outer s H E hr =>
  have sc := sc_is_word
  jb_one (js_ret (j_and (j_cmp (od_ne hr.units) (j_var 0) (j_str [])) (j_one (j_cmp (od_eq hr.units) (j_call h_word_at hr (ja_cons (j_var 0) (ja_cons (j_int) (ja_nil)))) (j_var 0)))))
theorem o_is_word (T : Top K mg) (h_word_at : Fn P w K mg base 2 "word_at" ["text", "at"] f_word_at)   : Fn P w K mg base 3 "is_word" ["text"] f_is_word := Fn.of T.d_is_word sc_is_word (fun _ _ _ _ _ _ us hl => match us, hl with | [_], _ => rfl) (y_is_word T h_word_at  )
theorem ok_is_word (T : Top K mg) (h_word_at : Fn P w K mg base 2 "word_at" ["text", "at"] f_word_at)   : FnK P w K mg base 3 "is_word" ["text"] f_is_word := FnK.of T.d_is_word sc_is_word (fun _ _ _ _ _ _ us hl => match us, hl with | [_], _ => rfl) (fun _ _ _ _ _ _ us hl => match us, hl with | [_], _ => rfl) (y_is_word T h_word_at  )
abbrev s__law_bag : Stmt := topS 10
theorem sc__law_bag : FnScope ["script", "stir", "cell"] ["script"] (defScope s__law_bag) := ⟨rfl, rfl, rfl, by decide +kernel, rfl, by decide +kernel, by decide +kernel⟩
theorem y__law_bag (T : Top K mg)    : Body P w K mg base 0 ["script", "stir", "cell"] "_law_bag" s__law_bag b__law_bag := fun f cdv A outer s H E hr =>
  have sc := sc__law_bag
  jb_cons (js_set (jg_name 1 sc.nd) (j_int)) (jb_cons (js_for PassesOwn.never rfl (ji_e (j_sl (j_var 0) (jp_no) (jp_so (j_int)))) (jg_name 2 sc.nd) (jb_one (js_set (jg_name 1 sc.nd) (j_op od_mod (j_op od_add (j_op od_add (j_op od_mul (j_var 1) (j_int)) (j_op od_mod (j_var 2) (j_int))) (j_int)) (j_int))))) (jb_one (js_ret (j_cel (ja_cons (j_comp [("cell", 2)] rfl sc.nd (ji_e (j_sl (j_var 0) (jp_no) (jp_so (j_int)))) (blkOk_by (N := ["script", "stir", "cell"]) (sc := defScope s__law_bag) (by decide +kernel)) (fun _ _ _ _ _ => jg_name 2 sc.nd) (fun _ _ _ _ _ => jc_nil) (fun _ _ _ _ _ => j_op od_mod (j_bltB cb_abs T.z_abs (by decide +kernel) (ja_cons (j_var 2) (ja_nil))) (j_op od_pow (j_op od_pow (j_int) (j_int)) (j_int))) (by decide)) (ja_cons (j_int) (ja_cons (j_int) (ja_cons (j_var 1) (ja_cons (j_int) (ja_nil)))))) (few_of (few_cons (few_cons (few_cons (few_cons (few_cons (few_nil)))))))))))
theorem o__law_bag (T : Top K mg)    : Fn P w K mg base 1 "_law_bag" ["script"] f__law_bag := Fn.of T.d__law_bag sc__law_bag (fun _ _ _ _ _ _ us hl => match us, hl with | [_], _ => rfl) (y__law_bag T   )
abbrev s__law_stirred : Stmt := topS 11
theorem sc__law_stirred : FnScope ["bag", "many", "found", "k"] ["bag", "many"] (defScope s__law_stirred) := ⟨rfl, rfl, rfl, by decide +kernel, rfl, by decide +kernel, by decide +kernel⟩
theorem y__law_stirred (T : Top K mg)    : Body P w K mg base 0 ["bag", "many", "found", "k"] "_law_stirred" s__law_stirred b__law_stirred := fun f cdv A outer s H E hr =>
  have sc := sc__law_stirred
  jb_cons (js_set (jg_name 2 sc.nd) (j_int)) (jb_cons (js_for PassesOwn.never rfl (ji_rng1 (j_op od_add (j_int) (j_op od_div (j_bits (j_var 1)) (j_int))) T.z_range) (jg_name 3 sc.nd) (jb_cons (js_set (jg_ix (j_var 0) (j_int)) (j_op od_add (j_ix (j_var 0) (j_int)) (j_int))) (jb_cons (js_set (jg_ix (j_var 0) (j_int)) (j_op od_mod (j_op od_add (j_op od_add (j_op od_add (j_op od_pow (j_ix (j_var 0) (j_int)) (j_int)) (j_op od_mul (j_int) (j_ix (j_var 0) (j_int)))) (j_op od_mul (j_int) (j_ix (j_var 0) (j_int)))) (j_int)) (j_int))) (jb_one (js_set (jg_name 2 sc.nd) (j_op od_add (j_op od_mul (j_var 2) (j_int)) (j_op od_div (j_ix (j_var 0) (j_int)) (j_int)))))))) (jb_one (js_ret (j_op od_mod (j_var 2) (j_var 1)))))
theorem o__law_stirred (T : Top K mg)    : Fn P w K mg base 1 "_law_stirred" ["bag", "many"] f__law_stirred := Fn.of T.d__law_stirred sc__law_stirred (fun _ _ _ _ _ _ us hl => match us, hl with | [_, _], _ => rfl) (y__law_stirred T   )
abbrev s__law_draw : Stmt := topS 12
theorem sc__law_draw : FnScope ["bag", "many", "found"] ["bag", "many"] (defScope s__law_draw) := ⟨rfl, rfl, rfl, by decide +kernel, rfl, by decide +kernel, by decide +kernel⟩
theorem y__law_draw (T : Top K mg) (h__law_stirred : Fn P w K mg base 1 "_law_stirred" ["bag", "many"] f__law_stirred)   : Body P w K mg base 1 ["bag", "many", "found"] "_law_draw" s__law_draw b__law_draw := fun f cdv A outer s H E hr =>
  have sc := sc__law_draw
  jb_cons (js_if (jt_w (jw_and (jt_cmp (od_eq hr.units) (j_ix (j_var 0) (j_int)) (j_int)) (jw_and1 (jt_cmp od_lt (j_ix (j_var 0) (j_int)) (j_bltB cb_len T.z_len PySem.boot_len (ja_cons (j_ix (j_var 0) (j_int)) (ja_nil))))))) (jb_cons (js_set (jg_ix (j_var 0) (j_int)) (j_ix (j_ix (j_var 0) (j_int)) (j_ix (j_var 0) (j_int)))) (jb_one (js_set (jg_ix (j_var 0) (j_int)) (j_op od_add (j_ix (j_var 0) (j_int)) (j_int))))) (jb_one (js_if (jt_cmp (od_eq hr.units) (j_ix (j_var 0) (j_int)) (j_int)) (jb_one (js_ret (j_call h__law_stirred hr (ja_cons (j_var 0) (ja_cons (j_var 1) (ja_nil)))))) (jb_nil)))) (jb_cons (js_set (jg_name 2 sc.nd) (j_op od_mod (j_ix (j_var 0) (j_int)) (j_var 1))) (jb_cons (js_set (jg_ix (j_var 0) (j_int)) (j_op od_div (j_ix (j_var 0) (j_int)) (j_var 1))) (jb_one (js_ret (j_var 2)))))
theorem o__law_draw (T : Top K mg) (h__law_stirred : Fn P w K mg base 1 "_law_stirred" ["bag", "many"] f__law_stirred)   : Fn P w K mg base 2 "_law_draw" ["bag", "many"] f__law_draw := Fn.of T.d__law_draw sc__law_draw (fun _ _ _ _ _ _ us hl => match us, hl with | [_, _], _ => rfl) (y__law_draw T h__law_stirred  )
abbrev s__law_pool : Stmt := topS 13
theorem sc__law_pool : FnScope ["bag", "letters", "style", "base", "found", "k", "word", "step", "j"] ["bag"] (defScope s__law_pool) := ⟨rfl, rfl, rfl, by decide +kernel, rfl, by decide +kernel, by decide +kernel⟩
theorem y__law_pool (T : Top K mg) (h__law_draw : Fn P w K mg base 2 "_law_draw" ["bag", "many"] f__law_draw)   : Body P w K mg base 2 ["bag", "letters", "style", "base", "found", "k", "word", "step", "j"] "_law_pool" s__law_pool b__law_pool := fun f cdv A outer s H E hr =>
  have sc := sc__law_pool
  jb_cons (js_set (jg_name 1 sc.nd) (j_str lit32d10c)) (jb_cons (js_set (jg_name 2 sc.nd) (j_call h__law_draw hr (ja_cons (j_var 0) (ja_cons (j_int) (ja_nil))))) (jb_cons (js_set (jg_name 3 sc.nd) (j_mS PySem.F.plainAttrs_str PySem.F.slot_str_join PySem.F.type_str_join ms_join (j_str []) (ja_cons (j_comp [("k", 5)] rfl sc.nd (ji_rng1 (j_op od_add (j_int) (j_call h__law_draw hr (ja_cons (j_var 0) (ja_cons (j_int) (ja_nil))))) T.z_range) (blkOk_by (N := ["bag", "letters", "style", "base", "found", "k", "word", "step", "j"]) (sc := defScope s__law_pool) (by decide +kernel)) (fun _ _ _ _ _ => jg_name 5 sc.nd) (fun _ _ _ _ _ => jc_nil) (fun _ _ _ _ _ => j_ix (j_var 1) (j_call h__law_draw hr (ja_cons (j_var 0) (ja_cons (j_int) (ja_nil))))) (by decide)) (ja_nil)))) (jb_cons (js_set (jg_name 4 sc.nd) (j_cel (ja_nil) (few_of few_nil))) (jb_cons (js_for PassesOwn.never rfl (ji_rng1 (j_int) T.z_range) (jg_name 5 sc.nd) (jb_cons (js_set (jg_name 6 sc.nd) (j_mS PySem.F.plainAttrs_str PySem.F.slot_str_join PySem.F.type_str_join ms_join (j_str []) (ja_cons (j_comp [("j", 8)] rfl sc.nd (ji_rng1 (j_op od_add (j_int) (j_call h__law_draw hr (ja_cons (j_var 0) (ja_cons (j_int) (ja_nil))))) T.z_range) (blkOk_by (N := ["bag", "letters", "style", "base", "found", "k", "word", "step", "j"]) (sc := defScope s__law_pool) (by decide +kernel)) (fun _ _ _ _ _ => jg_name 8 sc.nd) (fun _ _ _ _ _ => jc_nil) (fun _ _ _ _ _ => j_ix (j_var 1) (j_call h__law_draw hr (ja_cons (j_var 0) (ja_cons (j_int) (ja_nil))))) (by decide)) (ja_nil)))) (jb_cons (js_set (jg_name 6 sc.nd) (j_ix (j_lst (ja_cons (j_var 6) (ja_cons (j_op od_add (j_sl (j_var 3) (jp_no) (jp_so (j_un ud_neg (j_int)))) (j_sl (j_var 6) (jp_no) (jp_so (j_int)))) (ja_cons (j_sl (j_op od_add (j_var 3) (j_var 6)) (jp_no) (jp_so (j_op od_add (j_int) (j_call h__law_draw hr (ja_cons (j_var 0) (ja_cons (j_int) (ja_nil))))))) (ja_nil)))) (few_of (few_cons (few_cons (few_cons (few_nil)))))) (j_var 2))) (jb_cons (js_set (jg_name 7 sc.nd) (j_int)) (jb_cons (js_while fuel PassesOwn.never (jt_cmp od_in (j_var 6) (j_var 4)) (jb_cons (js_set (jg_name 6 sc.nd) (j_op od_add (j_sl (j_var 6) (jp_no) (jp_so (j_int))) (j_ix (j_var 1) (j_var 7)))) (jb_one (js_set (jg_name 7 sc.nd) (j_op od_add (j_var 7) (j_int)))))) (jb_one (js_expr (j_app (j_var 4) (j_var 6))))))))) (jb_one (js_ret (j_frz (j_var 4))))))))
theorem o__law_pool (T : Top K mg) (h__law_draw : Fn P w K mg base 2 "_law_draw" ["bag", "many"] f__law_draw)   : Fn P w K mg base 3 "_law_pool" ["bag"] f__law_pool := Fn.of T.d__law_pool sc__law_pool (fun _ _ _ _ _ _ us hl => match us, hl with | [_], _ => rfl) (y__law_pool T h__law_draw  )
abbrev s__law_word : Stmt := topS 14
theorem sc__law_word : FnScope ["bag"] ["bag"] (defScope s__law_word) := ⟨rfl, rfl, rfl, by decide +kernel, rfl, by decide +kernel, by decide +kernel⟩
theorem y__law_word (T : Top K mg) (h__law_draw : Fn P w K mg base 2 "_law_draw" ["bag", "many"] f__law_draw) (h__law_pool : Fn P w K mg base 3 "_law_pool" ["bag"] f__law_pool)   : Body P w K mg base 3 ["bag"] "_law_word" s__law_word b__law_word := fun f cdv A outer s H E hr =>
  have sc := sc__law_word
  jb_cons (js_if (jt_cmp od_lt (j_bltB cb_len T.z_len PySem.boot_len (ja_cons (j_var 0) (ja_nil))) (j_int)) (jb_one (js_expr (j_app (j_var 0) (j_call h__law_pool hr (ja_cons (j_var 0) (ja_nil)))))) (jb_nil)) (jb_one (js_ret (j_ix (j_ix (j_var 0) (j_int)) (j_call h__law_draw (hr.mono (by decide)) (ja_cons (j_var 0) (ja_cons (j_int) (ja_nil)))))))
theorem o__law_word (T : Top K mg) (h__law_draw : Fn P w K mg base 2 "_law_draw" ["bag", "many"] f__law_draw) (h__law_pool : Fn P w K mg base 3 "_law_pool" ["bag"] f__law_pool)   : Fn P w K mg base 4 "_law_word" ["bag"] f__law_word := Fn.of T.d__law_word sc__law_word (fun _ _ _ _ _ _ us hl => match us, hl with | [_], _ => rfl) (y__law_word T h__law_draw h__law_pool  )
abbrev s__law_signs : Stmt := topS 15
theorem sc__law_signs : FnScope ["bag", "many", "every", "some", "k"] ["bag", "many"] (defScope s__law_signs) := ⟨rfl, rfl, rfl, by decide +kernel, rfl, by decide +kernel, by decide +kernel⟩
theorem y__law_signs (T : Top K mg) (h__law_draw : Fn P w K mg base 2 "_law_draw" ["bag", "many"] f__law_draw)   : Body P w K mg base 2 ["bag", "many", "every", "some", "k"] "_law_signs" s__law_signs b__law_signs := fun f cdv A outer s H E hr =>
  have sc := sc__law_signs
  jb_cons (js_set (jg_name 2 sc.nd) (j_str lit905a33)) (jb_cons (js_set (jg_name 3 sc.nd) (j_ix (j_lst (ja_cons (j_var 2) (ja_cons (j_str lit2ecc59) (ja_cons (j_str [97, 98, 99, 32, 100]) (ja_cons (j_str [60, 38]) (ja_nil))))) (few_of (few_cons (few_cons (few_cons (few_cons (few_nil))))))) (j_call h__law_draw hr (ja_cons (j_var 0) (ja_cons (j_int) (ja_nil)))))) (jb_one (js_ret (j_mS PySem.F.plainAttrs_str PySem.F.slot_str_join PySem.F.type_str_join ms_join (j_str []) (ja_cons (j_comp [("k", 4)] rfl sc.nd (ji_rng1 (j_var 1) T.z_range) (blkOk_by (N := ["bag", "many", "every", "some", "k"]) (sc := defScope s__law_signs) (by decide +kernel)) (fun _ _ _ _ _ => jg_name 4 sc.nd) (fun _ _ _ _ _ => jc_nil) (fun _ _ _ _ _ => j_ix (j_var 3) (j_call h__law_draw hr (ja_cons (j_var 0) (ja_cons (j_bltB cb_len T.z_len PySem.boot_len (ja_cons (j_var 3) (ja_nil))) (ja_nil))))) (by decide)) (ja_nil))))))
theorem o__law_signs (T : Top K mg) (h__law_draw : Fn P w K mg base 2 "_law_draw" ["bag", "many"] f__law_draw)   : Fn P w K mg base 3 "_law_signs" ["bag", "many"] f__law_signs := Fn.of T.d__law_signs sc__law_signs (fun _ _ _ _ _ _ us hl => match us, hl with | [_, _], _ => rfl) (y__law_signs T h__law_draw  )
abbrev s__law_spoilt : Stmt := topS 16
theorem sc__law_spoilt : FnScope ["bag", "line", "times", "some", "k", "at", "way"] ["bag", "line", "times"] (defScope s__law_spoilt) := ⟨rfl, rfl, rfl, by decide +kernel, rfl, by decide +kernel, by decide +kernel⟩
theorem y__law_spoilt (T : Top K mg) (h__law_draw : Fn P w K mg base 2 "_law_draw" ["bag", "many"] f__law_draw)   : Body P w K mg base 2 ["bag", "line", "times", "some", "k", "at", "way"] "_law_spoilt" s__law_spoilt b__law_spoilt := fun f cdv A outer s H E hr =>
  have sc := sc__law_spoilt
  jb_cons (js_set (jg_name 3 sc.nd) (j_str lit41428f)) (jb_cons (js_for PassesOwn.never rfl (ji_rng1 (j_var 2) T.z_range) (jg_name 4 sc.nd) (jb_cons (js_set (jg_name 5 sc.nd) (j_call h__law_draw hr (ja_cons (j_var 0) (ja_cons (j_op od_add (j_bltB cb_len T.z_len PySem.boot_len (ja_cons (j_var 1) (ja_nil))) (j_int)) (ja_nil))))) (jb_cons (js_set (jg_name 6 sc.nd) (j_call h__law_draw hr (ja_cons (j_var 0) (ja_cons (j_int) (ja_nil))))) (jb_one (js_set (jg_name 1 sc.nd) (j_op od_add (j_op od_add (j_sl (j_var 1) (jp_no) (jp_so (j_var 5))) (j_ix (j_lst (ja_cons (j_str []) (ja_cons (j_ix (j_var 3) (j_call h__law_draw hr (ja_cons (j_var 0) (ja_cons (j_bltB cb_len T.z_len PySem.boot_len (ja_cons (j_var 3) (ja_nil))) (ja_nil))))) (ja_nil))) (few_of (few_cons (few_cons (few_nil))))) (j_bltT cb_int T.z_int (by decide +kernel) (ja_cons (j_cmp od_gt (j_var 6) (j_int)) (ja_nil))))) (j_sl (j_var 1) (jp_so (j_op od_add (j_var 5) (j_bltT cb_int T.z_int (by decide +kernel) (ja_cons (j_cmp od_lt (j_var 6) (j_int)) (ja_nil))))) (jp_no)))))))) (jb_one (js_ret (j_var 1))))
theorem o__law_spoilt (T : Top K mg) (h__law_draw : Fn P w K mg base 2 "_law_draw" ["bag", "many"] f__law_draw)   : Fn P w K mg base 3 "_law_spoilt" ["bag", "line", "times"] f__law_spoilt := Fn.of T.d__law_spoilt sc__law_spoilt (fun _ _ _ _ _ _ us hl => match us, hl with | [_, _, _], _ => rfl) (y__law_spoilt T h__law_draw  )
abbrev s__law_is_word : Stmt := topS 17
theorem sc__law_is_word : FnScope ["word", "sign"] ["word"] (defScope s__law_is_word) := ⟨rfl, rfl, rfl, by decide +kernel, rfl, by decide +kernel, by decide +kernel⟩
theorem y__law_is_word (T : Top K mg)    : Body P w K mg base 0 ["word", "sign"] "_law_is_word" s__law_is_word b__law_is_word := fun f cdv A outer s H E hr =>
  have sc := sc__law_is_word
  jb_cons (js_if (jt_w (jw_or (jt_not (jt_chain od_le od_le (j_int) (j_bltB cb_len T.z_len PySem.boot_len (ja_cons (j_var 0) (ja_nil))) (j_int))) (jw_or1 (jt_cmp (od_eq hr.units) (j_ix (j_var 0) (j_int)) (j_str [45]))))) (jb_one (js_ret (j_bl))) (jb_nil)) (jb_one (js_ret (j_cmp (od_eq hr.units) (j_comp [("sign", 1)] rfl sc.nd (ji_e (j_var 0)) (blkOk_by (N := ["word", "sign"]) (sc := defScope s__law_is_word) (by decide +kernel)) (fun _ _ _ _ _ => jg_name 1 sc.nd) (fun _ _ _ _ _ => jc_one (jt_cmp od_notIn (j_var 1) (j_str lit6e3145))) (fun _ _ _ _ _ => j_var 1) (by decide)) (j_lst (ja_nil) (few_of few_nil)))))
theorem o__law_is_word (T : Top K mg)    : Fn P w K mg base 1 "_law_is_word" ["word"] f__law_is_word := Fn.of T.d__law_is_word sc__law_is_word (fun _ _ _ _ _ _ us hl => match us, hl with | [_], _ => rfl) (y__law_is_word T   )
abbrev s__law_sign : Stmt := topS 18
theorem sc__law_sign : FnScope ["line", "at", "code", "sign"] ["line", "at"] (defScope s__law_sign) := ⟨rfl, rfl, rfl, by decide +kernel, rfl, by decide +kernel, by decide +kernel⟩
theorem y__law_sign (T : Top K mg)    : Body P w K mg base 0 ["line", "at", "code", "sign"] "_law_sign" s__law_sign b__law_sign := fun f cdv A outer s H E hr =>
  have sc := sc__law_sign
  jb_cons (js_for PassesOwn.never rfl (ji_e (j_lst (ja_cons (j_tup (ja_cons (j_str [38, 108, 116, 59]) (ja_cons (j_str [60]) (ja_nil))) (few_of (few_cons (few_cons (few_nil))))) (ja_cons (j_tup (ja_cons (j_str [38, 103, 116, 59]) (ja_cons (j_str [62]) (ja_nil))) (few_of (few_cons (few_cons (few_nil))))) (ja_cons (j_tup (ja_cons (j_str [38, 97, 109, 112, 59]) (ja_cons (j_str [38]) (ja_nil))) (few_of (few_cons (few_cons (few_nil))))) (ja_cons (j_tup (ja_cons (j_str [38, 113, 117, 111, 116, 59]) (ja_cons (j_str [34]) (ja_nil))) (few_of (few_cons (few_cons (few_nil))))) (ja_nil))))) (few_of (few_cons (few_cons (few_cons (few_cons (few_nil)))))))) (jg_tup rfl (jgs_cons (jg_name 2 sc.nd) (jgs_cons (jg_name 3 sc.nd) (jgs_nil)))) (jb_one (js_if (jt_cmp (od_eq hr.units) (j_sl (j_var 0) (jp_so (j_var 1)) (jp_so (j_op od_add (j_var 1) (j_bltB cb_len T.z_len PySem.boot_len (ja_cons (j_var 2) (ja_nil)))))) (j_var 2)) (jb_one (js_ret (j_tup (ja_cons (j_var 3) (ja_cons (j_op od_add (j_var 1) (j_bltB cb_len T.z_len PySem.boot_len (ja_cons (j_var 2) (ja_nil)))) (ja_nil))) (few_of (few_cons (few_cons (few_nil))))))) (jb_nil)))) (jb_one (js_ret (j_tup (ja_cons (j_ix (j_var 0) (j_var 1)) (ja_cons (j_op od_add (j_var 1) (j_int)) (ja_nil))) (few_of (few_cons (few_cons (few_nil)))))))
theorem o__law_sign (T : Top K mg)    : Fn P w K mg base 1 "_law_sign" ["line", "at"] f__law_sign := Fn.of T.d__law_sign sc__law_sign (fun _ _ _ _ _ _ us hl => match us, hl with | [_, _], _ => rfl) (y__law_sign T   )
abbrev s__law_plain : Stmt := topS 19
theorem sc__law_plain : FnScope ["line", "found", "at", "sign"] ["line"] (defScope s__law_plain) := ⟨rfl, rfl, rfl, by decide +kernel, rfl, by decide +kernel, by decide +kernel⟩
theorem y__law_plain (T : Top K mg) (h__law_sign : Fn P w K mg base 1 "_law_sign" ["line", "at"] f__law_sign)   : Body P w K mg base 1 ["line", "found", "at", "sign"] "_law_plain" s__law_plain b__law_plain := fun f cdv A outer s H E hr =>
  have sc := sc__law_plain
  jb_cons (js_set (jg_name 1 sc.nd) (j_str [])) (jb_cons (js_set (jg_name 2 sc.nd) (j_int)) (jb_cons (js_while fuel PassesOwn.never (jt_cmp od_lt (j_var 2) (j_bltB cb_len T.z_len PySem.boot_len (ja_cons (j_var 0) (ja_nil)))) (jb_cons (js_set (jg_tup rfl (jgs_cons (jg_name 3 sc.nd) (jgs_cons (jg_name 2 sc.nd) (jgs_nil)))) (j_call h__law_sign hr (ja_cons (j_var 0) (ja_cons (j_var 2) (ja_nil))))) (jb_one (js_set (jg_name 1 sc.nd) (j_op od_add (j_var 1) (j_var 3)))))) (jb_one (js_ret (j_var 1)))))
theorem o__law_plain (T : Top K mg) (h__law_sign : Fn P w K mg base 1 "_law_sign" ["line", "at"] f__law_sign)   : Fn P w K mg base 2 "_law_plain" ["line"] f__law_plain := Fn.of T.d__law_plain sc__law_plain (fun _ _ _ _ _ _ us hl => match us, hl with | [_], _ => rfl) (y__law_plain T h__law_sign  )
abbrev s__law_drawn_word : Stmt := topS 20
theorem sc__law_drawn_word : FnScope ["bag", "letters", "way", "word", "many", "at", "k"] ["bag"] (defScope s__law_drawn_word) := ⟨rfl, rfl, rfl, by decide +kernel, rfl, by decide +kernel, by decide +kernel⟩
theorem y__law_drawn_word (T : Top K mg) (h__law_draw : Fn P w K mg base 2 "_law_draw" ["bag", "many"] f__law_draw) (h__law_signs : Fn P w K mg base 3 "_law_signs" ["bag", "many"] f__law_signs) (h__law_spoilt : Fn P w K mg base 3 "_law_spoilt" ["bag", "line", "times"] f__law_spoilt) (h__law_word : Fn P w K mg base 4 "_law_word" ["bag"] f__law_word)   : Body P w K mg base 4 ["bag", "letters", "way", "word", "many", "at", "k"] "_law_drawn_word" s__law_drawn_word b__law_drawn_word := fun f cdv A outer s H E hr =>
  have sc := sc__law_drawn_word
  jb_cons (js_set (jg_name 1 sc.nd) (j_str lit6e3145)) (jb_cons (js_set (jg_name 2 sc.nd) (j_call h__law_draw (hr.mono (by decide)) (ja_cons (j_var 0) (ja_cons (j_int) (ja_nil))))) (jb_cons (js_set (jg_name 3 sc.nd) (j_call h__law_word hr (ja_cons (j_var 0) (ja_nil)))) (jb_cons (js_if (jt_cmp (od_eq hr.units) (j_var 2) (j_int)) (jb_cons (js_set (jg_name 4 sc.nd) (j_ix (j_lst (ja_cons (j_call h__law_draw (hr.mono (by decide)) (ja_cons (j_var 0) (ja_cons (j_int) (ja_nil)))) (ja_cons (j_int) (ja_cons (j_int) (ja_cons (j_int) (ja_nil))))) (few_of (few_cons (few_cons (few_cons (few_cons (few_nil))))))) (j_call h__law_draw (hr.mono (by decide)) (ja_cons (j_var 0) (ja_cons (j_int) (ja_nil)))))) (jb_one (js_set (jg_name 3 sc.nd) (j_mS PySem.F.plainAttrs_str PySem.F.slot_str_join PySem.F.type_str_join ms_join (j_str []) (ja_cons (j_comp [("k", 6)] rfl sc.nd (ji_rng1 (j_var 4) T.z_range) (blkOk_by (N := ["bag", "letters", "way", "word", "many", "at", "k"]) (sc := defScope s__law_drawn_word) (by decide +kernel)) (fun _ _ _ _ _ => jg_name 6 sc.nd) (fun _ _ _ _ _ => jc_nil) (fun _ _ _ _ _ => j_ix (j_var 1) (j_call h__law_draw (hr.mono (by decide)) (ja_cons (j_var 0) (ja_cons (j_int) (ja_nil))))) (by decide)) (ja_nil)))))) (jb_nil)) (jb_cons (js_if (jt_cmp (od_eq hr.units) (j_var 2) (j_int)) (jb_one (js_set (jg_name 3 sc.nd) (j_call h__law_spoilt (hr.mono (by decide)) (ja_cons (j_var 0) (ja_cons (j_var 3) (ja_cons (j_int) (ja_nil))))))) (jb_nil)) (jb_cons (js_if (jt_cmp (od_eq hr.units) (j_var 2) (j_int)) (jb_cons (js_set (jg_name 5 sc.nd) (j_call h__law_draw (hr.mono (by decide)) (ja_cons (j_var 0) (ja_cons (j_op od_add (j_bltB cb_len T.z_len PySem.boot_len (ja_cons (j_var 3) (ja_nil))) (j_int)) (ja_nil))))) (jb_one (js_set (jg_name 3 sc.nd) (j_op od_add (j_op od_add (j_sl (j_var 3) (jp_no) (jp_so (j_var 5))) (j_call h__law_signs (hr.mono (by decide)) (ja_cons (j_var 0) (ja_cons (j_int) (ja_nil))))) (j_sl (j_var 3) (jp_so (j_var 5)) (jp_no)))))) (jb_nil)) (jb_one (js_ret (j_var 3))))))))
theorem o__law_drawn_word (T : Top K mg) (h__law_draw : Fn P w K mg base 2 "_law_draw" ["bag", "many"] f__law_draw) (h__law_signs : Fn P w K mg base 3 "_law_signs" ["bag", "many"] f__law_signs) (h__law_spoilt : Fn P w K mg base 3 "_law_spoilt" ["bag", "line", "times"] f__law_spoilt) (h__law_word : Fn P w K mg base 4 "_law_word" ["bag"] f__law_word)   : Fn P w K mg base 5 "_law_drawn_word" ["bag"] f__law_drawn_word := Fn.of T.d__law_drawn_word sc__law_drawn_word (fun _ _ _ _ _ _ us hl => match us, hl with | [_], _ => rfl) (y__law_drawn_word T h__law_draw h__law_signs h__law_spoilt h__law_word  )
abbrev s__law_drawn_text : Stmt := topS 21
theorem sc__law_drawn_text : FnScope ["bag", "line", "k", "some"] ["bag"] (defScope s__law_drawn_text) := ⟨rfl, rfl, rfl, by decide +kernel, rfl, by decide +kernel, by decide +kernel⟩
theorem y__law_drawn_text (T : Top K mg) (h__law_draw : Fn P w K mg base 2 "_law_draw" ["bag", "many"] f__law_draw) (h__law_signs : Fn P w K mg base 3 "_law_signs" ["bag", "many"] f__law_signs)   : Body P w K mg base 3 ["bag", "line", "k", "some"] "_law_drawn_text" s__law_drawn_text b__law_drawn_text := fun f cdv A outer s H E hr =>
  have sc := sc__law_drawn_text
  jb_cons (js_set (jg_name 1 sc.nd) (j_str [])) (jb_cons (js_for PassesOwn.never rfl (ji_rng1 (j_ix (j_lst (ja_cons (j_call h__law_draw (hr.mono (by decide)) (ja_cons (j_var 0) (ja_cons (j_int) (ja_nil)))) (ja_cons (j_call h__law_draw (hr.mono (by decide)) (ja_cons (j_var 0) (ja_cons (j_int) (ja_nil)))) (ja_cons (j_int) (ja_nil)))) (few_of (few_cons (few_cons (few_cons (few_nil)))))) (j_op od_div (j_call h__law_draw (hr.mono (by decide)) (ja_cons (j_var 0) (ja_cons (j_int) (ja_nil)))) (j_int))) T.z_range) (jg_name 2 sc.nd) (jb_cons (js_set (jg_name 3 sc.nd) (j_lst (ja_cons (j_str [38, 108, 116, 59]) (ja_cons (j_str [38, 103, 116, 59]) (ja_cons (j_str [38, 97, 109, 112, 59]) (ja_cons (j_str [38, 113, 117, 111, 116, 59]) (ja_cons (j_str [38, 108, 116]) (ja_cons (j_str [97, 109, 112, 59]) (ja_cons (j_str lita2c655) (ja_cons (j_str [38]) (ja_cons (j_str [38, 76, 84, 59]) (ja_cons (j_str [38, 110, 98, 115, 112, 59]) (ja_cons (j_str [38, 35, 54, 48, 59]) (ja_nil)))))))))))) (few_of (few_cons (few_cons (few_cons (few_cons (few_cons (few_cons (few_cons (few_cons (few_cons (few_cons (few_cons (few_nil))))))))))))))) (jb_one (js_set (jg_name 1 sc.nd) (j_op od_add (j_var 1) (j_ix (j_lst (ja_cons (j_call h__law_signs hr (ja_cons (j_var 0) (ja_cons (j_call h__law_draw (hr.mono (by decide)) (ja_cons (j_var 0) (ja_cons (j_int) (ja_nil)))) (ja_nil)))) (ja_cons (j_ix (j_var 3) (j_call h__law_draw (hr.mono (by decide)) (ja_cons (j_var 0) (ja_cons (j_int) (ja_nil))))) (ja_nil))) (few_of (few_cons (few_cons (few_nil))))) (j_call h__law_draw (hr.mono (by decide)) (ja_cons (j_var 0) (ja_cons (j_int) (ja_nil)))))))))) (jb_one (js_ret (j_op od_add (j_var 1) (j_op od_mul (j_str [97, 98, 32, 99]) (j_ix (j_lst (ja_cons (j_int) (ja_cons (j_int) (ja_cons (j_int) (ja_cons (j_int) (ja_nil))))) (few_of (few_cons (few_cons (few_cons (few_cons (few_nil))))))) (j_call h__law_draw (hr.mono (by decide)) (ja_cons (j_var 0) (ja_cons (j_int) (ja_nil))))))))))
theorem o__law_drawn_text (T : Top K mg) (h__law_draw : Fn P w K mg base 2 "_law_draw" ["bag", "many"] f__law_draw) (h__law_signs : Fn P w K mg base 3 "_law_signs" ["bag", "many"] f__law_signs)   : Fn P w K mg base 4 "_law_drawn_text" ["bag"] f__law_drawn_text := Fn.of T.d__law_drawn_text sc__law_drawn_text (fun _ _ _ _ _ _ us hl => match us, hl with | [_], _ => rfl) (y__law_drawn_text T h__law_draw h__law_signs  )
abbrev s__law_signs_right : Stmt := topS 22
theorem sc__law_signs_right : FnScope ["line", "codes", "due", "again", "sign"] ["line"] (defScope s__law_signs_right) := ⟨rfl, rfl, rfl, by decide +kernel, rfl, by decide +kernel, by decide +kernel⟩
theorem y__law_signs_right (T : Top K mg) (h__law_plain : Fn P w K mg base 2 "_law_plain" ["line"] f__law_plain) (h_plain_signs : Fn P w K mg base 1 "plain_signs" ["text"] f_plain_signs) (h_written_sign : Fn P w K mg base 1 "written_sign" ["text"] f_written_sign) (q_plain_signs : FnK P w K mg base 1 "plain_signs" ["text"] f_plain_signs) (q_written_sign : FnK P w K mg base 1 "written_sign" ["text"] f_written_sign)  : Body P w K mg base 2 ["line", "codes", "due", "again", "sign"] "_law_signs_right" s__law_signs_right b__law_signs_right := fun f cdv A outer s H E hr =>
  have sc := sc__law_signs_right
  jb_cons (js_set (jg_name 1 sc.nd) (j_dict (jd_cons (j_str [60]) (j_str [38, 108, 116, 59]) (jd_cons (j_str [38]) (j_str [38, 97, 109, 112, 59]) (jd_nil))))) (jb_cons (js_set (jg_name 2 sc.nd) (j_mS PySem.F.plainAttrs_str PySem.F.slot_str_join PySem.F.type_str_join ms_join (j_str []) (ja_cons (j_comp [("sign", 4)] rfl sc.nd (ji_e (j_var 0)) (blkOk_by (N := ["line", "codes", "due", "again", "sign"]) (sc := defScope s__law_signs_right) (by decide +kernel)) (fun _ _ _ _ _ => jg_name 4 sc.nd) (fun _ _ _ _ _ => jc_nil) (fun _ _ _ _ _ => j_get2 (hu_of hr) (j_var 1) (j_var 4) (j_var 4)) (by decide)) (ja_nil)))) (jb_cons (js_for PassesOwn.never rfl (ji_rng1 (j_int) T.z_range) (jg_name 3 sc.nd) (jb_cons (js_if (jt_w (jw_or (jt_cmp (od_ne hr.units) (j_call h_written_sign (hr.mono (by decide)) (ja_cons (j_var 0) (ja_nil))) (j_var 2)) (jw_or (jt_cmp (od_ne hr.units) (j_callK q_written_sign (hr.mono (by decide)) (jk_cons (j_var 0) (jk_nil))) (j_var 2)) (jw_or1 (jt_cmp (od_ne hr.units) (j_call h_plain_signs (hr.mono (by decide)) (ja_cons (j_var 2) (ja_nil))) (j_var 0)))))) (jb_one (js_ret (j_bl))) (jb_nil)) (jb_one (js_if (jt_w (jw_or (jt_cmp (od_ne hr.units) (j_call h_plain_signs (hr.mono (by decide)) (ja_cons (j_var 0) (ja_nil))) (j_call h__law_plain hr (ja_cons (j_var 0) (ja_nil)))) (jw_or1 (jt_cmp (od_ne hr.units) (j_callK q_plain_signs (hr.mono (by decide)) (jk_cons (j_var 0) (jk_nil))) (j_call h__law_plain hr (ja_cons (j_var 0) (ja_nil))))))) (jb_one (js_ret (j_bl))) (jb_nil))))) (jb_one (js_ret (j_and (j_bltB cb_isi T.z_isinstance (by decide +kernel) (ja_cons (j_call h_written_sign (hr.mono (by decide)) (ja_cons (j_var 0) (ja_nil))) (ja_cons (j_ty T.z_str (by decide +kernel)) (ja_nil)))) (j_one (j_bltB cb_isi T.z_isinstance (by decide +kernel) (ja_cons (j_call h_plain_signs (hr.mono (by decide)) (ja_cons (j_var 0) (ja_nil))) (ja_cons (j_ty T.z_str (by decide +kernel)) (ja_nil))))))))))
theorem o__law_signs_right (T : Top K mg) (h__law_plain : Fn P w K mg base 2 "_law_plain" ["line"] f__law_plain) (h_plain_signs : Fn P w K mg base 1 "plain_signs" ["text"] f_plain_signs) (h_written_sign : Fn P w K mg base 1 "written_sign" ["text"] f_written_sign) (q_plain_signs : FnK P w K mg base 1 "plain_signs" ["text"] f_plain_signs) (q_written_sign : FnK P w K mg base 1 "written_sign" ["text"] f_written_sign)  : Fn P w K mg base 3 "_law_signs_right" ["line"] f__law_signs_right := Fn.of T.d__law_signs_right sc__law_signs_right (fun _ _ _ _ _ _ us hl => match us, hl with | [_], _ => rfl) (y__law_signs_right T h__law_plain h_plain_signs h_written_sign q_plain_signs q_written_sign )
abbrev s_law : Stmt := topS 23
theorem sc_law : FnScope ["script", "bag", "ahead", "turn", "word", "again", "line", "found"] ["script"] (defScope s_law) := ⟨rfl, rfl, rfl, by decide +kernel, rfl, by decide +kernel, by decide +kernel⟩
theorem y_law (T : Top K mg) (h__law_bag : Fn P w K mg base 1 "_law_bag" ["script"] f__law_bag) (h__law_drawn_text : Fn P w K mg base 4 "_law_drawn_text" ["bag"] f__law_drawn_text) (h__law_drawn_word : Fn P w K mg base 5 "_law_drawn_word" ["bag"] f__law_drawn_word) (h__law_is_word : Fn P w K mg base 1 "_law_is_word" ["word"] f__law_is_word) (h__law_signs_right : Fn P w K mg base 3 "_law_signs_right" ["line"] f__law_signs_right) (h_is_word : Fn P w K mg base 3 "is_word" ["text"] f_is_word) (h_plain_signs : Fn P w K mg base 1 "plain_signs" ["text"] f_plain_signs) (h_written_sign : Fn P w K mg base 1 "written_sign" ["text"] f_written_sign) (q_is_word : FnK P w K mg base 3 "is_word" ["text"] f_is_word)  : Body P w K mg base 5 ["script", "bag", "ahead", "turn", "word", "again", "line", "found"] "law" s_law b_law := fun f cdv A outer s H E hr =>
  have sc := sc_law
  jb_cons (js_set (jg_name 1 sc.nd) (j_call h__law_bag (hr.mono (by decide)) (ja_cons (j_var 0) (ja_nil)))) (jb_cons (js_set (jg_name 2 sc.nd) (j_str [])) (jb_cons (js_for PassesOwn.never rfl (ji_rng1 (j_int) T.z_range) (jg_name 3 sc.nd) (jb_cons (js_set (jg_name 4 sc.nd) (j_call h__law_drawn_word hr (ja_cons (j_var 1) (ja_nil)))) (jb_cons (js_for PassesOwn.never rfl (ji_rng1 (j_int) T.z_range) (jg_name 5 sc.nd) (jb_cons (js_set (jg_name 7 sc.nd) (j_call h_is_word (hr.mono (by decide)) (ja_cons (j_var 4) (ja_nil)))) (jb_one (js_if (jt_w (jw_or (jt_not (jt_val (j_bltB cb_isi T.z_isinstance (by decide +kernel) (ja_cons (j_var 7) (ja_cons (j_ty T.z_bool (by decide +kernel)) (ja_nil)))))) (jw_or (jt_cmp (od_ne hr.units) (j_var 7) (j_call h__law_is_word (hr.mono (by decide)) (ja_cons (j_var 4) (ja_nil)))) (jw_or1 (jt_cmp (od_ne hr.units) (j_callK q_is_word (hr.mono (by decide)) (jk_cons (j_var 4) (jk_nil))) (j_var 7)))))) (jb_one (js_ret (j_bl))) (jb_nil))))) (jb_cons (js_set (jg_name 6 sc.nd) (j_call h__law_drawn_text (hr.mono (by decide)) (ja_cons (j_var 1) (ja_nil)))) (jb_cons (js_if (jt_w (jw_or (jt_not (jt_val (j_call h__law_signs_right (hr.mono (by decide)) (ja_cons (j_var 6) (ja_nil))))) (jw_or1 (jt_not (jt_val (j_call h__law_signs_right (hr.mono (by decide)) (ja_cons (j_var 4) (ja_nil)))))))) (jb_one (js_ret (j_bl))) (jb_nil)) (jb_cons (js_if (jt_cmp (od_ne hr.units) (j_call h_plain_signs (hr.mono (by decide)) (ja_cons (j_op od_add (j_call h_written_sign (hr.mono (by decide)) (ja_cons (j_var 2) (ja_nil))) (j_sl (j_var 6) (jp_no) (jp_so (j_int)))) (ja_nil))) (j_op od_add (j_var 2) (j_call h_plain_signs (hr.mono (by decide)) (ja_cons (j_sl (j_var 6) (jp_no) (jp_so (j_int))) (ja_nil))))) (jb_one (js_ret (j_bl))) (jb_nil)) (jb_one (js_set (jg_name 2 sc.nd) (j_var 6))))))))) (jb_one (js_ret (j_bl)))))
theorem o_law (T : Top K mg) (h__law_bag : Fn P w K mg base 1 "_law_bag" ["script"] f__law_bag) (h__law_drawn_text : Fn P w K mg base 4 "_law_drawn_text" ["bag"] f__law_drawn_text) (h__law_drawn_word : Fn P w K mg base 5 "_law_drawn_word" ["bag"] f__law_drawn_word) (h__law_is_word : Fn P w K mg base 1 "_law_is_word" ["word"] f__law_is_word) (h__law_signs_right : Fn P w K mg base 3 "_law_signs_right" ["line"] f__law_signs_right) (h_is_word : Fn P w K mg base 3 "is_word" ["text"] f_is_word) (h_plain_signs : Fn P w K mg base 1 "plain_signs" ["text"] f_plain_signs) (h_written_sign : Fn P w K mg base 1 "written_sign" ["text"] f_written_sign) (q_is_word : FnK P w K mg base 3 "is_word" ["text"] f_is_word)  : Fn P w K mg base 6 "law" ["script"] f_law := Fn.of T.d_law sc_law (fun _ _ _ _ _ _ us hl => match us, hl with | [_], _ => rfl) (y_law T h__law_bag h__law_drawn_text h__law_drawn_word h__law_is_word h__law_signs_right h_is_word h_plain_signs h_written_sign q_is_word )
end
end Law
end
section
set_option maxHeartbeats 4000000
open PySem PySem.Spec PyProof.Rows L2 VI
namespace Law
theorem rep_S (s : List Nat) (y z : Str) (hy : 1 ≤ y.length) : Txt.replace (VI.S s) y z = VI.S (StrLaws.replL y.cps.toList z.cps.toList s) := by
  have e := StrLaws.replace_list (x := VI.S s) (z := z) hy
  rw [S_tl] at e
  rw [← e, S_mk]
theorem wr_txt (s : List Nat) : Txt.replace (Txt.replace (VI.S s) "&" "&amp;") "<" "&lt;" = VI.S (wrS s) := by
  rw [rep_S _ _ _ (by decide +kernel), rep_S _ _ _ (by decide +kernel)]
  rfl
def pairs4 : List (Str × Str) := [("&lt;", "<"), ("&gt;", ">"), ("&quot;", "\""), ("&amp;", "&")]
theorem pl_txt (s : List Nat) : reps (VI.S s) pairs4 = VI.S (plS s) := by
  unfold pairs4 reps reps reps reps reps
  rw [rep_S _ _ _ (by decide +kernel), rep_S _ _ _ (by decide +kernel), rep_S _ _ _ (by decide +kernel), rep_S _ _ _ (by decide +kernel)]
  rfl
section
variable {P : Program} {w : World} {K : PySem.W.Frag} {mg : Str → Option Value}
abbrev s_written_sign : Stmt := topS 7
theorem sc_written_sign : FnScope ["text"] ["text"] (defScope s_written_sign) := ⟨rfl, rfl, rfl, by decide +kernel, rfl, by decide +kernel, by decide +kernel⟩
abbrev s_plain_signs : Stmt := topS 8
theorem sc_plain_signs : FnScope ["text", "written", "sign"] ["text"] (defScope s_plain_signs) := ⟨rfl, rfl, rfl, by decide +kernel, rfl, by decide +kernel, by decide +kernel⟩
theorem spec_len {g : FD} (hg : ∀ ds m d m', g ds m = some (d, m') → ds.length = 1) : ∀ vs H Q E, spD K g vs H Q E → vs.length = (["text"] : List Str).length := fun vs H Q E h => by
  obtain ⟨F0, φ, m, ds, d, m', rp, rv, h, _⟩ := h
  rw [← rv.len]
  exact hg _ _ _ _ h
theorem len_written : ∀ ds m d m', f_written_sign ds m = some (d, m') → ds.length = 1 := fun ds m d m' h => by
  unfold f_written_sign at h
  split at h
  · rfl
  · cases h
theorem len_plain : ∀ ds m d m', f_plain_signs ds m = some (d, m') → ds.length = 1 := fun ds m d m' h => by
  unfold f_plain_signs at h
  split at h
  · rfl
  · cases h
theorem fn_written {base : Heap} {f : Addr} {fd : FuncData} (F : Fun K "written_sign" "written_sign" s_written_sign f fd) : FnOk P w K mg base CX0 1 f fd ["text"] (spD K f_written_sign) := by
  obtain ⟨oc, od, kV, doc, pm, an, cdv, ct, osl, rfl, lk, hcd⟩ := F.ex
  refine fn_ofT lk hcd sc_written_sign (by decide +kernel) (by decide) (spec_len len_written) fun A outer s H vs Q E hr h => ?_
  obtain ⟨F0, φ, m, ds, d, m', rp, rv, hg, q⟩ := h
  unfold f_written_sign at hg
  split at hg
  · rename_i l
    split at hg
    · rename_i hl
      cases hg
      cases rv with
      | cons r0 rt =>
        cases rt
        cases r0
        refine ⟨_, CwR.psst_one (CwR.pst_ret (CwR.pet_replT (CwR.pet_replC (pv 0)))), ?_⟩
        have h1 := TK.replace_len (VI.S l) "&" "&amp;"
        have hs : (VI.S l).length = l.length := S_len l
        have z5 : Str.length "&amp;" = 5 := by decide +kernel
        have z4 : Str.length "&lt;" = 4 := by decide +kernel
        rw [z5, hs] at h1
        refine ⟨_, rfl, _, rfl, by rw [z5, hs]; omega, _, rfl, by rw [z4]; omega, ?_⟩
        rw [wr_txt]
        exact q _ _ _ _ (Nxt.refl rp) (.str _)
    · cases hg
  · cases hg
theorem fn_plain (T : Top K mg) {base : Heap} {f : Addr} {fd : FuncData} (F : Fun K "plain_signs" "plain_signs" s_plain_signs f fd) : FnOk P w K mg base CX0 1 f fd ["text"] (spD K f_plain_signs) := by
  obtain ⟨a, as, n, dd, sl, hm, hl, hlen, hps, hpr⟩ := T.r_WRITTEN_SIGNS.ex
  refine F.ok sc_plain_signs (spec_len len_plain) fun cdv A outer s H vs Q E hr h => ?_
  obtain ⟨F0, φ, m, ds, d, m', rp, rv, hg, q⟩ := h
  unfold f_plain_signs at hg
  split at hg
  · rename_i l
    split at hg
    · rename_i hl2
      cases hg
      cases rv with
      | cons r0 rt =>
        cases rt
        cases r0
        have hs : (VI.S l).length = l.length := S_len l
        refine ⟨_, pss_cons (ps_reps (ps := pairs4) PassesOwn.never rfl rfl sc_plain_signs.nd rfl rfl rfl (by decide) (by decide) (by decide) (by decide) (by decide) rfl rfl rfl rfl rfl (fun _ => rfl) rfl hm hl hlen hps hpr) (pss_one (ps_ret (pv 0))), ?_⟩
        refine ⟨_, rfl, by rw [hs]; omega, fun σ' g => ⟨_, g, ?_⟩⟩
        rw [pl_txt]
        exact q _ _ _ _ (Nxt.refl rp) (.str _)
    · cases hg
  · cases hg
theorem x_written_sign (T : Top K mg) (base : Heap) : K.In base → base.Ns mainGlobals mg → Fn P w K mg base 1 "written_sign" ["text"] f_written_sign := fun _ _ => by
  obtain ⟨f, fd, F, gm⟩ := T.d_written_sign
  exact ⟨f, fd, fn_written F, gm, F.kp, F.binds fun _ _ _ _ _ _ us hl => match us, hl with | [_], _ => rfl⟩
theorem xq_written_sign (T : Top K mg) (base : Heap) : K.In base → base.Ns mainGlobals mg → FnK P w K mg base 1 "written_sign" ["text"] f_written_sign := fun _ _ => by
  obtain ⟨f, fd, F, gm⟩ := T.d_written_sign
  refine ⟨f, fd, fn_written F, gm, F.kp, ?_⟩
  obtain ⟨oc, od, kV, doc, pm, an, cdv, ct, osl, rfl, lk, hcd⟩ := F.ex
  exact fun us hl => match us, hl with | [_], _ => rfl
theorem x_plain_signs (T : Top K mg) (base : Heap) : K.In base → base.Ns mainGlobals mg → Fn P w K mg base 1 "plain_signs" ["text"] f_plain_signs := fun _ _ => by
  obtain ⟨f, fd, F, gm⟩ := T.d_plain_signs
  exact ⟨f, fd, fn_plain T F, gm, F.kp, F.binds fun _ _ _ _ _ _ us hl => match us, hl with | [_], _ => rfl⟩
theorem xq_plain_signs (T : Top K mg) (base : Heap) : K.In base → base.Ns mainGlobals mg → FnK P w K mg base 1 "plain_signs" ["text"] f_plain_signs := fun _ _ => by
  obtain ⟨f, fd, F, gm⟩ := T.d_plain_signs
  refine ⟨f, fd, fn_plain T F, gm, F.kp, ?_⟩
  obtain ⟨oc, od, kV, doc, pm, an, cdv, ct, osl, rfl, lk, hcd⟩ := F.ex
  exact fun us hl => match us, hl with | [_], _ => rfl
end
end Law
end
local macro_rules | `(tactic| walk_at "vi.s0") => `(tactic| (first | with_reducible refine VI.w_seq ?_ | with_reducible refine VI.w_set ?_ | with_reducible refine VI.w_ret ?_ | with_reducible refine VI.w_bif ?_ | with_reducible refine VI.w_drop ?_ | with_reducible refine VI.w_op ?_ | with_reducible refine VI.w_un ?_ | with_reducible refine VI.w_blt ?_ | with_reducible refine VI.w_not ?_ | with_reducible refine VI.w_and ?_ | with_reducible refine VI.w_or ?_ | with_reducible refine VI.w_if ?_ | with_reducible refine VI.w_chain ?_ | with_reducible refine VI.w_anil ?_ | with_reducible refine VI.w_acons ?_ | with_reducible refine VI.w_tup ?_ | with_reducible refine VI.w_lst ?_ | with_reducible refine VI.w_cel ?_ | with_reducible refine VI.w_tv ?_ | with_reducible refine VI.w_tnot ?_ | with_reducible refine VI.w_tand ?_ | with_reducible refine VI.w_tor ?_ | with_reducible refine VI.w_bits ?_ | with_reducible refine VI.w_mS ?_ | with_reducible refine VI.w_pno ?_ | with_reducible refine VI.w_pso ?_ | with_reducible refine VI.w_sl ?_ | with_reducible refine VI.w_bnil ?_ | with_reducible refine VI.w_bk ?_ | with_reducible refine VI.w_ct ?_ | with_reducible refine VI.w_retN ?_ | with_reducible refine VI.w_gnil ?_ | with_reducible refine VI.w_gcons ?_ | with_reducible refine VI.w_gtup rfl ?_ | with_reducible refine VI.w_gix ?_ | with_reducible refine VI.w_yes ?_ | with_reducible refine VI.w_it ?_ | with_reducible refine VI.w_c ?_ | with_reducible refine VI.w_var rfl ?_ | with_reducible refine VI.w_name0 ?_ | with_reducible refine VI.w_name1 ?_ | with_reducible refine VI.w_name2 ?_ | with_reducible refine VI.w_name3 ?_ | with_reducible refine VI.w_name4 ?_ | with_reducible refine VI.w_name5 ?_ | with_reducible refine VI.w_name6 ?_ | with_reducible refine VI.w_name7 ?_ | with_reducible refine VI.w_name8 ?_ | with_reducible refine VI.w_name9 ?_ | with_reducible refine VI.w_name10 ?_ | with_reducible refine VI.w_name11 ?_ | with_reducible refine VI.w_name12 ?_ | with_reducible refine VI.w_name13 ?_ | with_reducible refine VI.w_name14 ?_ | with_reducible refine VI.w_name15 ?_ | with_reducible refine VI.seq_nx ?_ | with_reducible refine VI.seq_rt ?_ | with_reducible refine VI.seq_bk ?_ | with_reducible refine VI.seq_ct ?_ | with_reducible refine VI.turn_nx ?_ | with_reducible refine VI.turn_ct ?_ | with_reducible refine VI.turn_bk ?_ | with_reducible refine VI.turn_rt ?_ | with_reducible refine VI.ret_rt ?_ | with_reducible refine VI.ret_nx ?_ | with_reducible refine VI.blq ?_ | with_reducible refine VI.ifq_t ?_ | with_reducible refine VI.ifq_f ?_ | with_reducible refine VI.ifq_n ?_ | with_reducible refine VI.it_tup' ?_ | with_reducible refine VI.it_lst' ?_ | with_reducible refine VI.it_lsk' ?_ | with_reducible refine VI.it_str' ?_ | with_reducible refine VI.q_add ?_ | with_reducible refine VI.q_iadd ?_ | with_reducible refine VI.q_sub ?_ | with_reducible refine VI.q_neg ?_ | with_reducible refine VI.q_lt ?_ | with_reducible refine VI.q_le ?_ | with_reducible refine VI.q_gt ?_ | with_reducible refine VI.q_ge ?_ | with_reducible refine VI.q_eqI ?_ | with_reducible refine VI.q_eqS ?_ | with_reducible refine VI.q_eqB ?_ | with_reducible refine VI.q_neI ?_ | with_reducible refine VI.q_neS ?_ | with_reducible refine VI.q_neB ?_ | with_reducible refine VI.q_inC ?_ | with_reducible refine VI.q_ninC ?_ | with_reducible refine VI.q_slT ?_ | with_reducible refine VI.q_slL ?_ | with_reducible refine VI.q_slK ?_ | with_reducible refine VI.q_lenT ?_ | with_reducible refine VI.q_lenL ?_ | with_reducible refine VI.q_abs ?_ | with_reducible refine VI.q_intI ?_ | with_reducible refine VI.q_intB ?_ | with_reducible refine VI.q_starts ?_ | with_reducible refine VI.q_isiB ?_ | with_reducible refine VI.q_isiS ?_ | (with_reducible refine ⟨_, rfl, ?_⟩)))
local macro_rules | `(tactic| walk_at "vi.s1") => `(tactic| (first | with_reducible refine VI.w_seq ?_ | with_reducible refine VI.w_set ?_ | with_reducible refine VI.w_ret ?_ | with_reducible refine VI.w_bif ?_ | with_reducible refine VI.w_drop ?_ | with_reducible refine VI.w_op ?_ | with_reducible refine VI.w_un ?_ | with_reducible refine VI.w_blt ?_ | with_reducible refine VI.w_not ?_ | with_reducible refine VI.w_and ?_ | with_reducible refine VI.w_or ?_ | with_reducible refine VI.w_if ?_ | with_reducible refine VI.w_chain ?_ | with_reducible refine VI.w_anil ?_ | with_reducible refine VI.w_acons ?_ | with_reducible refine VI.w_tup ?_ | with_reducible refine VI.w_lst ?_ | with_reducible refine VI.w_cel ?_ | with_reducible refine VI.w_tv ?_ | with_reducible refine VI.w_tnot ?_ | with_reducible refine VI.w_tand ?_ | with_reducible refine VI.w_tor ?_ | with_reducible refine VI.w_bits ?_ | with_reducible refine VI.w_mS ?_ | with_reducible refine VI.w_pno ?_ | with_reducible refine VI.w_pso ?_ | with_reducible refine VI.w_sl ?_ | with_reducible refine VI.w_bnil ?_ | with_reducible refine VI.w_bk ?_ | with_reducible refine VI.w_ct ?_ | with_reducible refine VI.w_retN ?_ | with_reducible refine VI.w_gnil ?_ | with_reducible refine VI.w_gcons ?_ | with_reducible refine VI.w_gtup rfl ?_ | with_reducible refine VI.w_gix ?_ | with_reducible refine VI.w_yes ?_ | with_reducible refine VI.w_dnil ?_ | with_reducible refine VI.w_dcons ?_ | with_reducible refine VI.w_dict ?_ | with_reducible refine VI.w_get2 ?_ | with_reducible refine VI.w_it ?_ | with_reducible refine VI.w_c ?_ | with_reducible refine VI.w_var rfl ?_ | with_reducible refine VI.w_name0 ?_ | with_reducible refine VI.w_name1 ?_ | with_reducible refine VI.w_name2 ?_ | with_reducible refine VI.w_name3 ?_ | with_reducible refine VI.w_name4 ?_ | with_reducible refine VI.w_name5 ?_ | with_reducible refine VI.w_name6 ?_ | with_reducible refine VI.w_name7 ?_ | with_reducible refine VI.w_name8 ?_ | with_reducible refine VI.w_name9 ?_ | with_reducible refine VI.w_name10 ?_ | with_reducible refine VI.w_name11 ?_ | with_reducible refine VI.w_name12 ?_ | with_reducible refine VI.w_name13 ?_ | with_reducible refine VI.w_name14 ?_ | with_reducible refine VI.w_name15 ?_ | with_reducible refine VI.seq_nx ?_ | with_reducible refine VI.nxq_nx ?_ | with_reducible refine VI.nxq_rt ?_ | with_reducible refine VI.seq_rt ?_ | with_reducible refine VI.seq_bk ?_ | with_reducible refine VI.seq_ct ?_ | with_reducible refine VI.turn_nx ?_ | with_reducible refine VI.turn_ct ?_ | with_reducible refine VI.turn_bk ?_ | with_reducible refine VI.turn_rt ?_ | with_reducible refine VI.ret_rt ?_ | with_reducible refine VI.ret_nx ?_ | with_reducible refine VI.blq ?_ | with_reducible refine VI.ifq_t ?_ | with_reducible refine VI.ifq_f ?_ | with_reducible refine VI.ifq_n ?_ | with_reducible refine VI.it_tup' ?_ | with_reducible refine VI.it_lst' ?_ | with_reducible refine VI.it_lsk' ?_ | with_reducible refine VI.it_str' ?_ | with_reducible refine VI.q_add ?_ | with_reducible refine VI.q_iadd ?_ | with_reducible refine VI.q_sub ?_ | with_reducible refine VI.q_neg ?_ | with_reducible refine VI.q_lt ?_ | with_reducible refine VI.q_le ?_ | with_reducible refine VI.q_gt ?_ | with_reducible refine VI.q_ge ?_ | with_reducible refine VI.q_eqI ?_ | with_reducible refine VI.q_eqS ?_ | with_reducible refine VI.q_eqB ?_ | with_reducible refine VI.q_neI ?_ | with_reducible refine VI.q_neS ?_ | with_reducible refine VI.q_neB ?_ | with_reducible refine VI.q_inC ?_ | with_reducible refine VI.q_ninC ?_ | with_reducible refine VI.q_slT ?_ | with_reducible refine VI.q_slL ?_ | with_reducible refine VI.q_slK ?_ | with_reducible refine VI.q_lenT ?_ | with_reducible refine VI.q_lenL ?_ | with_reducible refine VI.q_abs ?_ | with_reducible refine VI.q_intI ?_ | with_reducible refine VI.q_intB ?_ | with_reducible refine VI.q_starts ?_ | with_reducible refine VI.q_isiB ?_ | with_reducible refine VI.q_isiS ?_ | (with_reducible refine ⟨_, rfl, ?_⟩)))
local macro_rules | `(tactic| walk_at "vi.s2") => `(tactic| (first | with_reducible refine VI.w_seq ?_ | with_reducible refine VI.w_set ?_ | with_reducible refine VI.w_ret ?_ | with_reducible refine VI.w_bif ?_ | with_reducible refine VI.w_drop ?_ | with_reducible refine VI.w_op ?_ | with_reducible refine VI.w_un ?_ | with_reducible refine VI.w_blt ?_ | with_reducible refine VI.w_not ?_ | with_reducible refine VI.w_and ?_ | with_reducible refine VI.w_or ?_ | with_reducible refine VI.w_if ?_ | with_reducible refine VI.w_chain ?_ | with_reducible refine VI.w_anil ?_ | with_reducible refine VI.w_acons ?_ | with_reducible refine VI.w_tup ?_ | with_reducible refine VI.w_lst ?_ | with_reducible refine VI.w_cel ?_ | with_reducible refine VI.w_tv ?_ | with_reducible refine VI.w_tnot ?_ | with_reducible refine VI.w_tand ?_ | with_reducible refine VI.w_tor ?_ | with_reducible refine VI.w_bits ?_ | with_reducible refine VI.w_mS ?_ | with_reducible refine VI.w_pno ?_ | with_reducible refine VI.w_pso ?_ | with_reducible refine VI.w_sl ?_ | with_reducible refine VI.w_bnil ?_ | with_reducible refine VI.w_bk ?_ | with_reducible refine VI.w_ct ?_ | with_reducible refine VI.w_retN ?_ | with_reducible refine VI.w_gnil ?_ | with_reducible refine VI.w_gcons ?_ | with_reducible refine VI.w_gtup rfl ?_ | with_reducible refine VI.w_gix ?_ | with_reducible refine VI.w_yes ?_ | with_reducible refine VI.w_it ?_ | with_reducible refine VI.w_c ?_ | with_reducible refine VI.w_var rfl ?_ | with_reducible refine VI.w_name0 ?_ | with_reducible refine VI.w_name1 ?_ | with_reducible refine VI.w_name2 ?_ | with_reducible refine VI.w_name3 ?_ | with_reducible refine VI.w_name4 ?_ | with_reducible refine VI.w_name5 ?_ | with_reducible refine VI.w_name6 ?_ | with_reducible refine VI.w_name7 ?_ | with_reducible refine VI.w_name8 ?_ | with_reducible refine VI.w_name9 ?_ | with_reducible refine VI.w_name10 ?_ | with_reducible refine VI.w_name11 ?_ | with_reducible refine VI.w_name12 ?_ | with_reducible refine VI.w_name13 ?_ | with_reducible refine VI.w_name14 ?_ | with_reducible refine VI.w_name15 ?_ | with_reducible refine VI.seq_nx ?_ | with_reducible refine VI.nxq_nx ?_ | with_reducible refine VI.nxq_rt ?_ | with_reducible refine VI.seq_rt ?_ | with_reducible refine VI.seq_bk ?_ | with_reducible refine VI.seq_ct ?_ | with_reducible refine VI.turn_nx ?_ | with_reducible refine VI.turn_ct ?_ | with_reducible refine VI.turn_bk ?_ | with_reducible refine VI.turn_rt ?_ | with_reducible refine VI.ret_rt ?_ | with_reducible refine VI.ret_nx ?_ | with_reducible refine VI.blq ?_ | with_reducible refine VI.ifq_t ?_ | with_reducible refine VI.ifq_f ?_ | with_reducible refine VI.ifq_n ?_ | with_reducible refine VI.it_tup' ?_ | with_reducible refine VI.it_lst' ?_ | with_reducible refine VI.it_lsk' ?_ | with_reducible refine VI.it_str' ?_ | with_reducible refine VI.q_add ?_ | with_reducible refine VI.q_iadd ?_ | with_reducible refine VI.q_sub ?_ | with_reducible refine VI.q_neg ?_ | with_reducible refine VI.q_lt ?_ | with_reducible refine VI.q_le ?_ | with_reducible refine VI.q_gt ?_ | with_reducible refine VI.q_ge ?_ | with_reducible refine VI.q_eqI ?_ | with_reducible refine VI.q_eqS ?_ | with_reducible refine VI.q_eqB ?_ | with_reducible refine VI.q_neI ?_ | with_reducible refine VI.q_neS ?_ | with_reducible refine VI.q_neB ?_ | with_reducible refine VI.q_inC ?_ | with_reducible refine VI.q_ninC ?_ | with_reducible refine VI.q_slT ?_ | with_reducible refine VI.q_slL ?_ | with_reducible refine VI.q_slK ?_ | with_reducible refine VI.q_lenT ?_ | with_reducible refine VI.q_lenL ?_ | with_reducible refine VI.q_abs ?_ | with_reducible refine VI.q_intI ?_ | with_reducible refine VI.q_intB ?_ | with_reducible refine VI.q_starts ?_ | with_reducible refine VI.q_isiB ?_ | with_reducible refine VI.q_isiS ?_ | (with_reducible refine ⟨_, rfl, ?_⟩)))
local macro_rules | `(tactic| walk_at "vi.s3") => `(tactic| (first | with_reducible refine VI.w_seq ?_ | with_reducible refine VI.w_set ?_ | with_reducible refine VI.w_ret ?_ | with_reducible refine VI.w_bif ?_ | with_reducible refine VI.w_drop ?_ | with_reducible refine VI.w_op ?_ | with_reducible refine VI.w_un ?_ | with_reducible refine VI.w_blt ?_ | with_reducible refine VI.w_not ?_ | with_reducible refine VI.w_and ?_ | with_reducible refine VI.w_or ?_ | with_reducible refine VI.w_if ?_ | with_reducible refine VI.w_chain ?_ | with_reducible refine VI.w_anil ?_ | with_reducible refine VI.w_acons ?_ | with_reducible refine VI.w_tup ?_ | with_reducible refine VI.w_lst ?_ | with_reducible refine VI.w_cel ?_ | with_reducible refine VI.w_tv ?_ | with_reducible refine VI.w_tnot ?_ | with_reducible refine VI.w_tand ?_ | with_reducible refine VI.w_tor ?_ | with_reducible refine VI.w_bits ?_ | with_reducible refine VI.w_mS ?_ | with_reducible refine VI.w_pno ?_ | with_reducible refine VI.w_pso ?_ | with_reducible refine VI.w_sl ?_ | with_reducible refine VI.w_bnil ?_ | with_reducible refine VI.w_bk ?_ | with_reducible refine VI.w_ct ?_ | with_reducible refine VI.w_retN ?_ | with_reducible refine VI.w_gnil ?_ | with_reducible refine VI.w_gcons ?_ | with_reducible refine VI.w_gtup rfl ?_ | with_reducible refine VI.w_gix ?_ | with_reducible refine VI.w_yes ?_ | with_reducible refine VI.w_dnil ?_ | with_reducible refine VI.w_dcons ?_ | with_reducible refine VI.w_dict ?_ | with_reducible refine VI.w_get2 ?_ | with_reducible refine VI.w_tru ?_ | with_reducible refine VI.w_pop ?_ | with_reducible refine VI.w_ext ?_ | with_reducible refine VI.w_star ?_ | with_reducible refine VI.w_few ?_ | with_reducible refine VI.w_js0 ?_ | with_reducible refine VI.w_js ?_ | with_reducible refine VI.w_fmt ?_ | with_reducible refine VI.w_estr ?_ | with_reducible refine VI.w_rev ?_ | with_reducible refine VI.w_revT ?_ | with_reducible refine VI.w_eqNil ?_ | with_reducible refine VI.w_gdix ?_ | with_reducible refine VI.w_tupItems ?_ | with_reducible refine VI.w_lstC ?_ | with_reducible refine VI.w_par ?_ | with_reducible refine VI.w_extT ?_ | with_reducible refine VI.w_revIn ?_ | with_reducible refine VI.w_isi2 ?_ | with_reducible refine VI.w_repl ?_ | with_reducible refine VI.w_lenSc ?_ | with_reducible refine VI.w_listZip ?_ | with_reducible refine VI.w_cnt ?_ | with_reducible refine VI.q_tupL ?_ | with_reducible refine VI.w_app ?_ | with_reducible refine VI.w_it ?_ | with_reducible refine VI.w_c ?_ | with_reducible refine VI.w_var rfl ?_ | with_reducible refine VI.w_name0 ?_ | with_reducible refine VI.w_name1 ?_ | with_reducible refine VI.w_name2 ?_ | with_reducible refine VI.w_name3 ?_ | with_reducible refine VI.w_name4 ?_ | with_reducible refine VI.w_name5 ?_ | with_reducible refine VI.w_name6 ?_ | with_reducible refine VI.w_name7 ?_ | with_reducible refine VI.w_name8 ?_ | with_reducible refine VI.w_name9 ?_ | with_reducible refine VI.w_name10 ?_ | with_reducible refine VI.w_name11 ?_ | with_reducible refine VI.w_name12 ?_ | with_reducible refine VI.w_name13 ?_ | with_reducible refine VI.w_name14 ?_ | with_reducible refine VI.w_name15 ?_ | with_reducible refine VI.seq_nx ?_ | with_reducible refine VI.nxq_nx ?_ | with_reducible refine VI.nxq_rt ?_ | with_reducible refine VI.seq_rt ?_ | with_reducible refine VI.seq_bk ?_ | with_reducible refine VI.seq_ct ?_ | with_reducible refine VI.turn_nx ?_ | with_reducible refine VI.turn_ct ?_ | with_reducible refine VI.turn_bk ?_ | with_reducible refine VI.turn_rt ?_ | with_reducible refine VI.ret_rt ?_ | with_reducible refine VI.ret_nx ?_ | with_reducible refine VI.blq ?_ | with_reducible refine VI.ifq_t ?_ | with_reducible refine VI.ifq_f ?_ | with_reducible refine VI.ifq_n ?_ | with_reducible refine VI.it_tup' ?_ | with_reducible refine VI.it_lst' ?_ | with_reducible refine VI.it_lsk' ?_ | with_reducible refine VI.it_str' ?_ | with_reducible refine VI.q_add ?_ | with_reducible refine VI.q_iadd ?_ | with_reducible refine VI.q_sub ?_ | with_reducible refine VI.q_neg ?_ | with_reducible refine VI.q_lt ?_ | with_reducible refine VI.q_le ?_ | with_reducible refine VI.q_gt ?_ | with_reducible refine VI.q_ge ?_ | with_reducible refine VI.q_eqI ?_ | with_reducible refine VI.q_eqS ?_ | with_reducible refine VI.q_eqB ?_ | with_reducible refine VI.q_neI ?_ | with_reducible refine VI.q_neS ?_ | with_reducible refine VI.q_neB ?_ | with_reducible refine VI.q_inC ?_ | with_reducible refine VI.q_ninC ?_ | with_reducible refine VI.q_slT ?_ | with_reducible refine VI.q_slL ?_ | with_reducible refine VI.q_slK ?_ | with_reducible refine VI.q_lenT ?_ | with_reducible refine VI.q_lenL ?_ | with_reducible refine VI.q_abs ?_ | with_reducible refine VI.q_intI ?_ | with_reducible refine VI.q_intB ?_ | with_reducible refine VI.q_starts ?_ | with_reducible refine VI.q_isiB ?_ | with_reducible refine VI.q_isiS ?_ | with_reducible refine VI.q_all ?_ | (with_reducible refine ⟨_, rfl, ?_⟩)))
section
open PySem VI
namespace Law
def big : Int := 10 ^ 600
structure BagC (cs : List Int) (pos cur stir cnt : Int) : Prop where
  len : cs.length ≤ 63
  rng : ∀ c ∈ cs, 0 ≤ c ∧ c < big
  p0 : 0 ≤ pos
  p1 : pos ≤ cs.length
  c0 : 0 ≤ cur
  c1 : cur < big
  s0 : 0 ≤ stir
  s1 : stir < 2147483647
  n0 : 0 ≤ cnt
def bagL (cs : List Int) (pos cur stir cnt : Int) (ex : List D) : List D := .lst (cs.map D.int) :: .int pos :: .int cur :: .int stir :: .int cnt :: ex
def BagOk (ex : List D) (o : O) : Prop := ∃ cs pos cur stir cnt, o = .lst (bagL cs pos cur stir cnt ex) ∧ BagC cs pos cur stir cnt
/-- from m to m': the bag at b is used up further, nothing else changes -/
structure Ext (b : Nat) (ex : List D) (m m' : Mem) : Prop where
  len : m.length ≤ m'.length
  oth : ∀ i, i < m.length → i ≠ b → m'[i]? = m[i]?
  bag : ∃ o, m'[b]? = some o ∧ BagOk ex o
theorem Ext.trans {b : Nat} {ex ex' : List D} {m m1 m2 : Mem} (h : Ext b ex m m1) (g : Ext b ex' m1 m2) : Ext b ex' m m2 :=
  ⟨Nat.le_trans h.len g.len, fun i hi hb => (g.oth i (Nat.lt_of_lt_of_le hi h.len) hb).trans (h.oth i hi hb), g.bag⟩
theorem Ext.set {b : Nat} {ex : List D} {m : Mem} {o x : O} (hb : m[b]? = some x) (h : BagOk ex o) : Ext b ex m (m.set b o) := by
  have hl := (List.getElem?_eq_some_iff.mp hb).1
  exact ⟨by simp, fun i hi hne => List.getElem?_set_ne (Ne.symm hne), ⟨o, by rw [List.getElem?_set_self hl], h⟩⟩


theorem bag_at0 {cs pos cur stir cnt ex} : L2.atI (bagL cs pos cur stir cnt ex) 0 = some (.lst (cs.map D.int)) := atI_ok 0 rfl rfl
theorem bag_at1 {cs pos cur stir cnt ex} : L2.atI (bagL cs pos cur stir cnt ex) 1 = some (.int pos) := atI_ok 1 rfl rfl
theorem bag_at2 {cs pos cur stir cnt ex} : L2.atI (bagL cs pos cur stir cnt ex) 2 = some (.int cur) := atI_ok 2 rfl rfl
theorem bag_at3 {cs pos cur stir cnt ex} : L2.atI (bagL cs pos cur stir cnt ex) 3 = some (.int stir) := atI_ok 3 rfl rfl
theorem bag_at4 {cs pos cur stir cnt ex} : L2.atI (bagL cs pos cur stir cnt ex) 4 = some (.int cnt) := atI_ok 4 rfl rfl
theorem bag_set1 {cs pos cur stir cnt ex x} : (bagL cs pos cur stir cnt ex).set 1 (.int x) = bagL cs x cur stir cnt ex := rfl
theorem bag_set2 {cs pos cur stir cnt ex x} : (bagL cs pos cur stir cnt ex).set 2 (.int x) = bagL cs pos x stir cnt ex := rfl
theorem bag_set3 {cs pos cur stir cnt ex x} : (bagL cs pos cur stir cnt ex).set 3 (.int x) = bagL cs pos cur x cnt ex := rfl
theorem bag_set4 {cs pos cur stir cnt ex x} : (bagL cs pos cur stir cnt ex).set 4 (.int x) = bagL cs pos cur stir x ex := rfl
theorem bag_len {cs pos cur stir cnt ex} : (bagL cs pos cur stir cnt ex).length = ex.length + 5 := rfl
theorem get_set {m : Mem} {b : Nat} {o x : O} (h : m[b]? = some x) : (m.set b o)[b]? = some o := List.getElem?_set_self (List.getElem?_eq_some_iff.mp h).1
theorem st_stirred {m : Mem} {b : Nat} {ex : List D} (hb : ∃ o, m[b]? = some o ∧ BagOk ex o) {many : Int} (h1 : 1 ≤ many) (h2 : many < 4611686018427387904) {Q : D → Mem → Prop}
    (q : ∀ r m', 0 ≤ r → r < many → Ext b ex m m' → Q (.int r) m') : W (f__law_stirred [.cell b, .int many] m) Q := by
  refine w_fn (ρ := [some (.cell b), some (.int many), none, none]) rfl rfl ?_
  unfold b__law_stirred
  (repeat (walk_at "vi.s0"))
  have hbits : (Builtin.Int.intBits many : Int) ≤ 64 := by
    have h : many.natAbs.log2 < 62 := (Nat.log2_lt (by omega)).mpr (by
      have e : (2 : Nat) ^ 62 = 4611686018427387904 := by decide
      omega)
    have : Builtin.Int.intBits many ≤ many.natAbs.log2 + 1 := by
      unfold Builtin.Int.intBits
      split <;> omega
    omega
  refine w_for (fun _ ρ m' => ∃ found x, ρ = [some (.cell b), some (.int many), some (.int found), x] ∧ 0 ≤ found ∧ Ext b ex m m') ?_
  refine w_rng1 ?_
  (repeat (walk_at "vi.s0"))
  refine q_div (by omega) ?_
  (repeat (walk_at "vi.s0"))
  refine ⟨by omega, ⟨0, none, rfl, Int.le_refl 0, Nat.le_refl _, fun _ _ _ => rfl, hb⟩, ?_, ?_⟩
  · rintro i d ρ m1 hd ⟨found, x, rfl, hf, hE⟩
    obtain ⟨o, ho, cs, pos, cur, stir, cnt, rfl, B⟩ := hE.bag
    have B' := B
    obtain ⟨b1, b2, b3, b4, b5, b6, b7, b8, b9⟩ := B'
    (repeat (walk_at "vi.s0"))
    refine q_ixC ho bag_at4 ?_
    (repeat (walk_at "vi.s0"))
    refine ⟨_, _, 4, rfl, ho, ixN_ok 4 rfl (by rw [bag_len]; omega), ?_⟩
    rw [bag_set4]
    have ho1 := get_set (o := .lst (bagL cs pos cur stir (cnt + 1) ex)) ho
    have E1 : Ext b ex m1 (m1.set b (.lst (bagL cs pos cur stir (cnt + 1) ex))) := Ext.set ho ⟨cs, pos, cur, stir, cnt + 1, rfl, ⟨b1, b2, b3, b4, b5, b6, b7, b8, by omega⟩⟩
    (repeat (walk_at "vi.s0"))
    refine q_ixC ho1 bag_at3 ?_
    (repeat (walk_at "vi.s0"))
    refine q_pow ⟨by omega, by omega, ?_⟩ ?_
    · by_cases h0 : stir.natAbs = 0
      · rw [h0]; decide
      · have h : stir.natAbs.log2 < 31 := (Nat.log2_lt h0).mpr (by
          have e : (2 : Nat) ^ 31 = 2147483648 := by decide
          omega)
        omega
    (repeat (walk_at "vi.s0"))
    refine q_ixC ho1 bag_at3 ?_
    (repeat (walk_at "vi.s0"))
    refine q_mulL (by omega) ?_
    (repeat (walk_at "vi.s0"))
    refine q_ixC ho1 bag_at4 ?_
    (repeat (walk_at "vi.s0"))
    refine q_mulL (by omega) ?_
    (repeat (walk_at "vi.s0"))
    refine q_mod (by omega) ?_
    (repeat (walk_at "vi.s0"))
    generalize hst : (stir ^ (3 : Int).toNat + 69621 * stir + 1031 * (cnt + 1) + 1) % 2147483647 = st
    have hs0 : 0 ≤ st := by rw [← hst]; exact Int.emod_nonneg _ (by omega)
    have hs1 : st < 2147483647 := by rw [← hst]; exact Int.emod_lt_of_pos _ (by omega)
    refine ⟨_, _, 3, rfl, ho1, ixN_ok 3 rfl (by rw [bag_len]; omega), ?_⟩
    rw [bag_set3]
    have ho2 := get_set (o := .lst (bagL cs pos cur st (cnt + 1) ex)) ho1
    have E2 := E1.trans (Ext.set ho1 (o := .lst (bagL cs pos cur st (cnt + 1) ex)) ⟨cs, pos, cur, st, cnt + 1, rfl, ⟨b1, b2, b3, b4, b5, b6, hs0, hs1, by omega⟩⟩)
    (repeat (walk_at "vi.s0"))
    refine q_mulR (by omega) ?_
    (repeat (walk_at "vi.s0"))
    refine q_ixC ho2 bag_at3 ?_
    (repeat (walk_at "vi.s0"))
    refine q_div (by omega) ?_
    (repeat (walk_at "vi.s0"))
    exact ⟨_, _, rfl, by omega, hE.trans E2⟩
  · rintro ρ m1 ⟨found, x, rfl, hf, hE⟩
    (repeat (walk_at "vi.s0"))
    refine q_mod (by omega) ?_
    (repeat (walk_at "vi.s0"))
    exact q _ _ (Int.emod_nonneg _ (by omega)) (Int.emod_lt_of_pos _ (by omega)) hE

theorem st_draw {m : Mem} {b : Nat} {ex : List D} (hb : ∃ o, m[b]? = some o ∧ BagOk ex o) {many : Int} (h1 : 1 ≤ many) (h2 : many < 4611686018427387904) {Q : D → Mem → Prop}
    (q : ∀ r m', 0 ≤ r → r < many → Ext b ex m m' → Q (.int r) m') : W (f__law_draw [.cell b, .int many] m) Q := by
  refine w_fn (ρ := [some (.cell b), some (.int many), none]) rfl rfl ?_
  unfold b__law_draw
  obtain ⟨o, ho, cs, pos, cur, stir, cnt, rfl, B⟩ := hb
  have B' := B
  obtain ⟨b1, b2, b3, b4, b5, b6, b7, b8, b9⟩ := B'
  -- what is drawn of a number that is there
  have rest : ∀ (m1 : Mem) (pos1 cur1 : Int), m1[b]? = some (.lst (bagL cs pos1 cur1 stir cnt ex)) → BagC cs pos1 cur1 stir cnt → Ext b ex m m1 →
      W (bSeq (bSet (gName 2) (eOp oMod (eOp oIx (eVar 0) (eC (.int 2))) (eVar 1))) (bSeq (bSet (gIx (eVar 0) (eC (.int 2))) (eOp oDiv (eOp oIx (eVar 0) (eC (.int 2))) (eVar 1))) (bRet (eVar 2))) [some (.cell b), some (.int many), none] m1) (retQ Q) := by
    intro m1 pos1 cur1 ho1 B1 E1
    obtain ⟨c1, c2, c3, c4, c5, c6, c7, c8, c9⟩ := B1
    (repeat (walk_at "vi.s0"))
    refine q_ixC ho1 bag_at2 ?_
    (repeat (walk_at "vi.s0"))
    refine q_mod (by omega) ?_
    (repeat (walk_at "vi.s0"))
    refine q_ixC ho1 bag_at2 ?_
    (repeat (walk_at "vi.s0"))
    refine q_div (by omega) ?_
    (repeat (walk_at "vi.s0"))
    refine ⟨_, _, 2, rfl, ho1, ixN_ok 2 rfl (by rw [bag_len]; omega), ?_⟩
    rw [bag_set2]
    have hd1 : 0 ≤ cur1 / many := Int.ediv_nonneg c5 (by omega)
    have hd2 : cur1 / many ≤ cur1 := Int.ediv_le_self _ c5
    have E2 := E1.trans (Ext.set ho1 (o := .lst (bagL cs pos1 (cur1 / many) stir cnt ex)) ⟨cs, pos1, cur1 / many, stir, cnt, rfl, ⟨c1, c2, c3, c4, hd1, by omega, c7, c8, c9⟩⟩)
    (repeat (walk_at "vi.s0"))
    exact q _ _ (Int.emod_nonneg _ (by omega)) (Int.emod_lt_of_pos _ (by omega)) E2
  have self : Ext b ex m m := ⟨Nat.le_refl _, fun _ _ _ => rfl, ⟨_, ho, cs, pos, cur, stir, cnt, rfl, B⟩⟩
  (repeat (walk_at "vi.s0"))
  refine q_ixC ho bag_at2 ?_
  (repeat (walk_at "vi.s0"))
  refine ifq_d (fun hc => ?_) (fun hc => ?_)
  · (repeat (walk_at "vi.s0"))
    refine q_ixC ho bag_at1 ?_
    (repeat (walk_at "vi.s0"))
    refine q_ixC ho bag_at0 ?_
    (repeat (walk_at "vi.s0"))
    rw [List.length_map]
    refine ifq_d (fun hp => ?_) (fun hp => ?_)
    · (repeat (walk_at "vi.s0"))
      refine q_ixC ho bag_at0 ?_
      (repeat (walk_at "vi.s0"))
      refine q_ixC ho bag_at1 ?_
      (repeat (walk_at "vi.s0"))
      have hlt : pos.toNat < cs.length := by omega
      have hat : L2.atI (cs.map D.int) pos = some (.int cs[pos.toNat]) := atI_ok pos.toNat (by omega) (by rw [List.getElem?_map, List.getElem?_eq_getElem hlt]; rfl)
      refine q_ixL hat ?_
      (repeat (walk_at "vi.s0"))
      refine ⟨_, _, 2, rfl, ho, ixN_ok 2 rfl (by rw [bag_len]; omega), ?_⟩
      rw [bag_set2]
      have hr := b2 cs[pos.toNat] (List.getElem_mem hlt)
      have ho1 := get_set (o := .lst (bagL cs pos cs[pos.toNat] stir cnt ex)) ho
      have E1 := self.trans (Ext.set ho (o := .lst (bagL cs pos cs[pos.toNat] stir cnt ex)) ⟨cs, pos, cs[pos.toNat], stir, cnt, rfl, ⟨b1, b2, b3, b4, hr.1, hr.2, b7, b8, b9⟩⟩)
      (repeat (walk_at "vi.s0"))
      refine q_ixC ho1 bag_at1 ?_
      (repeat (walk_at "vi.s0"))
      refine ⟨_, _, 1, rfl, ho1, ixN_ok 1 rfl (by rw [bag_len]; omega), ?_⟩
      rw [bag_set1]
      have ho2 := get_set (o := .lst (bagL cs (pos + 1) cs[pos.toNat] stir cnt ex)) ho1
      have B2 : BagC cs (pos + 1) cs[pos.toNat] stir cnt := ⟨b1, b2, by omega, by omega, hr.1, hr.2, b7, b8, b9⟩
      have E2 := E1.trans (Ext.set ho1 (o := .lst (bagL cs (pos + 1) cs[pos.toNat] stir cnt ex)) ⟨cs, pos + 1, cs[pos.toNat], stir, cnt, rfl, B2⟩)
      refine seq_nx ?_
      exact rest _ _ _ ho2 B2 E2
    · (repeat (walk_at "vi.s0"))
      refine q_ixC ho bag_at2 ?_
      (repeat (walk_at "vi.s0"))
      refine ifq_d (fun _ => ?_) (fun hn => absurd hc hn)
      (repeat (walk_at "vi.s0"))
      refine w_call ?_
      (repeat (walk_at "vi.s0"))
      refine st_stirred ⟨_, ho, cs, pos, cur, stir, cnt, rfl, B⟩ h1 h2 fun r m' r0 r1 E => ?_
      exact q r m' r0 r1 E
  · (repeat (walk_at "vi.s0"))
    refine q_ixC ho bag_at2 ?_
    (repeat (walk_at "vi.s0"))
    refine ifq_d (fun hz => absurd hz hc) (fun _ => ?_)
    refine w_bnil ?_
    refine seq_nx ?_
    exact rest _ _ _ ho B self
end Law
end
section
open PySem VI
namespace Law
theorem mem_cut {α : Type} {xs : List α} {lo hi : Option Int} {x : α} (h : x ∈ cutD xs lo hi) : x ∈ xs := by
  unfold cutD at h
  exact List.mem_of_mem_drop (List.mem_of_mem_take h)
theorem cut_len {α : Type} {xs : List α} {lo hi : Option Int} : (cutD xs lo hi).length ≤ xs.length := by
  unfold cutD
  rw [List.length_take, List.length_drop]
  omega
theorem int_of {ns : List Int} {lo hi : Option Int} {i : Nat} {d : D} (h : (cutD (ns.map D.int) lo hi)[i]? = some d) : ∃ n, d = .int n := by
  have h1 := mem_cut (List.mem_of_getElem? h)
  obtain ⟨n, _, e⟩ := List.mem_map.mp h1
  exact ⟨n, e.symm⟩
theorem st_bag {ns : List Int} (hl : ns.length ≤ 63) {Q : D → Mem → Prop} (q : ∀ o, BagOk [] o → Q (.cell 0) [o]) : W (f__law_bag [.lsk (ns.map D.int)] []) Q := by
  refine w_fn (ρ := [some (.lsk (ns.map D.int)), none, none]) rfl rfl ?_
  unfold b__law_bag
  (repeat (walk_at "vi.s0"))
  refine w_for (fun _ ρ m' => ∃ st x, ρ = [some (.lsk (ns.map D.int)), some (.int st), x] ∧ m' = [] ∧ 0 ≤ st ∧ st < 2147483647) ?_
  (repeat (walk_at "vi.s0"))
  refine ⟨⟨31, none, rfl, rfl, by omega, by omega⟩, ?_, ?_⟩
  · rintro i d ρ m1 hd ⟨st, x, rfl, rfl, s0, s1⟩
    obtain ⟨n, rfl⟩ := int_of hd
    (repeat (walk_at "vi.s0"))
    refine q_mulL (by omega) ?_
    (repeat (walk_at "vi.s0"))
    refine q_mod (by omega) ?_
    (repeat (walk_at "vi.s0"))
    refine q_mod (by omega) ?_
    (repeat (walk_at "vi.s0"))
    exact ⟨_, _, rfl, rfl, Int.emod_nonneg _ (by omega), Int.emod_lt_of_pos _ (by omega)⟩
  · rintro ρ m1 ⟨st, x, rfl, rfl, s0, s1⟩
    (repeat (walk_at "vi.s0"))
    refine w_comp (fun i acc m' => m' = [] ∧ ∃ cs : List Int, acc = cs.map D.int ∧ cs.length = i ∧ ∀ c ∈ cs, 0 ≤ c ∧ c < big) ?_
    (repeat (walk_at "vi.s0"))
    have hl2 : (cutD (ns.map D.int) none (some 63)).length ≤ 63 := Nat.le_trans cut_len (by rw [List.length_map]; exact hl)
    refine ⟨by omega, ⟨rfl, [], rfl, rfl, fun c hc => nomatch hc⟩, ?_, ?_⟩
    · rintro i d acc m1 hd ⟨rfl, cs, rfl, hcl, hcs⟩
      obtain ⟨n, rfl⟩ := int_of hd
      show W (gName 2 _ [some (.lsk (ns.map D.int)), some (.int st), none] _) _
      (repeat (walk_at "vi.s0"))
      refine q_pow ⟨by omega, by omega, by decide⟩ ?_
      (repeat (walk_at "vi.s0"))
      refine q_pow ⟨by omega, by omega, by decide +kernel⟩ ?_
      have hb : ((10 : Int) ^ (60 : Int).toNat) ^ (10 : Int).toNat = big := by decide +kernel
      rw [hb]
      have hbp : 0 < big := by decide +kernel
      refine q_mod hbp ?_
      refine ⟨rfl, cs ++ [(if n < 0 then -n else n) % big], by rw [List.map_append]; rfl, by rw [List.length_append]; show cs.length + 1 = _; omega, fun c hc => ?_⟩
      rcases List.mem_append.mp hc with h | h
      · exact hcs c h
      · rw [List.mem_singleton.mp h]
        exact ⟨Int.emod_nonneg _ (by omega), Int.emod_lt_of_pos _ hbp⟩
    · rintro acc m1 ⟨rfl, cs, rfl, hcl, hcs⟩
      (repeat (walk_at "vi.s0"))
      exact q _ ⟨cs, 0, 0, st, 0, rfl, ⟨by omega, hcs, by omega, by omega, by omega, by decide +kernel, s0, s1, by omega⟩⟩
end Law
end
section
open PySem VI
namespace Law
def Low (w : List Nat) : Prop := ∀ c ∈ w, 97 ≤ c ∧ c ≤ 122
structure WordOk (w : List Nat) : Prop where
  pos : 1 ≤ w.length
  len : w.length ≤ 8
  low : Low w
theorem low_app {a b : List Nat} (h : Low a) (g : Low b) : Low (a ++ b) := fun c hc => (List.mem_append.mp hc).elim (h c) (g c)
theorem low_cut {a : List Nat} {lo hi : Option Int} (h : Low a) : Low (cutD a lo hi) := fun c hc => h c (mem_cut hc)
theorem letters_at {i : Int} (h0 : 0 ≤ i) (h1 : i < 26) : L2.atI lit32d10c i = some (i.toNat + 97) := by
  have key : ∀ n : Nat, n < 26 → lit32d10c[n]? = some (n + 97) := by decide
  exact atI_ok i.toNat (by omega) (key _ (by omega))
abbrev HasBag (b : Nat) (ex : List D) (m : Mem) : Prop := ∃ o, m[b]? = some o ∧ BagOk ex o
theorem Ext.refl {b : Nat} {ex : List D} {m : Mem} (h : HasBag b ex m) : Ext b ex m m := ⟨Nat.le_refl _, fun _ _ _ => rfl, h⟩
theorem st_comp {b : Nat} {ex : List D} {m : Mem} {o : Nat} {it : AF} {elt : EF} {ρ : VI.Env} {Q : D → Mem → Prop} (P : Nat → Prop) (R : Nat → Prop)
    (hit : W (it ρ m) fun ds m1 => ∃ k, ds = rngD 0 k ∧ R k ∧ k ≤ 16777215 ∧ Ext b ex m m1)
    (he : ∀ (i : Int) (m1 : Mem), HasBag b ex m1 → W (elt ((wipeD ρ [o]).set o (some (.int i))) m1) fun d m2 => ∃ c, d = .str [c] ∧ P c ∧ Ext b ex m1 m2)
    (q : ∀ (cs : List Nat) (m' : Mem), (∀ c ∈ cs, P c) → R cs.length → cs.length ≤ 16777215 → Ext b ex m m' → Q (.lst (cs.map fun c => D.str [c])) m') : W (eComp [o] it (gName o) tYes elt ρ m) Q := by
  refine w_comp (fun i acc m' => ∃ cs : List Nat, acc = cs.map (fun c => D.str [c]) ∧ cs.length = i ∧ (∀ c ∈ cs, P c) ∧ Ext b ex m m') ?_
  refine hit.mono ?_
  rintro ds m1 ⟨k, rfl, hR, hk, E⟩
  refine ⟨by rw [rngD_len]; exact hk, ⟨[], rfl, rfl, fun c hc => absurd hc List.not_mem_nil, E⟩, ?_, ?_⟩
  · rintro i d acc m2 hd ⟨cs, rfl, hl, hP, E2⟩
    rw [rngD_get hd]
    refine w_name ?_
    refine w_yes (ifq_t ?_)
    refine (he _ m2 E2.bag).mono ?_
    rintro d m3 ⟨c, rfl, hc, E3⟩
    refine ⟨cs ++ [c], by rw [List.map_append]; rfl, by rw [List.length_append, hl]; rfl, fun x hx => ?_, E2.trans E3⟩
    rcases List.mem_append.mp hx with h | h
    · exact hP x h
    · rw [List.mem_singleton.mp h]; exact hc
  · rintro acc m2 ⟨cs, rfl, hl, hP, E2⟩
    rw [rngD_len] at hl
    exact q cs m2 hP (by rw [hl]; exact hR) (by omega) E2
theorem flat_one : ∀ cs : List Nat, (cs.map fun c => [c]).flatten = cs
  | [] => rfl
  | c :: r => by rw [List.map_cons, List.flatten_cons, flat_one r]; rfl
theorem sum_one : ∀ cs : List Nat, ((cs.map fun c => [c]).map (·.length)).sum = cs.length
  | [] => rfl
  | c :: r => by rw [List.map_cons, List.map_cons, List.sum_cons, sum_one r, List.length_cons, Nat.add_comm]; rfl
theorem join_signs {cs : List Nat} {m : Mem} {Q : D → Mem → Prop} (hl : cs.length ≤ 16777216) (q : Q (.str cs) m) : opQ (sJoin [] m [.lst (cs.map fun c => D.str [c])]) Q m := by
  refine q_joinL (ss := cs.map fun c => [c]) (by rw [List.map_map]; rfl) ?_ ?_
  · rw [sum_one]
    show cs.length + _ * 0 ≤ _
    omega
  · rw [joinD_nil, flat_one]
    exact q
def wrank (w : List Nat) : Nat := if w.length < 8 then w.length * 1000 else 8000 + w.getLastD 0
def wleft (fs : List (List Nat)) (w : List Nat) : Nat := (fs.filter fun f => decide (wrank w ≤ wrank f)).length
theorem filter_lt {fs : List (List Nat)} {r r' : Nat} {w : List Nat} (hr : r < r') (hw : w ∈ fs) (he : wrank w = r) : (fs.filter fun f => decide (r' ≤ wrank f)).length < (fs.filter fun f => decide (r ≤ wrank f)).length := by
  induction fs with
  | nil => cases hw
  | cons f fs ih =>
    have le : ∀ gs : List (List Nat), (gs.filter fun f => decide (r' ≤ wrank f)).length ≤ (gs.filter fun f => decide (r ≤ wrank f)).length := by
      intro gs
      induction gs with
      | nil => exact Nat.le_refl _
      | cons g gs ih2 =>
        rw [List.filter_cons, List.filter_cons]
        by_cases h1 : r' ≤ wrank g
        · rw [if_pos (decide_eq_true h1), if_pos (decide_eq_true (by omega))]
          rw [List.length_cons, List.length_cons]; omega
        · rw [if_neg (by simpa using h1)]
          split
          · rw [List.length_cons]; omega
          · exact ih2
    rw [List.filter_cons, List.filter_cons]
    rcases List.mem_cons.mp hw with h | h
    · subst h
      rw [if_neg (by simp; omega), if_pos (by simp; omega), List.length_cons]
      have := le fs
      omega
    · have i := ih h
      by_cases h1 : r' ≤ wrank f
      · rw [if_pos (decide_eq_true h1), if_pos (decide_eq_true (by omega)), List.length_cons, List.length_cons]; omega
      · rw [if_neg (by simpa using h1)]
        split
        · rw [List.length_cons]; omega
        · exact i
end Law
end
section
open PySem VI
namespace Law
theorem S_eq (s t : List Nat) : (VI.S s = VI.S t) ↔ s = t := ⟨fun h => by have := congrArg (fun x : PySem.Str => x.cps.toList) h; simpa [S_tl] using this, fun h => by rw [h]⟩
theorem eqV_S (s t : List Nat) : L2.eqV (.str (VI.S s)) (.str (VI.S t)) = decide (s = t) := by
  show decide _ = decide _
  exact decide_eq_decide.mpr (by rw [S_eq])
theorem toVs_strs : ∀ ws : List (List Nat), toVs (ws.map D.str) = some (ws.map fun w => .str (VI.S w))
  | [] => rfl
  | w :: r => by show toVs (.str w :: r.map D.str) = _; unfold toVs; rw [toVs_strs r]; rfl
theorem inFl_strs (w : List Nat) (ws : List (List Nat)) : inFl (.str w) (ws.map D.str) = some (decide (w ∈ ws)) := by
  unfold inFl
  rw [toVs_strs]
  show some (L2.inV _ _) = _
  congr 1
  unfold L2.inV
  induction ws with
  | nil => rfl
  | cons x r ih =>
    rw [List.map_cons, List.any_cons, ih, eqV_S, ← Bool.decide_or]
    exact decide_eq_decide.mpr (by rw [List.mem_cons]; constructor <;> (intro h; rcases h with h | h <;> simp [h]))
theorem inB_cell {m : Mem} {w : List Nat} {f : Nat} {ws : List (List Nat)} (h : m[f]? = some (.lst (ws.map D.str))) : inB m (.str w) (.cell f) = some (decide (w ∈ ws)) := by
  unfold inB
  split <;> first | (rename_i e; cases e) | skip
  all_goals first | (rename_i e1 e2; cases e2) | skip
  all_goals first | (rw [h]; exact inFl_strs w ws) | skip
  rename_i a b c d e g
  exact (d f rfl).elim
theorem q_inCell {m : Mem} {w : List Nat} {f : Nat} {ws : List (List Nat)} (h : m[f]? = some (.lst (ws.map D.str))) {Q : D → Mem → Prop} (q : Q (.bl (decide (w ∈ ws))) m) : opQ (oIn m (.str w) (.cell f)) Q m :=
  ⟨_, by unfold oIn; rw [inB_cell h], q⟩
theorem cut_to {w : List Nat} {k : Int} (h : 0 ≤ k) : cutD w none (some k) = w.take k.toNat := by
  unfold cutD
  rw [HT.sIx_none]
  have e : HT.sIx w.length w.length (some k) = min k.toNat w.length := by
    unfold HT.sIx
    dsimp only
    rw [if_neg (show ¬ k < 0 by omega)]
  rw [e, List.drop_zero, Nat.sub_zero, List.take_eq_take_iff]
  omega
theorem cut_from {w : List Nat} {k : Int} (h : 0 ≤ k) : cutD w (some k) none = w.drop k.toNat := by
  unfold cutD
  rw [HT.sIx_none]
  have e : HT.sIx w.length 0 (some k) = min k.toNat w.length := by
    unfold HT.sIx
    dsimp only
    rw [if_neg (show ¬ k < 0 by omega)]
  rw [e, List.take_of_length_le (by rw [List.length_drop]; exact Nat.le_refl _)]
  by_cases hk : k.toNat ≤ w.length
  · rw [Nat.min_eq_left hk]
  · rw [Nat.min_eq_right (by omega), List.drop_eq_nil_of_le (Nat.le_refl _), List.drop_eq_nil_of_le (by omega)]
/-- a word of drawn signs -/
theorem drawn {b : Nat} {ex : List D} {m : Mem} {o vb vl : Nat} {ρ : VI.Env} {N : Int} {Q : D → Mem → Prop} (hN1 : 1 ≤ N) (hN2 : N ≤ 26) (hb : HasBag b ex m) (hvb : ∀ x, ((wipeD ρ [o]).set o x)[vb]? = some (some (.cell b))) (hvl : ∀ x, ((wipeD ρ [o]).set o x)[vl]? = some (some (.str lit32d10c))) (hk : ρ[vb]? = some (some (.cell b)))
    (q : ∀ (cs : List Nat) (m' : Mem), WordOk cs → cs.length ≤ 6 → Ext b ex m m' → Q (.lst (cs.map fun c => D.str [c])) m') :
    W (eComp [o] (aRng1 (eOp oAdd (eC (.int 1)) (eCall f__law_draw (aCons (eVar vb) (aCons (eC (.int 6)) (aNil)))))) (gName o) (tYes) (eOp oIx (eVar vl) (eCall f__law_draw (aCons (eVar vb) (aCons (eC (.int N)) (aNil))))) ρ m) Q := by
  refine st_comp (b := b) (ex := ex) (fun c => 97 ≤ c ∧ c ≤ 122) (fun n => 1 ≤ n ∧ n ≤ 6) ?_ ?_ ?_
  · refine w_rng1 ?_
    (repeat (walk_at "vi.s0"))
    refine w_call ?_
    (repeat (walk_at "vi.s0"))
    refine w_var hk ?_
    (repeat (walk_at "vi.s0"))
    refine st_draw hb (by omega) (by omega) fun r m1 r0 r1 E => ?_
    (repeat (walk_at "vi.s0"))
    exact ⟨by omega, _, rfl, by omega, by omega, E⟩
  · intro i m1 hm
    (repeat (walk_at "vi.s0"))
    refine w_var (hvl _) ?_
    refine w_call ?_
    (repeat (walk_at "vi.s0"))
    refine w_var (hvb _) ?_
    (repeat (walk_at "vi.s0"))
    refine st_draw hm (by omega) (by omega) fun r m2 r0 r1 E => ?_
    refine q_ixS (by decide) (letters_at r0 (by omega)) ?_
    exact ⟨_, rfl, by omega, E⟩
  · intro cs m1 hc hl hl2 E
    exact q cs m1 ⟨hl.1, by omega, hc⟩ hl.2 E
end Law
end
section
open PySem VI
namespace Law
theorem low_neg {w : List Nat} : (cutD w none (some (-1))).length = w.length - 1 := by
  unfold cutD
  rw [HT.sIx_none]
  have e : HT.sIx w.length w.length (some (-1)) = w.length - 1 := by
    unfold HT.sIx
    dsimp only
    rw [if_pos (by omega)]
    omega
  rw [e, List.drop_zero, List.length_take]
  omega
/-- one more word than those that were found -/
structure Step (fs : List (List Nat)) (w : List Nat) (k : Nat) : Prop where
  ok : WordOk w
  cnt : k + wleft fs w ≤ fs.length
  last : w.length = 8 → w.getLastD 0 < 97 + k
theorem Step.next {fs : List (List Nat)} {w : List Nat} {k : Nat} (h : Step fs w k) (hw : w ∈ fs) (hf : fs.length ≤ 4) : k < 26 ∧ Step fs (w.take 7 ++ [k + 97]) (k + 1) ∧ wleft fs (w.take 7 ++ [k + 97]) < wleft fs w := by
  have hpos : 1 ≤ wleft fs w := by
    unfold wleft
    refine List.length_pos_iff.mpr fun e => ?_
    have : w ∈ fs.filter fun f => decide (wrank w ≤ wrank f) := List.mem_filter.mpr ⟨hw, by simp⟩
    rw [e] at this
    cases this
  have hk : k < 4 := by have := h.cnt; omega
  have hl : (w.take 7 ++ [k + 97]).length = min 7 w.length + 1 := by rw [List.length_append, List.length_take]; rfl
  have hg : (w.take 7 ++ [k + 97]).getLastD 0 = k + 97 := by rw [List.getLastD_concat]
  have hr : wrank w < wrank (w.take 7 ++ [k + 97]) := by
    have := h.ok.len
    unfold wrank
    rw [hl, hg]
    by_cases h8 : w.length < 8
    · rw [if_pos h8]
      by_cases h7 : min 7 w.length + 1 < 8
      · rw [if_pos h7]; omega
      · rw [if_neg h7]; omega
    · rw [if_neg h8, if_neg (by omega)]
      have := h.last (by omega)
      omega
  have hlt : wleft fs (w.take 7 ++ [k + 97]) < wleft fs w := filter_lt hr hw rfl
  refine ⟨by omega, ⟨⟨by rw [hl]; omega, by rw [hl]; omega, low_app (fun c hc => h.ok.low c (List.mem_of_mem_take hc)) fun c hc => by rw [List.mem_singleton.mp hc]; omega⟩, by have := h.cnt; omega, fun _ => by rw [hg]; omega⟩, hlt⟩
theorem wleft_le (fs : List (List Nat)) (w : List Nat) : wleft fs w ≤ fs.length := List.length_filter_le _ _
theorem st_pool {m : Mem} {b : Nat} {ex : List D} (hb : HasBag b ex m) {Q : D → Mem → Prop}
    (q : ∀ (ws : List (List Nat)) m', ws.length = 5 → (∀ w ∈ ws, WordOk w) → Ext b ex m m' → Q (.lst (ws.map D.str)) m') : W (f__law_pool [.cell b] m) Q := by
  refine w_fn (ρ := [some (.cell b), none, none, none, none, none, none, none, none]) rfl rfl ?_
  unfold b__law_pool
  (repeat (walk_at "vi.s0"))
  refine w_call ?_
  (repeat (walk_at "vi.s0"))
  refine st_draw hb (by omega) (by omega) fun st m1 r0 r1 E1 => ?_
  (repeat (walk_at "vi.s0"))
  refine drawn (N := 26) (o := 5) (vb := 0) (vl := 1) (by omega) (by omega) E1.bag ?_ ?_ ?_ fun base m2 hbase hbl E2 => ?_
  · exact fun _ => rfl
  · exact fun _ => rfl
  · rfl
  (repeat (walk_at "vi.s0"))
  refine join_signs (by omega) ?_
  (repeat (walk_at "vi.s0"))
  have hbm : b < m2.length := by
    obtain ⟨o, ho, _⟩ := E2.bag
    exact (List.getElem?_eq_some_iff.mp ho).1
  have hE := E1.trans E2
  have hEc : Ext b ex m (m2 ++ [.lst []]) := ⟨by have := hE.len; rw [List.length_append]; omega, fun i hi hne => by rw [List.getElem?_append_left (by have := hE.len; omega)]; exact hE.oth i hi hne, by
    obtain ⟨o, ho, hk⟩ := hE.bag
    exact ⟨o, by rw [List.getElem?_append_left hbm]; exact ho, hk⟩⟩
  generalize hf : m2.length = f at *
  have hfm : m.length ≤ f := by rw [← hf]; exact hE.len
  have hfc : (m2 ++ [O.lst []])[f]? = some (.lst ([].map D.str)) := by rw [← hf]; rw [List.getElem?_append_right (Nat.le_refl _), Nat.sub_self]; rfl
  clear hE E1 E2 hb
  generalize m2 ++ [O.lst []] = mc at *
  refine w_for (fun i ρ m' => ∃ (x5 x6 x7 : Option D) (ws : List (List Nat)), ρ = [some (.cell b), some (.str lit32d10c), some (.int st), some (.str base), some (.cell f), x5, x6, x7, none] ∧ m'[f]? = some (.lst (ws.map D.str)) ∧ ws.length = i ∧ (∀ w ∈ ws, WordOk w) ∧ Ext b ex m m') ?_
  refine w_rng1 ?_
  (repeat (walk_at "vi.s0"))
  refine ⟨by omega, ⟨none, none, none, [], rfl, hfc, rfl, fun w hw => absurd hw List.not_mem_nil, hEc⟩, ?_, ?_⟩
  · rintro i d ρ m3 hd ⟨x5, x6, x7, ws, rfl, hfs, hwl, hws, E⟩
    have hi : i < 5 := by
      have := (List.getElem?_eq_some_iff.mp hd).1
      rw [rngD_len] at this
      omega
    have keep : ∀ {m4 m5 : Mem}, Ext b ex m4 m5 → m4[f]? = some (.lst (ws.map D.str)) → m5[f]? = some (.lst (ws.map D.str)) := fun {m4 m5} g h => (g.oth f (List.getElem?_eq_some_iff.mp h).1 (by omega)).trans h
    (repeat (walk_at "vi.s0"))
    refine drawn (N := 26) (o := 8) (vb := 0) (vl := 1) (by omega) (by omega) E.bag ?_ ?_ ?_ fun w0 m4 hw0 hwl0 E4 => ?_
    · exact fun _ => rfl
    · exact fun _ => rfl
    · rfl
    (repeat (walk_at "vi.s0"))
    refine join_signs (by omega) ?_
    have hfs4 := keep E4 hfs
    have E34 := E.trans E4
    (repeat (walk_at "vi.s0"))
    refine q_slS (by omega) ?_
    (repeat (walk_at "vi.s0"))
    refine q_slS (by omega) ?_
    (repeat (walk_at "vi.s0"))
    have c1 := low_neg (w := base)
    have c2 : cutD w0 none (some 1) = w0.take 1 := cut_to (by omega)
    have c2l : (w0.take 1).length = 1 := by rw [List.length_take]; have := hw0.pos; omega
    refine q_addS (by rw [c1, c2, c2l]; omega) ?_
    (repeat (walk_at "vi.s0"))
    refine q_addS (by omega) ?_
    (repeat (walk_at "vi.s0"))
    refine w_call ?_
    (repeat (walk_at "vi.s0"))
    refine st_draw E4.bag (by omega) (by omega) fun n m5 n0 n1 E5 => ?_
    (repeat (walk_at "vi.s0"))
    refine q_slS (by rw [List.length_append]; omega) ?_
    (repeat (walk_at "vi.s0"))
    have hfs5 := keep E5 hfs4
    have E35 := E34.trans E5
    rw [c2]
    have hA : WordOk (cutD base none (some (-1)) ++ w0.take 1) := ⟨by rw [List.length_append, c2l]; omega, by rw [List.length_append, c1, c2l]; omega, low_app (low_cut hbase.low) fun c hc => hw0.low c (List.mem_of_mem_take hc)⟩
    have hAl : (cutD base none (some (-1)) ++ w0.take 1).length ≤ 7 := by rw [List.length_append, c1, c2l]; omega
    have hBe : cutD (base ++ w0) none (some (1 + n)) = (base ++ w0).take (1 + n).toNat := cut_to (by omega)
    have hBl : ((base ++ w0).take (1 + n).toNat).length ≤ 7 := by rw [List.length_take]; omega
    have hB : WordOk ((base ++ w0).take (1 + n).toNat) := ⟨by rw [List.length_take, List.length_append]; have := hw0.pos; omega, by omega, fun c hc => low_app hbase.low hw0.low c (List.mem_of_mem_take hc)⟩
    rw [hBe]
    have hpick : ∃ w, L2.atI [D.str w0, D.str (cutD base none (some (-1)) ++ w0.take 1), D.str ((base ++ w0).take (1 + n).toNat)] st = some (.str w) ∧ WordOk w ∧ w.length ≤ 7 := by
      have : st = 0 ∨ st = 1 ∨ st = 2 := by omega
      rcases this with h | h | h
      · exact ⟨_, atI_ok 0 (by omega) rfl, hw0, by omega⟩
      · exact ⟨_, atI_ok 1 (by omega) rfl, hA, hAl⟩
      · exact ⟨_, atI_ok 2 (by omega) rfl, hB, hBl⟩
    obtain ⟨w, hat, hw, hwl7⟩ := hpick
    refine q_ixL hat ?_
    (repeat (walk_at "vi.s0"))
    clear hB hBl hBe hA hAl
    refine w_while (fun ρ m' => ∃ (w : List Nat) (k : Nat), ρ = [some (.cell b), some (.str lit32d10c), some (.int st), some (.str base), some (.cell f), some d, some (.str w), some (.int k), none] ∧ m' = m5 ∧ Step ws w k) (fun ρ _ => match ρ with | [_, _, _, _, _, _, some (.str w), _, _] => wleft ws w | _ => 0) _ _ _ ⟨w, 0, rfl, rfl, hw, by have := wleft_le ws w; omega, fun h => by omega⟩ ?_ ?_
    · show wleft ws w < fuel
      have := wleft_le ws w
      have : 16 ≤ fuel := by decide
      omega
    · rintro ρ m' ⟨w, k, rfl, rfl, hs⟩
      (repeat (walk_at "vi.s0"))
      refine q_inCell hfs5 ?_
      (repeat (walk_at "vi.s0"))
      refine ifq_d (fun hin => ?_) (fun hnin => ?_)
      · have hnext := hs.next hin (by omega)
        (repeat (walk_at "vi.s0"))
        have := hs.ok.len
        refine q_slS (by omega) ?_
        (repeat (walk_at "vi.s0"))
        refine q_ixS (by decide) (letters_at (by omega) (by omega)) ?_
        rw [cut_to (by omega)]
        (repeat (walk_at "vi.s0"))
        refine q_addS (by rw [List.length_take]; show _ + 1 ≤ _; omega) ?_
        (repeat (walk_at "vi.s0"))
        refine ⟨⟨w.take 7 ++ [k + 97], k + 1, ?_, rfl, hnext.2.1⟩, hnext.2.2⟩
        rw [Int.toNat_natCast]
        rfl
      · (repeat (walk_at "vi.s0"))
        refine w_app ?_
        (repeat (walk_at "vi.s0"))
        refine ⟨_, _, rfl, hfs5, ?_⟩
        (repeat (walk_at "vi.s0"))
        refine ⟨_, hfs5, by rw [List.length_map]; omega, ?_⟩
        (repeat (walk_at "vi.s0"))
        have hfl := (List.getElem?_eq_some_iff.mp hfs5).1
        refine ⟨_, _, _, ws ++ [w], rfl, ?_, ?_, ?_, ?_⟩
        · rw [List.getElem?_set_self hfl, List.map_append]; rfl
        · rw [List.length_append, hwl]; rfl
        · intro x hx
          rcases List.mem_append.mp hx with h | h
          · exact hws x h
          · rw [List.mem_singleton.mp h]; exact hs.ok
        · refine ⟨by rw [List.length_set]; exact E35.len, fun i hi hne => ?_, ?_⟩
          · rw [List.getElem?_set_ne (by omega)]; exact E35.oth i hi hne
          · obtain ⟨o, ho, hk⟩ := E35.bag
            exact ⟨o, by rw [List.getElem?_set_ne (by omega)]; exact ho, hk⟩
  · rintro ρ m3 ⟨x5, x6, x7, ws, rfl, hfs, hwl, hws, E⟩
    rw [rngD_len] at hwl
    (repeat (walk_at "vi.s0"))
    refine w_frz ?_
    (repeat (walk_at "vi.s0"))
    refine ⟨_, _, rfl, hfs, ?_⟩
    have hfl := (List.getElem?_eq_some_iff.mp hfs).1
    refine q ws _ hwl hws ⟨by rw [List.length_set]; exact E.len, fun i hi hne => ?_, ?_⟩
    · rw [List.getElem?_set_ne (by omega)]; exact E.oth i hi hne
    · obtain ⟨o, ho, hk⟩ := E.bag
      exact ⟨o, by rw [List.getElem?_set_ne (by omega)]; exact ho, hk⟩
end Law
end
section
open PySem VI
namespace Law
def Pooled (ex : List D) : Prop := ∃ ws : List (List Nat), ws.length = 5 ∧ (∀ w ∈ ws, WordOk w) ∧ ex = [.lst (ws.map D.str)]
theorem bag_app {cs pos cur stir cnt ex x} : bagL cs pos cur stir cnt ex ++ [x] = bagL cs pos cur stir cnt (ex ++ [x]) := rfl
theorem bag_at5 {cs pos cur stir cnt x ex} : L2.atI (bagL cs pos cur stir cnt (x :: ex)) 5 = some x := atI_ok 5 rfl rfl
theorem st_word {m : Mem} {b : Nat} {ex : List D} (hb : HasBag b ex m) (he : ex = [] ∨ Pooled ex) {Q : D → Mem → Prop}
    (q : ∀ w ex' m', WordOk w → Pooled ex' → Ext b ex' m m' → Q (.str w) m') : W (f__law_word [.cell b] m) Q := by
  refine w_fn (ρ := [some (.cell b)]) rfl rfl ?_
  unfold b__law_word
  have rest : ∀ ex' m1, Pooled ex' → Ext b ex' m m1 → W (bRet (eOp oIx (eOp oIx (eVar 0) (eC (.int 5))) (eCall f__law_draw (aCons (eVar 0) (aCons (eC (.int 5)) (aNil))))) [some (.cell b)] m1) (retQ Q) := by
    rintro ex' m1 ⟨ws, hl, hw, rfl⟩ E1
    obtain ⟨o, ho, cs, pos, cur, stir, cnt, rfl, B⟩ := E1.bag
    (repeat (walk_at "vi.s1"))
    refine q_ixC ho bag_at5 ?_
    (repeat (walk_at "vi.s1"))
    refine w_call ?_
    (repeat (walk_at "vi.s1"))
    refine st_draw E1.bag (by omega) (by omega) fun r m2 r0 r1 E => ?_
    have hlt : r.toNat < ws.length := by omega
    refine q_ixL (atI_ok r.toNat (by omega) (by rw [List.getElem?_map, List.getElem?_eq_getElem hlt]; rfl)) ?_
    (repeat (walk_at "vi.s1"))
    exact q _ _ _ (hw _ (List.getElem_mem hlt)) ⟨ws, hl, hw, rfl⟩ (E1.trans E)
  obtain ⟨o, ho, cs, pos, cur, stir, cnt, rfl, B⟩ := hb
  (repeat (walk_at "vi.s1"))
  refine q_lenC ho ?_
  (repeat (walk_at "vi.s1"))
  rw [bag_len]
  refine ifq_d (fun hlt => ?_) (fun hge => ?_)
  · rcases he with rfl | ⟨ws, hl, hw, rfl⟩
    · (repeat (walk_at "vi.s1"))
      refine w_app ?_
      (repeat (walk_at "vi.s1"))
      refine ⟨_, _, rfl, ho, ?_⟩
      refine w_call ?_
      (repeat (walk_at "vi.s1"))
      refine st_pool ⟨_, ho, cs, pos, cur, stir, cnt, rfl, B⟩ fun ws m1 hl hw E => ?_
      obtain ⟨o, ho1, cs, pos, cur, stir, cnt, rfl, B⟩ := E.bag
      refine ⟨_, ho1, by rw [bag_len]; show 5 < _; omega, ?_⟩
      refine seq_nx ?_
      refine rest _ _ ⟨ws, hl, hw, rfl⟩ (E.trans (Ext.set ho1 ⟨cs, pos, cur, stir, cnt, ?_, B⟩))
      rw [bag_app]; rfl
    · exact absurd hlt (by show ¬ ((1 + 5 : Nat) : Int) < 6; omega)
  · rcases he with rfl | hp
    · exact absurd (show ((0 + 5 : Nat) : Int) < 6 by omega) hge
    · refine w_bnil ?_
      refine seq_nx ?_
      exact rest _ _ hp (Ext.refl ⟨_, ho, cs, pos, cur, stir, cnt, rfl, B⟩)
theorem st_signs {m : Mem} {b : Nat} {ex : List D} (hb : HasBag b ex m) {n : Int} (h0 : 0 ≤ n) (h1 : n ≤ 1000000) {Q : D → Mem → Prop}
    (q : ∀ s m', s.length = n.toNat → Ext b ex m m' → Q (.str s) m') : W (f__law_signs [.cell b, .int n] m) Q := by
  refine w_fn (ρ := [some (.cell b), some (.int n), none, none, none]) rfl rfl ?_
  unfold b__law_signs
  (repeat (walk_at "vi.s1"))
  refine w_call ?_
  (repeat (walk_at "vi.s1"))
  refine st_draw hb (by omega) (by omega) fun st m1 r0 r1 E1 => ?_
  have hpick : ∃ w : List Nat, L2.atI [D.str lit905a33, D.str lit2ecc59, D.str [97, 98, 99, 32, 100], D.str [60, 38]] st = some (.str w) ∧ 1 ≤ w.length ∧ w.length ≤ 1000 := by
    have : st = 0 ∨ st = 1 ∨ st = 2 ∨ st = 3 := by omega
    rcases this with h | h | h | h
    · exact ⟨_, atI_ok 0 (by omega) rfl, by decide, by decide⟩
    · exact ⟨_, atI_ok 1 (by omega) rfl, by decide, by decide⟩
    · exact ⟨_, atI_ok 2 (by omega) rfl, by decide, by decide⟩
    · exact ⟨_, atI_ok 3 (by omega) rfl, by decide, by decide⟩
  obtain ⟨w, hat, w1, w2⟩ := hpick
  refine q_ixL hat ?_
  (repeat (walk_at "vi.s1"))
  refine st_comp (b := b) (ex := ex) (fun _ => True) (fun k => k = n.toNat) ?_ ?_ ?_
  · refine w_rng1 ?_
    (repeat (walk_at "vi.s1"))
    exact ⟨by omega, _, rfl, rfl, by omega, Ext.refl E1.bag⟩
  · intro i m2 hm
    (repeat (walk_at "vi.s1"))
    refine w_call ?_
    (repeat (walk_at "vi.s1"))
    refine q_lenS (by omega) ?_
    (repeat (walk_at "vi.s1"))
    refine st_draw hm (by omega) (by omega) fun r m3 s0 s1 E => ?_
    have hlt : r.toNat < w.length := by omega
    refine q_ixS (by omega) (atI_ok r.toNat (by omega) (List.getElem?_eq_getElem hlt)) ?_
    exact ⟨_, rfl, trivial, E⟩
  · intro cs m2 _ hl hl2 E
    (repeat (walk_at "vi.s1"))
    refine join_signs (by omega) ?_
    (repeat (walk_at "vi.s1"))
    exact q cs m2 hl (E1.trans E)
end Law
end
section
open PySem VI
namespace Law
theorem st_spoilt {m : Mem} {b : Nat} {ex : List D} (hb : HasBag b ex m) {line : List Nat} {n : Int} (hl : line.length ≤ 100000) (h0 : 0 ≤ n) (h1 : n ≤ 1000) {Q : D → Mem → Prop}
    (q : ∀ s m', s.length ≤ line.length + n.toNat → Ext b ex m m' → Q (.str s) m') : W (f__law_spoilt [.cell b, .str line, .int n] m) Q := by
  refine w_fn (ρ := [some (.cell b), some (.str line), some (.int n), none, none, none, none]) rfl rfl ?_
  unfold b__law_spoilt
  (repeat (walk_at "vi.s1"))
  refine w_for (fun i ρ m' => ∃ (x4 x5 x6 : Option D) (s : List Nat), ρ = [some (.cell b), some (.str s), some (.int n), some (.str lit41428f), x4, x5, x6] ∧ s.length ≤ line.length + i ∧ Ext b ex m m') ?_
  refine w_rng1 ?_
  (repeat (walk_at "vi.s1"))
  refine ⟨by omega, ⟨none, none, none, line, rfl, by omega, Ext.refl hb⟩, ?_, ?_⟩
  · rintro i d ρ m1 hd ⟨x4, x5, x6, s, rfl, hs, E⟩
    have hi := (List.getElem?_eq_some_iff.mp hd).1
    rw [rngD_len] at hi
    (repeat (walk_at "vi.s1"))
    refine w_call ?_
    (repeat (walk_at "vi.s1"))
    refine q_lenS (by omega) ?_
    (repeat (walk_at "vi.s1"))
    refine st_draw E.bag (by omega) (by omega) fun at' m2 a0 a1 E2 => ?_
    (repeat (walk_at "vi.s1"))
    refine w_call ?_
    (repeat (walk_at "vi.s1"))
    refine st_draw E2.bag (by omega) (by omega) fun way m3 w0 w1 E3 => ?_
    (repeat (walk_at "vi.s1"))
    refine q_slS (by omega) ?_
    (repeat (walk_at "vi.s1"))
    refine w_call ?_
    (repeat (walk_at "vi.s1"))
    refine q_lenS (by decide) ?_
    (repeat (walk_at "vi.s1"))
    refine st_draw E3.bag (by decide) (by decide) fun r m4 r0 r1 E4 => ?_
    have hlt : r.toNat < lit41428f.length := by omega
    refine q_ixS (by decide) (atI_ok r.toNat (by omega) (List.getElem?_eq_getElem hlt)) ?_
    (repeat (walk_at "vi.s1"))
    have hpick : ∃ w : List Nat, L2.atI [D.str [], D.str [lit41428f[r.toNat]]] (if decide (0 < way) = true then 1 else 0) = some (.str w) ∧ w.length ≤ 1 := by
      by_cases hw : 0 < way
      · rw [if_pos (decide_eq_true hw)]; exact ⟨_, atI_ok 1 rfl rfl, Nat.le_refl _⟩
      · rw [if_neg (by rw [decide_eq_false hw]; exact Bool.false_ne_true)]; exact ⟨_, atI_ok 0 rfl rfl, Nat.zero_le _⟩
    obtain ⟨w, hat, hw⟩ := hpick
    refine q_ixL hat ?_
    rw [cut_to a0]
    refine q_addS (by rw [List.length_take]; omega) ?_
    (repeat (walk_at "vi.s1"))
    refine q_slS (by omega) ?_
    have hc : (cutD s (some (at' + if decide (way < 2) = true then 1 else 0)) none).length ≤ s.length - at'.toNat := by
      rw [cut_from (by split <;> omega), List.length_drop]
      split <;> omega
    refine q_addS (by rw [List.length_append, List.length_take]; omega) ?_
    (repeat (walk_at "vi.s1"))
    refine ⟨_, _, _, _, rfl, ?_, E.trans (E2.trans (E3.trans E4))⟩
    rw [List.length_append, List.length_append, List.length_take]
    omega
  · rintro ρ m1 ⟨x4, x5, x6, s, rfl, hs, E⟩
    rw [rngD_len] at hs
    (repeat (walk_at "vi.s1"))
    exact q s m1 hs E
end Law
end
section
open PySem VI
namespace Law
theorem st_drawn_word {m : Mem} {b : Nat} {ex : List D} (hb : HasBag b ex m) (he : ex = [] ∨ Pooled ex) {Q : D → Mem → Prop}
    (q : ∀ w ex' m', w.length ≤ 16 → Pooled ex' → Ext b ex' m m' → Q (.str w) m') : W (f__law_drawn_word [.cell b] m) Q := by
  refine w_fn (ρ := [some (.cell b), none, none, none, none, none, none]) rfl rfl ?_
  unfold b__law_drawn_word
  (repeat (walk_at "vi.s1"))
  refine w_call ?_
  (repeat (walk_at "vi.s1"))
  refine st_draw hb (by omega) (by omega) fun way m1 r0 r1 E1 => ?_
  (repeat (walk_at "vi.s1"))
  refine w_call ?_
  (repeat (walk_at "vi.s1"))
  refine st_word E1.bag he fun w ex1 m2 hw hp E2 => ?_
  (repeat (walk_at "vi.s1"))
  have hE := E1.trans E2
  refine ifq_mid (fun ρ m' => ∃ (w : List Nat) (x4 : Option D), ρ = [some (.cell b), some (.str lit6e3145), some (.int way), some (.str w), x4, none, none] ∧ w.length ≤ 14 ∧ Ext b ex1 m m') (ifq_d (fun hway => ?_) (fun _ => ?_)) ?_
  · (repeat (walk_at "vi.s1"))
    refine w_call ?_
    (repeat (walk_at "vi.s1"))
    refine st_draw E2.bag (by omega) (by omega) fun n m3 n0 n1 E3 => ?_
    (repeat (walk_at "vi.s1"))
    refine w_call ?_
    (repeat (walk_at "vi.s1"))
    refine st_draw E3.bag (by omega) (by omega) fun k m4 k0 k1 E4 => ?_
    have hpick : ∃ x, L2.atI [D.int n, D.int 11, D.int 12, D.int 13] k = some (.int x) ∧ 0 ≤ x ∧ x ≤ 14 := by
      have : k = 0 ∨ k = 1 ∨ k = 2 ∨ k = 3 := by omega
      rcases this with h | h | h | h
      · exact ⟨_, atI_ok 0 (by omega) rfl, by omega, by omega⟩
      · exact ⟨_, atI_ok 1 (by omega) rfl, by omega, by omega⟩
      · exact ⟨_, atI_ok 2 (by omega) rfl, by omega, by omega⟩
      · exact ⟨_, atI_ok 3 (by omega) rfl, by omega, by omega⟩
    obtain ⟨x, hat, x0, x1⟩ := hpick
    refine q_ixL hat ?_
    (repeat (walk_at "vi.s1"))
    have hE4 := hE.trans (E3.trans E4)
    refine st_comp (b := b) (ex := ex1) (fun _ => True) (fun k => k = x.toNat) ?_ ?_ ?_
    · refine w_rng1 ?_
      (repeat (walk_at "vi.s1"))
      exact ⟨by omega, _, rfl, rfl, by omega, Ext.refl E4.bag⟩
    · intro i m5 hm
      (repeat (walk_at "vi.s1"))
      refine w_call ?_
      (repeat (walk_at "vi.s1"))
      refine st_draw hm (by omega) (by omega) fun r m6 s0 s1 E => ?_
      have hlt : r.toNat < lit6e3145.length := by show _ < 27; omega
      refine q_ixS (by decide) (atI_ok r.toNat (by omega) (List.getElem?_eq_getElem hlt)) ?_
      exact ⟨_, rfl, trivial, E⟩
    · intro cs m5 _ hl hl2 E
      (repeat (walk_at "vi.s1"))
      refine join_signs (by omega) ?_
      (repeat (walk_at "vi.s1"))
      exact ⟨cs, _, rfl, by omega, hE4.trans E⟩
  · (repeat (walk_at "vi.s1"))
    exact ⟨w, _, rfl, by have := hw.len; omega, hE⟩
  rintro ρ m3 ⟨w, x4, rfl, hw, E3⟩
  (repeat (walk_at "vi.s1"))
  refine ifq_mid (fun ρ m' => ∃ (w : List Nat) (x4 : Option D), ρ = [some (.cell b), some (.str lit6e3145), some (.int way), some (.str w), x4, none, none] ∧ w.length ≤ 15 ∧ Ext b ex1 m m') (ifq_d (fun hway => ?_) (fun _ => ?_)) ?_
  · (repeat (walk_at "vi.s1"))
    refine w_call ?_
    (repeat (walk_at "vi.s1"))
    refine st_spoilt E3.bag (by omega) (by omega) (by omega) fun s m4 hs E4 => ?_
    (repeat (walk_at "vi.s1"))
    exact ⟨s, _, rfl, by omega, E3.trans E4⟩
  · (repeat (walk_at "vi.s1"))
    exact ⟨w, _, rfl, by omega, E3⟩
  rintro ρ m4 ⟨w, x4, rfl, hw, E4⟩
  (repeat (walk_at "vi.s1"))
  refine ifq_mid (fun ρ m' => ∃ (w : List Nat) (x4 x5 : Option D), ρ = [some (.cell b), some (.str lit6e3145), some (.int way), some (.str w), x4, x5, none] ∧ w.length ≤ 16 ∧ Ext b ex1 m m') (ifq_d (fun hway => ?_) (fun _ => ?_)) ?_
  · (repeat (walk_at "vi.s1"))
    refine w_call ?_
    (repeat (walk_at "vi.s1"))
    refine q_lenS (by omega) ?_
    (repeat (walk_at "vi.s1"))
    refine st_draw E4.bag (by omega) (by omega) fun k m5 k0 k1 E5 => ?_
    (repeat (walk_at "vi.s1"))
    refine q_slS (by omega) ?_
    (repeat (walk_at "vi.s1"))
    refine w_call ?_
    (repeat (walk_at "vi.s1"))
    refine st_signs E5.bag (by omega) (by omega) fun s m6 hs E6 => ?_
    rw [cut_to k0]
    refine q_addS (by rw [List.length_take]; omega) ?_
    (repeat (walk_at "vi.s1"))
    refine q_slS (by omega) ?_
    rw [cut_from k0]
    refine q_addS (by rw [List.length_append, List.length_take, List.length_drop]; omega) ?_
    (repeat (walk_at "vi.s1"))
    refine ⟨_, _, _, rfl, ?_, E4.trans (E5.trans E6)⟩
    rw [List.length_append, List.length_append, List.length_take, List.length_drop]
    omega
  · (repeat (walk_at "vi.s1"))
    exact ⟨w, _, _, rfl, by omega, E4⟩
  rintro ρ m5 ⟨w, x4, x5, rfl, hw, E5⟩
  (repeat (walk_at "vi.s1"))
  exact q w _ _ hw hp E5
theorem rep_len (s : List Nat) : ∀ n, (List.replicate n s).flatten.length = n * s.length
  | 0 => by rw [Nat.zero_mul]; rfl
  | n + 1 => by rw [List.replicate_succ, List.flatten_cons, List.length_append, rep_len s n, Nat.succ_mul, Nat.add_comm]
theorem st_drawn_text {m : Mem} {b : Nat} {ex : List D} (hb : HasBag b ex m) {Q : D → Mem → Prop}
    (q : ∀ w m', w.length ≤ 2200 → Ext b ex m m' → Q (.str w) m') : W (f__law_drawn_text [.cell b] m) Q := by
  refine w_fn (ρ := [some (.cell b), none, none, none]) rfl rfl ?_
  unfold b__law_drawn_text
  (repeat (walk_at "vi.s1"))
  refine w_for (fun i ρ m' => ∃ (x2 x3 : Option D) (s : List Nat), ρ = [some (.cell b), some (.str s), x2, x3] ∧ s.length ≤ 8 * i ∧ Ext b ex m m') ?_
  refine w_rng1 ?_
  (repeat (walk_at "vi.s1"))
  refine w_call ?_
  (repeat (walk_at "vi.s1"))
  refine st_draw hb (by omega) (by omega) fun k1 m1 a0 a1 E1 => ?_
  (repeat (walk_at "vi.s1"))
  refine w_call ?_
  (repeat (walk_at "vi.s1"))
  refine st_draw E1.bag (by omega) (by omega) fun k2 m2 b0 b1 E2 => ?_
  (repeat (walk_at "vi.s1"))
  refine w_call ?_
  (repeat (walk_at "vi.s1"))
  refine st_draw E2.bag (by omega) (by omega) fun k3 m3 c0 c1 E3 => ?_
  (repeat (walk_at "vi.s1"))
  refine q_div (by omega) ?_
  (repeat (walk_at "vi.s1"))
  have hpick : ∃ x, L2.atI [D.int k1, D.int k2, D.int 80] (k3 / 7) = some (.int x) ∧ 0 ≤ x ∧ x ≤ 80 := by
    have : k3 / 7 = 0 ∨ k3 / 7 = 1 ∨ k3 / 7 = 2 := by omega
    rcases this with h | h | h
    · exact ⟨_, atI_ok 0 (by omega) rfl, by omega, by omega⟩
    · exact ⟨_, atI_ok 1 (by omega) rfl, by omega, by omega⟩
    · exact ⟨_, atI_ok 2 (by omega) rfl, by omega, by omega⟩
  obtain ⟨x, hat, x0, x1⟩ := hpick
  refine q_ixL hat ?_
  have hE := E1.trans (E2.trans E3)
  refine ⟨x, rfl, by omega, ⟨none, none, [], rfl, by show 0 ≤ _; omega, hE⟩, ?_, ?_⟩
  · rintro i d ρ m4 hd ⟨x2, x3, s, rfl, hs, E4⟩
    have hi := (List.getElem?_eq_some_iff.mp hd).1
    rw [rngD_len] at hi
    (repeat (walk_at "vi.s1"))
    refine w_call ?_
    (repeat (walk_at "vi.s1"))
    refine w_call ?_
    (repeat (walk_at "vi.s1"))
    refine st_draw E4.bag (by omega) (by omega) fun n m5 n0 n1 E5 => ?_
    (repeat (walk_at "vi.s1"))
    refine st_signs E5.bag (by omega) (by omega) fun t m6 ht E6 => ?_
    (repeat (walk_at "vi.s1"))
    refine w_call ?_
    (repeat (walk_at "vi.s1"))
    refine st_draw E6.bag (by omega) (by omega) fun k m7 k0 k1 E7 => ?_
    have hpick : ∃ w : List Nat, L2.atI [D.str [38, 108, 116, 59], D.str [38, 103, 116, 59], D.str [38, 97, 109, 112, 59], D.str [38, 113, 117, 111, 116, 59], D.str [38, 108, 116], D.str [97, 109, 112, 59], D.str lita2c655, D.str [38], D.str [38, 76, 84, 59], D.str [38, 110, 98, 115, 112, 59], D.str [38, 35, 54, 48, 59]] k = some (.str w) ∧ w.length ≤ 8 := by
      have : k = 0 ∨ k = 1 ∨ k = 2 ∨ k = 3 ∨ k = 4 ∨ k = 5 ∨ k = 6 ∨ k = 7 ∨ k = 8 ∨ k = 9 ∨ k = 10 := by omega
      rcases this with rfl | rfl | rfl | rfl | rfl | rfl | rfl | rfl | rfl | rfl | rfl <;> exact ⟨_, rfl, by decide⟩
    obtain ⟨w, hat, hw⟩ := hpick
    refine q_ixL hat ?_
    (repeat (walk_at "vi.s1"))
    refine w_call ?_
    (repeat (walk_at "vi.s1"))
    refine st_draw E7.bag (by omega) (by omega) fun j m8 j0 j1 E8 => ?_
    have hpick : ∃ u : List Nat, L2.atI [D.str t, D.str w] j = some (.str u) ∧ u.length ≤ 8 := by
      have : j = 0 ∨ j = 1 := by omega
      rcases this with rfl | rfl
      · exact ⟨_, rfl, by omega⟩
      · exact ⟨_, rfl, by omega⟩
    obtain ⟨u, hat2, hu⟩ := hpick
    refine q_ixL hat2 ?_
    refine q_addS (by omega) ?_
    (repeat (walk_at "vi.s1"))
    exact ⟨_, _, _, rfl, by rw [List.length_append]; omega, E4.trans (E5.trans (E6.trans (E7.trans E8)))⟩
  · rintro ρ m4 ⟨x2, x3, s, rfl, hs, E4⟩
    rw [rngD_len] at hs
    (repeat (walk_at "vi.s1"))
    refine w_call ?_
    (repeat (walk_at "vi.s1"))
    refine st_draw E4.bag (by omega) (by omega) fun j m5 j0 j1 E5 => ?_
    have hpick : ∃ u, L2.atI [D.int 0, D.int 0, D.int 0, D.int 380] j = some (.int u) ∧ 0 ≤ u ∧ u ≤ 380 := by
      have : j = 0 ∨ j = 1 ∨ j = 2 ∨ j = 3 := by omega
      rcases this with rfl | rfl | rfl | rfl <;> exact ⟨_, rfl, by omega, by omega⟩
    obtain ⟨u, hat2, u0, u1⟩ := hpick
    refine q_ixL hat2 ?_
    refine q_mulS (by refine ⟨by omega, by omega, by decide⟩) ?_
    have hr : (List.replicate u.toNat [97, 98, 32, 99]).flatten.length = u.toNat * 4 := rep_len _ _
    refine q_addS (by omega) ?_
    (repeat (walk_at "vi.s1"))
    exact q _ _ (by rw [List.length_append]; omega) (E4.trans E5)
end Law
end
section
open PySem VI
namespace Law
theorem pds_one : ∀ cs : List Nat, D.pds (cs.map fun c => D.str [c]) = some (cs.map fun c => PyData.str (VI.S [c]))
  | [] => rfl
  | c :: r => by
    show D.pds (.str [c] :: r.map fun c => D.str [c]) = _
    unfold D.pds
    rw [pds_one r]
    rfl
theorem plain_one : ∀ cs : List Nat, PyData.plainAll (cs.map fun c => PyData.str (VI.S [c])) = true
  | [] => rfl
  | c :: r => by rw [List.map_cons]; unfold PyData.plainAll; rw [plain_one r]; rfl
theorem depth_one : ∀ cs : List Nat, PyData.depthAll (cs.map fun c => PyData.str (VI.S [c])) = 0
  | [] => rfl
  | c :: r => by rw [List.map_cons]; unfold PyData.depthAll; rw [depth_one r]; rfl
theorem q_eqNil {cs : List Nat} {m : Mem} {Q : D → Mem → Prop} (q : Q (.bl (decide (cs = []))) m) : opQ (oEq m (.lst (cs.map fun c => D.str [c])) (.lst [])) Q m := by
  refine ⟨_, ?_, q⟩
  have e1 : (D.lst (cs.map fun c => D.str [c])).pd = some (.list (cs.map fun c => PyData.str (VI.S [c]))) := by
    unfold D.pd; rw [pds_one]
  have e2 : (D.lst []).pd = some (.list []) := rfl
  have k1 : okPD (.list (cs.map fun c => PyData.str (VI.S [c]))) = true := by
    unfold okPD PyData.plain PyData.depth
    rw [plain_one, depth_one]
    rfl
  have k2 : okPD (.list []) = true := by decide
  unfold oEq
  rw [if_neg (by simp [isSc])]
  unfold eqDt
  rw [e1, e2]
  dsimp only
  rw [k1, k2]
  show some (D.bl (PyData.eqv _ _)) = _
  congr 2
  cases cs <;> rfl
/-- what a word is -/
def isWord (s : List Nat) : Bool := decide (1 ≤ s.length) && decide (s.length ≤ 12) && !decide (s.head? = some 45) && s.all fun c => decide (c ∈ lit6e3145)
theorem st_law_is_word {s : List Nat} {m : Mem} (hl : s.length ≤ 100000) {Q : D → Mem → Prop} (q : Q (.bl (isWord s)) m) : W (f__law_is_word [.str s] m) Q := by
  refine w_fn (ρ := [some (.str s), none]) rfl rfl ?_
  unfold b__law_is_word
  (repeat (walk_at "vi.s2"))
  refine q_lenS (by omega) ?_
  (repeat (walk_at "vi.s2"))
  refine ifq_d (fun h1 => ?_) (fun h1 => ?_)
  · (repeat (walk_at "vi.s2"))
    refine ifq_d (fun h2 => ?_) (fun h2 => ?_)
    · cases s with
      | nil => exact absurd h1 (by show ¬ (1 : Int) ≤ ((0 : Nat) : Int); omega)
      | cons c r =>
        (repeat (walk_at "vi.s2"))
        refine q_ixS (by omega) (k := c) (atI_ok 0 rfl rfl) ?_
        (repeat (walk_at "vi.s2"))
        refine ifq_d (fun h3 => ?_) (fun h3 => ?_)
        · (repeat (walk_at "vi.s2"))
          have : isWord (c :: r) = false := by
            unfold isWord
            injection h3 with h3
            subst h3
            rw [List.head?_cons, decide_eq_true (p := some 45 = some 45) rfl, Bool.not_true, Bool.and_false, Bool.false_and]
          rw [this] at q
          exact q
        · (repeat (walk_at "vi.s2"))
          refine w_comp (fun i acc m' => m' = m ∧ acc = (((c :: r).take i).filter fun c => !decide (c ∈ lit6e3145)).map fun c => D.str [c]) ?_
          (repeat (walk_at "vi.s2"))
          refine ⟨by rw [List.length_map]; omega, ⟨rfl, rfl⟩, ?_, ?_⟩
          · rintro i d acc m1 hd ⟨rfl, rfl⟩
            rw [List.getElem?_map] at hd
            obtain ⟨x, hx, rfl⟩ := Option.map_eq_some_iff.mp hd
            have ht : (c :: r).take (i + 1) = (c :: r).take i ++ [x] := by rw [List.take_add_one, hx]; rfl
            show W (gName 1 _ [some (.str (c :: r)), none] _) _
            (repeat (walk_at "vi.s2"))
            rw [ht, List.filter_append]
            refine ifq_d (fun hn => ?_) (fun hn => ?_)
            · (repeat (walk_at "vi.s2"))
              refine ⟨rfl, ?_⟩
              rw [List.filter_cons, if_neg (by rw [decide_eq_true hn]; simp), List.filter_nil, List.append_nil]
            · (repeat (walk_at "vi.s2"))
              refine ⟨rfl, ?_⟩
              rw [List.map_append, List.filter_cons, if_pos (by rw [decide_eq_false hn]; rfl)]
              rfl
          · rintro acc m1 ⟨rfl, rfl⟩
            rw [List.length_map, List.take_length]
            (repeat (walk_at "vi.s2"))
            refine q_eqNil ?_
            (repeat (walk_at "vi.s2"))
            have : isWord (c :: r) = decide ((c :: r).filter (fun c => !decide (c ∈ lit6e3145)) = []) := by
              unfold isWord
              rw [decide_eq_true (p := 1 ≤ (c :: r).length) (by rw [List.length_cons]; omega), decide_eq_true (p := (c :: r).length ≤ 12) (by omega), decide_eq_false (p := (c :: r).head? = some 45) (by rw [List.head?_cons]; intro e; injection e with e; exact h3 (by rw [e])), Bool.and_self, Bool.not_false, Bool.and_self, Bool.true_and]
              rw [Bool.eq_iff_iff, decide_eq_true_iff, List.all_eq_true, List.filter_eq_nil_iff]
              constructor
              · intro h a ha; rw [h a ha]; simp
              · intro h a ha; have := h a ha; simpa using this
            rw [this] at q
            exact q
    · (repeat (walk_at "vi.s2"))
      have : isWord s = false := by
        unfold isWord
        rw [decide_eq_false (p := s.length ≤ 12) (by omega), Bool.and_false, Bool.false_and, Bool.false_and]
      rw [this] at q
      exact q
  · (repeat (walk_at "vi.s2"))
    have : isWord s = false := by
      unfold isWord
      rw [decide_eq_false (p := 1 ≤ s.length) (by omega), Bool.false_and, Bool.false_and, Bool.false_and]
    rw [this] at q
    exact q
end Law
end
section
open PySem VI
namespace Law
def isL (c : Nat) : Bool := decide (c ∈ lit6e3145)
def wordAt (s : List Nat) (a : Nat) : List Nat := if 12 < ((s.drop a).takeWhile isL).length ∨ ((s.drop a).takeWhile isL).head? = some 45 then [] else (s.drop a).takeWhile isL
theorem cut_mid {w : List Nat} {i j : Nat} (h : i ≤ j) : cutD w (some (i : Int)) (some (j : Int)) = (w.drop i).take (j - i) := by
  unfold cutD
  rw [HT.sIx_nat, HT.sIx_nat]
  by_cases h1 : i ≤ w.length
  · rw [Nat.min_eq_left h1]
    rw [List.take_eq_take_iff, List.length_drop]
    omega
  · rw [List.drop_eq_nil_of_le (as := w) (i := min i w.length) (by omega), List.drop_eq_nil_of_le (as := w) (i := i) (by omega), List.take_nil, List.take_nil]
theorem take_tw {p : Nat → Bool} : ∀ l : List Nat, l.take (l.takeWhile p).length = l.takeWhile p
  | [] => rfl
  | c :: r => by
    rw [List.takeWhile_cons]
    split
    · rw [List.length_cons, List.take_succ_cons, take_tw r]
    · rfl
theorem tw_take {p : Nat → Bool} : ∀ (l : List Nat) (n : Nat), (l.take n).takeWhile p = (l.takeWhile p).take n
  | [], n => by simp
  | c :: r, 0 => rfl
  | c :: r, n + 1 => by
    rw [List.take_succ_cons, List.takeWhile_cons, List.takeWhile_cons]
    split
    · rw [List.take_succ_cons, tw_take r n]
    · rfl
theorem st_run_at {s : List Nat} {a : Nat} {m : Mem} (hl : s.length ≤ 100000) (ha : a ≤ 100000) {Q : D → Mem → Prop} (q : Q (.str ((s.drop a).takeWhile isL)) m) : W (f_run_at [.str s, .int a, k_WORD_SIGNS] m) Q := by
  refine w_fn (ρ := [some (.str s), some (.int a), some k_WORD_SIGNS, none]) rfl rfl ?_
  unfold b_run_at k_WORD_SIGNS
  (repeat (walk_at "vi.s3"))
  refine q_slS (by omega) ?_
  rw [cut_from (by omega), show (a : Int).toNat = a by omega]
  have hdl : (s.drop a).length ≤ s.length := by rw [List.length_drop]; omega
  have hd := take_tw (p := isL) (s.drop a)
  have ht : ((s.drop a).takeWhile isL).length ≤ (s.drop a).length := (List.takeWhile_sublist _).length_le
  generalize hx : s.drop a = x at *
  (repeat (walk_at "vi.s3"))
  refine q_lenS (by omega) ?_
  (repeat (walk_at "vi.s3"))
  refine q_lstrip (by omega) ?_
  have e : (x.takeWhile fun c => decide (c ∈ lit6e3145)) = x.takeWhile isL := rfl
  rw [e]
  (repeat (walk_at "vi.s3"))
  refine q_lenS (by rw [List.length_drop]; omega) ?_
  (repeat (walk_at "vi.s3"))
  refine q_slS (by omega) ?_
  rw [List.length_drop, cut_to (by omega)]
  have e2 : ((x.length : Int) - ((x.length - (x.takeWhile isL).length : Nat) : Int)).toNat = (x.takeWhile isL).length := by omega
  rw [e2, hd]
  (repeat (walk_at "vi.s3"))
  exact q
theorem st_word_at {s : List Nat} {a : Nat} {m : Mem} (hl : s.length ≤ 100000) (ha : a ≤ 90000) {Q : D → Mem → Prop} (q : Q (.str (wordAt s a)) m) : W (f_word_at [.str s, .int a] m) Q := by
  refine w_fn (ρ := [some (.str s), some (.int a), none]) rfl rfl ?_
  unfold b_word_at k_MOST_WORD_SIGNS
  (repeat (walk_at "vi.s3"))
  refine w_call ?_
  (repeat (walk_at "vi.s3"))
  refine q_slS (by omega) ?_
  have ec : cutD s (some (a : Int)) (some ((a : Int) + 12 + 1)) = (s.drop a).take 13 := by
    rw [show ((a : Int) + 12 + 1) = ((a + 13 : Nat) : Int) by omega, cut_mid (by omega), Nat.add_sub_cancel_left]
  rw [ec]
  (repeat (walk_at "vi.s3"))
  have hw : ((s.drop a).take 13).length ≤ 13 := by rw [List.length_take]; omega
  refine st_run_at (a := 0) (by omega) (by omega) ?_
  rw [List.drop_zero, tw_take]
  have hlen : (((s.drop a).takeWhile isL).take 13).length = min 13 ((s.drop a).takeWhile isL).length := List.length_take
  have hfull : ((s.drop a).takeWhile isL).length ≤ 13 → ((s.drop a).takeWhile isL).take 13 = (s.drop a).takeWhile isL := fun h => List.take_of_length_le h
  have hhead : (((s.drop a).takeWhile isL).take 13).head? = ((s.drop a).takeWhile isL).head? := by
    cases (s.drop a).takeWhile isL <;> rfl
  have hq : wordAt s a = if 12 < ((s.drop a).takeWhile isL).length ∨ ((s.drop a).takeWhile isL).head? = some 45 then [] else (s.drop a).takeWhile isL := rfl
  generalize (s.drop a).takeWhile isL = y at *
  (repeat (walk_at "vi.s3"))
  refine q_lenS (by omega) ?_
  (repeat (walk_at "vi.s3"))
  refine ifq_d (fun h12 => ?_) (fun h12 => ?_)
  · (repeat (walk_at "vi.s3"))
    rw [hq, if_pos (.inl (by omega))] at q
    exact q
  · (repeat (walk_at "vi.s3"))
    rw [startsD_one, hhead]
    refine ifq_d (fun h45 => ?_) (fun h45 => ?_)
    · (repeat (walk_at "vi.s3"))
      rw [hq, if_pos (.inr h45)] at q
      exact q
    · (repeat (walk_at "vi.s3"))
      rw [hq, if_neg (fun h => h.elim (fun h => by omega) h45)] at q
      rw [hfull (by omega)]
      exact q
theorem tw_self {p : Nat → Bool} : ∀ {l : List Nat}, l.takeWhile p = l ↔ ∀ x ∈ l, p x = true
  | [] => ⟨(fun _ x h => nomatch h), fun _ => rfl⟩
  | c :: r => by
    rw [List.takeWhile_cons]
    by_cases h : p c = true
    · rw [if_pos h]
      constructor
      · intro e x hx
        injection e with _ e
        rcases List.mem_cons.mp hx with rfl | hx
        · exact h
        · exact tw_self.mp e x hx
      · intro g
        rw [tw_self.mpr fun x hx => g x (List.mem_cons_of_mem _ hx)]
    · rw [if_neg h]
      exact ⟨(fun e => nomatch e), fun g => absurd (g c List.mem_cons_self) h⟩
theorem isWord_eq (s : List Nat) : isWord s = (!decide (s = []) && decide (wordAt s 0 = s)) := by
  unfold isWord
  cases s with
  | nil => rfl
  | cons c r =>
    rw [decide_eq_true (p := 1 ≤ (c :: r).length) (by rw [List.length_cons]; omega), decide_eq_false (p := c :: r = []) (by simp), Bool.true_and, Bool.not_false, Bool.true_and]
    rw [Bool.eq_iff_iff, decide_eq_true_iff]
    have hp : (c :: r).takeWhile isL <+: c :: r := List.takeWhile_prefix _
    unfold wordAt
    rw [List.drop_zero]
    constructor
    · intro h
      rw [Bool.and_eq_true, Bool.and_eq_true, decide_eq_true_iff] at h
      obtain ⟨⟨h1, h2⟩, h3⟩ := h
      have e : (c :: r).takeWhile isL = c :: r := by
        rw [tw_self]
        intro x hx
        exact List.all_eq_true.mp h3 x hx
      rw [e, if_neg]
      rintro (h | h)
      · omega
      · rw [decide_eq_true h] at h2; cases h2
    · intro h
      split at h
      · cases h
      · rename_i hn
        rw [h] at hn
        rw [Bool.and_eq_true, Bool.and_eq_true, decide_eq_true_iff]
        refine ⟨⟨by omega, ?_⟩, ?_⟩
        · rw [decide_eq_false fun g => hn (.inr g)]; rfl
        · rw [List.all_eq_true]
          have := tw_self.mp h
          exact fun x hx => this x hx
theorem st_is_word {s : List Nat} {m : Mem} (hl : s.length ≤ 100000) {Q : D → Mem → Prop} (q : Q (.bl (isWord s)) m) : W (f_is_word [.str s] m) Q := by
  refine w_fn (ρ := [some (.str s)]) rfl rfl ?_
  unfold b_is_word
  rw [isWord_eq] at q
  (repeat (walk_at "vi.s3"))
  refine ifq_d (fun h => ?_) (fun h => ?_)
  · (repeat (walk_at "vi.s3"))
    rw [decide_eq_true h] at q
    exact q
  · (repeat (walk_at "vi.s3"))
    refine w_call ?_
    (repeat (walk_at "vi.s3"))
    refine st_word_at (a := 0) hl (by omega) ?_
    (repeat (walk_at "vi.s3"))
    rw [decide_eq_false h, Bool.not_false, Bool.true_and] at q
    exact q
end Law
end
section
open PySem VI
namespace Law
theorem w_written {s : List Nat} {m : Mem} (hl : s.length ≤ 100000) {Q : D → Mem → Prop} (q : Q (.str (wrS s)) m) : W (f_written_sign [.str s] m) Q := ⟨_, m, by unfold f_written_sign; dsimp only; rw [if_pos hl], q⟩
theorem w_plain {s : List Nat} {m : Mem} (hl : s.length ≤ 100000) {Q : D → Mem → Prop} (q : Q (.str (plS s)) m) : W (f_plain_signs [.str s] m) Q := ⟨_, m, by unfold f_plain_signs; dsimp only; rw [if_pos hl], q⟩
def codes4 : List (List Nat × Nat) := [(cLt, 60), (cGt, 62), (cAmp, 38), (cQuot, 34)]
theorem codes_step {l : List Nat} : ∀ {i : Nat} {p : List Nat × Nat}, codes4[i]? = some p → (∀ j, j < i → ∀ p, codes4[j]? = some p → ¬ l.take p.1.length = p.1) → l.take p.1.length = p.1 → stepL l = (p.2, p.1.length) := by
  intro i p hp hb ht
  have n0 : 0 < i → ¬ l.take 4 = cLt := fun h => hb 0 h _ rfl
  have n1 : 1 < i → ¬ l.take 4 = cGt := fun h => hb 1 h _ rfl
  have n2 : 2 < i → ¬ l.take 5 = cAmp := fun h => hb 2 h _ rfl
  unfold stepL
  match i, hp with
  | 0, hp =>
    cases hp
    have ht : l.take 4 = cLt := ht
    rw [if_pos ht]
    rfl
  | 1, hp =>
    cases hp
    have ht : l.take 4 = cGt := ht
    rw [if_neg (n0 (by omega)), if_pos ht]
    rfl
  | 2, hp =>
    cases hp
    have ht : l.take 5 = cAmp := ht
    rw [if_neg (n0 (by omega)), if_neg (n1 (by omega)), if_pos ht]
    rfl
  | 3, hp =>
    cases hp
    have ht : l.take 6 = cQuot := ht
    rw [if_neg (n0 (by omega)), if_neg (n1 (by omega)), if_neg (n2 (by omega)), if_pos ht]
    rfl
  | n + 4, hp => cases hp
theorem codes_none {l : List Nat} (hb : ∀ j, j < 4 → ∀ p, codes4[j]? = some p → ¬ l.take p.1.length = p.1) : stepL l = (l.headD 0, 1) := by
  have n0 : ¬ l.take 4 = cLt := hb 0 (by omega) _ rfl
  have n1 : ¬ l.take 4 = cGt := hb 1 (by omega) _ rfl
  have n2 : ¬ l.take 5 = cAmp := hb 2 (by omega) _ rfl
  have n3 : ¬ l.take 6 = cQuot := hb 3 (by omega) _ rfl
  unfold stepL
  rw [if_neg n0, if_neg n1, if_neg n2, if_neg n3]
theorem codes_le {i : Nat} {p : List Nat × Nat} (h : codes4[i]? = some p) : p.1.length ≤ 6 := by
  have : ∀ p ∈ codes4, p.1.length ≤ 6 := by decide
  exact this p (List.mem_of_getElem? h)
theorem st_sign {s : List Nat} {k : Nat} {m : Mem} (hl : s.length ≤ 100000) (hk : k < s.length) {Q : D → Mem → Prop} (q : Q (.tup [.str [(stepL (s.drop k)).1], .int ((k + (stepL (s.drop k)).2 : Nat) : Int)]) m) : W (f__law_sign [.str s, .int k] m) Q := by
  refine w_fn (ρ := [some (.str s), some (.int k), none, none]) rfl rfl ?_
  unfold b__law_sign
  (repeat (walk_at "vi.s1"))
  refine w_for (fun i ρ m' => ∃ (x2 x3 : Option D), ρ = [some (.str s), some (.int k), x2, x3] ∧ m' = m ∧ ∀ j, j < i → ∀ p, codes4[j]? = some p → ¬ (s.drop k).take p.1.length = p.1) ?_
  (repeat (walk_at "vi.s1"))
  refine ⟨⟨none, none, rfl, rfl, fun j hj => absurd hj (Nat.not_lt_zero _)⟩, ?_, ?_⟩
  · rintro i d ρ m1 hd ⟨x2, x3, rfl, rfl, hb⟩
    have hd2 : (codes4.map fun p => D.tup [.str p.1, .str [p.2]])[i]? = some d := hd
    rw [List.getElem?_map] at hd2
    obtain ⟨p, hp, rfl⟩ := Option.map_eq_some_iff.mp hd2
    have hpl := codes_le hp
    (repeat (walk_at "vi.s1"))
    refine q_lenS (by omega) ?_
    (repeat (walk_at "vi.s1"))
    refine q_slS (by omega) ?_
    have hc : cutD s (some (k : Int)) (some ((k : Int) + (p.1.length : Nat))) = (s.drop k).take p.1.length := by
      have := cut_mid (w := s) (i := k) (j := k + p.1.length) (by omega)
      rw [Nat.add_sub_cancel_left] at this
      exact this
    rw [hc]
    (repeat (walk_at "vi.s1"))
    refine ifq_d (fun ht => ?_) (fun ht => ?_)
    · (repeat (walk_at "vi.s1"))
      refine q_lenS (by omega) ?_
      (repeat (walk_at "vi.s1"))
      rw [codes_step hp hb ht] at q
      exact q
    · (repeat (walk_at "vi.s1"))
      refine ⟨_, _, rfl, rfl, fun j hj p' hp' => ?_⟩
      by_cases e : j = i
      · subst e
        rw [hp] at hp'
        cases hp'
        exact ht
      · exact hb j (by omega) p' hp'
  · rintro ρ m1 ⟨x2, x3, rfl, rfl, hb⟩
    (repeat (walk_at "vi.s1"))
    refine q_ixS (by omega) (atI_ok k rfl (List.getElem?_eq_getElem hk)) ?_
    (repeat (walk_at "vi.s1"))
    rw [codes_none hb] at q
    have : (s.drop k).headD 0 = s[k] := by rw [List.drop_eq_getElem_cons hk]; rfl
    rw [this] at q
    exact q
theorem st_law_plain {s : List Nat} {m : Mem} (hl : s.length ≤ 100000) {Q : D → Mem → Prop} (q : Q (.str (plS s)) m) : W (f__law_plain [.str s] m) Q := by
  refine w_fn (ρ := [some (.str s), none, none, none]) rfl rfl ?_
  unfold b__law_plain
  (repeat (walk_at "vi.s1"))
  have hpl := plS_len s
  refine w_while (fun ρ m' => ∃ (k : Nat) (f : List Nat) (x3 : Option D), ρ = [some (.str s), some (.str f), some (.int k), x3] ∧ m' = m ∧ k ≤ s.length ∧ f ++ plS (s.drop k) = plS s) (fun ρ _ => match ρ with | [_, _, some (.int k), _] => s.length - k.toNat | _ => 0) _ _ _ ⟨0, [], none, rfl, rfl, Nat.zero_le _, rfl⟩ ?_ ?_
  · show s.length - (0 : Int).toNat < fuel
    have : 200000 ≤ fuel := by decide
    omega
  · rintro ρ m1 ⟨k, f, x3, rfl, rfl, hk, he⟩
    have hfl : f.length ≤ s.length := by
      have := congrArg List.length he
      rw [List.length_append] at this
      omega
    (repeat (walk_at "vi.s1"))
    refine q_lenS (by omega) ?_
    (repeat (walk_at "vi.s1"))
    refine ifq_d (fun hlt => ?_) (fun hge => ?_)
    · have hlt' : k < s.length := by omega
      have hne : s.drop k ≠ [] := by
        intro e
        have := congrArg List.length e
        rw [List.length_drop] at this
        have h0 : ([] : List Nat).length = 0 := rfl
        omega
      have h1 := stepL_pos (s.drop k)
      have h2 := stepL_le hne
      rw [List.length_drop] at h2
      (repeat (walk_at "vi.s1"))
      refine w_call ?_
      (repeat (walk_at "vi.s1"))
      refine st_sign hl hlt' ?_
      (repeat (walk_at "vi.s1"))
      refine q_addS (by show _ + 1 ≤ _; omega) ?_
      (repeat (walk_at "vi.s1"))
      refine ⟨⟨_, _, _, rfl, rfl, by omega, ?_⟩, ?_⟩
      · rw [← he, plS_step hne, List.drop_drop, List.append_assoc]
        rfl
      · show s.length - (((k + (stepL (s.drop k)).2 : Nat) : Int).toNat) < s.length - ((k : Int)).toNat
        omega
    · (repeat (walk_at "vi.s1"))
      rw [List.drop_eq_nil_of_le (by omega), plS_nil, List.append_nil] at he
      rw [← he] at q
      exact q
end Law
end
section
open PySem VI
namespace Law
def escD : List (L2.Key × D) := [(.inr (VI.S [60]), .str cLt), (.inr (VI.S [38]), .str cAmp)]
theorem key_ne {s t : List Nat} (h : s ≠ t) : (Sum.inr (VI.S s) : L2.Key) ≠ .inr (VI.S t) := fun e => by
  injection e with e
  exact h ((S_eq s t).mp e)
theorem merge_esc : mergeD [] escD = escD := by
  unfold mergeD escD
  rw [List.foldl_cons, List.foldl_cons, List.foldl_nil]
  have e1 : putKD [] (Sum.inr (VI.S [60]) : L2.Key) (.str cLt) = [(.inr (VI.S [60]), .str cLt)] := rfl
  rw [e1]
  unfold putKD
  rw [if_neg]
  · rfl
  · rw [List.any_cons, decide_eq_false (key_ne (by decide))]
    simp
theorem val_esc (c : Nat) : (valD escD (.inr (VI.S [c]))).getD (.str [c]) = .str (esc c) := by
  unfold valD escD esc
  by_cases h : c = 60
  · subst h
    rw [List.find?_cons_of_pos (by exact decide_eq_true rfl)]
    rfl
  · rw [List.find?_cons_of_neg (by rw [decide_eq_false (key_ne (by intro e; injection e with e; exact h e.symm))]; exact Bool.false_ne_true)]
    by_cases g : c = 38
    · subst g
      rw [List.find?_cons_of_pos (by exact decide_eq_true rfl)]
      rfl
    · rw [List.find?_cons_of_neg (by rw [decide_eq_false (key_ne (by intro e; injection e with e; exact g e.symm))]; exact Bool.false_ne_true), if_neg g, if_neg h]
      rfl
theorem sum_esc (s : List Nat) : ((s.map esc).map (·.length)).sum ≤ 5 * s.length := by
  induction s with
  | nil => exact Nat.le_refl _
  | cons c r ih =>
    rw [List.map_cons, List.map_cons, List.sum_cons, List.length_cons]
    have := esc_len c
    omega
theorem st_signs_right {s : List Nat} {m : Mem} (hl : s.length ≤ 10000) {Q : D → Mem → Prop} (q : Q (.bl true) (m ++ [.dct escD])) : W (f__law_signs_right [.str s] m) Q := by
  refine w_fn (ρ := [some (.str s), none, none, none, none]) rfl rfl ?_
  unfold b__law_signs_right
  have hw := wrS_len s
  have hp := plS_len s
  (repeat (walk_at "vi.s1"))
  refine ⟨by rw [List.getElem?_append_right (Nat.le_refl _), Nat.sub_self]; rfl, by decide, ?_⟩
  have hm : (m ++ [O.dct []]).set m.length (.dct (mergeD [] escD)) = m ++ [.dct escD] := by
    rw [merge_esc, List.set_append_right _ _ (Nat.le_refl _), Nat.sub_self]
    rfl
  show W (gName 1 (.cell m.length) _ ((m ++ [O.dct []]).set m.length (.dct (mergeD [] escD)))) _
  rw [hm]
  have hat : (m ++ [O.dct escD])[m.length]? = some (.dct escD) := by rw [List.getElem?_append_right (Nat.le_refl _), Nat.sub_self]; rfl
  generalize m ++ [O.dct escD] = M at *
  (repeat (walk_at "vi.s1"))
  refine w_comp (fun i acc m' => m' = M ∧ acc = (s.take i).map fun c => D.str (esc c)) ?_
  (repeat (walk_at "vi.s1"))
  refine ⟨by rw [List.length_map]; omega, ⟨rfl, rfl⟩, ?_, ?_⟩
  · rintro i d acc m1 hd ⟨rfl, rfl⟩
    rw [List.getElem?_map] at hd
    obtain ⟨x, hx, rfl⟩ := Option.map_eq_some_iff.mp hd
    have ht : s.take (i + 1) = s.take i ++ [x] := by rw [List.take_add_one, hx]; rfl
    show W (gName 4 _ [some (.str s), some (.cell m.length), none, none, none] _) _
    (repeat (walk_at "vi.s1"))
    refine ⟨_, _, rfl, hat, ?_⟩
    (repeat (walk_at "vi.s1"))
    refine ⟨_, hat, ?_⟩
    rw [val_esc]
    exact ⟨rfl, by rw [ht, List.map_append]; rfl⟩
  · rintro acc m1 ⟨rfl, rfl⟩
    rw [List.length_map, List.take_length]
    (repeat (walk_at "vi.s1"))
    refine q_joinL (ss := s.map esc) (by rw [List.map_map]; rfl) (by have := sum_esc s; show _ + _ * 0 ≤ _; omega) ?_
    rw [joinD_nil, ← wrS_flat]
    (repeat (walk_at "vi.s1"))
    refine w_for (fun i ρ m' => ∃ x3, ρ = [some (.str s), some (.cell m.length), some (.str (wrS s)), x3, none] ∧ m' = m1) ?_
    refine w_rng1 ?_
    (repeat (walk_at "vi.s1"))
    refine ⟨by omega, ⟨none, rfl, rfl⟩, ?_, ?_⟩
    · rintro i d ρ m2 hd ⟨x3, rfl, rfl⟩
      (repeat (walk_at "vi.s1"))
      refine w_call ?_
      (repeat (walk_at "vi.s1"))
      refine w_written (by omega) ?_
      (repeat (walk_at "vi.s1"))
      refine ifq_d (fun _ => ?_) (fun h => absurd rfl h)
      refine w_tor ?_
      (repeat (walk_at "vi.s1"))
      refine w_call ?_
      (repeat (walk_at "vi.s1"))
      refine w_written (by omega) ?_
      (repeat (walk_at "vi.s1"))
      refine ifq_d (fun _ => ?_) (fun h => absurd rfl h)
      (repeat (walk_at "vi.s1"))
      refine w_call ?_
      (repeat (walk_at "vi.s1"))
      refine w_plain (by omega) ?_
      (repeat (walk_at "vi.s1"))
      have hpw : plS (wrS s) = s := by
        have := plS_wr s []
        rwa [List.append_nil, plS_nil, List.append_nil] at this
      refine ifq_d (fun _ => ?_) (fun h => absurd hpw h)
      (repeat (walk_at "vi.s1"))
      refine w_call ?_
      (repeat (walk_at "vi.s1"))
      refine w_plain (by omega) ?_
      (repeat (walk_at "vi.s1"))
      refine w_call ?_
      (repeat (walk_at "vi.s1"))
      refine st_law_plain (by omega) ?_
      (repeat (walk_at "vi.s1"))
      refine ifq_d (fun _ => ?_) (fun h => absurd rfl h)
      (repeat (walk_at "vi.s1"))
      refine w_call ?_
      (repeat (walk_at "vi.s1"))
      refine w_plain (by omega) ?_
      (repeat (walk_at "vi.s1"))
      refine w_call ?_
      (repeat (walk_at "vi.s1"))
      refine st_law_plain (by omega) ?_
      (repeat (walk_at "vi.s1"))
      refine ifq_d (fun _ => ?_) (fun h => absurd rfl h)
      (repeat (walk_at "vi.s1"))
      rfl
    · rintro ρ m2 ⟨x3, rfl, rfl⟩
      (repeat (walk_at "vi.s1"))
      refine w_call ?_
      (repeat (walk_at "vi.s1"))
      refine w_written (by omega) ?_
      (repeat (walk_at "vi.s1"))
      refine w_call ?_
      (repeat (walk_at "vi.s1"))
      refine w_plain (by omega) ?_
      (repeat (walk_at "vi.s1"))
      exact q
end Law
end
section
open PySem VI
namespace Law
theorem Ext.push {b : Nat} {ex : List D} {m : Mem} {o : O} (h : HasBag b ex m) : Ext b ex m (m ++ [o]) := by
  obtain ⟨x, hx, k⟩ := h
  exact ⟨by rw [List.length_append]; omega, fun i hi _ => List.getElem?_append_left hi, x, by rw [List.getElem?_append_left (List.getElem?_eq_some_iff.mp hx).1]; exact hx, k⟩
theorem main_w {ns : List Int} (hl : ns.length ≤ 63) : W (f_law [.lsk (ns.map D.int)] []) fun d _ => d = .bl true := by
  refine w_fn (ρ := [some (.lsk (ns.map D.int)), none, none, none, none, none, none, none]) rfl rfl ?_
  unfold b_law
  (repeat (walk_at "vi.s1"))
  refine w_call ?_
  (repeat (walk_at "vi.s1"))
  refine st_bag hl fun o ho => ?_
  (repeat (walk_at "vi.s1"))
  refine w_for (fun i ρ m' => ∃ (a : List Nat) (ex : List D) (x3 x4 x5 x6 x7 : Option D), ρ = [some (.lsk (ns.map D.int)), some (.cell 0), some (.str a), x3, x4, x5, x6, x7] ∧ a.length ≤ 2200 ∧ (ex = [] ∨ Pooled ex) ∧ HasBag 0 ex m') ?_
  refine w_rng1 ?_
  (repeat (walk_at "vi.s1"))
  refine ⟨by omega, ⟨[], [], none, none, none, none, none, rfl, Nat.zero_le _, .inl rfl, o, rfl, ho⟩, ?_, ?_⟩
  · rintro i d ρ m hd ⟨a, ex, x3, x4, x5, x6, x7, rfl, ha, he, hb⟩
    (repeat (walk_at "vi.s1"))
    refine w_call ?_
    (repeat (walk_at "vi.s1"))
    refine st_drawn_word hb he fun w ex1 m1 hw hp E1 => ?_
    (repeat (walk_at "vi.s1"))
    refine w_for (fun i ρ m' => ∃ (x5 x7 : Option D), ρ = [some (.lsk (ns.map D.int)), some (.cell 0), some (.str a), some d, some (.str w), x5, x6, x7] ∧ m' = m1) ?_
    refine w_rng1 ?_
    (repeat (walk_at "vi.s1"))
    refine ⟨by omega, ⟨_, _, rfl, rfl⟩, ?_, ?_⟩
    · rintro i d ρ m2 hd2 ⟨x5, x7, rfl, rfl⟩
      (repeat (walk_at "vi.s1"))
      refine w_call ?_
      (repeat (walk_at "vi.s1"))
      refine st_is_word (by omega) ?_
      (repeat (walk_at "vi.s1"))
      refine w_call ?_
      (repeat (walk_at "vi.s1"))
      refine st_law_is_word (by omega) ?_
      (repeat (walk_at "vi.s1"))
      refine ifq_d (fun _ => ?_) (fun h => absurd rfl h)
      (repeat (walk_at "vi.s1"))
      refine w_call ?_
      (repeat (walk_at "vi.s1"))
      refine st_is_word (by omega) ?_
      (repeat (walk_at "vi.s1"))
      refine ifq_d (fun _ => ?_) (fun h => absurd rfl h)
      (repeat (walk_at "vi.s1"))
      exact ⟨_, _, rfl, rfl⟩
    · rintro ρ m2 ⟨x5, x7, rfl, rfl⟩
      (repeat (walk_at "vi.s1"))
      refine w_call ?_
      (repeat (walk_at "vi.s1"))
      refine st_drawn_text E1.bag fun l m3 hll E3 => ?_
      (repeat (walk_at "vi.s1"))
      refine w_call ?_
      (repeat (walk_at "vi.s1"))
      refine st_signs_right (by omega) ?_
      (repeat (walk_at "vi.s1"))
      refine w_call ?_
      (repeat (walk_at "vi.s1"))
      refine st_signs_right (by omega) ?_
      (repeat (walk_at "vi.s1"))
      have E4 : Ext 0 ex1 m3 (m3 ++ [O.dct escD]) := Ext.push E3.bag
      have E5 : Ext 0 ex1 (m3 ++ [O.dct escD]) (m3 ++ [O.dct escD] ++ [O.dct escD]) := Ext.push E4.bag
      refine w_call ?_
      (repeat (walk_at "vi.s1"))
      refine w_call ?_
      (repeat (walk_at "vi.s1"))
      refine w_written (by omega) ?_
      (repeat (walk_at "vi.s1"))
      refine q_slS (by omega) ?_
      have hcl : (cutD l none (some 60)).length ≤ l.length := cut_len
      have hwl := wrS_len a
      refine q_addS (by omega) ?_
      (repeat (walk_at "vi.s1"))
      refine w_plain (by rw [List.length_append]; omega) ?_
      (repeat (walk_at "vi.s1"))
      refine w_call ?_
      (repeat (walk_at "vi.s1"))
      refine q_slS (by omega) ?_
      (repeat (walk_at "vi.s1"))
      refine w_plain (by omega) ?_
      have hpl := plS_len (cutD l none (some 60))
      refine q_addS (by omega) ?_
      (repeat (walk_at "vi.s1"))
      refine ifq_d (fun _ => ?_) (fun h => absurd (plS_wr _ _) h)
      (repeat (walk_at "vi.s1"))
      exact ⟨l, ex1, _, _, _, _, _, rfl, hll, .inr hp, E5.bag⟩
  · rintro ρ m ⟨a, ex, x3, x4, x5, x6, x7, rfl, ha, he, hb⟩
    (repeat (walk_at "vi.s1"))
    rfl
theorem main_ok : ∀ ns : List Int, ns.length ≤ 63 → ∃ m', f_law [.lsk (ns.map D.int)] [] = some (.bl true, m') := fun ns hl => by
  obtain ⟨d, m', e, rfl⟩ := main_w hl
  exact ⟨m', e⟩
end Law
end
section
namespace Law
theorem main : ∀ ns : List Int, ns.length ≤ 63 → ∃ m', f_law [.lsk (ns.map VI.D.int)] [] = some (.bl true, m') := main_ok
end Law
end
section
set_option maxHeartbeats 4000000
open PySem PySem.Spec PyProof.Rows L2 VI
namespace Law
theorem top_of {K : PySem.W.Frag} {h : Heap} {mg : Str → Option Value} (X : K.In h) (G : h.Ns mainGlobals mg)
    {f0 : Addr} {od0 an0 : Option Addr} {sl0 : Array (Option Value)} {oc0 kV0 dc0 pm0 cd0 ct0 : Value} (a0 : PySem.W.nsIn K mainGlobals "run_at" = some (some (.ref f0))) (l0 : K.lookup f0 = some ⟨oc0, od0, .func (PySem.W.fnOf "run_at" "run_at" (defArgs (topS 4)) (defBody (topS 4)) (defScope (topS 4)) .none kV0 dc0 pm0 an0 cd0 ct0), sl0⟩) (c0 : PySem.W.codeIn K cd0 "run_at" = true) (k0 : PySem.W.keepIn K (.ref f0) = true)
    {f1 : Addr} {od1 an1 : Option Addr} {sl1 : Array (Option Value)} {oc1 kV1 dc1 pm1 cd1 ct1 : Value} (a1 : PySem.W.nsIn K mainGlobals "word_at" = some (some (.ref f1))) (l1 : K.lookup f1 = some ⟨oc1, od1, .func (PySem.W.fnOf "word_at" "word_at" (defArgs (topS 5)) (defBody (topS 5)) (defScope (topS 5)) .none kV1 dc1 pm1 an1 cd1 ct1), sl1⟩) (c1 : PySem.W.codeIn K cd1 "word_at" = true) (k1 : PySem.W.keepIn K (.ref f1) = true)
    {f2 : Addr} {od2 an2 : Option Addr} {sl2 : Array (Option Value)} {oc2 kV2 dc2 pm2 cd2 ct2 : Value} (a2 : PySem.W.nsIn K mainGlobals "is_word" = some (some (.ref f2))) (l2 : K.lookup f2 = some ⟨oc2, od2, .func (PySem.W.fnOf "is_word" "is_word" (defArgs (topS 6)) (defBody (topS 6)) (defScope (topS 6)) .none kV2 dc2 pm2 an2 cd2 ct2), sl2⟩) (c2 : PySem.W.codeIn K cd2 "is_word" = true) (k2 : PySem.W.keepIn K (.ref f2) = true)
    {f3 : Addr} {od3 an3 : Option Addr} {sl3 : Array (Option Value)} {oc3 kV3 dc3 pm3 cd3 ct3 : Value} (a3 : PySem.W.nsIn K mainGlobals "written_sign" = some (some (.ref f3))) (l3 : K.lookup f3 = some ⟨oc3, od3, .func (PySem.W.fnOf "written_sign" "written_sign" (defArgs (topS 7)) (defBody (topS 7)) (defScope (topS 7)) .none kV3 dc3 pm3 an3 cd3 ct3), sl3⟩) (c3 : PySem.W.codeIn K cd3 "written_sign" = true) (k3 : PySem.W.keepIn K (.ref f3) = true)
    {f4 : Addr} {od4 an4 : Option Addr} {sl4 : Array (Option Value)} {oc4 kV4 dc4 pm4 cd4 ct4 : Value} (a4 : PySem.W.nsIn K mainGlobals "plain_signs" = some (some (.ref f4))) (l4 : K.lookup f4 = some ⟨oc4, od4, .func (PySem.W.fnOf "plain_signs" "plain_signs" (defArgs (topS 8)) (defBody (topS 8)) (defScope (topS 8)) .none kV4 dc4 pm4 an4 cd4 ct4), sl4⟩) (c4 : PySem.W.codeIn K cd4 "plain_signs" = true) (k4 : PySem.W.keepIn K (.ref f4) = true)
    {f5 : Addr} {od5 an5 : Option Addr} {sl5 : Array (Option Value)} {oc5 kV5 dc5 pm5 cd5 ct5 : Value} (a5 : PySem.W.nsIn K mainGlobals "_law_bag" = some (some (.ref f5))) (l5 : K.lookup f5 = some ⟨oc5, od5, .func (PySem.W.fnOf "_law_bag" "_law_bag" (defArgs (topS 10)) (defBody (topS 10)) (defScope (topS 10)) .none kV5 dc5 pm5 an5 cd5 ct5), sl5⟩) (c5 : PySem.W.codeIn K cd5 "_law_bag" = true) (k5 : PySem.W.keepIn K (.ref f5) = true)
    {f6 : Addr} {od6 an6 : Option Addr} {sl6 : Array (Option Value)} {oc6 kV6 dc6 pm6 cd6 ct6 : Value} (a6 : PySem.W.nsIn K mainGlobals "_law_stirred" = some (some (.ref f6))) (l6 : K.lookup f6 = some ⟨oc6, od6, .func (PySem.W.fnOf "_law_stirred" "_law_stirred" (defArgs (topS 11)) (defBody (topS 11)) (defScope (topS 11)) .none kV6 dc6 pm6 an6 cd6 ct6), sl6⟩) (c6 : PySem.W.codeIn K cd6 "_law_stirred" = true) (k6 : PySem.W.keepIn K (.ref f6) = true)
    {f7 : Addr} {od7 an7 : Option Addr} {sl7 : Array (Option Value)} {oc7 kV7 dc7 pm7 cd7 ct7 : Value} (a7 : PySem.W.nsIn K mainGlobals "_law_draw" = some (some (.ref f7))) (l7 : K.lookup f7 = some ⟨oc7, od7, .func (PySem.W.fnOf "_law_draw" "_law_draw" (defArgs (topS 12)) (defBody (topS 12)) (defScope (topS 12)) .none kV7 dc7 pm7 an7 cd7 ct7), sl7⟩) (c7 : PySem.W.codeIn K cd7 "_law_draw" = true) (k7 : PySem.W.keepIn K (.ref f7) = true)
    {f8 : Addr} {od8 an8 : Option Addr} {sl8 : Array (Option Value)} {oc8 kV8 dc8 pm8 cd8 ct8 : Value} (a8 : PySem.W.nsIn K mainGlobals "_law_pool" = some (some (.ref f8))) (l8 : K.lookup f8 = some ⟨oc8, od8, .func (PySem.W.fnOf "_law_pool" "_law_pool" (defArgs (topS 13)) (defBody (topS 13)) (defScope (topS 13)) .none kV8 dc8 pm8 an8 cd8 ct8), sl8⟩) (c8 : PySem.W.codeIn K cd8 "_law_pool" = true) (k8 : PySem.W.keepIn K (.ref f8) = true)
    {f9 : Addr} {od9 an9 : Option Addr} {sl9 : Array (Option Value)} {oc9 kV9 dc9 pm9 cd9 ct9 : Value} (a9 : PySem.W.nsIn K mainGlobals "_law_word" = some (some (.ref f9))) (l9 : K.lookup f9 = some ⟨oc9, od9, .func (PySem.W.fnOf "_law_word" "_law_word" (defArgs (topS 14)) (defBody (topS 14)) (defScope (topS 14)) .none kV9 dc9 pm9 an9 cd9 ct9), sl9⟩) (c9 : PySem.W.codeIn K cd9 "_law_word" = true) (k9 : PySem.W.keepIn K (.ref f9) = true)
    {f10 : Addr} {od10 an10 : Option Addr} {sl10 : Array (Option Value)} {oc10 kV10 dc10 pm10 cd10 ct10 : Value} (a10 : PySem.W.nsIn K mainGlobals "_law_signs" = some (some (.ref f10))) (l10 : K.lookup f10 = some ⟨oc10, od10, .func (PySem.W.fnOf "_law_signs" "_law_signs" (defArgs (topS 15)) (defBody (topS 15)) (defScope (topS 15)) .none kV10 dc10 pm10 an10 cd10 ct10), sl10⟩) (c10 : PySem.W.codeIn K cd10 "_law_signs" = true) (k10 : PySem.W.keepIn K (.ref f10) = true)
    {f11 : Addr} {od11 an11 : Option Addr} {sl11 : Array (Option Value)} {oc11 kV11 dc11 pm11 cd11 ct11 : Value} (a11 : PySem.W.nsIn K mainGlobals "_law_spoilt" = some (some (.ref f11))) (l11 : K.lookup f11 = some ⟨oc11, od11, .func (PySem.W.fnOf "_law_spoilt" "_law_spoilt" (defArgs (topS 16)) (defBody (topS 16)) (defScope (topS 16)) .none kV11 dc11 pm11 an11 cd11 ct11), sl11⟩) (c11 : PySem.W.codeIn K cd11 "_law_spoilt" = true) (k11 : PySem.W.keepIn K (.ref f11) = true)
    {f12 : Addr} {od12 an12 : Option Addr} {sl12 : Array (Option Value)} {oc12 kV12 dc12 pm12 cd12 ct12 : Value} (a12 : PySem.W.nsIn K mainGlobals "_law_is_word" = some (some (.ref f12))) (l12 : K.lookup f12 = some ⟨oc12, od12, .func (PySem.W.fnOf "_law_is_word" "_law_is_word" (defArgs (topS 17)) (defBody (topS 17)) (defScope (topS 17)) .none kV12 dc12 pm12 an12 cd12 ct12), sl12⟩) (c12 : PySem.W.codeIn K cd12 "_law_is_word" = true) (k12 : PySem.W.keepIn K (.ref f12) = true)
    {f13 : Addr} {od13 an13 : Option Addr} {sl13 : Array (Option Value)} {oc13 kV13 dc13 pm13 cd13 ct13 : Value} (a13 : PySem.W.nsIn K mainGlobals "_law_sign" = some (some (.ref f13))) (l13 : K.lookup f13 = some ⟨oc13, od13, .func (PySem.W.fnOf "_law_sign" "_law_sign" (defArgs (topS 18)) (defBody (topS 18)) (defScope (topS 18)) .none kV13 dc13 pm13 an13 cd13 ct13), sl13⟩) (c13 : PySem.W.codeIn K cd13 "_law_sign" = true) (k13 : PySem.W.keepIn K (.ref f13) = true)
    {f14 : Addr} {od14 an14 : Option Addr} {sl14 : Array (Option Value)} {oc14 kV14 dc14 pm14 cd14 ct14 : Value} (a14 : PySem.W.nsIn K mainGlobals "_law_plain" = some (some (.ref f14))) (l14 : K.lookup f14 = some ⟨oc14, od14, .func (PySem.W.fnOf "_law_plain" "_law_plain" (defArgs (topS 19)) (defBody (topS 19)) (defScope (topS 19)) .none kV14 dc14 pm14 an14 cd14 ct14), sl14⟩) (c14 : PySem.W.codeIn K cd14 "_law_plain" = true) (k14 : PySem.W.keepIn K (.ref f14) = true)
    {f15 : Addr} {od15 an15 : Option Addr} {sl15 : Array (Option Value)} {oc15 kV15 dc15 pm15 cd15 ct15 : Value} (a15 : PySem.W.nsIn K mainGlobals "_law_drawn_word" = some (some (.ref f15))) (l15 : K.lookup f15 = some ⟨oc15, od15, .func (PySem.W.fnOf "_law_drawn_word" "_law_drawn_word" (defArgs (topS 20)) (defBody (topS 20)) (defScope (topS 20)) .none kV15 dc15 pm15 an15 cd15 ct15), sl15⟩) (c15 : PySem.W.codeIn K cd15 "_law_drawn_word" = true) (k15 : PySem.W.keepIn K (.ref f15) = true)
    {f16 : Addr} {od16 an16 : Option Addr} {sl16 : Array (Option Value)} {oc16 kV16 dc16 pm16 cd16 ct16 : Value} (a16 : PySem.W.nsIn K mainGlobals "_law_drawn_text" = some (some (.ref f16))) (l16 : K.lookup f16 = some ⟨oc16, od16, .func (PySem.W.fnOf "_law_drawn_text" "_law_drawn_text" (defArgs (topS 21)) (defBody (topS 21)) (defScope (topS 21)) .none kV16 dc16 pm16 an16 cd16 ct16), sl16⟩) (c16 : PySem.W.codeIn K cd16 "_law_drawn_text" = true) (k16 : PySem.W.keepIn K (.ref f16) = true)
    {f17 : Addr} {od17 an17 : Option Addr} {sl17 : Array (Option Value)} {oc17 kV17 dc17 pm17 cd17 ct17 : Value} (a17 : PySem.W.nsIn K mainGlobals "_law_signs_right" = some (some (.ref f17))) (l17 : K.lookup f17 = some ⟨oc17, od17, .func (PySem.W.fnOf "_law_signs_right" "_law_signs_right" (defArgs (topS 22)) (defBody (topS 22)) (defScope (topS 22)) .none kV17 dc17 pm17 an17 cd17 ct17), sl17⟩) (c17 : PySem.W.codeIn K cd17 "_law_signs_right" = true) (k17 : PySem.W.keepIn K (.ref f17) = true)
    {f18 : Addr} {od18 an18 : Option Addr} {sl18 : Array (Option Value)} {oc18 kV18 dc18 pm18 cd18 ct18 : Value} (a18 : PySem.W.nsIn K mainGlobals "law" = some (some (.ref f18))) (l18 : K.lookup f18 = some ⟨oc18, od18, .func (PySem.W.fnOf "law" "law" (defArgs (topS 23)) (defBody (topS 23)) (defScope (topS 23)) .none kV18 dc18 pm18 an18 cd18 ct18), sl18⟩) (c18 : PySem.W.codeIn K cd18 "law" = true) (k18 : PySem.W.keepIn K (.ref f18) = true)
    (z_abs : PySem.W.nsIn K mainGlobals "abs" = some none)
    (z_bool : PySem.W.nsIn K mainGlobals "bool" = some none)
    (z_int : PySem.W.nsIn K mainGlobals "int" = some none)
    (z_isinstance : PySem.W.nsIn K mainGlobals "isinstance" = some none)
    (z_len : PySem.W.nsIn K mainGlobals "len" = some none)
    (z_range : PySem.W.nsIn K mainGlobals "range" = some none)
    (z_str : PySem.W.nsIn K mainGlobals "str" = some none)
    {t1 : Tok}
    (e_WORD_SIGNS : PySem.W.nsIn K mainGlobals "WORD_SIGNS" = some (some (.str "abcdefghijklmnopqrstuvwxyz-" t1)))
    {t2 : Tok}
    (e_MOST_WORD_SIGNS : PySem.W.nsIn K mainGlobals "MOST_WORD_SIGNS" = some (some (.int 12 t2)))
    {p3 : Addr} {dd3 : Option Addr} {n3 : Nat} {ts3 : Array (Option Value)}
    {p4 : Addr} {dd4 : Option Addr} {n4 : Nat} {ts4 : Array (Option Value)}
    {t5 : Tok}
    {t6 : Tok}
    (w4 : K.lookup p4 = some ⟨.type "tuple", dd4, .seq #[(.str "&lt;" t5), (.str "<" t6)] n4, ts4⟩)
    {p7 : Addr} {dd7 : Option Addr} {n7 : Nat} {ts7 : Array (Option Value)}
    {t8 : Tok}
    {t9 : Tok}
    (w7 : K.lookup p7 = some ⟨.type "tuple", dd7, .seq #[(.str "&gt;" t8), (.str ">" t9)] n7, ts7⟩)
    {p10 : Addr} {dd10 : Option Addr} {n10 : Nat} {ts10 : Array (Option Value)}
    {t11 : Tok}
    {t12 : Tok}
    (w10 : K.lookup p10 = some ⟨.type "tuple", dd10, .seq #[(.str "&quot;" t11), (.str "\"" t12)] n10, ts10⟩)
    {p13 : Addr} {dd13 : Option Addr} {n13 : Nat} {ts13 : Array (Option Value)}
    {t14 : Tok}
    {t15 : Tok}
    (w13 : K.lookup p13 = some ⟨.type "tuple", dd13, .seq #[(.str "&amp;" t14), (.str "&" t15)] n13, ts13⟩)
    (w3 : K.lookup p3 = some ⟨.type "tuple", dd3, .seq #[(.ref p4), (.ref p7), (.ref p10), (.ref p13)] n3, ts3⟩)
    (e_WRITTEN_SIGNS : PySem.W.nsIn K mainGlobals "WRITTEN_SIGNS" = some (some (.ref p3)))
    (nz4 : t5 ≠ 0 ∧ t6 ≠ 0 ∧ t5 ≠ t6)
    (nz7 : t8 ≠ 0 ∧ t9 ≠ 0 ∧ t8 ≠ t9)
    (nz10 : t11 ≠ 0 ∧ t12 ≠ 0 ∧ t11 ≠ t12)
    (nz13 : t14 ≠ 0 ∧ t15 ≠ 0 ∧ t14 ≠ t15) : Top K mg where
  d_run_at := ⟨f0, _, fun_mk l0 c0 k0, PySem.W.mg_of X G a0⟩
  d_word_at := ⟨f1, _, fun_mk l1 c1 k1, PySem.W.mg_of X G a1⟩
  d_is_word := ⟨f2, _, fun_mk l2 c2 k2, PySem.W.mg_of X G a2⟩
  d_written_sign := ⟨f3, _, fun_mk l3 c3 k3, PySem.W.mg_of X G a3⟩
  d_plain_signs := ⟨f4, _, fun_mk l4 c4 k4, PySem.W.mg_of X G a4⟩
  d__law_bag := ⟨f5, _, fun_mk l5 c5 k5, PySem.W.mg_of X G a5⟩
  d__law_stirred := ⟨f6, _, fun_mk l6 c6 k6, PySem.W.mg_of X G a6⟩
  d__law_draw := ⟨f7, _, fun_mk l7 c7 k7, PySem.W.mg_of X G a7⟩
  d__law_pool := ⟨f8, _, fun_mk l8 c8 k8, PySem.W.mg_of X G a8⟩
  d__law_word := ⟨f9, _, fun_mk l9 c9 k9, PySem.W.mg_of X G a9⟩
  d__law_signs := ⟨f10, _, fun_mk l10 c10 k10, PySem.W.mg_of X G a10⟩
  d__law_spoilt := ⟨f11, _, fun_mk l11 c11 k11, PySem.W.mg_of X G a11⟩
  d__law_is_word := ⟨f12, _, fun_mk l12 c12 k12, PySem.W.mg_of X G a12⟩
  d__law_sign := ⟨f13, _, fun_mk l13 c13 k13, PySem.W.mg_of X G a13⟩
  d__law_plain := ⟨f14, _, fun_mk l14 c14 k14, PySem.W.mg_of X G a14⟩
  d__law_drawn_word := ⟨f15, _, fun_mk l15 c15 k15, PySem.W.mg_of X G a15⟩
  d__law_drawn_text := ⟨f16, _, fun_mk l16 c16 k16, PySem.W.mg_of X G a16⟩
  d__law_signs_right := ⟨f17, _, fun_mk l17 c17 k17, PySem.W.mg_of X G a17⟩
  d_law := ⟨f18, _, fun_mk l18 c18 k18, PySem.W.mg_of X G a18⟩
  z_abs := PySem.W.mg_none_of X G z_abs
  z_bool := PySem.W.mg_none_of X G z_bool
  z_int := PySem.W.mg_none_of X G z_int
  z_isinstance := PySem.W.mg_none_of X G z_isinstance
  z_len := PySem.W.mg_none_of X G z_len
  z_range := PySem.W.mg_none_of X G z_range
  z_str := PySem.W.mg_none_of X G z_str
  g_WORD_SIGNS := glob_of X G e_WORD_SIGNS (cv_str (by decide +kernel))
  g_MOST_WORD_SIGNS := glob_of X G e_MOST_WORD_SIGNS (cv_int _ _)
  g_WRITTEN_SIGNS := glob_of X G e_WRITTEN_SIGNS (cv_tup w3 (cvs_cons (cv_tup w4 (cvs_cons (cv_str (by decide +kernel)) (cvs_cons (cv_str (by decide +kernel)) (cvs_nil))) (Nat.le_of_ble_eq_true rfl)) (cvs_cons (cv_tup w7 (cvs_cons (cv_str (by decide +kernel)) (cvs_cons (cv_str (by decide +kernel)) (cvs_nil))) (Nat.le_of_ble_eq_true rfl)) (cvs_cons (cv_tup w10 (cvs_cons (cv_str (by decide +kernel)) (cvs_cons (cv_str (by decide +kernel)) (cvs_nil))) (Nat.le_of_ble_eq_true rfl)) (cvs_cons (cv_tup w13 (cvs_cons (cv_str (by decide +kernel)) (cvs_cons (cv_str (by decide +kernel)) (cvs_nil))) (Nat.le_of_ble_eq_true rfl)) (cvs_nil))))) (Nat.le_of_ble_eq_true rfl))
  r_WRITTEN_SIGNS := ⟨p3, [p4, p7, p10, p13], n3, dd3, ts3, PySem.W.mg_of X G e_WRITTEN_SIGNS, w3, by show 4 ≤ 4; decide, rfl, pairs_cons (pair_of w4 nz4 (by decide +kernel) (by decide +kernel)) (pairs_cons (pair_of w7 nz7 (by decide +kernel) (by decide +kernel)) (pairs_cons (pair_of w10 nz10 (by decide +kernel) (by decide +kernel)) (pairs_cons (pair_of w13 nz13 (by decide +kernel) (by decide +kernel)) (pairs_nil))))⟩
theorem all_law {P : Program} {w : World} {K : PySem.W.Frag} {mg : Str → Option Value} (T : Top K mg) (h_written_sign : ∀ base, K.In base → base.Ns mainGlobals mg → Fn P w K mg base 1 "written_sign" ["text"] f_written_sign) (q_written_sign : ∀ base, K.In base → base.Ns mainGlobals mg → FnK P w K mg base 1 "written_sign" ["text"] f_written_sign) (h_plain_signs : ∀ base, K.In base → base.Ns mainGlobals mg → Fn P w K mg base 1 "plain_signs" ["text"] f_plain_signs) (q_plain_signs : ∀ base, K.In base → base.Ns mainGlobals mg → FnK P w K mg base 1 "plain_signs" ["text"] f_plain_signs) (base : Heap) (i1 : K.In base) (i2 : base.Ns mainGlobals mg) : Body P w K mg base 5 ["script", "bag", "ahead", "turn", "word", "again", "line", "found"] "law" s_law b_law := by
  have q_written_sign := q_written_sign base i1 i2
  have h_written_sign := h_written_sign base i1 i2
  have q_plain_signs := q_plain_signs base i1 i2
  have h_plain_signs := h_plain_signs base i1 i2
  have h_run_at := o_run_at (P := P) (w := w) (base := base) T 
  have h_word_at := o_word_at (P := P) (w := w) (base := base) T h_run_at
  have h_is_word := o_is_word (P := P) (w := w) (base := base) T h_word_at
  have q_is_word := ok_is_word (P := P) (w := w) (base := base) T h_word_at
  have h__law_bag := o__law_bag (P := P) (w := w) (base := base) T 
  have h__law_stirred := o__law_stirred (P := P) (w := w) (base := base) T 
  have h__law_draw := o__law_draw (P := P) (w := w) (base := base) T h__law_stirred
  have h__law_pool := o__law_pool (P := P) (w := w) (base := base) T h__law_draw
  have h__law_word := o__law_word (P := P) (w := w) (base := base) T h__law_draw h__law_pool
  have h__law_signs := o__law_signs (P := P) (w := w) (base := base) T h__law_draw
  have h__law_spoilt := o__law_spoilt (P := P) (w := w) (base := base) T h__law_draw
  have h__law_is_word := o__law_is_word (P := P) (w := w) (base := base) T 
  have h__law_sign := o__law_sign (P := P) (w := w) (base := base) T 
  have h__law_plain := o__law_plain (P := P) (w := w) (base := base) T h__law_sign
  have h__law_drawn_word := o__law_drawn_word (P := P) (w := w) (base := base) T h__law_draw h__law_signs h__law_spoilt h__law_word
  have h__law_drawn_text := o__law_drawn_text (P := P) (w := w) (base := base) T h__law_draw h__law_signs
  have h__law_signs_right := o__law_signs_right (P := P) (w := w) (base := base) T h__law_plain h_plain_signs h_written_sign q_plain_signs q_written_sign
  exact y_law T h__law_bag h__law_drawn_text h__law_drawn_word h__law_is_word h__law_signs_right h_is_word h_plain_signs h_written_sign q_is_word
end Law
open PySem PySem.W PyProof.Rows
set_option maxHeartbeats 0 in
theorem PySem.Challenge.cw_freshpage_k01_words_and_signs_holds : PySem.Challenge.rw_freshpage_k01_words_and_signs.Holds := by
  w_on; o_law; k_head; (case hw => w_witness2)
  k_fill
  refine L2.walk_ofK (l := PySem.Challenge.rw_freshpage_k01_words_and_signs) (n := 63) (k := 6) (x := "script") (CX := L2.CX0) (sp := VI.spLaw) rfl (by decide) rfl ⟨rfl, by decide, by decide⟩ (fun w h Y => PySem.W.kIn_of Y) ?F (fun _ _ a ns hl _ hS => ⟨a, ns, rfl, hS, hl, fun _ => rfl⟩) (fun _ _ _ _ h => h)
  case F =>
    intro w mg fa h KX G hmg
    suffices T : Law.Top _ mg from VI.law_end hmg T.d_law Law.sc_law (fun _ _ _ _ _ _ us hl => match us, hl with | [_], _ => rfl) (Law.all_law T (Law.x_written_sign T) (Law.xq_written_sign T) (Law.x_plain_signs T) (Law.xq_plain_signs T)) Law.main
    refine' Law.top_of KX G ?a0 ?l0 ?c0 ?k0 ?a1 ?l1 ?c1 ?k1 ?a2 ?l2 ?c2 ?k2 ?a3 ?l3 ?c3 ?k3 ?a4 ?l4 ?c4 ?k4 ?a5 ?l5 ?c5 ?k5 ?a6 ?l6 ?c6 ?k6 ?a7 ?l7 ?c7 ?k7 ?a8 ?l8 ?c8 ?k8 ?a9 ?l9 ?c9 ?k9 ?a10 ?l10 ?c10 ?k10 ?a11 ?l11 ?c11 ?k11 ?a12 ?l12 ?c12 ?k12 ?a13 ?l13 ?c13 ?k13 ?a14 ?l14 ?c14 ?k14 ?a15 ?l15 ?c15 ?k15 ?a16 ?l16 ?c16 ?k16 ?a17 ?l17 ?c17 ?k17 ?a18 ?l18 ?c18 ?k18 ?z_abs ?z_bool ?z_int ?z_isinstance ?z_len ?z_range ?z_str ?e_WORD_SIGNS ?e_MOST_WORD_SIGNS ?w4 ?w7 ?w10 ?w13 ?w3 ?e_WRITTEN_SIGNS ?nz4 ?nz7 ?nz10 ?nz13
    (case a0 => k_is); (case l0 => k_is); (case c0 => k_is); (case k0 => k_is); (case a1 => k_is); (case l1 => k_is); (case c1 => k_is); (case k1 => k_is); (case a2 => k_is); (case l2 => k_is); (case c2 => k_is); (case k2 => k_is); (case a3 => k_is); (case l3 => k_is); (case c3 => k_is); (case k3 => k_is); (case a4 => k_is); (case l4 => k_is); (case c4 => k_is); (case k4 => k_is); (case a5 => k_is); (case l5 => k_is); (case c5 => k_is); (case k5 => k_is); (case a6 => k_is); (case l6 => k_is); (case c6 => k_is); (case k6 => k_is); (case a7 => k_is); (case l7 => k_is); (case c7 => k_is); (case k7 => k_is); (case a8 => k_is); (case l8 => k_is); (case c8 => k_is); (case k8 => k_is); (case a9 => k_is); (case l9 => k_is); (case c9 => k_is); (case k9 => k_is); (case a10 => k_is); (case l10 => k_is); (case c10 => k_is); (case k10 => k_is); (case a11 => k_is); (case l11 => k_is); (case c11 => k_is); (case k11 => k_is); (case a12 => k_is); (case l12 => k_is); (case c12 => k_is); (case k12 => k_is); (case a13 => k_is); (case l13 => k_is); (case c13 => k_is); (case k13 => k_is); (case a14 => k_is); (case l14 => k_is); (case c14 => k_is); (case k14 => k_is); (case a15 => k_is); (case l15 => k_is); (case c15 => k_is); (case k15 => k_is); (case a16 => k_is); (case l16 => k_is); (case c16 => k_is); (case k16 => k_is); (case a17 => k_is); (case l17 => k_is); (case c17 => k_is); (case k17 => k_is); (case a18 => k_is); (case l18 => k_is); (case c18 => k_is); (case k18 => k_is); (case z_abs => k_is); (case z_bool => k_is); (case z_int => k_is); (case z_isinstance => k_is); (case z_len => k_is); (case z_range => k_is); (case z_str => k_is); (case e_WORD_SIGNS => k_is); (case e_MOST_WORD_SIGNS => k_is); (case e_WRITTEN_SIGNS => k_is); (case w3 => k_is); (case w4 => k_is); (case w7 => k_is); (case w10 => k_is); (case w13 => k_is); (case nz4 => decide); (case nz7 => decide); (case nz10 => decide); (case nz13 => decide)
end
