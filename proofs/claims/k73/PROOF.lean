import PyProof.Rows.All
import Wide.All
import OpenK.AllK
import Wide.FinOn
import HandS.ForMost
import HandS.WordsExc
import HandS.Wide
import HandS.TupAny
import HandS.Flow
import HandS.ExcOwn
import HandS.Small
import HandS.IsInst
import HandS.SortInts
import HandS.WordsDict
import HandS.SetFor
import HandS.SetKeys
import HandS.Conv
import HandS.DictComp
import HandS.More
import HandS.TryOnly
import HandS.Deep
import HandS.Rev
import HandS.Star
import PyProof.EnumMake
import PyProof.Draws
import KE.GoesMore
import HandS.Style
import PySem.Challenge.RW_wholecommits_k73_whole_lots_that_are_eno
set_option Elab.async false
set_option linter.all false
set_option maxRecDepth 100000
set_option maxHeartbeats 4000000
/-! The mirror: values, a store, and how they stand in the heap. -/
namespace Mi
open PySem L2

/-- a value of the mirror: lst is a list that is never changed again, ref a place of the store -/
inductive W where
  | non | bl (b : Bool) | int (i : Int) | str (x : Str) | ty (n : String)
  | tup (xs : List W) | lst (xs : List W) | scr (xs : List W) | ref (i : Nat) | at_ (a : Addr)
/-- what stands in the store -/
inductive Nd where
  | lst (xs : List W) | dk (kvs : List (Key × W)) | ins (c : Nat) (fs : List (Str × W)) | lk (kvs : List (Key × W))
abbrev Sto := List Nd
abbrev Ev := List (Option W)
/-- an exception of an own class, by its number -/
inductive Xc where
  | plain (c : Nat)
inductive Rs (α : Type) where
  | ok (a : α) (s : Sto) | ex (x : Xc) (s : Sto) | stuck
def Rs.bind {α β : Type} (r : Rs α) (k : α → Sto → Rs β) : Rs β := match r with
  | .ok a s => k a s
  | .ex x s => .ex x s
  | .stuck => .stuck

section
variable (K : PySem.W.Frag)
/-- a tuple, a list that stands still at a -/
def TupAt (ρ η : List Addr) (H : Hp) (a : Addr) (vs : List V) : Prop := (a ∉ ρ ∧ a ∉ η ∧ Rd H a (.tup vs)) ∨
  ∃ (o : Obj) (its : Array Value) (n : Nat), K.lookup a = some o ∧ o.cls = .type "tuple" ∧ o.data = .seq its n ∧ its.size ≤ sizeLine ∧ Vals vs its.toList
def LstAt (ρ η : List Addr) (H : Hp) (a : Addr) (vs : List V) : Prop := (a ∉ ρ ∧ a ∉ η ∧ Rd H a (.lst vs)) ∨
  ∃ (o : Obj) (its : Array Value) (n : Nat), K.lookup a = some o ∧ o.cls = .type "list" ∧ o.dict = none ∧ o.data = .seq its n ∧ its.size ≤ sizeLine ∧ Vals vs its.toList
mutual
def VR (ρ η : List Addr) (H : Hp) : W → V → Prop
  | .non, v => v = .non
  | .bl b, v => v = .bl b
  | .int i, v => v = .int i
  | .str x, v => v = .str x
  | .ty n, v => v = .ty n
  | .at_ a, v => v = .ref a
  | .ref i, v => ∃ a, ρ[i]? = some a ∧ v = .ref a
  | .tup xs, v => ∃ a vs, v = .ref a ∧ TupAt K ρ η H a vs ∧ VRs ρ η H xs vs
  | .lst xs, v => ∃ a vs, v = .ref a ∧ (a ∉ ρ ∧ a ∉ η ∧ H a = some (.lst vs)) ∧ VRs ρ η H xs vs
  | .scr xs, v => ∃ a vs, v = .ref a ∧ LstAt K ρ η H a vs ∧ VRs ρ η H xs vs
def VRs (ρ η : List Addr) (H : Hp) : List W → List V → Prop
  | [], vs => vs = []
  | x :: xs, vs => ∃ v r, vs = v :: r ∧ VR ρ η H x v ∧ VRs ρ η H xs r
end
end

/-- ahead (ρ, H), behind (ρ', H'): more places, what is no place stands as it stood -/
structure Grow (ρ : List Addr) (H : Hp) (ρ' : List Addr) (H' : Hp) : Prop where
  pre : ∃ t, ρ' = ρ ++ t ∧ ∀ a ∈ t, H a = none
  same : ∀ a o, a ∉ ρ → H a = some o → H' a = some o
  all : ∀ a o, H a = some o → ∃ o', H' a = some o'
  frz : ∀ a o u, H a = some (.frz o u) → H' a = some (.frz o u)

theorem Grow.refl {ρ : List Addr} {H : Hp} : Grow ρ H ρ H := ⟨⟨[], by simp, by simp⟩, fun _ _ _ h => h, fun _ o h => ⟨o, h⟩, fun _ _ _ h => h⟩
theorem Grow.back {ρ ρ' : List Addr} {H H' : Hp} (g : Grow ρ H ρ' H') {a : Addr} (h : H' a = none) : H a = none := by
  cases e : H a with
  | none => rfl
  | some o =>
    obtain ⟨o', q⟩ := g.all a o e
    rw [h] at q; cases q
theorem Grow.trans {ρ ρ1 ρ2 : List Addr} {H H1 H2 : Hp} (g : Grow ρ H ρ1 H1) (k : Grow ρ1 H1 ρ2 H2) : Grow ρ H ρ2 H2 := by
  obtain ⟨t, e, ht⟩ := g.pre
  obtain ⟨u, e2, hu⟩ := k.pre
  refine ⟨⟨t ++ u, by rw [e2, e, List.append_assoc], fun a ha => ?_⟩, fun a o na h => ?_, fun a o h => ?_, fun a o u h => k.frz a o u (g.frz a o u h)⟩
  · rcases List.mem_append.mp ha with ha | ha
    · exact ht a ha
    · exact g.back (hu a ha)
  · refine k.same a o (fun z => ?_) (g.same a o na h)
    rw [e] at z
    rcases List.mem_append.mp z with z | z
    · exact na z
    · rw [ht a z] at h; cases h
  · obtain ⟨o1, h1⟩ := g.all a o h
    exact k.all a o1 h1
theorem Grow.out {ρ ρ' : List Addr} {H H' : Hp} (g : Grow ρ H ρ' H') {a : Addr} {o : HO} (na : a ∉ ρ) (h : H a = some o) : a ∉ ρ' := fun z => by
  obtain ⟨t, e, ht⟩ := g.pre
  rw [e] at z
  rcases List.mem_append.mp z with z | z
  · exact na z
  · rw [ht a z] at h; cases h
theorem Grow.at {ρ ρ' : List Addr} {H H' : Hp} (g : Grow ρ H ρ' H') {i : Nat} {a : Addr} (h : ρ[i]? = some a) : ρ'[i]? = some a := by
  obtain ⟨t, e, _⟩ := g.pre
  rw [e]
  rw [List.getElem?_append_left (List.getElem?_eq_some_iff.mp h).1]
  exact h
/-- a new object that is no place -/
theorem Grow.new {ρ : List Addr} {H : Hp} {p : Addr} {o : HO} (h : H p = none) : Grow ρ H ρ (upd H p o) :=
  ⟨⟨[], by simp, by simp⟩, fun a u _ e => by rw [upd_ne (ne_of_none e h)]; exact e, fun a u e => ⟨u, by rw [upd_ne (ne_of_none e h)]; exact e⟩, fun a u z e => by rw [upd_ne (ne_of_none e h)]; exact e⟩
/-- a new place -/
theorem Grow.node {ρ : List Addr} {H : Hp} {p : Addr} {o : HO} (h : H p = none) : Grow ρ H (ρ ++ [p]) (upd H p o) :=
  ⟨⟨[p], rfl, by simp [h]⟩, fun a u _ e => by rw [upd_ne (ne_of_none e h)]; exact e, fun a u e => ⟨u, by rw [upd_ne (ne_of_none e h)]; exact e⟩, fun a u z e => by rw [upd_ne (ne_of_none e h)]; exact e⟩
/-- what may be written -/
def Open (H : Hp) (p : Addr) : Prop := ∀ o u, H p ≠ some (.frz o u)
/-- a place changes -/
theorem Grow.write {ρ : List Addr} {H : Hp} {p : Addr} {o : HO} (h : p ∈ ρ) (op : Open H p) : Grow ρ H ρ (upd H p o) :=
  ⟨⟨[], by simp, by simp⟩, fun a u na e => by rw [upd_ne (fun z => na (by rw [z]; exact h))]; exact e, fun a u e => by
    by_cases z : a = p
    · exact ⟨o, by rw [z, upd_same]⟩
    · exact ⟨u, by rw [upd_ne z]; exact e⟩, fun a u x e => by
    rw [upd_ne (fun z => op u x (by rw [← z]; exact e))]; exact e⟩
theorem open_of {H : Hp} {p : Addr} {x : HO} (e : H p = some x) (n : ∀ o u, x ≠ .frz o u) : Open H p := fun o u z => n o u (Option.some.inj (e.symm.trans z))

theorem rd_some {H : Hp} {a : Addr} {u : HO} (h : Rd H a u) : ∃ o, H a = some o := by
  rcases h with h | ⟨o, h⟩
  · exact ⟨_, h⟩
  · exact ⟨_, h⟩
theorem Grow.rd {ρ ρ' : List Addr} {H H' : Hp} (g : Grow ρ H ρ' H') {a : Addr} {u : HO} (na : a ∉ ρ) (h : Rd H a u) : Rd H' a u := by
  rcases h with h | ⟨o, h⟩
  · exact .inl (g.same _ _ na h)
  · exact .inr ⟨o, g.same _ _ na h⟩
section
variable {K : PySem.W.Frag} {ρ ρ' η η' : List Addr} {H H' : Hp}
theorem TupAt.mono {a : Addr} {vs : List V} (g : Grow ρ H ρ' H') (h : TupAt K ρ η H a vs) : TupAt K ρ' η H' a vs := by
  rcases h with ⟨h1, h2, h3⟩ | h
  · obtain ⟨o, e⟩ := rd_some h3
    exact .inl ⟨g.out h1 e, h2, g.rd h1 h3⟩
  · exact .inr h
theorem LstAt.mono {a : Addr} {vs : List V} (g : Grow ρ H ρ' H') (h : LstAt K ρ η H a vs) : LstAt K ρ' η H' a vs := by
  rcases h with ⟨h1, h2, h3⟩ | h
  · obtain ⟨o, e⟩ := rd_some h3
    exact .inl ⟨g.out h1 e, h2, g.rd h1 h3⟩
  · exact .inr h
theorem TupAt.sq {a : Addr} {vs : List V} (h : TupAt K ρ η H a vs) : SqT K H a vs := h.imp (fun h => h.2.2) id
theorem LstAt.sq {a : Addr} {vs : List V} (h : LstAt K ρ η H a vs) : SqL K H a vs := h.imp (fun h => h.2.2) id
mutual
theorem VR.mono (g : Grow ρ H ρ' H') : ∀ {w : W} {v : V}, VR K ρ η H w v → VR K ρ' η H' w v
  | .non, _, h => h
  | .bl _, _, h => h
  | .int _, _, h => h
  | .str _, _, h => h
  | .ty _, _, h => h
  | .at_ _, _, h => h
  | .ref i, v, h => by
    simp only [VR] at h ⊢
    obtain ⟨a, e, r⟩ := h
    exact ⟨a, g.at e, r⟩
  | .tup xs, v, h => by
    simp only [VR] at h ⊢
    obtain ⟨a, vs, e, t, r⟩ := h
    exact ⟨a, vs, e, t.mono g, VRs.mono g r⟩
  | .lst xs, v, h => by
    simp only [VR] at h ⊢
    obtain ⟨a, vs, e, ⟨t1, t2, t3⟩, r⟩ := h
    exact ⟨a, vs, e, ⟨g.out t1 t3, t2, g.same _ _ t1 t3⟩, VRs.mono g r⟩
  | .scr xs, v, h => by
    simp only [VR] at h ⊢
    obtain ⟨a, vs, e, t, r⟩ := h
    exact ⟨a, vs, e, t.mono g, VRs.mono g r⟩
theorem VRs.mono (g : Grow ρ H ρ' H') : ∀ {ws : List W} {vs : List V}, VRs K ρ η H ws vs → VRs K ρ' η H' ws vs
  | [], _, h => by simpa only [VRs] using h
  | x :: xs, vs, h => by
    simp only [VRs] at h ⊢
    obtain ⟨v, r, e, h1, h2⟩ := h
    exact ⟨v, r, e, VR.mono g h1, VRs.mono g h2⟩
end
/-- fewer hidden ones -/
theorem TupAt.less {a : Addr} {vs : List V} (g : ∀ b ∈ η', b ∈ η) (h : TupAt K ρ η H a vs) : TupAt K ρ η' H a vs := h.imp (fun h => ⟨h.1, fun z => h.2.1 (g _ z), h.2.2⟩) id
theorem LstAt.less {a : Addr} {vs : List V} (g : ∀ b ∈ η', b ∈ η) (h : LstAt K ρ η H a vs) : LstAt K ρ η' H a vs := h.imp (fun h => ⟨h.1, fun z => h.2.1 (g _ z), h.2.2⟩) id
mutual
theorem VR.less (g : ∀ b ∈ η', b ∈ η) : ∀ {w : W} {v : V}, VR K ρ η H w v → VR K ρ η' H w v
  | .non, _, h => h
  | .bl _, _, h => h
  | .int _, _, h => h
  | .str _, _, h => h
  | .ty _, _, h => h
  | .at_ _, _, h => h
  | .ref i, v, h => by
    simp only [VR] at h ⊢
    exact h
  | .tup xs, v, h => by
    simp only [VR] at h ⊢
    obtain ⟨a, vs, e, t, r⟩ := h
    exact ⟨a, vs, e, t.less g, VRs.less g r⟩
  | .lst xs, v, h => by
    simp only [VR] at h ⊢
    obtain ⟨a, vs, e, ⟨t1, t2, t3⟩, r⟩ := h
    exact ⟨a, vs, e, ⟨t1, fun z => t2 (g _ z), t3⟩, VRs.less g r⟩
  | .scr xs, v, h => by
    simp only [VR] at h ⊢
    obtain ⟨a, vs, e, t, r⟩ := h
    exact ⟨a, vs, e, t.less g, VRs.less g r⟩
theorem VRs.less (g : ∀ b ∈ η', b ∈ η) : ∀ {ws : List W} {vs : List V}, VRs K ρ η H ws vs → VRs K ρ η' H ws vs
  | [], _, h => by simpa only [VRs] using h
  | x :: xs, vs, h => by
    simp only [VRs] at h ⊢
    obtain ⟨v, r, e, h1, h2⟩ := h
    exact ⟨v, r, e, VR.less g h1, VRs.less g h2⟩
end
/-- a new hidden object D, or one that changes -/
theorem TupAt.hide {a D : Addr} {o : HO} {vs : List V} (n : H D = none ∨ D ∈ η) (h : TupAt K ρ η H a vs) : TupAt K ρ (D :: η) (upd H D o) a vs := by
  rcases h with ⟨h1, h2, h3⟩ | h
  · have ne : a ≠ D := by
      rintro rfl
      rcases n with n | n
      · obtain ⟨o, e⟩ := rd_some h3
        rw [n] at e; cases e
      · exact h2 n
    refine .inl ⟨h1, by simp [ne, h2], ?_⟩
    rcases h3 with e | ⟨o, e⟩
    · exact .inl (by rw [upd_ne ne]; exact e)
    · exact .inr ⟨o, by rw [upd_ne ne]; exact e⟩
  · exact .inr h
theorem LstAt.hide {a D : Addr} {o : HO} {vs : List V} (n : H D = none ∨ D ∈ η) (h : LstAt K ρ η H a vs) : LstAt K ρ (D :: η) (upd H D o) a vs := by
  rcases h with ⟨h1, h2, h3⟩ | h
  · have ne : a ≠ D := by
      rintro rfl
      rcases n with n | n
      · obtain ⟨o, e⟩ := rd_some h3
        rw [n] at e; cases e
      · exact h2 n
    refine .inl ⟨h1, by simp [ne, h2], ?_⟩
    rcases h3 with e | ⟨o, e⟩
    · exact .inl (by rw [upd_ne ne]; exact e)
    · exact .inr ⟨o, by rw [upd_ne ne]; exact e⟩
  · exact .inr h
mutual
theorem VR.hide {D : Addr} {o : HO} (n : H D = none ∨ D ∈ η) : ∀ {w : W} {v : V}, VR K ρ η H w v → VR K ρ (D :: η) (upd H D o) w v
  | .non, _, h => h
  | .bl _, _, h => h
  | .int _, _, h => h
  | .str _, _, h => h
  | .ty _, _, h => h
  | .at_ _, _, h => h
  | .ref i, v, h => by
    simp only [VR] at h ⊢
    exact h
  | .tup xs, v, h => by
    simp only [VR] at h ⊢
    obtain ⟨a, vs, e, t, r⟩ := h
    exact ⟨a, vs, e, t.hide n, VRs.hide n r⟩
  | .lst xs, v, h => by
    simp only [VR] at h ⊢
    obtain ⟨a, vs, e, ⟨t1, t2, t3⟩, r⟩ := h
    have ne : a ≠ D := by
      rintro rfl
      rcases n with n | n
      · rw [n] at t3; cases t3
      · exact t2 n
    exact ⟨a, vs, e, ⟨t1, by simp [ne, t2], by rw [upd_ne ne]; exact t3⟩, VRs.hide n r⟩
  | .scr xs, v, h => by
    simp only [VR] at h ⊢
    obtain ⟨a, vs, e, t, r⟩ := h
    exact ⟨a, vs, e, t.hide n, VRs.hide n r⟩
theorem VRs.hide {D : Addr} {o : HO} (n : H D = none ∨ D ∈ η) : ∀ {ws : List W} {vs : List V}, VRs K ρ η H ws vs → VRs K ρ (D :: η) (upd H D o) ws vs
  | [], _, h => by simpa only [VRs] using h
  | x :: xs, vs, h => by
    simp only [VRs] at h ⊢
    obtain ⟨v, r, e, h1, h2⟩ := h
    exact ⟨v, r, e, VR.hide n h1, VRs.hide n h2⟩
end
theorem VRs.append : ∀ {xs ys : List W} {vs us : List V}, VRs K ρ η H xs vs → VRs K ρ η H ys us → VRs K ρ η H (xs ++ ys) (vs ++ us)
  | [], _, _, _, h, k => by
    simp only [VRs] at h
    subst h
    exact k
  | x :: xs, _, _, _, h, k => by
    simp only [VRs, List.cons_append] at h ⊢
    obtain ⟨v, r, e, h1, h2⟩ := h
    exact ⟨v, r ++ _, by rw [e]; rfl, h1, h2.append k⟩
theorem VRs.len : ∀ {xs : List W} {vs : List V}, VRs K ρ η H xs vs → vs.length = xs.length
  | [], _, h => by
    simp only [VRs] at h
    subst h
    rfl
  | x :: xs, _, h => by
    simp only [VRs] at h
    obtain ⟨v, r, e, h1, h2⟩ := h
    rw [e, List.length_cons, List.length_cons, h2.len]
theorem VRs.get : ∀ {xs : List W} {vs : List V} {i : Nat} {x : W}, VRs K ρ η H xs vs → xs[i]? = some x → ∃ v, vs[i]? = some v ∧ VR K ρ η H x v
  | [], _, _, _, _, e => by simp at e
  | x :: xs, _, 0, _, h, e => by
    simp only [VRs] at h
    obtain ⟨v, r, e', h1, h2⟩ := h
    simp at e
    subst e
    exact ⟨v, by rw [e']; rfl, h1⟩
  | x :: xs, _, i + 1, y, h, e => by
    simp only [VRs] at h
    obtain ⟨v, r, e', h1, h2⟩ := h
    obtain ⟨u, q, k⟩ := h2.get (i := i) (x := y) (by simpa using e)
    exact ⟨u, by rw [e']; simpa using q, k⟩
theorem VRs.getv : ∀ {xs : List W} {vs : List V} {i : Nat} {v : V}, VRs K ρ η H xs vs → vs[i]? = some v → ∃ x, xs[i]? = some x ∧ VR K ρ η H x v := fun {xs vs i v} h e => by
  have hi : i < xs.length := by rw [← h.len]; exact (List.getElem?_eq_some_iff.mp e).1
  obtain ⟨u, q, k⟩ := h.get (i := i) (List.getElem?_eq_getElem hi)
  rw [e] at q
  cases q
  exact ⟨_, List.getElem?_eq_getElem hi, k⟩
theorem VRs.of_get : ∀ {xs : List W} {vs : List V}, vs.length = xs.length → (∀ (i : Nat) (x : W) (v : V), xs[i]? = some x → vs[i]? = some v → VR K ρ η H x v) → VRs K ρ η H xs vs
  | [], vs, l, _ => by
    simp only [VRs]
    exact List.eq_nil_of_length_eq_zero l
  | x :: xs, [], l, _ => by simp at l
  | x :: xs, v :: vs, l, h => by
    simp only [VRs]
    exact ⟨v, vs, rfl, h 0 x v rfl rfl, VRs.of_get (by simpa using l) fun i y u a b => h (i + 1) y u (by simpa using a) (by simpa using b)⟩
theorem VRs.nil : VRs K ρ η H [] [] := by simp only [VRs]
theorem VRs.cons {x : W} {xs : List W} {v : V} {vs : List V} (a : VR K ρ η H x v) (b : VRs K ρ η H xs vs) : VRs K ρ η H (x :: xs) (v :: vs) := by
  simp only [VRs]
  exact ⟨v, vs, rfl, a, b⟩
theorem VRs.set {x : W} {v : V} (a : VR K ρ η H x v) {xs : List W} {vs : List V} (i : Nat) (h : VRs K ρ η H xs vs) : VRs K ρ η H (xs.set i x) (vs.set i v) := by
  refine .of_get (by simp [h.len]) fun j y u e f => ?_
  rw [List.getElem?_set] at e f
  rw [h.len] at f
  split at e
  · rename_i q
    subst q
    split at e
    · rename_i q
      rw [if_pos q] at f
      simp at e f
      subst e; subst f
      exact a
    · simp at e
  · rename_i q
    rw [if_neg q] at f
    obtain ⟨z, h1, h2⟩ := h.get e
    rw [f] at h1
    cases h1
    exact h2
theorem VRs.take (n : Nat) {xs : List W} {vs : List V} (h : VRs K ρ η H xs vs) : VRs K ρ η H (xs.take n) (vs.take n) := by
  refine .of_get (by simp [h.len]) fun j y u e f => ?_
  rw [List.getElem?_take] at e f
  split at e
  · rename_i q
    rw [if_pos q] at f
    obtain ⟨z, h1, h2⟩ := h.get e
    rw [f] at h1
    cases h1
    exact h2
  · simp at e
theorem VRs.drop (n : Nat) {xs : List W} {vs : List V} (h : VRs K ρ η H xs vs) : VRs K ρ η H (xs.drop n) (vs.drop n) := by
  refine .of_get (by simp [h.len]) fun j y u e f => ?_
  rw [List.getElem?_drop] at e f
  obtain ⟨z, h1, h2⟩ := h.get e
  rw [f] at h1
  cases h1
  exact h2
theorem VRs.rev {xs : List W} {vs : List V} (h : VRs K ρ η H xs vs) : VRs K ρ η H xs.reverse vs.reverse := by
  refine .of_get (by simp [h.len]) fun j y u e f => ?_
  have hj : j < xs.length := by simpa using (List.getElem?_eq_some_iff.mp e).1
  rw [List.getElem?_reverse hj] at e
  rw [List.getElem?_reverse (by rw [h.len]; exact hj), h.len] at f
  obtain ⟨z, h1, h2⟩ := h.get e
  rw [f] at h1
  cases h1
  exact h2
end
end Mi
namespace Mi
open PySem L2

section
variable (K : PySem.W.Frag) (T : Nat → Addr)
/-- a store's object as it stands at a -/
def NR (ρ η : List Addr) (H : Hp) (a : Addr) : Nd → Prop
  | .lst xs => ∃ vs, H a = some (.lst vs) ∧ VRs K ρ η H xs vs
  | .dk kvs => ∃ kv : List (Key × V), H a = some (.dK kv) ∧ kv.map (·.1) = kvs.map (·.1) ∧ VRs K ρ η H (kvs.map (·.2)) (kv.map (·.2))
  | .lk kvs => ∃ (od : Obj) (kv : List (Key × V)), H a = some (.frz od (.dK kv)) ∧ kv.map (·.1) = kvs.map (·.1) ∧ VRs K ρ η H (kvs.map (·.2)) (kv.map (·.2))
  | .ins c fs => ∃ (dx : Addr) (fv : List (Str × V)), H a = some (.ins (T c) dx fv) ∧ fv.map (·.1) = fs.map (·.1) ∧ VRs K ρ η H (fs.map (·.2)) (fv.map (·.2))
structure SR (ρ η : List Addr) (st : Sto) (H : Hp) : Prop where
  nd : ρ.Nodup
  len : ρ.length = st.length
  hid : ∀ a ∈ η, a ∉ ρ
  has : ∀ a ∈ η, ∃ o, H a = some o
  at_ : ∀ (i : Nat) (n : Nd) (a : Addr), st[i]? = some n → ρ[i]? = some a → NR K T ρ η H a n
/-- the names' values -/
def ER (ρ η : List Addr) (H : Hp) (env : Ev) (σ : St) : Prop := σ.length = env.length ∧ ∀ (i : Nat) (w : W), env[i]? = some (some w) → ∃ v, σ[i]? = some (some v) ∧ VR K ρ η H w v
def XR : Xc → Value → Option Addr → Prop
  | .plain n, c, d => c = .ref (T n) ∧ d = none
/-- what follows upon an answer -/
def After {α β : Type} (η : List Addr) (R : List Addr → Hp → α → β → Prop) (ρ : List Addr) (H : Hp) (r : Rs α) (Q : β → Hp → Prop) (E : Value → Option Addr → Hp → Prop) : Prop :=
  match r with
  | .ok w st => ∀ ρ' H' v, Grow ρ H ρ' H' → SR K T ρ' η st H' → R ρ' H' w v → Q v H'
  | .ex x st => ∀ ρ' H' c d, Grow ρ H ρ' H' → SR K T ρ' η st H' → XR T x c d → E c d H'
  | .stuck => False
end
section
variable {K : PySem.W.Frag} {T : Nat → Addr} {ρ ρ' η : List Addr} {H H' : Hp} {st : Sto}
theorem NR.mono {a : Addr} {n : Nd} (g : Grow ρ H ρ' H') (k : H' a = H a) (h : NR K T ρ η H a n) : NR K T ρ' η H' a n := by
  cases n with
  | lst xs => obtain ⟨vs, e, r⟩ := h; exact ⟨vs, k.trans e, r.mono g⟩
  | dk kvs => obtain ⟨kv, e, q, r⟩ := h; exact ⟨kv, k.trans e, q, r.mono g⟩
  | lk kvs => obtain ⟨od, kv, e, q, r⟩ := h; exact ⟨od, kv, k.trans e, q, r.mono g⟩
  | ins c fs => obtain ⟨dx, fv, e, q, r⟩ := h; exact ⟨dx, fv, k.trans e, q, r.mono g⟩
theorem ER.mono {env : Ev} {σ : St} (g : Grow ρ H ρ' H') (h : ER K ρ η H env σ) : ER K ρ' η H' env σ := ⟨h.1, fun i w e => by
  obtain ⟨v, q, r⟩ := h.2 i w e
  exact ⟨v, q, r.mono g⟩⟩
theorem ER.set {env : Ev} {σ : St} {i : Nat} {w : W} {v : V} (h : ER K ρ η H env σ) (r : VR K ρ η H w v) : ER K ρ η H (env.set i (some w)) (σ.set i (some v)) := ⟨by simp [h.1], fun j u e => by
  rw [List.getElem?_set] at e ⊢
  split at e
  · rename_i q
    rw [if_pos q]
    split at e
    · rename_i q2
      rw [h.1, if_pos q2]
      cases e
      exact ⟨v, rfl, r⟩
    · cases e
  · rename_i q
    rw [if_neg q]
    exact h.2 j u e⟩
/-- a new object that is no place -/
theorem SR.new {p : Addr} {o : HO} (h : SR K T ρ η st H) (n : H p = none) (np : ∀ (i : Nat) (a : Addr), ρ[i]? = some a → a ≠ p) : SR K T ρ η st (upd H p o) :=
  ⟨h.nd, h.len, h.hid, fun a ha => by
    obtain ⟨u, e⟩ := h.has a ha
    exact ⟨u, by rw [upd_ne (ne_of_none e n)]; exact e⟩, fun i nd a e q => (h.at_ i nd a e q).mono (Grow.new n) (upd_ne (np i a q))⟩
theorem SR.there {i : Nat} {a : Addr} (h : SR K T ρ η st H) (q : ρ[i]? = some a) : ∃ o, H a = some o := by
  have hi : i < st.length := by rw [← h.len]; exact (List.getElem?_eq_some_iff.mp q).1
  have k := h.at_ i _ a (List.getElem?_eq_getElem hi) q
  cases e : st[i] with
  | lst xs => rw [e] at k; obtain ⟨vs, z, _⟩ := k; exact ⟨_, z⟩
  | dk xs => rw [e] at k; obtain ⟨vs, z, _⟩ := k; exact ⟨_, z⟩
  | lk xs => rw [e] at k; obtain ⟨od, vs, z, _⟩ := k; exact ⟨_, z⟩
  | ins c xs => rw [e] at k; obtain ⟨dx, vs, z, _⟩ := k; exact ⟨_, z⟩
theorem SR.new' {p : Addr} {o : HO} (h : SR K T ρ η st H) (n : H p = none) : SR K T ρ η st (upd H p o) := h.new n fun i a q z => by
  obtain ⟨u, e⟩ := h.there q
  rw [z, n] at e; cases e
theorem SR.fresh {p : Addr} (h : SR K T ρ η st H) (n : H p = none) : p ∉ ρ := fun z => by
  obtain ⟨i, hi⟩ := List.getElem?_of_mem z
  obtain ⟨u, e⟩ := h.there hi
  rw [n] at e; cases e
theorem SR.freshH {p : Addr} (h : SR K T ρ η st H) (n : H p = none) : p ∉ η := fun z => by
  obtain ⟨u, e⟩ := h.has p z
  rw [n] at e; cases e
/-- a new place -/
theorem SR.node {p : Addr} {o : HO} {nd : Nd} (h : SR K T ρ η st H) (n : H p = none) (k : NR K T (ρ ++ [p]) η (upd H p o) p nd) : SR K T (ρ ++ [p]) η (st ++ [nd]) (upd H p o) := by
  refine ⟨?_, by simp [h.len], fun a ha z => ?_, fun a ha => ?_, fun i m a e q => ?_⟩
  · rw [List.nodup_append]
    exact ⟨h.nd, by simp, fun a ha b hb z => by
      rw [List.mem_singleton] at hb
      subst hb; subst z
      exact h.fresh n ha⟩
  · rcases List.mem_append.mp z with z | z
    · exact h.hid a ha z
    · rw [List.mem_singleton] at z
      subst z
      exact h.freshH n ha
  · obtain ⟨u, e⟩ := h.has a ha
    exact ⟨u, by rw [upd_ne (ne_of_none e n)]; exact e⟩
  · by_cases hi : i < st.length
    · rw [List.getElem?_append_left hi] at e
      rw [List.getElem?_append_left (by rw [h.len]; exact hi)] at q
      obtain ⟨u, z⟩ := h.there q
      exact (h.at_ i m a e q).mono (Grow.node n) (upd_ne (ne_of_none z n))
    · have l1 := (List.getElem?_eq_some_iff.mp e).1
      have hi2 : i = st.length := by
        rw [List.length_append, List.length_singleton] at l1
        omega
      subst hi2
      rw [List.getElem?_append_right (Nat.le_refl _)] at e
      rw [List.getElem?_append_right (by rw [h.len]; exact Nat.le_refl _)] at q
      simp at e
      simp [h.len] at q
      subst e; subst q
      exact k
/-- a place changes -/
theorem SR.write {p : Addr} {o : HO} {nd : Nd} {i : Nat} (h : SR K T ρ η st H) (op : Open H p) (q : ρ[i]? = some p) (k : NR K T ρ η (upd H p o) p nd) : SR K T ρ η (st.set i nd) (upd H p o) := by
  have hp : p ∈ ρ := List.mem_of_getElem? q
  refine ⟨h.nd, by simp [h.len], h.hid, fun a ha => ?_, fun j m a e r => ?_⟩
  · obtain ⟨u, e⟩ := h.has a ha
    exact ⟨u, by rw [upd_ne (fun z => h.hid a ha (by rw [z]; exact hp))]; exact e⟩
  · rw [List.getElem?_set] at e
    split at e
    · rename_i z
      subst z
      rw [q] at r
      cases r
      split at e
      · cases e
        exact k
      · cases e
    · rename_i z
      have ne : a ≠ p := by
        rintro rfl
        have l1 := (List.getElem?_eq_some_iff.mp q)
        have l2 := (List.getElem?_eq_some_iff.mp r)
        obtain ⟨b1, c1⟩ := l1
        obtain ⟨b2, c2⟩ := l2
        exact z ((List.getElem_inj h.nd).mp (c1.trans c2.symm))
      exact (h.at_ j m a e r).mono (Grow.write hp op) (upd_ne ne)

theorem After.grow {α β : Type} {R : List Addr → Hp → α → β → Prop} {r : Rs α} {Q : β → Hp → Prop} {E : Value → Option Addr → Hp → Prop} (g : Grow ρ H ρ' H') (h : After K T η R ρ H r Q E) : After K T η R ρ' H' r Q E := by
  cases r with
  | ok w s => exact fun ρ2 H2 v g2 => h ρ2 H2 v (g.trans g2)
  | ex x s => exact fun ρ2 H2 c d g2 => h ρ2 H2 c d (g.trans g2)
  | stuck => exact h
theorem After.bind {α β γ δ : Type} {R : List Addr → Hp → α → β → Prop} {R' : List Addr → Hp → γ → δ → Prop} {r : Rs α} {k : α → Sto → Rs γ} {Q : δ → Hp → Prop} {Q1 : β → Hp → Prop} {E : Value → Option Addr → Hp → Prop} (h : After K T η R' ρ H (r.bind k) Q E)
    (f : ∀ w st1 ρ1 H1 v, Grow ρ H ρ1 H1 → SR K T ρ1 η st1 H1 → R ρ1 H1 w v → After K T η R' ρ1 H1 (k w st1) Q E → Q1 v H1) : After K T η R ρ H r Q1 E := by
  cases r with
  | ok w s => exact fun ρ1 H1 v g s1 r1 => f w s ρ1 H1 v g s1 r1 (After.grow g h)
  | ex x s => exact h
  | stuck => exact h
theorem After.ok {α β : Type} {R : List Addr → Hp → α → β → Prop} {w : α} {Q : β → Hp → Prop} {E : Value → Option Addr → Hp → Prop} {v : β} (h : After K T η R ρ H (.ok w st) Q E) (s : SR K T ρ η st H) (r : R ρ H w v) : Q v H := h ρ H v Grow.refl s r
end

/-! ### what an expression does -/
abbrev M (α : Type) := Ev → Sto → Rs α
def tS (X : Cx) (e : Expr) : TE := fun σ H Q => ∃ t, PE X e t ∧ t σ H Q
theorem pe_S {X : Cx} {e : Expr} : PE X e (tS X e) := ⟨fun pins s σ H Q I ⟨_, h, q⟩ => h.run pins s σ H Q I q⟩
def tST (X : Cx) (e : Expr) : TT := fun σ H Q => ∃ t, PT X e t ∧ t σ H Q
theorem pt_S {X : Cx} {e : Expr} : PT X e (tST X e) := ⟨fun pins s σ H Q I ⟨_, h, q⟩ => h.run pins s σ H Q I q⟩
def tSW (X : Cx) (e : Expr) : TT := fun σ H Q => ∃ t, PW X e t ∧ t σ H Q
theorem pw_S {X : Cx} {e : Expr} : PW X e (tSW X e) := ⟨fun wh pins s σ H Q I ⟨_, h, q⟩ => h.run wh pins s σ H Q I q⟩
def tSA (X : Cx) (es : List Expr) : TA := fun σ H Q => ∃ t, PA X es t ∧ t σ H Q
theorem pa_S {X : Cx} {es : List Expr} : PA X es (tSA X es) := ⟨fun p pins s σ H Q I ⟨_, h, q⟩ => h.run p pins s σ H Q I q⟩
def tSS (X : Cx) (st : Stmt) : TS := fun D σ H => ∃ t, PS X st t ∧ t D σ H
theorem ps_S {X : Cx} {st : Stmt} : PS X st (tSS X st) := ⟨fun pins s σ H D I ⟨_, h, q⟩ => h.run pins s σ H D I q⟩
def tSSs (X : Cx) (st : List Stmt) : TS := fun D σ H => ∃ t, PSs X st t ∧ t D σ H
theorem pss_S {X : Cx} {st : List Stmt} : PSs X st (tSSs X st) := ⟨fun pins s σ H D I ⟨_, h, q⟩ => h.run pins s σ H D I q⟩

abbrev WX' := Value → Option Addr → St → Hp → Prop
section
variable (X : Cx) (T : Nat → Addr) (Wx : WX')
def SE (e : Expr) (m : M W) : Prop := ∀ ρ η st env σ H Q, SR X.K T ρ η st H → ER X.K ρ η H env σ → After X.K T η (fun ρ H => VR X.K ρ η H) ρ H (m env st) Q (fun c d H' => Wx c d σ H') → tS X e σ H Q
def STt (e : Expr) (m : M Bool) : Prop := ∀ ρ η st env σ H Q, SR X.K T ρ η st H → ER X.K ρ η H env σ → After X.K T η (fun _ _ => Eq) ρ H (m env st) Q (fun c d H' => Wx c d σ H') → tST X e σ H Q
def SWt (e : Expr) (m : M Bool) : Prop := ∀ ρ η st env σ H Q, SR X.K T ρ η st H → ER X.K ρ η H env σ → After X.K T η (fun _ _ => Eq) ρ H (m env st) Q (fun c d H' => Wx c d σ H') → tSW X e σ H Q
def SA (es : List Expr) (m : M (List W)) : Prop := ∀ ρ η st env σ H Q, SR X.K T ρ η st H → ER X.K ρ η H env σ → After X.K T η (fun ρ H => VRs X.K ρ η H) ρ H (m env st) Q (fun c d H' => Wx c d σ H') → tSA X es σ H Q
end
end Mi
namespace Mi
open PySem L2

/-! ### reading lists and tuples -/
def seqL (st : Sto) : W → Option (List W)
  | .lst xs => some xs
  | .scr xs => some xs
  | .ref i => match st[i]? with
    | some (.lst xs) => some xs
    | _ => none
  | _ => none
def trkL (st : Sto) : W → Option (List W)
  | .lst xs => some xs
  | .ref i => match st[i]? with
    | some (.lst xs) => some xs
    | _ => none
  | _ => none
def tupL : W → Option (List W)
  | .tup xs => some xs
  | _ => none
section
variable {K : PySem.W.Frag} {T : Nat → Addr} {ρ ρ' η : List Addr} {H H' : Hp} {st : Sto}
theorem node_at {i : Nat} {v : V} {n : Nd} (s : SR K T ρ η st H) (h : VR K ρ η H (.ref i) v) (e : st[i]? = some n) : ∃ a, v = .ref a ∧ ρ[i]? = some a ∧ NR K T ρ η H a n := by
  simp only [VR] at h
  obtain ⟨a, h1, h2⟩ := h
  exact ⟨a, h2, h1, s.at_ i n a e h1⟩
theorem trk_ok {w : W} {v : V} {xs : List W} (s : SR K T ρ η st H) (h : VR K ρ η H w v) (e : trkL st w = some xs) : ∃ a vs, v = .ref a ∧ H a = some (.lst vs) ∧ VRs K ρ η H xs vs := by
  cases w with
  | lst ys =>
    simp only [trkL, Option.some.injEq] at e
    subst e
    simp only [VR] at h
    obtain ⟨a, vs, h1, h2, h3⟩ := h
    exact ⟨a, vs, h1, h2.2.2, h3⟩
  | ref i =>
    simp only [trkL] at e
    split at e
    · rename_i ys q
      cases e
      obtain ⟨a, h1, _, h2⟩ := node_at s h q
      obtain ⟨vs, h3, h4⟩ := h2
      exact ⟨a, vs, h1, h3, h4⟩
    · cases e
  | _ => simp [trkL] at e
theorem seq_ok {w : W} {v : V} {xs : List W} (s : SR K T ρ η st H) (h : VR K ρ η H w v) (e : seqL st w = some xs) : ∃ a vs, v = .ref a ∧ SqL K H a vs ∧ VRs K ρ η H xs vs := by
  cases w with
  | lst ys =>
    obtain ⟨a, vs, h1, h2, h3⟩ := trk_ok s h (show trkL st (.lst ys) = some xs from e)
    exact ⟨a, vs, h1, SqL.of h2, h3⟩
  | ref i =>
    obtain ⟨a, vs, h1, h2, h3⟩ := trk_ok s h (show trkL st (.ref i) = some xs from e)
    exact ⟨a, vs, h1, SqL.of h2, h3⟩
  | scr ys =>
    simp only [seqL, Option.some.injEq] at e
    subst e
    simp only [VR] at h
    obtain ⟨a, vs, h1, h2, h3⟩ := h
    exact ⟨a, vs, h1, h2.sq, h3⟩
  | _ => simp [seqL] at e
theorem tup_ok {w : W} {v : V} {xs : List W} (h : VR K ρ η H w v) (e : tupL w = some xs) : ∃ a vs, v = .ref a ∧ SqT K H a vs ∧ VRs K ρ η H xs vs := by
  cases w with
  | tup ys =>
    simp only [tupL, Option.some.injEq] at e
    subst e
    simp only [VR] at h
    obtain ⟨a, vs, h1, h2, h3⟩ := h
    exact ⟨a, vs, h1, h2.sq, h3⟩
  | _ => simp [tupL] at e
end

/-! ### new lists and tuples -/
def newL (fz : Bool) (xs : List W) (st : Sto) : Rs W := if fz then .ok (.lst xs) st else .ok (.ref st.length) (st ++ [.lst xs])
section
variable {K : PySem.W.Frag} {T : Nat → Addr} {ρ ρ' η : List Addr} {H H' : Hp} {st : Sto} {Q : V → Hp → Prop} {E : Value → Option Addr → Hp → Prop}
theorem newL_ok {fz : Bool} {xs : List W} {vs : List V} {p : Addr} (h : After K T η (fun ρ H => VR K ρ η H) ρ H (newL fz xs st) Q E) (s : SR K T ρ η st H) (r : VRs K ρ η H xs vs) (n : H p = none) : Q (.ref p) (upd H p (.lst vs)) := by
  unfold newL at h
  cases fz with
  | true =>
    refine h ρ _ _ (Grow.new n) (s.new' n) ?_
    simp only [VR]
    exact ⟨p, vs, rfl, ⟨s.fresh n, s.freshH n, upd_same⟩, r.mono (Grow.new n)⟩
  | false =>
    refine h (ρ ++ [p]) _ _ (Grow.node n) (s.node n ⟨vs, upd_same, r.mono (Grow.node n)⟩) ?_
    simp only [VR]
    exact ⟨p, by rw [← s.len, List.getElem?_append_right (Nat.le_refl _)]; simp, rfl⟩
theorem newT_ok {xs : List W} {vs : List V} {p : Addr} (h : After K T η (fun ρ H => VR K ρ η H) ρ H (.ok (.tup xs) st) Q E) (s : SR K T ρ η st H) (r : VRs K ρ η H xs vs) (n : H p = none) : Q (.ref p) (upd H p (.tup vs)) := by
  refine h ρ _ _ (Grow.new n) (s.new' n) ?_
  simp only [VR]
  exact ⟨p, vs, rfl, .inl ⟨s.fresh n, s.freshH n, .inl upd_same⟩, r.mono (Grow.new n)⟩
end

/-! ### operators by values -/
abbrev F2 := W → W → Sto → Rs W
def OkR (K : PySem.W.Frag) (T : Nat → Addr) (f : F2) (r : R2) : Prop := ∀ ρ η st H a b x y Q E, SR K T ρ η st H → VR K ρ η H a x → VR K ρ η H b y → After K T η (fun ρ H => VR K ρ η H) ρ H (f a b st) Q E → r x y H Q
def rOr (r r' : R2) : R2 := fun x y H Q => r x y H Q ∨ r' x y H Q
theorem opr_or {X : Cx} {f : Value → Value → Sem Value} {r r' : R2} (h : OpR X f r) (h' : OpR X f r') : OpR X f (rOr r r') := fun pins s σ H x y v u Q I a b q => by
  rcases q with q | q
  · exact h pins s σ H x y v u Q I a b q
  · exact h' pins s σ H x y v u Q I a b q

def wAdd (fz : Bool) : F2 := fun a b st => match a, b with
  | .int i, .int j => .ok (.int (i + j)) st
  | .str x, .str y => if x.length + y.length ≤ sizeLine then .ok (.str (x ++ y)) st else .stuck
  | .tup xs, .tup ys => if xs.length + ys.length ≤ sizeLine then .ok (.tup (xs ++ ys)) st else .stuck
  | a, b => match trkL st a, trkL st b with
    | some xs, some ys => if xs.length + ys.length ≤ sizeLine then newL fz (xs ++ ys) st else .stuck
    | _, _ => .stuck
def wSub : F2 := fun a b st => match a, b with
  | .int i, .int j => .ok (.int (i - j)) st
  | _, _ => .stuck
def small64 (i : Int) : Bool := decide (i.natAbs < 2 ^ 64)
theorem small64_of {i : Int} (h : small64 i = true) : -(2 ^ 64) < i ∧ i < 2 ^ 64 := by
  simp only [small64, decide_eq_true_eq] at h
  omega
def wMul (fz : Bool) : F2 := fun a b st => match a, b with
  | .int i, .int j => if small64 i || small64 j then .ok (.int (i * j)) st else .stuck
  | a, .int k => match trkL st a with
    | some xs => if k.natAbs < 2 ^ 63 ∧ xs.length * k.toNat ≤ sizeLine then newL fz (List.replicate k.toNat xs).flatten st else .stuck
    | none => .stuck
  | _, _ => .stuck
def wDiv : F2 := fun a b st => match a, b with
  | .int i, .int j => if j ≠ 0 ∧ j.natAbs < 1073741824 then .ok (.int (i.fdiv j)) st else .stuck
  | _, _ => .stuck
def wMod : F2 := fun a b st => match a, b with
  | .int i, .int j => if j ≠ 0 then .ok (.int (i.fmod j)) st else .stuck
  | _, _ => .stuck
def wPow : F2 := fun a b st => match a, b with
  | .int i, .int j => if 0 ≤ j ∧ j.natAbs ≤ 1000000 ∧ i.natAbs < 2 ^ 64 then .ok (.int (i ^ j.toNat)) st else .stuck
  | _, _ => .stuck
section
variable {K : PySem.W.Frag} {T : Nat → Addr}
theorem VRs.flatrep {ρ η : List Addr} {H : Hp} {xs : List W} {vs : List V} (h : VRs K ρ η H xs vs) : ∀ n : Nat, VRs K ρ η H (List.replicate n xs).flatten (List.replicate n vs).flatten
  | 0 => by simpa using VRs.nil
  | n + 1 => by
    rw [List.replicate_succ, List.replicate_succ, List.flatten_cons, List.flatten_cons]
    exact h.append (VRs.flatrep h n)
theorem ok_add {fz : Bool} : OkR K T (wAdd fz) (rOr (rI0 fun i j => .int (i + j)) (rOr (fun x y H Q => ∃ i j, x = V.str i ∧ y = V.str j ∧ i.length + j.length ≤ sizeLine ∧ Q (V.str (i ++ j)) H) (rOr (rCatA K) rCat))) := by
  intro ρ η st H a b x y Q E s ha hb h
  unfold wAdd at h
  split at h
  · simp only [VR] at ha hb
    exact .inl ⟨_, _, ha, hb, h.ok s (by simp only [VR])⟩
  · split at h
    · rename_i q
      simp only [VR] at ha hb
      exact .inr (.inl ⟨_, _, ha, hb, q, h.ok s (by simp only [VR])⟩)
    · exact h.elim
  · split at h
    · rename_i xs ys q
      have hb2 := hb
      obtain ⟨p1, vs, e1, t1, r1⟩ := tup_ok ha rfl
      obtain ⟨p2, us, e2, t2, r2⟩ := tup_ok hb rfl
      refine .inr (.inr (.inl ⟨p1, p2, vs, us, e1, e2, t1, t2, by rw [r1.len, r2.len]; exact q, fun z => ?_, fun _ z => ?_, fun _ _ p n => newT_ok h s (r1.append r2) n⟩))
      · refine h.ok s ?_
        have l := r1.len
        rw [z] at l
        have e : xs = [] := List.eq_nil_of_length_eq_zero l.symm
        rw [e, List.nil_append, ← e2]
        exact hb2
      · refine h.ok s ?_
        have l := r2.len
        rw [z] at l
        have e : ys = [] := List.eq_nil_of_length_eq_zero l.symm
        rw [e, List.append_nil, ← e1]
        exact ha
    · exact h.elim
  · split at h
    · rename_i q1 q2
      obtain ⟨p1, vs, e1, t1, r1⟩ := trk_ok s ha q1
      obtain ⟨p2, us, e2, t2, r2⟩ := trk_ok s hb q2
      split at h
      · rename_i q
        exact .inr (.inr (.inr ⟨p1, p2, vs, us, e1, e2, t1, t2, by rw [r1.len, r2.len]; exact q, fun p n => newL_ok h s (r1.append r2) n⟩))
      · exact h.elim
    · exact h.elim
theorem ok_sub : OkR K T wSub (rI0 fun i j => .int (i - j)) := by
  intro ρ η st H a b x y Q E s ha hb h
  unfold wSub at h
  split at h
  · simp only [VR] at ha hb
    exact ⟨_, _, ha, hb, h.ok s (by simp only [VR])⟩
  · exact h.elim
theorem ok_mul {fz : Bool} : OkR K T (wMul fz) (rOr (rI CMul fun i j => .int (i * j)) rRep) := by
  intro ρ η st H a b x y Q E s ha hb h
  unfold wMul at h
  split at h
  · split at h
    · rename_i q
      simp only [VR] at ha hb
      refine .inl ⟨_, _, ha, hb, ?_, h.ok s (by simp only [VR])⟩
      simp only [Bool.or_eq_true] at q
      exact q.imp small64_of small64_of
    · exact h.elim
  · split at h
    · rename_i q1
      split at h
      · rename_i q
        obtain ⟨p1, vs, e1, t1, r1⟩ := trk_ok s ha q1
        simp only [VR] at hb
        exact .inr ⟨p1, _, vs, e1, hb, t1, by omega, by omega, by rw [r1.len]; exact q.2, fun p n => newL_ok h s (r1.flatrep _) n⟩
      · exact h.elim
    · exact h.elim
  · exact h.elim
theorem ok_mod : OkR K T wMod (rI (fun _ j => j ≠ 0) fun i j => .int (i.fmod j)) := by
  intro ρ η st H a b x y Q E s ha hb h
  unfold wMod at h
  split at h
  · split at h
    · rename_i q
      simp only [VR] at ha hb
      exact ⟨_, _, ha, hb, q, h.ok s (by simp only [VR])⟩
    · exact h.elim
  · exact h.elim
theorem ok_pow : OkR K T wPow (rI CPow fun i j => .int (i ^ j.toNat)) := by
  intro ρ η st H a b x y Q E s ha hb h
  unfold wPow at h
  split at h
  · split at h
    · rename_i q
      simp only [VR] at ha hb
      exact ⟨_, _, ha, hb, ⟨q.1, by omega, q.2.2⟩, h.ok s (by simp only [VR])⟩
    · exact h.elim
  · exact h.elim
end
end Mi
namespace Mi
open PySem L2

/-! ### equality -/
def scalV : W → Option V
  | .non => some .non
  | .bl b => some (.bl b)
  | .int i => some (.int i)
  | .str x => some (.str x)
  | _ => none
mutual
def toD0 : W → Option PyData
  | .non => some .none
  | .bl b => some (.bool b)
  | .int i => some (.int i)
  | .str x => some (.str x)
  | .tup xs => (toD0s xs).map .tuple
  | .lst xs => (toD0s xs).map .list
  | .scr xs => (toD0s xs).map .list
  | _ => none
def toD0s : List W → Option (List PyData)
  | [] => some []
  | x :: xs => match toD0 x, toD0s xs with
    | some d, some ds => some (d :: ds)
    | _, _ => none
end
mutual
def toD (st : Sto) : W → Option PyData
  | .non => some .none
  | .bl b => some (.bool b)
  | .int i => some (.int i)
  | .str x => some (.str x)
  | .tup xs => (toDs st xs).map .tuple
  | .lst xs => (toDs st xs).map .list
  | .scr xs => (toDs st xs).map .list
  | .ref i => match st[i]? with
    | some (.lst xs) => (toD0s xs).map .list
    | _ => none
  | _ => none
def toDs (st : Sto) : List W → Option (List PyData)
  | [] => some []
  | x :: xs => match toD st x, toDs st xs with
    | some d, some ds => some (d :: ds)
    | _, _ => none
end
section
variable {K : PySem.W.Frag} {T : Nat → Addr} {ρ η : List Addr} {H : Hp} {st : Sto}
theorem scal_ok {w : W} {v x : V} (h : VR K ρ η H w v) (e : scalV w = some x) : v = x := by
  cases w <;> simp [scalV] at e <;> subst e <;> simpa only [VR] using h
mutual
theorem toD0_ok : ∀ {w : W} {v : V} {d : PyData}, VR K ρ η H w v → toD0 w = some d → Dp K H v d
  | .non, v, d, h, e => by
    simp only [VR] at h; simp only [toD0, Option.some.injEq] at e; subst h; subst e; exact .non
  | .bl b, v, d, h, e => by
    simp only [VR] at h; simp only [toD0, Option.some.injEq] at e; subst h; subst e; exact .bl b
  | .int b, v, d, h, e => by
    simp only [VR] at h; simp only [toD0, Option.some.injEq] at e; subst h; subst e; exact .int b
  | .str b, v, d, h, e => by
    simp only [VR] at h; simp only [toD0, Option.some.injEq] at e; subst h; subst e; exact .str b
  | .tup xs, v, d, h, e => by
    simp only [VR] at h
    simp only [toD0, Option.map_eq_some_iff] at e
    obtain ⟨a, vs, h1, h2, h3⟩ := h
    obtain ⟨ds, e1, e2⟩ := e
    subst h1; subst e2
    exact .tup h2.sq (toD0s_ok h3 e1)
  | .lst xs, v, d, h, e => by
    simp only [VR] at h
    simp only [toD0, Option.map_eq_some_iff] at e
    obtain ⟨a, vs, h1, h2, h3⟩ := h
    obtain ⟨ds, e1, e2⟩ := e
    subst h1; subst e2
    exact .lst (SqL.of h2.2.2) (toD0s_ok h3 e1)
  | .scr xs, v, d, h, e => by
    simp only [VR] at h
    simp only [toD0, Option.map_eq_some_iff] at e
    obtain ⟨a, vs, h1, h2, h3⟩ := h
    obtain ⟨ds, e1, e2⟩ := e
    subst h1; subst e2
    exact .lst h2.sq (toD0s_ok h3 e1)
  | .ty n, v, d, h, e => by simp [toD0] at e
  | .ref n, v, d, h, e => by simp [toD0] at e
  | .at_ n, v, d, h, e => by simp [toD0] at e
theorem toD0s_ok : ∀ {ws : List W} {vs : List V} {ds : List PyData}, VRs K ρ η H ws vs → toD0s ws = some ds → DpAll K H vs ds
  | [], vs, ds, h, e => by
    simp only [VRs] at h; simp only [toD0s, Option.some.injEq] at e; subst h; subst e; exact .nil
  | x :: xs, vs, ds, h, e => by
    simp only [VRs] at h
    obtain ⟨v, r, h1, h2, h3⟩ := h
    simp only [toD0s] at e
    split at e
    · rename_i d ds' q1 q2
      cases e
      subst h1
      exact .cons (toD0_ok h2 q1) (toD0s_ok h3 q2)
    · cases e
end
mutual
theorem toD_ok (s : SR K T ρ η st H) : ∀ {w : W} {v : V} {d : PyData}, VR K ρ η H w v → toD st w = some d → Dp K H v d
  | .non, v, d, h, e => by
    simp only [VR] at h; simp only [toD, Option.some.injEq] at e; subst h; subst e; exact .non
  | .bl b, v, d, h, e => by
    simp only [VR] at h; simp only [toD, Option.some.injEq] at e; subst h; subst e; exact .bl b
  | .int b, v, d, h, e => by
    simp only [VR] at h; simp only [toD, Option.some.injEq] at e; subst h; subst e; exact .int b
  | .str b, v, d, h, e => by
    simp only [VR] at h; simp only [toD, Option.some.injEq] at e; subst h; subst e; exact .str b
  | .tup xs, v, d, h, e => by
    simp only [VR] at h
    simp only [toD, Option.map_eq_some_iff] at e
    obtain ⟨a, vs, h1, h2, h3⟩ := h
    obtain ⟨ds, e1, e2⟩ := e
    subst h1; subst e2
    exact .tup h2.sq (toDs_ok s h3 e1)
  | .lst xs, v, d, h, e => by
    simp only [VR] at h
    simp only [toD, Option.map_eq_some_iff] at e
    obtain ⟨a, vs, h1, h2, h3⟩ := h
    obtain ⟨ds, e1, e2⟩ := e
    subst h1; subst e2
    exact .lst (SqL.of h2.2.2) (toDs_ok s h3 e1)
  | .scr xs, v, d, h, e => by
    simp only [VR] at h
    simp only [toD, Option.map_eq_some_iff] at e
    obtain ⟨a, vs, h1, h2, h3⟩ := h
    obtain ⟨ds, e1, e2⟩ := e
    subst h1; subst e2
    exact .lst h2.sq (toDs_ok s h3 e1)
  | .ty n, v, d, h, e => by simp [toD] at e
  | .at_ n, v, d, h, e => by simp [toD] at e
  | .ref i, v, d, h, e => by
    simp only [toD] at e
    split at e
    · rename_i xs q
      obtain ⟨a, h1, _, vs, h2, h3⟩ := node_at s h q
      simp only [Option.map_eq_some_iff] at e
      obtain ⟨ds, e1, e2⟩ := e
      subst h1; subst e2
      exact .lst (SqL.of h2) (toD0s_ok h3 e1)
    · cases e
theorem toDs_ok (s : SR K T ρ η st H) : ∀ {ws : List W} {vs : List V} {ds : List PyData}, VRs K ρ η H ws vs → toDs st ws = some ds → DpAll K H vs ds
  | [], vs, ds, h, e => by
    simp only [VRs] at h; simp only [toDs, Option.some.injEq] at e; subst h; subst e; exact .nil
  | x :: xs, vs, ds, h, e => by
    simp only [VRs] at h
    obtain ⟨v, r, h1, h2, h3⟩ := h
    simp only [toDs] at e
    split at e
    · rename_i d ds' q1 q2
      cases e
      subst h1
      exact .cons (toD_ok s h2 q1) (toDs_ok s h3 q2)
    · cases e
end
end
/-- whether two things are equal, where this is carried -/
def eqW (st : Sto) (a b : W) : Option Bool :=
  match scalV a, scalV b with
  | some x, some y => if scal x y then some (decide (x = y)) else none
  | _, _ => match toD st a, toD st b with
    | some d, some e => if SeqAt.shaped d && SeqAt.shaped e then some (d.eqv e) else none
    | _, _ => none
def wEq : F2 := fun a b st => match eqW st a b with
  | some c => .ok (.bl c) st
  | none => .stuck
def wNe : F2 := fun a b st => match eqW st a b with
  | some c => .ok (.bl (!c)) st
  | none => .stuck
def isNon : W → Bool
  | .non => true
  | _ => false
def isBl (c : Bool) : W → Bool
  | .bl b => decide (b = c)
  | _ => false
def wIs : F2 := fun a b st => match b with
  | .non => .ok (.bl (isNon a)) st
  | .bl c => .ok (.bl (isBl c a)) st
  | _ => .stuck
def wIsNot : F2 := fun a b st => match b with
  | .non => .ok (.bl (!isNon a)) st
  | .bl c => .ok (.bl (!isBl c a)) st
  | _ => .stuck
/-- is, is not of flags -/
def rIsF (n : Bool) : R2 := fun x y H Q => ∃ c : Bool, y = .bl c ∧ Q (.bl (xor n (decide (x = .bl c)))) H
theorem op_isF {X : Cx} : OpR X (compareOp .Is) (rIsF false) := by
  intro pins s σ H x y v u Q I rx ry h
  obtain ⟨c, rfl, q⟩ := h
  cases (show u = Value.bool c from ry)
  by_cases e : x = .bl c
  · subst e
    cases (show v = Value.bool c from rx)
    exact PySem.wpAny_is_self rfl ⟨.bl true, H, I, rfl, by simpa using q⟩
  · refine PySem.wpAny_is_other ?_ ?_ ⟨.bl false, H, I, rfl, by simpa [e] using q⟩
    · cases x <;> first
        | (cases rx; rfl)
        | (obtain ⟨t, rfl⟩ := rx; rfl)
    · rintro rfl
      cases x <;> first
        | (cases rx; exact e rfl)
        | (cases rx; done)
        | (obtain ⟨t, z⟩ := rx; cases z)
        | (cases rx)
theorem op_isNotF {X : Cx} : OpR X (compareOp .IsNot) (rIsF true) := by
  intro pins s σ H x y v u Q I rx ry h
  obtain ⟨c, rfl, q⟩ := h
  cases (show u = Value.bool c from ry)
  by_cases e : x = .bl c
  · subst e
    cases (show v = Value.bool c from rx)
    exact PySem.wpAny_isNot_self rfl ⟨.bl false, H, I, rfl, by simpa using q⟩
  · refine PySem.wpAny_isNot_other ?_ ?_ ⟨.bl true, H, I, rfl, by simpa [e] using q⟩
    · cases x <;> first
        | (cases rx; rfl)
        | (obtain ⟨t, rfl⟩ := rx; rfl)
    · rintro rfl
      cases x <;> first
        | (cases rx; exact e rfl)
        | (cases rx; done)
        | (obtain ⟨t, z⟩ := rx; cases z)
        | (cases rx)
def scalVs : List W → Option (List V)
  | [] => some []
  | x :: xs => match scalV x, scalVs xs with
    | some v, some vs => some (v :: vs)
    | _, _ => none
/-- in a list, a tuple of flat things -/
def inW (st : Sto) (a b : W) : Option Bool :=
  match scalV a, (match tupL b with | some xs => scalVs xs | none => match seqL st b with | some xs => scalVs xs | none => none) with
  | some x, some vs => some (inV x vs)
  | _, _ => none
def wIn (neg : Bool) : F2 := fun a b st => match inW st a b with
  | some c => .ok (.bl (if neg = true then !c else c)) st
  | none => match a, b with
    | .str x, .str z => match x.cps.toList with
      | [c] => .ok (.bl (if neg = true then !decide (c ∈ z.cps.toList) else decide (c ∈ z.cps.toList))) st
      | _ => .stuck
    | _, _ => .stuck
def wCmpS (p : Str → Str → Bool) (q : Int → Int → Bool) : F2 := fun a b st => match a, b with
  | .int i, .int j => .ok (.bl (q i j)) st
  | .str i, .str j => .ok (.bl (p i j)) st
  | _, _ => .stuck
section
variable {K : PySem.W.Frag} {T : Nat → Addr} {ρ η : List Addr} {H : Hp} {st : Sto}
theorem ok_eq : OkR K T wEq (rOr rEq (rEqD K)) := by
  intro ρ η st H a b x y Q E s ha hb h
  unfold wEq at h
  cases e : eqW st a b with
  | none => rw [e] at h; exact h.elim
  | some c =>
    rw [e] at h
    have q : Q (.bl c) H := h.ok s (by simp only [VR])
    unfold eqW at e
    split at e
    · rename_i x' y' e1 e2
      split at e
      · rename_i z
        cases e
        have := scal_ok ha e1
        have := scal_ok hb e2
        subst x; subst y
        exact .inl ⟨z, q⟩
      · cases e
    · split at e
      · rename_i d e' e1 e2
        split at e
        · rename_i z
          cases e
          rw [Bool.and_eq_true] at z
          exact .inr ⟨d, e', toD_ok s ha e1, toD_ok s hb e2, z.1, z.2, q⟩
        · cases e
      · cases e
theorem ok_ne : OkR K T wNe (rOr rNe (rNeD K)) := by
  intro ρ η st H a b x y Q E s ha hb h
  unfold wNe at h
  cases e : eqW st a b with
  | none => rw [e] at h; exact h.elim
  | some c =>
    rw [e] at h
    have q : Q (.bl (!c)) H := h.ok s (by simp only [VR])
    unfold eqW at e
    split at e
    · rename_i x' y' e1 e2
      split at e
      · rename_i z
        cases e
        have := scal_ok ha e1
        have := scal_ok hb e2
        subst x; subst y
        exact .inl ⟨z, q⟩
      · cases e
    · split at e
      · rename_i d e' e1 e2
        split at e
        · rename_i z
          cases e
          rw [Bool.and_eq_true] at z
          exact .inr ⟨d, e', toD_ok s ha e1, toD_ok s hb e2, z.1, z.2, q⟩
        · cases e
      · cases e
theorem non_iff {w : W} {v : V} (h : VR K ρ η H w v) : decide (v = .non) = isNon w := by
  cases w with
  | non => simp only [VR] at h; subst h; rfl
  | bl b => simp only [VR] at h; subst h; rfl
  | int b => simp only [VR] at h; subst h; rfl
  | str b => simp only [VR] at h; subst h; rfl
  | ty b => simp only [VR] at h; subst h; rfl
  | tup xs => simp only [VR] at h; obtain ⟨a, vs, e, _⟩ := h; subst e; rfl
  | lst xs => simp only [VR] at h; obtain ⟨a, vs, e, _⟩ := h; subst e; rfl
  | scr xs => simp only [VR] at h; obtain ⟨a, vs, e, _⟩ := h; subst e; rfl
  | ref i => simp only [VR] at h; obtain ⟨a, _, e⟩ := h; subst e; rfl
  | at_ i => simp only [VR] at h; subst h; rfl
theorem bl_iff {c : Bool} {w : W} {v : V} (h : VR K ρ η H w v) : decide (v = .bl c) = isBl c w := by
  cases w with
  | bl b =>
    simp only [VR] at h
    subst h
    simp [isBl]
  | non => simp only [VR] at h; subst h; simp [isBl]
  | int i => simp only [VR] at h; subst h; simp [isBl]
  | str i => simp only [VR] at h; subst h; simp [isBl]
  | ty i => simp only [VR] at h; subst h; simp [isBl]
  | at_ i => simp only [VR] at h; subst h; simp [isBl]
  | ref i => simp only [VR] at h; obtain ⟨_, _, e⟩ := h; subst e; simp [isBl]
  | tup i => simp only [VR] at h; obtain ⟨_, _, e, _⟩ := h; subst e; simp [isBl]
  | lst i => simp only [VR] at h; obtain ⟨_, _, e, _⟩ := h; subst e; simp [isBl]
  | scr i => simp only [VR] at h; obtain ⟨_, _, e, _⟩ := h; subst e; simp [isBl]
theorem ok_is : OkR K T wIs (rOr (fun x y H Q => y = .non ∧ Q (.bl (decide (x = .non))) H) (rIsF false)) := by
  intro ρ η st H a b x y Q E s ha hb h
  unfold wIs at h
  split at h
  · simp only [VR] at hb
    refine .inl ⟨hb, ?_⟩
    rw [non_iff ha]
    exact h.ok s (by simp only [VR])
  · simp only [VR] at hb
    refine .inr ⟨_, hb, ?_⟩
    rw [bl_iff ha]
    exact h.ok s (by simp only [VR, Bool.false_bne])
  · exact h.elim
theorem ok_isnot : OkR K T wIsNot (rOr (fun x y H Q => y = .non ∧ Q (.bl (!decide (x = .non))) H) (rIsF true)) := by
  intro ρ η st H a b x y Q E s ha hb h
  unfold wIsNot at h
  split at h
  · simp only [VR] at hb
    refine .inl ⟨hb, ?_⟩
    rw [non_iff ha]
    exact h.ok s (by simp only [VR])
  · simp only [VR] at hb
    refine .inr ⟨_, hb, ?_⟩
    rw [bl_iff ha]
    exact h.ok s (by simp only [VR, Bool.true_bne])
  · exact h.elim
theorem scals_ok : ∀ {ws : List W} {vs us : List V}, VRs K ρ η H ws vs → scalVs ws = some us → vs = us
  | [], vs, us, h, e => by
    simp only [VRs] at h; simp only [scalVs, Option.some.injEq] at e; subst h; exact e
  | x :: xs, vs, us, h, e => by
    simp only [VRs] at h
    obtain ⟨v, r, h1, h2, h3⟩ := h
    simp only [scalVs] at e
    split at e
    · rename_i d ds' q1 q2
      cases e
      subst h1
      rw [scal_ok h2 q1, scals_ok h3 q2]
    · cases e
theorem scal_flat {w : W} {x : V} (e : scalV w = some x) : flatV x = true := by
  cases w <;> simp [scalV] at e <;> subst e <;> rfl
theorem scals_flat : ∀ {ws : List W} {us : List V}, scalVs ws = some us → us.all flatV = true
  | [], us, e => by simp only [scalVs, Option.some.injEq] at e; subst e; rfl
  | x :: xs, us, e => by
    simp only [scalVs] at e
    split at e
    · rename_i d ds' q1 q2
      cases e
      rw [List.all_cons, scal_flat q1, scals_flat q2]
      rfl
    · cases e
def rInSg (neg : Bool) : R2 := fun x y H Q => ∃ (c : Nat) (z : Str), x = .str ⟨#[c]⟩ ∧ y = .str z ∧ Q (.bl (if neg = true then !decide (c ∈ z.cps.toList) else decide (c ∈ z.cps.toList))) H
theorem ok_in {neg : Bool} : OkR K T (wIn neg) (rOr (rIn K neg) (rInSg neg)) := by
  intro ρ η st H a b x y Q E s ha hb h
  unfold wIn at h
  cases e : inW st a b with
  | some c =>
    rw [e] at h
    have q : Q (.bl (if neg = true then !c else c)) H := h.ok s (by simp only [VR])
    unfold inW at e
    split at e
    · rename_i x' us e1 e2
      cases e
      have := scal_ok ha e1
      subst x
      split at e2
      · rename_i xs q1
        obtain ⟨p, vs, h1, h2, h3⟩ := tup_ok hb q1
        have := scals_ok h3 e2
        subst vs
        exact .inl ⟨p, us, h1, .inr h2, scal_flat e1, scals_flat e2, q⟩
      · split at e2
        · rename_i xs q1
          obtain ⟨p, vs, h1, h2, h3⟩ := seq_ok s hb q1
          have := scals_ok h3 e2
          subst vs
          exact .inl ⟨p, us, h1, .inl h2, scal_flat e1, scals_flat e2, q⟩
        · cases e2
    · cases e
  | none =>
    rw [e] at h
    dsimp only at h
    split at h
    · rename_i cs z
      split at h
      · rename_i c q
        simp only [VR] at ha hb
        refine .inr ⟨c, z, ?_, hb, h.ok s (by simp only [VR])⟩
        rw [ha]
        obtain ⟨⟨l⟩⟩ := cs
        have q : l = [c] := q
        rw [q]
      · exact h.elim
    · exact h.elim
theorem ok_cmpS {p : Str → Str → Bool} {q : Int → Int → Bool} : OkR K T (wCmpS p q) (rOr (rI0 fun i j => .bl (q i j)) (fun x y H Q => ∃ i j, x = .str i ∧ y = .str j ∧ Q (.bl (p i j)) H)) := by
  intro ρ η st H a b x y Q E s ha hb h
  unfold wCmpS at h
  split at h
  · simp only [VR] at ha hb
    exact .inl ⟨_, _, ha, hb, h.ok s (by simp only [VR])⟩
  · simp only [VR] at ha hb
    exact .inr ⟨_, _, ha, hb, h.ok s (by simp only [VR])⟩
  · exact h.elim
end
end Mi
namespace Mi
open PySem L2

/-! ### the mirror of expressions -/
def mVar (i : Nat) : M W := fun env st => match env[i]? with
  | some (some w) => .ok w st
  | _ => .stuck
def mC (w : W) : M W := fun _ st => .ok w st
def mOp (f : F2) (ma mb : M W) : M W := fun env st => (ma env st).bind fun a s1 => (mb env s1).bind fun b s2 => f a b s2
def mNeg (ma : M W) : M W := fun env st => (ma env st).bind fun a s1 => match a with
  | .int i => .ok (.int (-i)) s1
  | _ => .stuck
def toB : W → Sto → Rs Bool
  | .bl b, st => .ok b st
  | _, _ => .stuck
/-- a value's truth -/
def trW (st : Sto) : W → Option Bool
  | .non => some false
  | .bl b => some b
  | .int i => some (i != 0)
  | .str x => if x.length ≤ sizeLine then some ((x.length : Int) != 0) else none
  | .lst xs => some (!xs.isEmpty)
  | .scr xs => some (!xs.isEmpty)
  | .tup xs => some (!xs.isEmpty)
  | .ref i => match st[i]? with
    | some (.lst xs) => some (!xs.isEmpty)
    | some (.dk kvs) => some (!kvs.isEmpty)
    | _ => none
  | _ => none
def mB (ma : M W) : M Bool := fun env st => (ma env st).bind toB
def mTr (ma : M W) : M Bool := fun env st => (ma env st).bind fun a s1 => match trW s1 a with
  | some b => .ok b s1
  | none => .stuck
def mNot (m : M Bool) : M Bool := fun env st => (m env st).bind fun b s1 => .ok (!b) s1
def mAnd (m k : M Bool) : M Bool := fun env st => (m env st).bind fun b s1 => if b = true then k env s1 else .ok false s1
def mOr (m k : M Bool) : M Bool := fun env st => (m env st).bind fun b s1 => if b = true then .ok true s1 else k env s1
def mIf {α : Type} (c : M Bool) (ma mb : M α) : M α := fun env st => (c env st).bind fun b s1 => if b = true then ma env s1 else mb env s1
def mBl (m : M Bool) : M W := fun env st => (m env st).bind fun b s1 => .ok (.bl b) s1
def mNil : M (List W) := fun _ st => .ok [] st
def mCons (ma : M W) (mr : M (List W)) : M (List W) := fun env st => (ma env st).bind fun a s1 => (mr env s1).bind fun r s2 => .ok (a :: r) s2
def mTup (m : M (List W)) : M W := fun env st => (m env st).bind fun ws s1 => .ok (.tup ws) s1
def mLst (fz : Bool) (m : M (List W)) : M W := fun env st => (m env st).bind fun ws s1 => newL fz ws s1
def mDict0 : M W := fun _ st => .ok (.ref st.length) (st ++ [.dk []])
/-- two comparisons in a row -/
def mChain (f g : F2) (ma mb mc : M W) : M W := fun env st => (ma env st).bind fun a s1 => (mb env s1).bind fun b s2 => (f a b s2).bind fun z s3 => match z with
  | .bl true => (mc env s3).bind fun c s4 => g b c s4
  | .bl false => .ok (.bl false) s3
  | _ => .stuck
def wNth (xs : List W) (i : Int) (st : Sto) : Rs W := match atI xs i with
  | some w => .ok w st
  | none => .stuck
def dkOf (st : Sto) : W → Option (List (Key × W))
  | .ref i => match st[i]? with
    | some (.dk kvs) => some kvs
    | some (.lk kvs) => some kvs
    | _ => none
  | _ => none
def keyOf : W → Option Key
  | .int i => some (.inl i)
  | .str x => some (.inr x)
  | _ => none
def lkW (kvs : List (Key × W)) (k : Key) : Option W := (kvs.find? fun kv => decide (kv.1 = k)).map (·.2)
/-- a[b] -/
def wIx : F2 := fun a b st => match dkOf st a with
  | some kvs => match keyOf b with
    | some k => match lkW kvs k with
      | some w => .ok w st
      | none => .stuck
    | none => .stuck
  | none => match b with
    | .int i => match seqL st a with
      | some xs => wNth xs i st
      | none => match a with
        | .tup xs => wNth xs i st
        | .str z => if z.length ≤ sizeLine then (match atI z.cps.toList i with | some c => .ok (.str ⟨#[c]⟩) st | none => .stuck) else .stuck
        | _ => .stuck
    | _ => .stuck
def cutW (xs : List W) (lo hi : Option Int) : List W := List.take (HT.sIx xs.length xs.length hi - HT.sIx xs.length 0 lo) (List.drop (HT.sIx xs.length 0 lo) xs)
def wSl (fz : Bool) (a : W) (lo hi : Option Int) (st : Sto) : Rs W := match seqL st a with
  | some xs => newL fz (cutW xs lo hi) st
  | none => match a with
    | .tup xs => .ok (.tup (cutW xs lo hi)) st
    | _ => .stuck
def mPart (m : M W) : M (Option Int) := fun env st => (m env st).bind fun a s1 => match a with
  | .int i => .ok (some i) s1
  | _ => .stuck
def mNoPart : M (Option Int) := fun _ st => .ok none st
def mSl (fz : Bool) (ma : M W) (ml mh : M (Option Int)) : M W := fun env st => (ma env st).bind fun a s1 => (ml env s1).bind fun lo s2 => (mh env s2).bind fun hi s3 => wSl fz a lo hi s3
section
variable {X : Cx} {T : Nat → Addr} {Wx : WX'} {pos : Pos}
theorem se_var {i : Nat} {x : Str} (hN : X.N[i]? = some x) (hv : Vis X.env.scope x) (hd : (x == ("__debug__" : Str)) = false := by decide) (hcd : (x == ("__classdict__" : Str)) = false := by decide) : SE X T Wx (.Name x pos) (mVar i) := by
  intro ρ η st env σ H Q s er h
  unfold mVar at h
  split at h
  · rename_i w q
    obtain ⟨v, e, r⟩ := er.2 i w q
    exact ⟨_, pe_var hN hv hd hcd, v, e, h.ok s r⟩
  · exact h.elim
theorem se_c {e : Expr} {v : V} {w : W} (he : PE X e (tC v)) (r : ∀ ρ η H, VR X.K ρ η H w v) : SE X T Wx e (mC w) := fun ρ η st env σ H Q s er h => ⟨_, he, h.ok s (r ρ η H)⟩
theorem se_int {i j} : SE X T Wx (.Constant (.int i) j pos) (mC (.int i)) := se_c pe_int fun _ _ _ => by simp only [VR]
theorem se_bl {i j} : SE X T Wx (.Constant (.bool i) j pos) (mC (.bl i)) := se_c pe_bl fun _ _ _ => by simp only [VR]
theorem se_non {j} : SE X T Wx (.Constant .none j pos) (mC .non) := se_c pe_non fun _ _ _ => by simp only [VR]
theorem se_str {i j} : SE X T Wx (.Constant (.str i) j pos) (mC (.str i)) := se_c pe_str fun _ _ _ => by simp only [VR]
/-- a whole number of the module -/
theorem se_globI {x : Str} {i : Int} {u : Value} (hg : Gl X x) (hm : X.mg x = some u) (hr : RelV (.int i) u) (hd : (x == ("__debug__" : Str)) = false := by decide) : SE X T Wx (.Name x pos) (mC (.int i)) := se_c (pe_glob hg hm hr hd) fun _ _ _ => by simp only [VR]
theorem se_op {a b : Expr} {op : Operator} {r : R2} {f : F2} {ma mb : M W} (ho : OpR X (binaryOp op) r) (hf : OkR X.K T f r) (ha : SE X T Wx a ma) (hb : SE X T Wx b mb) : SE X T Wx (.BinOp a op b pos) (mOp f ma mb) := by
  intro ρ η st env σ H Q s er h
  refine ⟨_, pe_op ho pe_S pe_S, ?_⟩
  refine ha ρ η st env σ H _ s er (h.bind fun w s1 ρ1 H1 v g1 sr1 r1 h1 => ?_)
  refine hb ρ1 η s1 env σ H1 _ sr1 (er.mono g1) (h1.bind fun u s2 ρ2 H2 v2 g2 sr2 r2 h2 => ?_)
  exact hf ρ2 η s2 H2 w u v v2 Q _ sr2 (r1.mono g2) r2 h2
theorem se_cmp {a b : Expr} {op : CmpOp} {r : R2} {f : F2} {ma mb : M W} (ho : OpR X (compareOp op) r) (hf : OkR X.K T f r) (ha : SE X T Wx a ma) (hb : SE X T Wx b mb) (hm : behindInMarks op b = false) : SE X T Wx (.Compare a [op] [b] pos) (mOp f ma mb) := by
  intro ρ η st env σ H Q s er h
  refine ⟨_, pe_cmpR ho pe_S pe_S hm, ?_⟩
  refine ha ρ η st env σ H _ s er (h.bind fun w s1 ρ1 H1 v g1 sr1 r1 h1 => ?_)
  refine hb ρ1 η s1 env σ H1 _ sr1 (er.mono g1) (h1.bind fun u s2 ρ2 H2 v2 g2 sr2 r2 h2 => ?_)
  exact hf ρ2 η s2 H2 w u v v2 Q _ sr2 (r1.mono g2) r2 h2
theorem Rs.bind_assoc {α β γ : Type} (r : Rs α) (k : α → Sto → Rs β) (l : β → Sto → Rs γ) : (r.bind k).bind l = r.bind fun a s => (k a s).bind l := by
  cases r <;> rfl
theorem toB_ok {ρ η : List Addr} {H : Hp} {st : Sto} {w : W} {v : V} {Q : Bool → Hp → Prop} {E : Value → Option Addr → Hp → Prop} (s : SR X.K T ρ η st H) (r : VR X.K ρ η H w v) (h : After X.K T η (fun _ _ => Eq) ρ H (toB w st) Q E) : ∃ k, v = .bl k ∧ Q k H := by
  unfold toB at h
  split at h
  · simp only [VR] at r
    exact ⟨_, r, h.ok s rfl⟩
  · exact h.elim
theorem st_cmp {a b : Expr} {op : CmpOp} {r : R2} {f : F2} {ma mb : M W} (ho : OpR X (compareOp op) r) (hf : OkR X.K T f r) (ha : SE X T Wx a ma) (hb : SE X T Wx b mb) (hm : behindInMarks op b = false) : STt X T Wx (.Compare a [op] [b] pos) (mB (mOp f ma mb)) := by
  intro ρ η st env σ H Q s er h
  refine ⟨_, pt_cmpR ho pe_S pe_S hm, ?_⟩
  unfold mB mOp at h
  rw [Rs.bind_assoc] at h
  refine ha ρ η st env σ H _ s er (h.bind fun w s1 ρ1 H1 v g1 sr1 r1 h1 => ?_)
  rw [Rs.bind_assoc] at h1
  refine hb ρ1 η s1 env σ H1 _ sr1 (er.mono g1) (h1.bind fun u s2 ρ2 H2 v2 g2 sr2 r2 h2 => ?_)
  refine hf ρ2 η s2 H2 w u v v2 _ _ sr2 (r1.mono g2) r2 (h2.bind fun z s3 ρ3 H3 v3 g3 sr3 r3 h3 => ?_)
  exact toB_ok sr3 r3 h3
theorem tr_ok {ρ η : List Addr} {H : Hp} {st : Sto} {w : W} {v : V} {b : Bool} (s : SR X.K T ρ η st H) (r : VR X.K ρ η H w v) (e : trW st w = some b) : TruV X.K v H b := by
  have emp : ∀ {xs : List W} {vs : List V}, VRs X.K ρ η H xs vs → (!xs.isEmpty) = !vs.isEmpty := fun {xs vs} h => by
    have := h.len
    cases xs <;> cases vs <;> simp_all
  cases w with
  | non => simp only [VR] at r; subst r; simp only [trW, Option.some.injEq] at e; exact e.symm
  | bl k => simp only [VR] at r; subst r; simp only [trW, Option.some.injEq] at e; exact e.symm
  | int k => simp only [VR] at r; subst r; simp only [trW, Option.some.injEq] at e; exact e.symm
  | str k =>
    simp only [VR] at r
    subst r
    simp only [trW] at e
    split at e
    · rename_i q
      cases e
      exact ⟨q, rfl⟩
    · cases e
  | ty n => simp [trW] at e
  | at_ n => simp [trW] at e
  | lst xs =>
    obtain ⟨a, vs, h1, h2, h3⟩ := seq_ok s r (show seqL st (.lst xs) = some xs from rfl)
    simp only [trW, Option.some.injEq] at e
    subst h1; subst e
    exact .inl ⟨vs, h2, emp h3⟩
  | scr xs =>
    obtain ⟨a, vs, h1, h2, h3⟩ := seq_ok s r (show seqL st (.scr xs) = some xs from rfl)
    simp only [trW, Option.some.injEq] at e
    subst h1; subst e
    exact .inl ⟨vs, h2, emp h3⟩
  | tup xs =>
    obtain ⟨a, vs, h1, h2, h3⟩ := tup_ok r (show tupL (.tup xs) = some xs from rfl)
    simp only [trW, Option.some.injEq] at e
    subst h1; subst e
    exact .inr (.inl ⟨vs, h2, emp h3⟩)
  | ref i =>
    simp only [trW] at e
    split at e
    · rename_i xs q
      obtain ⟨a, h1, _, vs, h2, h3⟩ := node_at s r q
      cases e
      subst h1
      exact .inl ⟨vs, SqL.of h2, emp h3⟩
    · rename_i xs q
      obtain ⟨a, h1, _, kv, h2, h3, h4⟩ := node_at s r q
      cases e
      subst h1
      refine .inr (.inr ⟨kv, h2, ?_⟩)
      have := congrArg List.length h3
      cases xs <;> cases kv <;> simp_all
    · cases e
theorem st_tr {e : Expr} {m : M W} (he : SE X T Wx e m) (hi : ∀ whole, isTrue e X.env whole = (do let v ← whole; standAt e.pos; holding [v] (truthy v)) := by intro _; rfl) : STt X T Wx e (mTr m) := by
  intro ρ η st env σ H Q s er h
  refine ⟨_, pt_truth pe_S hi, ?_⟩
  refine he ρ η st env σ H _ s er (h.bind fun w s1 ρ1 H1 v g1 sr1 r1 h1 => ?_)
  cases e : trW s1 w with
  | none => rw [e] at h1; exact h1.elim
  | some b =>
    rw [e] at h1
    exact ⟨b, tr_ok sr1 r1 e, h1.ok sr1 rfl⟩
theorem st_not {e : Expr} {m : M Bool} (he : STt X T Wx e m) : STt X T Wx (.UnaryOp .Not e pos) (mNot m) := by
  intro ρ η st env σ H Q s er h
  refine ⟨_, pt_not pt_S, ?_⟩
  refine he ρ η st env σ H _ s er (h.bind fun b s1 ρ1 H1 v g1 sr1 r1 h1 => ?_)
  subst r1
  exact h1.ok sr1 rfl
theorem sw_and1 {e : Expr} {m : M Bool} (he : STt X T Wx e m) : SWt X T Wx (.BoolOp .And [e] pos) m := fun ρ η st env σ H Q s er h => ⟨_, pw_and1 pt_S, he ρ η st env σ H _ s er h⟩
theorem sw_or1 {e : Expr} {m : M Bool} (he : STt X T Wx e m) : SWt X T Wx (.BoolOp .Or [e] pos) m := fun ρ η st env σ H Q s er h => ⟨_, pw_or1 pt_S, he ρ η st env σ H _ s er h⟩
theorem sw_and {a b : Expr} {rest : List Expr} {m k : M Bool} (ha : STt X T Wx a m) (hb : SWt X T Wx (.BoolOp .And (b :: rest) pos) k) : SWt X T Wx (.BoolOp .And (a :: b :: rest) pos) (mAnd m k) := by
  intro ρ η st env σ H Q s er h
  refine ⟨_, pw_and pt_S pw_S, ?_⟩
  refine ha ρ η st env σ H _ s er (h.bind fun b s1 ρ1 H1 v g1 sr1 r1 h1 => ?_)
  subst r1
  cases b with
  | true => exact iteT (hb ρ1 η s1 env σ H1 Q sr1 (er.mono g1) h1)
  | false => exact iteF (h1.ok sr1 rfl)
theorem sw_or {a b : Expr} {rest : List Expr} {m k : M Bool} (ha : STt X T Wx a m) (hb : SWt X T Wx (.BoolOp .Or (b :: rest) pos) k) : SWt X T Wx (.BoolOp .Or (a :: b :: rest) pos) (mOr m k) := by
  intro ρ η st env σ H Q s er h
  refine ⟨_, pw_or pt_S pw_S, ?_⟩
  refine ha ρ η st env σ H _ s er (h.bind fun b s1 ρ1 H1 v g1 sr1 r1 h1 => ?_)
  subst r1
  cases b with
  | true => exact iteT (h1.ok sr1 rfl)
  | false => exact iteF (hb ρ1 η s1 env σ H1 Q sr1 (er.mono g1) h1)
theorem st_w {e : Expr} {m : M Bool} (h : SWt X T Wx e m) : STt X T Wx e m := fun ρ η st env σ H Q s er q => by
  obtain ⟨t, h1, h2⟩ := h ρ η st env σ H Q s er q
  exact ⟨t, h1.pt, h2⟩
/-- bools as values -/
theorem se_and1 {op} {e : Expr} {m : M Bool} (he : SE X T Wx e (mBl m)) : SE X T Wx (.BoolOp op [e] pos) (mBl m) := fun ρ η st env σ H Q s er h => ⟨_, pe_one pe_S, he ρ η st env σ H _ s er h⟩
theorem se_and {a b : Expr} {rest : List Expr} {m k : M Bool} (ha : SE X T Wx a (mBl m)) (hb : SE X T Wx (.BoolOp .And (b :: rest) pos) (mBl k)) : SE X T Wx (.BoolOp .And (a :: b :: rest) pos) (mBl (mAnd m k)) := by
  intro ρ η st env σ H Q s er h
  refine ⟨_, pe_and pe_S pe_S, ?_⟩
  unfold mBl mAnd at h
  rw [Rs.bind_assoc] at h
  have h' : After X.K T η (fun ρ H => VR X.K ρ η H) ρ H ((mBl m env st).bind fun w s1 => match w with | .bl b => (if b = true then k env s1 else Rs.ok false s1).bind fun b s1 => .ok (.bl b) s1 | _ => .stuck) Q (fun c d H' => Wx c d σ H') := by
    unfold mBl
    rw [Rs.bind_assoc]
    exact h
  refine ha ρ η st env σ H _ s er (h'.bind fun w s1 ρ1 H1 v g1 sr1 r1 h1 => ?_)
  split at h1
  · rename_i c
    simp only [VR] at r1
    refine ⟨c, r1, ?_⟩
    cases c with
    | true => exact iteT (hb ρ1 η s1 env σ H1 Q sr1 (er.mono g1) h1)
    | false => exact iteF (h1.ok sr1 (by simp only [VR]))
  · exact h1.elim
theorem se_or {a b : Expr} {rest : List Expr} {m k : M Bool} (ha : SE X T Wx a (mBl m)) (hb : SE X T Wx (.BoolOp .Or (b :: rest) pos) (mBl k)) : SE X T Wx (.BoolOp .Or (a :: b :: rest) pos) (mBl (mOr m k)) := by
  intro ρ η st env σ H Q s er h
  refine ⟨_, pe_or pe_S pe_S, ?_⟩
  unfold mBl mOr at h
  rw [Rs.bind_assoc] at h
  have h' : After X.K T η (fun ρ H => VR X.K ρ η H) ρ H ((mBl m env st).bind fun w s1 => match w with | .bl b => (if b = true then Rs.ok true s1 else k env s1).bind fun b s1 => .ok (.bl b) s1 | _ => .stuck) Q (fun c d H' => Wx c d σ H') := by
    unfold mBl
    rw [Rs.bind_assoc]
    exact h
  refine ha ρ η st env σ H _ s er (h'.bind fun w s1 ρ1 H1 v g1 sr1 r1 h1 => ?_)
  split at h1
  · rename_i c
    simp only [VR] at r1
    refine ⟨c, r1, ?_⟩
    cases c with
    | true => exact iteT (h1.ok sr1 (by simp only [VR]))
    | false => exact iteF (hb ρ1 η s1 env σ H1 Q sr1 (er.mono g1) h1)
  · exact h1.elim
theorem se_not {e : Expr} {m : M Bool} (he : SE X T Wx e (mBl m)) : SE X T Wx (.UnaryOp .Not e pos) (mBl (mNot m)) := by
  intro ρ η st env σ H Q s er h
  refine ⟨_, pe_not pe_S, ?_⟩
  have h' : After X.K T η (fun ρ H => VR X.K ρ η H) ρ H ((mBl m env st).bind fun w s1 => match w with | .bl b => .ok (.bl (!b)) s1 | _ => .stuck) Q (fun c d H' => Wx c d σ H') := by
    unfold mBl
    rw [Rs.bind_assoc]
    unfold mBl mNot at h
    rw [Rs.bind_assoc] at h
    exact h
  refine he ρ η st env σ H _ s er (h'.bind fun w s1 ρ1 H1 v g1 sr1 r1 h1 => ?_)
  split at h1
  · rename_i c
    simp only [VR] at r1
    exact ⟨c, r1, h1.ok sr1 (by simp only [VR])⟩
  · exact h1.elim
/-- a bool as a value, by its mirror -/
theorem se_bB {e : Expr} {m : M W} (he : SE X T Wx e m) : SE X T Wx e (mBl (mB m)) := by
  intro ρ η st env σ H Q s er h
  refine he ρ η st env σ H Q s er ?_
  unfold mBl mB at h
  rw [Rs.bind_assoc] at h
  cases q : m env st with
  | ok w s1 =>
    rw [q] at h
    cases w with
    | bl b => exact h
    | _ => exact h.elim
  | ex x s1 => rw [q] at h; exact h
  | stuck => rw [q] at h; exact h
theorem se_neg {e : Expr} {m : M W} (he : SE X T Wx e m) : SE X T Wx (.UnaryOp .USub e pos) (mNeg m) := by
  intro ρ η st env σ H Q s er h
  refine ⟨_, pe_un un_neg pe_S, ?_⟩
  refine he ρ η st env σ H _ s er (h.bind fun w s1 ρ1 H1 v g1 sr1 r1 h1 => ?_)
  split at h1
  · simp only [VR] at r1
    exact ⟨_, r1, h1.ok sr1 (by simp only [VR])⟩
  · exact h1.elim
end
end Mi
namespace Mi
open PySem L2
section
variable {X : Cx} {T : Nat → Addr} {Wx : WX'} {pos : Pos}
/-! ### argument lists, displays -/
theorem sa_nil : SA X T Wx [] mNil := fun ρ η st env σ H Q s er h => ⟨_, pa_nil, h.ok s VRs.nil⟩
theorem sa_cons {e : Expr} {es : List Expr} {m : M W} {k : M (List W)} (he : SE X T Wx e m) (hs : SA X T Wx es k) (hst : starEach (e :: es) X.env = (false, eval e X.env) :: starEach es X.env := by rfl) : SA X T Wx (e :: es) (mCons m k) := by
  intro ρ η st env σ H Q s er h
  refine ⟨_, pa_cons pe_S pa_S hst, ?_⟩
  refine he ρ η st env σ H _ s er (h.bind fun w s1 ρ1 H1 v g1 sr1 r1 h1 => ?_)
  refine hs ρ1 η s1 env σ H1 _ sr1 (er.mono g1) (h1.bind fun ws s2 ρ2 H2 vs g2 sr2 r2 h2 => ?_)
  exact h2.ok sr2 (VRs.cons (r1.mono g2) r2)
/-- how long an argument list is -/
def ArgLen (n : Nat) (m : M (List W)) : Prop := ∀ env st ws st', m env st = .ok ws st' → ws.length = n
theorem len_nil : ArgLen 0 mNil := fun env st ws st' h => by
  simp only [mNil, Rs.ok.injEq] at h
  rw [← h.1]; rfl
theorem len_cons {n : Nat} {m : M W} {k : M (List W)} (h : ArgLen n k) : ArgLen (n + 1) (mCons m k) := fun env st ws st' e => by
  unfold mCons at e
  cases q : m env st with
  | ok w s1 =>
    rw [q] at e
    simp only [Rs.bind] at e
    cases q2 : k env s1 with
    | ok r s2 =>
      rw [q2] at e
      simp only [Rs.ok.injEq] at e
      rw [← e.1, List.length_cons, h env s1 r s2 q2]
    | ex x s2 => rw [q2] at e; cases e
    | stuck => rw [q2] at e; cases e
  | ex x s1 => rw [q] at e; cases e
  | stuck => rw [q] at e; cases e
theorem se_tup {es : List Expr} {k : M (List W)} {n : Nat} {x1} (h : SA X T Wx es k) (hl : ArgLen n k) (hn : n ≤ 1000 := by decide) : SE X T Wx (.Tuple es x1 pos) (mTup k) := by
  intro ρ η st env σ H Q s er q
  refine ⟨_, pe_tup pa_S, ?_⟩
  have ql : ∀ ws st', k env st = .ok ws st' → ws.length = n := fun ws st' e => hl env st ws st' e
  refine h ρ η st env σ H _ s er ?_
  unfold mTup at q
  cases e : k env st with
  | ok ws s1 =>
    rw [e] at q
    refine fun ρ1 H1 vs g1 sr1 r1 => ⟨?_, fun p hp => newT_ok (After.grow g1 q) sr1 r1 hp⟩
    rw [r1.len, ql ws s1 e]
    exact Nat.le_trans hn (by decide)
  | ex x s1 => rw [e] at q; exact q
  | stuck => rw [e] at q; exact q
theorem se_lst {fz : Bool} {es : List Expr} {k : M (List W)} {n : Nat} (h : SA X T Wx es k) (hl : ArgLen n k) (hn : n ≤ 1000 := by decide) : SE X T Wx (.List es pos) (mLst fz k) := by
  intro ρ η st env σ H Q s er q
  refine ⟨_, pe_lst pa_S, ?_⟩
  have ql : ∀ ws st', k env st = .ok ws st' → ws.length = n := fun ws st' e => hl env st ws st' e
  refine h ρ η st env σ H _ s er ?_
  unfold mLst at q
  cases e : k env st with
  | ok ws s1 =>
    rw [e] at q
    refine fun ρ1 H1 vs g1 sr1 r1 => ⟨?_, fun p hp => newL_ok (After.grow g1 q) sr1 r1 hp⟩
    rw [r1.len, ql ws s1 e]
    exact Nat.le_trans hn (by decide)
  | ex x s1 => rw [e] at q; exact q
  | stuck => rw [e] at q; exact q
theorem se_dict0 : SE X T Wx (.Dict [] [] pos) mDict0 := by
  intro ρ η st env σ H Q s er h
  refine ⟨_, pe_dnewK, fun d hd => ?_⟩
  refine h (ρ ++ [d]) _ _ (Grow.node hd) (s.node hd ⟨[], upd_same, rfl, VRs.nil⟩) ?_
  simp only [VR]
  exact ⟨d, by rw [← s.len, List.getElem?_append_right (Nat.le_refl _)]; simp, rfl⟩
/-- a op b op' c -/
theorem se_chain {a b c : Expr} {op op' : CmpOp} {r r' : R2} {f g : F2} {ma mb mc : M W} (ho : OpR X (compareOp op) r) (hf : OkR X.K T f r) (ho' : OpR X (compareOp op') r') (hg : OkR X.K T g r') (ha : SE X T Wx a ma) (hb : SE X T Wx b mb) (hc : SE X T Wx c mc)
    (hl : lastMarks [op, op'] [b, c] = false := by rfl) : SE X T Wx (.Compare a [op, op'] [b, c] pos) (mChain f g ma mb mc) := by
  intro ρ η st env σ H Q s er h
  refine ⟨_, pe_chain ho ho' pe_S pe_S pe_S hl, ?_⟩
  refine ha ρ η st env σ H _ s er (h.bind fun w s1 ρ1 H1 v g1 sr1 r1 h1 => ?_)
  refine hb ρ1 η s1 env σ H1 _ sr1 (er.mono g1) (h1.bind fun u s2 ρ2 H2 v2 g2 sr2 r2 h2 => ?_)
  refine hf ρ2 η s2 H2 w u v v2 _ _ sr2 (r1.mono g2) r2 (h2.bind fun z s3 ρ3 H3 v3 g3 sr3 r3 h3 => ?_)
  split at h3
  · simp only [VR] at r3
    refine ⟨true, r3, iteT ?_⟩
    refine hc ρ3 η s3 env σ H3 _ sr3 ((er.mono g1).mono (g2.trans g3)) (h3.bind fun x s4 ρ4 H4 v4 g4 sr4 r4 h4 => ?_)
    exact hg ρ4 η s4 H4 u x v2 v4 Q _ sr4 (r2.mono (g3.trans g4)) r4 h4
  · simp only [VR] at r3
    exact ⟨false, r3, iteF (h3.ok sr3 (by simp only [VR]))⟩
  · exact h3.elim
/-! ### subscripts -/
theorem VRs.atI {ρ η : List Addr} {H : Hp} {xs : List W} {vs : List V} {i : Int} {w : W} (r : VRs X.K ρ η H xs vs) (e : atI xs i = some w) : ∃ v, atI vs i = some v ∧ VR X.K ρ η H w v := by
  unfold L2.atI at e ⊢
  rw [r.len]
  cases q : ixN xs.length i with
  | none => rw [q] at e; cases e
  | some j =>
    rw [q] at e
    exact r.get e
theorem kv_find {ρ η : List Addr} {H : Hp} : ∀ {kvs : List (Key × W)} {kv : List (Key × V)} {k : Key}, kv.map (·.1) = kvs.map (·.1) → VRs X.K ρ η H (kvs.map (·.2)) (kv.map (·.2)) →
    (lkW kvs k = none ∧ valV kv k = none) ∨ ∃ w v, lkW kvs k = some w ∧ valV kv k = some v ∧ VR X.K ρ η H w v
  | [], [], k, _, _ => .inl ⟨rfl, rfl⟩
  | [], p :: kv, k, e, _ => by simp at e
  | p :: kvs, [], k, e, _ => by simp at e
  | (a, w) :: kvs, (b, v) :: kv, k, e, r => by
    simp only [List.map_cons, List.cons.injEq] at e
    obtain ⟨e1, e2⟩ := e
    subst e1
    rw [List.map_cons, List.map_cons] at r
    simp only [VRs] at r
    obtain ⟨v', r', q1, q2, q3⟩ := r
    simp only [List.cons.injEq] at q1
    obtain ⟨q1, q4⟩ := q1
    subst q1; subst q4
    by_cases z : b = k
    · refine .inr ⟨w, v, ?_, ?_, q2⟩
      · simp [lkW, z]
      · simp [valV, z]
    · rcases kv_find (k := k) e2 q3 with ⟨h1, h2⟩ | ⟨w', v', h1, h2, h3⟩
      · refine .inl ⟨?_, ?_⟩
        · simpa [lkW, z] using h1
        · simpa [valV, z] using h2
      · refine .inr ⟨w', v', ?_, ?_, h3⟩
        · simpa [lkW, z] using h1
        · simpa [valV, z] using h2
theorem key_ok {ρ η : List Addr} {H : Hp} {w : W} {v : V} {k : Key} (r : VR X.K ρ η H w v) (e : keyOf w = some k) : v = kV k := by
  cases w <;> simp [keyOf] at e <;> subst e <;> simp only [VR] at r <;> exact r
theorem dk_ok {ρ η : List Addr} {H : Hp} {st : Sto} {w : W} {v : V} {kvs : List (Key × W)} (s : SR X.K T ρ η st H) (r : VR X.K ρ η H w v) (e : dkOf st w = some kvs) :
    ∃ a kv, v = .ref a ∧ Rd H a (.dK kv) ∧ kv.map (·.1) = kvs.map (·.1) ∧ VRs X.K ρ η H (kvs.map (·.2)) (kv.map (·.2)) := by
  cases w with
  | ref i =>
    simp only [dkOf] at e
    split at e
    · rename_i ks q
      cases e
      obtain ⟨a, h1, _, kv, h2, h3, h4⟩ := node_at s r q
      exact ⟨a, kv, h1, .inl h2, h3, h4⟩
    · rename_i ks q
      cases e
      obtain ⟨a, h1, _, od, kv, h2, h3, h4⟩ := node_at s r q
      exact ⟨a, kv, h1, .inr ⟨od, h2⟩, h3, h4⟩
    · cases e
  | _ => simp [dkOf] at e
theorem nth_ok {ρ η : List Addr} {H : Hp} {st : Sto} {xs : List W} {vs : List V} {i : Int} {Q : V → Hp → Prop} {E : Value → Option Addr → Hp → Prop} (s : SR X.K T ρ η st H) (r : VRs X.K ρ η H xs vs) (h : After X.K T η (fun ρ H => VR X.K ρ η H) ρ H (wNth xs i st) Q E) :
    ∃ v, atI vs i = some v ∧ Q v H := by
  unfold wNth at h
  split at h
  · rename_i w q
    obtain ⟨v, h1, h2⟩ := r.atI q
    exact ⟨v, h1, h.ok s h2⟩
  · exact h.elim
theorem After.bindE {α β γ δ : Type} {K : PySem.W.Frag} {ρ η : List Addr} {H : Hp} {R : List Addr → Hp → α → β → Prop} {R' : List Addr → Hp → γ → δ → Prop} {r : Rs α} {k : α → Sto → Rs γ} {Q : δ → Hp → Prop} {Q1 : β → Hp → Prop} {E : Value → Option Addr → Hp → Prop} (h : After K T η R' ρ H (r.bind k) Q E)
    (f : ∀ w st1 ρ1 H1 v, r = .ok w st1 → Grow ρ H ρ1 H1 → SR K T ρ1 η st1 H1 → R ρ1 H1 w v → After K T η R' ρ1 H1 (k w st1) Q E → Q1 v H1) : After K T η R ρ H r Q1 E := by
  cases r with
  | ok w s => exact fun ρ1 H1 v g s1 r1 => f w s ρ1 H1 v rfl g s1 r1 (After.grow g h)
  | ex x s => exact h
  | stuck => exact h
theorem se_ix {a b : Expr} {ma mb : M W} (hu : X.A.units + 1 < cLine) (ha : SE X T Wx a ma) (hb : SE X T Wx b mb) (hp : PlainIx b := by intro _ _; rfl) : SE X T Wx (.Subscript a b pos) (mOp wIx ma mb) := by
  intro ρ η st env σ H Q s er h
  by_cases hd : ∃ w s1 u s2 kvs, ma env st = .ok w s1 ∧ mb env s1 = .ok u s2 ∧ dkOf s2 w = some kvs
  · obtain ⟨w, s1, u, s2, kvs, e1, e2, e3⟩ := hd
    refine ⟨_, pe_dget hu pe_S pe_S hp, ?_⟩
    refine ha ρ η st env σ H _ s er (After.bindE h fun w' s1' ρ1 H1 v q1 g1 sr1 r1 h1 => ?_)
    rw [e1] at q1
    cases q1
    refine hb ρ1 η s1 env σ H1 _ sr1 (er.mono g1) (After.bindE h1 fun u' s2' ρ2 H2 v2 q2 g2 sr2 r2 h2 => ?_)
    rw [e2] at q2
    cases q2
    unfold wIx at h2
    rw [e3] at h2
    dsimp only at h2
    split at h2
    · rename_i k q3
      obtain ⟨p, kv, f1, f2, f3, f4⟩ := dk_ok sr2 (r1.mono g2) e3
      rcases kv_find (k := k) f3 f4 with ⟨z1, z2⟩ | ⟨y, z, z1, z2, z3⟩
      · rw [z1] at h2; exact h2.elim
      · rw [z1] at h2
        refine ⟨p, z, f1, .inl ⟨kv, k, f2, key_ok r2 q3, z2.symm⟩, h2.ok sr2 z3⟩
    · exact h2.elim
  · refine ⟨_, pe_ix (IxR.or ix_list (IxR.or ix_tup ix_str)) pe_S pe_S hp, ?_⟩
    refine ha ρ η st env σ H _ s er (After.bindE h fun w s1 ρ1 H1 v q1 g1 sr1 r1 h1 => ?_)
    refine hb ρ1 η s1 env σ H1 _ sr1 (er.mono g1) (After.bindE h1 fun u s2 ρ2 H2 v2 q2 g2 sr2 r2 h2 => ?_)
    have nd : dkOf s2 w = none := by
      cases e : dkOf s2 w with
      | none => rfl
      | some kvs => exact absurd ⟨w, s1, u, s2, kvs, q1, q2, e⟩ hd
    unfold wIx at h2
    rw [nd] at h2
    dsimp only at h2
    have rw1 := r1.mono g2
    split at h2
    · rename_i i
      simp only [VR] at r2
      split at h2
      · rename_i xs q3
        obtain ⟨p, vs, f1, f2, f3⟩ := seq_ok sr2 rw1 q3
        obtain ⟨z, z1, z2⟩ := nth_ok sr2 f3 h2
        exact .inl ⟨p, vs, i, z, f1, r2, f2, z1, z2⟩
      · split at h2
        · rename_i xs _
          obtain ⟨p, vs, f1, f2, f3⟩ := tup_ok rw1 (show tupL (.tup xs) = some xs from rfl)
          obtain ⟨z, z1, z2⟩ := nth_ok sr2 f3 h2
          exact .inr (.inl ⟨p, vs, i, z, f1, r2, f2, z1, z2⟩)
        · rename_i z _
          split at h2
          · rename_i lz
            split at h2
            · rename_i c q4
              simp only [VR] at rw1
              exact .inr (.inr ⟨z, i, c, rw1, r2, lz, q4, h2.ok sr2 (by simp only [VR])⟩)
            · exact h2.elim
          · exact h2.elim
        · exact h2.elim
    · exact h2.elim
/-! ### slices -/
theorem VRs.cut {ρ η : List Addr} {H : Hp} {xs : List W} {vs : List V} (r : VRs X.K ρ η H xs vs) (lo hi : Option Int) : VRs X.K ρ η H (cutW xs lo hi) (cutV vs lo hi) := by
  unfold cutW cutV
  rw [r.len]
  exact (r.drop _).take _
def SPt (e : Option Expr) (m : M (Option Int)) : Prop := ∀ ρ η st env σ H Q, SR X.K T ρ η st H → ER X.K ρ η H env σ → After X.K T η (fun _ _ => Eq) ρ H (m env st) Q (fun c d H' => Wx c d σ H') → ∃ t, PO X e t ∧ t σ H Q
theorem sp_none : SPt (X := X) (T := T) (Wx := Wx) none mNoPart := fun ρ η st env σ H Q s er h => ⟨_, po_none, h.ok s rfl⟩
theorem sp_some {e : Expr} {m : M W} (he : SE X T Wx e m) : SPt (X := X) (T := T) (Wx := Wx) (some e) (mPart m) := by
  intro ρ η st env σ H Q s er h
  refine ⟨_, po_some pe_S, ?_⟩
  refine he ρ η st env σ H _ s er (h.bind fun w s1 ρ1 H1 v g1 sr1 r1 h1 => ?_)
  split at h1
  · rename_i i
    simp only [VR] at r1
    exact ⟨i, r1, h1.ok sr1 rfl⟩
  · exact h1.elim
def tSO (e : Option Expr) : TO := fun σ H Q => ∃ t, PO X e t ∧ t σ H Q
theorem po_S {e : Option Expr} : PO X e (tSO (X := X) e) := ⟨fun pins s σ H Q I ⟨_, h, q⟩ => h.run pins s σ H Q I q⟩
theorem se_sl {fz : Bool} {a : Expr} {lo hi : Option Expr} {ma : M W} {ml mh : M (Option Int)} {p2 : Pos} (ha : SE X T Wx a ma) (hl : SPt (X := X) (T := T) (Wx := Wx) lo ml) (hh : SPt (X := X) (T := T) (Wx := Wx) hi mh) :
    SE X T Wx (.Subscript a (.Slice lo hi none p2) pos) (mSl fz ma ml mh) := by
  intro ρ η st env σ H Q s er h
  refine ⟨_, pe_slice (L2.SlR.or sl_list sl_tupA) pe_S po_S po_S, ?_⟩
  refine ha ρ η st env σ H _ s er (h.bind fun w s1 ρ1 H1 v g1 sr1 r1 h1 => ?_)
  refine hl ρ1 η s1 env σ H1 _ sr1 (er.mono g1) (h1.bind fun l s2 ρ2 H2 l' g2 sr2 r2 h2 => ?_)
  subst r2
  refine hh ρ2 η s2 env σ H2 _ sr2 ((er.mono g1).mono g2) (h2.bind fun u s3 ρ3 H3 u' g3 sr3 r3 h3 => ?_)
  subst r3
  have r := r1.mono (g2.trans g3)
  unfold wSl at h3
  split at h3
  · rename_i xs q
    obtain ⟨p, vs, f1, f2, f3⟩ := seq_ok sr3 r q
    exact .inl ⟨p, vs, f1, f2, fun d hd => newL_ok h3 sr3 (f3.cut l u) hd⟩
  · split at h3
    · rename_i xs q
      have r' := r
      obtain ⟨p, vs, f1, f2, f3⟩ := tup_ok r (show tupL (.tup xs) = some xs from rfl)
      refine .inr ⟨p, vs, f1, f2, fun z => ?_, fun _ d hd => newT_ok h3 sr3 (f3.cut l u) hd⟩
      refine h3.ok sr3 ?_
      have e : cutW xs l u = xs := by
        rw [f3.len] at z
        unfold cutW
        rw [z.1, z.2, Nat.sub_zero, List.drop_zero, List.take_of_length_le (Nat.le_refl _)]
      rw [e, ← f1]
      exact r'
    · exact h3.elim
/-! ### fields -/
end
end Mi
namespace Mi
open PySem L2
inductive SRs where
  | nx (env : Ev) (s : Sto) | rt (w : W) (s : Sto) | bk (env : Ev) (s : Sto) | ct (env : Ev) (s : Sto) | ex (x : Xc) (env : Ev) (s : Sto) | stuck
abbrev MS := Ev → Sto → SRs
def SAfter (K : PySem.W.Frag) (T : Nat → Addr) (η ρ : List Addr) (H : Hp) (r : SRs) (D : Ends) (Wx : WX') : Prop := match r with
  | .nx env st => ∀ ρ' H' σ', Grow ρ H ρ' H' → SR K T ρ' η st H' → ER K ρ' η H' env σ' → D.nx σ' H'
  | .bk env st => ∀ ρ' H' σ', Grow ρ H ρ' H' → SR K T ρ' η st H' → ER K ρ' η H' env σ' → D.bk σ' H'
  | .ct env st => ∀ ρ' H' σ', Grow ρ H ρ' H' → SR K T ρ' η st H' → ER K ρ' η H' env σ' → D.ct σ' H'
  | .rt w st => ∀ ρ' H' v, Grow ρ H ρ' H' → SR K T ρ' η st H' → VR K ρ' η H' w v → D.rt v H'
  | .ex x env st => ∀ ρ' H' σ' c d, Grow ρ H ρ' H' → SR K T ρ' η st H' → ER K ρ' η H' env σ' → XR T x c d → Wx c d σ' H'
  | .stuck => False
def Rs.to {α : Type} (r : Rs α) (env : Ev) (k : α → Sto → SRs) : SRs := match r with
  | .ok a s => k a s
  | .ex x s => .ex x env s
  | .stuck => .stuck
section
variable {K : PySem.W.Frag} {T : Nat → Addr} {ρ ρ' η : List Addr} {H H' : Hp} {st : Sto}
theorem SAfter.grow {r : SRs} {D : Ends} {Wx : WX'} (g : Grow ρ H ρ' H') (h : SAfter K T η ρ H r D Wx) : SAfter K T η ρ' H' r D Wx := by
  cases r with
  | nx env s => exact fun ρ2 H2 σ g2 => h ρ2 H2 σ (g.trans g2)
  | bk env s => exact fun ρ2 H2 σ g2 => h ρ2 H2 σ (g.trans g2)
  | ct env s => exact fun ρ2 H2 σ g2 => h ρ2 H2 σ (g.trans g2)
  | rt w s => exact fun ρ2 H2 v g2 => h ρ2 H2 v (g.trans g2)
  | ex x env s => exact fun ρ2 H2 σ c d g2 => h ρ2 H2 σ c d (g.trans g2)
  | stuck => exact h
theorem SAfter.bind {α β : Type} {R : List Addr → Hp → α → β → Prop} {r : Rs α} {env : Ev} {σ : St} {k : α → Sto → SRs} {D : Ends} {Wx : WX'} {Q1 : β → Hp → Prop} (h : SAfter K T η ρ H (r.to env k) D Wx) (er : ER K ρ η H env σ)
    (f : ∀ w st1 ρ1 H1 v, r = .ok w st1 → Grow ρ H ρ1 H1 → SR K T ρ1 η st1 H1 → R ρ1 H1 w v → SAfter K T η ρ1 H1 (k w st1) D Wx → Q1 v H1) : After K T η R ρ H r Q1 (fun c d H' => Wx c d σ H') := by
  cases r with
  | ok w s => exact fun ρ1 H1 v g s1 r1 => f w s ρ1 H1 v rfl g s1 r1 (SAfter.grow g h)
  | ex x s => exact fun ρ1 H1 c d g s1 xr => h ρ1 H1 σ c d g s1 (er.mono g) xr
  | stuck => exact h
theorem SAfter.nx {env : Ev} {σ : St} {D : Ends} {Wx : WX'} (h : SAfter K T η ρ H (.nx env st) D Wx) (s : SR K T ρ η st H) (e : ER K ρ η H env σ) : D.nx σ H := h ρ H σ Grow.refl s e
end
section
variable (X : Cx) (T : Nat → Addr) (Wx : WX')
def SSt (c : Stmt) (m : MS) : Prop := ∀ ρ η st env σ H D, SR X.K T ρ η st H → ER X.K ρ η H env σ → SAfter X.K T η ρ H (m env st) D Wx → tSS X c D σ H
def SSs (c : List Stmt) (m : MS) : Prop := ∀ ρ η st env σ H D, SR X.K T ρ η st H → ER X.K ρ η H env σ → SAfter X.K T η ρ H (m env st) D Wx → tSSs X c D σ H
end
/-- targets -/
abbrev MG := W → Ev → Sto → Option (Ev × Sto)
def gName' (i : Nat) : MG := fun w env st => some (env.set i (some w), st)
def gAll : List MG → List W → Ev → Sto → Option (Ev × Sto)
  | [], [], env, st => some (env, st)
  | g :: gs, w :: ws, env, st => match g w env st with
    | some (env1, st1) => gAll gs ws env1 st1
    | none => none
  | _, _, _, _ => none
def gTup' (gs : List MG) : MG := fun w env st => match w with
  | .tup ws => gAll gs ws env st
  | _ => none
def wSet (o i v : W) (st : Sto) : Option Sto := match o with
  | .ref n => match st[n]? with
    | some (.lst xs) => match i with
      | .int k => match ixN xs.length k with
        | some j => some (st.set n (.lst (xs.set j v)))
        | none => none
      | _ => none
    | _ => none
  | _ => none
def gOk (K : PySem.W.Frag) (T : Nat → Addr) (η ρ : List Addr) (H : Hp) (r : Option (Ev × Sto)) (Q : St → Hp → Prop) : Prop := match r with
  | some (env, st) => ∀ ρ' H' σ', Grow ρ H ρ' H' → SR K T ρ' η st H' → ER K ρ' η H' env σ' → Q σ' H'
  | none => False
def tSG (X : Cx) (e : Expr) : TG := fun v σ H Q => ∃ t, PG X e t ∧ t v σ H Q
theorem pg_S {X : Cx} {e : Expr} : PG X e (tSG X e) := ⟨fun pins s σ H v u Q I r ⟨_, h, q⟩ => h.run pins s σ H v u Q I r q⟩
def SGt (X : Cx) (T : Nat → Addr) (e : Expr) (g : MG) : Prop := ∀ ρ η st env σ H w v Q, SR X.K T ρ η st H → ER X.K ρ η H env σ → VR X.K ρ η H w v → gOk X.K T η ρ H (g w env st) Q → tSG X e v σ H Q
def SGs (X : Cx) (T : Nat → Addr) (es : List Expr) (gs : List MG) : Prop := ∀ ρ η st env σ H ws vs Q, SR X.K T ρ η st H → ER X.K ρ η H env σ → VRs X.K ρ η H ws vs → gOk X.K T η ρ H (gAll gs ws env st) Q → ∃ t, PGs X es t ∧ t vs σ H Q
theorem pgs_S {X : Cx} {es : List Expr} : PGs X es (fun vs σ H Q => ∃ t, PGs X es t ∧ t vs σ H Q) := ⟨fun pins s σ H vs us Q I r ⟨_, h, q⟩ => h.run pins s σ H vs us Q I r q⟩

def sNx : MS := fun env st => .nx env st
def sSeq (m k : MS) : MS := fun env st => match m env st with
  | .nx env1 st1 => k env1 st1
  | r => r
def sExpr (m : M W) : MS := fun env st => (m env st).to env fun _ s => .nx env s
def sRet (m : M W) : MS := fun env st => (m env st).to env fun w s => .rt w s
def sRetN : MS := fun _ st => .rt .non st
def sIf (c : M Bool) (m k : MS) : MS := fun env st => (c env st).to env fun b s => if b = true then m env s else k env s
def gDo (r : Option (Ev × Sto)) : SRs := match r with
  | some (env, st) => .nx env st
  | none => .stuck
def sAsg (m : M W) (g : MG) : MS := fun env st => (m env st).to env fun w s => gDo (g w env s)
section
variable {X : Cx} {T : Nat → Addr} {Wx : WX'} {pos : Pos}
theorem sss_nil : SSs X T Wx [] sNx := fun ρ η st env σ H D s er h => ⟨_, pss_nil, h.nx s er⟩
theorem sss_one {c : Stmt} {m : MS} (h : SSt X T Wx c m) : SSs X T Wx [c] m := fun ρ η st env σ H D s er q => ⟨_, pss_one ps_S, h ρ η st env σ H D s er q⟩
theorem sss_cons {c : Stmt} {cs : List Stmt} {m k : MS} (h : SSt X T Wx c m) (hs : SSs X T Wx cs k) : SSs X T Wx (c :: cs) (sSeq m k) := by
  intro ρ η st env σ H D s er q
  refine ⟨_, pss_cons ps_S pss_S, ?_⟩
  refine h ρ η st env σ H _ s er ?_
  unfold sSeq at q
  cases e : m env st with
  | nx env1 st1 =>
    rw [e] at q
    exact fun ρ1 H1 σ1 g1 sr1 er1 => hs ρ1 η st1 env1 σ1 H1 D sr1 er1 (SAfter.grow g1 q)
  | rt w s1 => rw [e] at q; exact q
  | bk env1 s1 => rw [e] at q; exact q
  | ct env1 s1 => rw [e] at q; exact q
  | ex x env1 s1 => rw [e] at q; exact q
  | stuck => rw [e] at q; exact q
theorem ss_ret {e : Expr} {m : M W} (h : SE X T Wx e m) : SSt X T Wx (.Return (some e) pos) (sRet m) := by
  intro ρ η st env σ H D s er q
  refine ⟨_, ps_ret pe_S, ?_⟩
  exact h ρ η st env σ H _ s er (q.bind er fun w s1 ρ1 H1 v _ g1 sr1 r1 h1 => h1 ρ1 H1 v Grow.refl sr1 r1)
theorem ss_expr {e : Expr} {m : M W} (h : SE X T Wx e m) (hs : swapsWith e none pos.line X.env = pure false := by rfl) : SSt X T Wx (.Expr e pos) (sExpr m) := by
  intro ρ η st env σ H D s er q
  refine ⟨_, ps_expr pe_S hs, ?_⟩
  exact h ρ η st env σ H _ s er (q.bind er fun w s1 ρ1 H1 v _ g1 sr1 r1 h1 => h1.nx sr1 (er.mono g1))
theorem ss_if {c : Expr} {a b : List Stmt} {mc : M Bool} {m k : MS} (hc : STt X T Wx c mc) (ha : SSs X T Wx a m) (hb : SSs X T Wx b k) : SSt X T Wx (.If c a b pos) (sIf mc m k) := by
  intro ρ η st env σ H D s er q
  refine ⟨_, ps_if pt_S pss_S pss_S, ?_⟩
  refine hc ρ η st env σ H _ s er (q.bind er fun w s1 ρ1 H1 v _ g1 sr1 r1 h1 => ?_)
  subst r1
  cases w with
  | true => exact iteT (ha ρ1 η s1 env σ H1 D sr1 (er.mono g1) h1)
  | false => exact iteF (hb ρ1 η s1 env σ H1 D sr1 (er.mono g1) h1)
/-! ### targets -/
theorem sg_name {i : Nat} {x : Str} (hN : X.N.Nodup) (hi : X.N[i]? = some x) (hx : Loc X.env.scope x) (hf : X.fn x = true ∨ X.env.scope.names.lookup x = some .local := by first | exact .inl rfl | exact .inr rfl) : SGt X T (.Name x pos) (gName' i) :=
  fun ρ η st env σ H w v Q s er r h => ⟨_, pg_name hN hi hx hf, h ρ H _ Grow.refl s (er.set r)⟩
theorem sgs_nil : SGs X T [] [] := by
  intro ρ η st env σ H ws vs Q s er r h
  refine ⟨_, pgs_nil, ?_⟩
  cases ws with
  | nil => simp only [VRs] at r; exact ⟨r, h ρ H σ Grow.refl s er⟩
  | cons w ws => exact h.elim
theorem sgs_cons {e : Expr} {es : List Expr} {g : MG} {gs : List MG} (h1 : SGt X T e g) (h2 : SGs X T es gs) (hs : (assignEach (e :: es) X.env).map (·.2) = assign e X.env :: (assignEach es X.env).map (·.2) := by rfl) : SGs X T (e :: es) (g :: gs) := by
  intro ρ η st env σ H ws vs Q s er r h
  refine ⟨_, pgs_cons pg_S pgs_S hs, ?_⟩
  cases ws with
  | nil => exact h.elim
  | cons w ws =>
    simp only [VRs] at r
    obtain ⟨v, rv, e1, r1, r2⟩ := r
    refine ⟨v, rv, e1, h1 ρ η st env σ H w v _ s er r1 ?_⟩
    unfold gAll at h
    cases q : g w env st with
    | none => rw [q] at h; exact h.elim
    | some p =>
      rw [q] at h
      obtain ⟨env1, st1⟩ := p
      intro ρ1 H1 σ1 g1 sr1 er1
      refine h2 ρ1 η st1 env1 σ1 H1 ws rv Q sr1 er1 (r2.mono g1) ?_
      dsimp only at h
      cases q2 : gAll gs ws env1 st1 with
      | none => rw [q2] at h; exact h.elim
      | some p2 =>
        rw [q2] at h
        obtain ⟨env2, st2⟩ := p2
        exact fun ρ2 H2 σ2 g2 => h ρ2 H2 σ2 (g1.trans g2)
theorem sg_tup {es : List Expr} {k : Nat} {gs : List MG} (hc : X.calm = true) (h : SGs X T es gs) (hn : (assignEach es X.env).length = gs.length := by rfl) (hst : (assignEach es X.env).findIdx? (·.1) = none := by rfl) : SGt X T (.Tuple es k pos) (gTup' gs) := by
  intro ρ η st env σ H w v Q s er r q
  refine ⟨_, pg_tup hc pgs_S hn hst, ?_⟩
  unfold gTup' at q
  split at q
  · rename_i ws
    obtain ⟨a, vs, e1, e2, e3⟩ := tup_ok r (show tupL (.tup ws) = some ws from rfl)
    refine ⟨a, vs, e1, e2, ?_, h ρ η st env σ H ws vs Q s er e3 q⟩
    rw [e3.len]
    have : ∀ (gs : List MG) (ws : List W) (env : Ev) (st : Sto), (gAll gs ws env st).isSome = true → ws.length = gs.length := by
      intro gs
      induction gs with
      | nil => intro ws env st; cases ws <;> simp [gAll]
      | cons g gs ih =>
        intro ws env st
        cases ws with
        | nil => simp [gAll]
        | cons w ws =>
          intro z
          unfold gAll at z
          cases q : g w env st with
          | none => rw [q] at z; cases z
          | some p =>
            rw [q] at z
            simp only [List.length_cons, ih ws p.1 p.2 z]
    refine this gs ws env st ?_
    cases z : gAll gs ws env st with
    | none => rw [z] at q; exact q.elim
    | some p => rfl
  · exact q.elim
theorem ss_asg {tg e : Expr} {m : M W} {g : MG} (he : SE X T Wx e m) (hg : SGt X T tg g) (hs : swapsWithSole [tg] e pos.line X.env = pure false := by rfl) (hw : swappedStores [tg] e X.env = pure none := by rfl)
    (h1 : (assignEach [tg] X.env).map (·.2) = [assign tg X.env] := by rfl) : SSt X T Wx (.Assign [tg] e pos) (sAsg m g) := by
  intro ρ η st env σ H D s er q
  refine ⟨_, ps_asg pe_S pg_S hs hw h1, ?_⟩
  refine he ρ η st env σ H _ s er (q.bind er fun w s1 ρ1 H1 v _ g1 sr1 r1 h2 => ?_)
  refine hg ρ1 η s1 env σ H1 w v _ sr1 (er.mono g1) r1 ?_
  unfold gDo at h2
  cases z : g w env s1 with
  | none => rw [z] at h2; exact h2.elim
  | some p => rw [z] at h2; exact h2
theorem ss_set {i : Nat} {x : Str} {e : Expr} {m : M W} {pos' : Pos} (hN : X.N.Nodup) (hi : X.N[i]? = some x) (hx : Loc X.env.scope x) (he : SE X T Wx e m) (hs : swapsWith e (some (.Name x pos')) pos.line X.env = pure false := by rfl) (hf : X.fn x = true ∨ X.env.scope.names.lookup x = some .local := by first | exact .inl rfl | exact .inr rfl) :
    SSt X T Wx (.Assign [.Name x pos'] e pos) (sAsg m (gName' i)) := by
  intro ρ η st env σ H D s er q
  refine ⟨_, ps_set hN hi hx pe_S hs hf, ?_⟩
  exact he ρ η st env σ H _ s er (q.bind er fun w s1 ρ1 H1 v _ g1 sr1 r1 h2 => h2 ρ1 H1 _ Grow.refl sr1 ((er.mono g1).set r1))
end
end Mi
namespace Mi
open PySem L2
/-- more hidden ones, all of them new -/
def Hid (η : List Addr) (H : Hp) (η' : List Addr) : Prop := (∀ a ∈ η, a ∈ η') ∧ ∀ a ∈ η', a ∈ η ∨ H a = none
section
variable {K : PySem.W.Frag} {T : Nat → Addr} {ρ ρ' η η' : List Addr} {H H' : Hp} {st : Sto}
theorem Hid.refl : Hid η H η := ⟨fun _ h => h, fun _ h => .inl h⟩
theorem Hid.not {a : Addr} {o : HO} (k : Hid η H η') (n : a ∉ η) (h : H a = some o) : a ∉ η' := fun z => by
  rcases k.2 a z with z | z
  · exact n z
  · rw [z] at h; cases h
theorem TupAt.more {a : Addr} {vs : List V} (g : Grow ρ H ρ' H') (k : Hid η H η') (h : TupAt K ρ η H a vs) : TupAt K ρ' η' H' a vs := by
  rcases h with ⟨h1, h2, h3⟩ | h
  · obtain ⟨o, e⟩ := rd_some h3
    exact .inl ⟨g.out h1 e, k.not h2 e, g.rd h1 h3⟩
  · exact .inr h
theorem LstAt.more {a : Addr} {vs : List V} (g : Grow ρ H ρ' H') (k : Hid η H η') (h : LstAt K ρ η H a vs) : LstAt K ρ' η' H' a vs := by
  rcases h with ⟨h1, h2, h3⟩ | h
  · obtain ⟨o, e⟩ := rd_some h3
    exact .inl ⟨g.out h1 e, k.not h2 e, g.rd h1 h3⟩
  · exact .inr h
mutual
theorem VR.more (g : Grow ρ H ρ' H') (k : Hid η H η') : ∀ {w : W} {v : V}, VR K ρ η H w v → VR K ρ' η' H' w v
  | .non, _, h => h
  | .bl _, _, h => h
  | .int _, _, h => h
  | .str _, _, h => h
  | .ty _, _, h => h
  | .at_ _, _, h => h
  | .ref i, v, h => by
    simp only [VR] at h ⊢
    obtain ⟨a, e, r⟩ := h
    exact ⟨a, g.at e, r⟩
  | .tup xs, v, h => by
    simp only [VR] at h ⊢
    obtain ⟨a, vs, e, t, r⟩ := h
    exact ⟨a, vs, e, t.more g k, VRs.more g k r⟩
  | .lst xs, v, h => by
    simp only [VR] at h ⊢
    obtain ⟨a, vs, e, ⟨t1, t2, t3⟩, r⟩ := h
    exact ⟨a, vs, e, ⟨g.out t1 t3, k.not t2 t3, g.same _ _ t1 t3⟩, VRs.more g k r⟩
  | .scr xs, v, h => by
    simp only [VR] at h ⊢
    obtain ⟨a, vs, e, t, r⟩ := h
    exact ⟨a, vs, e, t.more g k, VRs.more g k r⟩
theorem VRs.more (g : Grow ρ H ρ' H') (k : Hid η H η') : ∀ {ws : List W} {vs : List V}, VRs K ρ η H ws vs → VRs K ρ' η' H' ws vs
  | [], _, h => by simpa only [VRs] using h
  | x :: xs, vs, h => by
    simp only [VRs] at h ⊢
    obtain ⟨v, r, e, h1, h2⟩ := h
    exact ⟨v, r, e, VR.more g k h1, VRs.more g k h2⟩
end
end

/-! ### what a loop walks -/
structure Src where
  fuel : Nat
  at_ : Nat → Sto → Option (Option W)
def fixS (xs : List W) : Src := ⟨xs.length + 1, fun i _ => some xs[i]?⟩
def nodS (n : Nat) (len : Nat) : Src := ⟨len + 1, fun i st => match st[n]? with
  | some (.lst xs) => some xs[i]?
  | _ => none⟩
def SrcOk (K : PySem.W.Frag) (T : Nat → Addr) (ρ η : List Addr) (H : Hp) (s : Src) (J : It) : Prop := ∀ η', Hid η H η' → ∀ (i : Nat) (ρ' : List Addr) (H' : Hp) (st' : Sto), Grow ρ H ρ' H' → SR K T ρ' η' st' H' →
  match s.at_ i st' with
  | some (some w) => J.go i H' ∧ ∀ x H2, J.yld i H' x H2 → Grow ρ' H' ρ' H2 ∧ SR K T ρ' η' st' H2 ∧ VR K ρ' η' H2 w x
  | some none => J.stop i H'
  | none => True
abbrev MI := Ev → Sto → Rs Src
def SI (X : Cx) (T : Nat → Addr) (Wx : WX') (tg iter : Expr) (m : MI) : Prop := ∀ ρ η st env σ H (Q : It → Hp → Prop), SR X.K T ρ η st H → ER X.K ρ η H env σ → After X.K T η (fun ρ H s J => SrcOk X.K T ρ η H s J) ρ H (m env st) Q (fun c d H' => Wx c d σ H') → ∃ t, PI X tg iter t ∧ t σ H Q
def tSI (X : Cx) (tg iter : Expr) : TI := fun σ H Q => ∃ t, PI X tg iter t ∧ t σ H Q
theorem pi_S {X : Cx} {tg iter : Expr} : PI X tg iter (tSI X tg iter) := ⟨fun pins s σ H R I ⟨_, h, q⟩ => h.run pins s σ H R I q⟩
/-- the loop -/
def forS (s : Src) (g : MG) (body : MS) : Nat → Nat → MS
  | 0, _ => fun _ _ => .stuck
  | n + 1, i => fun env st => match s.at_ i st with
    | some (some w) => match g w env st with
      | some (env1, st1) => match body env1 st1 with
        | .nx env2 st2 => forS s g body n (i + 1) env2 st2
        | .ct env2 st2 => forS s g body n (i + 1) env2 st2
        | .bk env2 st2 => .nx env2 st2
        | r => r
      | none => .stuck
    | some none => .nx env st
    | none => .stuck
def sFor (m : MI) (g : MG) (body : MS) : MS := fun env st => (m env st).to env fun s st1 => forS s g body s.fuel 0 env st1
section
variable {X : Cx} {T : Nat → Addr} {Wx : WX'} {pos : Pos}
theorem ss_for {tg iter : Expr} {body : List Stmt} {mi : MI} {g : MG} {m : MS} (hp : PassesOwn (model X.prog X.w) X.A X.env X.xe) (hc : X.calm = true) (hi : SI X T Wx tg iter mi) (hg : SGt X T tg g) (hb : SSs X T Wx body m)
    (hs : ∀ x, foldedSetIterable iter X.env x = pure x := by intro _; rfl) : SSt X T Wx (.For tg iter body [] pos) (sFor mi g m) := by
  intro ρ η st env σ H D s er q
  refine ⟨_, ps_for hp hc pi_S pg_S pss_S hs, ?_⟩
  refine hi ρ η st env σ H _ s er (q.bind er fun src s1 ρ1 H1 J _ g1 sr1 ok h1 => ?_)
  refine ⟨fun i n σ' H' => ∃ ρ' st' env', Grow ρ1 H1 ρ' H' ∧ SR X.K T ρ' η st' H' ∧ ER X.K ρ' η H' env' σ' ∧ SAfter X.K T η ρ' H' (forS src g m n i env' st') D Wx, ⟨src.fuel, ρ1, s1, env, Grow.refl, sr1, er.mono g1, h1⟩, ?_⟩
  rintro i n σ2 H2 ⟨ρ2, st2, env2, g2, sr2, er2, h2⟩
  cases n with
  | zero => exact h2.elim
  | succ n =>
    have k := ok η Hid.refl i ρ2 H2 st2 g2 sr2
    unfold forS at h2
    split at h2
    · rename_i w e
      rw [e] at k
      obtain ⟨k1, k2⟩ := k
      refine .inr ⟨k1, fun σ' H' => ∃ ρ' st' env', Grow ρ1 H1 ρ' H' ∧ SR X.K T ρ' η st' H' ∧ ER X.K ρ' η H' env' σ' ∧ SAfter X.K T η ρ' H' (forS src g m n (i + 1) env' st') D Wx, fun σ' H' z => ⟨n, Nat.lt_succ_self n, z⟩, fun x H3 y => ?_⟩
      obtain ⟨g3, sr3, r3⟩ := k2 x H3 y
      refine hg ρ2 η st2 env2 σ2 H3 w x _ sr3 (er2.mono g3) r3 ?_
      split at h2
      · rename_i env4 st4 e2
        rw [e2]
        intro ρ4 H4 σ4 g4 sr4 er4
        refine hb ρ4 η st4 env4 σ4 H4 _ sr4 er4 ?_
        split at h2
        · rename_i env5 st5 e5
          rw [e5]
          exact fun ρ5 H5 σ5 g5 sr5 er5 => ⟨ρ5, st5, env5, ((g2.trans g3).trans g4).trans g5, sr5, er5, SAfter.grow ((g3.trans g4).trans g5) h2⟩
        · rename_i env5 st5 e5
          rw [e5]
          exact fun ρ5 H5 σ5 g5 sr5 er5 => ⟨ρ5, st5, env5, ((g2.trans g3).trans g4).trans g5, sr5, er5, SAfter.grow ((g3.trans g4).trans g5) h2⟩
        · rename_i env5 st5 e5
          rw [e5]
          exact fun ρ5 H5 σ5 g5 sr5 er5 => h2 ρ5 H5 σ5 ((g3.trans g4).trans g5) sr5 er5
        · rename_i r n1 n2 n3
          cases e5 : m env4 st4 with
          | nx a b => exact absurd e5 (n1 a b)
          | ct a b => exact absurd e5 (n2 a b)
          | bk a b => exact absurd e5 (n3 a b)
          | rt w5 s5 => rw [e5] at h2; exact fun ρ5 H5 v5 g5 sr5 r5 => h2 ρ5 H5 v5 ((g3.trans g4).trans g5) sr5 r5
          | ex x5 a b => rw [e5] at h2; exact fun ρ5 H5 σ5 c5 d5 g5 sr5 er5 xr5 => h2 ρ5 H5 σ5 c5 d5 ((g3.trans g4).trans g5) sr5 er5 xr5
          | stuck => rw [e5] at h2; exact h2
      · exact h2.elim
    · rename_i e
      rw [e] at k
      exact .inl ⟨k, h2.nx sr2 er2⟩
    · exact h2.elim
/-! ### sources -/
def iL (m : M W) : MI := fun env st => (m env st).bind fun w s => match w with
  | .lst xs => .ok (fixS xs) s
  | .scr xs => .ok (fixS xs) s
  | .tup xs => .stuck
  | .ref n => match s[n]? with
    | some (.lst xs) => .ok (nodS n xs.length) s
    | _ => .stuck
  | _ => .stuck
def iT (m : M W) : MI := fun env st => (m env st).bind fun w s => match w with
  | .tup xs => .ok (fixS xs) s
  | _ => .stuck
def rngW (lo : Int) (n : Nat) : List W := (List.range n).map fun (i : Nat) => W.int (lo + (i : Int))
def small62 (i : Int) : Bool := decide (i.natAbs < 2 ^ 62)
theorem small62_of {i : Int} (h : small62 i = true) : -(2 ^ 62) ≤ i ∧ i < 2 ^ 62 := by
  simp only [small62, decide_eq_true_eq] at h
  omega
def iR1 (m : M (List W)) : MI := fun env st => (m env st).bind fun ws s => match ws with
  | [.int j] => if small62 j then .ok (fixS (rngW 0 j.toNat)) s else .stuck
  | _ => .stuck
def iR2 (m : M (List W)) : MI := fun env st => (m env st).bind fun ws s => match ws with
  | [.int i, .int j] => if small62 i ∧ small62 j then .ok (fixS (rngW i (j - i).toNat)) s else .stuck
  | _ => .stuck
theorem src_seq {ρ η : List Addr} {H : Hp} {a : Addr} {xs : List W} {vs : List V} (hl : ∀ ρ' H', Grow ρ H ρ' H' → SqL X.K H' a vs) (r : VRs X.K ρ η H xs vs) : SrcOk X.K T ρ η H (fixS xs) (Itl X.K a) := by
  intro η' k i ρ' H' st' g sr
  have q := hl ρ' H' g
  show match some xs[i]? with | some (some w) => _ | some none => _ | none => _
  cases e : xs[i]? with
  | none => exact ⟨vs, q, by rw [r.len]; exact List.getElem?_eq_none_iff.mp e⟩
  | some w =>
    obtain ⟨v, e1, e2⟩ := r.get e
    refine ⟨⟨vs, v, q, e1⟩, fun x H2 y => ?_⟩
    obtain ⟨y1, y2⟩ := y
    subst y1
    have := y2 vs q
    rw [e1] at this
    cases this
    exact ⟨Grow.refl, sr, e2.more g k⟩
theorem lst_at {ρ η : List Addr} {H : Hp} {a : Addr} {vs : List V} (h : a ∉ ρ ∧ a ∉ η ∧ H a = some (.lst vs)) : ∀ ρ' H', Grow ρ H ρ' H' → SqL X.K H' a vs := fun ρ' H' g => SqL.of (g.same _ _ h.1 h.2.2)
theorem src_nod {ρ η : List Addr} {H : Hp} {a : Addr} {n len : Nat} (h : ρ[n]? = some a) : SrcOk X.K T ρ η H (nodS n len) (Itl X.K a) := by
  intro η' k i ρ' H' st' g sr
  show match (match st'[n]? with | some (.lst xs) => some xs[i]? | _ => none) with | some (some w) => _ | some none => _ | none => True
  cases e : st'[n]? with
  | none => trivial
  | some nd =>
    have q := sr.at_ n nd a e (g.at h)
    cases nd with
    | lst xs =>
      obtain ⟨vs, q1, q2⟩ := q
      dsimp only
      cases e2 : xs[i]? with
      | none => exact ⟨vs, SqL.of q1, by rw [q2.len]; exact List.getElem?_eq_none_iff.mp e2⟩
      | some w =>
        obtain ⟨v, e3, e4⟩ := q2.get e2
        refine ⟨⟨vs, v, SqL.of q1, e3⟩, fun x H2 y => ?_⟩
        obtain ⟨y1, y2⟩ := y
        subst y1
        have := y2 vs (SqL.of q1)
        rw [e3] at this
        cases this
        exact ⟨Grow.refl, sr, e4⟩
    | _ => trivial
theorem si_list {tg l : Expr} {m : M W} (h : SE X T Wx l m) : SI X T Wx tg l (iL m) := by
  intro ρ η st env σ H Q s er q
  refine ⟨_, pi_list pe_S, ?_⟩
  refine h ρ η st env σ H _ s er (q.bind fun w s1 ρ1 H1 v g1 sr1 r1 h1 => ?_)
  split at h1
  · rename_i xs
    simp only [VR] at r1
    obtain ⟨a, vs, e1, e2, e3⟩ := r1
    exact ⟨a, e1, ⟨vs, SqL.of e2.2.2⟩, h1.ok sr1 (src_seq (lst_at e2) e3)⟩
  · rename_i xs
    simp only [VR] at r1
    obtain ⟨a, vs, e1, e2, e3⟩ := r1
    exact ⟨a, e1, ⟨vs, e2.sq⟩, h1.ok sr1 (src_seq (fun ρ' H' g => (e2.mono g).sq) e3)⟩
  · exact h1.elim
  · rename_i n
    split at h1
    · rename_i xs e
      obtain ⟨a, e1, e2, vs, e3, e4⟩ := node_at sr1 r1 e
      exact ⟨a, e1, ⟨vs, SqL.of e3⟩, h1.ok sr1 (src_nod e2)⟩
    · exact h1.elim
  · exact h1.elim
theorem si_tup {tg l : Expr} {m : M W} (h : SE X T Wx l m) : SI X T Wx tg l (iT m) := by
  intro ρ η st env σ H Q s er q
  refine ⟨_, pi_tup pe_S, ?_⟩
  refine h ρ η st env σ H _ s er (q.bind fun w s1 ρ1 H1 v g1 sr1 r1 h1 => ?_)
  split at h1
  · rename_i xs
    simp only [VR] at r1
    obtain ⟨a, vs, e1, e2, e3⟩ := r1
    refine ⟨a, e1, ⟨vs, e2.sq⟩, h1.ok sr1 ?_⟩
    intro η' k i ρ' H' st' g sr
    have q : SqT X.K H' a vs := (e2.mono g).sq
    show match some xs[i]? with | some (some w) => _ | some none => _ | none => _
    cases e : xs[i]? with
    | none => exact ⟨vs, q, by rw [e3.len]; exact List.getElem?_eq_none_iff.mp e⟩
    | some w =>
      obtain ⟨v, f1, f2⟩ := e3.get e
      refine ⟨⟨vs, v, q, f1⟩, fun x H2 y => ?_⟩
      obtain ⟨y1, y2⟩ := y
      subst y1
      have := y2 vs q
      rw [f1] at this
      cases this
      exact ⟨Grow.refl, sr, f2.more g k⟩
  · exact h1.elim
theorem src_rng {ρ η : List Addr} {H : Hp} {lo : Int} {n : Nat} : SrcOk X.K T ρ η H (fixS (rngW lo n)) (Itr lo n) := by
  intro η' k i ρ' H' st' g sr
  show match some (rngW lo n)[i]? with | some (some w) => _ | some none => _ | none => _
  unfold rngW
  rw [List.getElem?_map]
  by_cases hi : i < n
  · rw [List.getElem?_eq_getElem (by simpa using hi)]
    simp only [List.getElem_range, Option.map_some]
    refine ⟨hi, fun x H2 y => ?_⟩
    obtain ⟨y1, y2⟩ := y
    subst y1
    exact ⟨Grow.refl, sr, by simp only [VR]; exact y2⟩
  · rw [List.getElem?_eq_none (by simpa using Nat.le_of_not_lt hi)]
    exact Nat.le_of_not_lt hi
theorem si_range1 {tg a : Expr} {m : M (List W)} {p pos : Pos} (hg : Gl X (Str.ofString "range")) (hm : X.mg (Str.ofString "range") = none) (h : SA X T Wx [a] m) (hst : starEach [a] X.env = [(false, eval a X.env)] := by rfl) :
    SI X T Wx tg (.Call (.Name (Str.ofString "range") p) [a] [] pos) (iR1 m) := by
  intro ρ η st env σ H Q s er q
  refine ⟨_, pi_range1 hg hm pa_S hst, ?_⟩
  refine h ρ η st env σ H _ s er (q.bind fun ws s1 ρ1 H1 vs g1 sr1 r1 h1 => ?_)
  split at h1
  · rename_i j
    split at h1
    · rename_i z
      simp only [VRs, VR] at r1
      obtain ⟨v, r, e1, e2, e3⟩ := r1
      subst e2; subst e3
      have z := small62_of z
      exact ⟨j, e1, z.1, z.2, h1.ok sr1 src_rng⟩
    · exact h1.elim
  · exact h1.elim
end
end Mi
namespace Mi
open PySem L2
/-! ### list comprehensions -/
def wipeW (env : Ev) : List Nat → Ev
  | [] => env
  | v :: vs => (wipeW env vs).set v none
/-- what a comprehension binds: a name, or some names at once -/
inductive CT where
  | one (i : Nat) | tup (is : List Nat)
def CT.ix : CT → List Nat
  | .one i => [i]
  | .tup is => is
def setAll : List Nat → List W → Ev → Option Ev
  | [], [], env => some env
  | i :: is, w :: ws, env => setAll is ws (env.set i (some w))
  | _, _, _ => none
def CT.put (t : CT) (w : W) (env : Ev) : Option Ev := match t with
  | .one i => some (env.set i (some w))
  | .tup is => match w with
    | .tup ws => setAll is ws env
    | _ => none
def gNames : List Nat → TGs
  | [] => gNil
  | i :: is => gCons (gName i) (gNames is)
def CT.tg (K : PySem.W.Frag) : CT → TG
  | .one i => gName i
  | .tup is => gTup K is.length (gNames is)
/-- the loop: what was made so far -/
def compS (s : Src) (t : CT) (cond : M Bool) (elt : M W) (env : Ev) : Nat → Nat → List W → Sto → Rs (List W)
  | 0, _, _, _ => .stuck
  | n + 1, i, acc, st => match s.at_ i st with
    | some (some w) => match t.put w env with
      | some env1 => match cond env1 st with
        | .ok true st1 => match elt env1 st1 with
          | .ok v st2 => if acc.length < sizeLine then compS s t cond elt env n (i + 1) (acc ++ [v]) st2 else .stuck
          | _ => .stuck
        | .ok false st1 => compS s t cond elt env n (i + 1) acc st1
        | _ => .stuck
      | none => .stuck
    | some none => .ok acc st
    | none => .stuck
def mComp (fz : Bool) (mi : MI) (vs : List Nat) (t : CT) (cond : M Bool) (elt : M W) : M W := fun env st => (mi env st).bind fun s st1 => (compS s t cond elt (wipeW env vs) s.fuel 0 [] st1).bind fun ws st2 => newL fz ws st2
def mYes : M Bool := fun _ st => .ok true st
def W0 : WX' := fun _ _ _ _ => False
section
variable {K : PySem.W.Frag} {T : Nat → Addr} {ρ ρ' η η' : List Addr} {H H' : Hp} {st : Sto}
theorem ER.wipe {env : Ev} {σ : St} (h : ER K ρ η H env σ) : ∀ vs : List Nat, ER K ρ η H (wipeW env vs) (wipe σ vs)
  | [] => h
  | v :: vs => by
    have k := ER.wipe h vs
    refine ⟨by simp only [wipeW, L2.wipe, List.length_set]; exact k.1, fun j u e => ?_⟩
    unfold wipeW at e
    unfold L2.wipe
    rw [List.getElem?_set] at e ⊢
    split at e
    · split at e <;> cases e
    · rename_i q
      rw [if_neg q]
      exact k.2 j u e
theorem wipe_set {i : Nat} {x : V} : ∀ {vs : List Nat} {σ : St}, i ∈ vs → wipe (σ.set i (some x)) vs = wipe σ vs
  | [], _, h => by simp at h
  | v :: vs, σ, h => by
    unfold wipe
    by_cases e : i ∈ vs
    · rw [wipe_set e]
    · have : i = v := by
        rcases List.mem_cons.mp h with h | h
        · exact h
        · exact absurd h e
      subst this
      have com : ∀ (vs : List Nat) (σ : St), i ∉ vs → wipe (σ.set i (some x)) vs = (wipe σ vs).set i (some x) := by
        intro vs
        induction vs with
        | nil => intro σ _; rfl
        | cons u us ih =>
          intro σ hn
          unfold wipe
          rw [ih σ (fun z => hn (List.mem_cons_of_mem _ z)), List.set_comm]
          rintro rfl
          exact hn List.mem_cons_self
      rw [com vs σ e, List.set_set]
theorem hid_new {D : Addr} (n : H D = none) : Hid η H (D :: η) := ⟨fun _ h => List.mem_cons_of_mem _ h, fun a h => by
  rcases List.mem_cons.mp h with h | h
  · exact .inr (h ▸ n)
  · exact .inl h⟩
theorem ER.more {env : Ev} {σ : St} (g : Grow ρ H ρ' H') (k : Hid η H η') (h : ER K ρ η H env σ) : ER K ρ' η' H' env σ := ⟨h.1, fun i w e => by
  obtain ⟨v, q, r⟩ := h.2 i w e
  exact ⟨v, q, r.more g k⟩⟩
theorem NR.more {a : Addr} {n : Nd} (g : Grow ρ H ρ' H') (k : Hid η H η') (e : H' a = H a) (h : NR K T ρ η H a n) : NR K T ρ' η' H' a n := by
  cases n with
  | lst xs => obtain ⟨vs, z, r⟩ := h; exact ⟨vs, e.trans z, r.more g k⟩
  | dk kvs => obtain ⟨kv, z, q, r⟩ := h; exact ⟨kv, e.trans z, q, r.more g k⟩
  | lk kvs => obtain ⟨od, kv, z, q, r⟩ := h; exact ⟨od, kv, e.trans z, q, r.more g k⟩
  | ins c fs => obtain ⟨dx, fv, z, q, r⟩ := h; exact ⟨dx, fv, e.trans z, q, r.more g k⟩
/-- a hidden object is made -/
theorem SR.hide {D : Addr} {o : HO} (s : SR K T ρ η st H) (n : H D = none) : SR K T ρ (D :: η) st (upd H D o) := by
  refine ⟨s.nd, s.len, fun a ha => ?_, fun a ha => ?_, fun i nd a e q => ?_⟩
  · rcases List.mem_cons.mp ha with h | h
    · rw [h]; exact s.fresh n
    · exact s.hid a h
  · rcases List.mem_cons.mp ha with h | h
    · exact ⟨o, by rw [h, upd_same]⟩
    · obtain ⟨u, e⟩ := s.has a h
      exact ⟨u, by rw [upd_ne (ne_of_none e n)]; exact e⟩
  · obtain ⟨u, z⟩ := s.there q
    exact (s.at_ i nd a e q).more (Grow.new n) (hid_new n) (upd_ne (ne_of_none z n))
/-- a hidden object changes: what else stands -/
theorem TupAt.hid {a D : Addr} {o : HO} {vs : List V} (n : D ∈ η) (h : TupAt K ρ η H a vs) : TupAt K ρ η (upd H D o) a vs := by
  have := (h.hide (o := o) (.inr n)).less (η' := η) fun b hb => List.mem_cons_of_mem _ hb
  exact this
theorem VR.hid {D : Addr} {o : HO} (n : D ∈ η) {w : W} {v : V} (h : VR K ρ η H w v) : VR K ρ η (upd H D o) w v := (h.hide (o := o) (.inr n)).less fun b hb => List.mem_cons_of_mem _ hb
theorem VRs.hid {D : Addr} {o : HO} (n : D ∈ η) {w : List W} {v : List V} (h : VRs K ρ η H w v) : VRs K ρ η (upd H D o) w v := (h.hide (o := o) (.inr n)).less fun b hb => List.mem_cons_of_mem _ hb
theorem SR.hid' {D : Addr} {o : HO} (n : D ∈ η) (s : SR K T ρ η st H) : SR K T ρ η st (upd H D o) := by
  have nr : D ∉ ρ := s.hid D n
  refine ⟨s.nd, s.len, s.hid, fun a ha => ?_, fun i nd a e q => ?_⟩
  · by_cases z : a = D
    · exact ⟨o, by rw [z, upd_same]⟩
    · obtain ⟨u, e⟩ := s.has a ha
      exact ⟨u, by rw [upd_ne z]; exact e⟩
  · have ne : a ≠ D := fun z => nr (z ▸ List.mem_of_getElem? q)
    have k := s.at_ i nd a e q
    cases nd with
    | lst xs => obtain ⟨vs, z, r⟩ := k; exact ⟨vs, by rw [upd_ne ne]; exact z, r.hid n⟩
    | dk kvs => obtain ⟨kv, z, q, r⟩ := k; exact ⟨kv, by rw [upd_ne ne]; exact z, q, r.hid n⟩
    | lk kvs => obtain ⟨od, kv, z, q, r⟩ := k; exact ⟨od, kv, by rw [upd_ne ne]; exact z, q, r.hid n⟩
    | ins c fs => obtain ⟨dx, fv, z, q, r⟩ := k; exact ⟨dx, fv, by rw [upd_ne ne]; exact z, q, r.hid n⟩
/-- an object that was not there at the start changes -/
theorem Grow.hid {D : Addr} {o : HO} (g : Grow ρ H ρ' H') (n : H D = none) : Grow ρ H ρ' (upd H' D o) := by
  obtain ⟨t, e, ht⟩ := g.pre
  refine ⟨⟨t, e, ht⟩, fun a u na h => ?_, fun a u h => ?_, fun a u x h => by rw [upd_ne (ne_of_none h n)]; exact g.frz a u x h⟩
  · rw [upd_ne (ne_of_none h n)]
    exact g.same a u na h
  · by_cases z : a = D
    · exact ⟨o, by rw [z, upd_same]⟩
    · obtain ⟨u', k⟩ := g.all a u h
      exact ⟨u', by rw [upd_ne z]; exact k⟩
/-- the hidden object is let go as a list that stands still -/
theorem SR.unhide {D : Addr} (s : SR K T ρ (D :: η) st H) : SR K T ρ η st H := by
  refine ⟨s.nd, s.len, fun a ha => s.hid a (List.mem_cons_of_mem _ ha), fun a ha => s.has a (List.mem_cons_of_mem _ ha), fun i nd a e q => ?_⟩
  have k := s.at_ i nd a e q
  have l : ∀ b ∈ η, b ∈ D :: η := fun b hb => List.mem_cons_of_mem _ hb
  cases nd with
  | lst xs => obtain ⟨vs, z, r⟩ := k; exact ⟨vs, z, r.less l⟩
  | dk kvs => obtain ⟨kv, z, q, r⟩ := k; exact ⟨kv, z, q, r.less l⟩
  | lk kvs => obtain ⟨od, kv, z, q, r⟩ := k; exact ⟨od, kv, z, q, r.less l⟩
  | ins c fs => obtain ⟨dx, fv, z, q, r⟩ := k; exact ⟨dx, fv, z, q, r.less l⟩
/-- a hidden one becomes a place -/
theorem TupAt.shift {a D : Addr} {vs : List V} (h : TupAt K ρ (D :: η) H a vs) : TupAt K (ρ ++ [D]) η H a vs := h.imp (fun h => ⟨by
  have := h.2.1
  simp only [List.mem_cons, not_or] at this
  simp [h.1, this.1], fun z => h.2.1 (List.mem_cons_of_mem _ z), h.2.2⟩) id
theorem LstAt.shift {a D : Addr} {vs : List V} (h : LstAt K ρ (D :: η) H a vs) : LstAt K (ρ ++ [D]) η H a vs := h.imp (fun h => ⟨by
  have := h.2.1
  simp only [List.mem_cons, not_or] at this
  simp [h.1, this.1], fun z => h.2.1 (List.mem_cons_of_mem _ z), h.2.2⟩) id
mutual
theorem VR.shift {D : Addr} : ∀ {w : W} {v : V}, VR K ρ (D :: η) H w v → VR K (ρ ++ [D]) η H w v
  | .non, _, h => h
  | .bl _, _, h => h
  | .int _, _, h => h
  | .str _, _, h => h
  | .ty _, _, h => h
  | .at_ _, _, h => h
  | .ref i, v, h => by
    simp only [VR] at h ⊢
    obtain ⟨a, e, r⟩ := h
    exact ⟨a, by rw [List.getElem?_append_left (List.getElem?_eq_some_iff.mp e).1]; exact e, r⟩
  | .tup xs, v, h => by
    simp only [VR] at h ⊢
    obtain ⟨a, vs, e, t, r⟩ := h
    exact ⟨a, vs, e, t.shift, VRs.shift r⟩
  | .lst xs, v, h => by
    simp only [VR] at h ⊢
    obtain ⟨a, vs, e, ⟨t1, t2, t3⟩, r⟩ := h
    simp only [List.mem_cons, not_or] at t2
    exact ⟨a, vs, e, ⟨by simp [t1, t2.1], t2.2, t3⟩, VRs.shift r⟩
  | .scr xs, v, h => by
    simp only [VR] at h ⊢
    obtain ⟨a, vs, e, t, r⟩ := h
    exact ⟨a, vs, e, t.shift, VRs.shift r⟩
theorem VRs.shift {D : Addr} : ∀ {ws : List W} {vs : List V}, VRs K ρ (D :: η) H ws vs → VRs K (ρ ++ [D]) η H ws vs
  | [], _, h => by simpa only [VRs] using h
  | x :: xs, vs, h => by
    simp only [VRs] at h ⊢
    obtain ⟨v, r, e, h1, h2⟩ := h
    exact ⟨v, r, e, VR.shift h1, VRs.shift h2⟩
end
theorem NR.shift {a D : Addr} {n : Nd} (h : NR K T ρ (D :: η) H a n) : NR K T (ρ ++ [D]) η H a n := by
  cases n with
  | lst xs => obtain ⟨vs, z, r⟩ := h; exact ⟨vs, z, r.shift⟩
  | dk kvs => obtain ⟨kv, z, q, r⟩ := h; exact ⟨kv, z, q, r.shift⟩
  | lk kvs => obtain ⟨od, kv, z, q, r⟩ := h; exact ⟨od, kv, z, q, r.shift⟩
  | ins c fs => obtain ⟨dx, fv, z, q, r⟩ := h; exact ⟨dx, fv, z, q, r.shift⟩
theorem SR.shift {D : Addr} {nd : Nd} (s : SR K T ρ (D :: η) st H) (nD : D ∉ η) (k : NR K T (ρ ++ [D]) η H D nd) : SR K T (ρ ++ [D]) η (st ++ [nd]) H := by
  have nr : D ∉ ρ := s.hid D List.mem_cons_self
  refine ⟨?_, by simp [s.len], fun a ha z => ?_, fun a ha => s.has a (List.mem_cons_of_mem _ ha), fun i m a e q => ?_⟩
  · rw [List.nodup_append]
    exact ⟨s.nd, by simp, fun a ha b hb z => by
      rw [List.mem_singleton] at hb
      subst hb; subst z
      exact nr ha⟩
  · rcases List.mem_append.mp z with z | z
    · exact s.hid a (List.mem_cons_of_mem _ ha) z
    · rw [List.mem_singleton] at z
      exact nD (z ▸ ha)
  · by_cases hi : i < st.length
    · rw [List.getElem?_append_left hi] at e
      rw [List.getElem?_append_left (by rw [s.len]; exact hi)] at q
      exact (s.at_ i m a e q).shift
    · have l1 := (List.getElem?_eq_some_iff.mp e).1
      have hi2 : i = st.length := by
        rw [List.length_append, List.length_singleton] at l1
        omega
      subst hi2
      rw [List.getElem?_append_right (Nat.le_refl _)] at e
      rw [List.getElem?_append_right (by rw [s.len]; exact Nat.le_refl _)] at q
      simp at e
      simp [s.len] at q
      subst e; subst q
      exact k
theorem Grow.shift {D : Addr} (g : Grow ρ H ρ' H') (n : H D = none) : Grow ρ H (ρ' ++ [D]) H' := by
  obtain ⟨t, e, ht⟩ := g.pre
  refine ⟨⟨t ++ [D], by rw [e, List.append_assoc], fun a ha => ?_⟩, g.same, g.all, g.frz⟩
  rcases List.mem_append.mp ha with ha | ha
  · exact ht a ha
  · rw [List.mem_singleton] at ha
    rw [ha]; exact n
theorem gNames_ok {vs : List Nat} : ∀ {is : List Nat} {ws : List W} {us : List V} {env env1 : Ev} {σ : St} {H : Hp} {Q : St → Hp → Prop}, setAll is ws env = some env1 → VRs K ρ η H ws us → ER K ρ η H env σ → (∀ i ∈ is, i ∈ vs) →
    (∀ σ1, ER K ρ η H env1 σ1 → wipe σ1 vs = wipe σ vs → Q σ1 H) → gNames is us σ H Q ∧ us.length = is.length
  | [], [], us, env, env1, σ, H, Q, e, r, er, hv, q => by
    simp only [setAll, Option.some.injEq] at e
    subst e
    simp only [VRs] at r
    subst r
    exact ⟨⟨rfl, q σ er rfl⟩, rfl⟩
  | i :: is, w :: ws, us, env, env1, σ, H, Q, e, r, er, hv, q => by
    simp only [setAll] at e
    simp only [VRs] at r
    obtain ⟨v, rr, e1, r1, r2⟩ := r
    subst e1
    have ih := gNames_ok (Q := Q) e r2 (er.set (i := i) r1) (fun j hj => hv j (List.mem_cons_of_mem _ hj)) fun σ1 e1 e2 => q σ1 e1 (e2.trans (wipe_set (hv i List.mem_cons_self)))
    exact ⟨⟨v, rr, rfl, ih.1⟩, by simp [ih.2]⟩
  | [], w :: ws, us, env, env1, σ, H, Q, e, r, er, hv, q => by simp [setAll] at e
  | i :: is, [], us, env, env1, σ, H, Q, e, r, er, hv, q => by simp [setAll] at e
theorem ct_ok {vs : List Nat} {t : CT} {w : W} {v : V} {env env1 : Ev} {σ : St} {H : Hp} {Q : St → Hp → Prop} (e : t.put w env = some env1) (r : VR K ρ η H w v) (er : ER K ρ η H env σ) (hv : ∀ i ∈ t.ix, i ∈ vs)
    (q : ∀ σ1, ER K ρ η H env1 σ1 → wipe σ1 vs = wipe σ vs → Q σ1 H) : t.tg K v σ H Q := by
  cases t with
  | one i =>
    simp only [CT.put, Option.some.injEq] at e
    subst e
    exact q _ (er.set r) (wipe_set (hv i (by simp [CT.ix])))
  | tup is =>
    simp only [CT.put] at e
    split at e
    · rename_i ws
      simp only [VR] at r
      obtain ⟨a, us, e1, e2, e3⟩ := r
      obtain ⟨h1, h2⟩ := gNames_ok (vs := vs) e e3 er hv q
      exact ⟨a, us, e1, e2.sq, h2, h1⟩
    · cases e
end
section
variable {X : Cx} {T : Nat → Addr} {Wx : WX'} {pos : Pos}
theorem wipe_wipe {σ : St} : ∀ {vs : List Nat}, wipe (wipe σ vs) vs = wipe σ vs := by
  intro vs
  have gt : ∀ (us : List Nat) (σ : St) (j : Nat), (wipe σ us)[j]? = if j ∈ us then (if j < σ.length then some none else none) else σ[j]? := by
    intro us
    induction us with
    | nil => intro σ j; simp [wipe]
    | cons u us ih =>
      intro σ j
      unfold wipe
      rw [List.getElem?_set, wipe_length, ih]
      by_cases e : u = j
      · subst e
        simp
      · have e2 : ¬ j = u := fun z => e z.symm
        rw [if_neg e]
        simp [e2]
  apply List.ext_getElem?
  intro j
  rw [gt, gt, wipe_length]
  split <;> rfl
/-- an expression that is read by t alone -/
def SEt (X : Cx) (T : Nat → Addr) (Wx : WX') (t : TE) (m : M W) : Prop := ∀ ρ η st env σ H Q, SR X.K T ρ η st H → ER X.K ρ η H env σ → After X.K T η (fun ρ H => VR X.K ρ η H) ρ H (m env st) Q (fun c d H' => Wx c d σ H') → t σ H Q
theorem se_T {e : Expr} {t : TE} {m : M W} (h : SEt X T Wx t m) (hp : PE X e t) : SE X T Wx e m := fun ρ η st env σ H Q s er q => ⟨t, hp, h ρ η st env σ H Q s er q⟩
theorem ss_setT {i : Nat} {c : Stmt} {t : TE} {m : M W} (h : SEt X T Wx t m) (hp : PS X c (tAsg t (gName i))) : SSt X T Wx c (sAsg m (gName' i)) := by
  intro ρ η st env σ H D s er q
  refine ⟨_, hp, ?_⟩
  exact h ρ η st env σ H _ s er (q.bind er fun w s1 ρ1 H1 v _ g1 sr1 r1 h2 => h2 ρ1 H1 _ Grow.refl sr1 ((er.mono g1).set r1))
theorem comp_T {fz : Bool} {elt tg iter : Expr} {ifs : List Expr} {scope : Scope} {own : List (Str × Nat)} {mi : MI} {t : CT} {cond : M Bool} {m : M W} (hi : SI X T Wx tg iter mi)
    (hv : ∀ i ∈ t.ix, i ∈ own.map (fun p : Str × Nat => p.2))
    (ht : (ifs = [] ∧ cond = mYes) ∨ ∃ c, ifs = [c] ∧ ∀ (s : Shared) (H : Hp) (C : Addr) (cl : List (Str × Addr)) (fp : List Addr), STt (X.blk s H scope (compEnvC scope cl C X.env) fp) T W0 c cond)
    (he : ∀ (s : Shared) (H : Hp) (C : Addr) (cl : List (Str × Addr)) (fp : List Addr), SE (X.blk s H scope (compEnvC scope cl C X.env) fp) T W0 elt m) :
    ∃ tt te, (∀ (s : Shared) (H : Hp) (C : Addr) (cl : List (Str × Addr)) (fp : List Addr), PTs (X.blk s H scope (compEnvC scope cl C X.env) fp) ifs tt) ∧
      (∀ (s : Shared) (H : Hp) (C : Addr) (cl : List (Str × Addr)) (fp : List Addr), PE (X.blk s H scope (compEnvC scope cl C X.env) fp) elt te) ∧
      SEt X T Wx (tLc (tSI X tg iter) (t.tg X.K) tt te (own.map (fun p : Str × Nat => p.2))) (mComp fz mi (own.map (fun p : Str × Nat => p.2)) t cond m) := by
  -- the test and the element, by what they do in each block
  let tt : TT := fun σ H Q => ∀ (s : Shared) (G : Hp) (C : Addr) (cl : List (Str × Addr)) (fp : List Addr), (∃ u, PTs (X.blk s G scope (compEnvC scope cl C X.env) fp) ifs u ∧ u σ H Q)
  let te : TE := fun σ H Q => ∀ (s : Shared) (G : Hp) (C : Addr) (cl : List (Str × Addr)) (fp : List Addr), (∃ u, PE (X.blk s G scope (compEnvC scope cl C X.env) fp) elt u ∧ u σ H Q)
  refine ⟨tt, te, fun s G C cl fp => ⟨fun pins s' σ' H' Q' I h => ?_⟩, fun s G C cl fp => ⟨fun pins s' σ' H' Q' I h => ?_⟩, ?_⟩
  · obtain ⟨u, h1, h2⟩ := h s G C cl fp
    exact h1.run pins s' σ' H' Q' I h2
  · obtain ⟨u, h1, h2⟩ := h s G C cl fp
    exact h1.run pins s' σ' H' Q' I h2
  intro ρ η st env σ H Q s er q
  refine hi ρ η st env σ H _ s er (q.bind fun src s1 ρ1 H1 J g1 sr1 ok1 h1 => ?_)
  intro D hD
  have D1 : Hid η H1 (D :: η) := hid_new hD
  have er0 : ER X.K ρ1 η H1 (wipeW env (own.map (fun p : Str × Nat => p.2))) (wipe σ (own.map (fun p : Str × Nat => p.2))) := (er.mono g1).wipe _
  refine ⟨fun (i n : Nat) (H' : Hp) => ∃ (ρ' : List Addr) (st' : Sto) (acc : List W) (accv : List V), Grow ρ1 H1 ρ' H' ∧ SR X.K T ρ' (D :: η) st' H' ∧ H' D = some (.lst accv) ∧ VRs X.K ρ' (D :: η) H' acc accv ∧
      After X.K T η (fun ρ H => VR X.K ρ η H) ρ1 H1 ((compS src t cond m (wipeW env (own.map (fun p : Str × Nat => p.2))) n i acc st').bind fun ws st2 => newL fz ws st2) Q (fun c d H' => Wx c d σ H'), ⟨src.fuel, ρ1, s1, [], [], Grow.new hD, sr1.hide hD, upd_same, VRs.nil, h1⟩, ?_⟩
  rintro i n H2 ⟨ρ2, st2, acc, accv, g2, sr2, hD2, rac, h2⟩
  cases n with
  | zero => exact h2.elim
  | succ n =>
    have k := ok1 (D :: η) D1 i ρ2 H2 st2 g2 sr2
    unfold compS at h2
    split at h2
    · rename_i w e
      rw [e] at k
      obtain ⟨k1, k2⟩ := k
      refine .inr ⟨k1, fun (H' : Hp) => ∃ (ρ' : List Addr) (st' : Sto) (acc : List W) (accv : List V), Grow ρ1 H1 ρ' H' ∧ SR X.K T ρ' (D :: η) st' H' ∧ H' D = some (.lst accv) ∧ VRs X.K ρ' (D :: η) H' acc accv ∧
        After X.K T η (fun ρ H => VR X.K ρ η H) ρ1 H1 ((compS src t cond m (wipeW env (own.map (fun p : Str × Nat => p.2))) n (i + 1) acc st').bind fun ws st2 => newL fz ws st2) Q (fun c d H' => Wx c d σ H'), fun H' z => ⟨n, Nat.lt_succ_self n, z⟩, fun x H3 y => ?_⟩
      obtain ⟨g3, sr3, r3⟩ := k2 x H3 y
      have hD3 : H3 D = some (.lst accv) := g3.same D _ (sr2.hid D List.mem_cons_self) hD2
      split at h2
      · rename_i env4 e4
        refine ct_ok (vs := own.map (fun p : Str × Nat => p.2)) e4 r3 (er0.more (g2.trans g3) D1) hv fun σ4 er4 w4 => ?_
        rw [wipe_wipe] at w4
        refine ⟨w4, ?_⟩
        -- the test
        have step : ∀ (b : Bool) (st5 : Sto) (ρ5 : List Addr) (H5 : Hp), Grow ρ2 H3 ρ5 H5 → SR X.K T ρ5 (D :: η) st5 H5 →
            After X.K T η (fun ρ H => VR X.K ρ η H) ρ1 H1 ((match b with
              | true => (match m env4 st5 with
                | .ok v st2 => if acc.length < sizeLine then compS src t cond m (wipeW env (own.map (fun p : Str × Nat => p.2))) n (i + 1) (acc ++ [v]) st2 else .stuck
                | _ => .stuck)
              | false => compS src t cond m (wipeW env (own.map (fun p : Str × Nat => p.2))) n (i + 1) acc st5).bind fun ws st2 => newL fz ws st2) Q (fun c d H' => Wx c d σ H') →
            (if b = true then te σ4 H5 fun y H4 => ∃ acc, H4 D = some (.lst acc) ∧ acc.length < sizeLine ∧ (∃ (ρ' : List Addr) (st' : Sto) (acc' : List W) (accv : List V), Grow ρ1 H1 ρ' (upd H4 D (.lst (acc ++ [y]))) ∧ SR X.K T ρ' (D :: η) st' (upd H4 D (.lst (acc ++ [y]))) ∧ (upd H4 D (.lst (acc ++ [y]))) D = some (.lst accv) ∧ VRs X.K ρ' (D :: η) (upd H4 D (.lst (acc ++ [y]))) acc' accv ∧
              After X.K T η (fun ρ H => VR X.K ρ η H) ρ1 H1 ((compS src t cond m (wipeW env (own.map (fun p : Str × Nat => p.2))) n (i + 1) acc' st').bind fun ws st2 => newL fz ws st2) Q (fun c d H' => Wx c d σ H'))
            else ∃ (ρ' : List Addr) (st' : Sto) (acc : List W) (accv : List V), Grow ρ1 H1 ρ' H5 ∧ SR X.K T ρ' (D :: η) st' H5 ∧ H5 D = some (.lst accv) ∧ VRs X.K ρ' (D :: η) H5 acc accv ∧
              After X.K T η (fun ρ H => VR X.K ρ η H) ρ1 H1 ((compS src t cond m (wipeW env (own.map (fun p : Str × Nat => p.2))) n (i + 1) acc st').bind fun ws st2 => newL fz ws st2) Q (fun c d H' => Wx c d σ H')) := by
          intro b st5 ρ5 H5 g5 sr5 h5
          have hD5 : H5 D = some (.lst accv) := g5.same D _ (sr3.hid D List.mem_cons_self) hD3
          have gA : Grow ρ1 H1 ρ5 H5 := (g2.trans g3).trans g5
          cases b with
          | false => exact iteF ⟨ρ5, st5, acc, accv, gA, sr5, hD5, (rac.mono g3).mono g5, h5⟩
          | true =>
            refine iteT ?_
            intro s' G C cl fp
            refine he s' G C cl fp ρ5 (D :: η) st5 env4 σ4 H5 _ sr5 (er4.mono g5) ?_
            dsimp only at h5
            cases e6 : m env4 st5 with
            | ok v st6 =>
              rw [e6] at h5
              dsimp only at h5
              split at h5
              · rename_i lz
                intro ρ6 H6 y g6 sr6 r6
                have hD6 : H6 D = some (.lst accv) := g6.same D _ (sr5.hid D List.mem_cons_self) hD5
                have rac6 : VRs X.K ρ6 (D :: η) H6 acc accv := ((rac.mono g3).mono g5).mono g6
                refine ⟨accv, hD6, by rw [rac6.len]; exact lz, ρ6, st6, acc ++ [v], accv ++ [y], (gA.trans g6).hid hD, sr6.hid' List.mem_cons_self, upd_same, ?_, h5⟩
                exact (rac6.hid List.mem_cons_self).append (VRs.cons (r6.hid List.mem_cons_self) VRs.nil)
              · exact h5.elim
            | ex x s' => rw [e6] at h5; exact h5.elim
            | stuck => rw [e6] at h5; exact h5.elim
        rcases ht with ⟨z1, z2⟩ | ⟨c, z1, z2⟩
        · subst z2
          intro s' G C cl fp
          refine ⟨tYes, by rw [z1]; exact pts_nil, ?_⟩
          exact step true st2 ρ2 H3 Grow.refl sr3 h2
        · intro s' G C cl fp
          obtain ⟨u, hu1, hu2⟩ := z2 s' G C cl fp ρ2 (D :: η) st2 env4 σ4 H3 (fun (b : Bool) (H3 : Hp) => if b = true then te σ4 H3 fun y H4 => ∃ acc, H4 D = some (.lst acc) ∧ acc.length < sizeLine ∧ (∃ (ρ' : List Addr) (st' : Sto) (acc' : List W) (accv : List V), Grow ρ1 H1 ρ' (upd H4 D (.lst (acc ++ [y]))) ∧ SR X.K T ρ' (D :: η) st' (upd H4 D (.lst (acc ++ [y]))) ∧ (upd H4 D (.lst (acc ++ [y]))) D = some (.lst accv) ∧ VRs X.K ρ' (D :: η) (upd H4 D (.lst (acc ++ [y]))) acc' accv ∧
              After X.K T η (fun ρ H => VR X.K ρ η H) ρ1 H1 ((compS src t cond m (wipeW env (own.map (fun p : Str × Nat => p.2))) n (i + 1) acc' st').bind fun ws st2 => newL fz ws st2) Q (fun c d H' => Wx c d σ H'))
            else ∃ (ρ' : List Addr) (st' : Sto) (acc : List W) (accv : List V), Grow ρ1 H1 ρ' H3 ∧ SR X.K T ρ' (D :: η) st' H3 ∧ H3 D = some (.lst accv) ∧ VRs X.K ρ' (D :: η) H3 acc accv ∧
              After X.K T η (fun ρ H => VR X.K ρ η H) ρ1 H1 ((compS src t cond m (wipeW env (own.map (fun p : Str × Nat => p.2))) n (i + 1) acc st').bind fun ws st2 => newL fz ws st2) Q (fun c d H' => Wx c d σ H')) sr3 er4 (by
            cases e6 : cond env4 st2 with
            | ok b st6 =>
              rw [e6] at h2
              intro ρ6 H6 b' g6 sr6 r6
              subst r6
              refine step b st6 ρ6 H6 g6 sr6 ?_
              cases b <;> exact h2
            | ex x s' => rw [e6] at h2; exact h2.elim
            | stuck => rw [e6] at h2; exact h2.elim)
          exact ⟨u, by rw [z1]; exact pts_one hu1, hu2⟩
      · exact h2.elim
    · rename_i e
      rw [e] at k
      refine .inl ⟨k, ?_⟩
      have h2 : After X.K T η (fun ρ H => VR X.K ρ η H) ρ1 H1 (newL fz acc st2) Q (fun c d H' => Wx c d σ H') := h2
      unfold newL at h2
      have l : ∀ b ∈ η, b ∈ D :: η := fun b hb => List.mem_cons_of_mem _ hb
      have nD : D ∉ η := fun z => by
        obtain ⟨o, e⟩ := sr1.has D z
        rw [hD] at e; cases e
      cases fz with
      | true =>
        refine h2 ρ2 H2 _ g2 sr2.unhide ?_
        simp only [VR]
        exact ⟨D, accv, rfl, ⟨sr2.hid D List.mem_cons_self, nD, hD2⟩, rac.less l⟩
      | false =>
        refine h2 (ρ2 ++ [D]) H2 _ (g2.shift hD) (sr2.shift nD ⟨accv, hD2, rac.shift⟩) ?_
        simp only [VR]
        exact ⟨D, by rw [← sr2.len, List.getElem?_append_right (Nat.le_refl _)]; simp, rfl⟩
    · exact h2.elim
theorem se_comp {fz : Bool} {elt tg iter : Expr} {ifs : List Expr} {scope : Scope} {own : List (Str × Nat)} {mi : MI} {t : CT} {cond : M Bool} {m : M W} (hc : X.calm = true) (hN : X.N.Nodup) (hi : SI X T Wx tg iter mi) (ok : BlkOk X.N X.env.scope scope own)
    (hv : ∀ i ∈ t.ix, i ∈ own.map (fun p : Str × Nat => p.2))
    (hg : ∀ (s : Shared) (H : Hp) (C : Addr) (cl : List (Str × Addr)) (fp : List Addr), PG (X.blk s H scope (compEnvC scope cl C X.env) fp) tg (t.tg X.K))
    (ht : (ifs = [] ∧ cond = mYes) ∨ ∃ c, ifs = [c] ∧ ∀ (s : Shared) (H : Hp) (C : Addr) (cl : List (Str × Addr)) (fp : List Addr), STt (X.blk s H scope (compEnvC scope cl C X.env) fp) T W0 c cond)
    (he : ∀ (s : Shared) (H : Hp) (C : Addr) (cl : List (Str × Addr)) (fp : List Addr), SE (X.blk s H scope (compEnvC scope cl C X.env) fp) T W0 elt m) (hs : ∀ x, foldedSetIterable iter X.env x = pure x := by intro _; rfl) :
    SE X T Wx (.ListComp elt [⟨tg, iter, ifs, 0⟩] scope pos) (mComp fz mi (own.map (fun p : Str × Nat => p.2)) t cond m) := by
  obtain ⟨tt, te, h1, h2, h3⟩ := comp_T (fz := fz) (own := own) (Wx := Wx) hi hv ht he
  exact se_T h3 (pe_lc hc hN pi_S ok hg h1 h2 hs)
/-- name = [..], the name not read within another block -/
theorem ss_comp {fz : Bool} {i : Nat} {y : Str} {py spos : Pos} {elt tg iter : Expr} {ifs : List Expr} {scope : Scope} {own : List (Str × Nat)} {mi : MI} {t : CT} {cond : M Bool} {m : M W} (hc : X.calm = true) (hN : X.N.Nodup) (hy : X.N[i]? = some y) (hyl : X.env.scope.names.lookup y = some .local)
    (hsw : swapsWith (.ListComp elt [⟨tg, iter, ifs, 0⟩] scope pos) (some (.Name y py)) spos.line X.env = pure true) (hi : SI X T Wx tg iter mi) (ok : BlkOk X.N X.env.scope scope own)
    (hv : ∀ i ∈ t.ix, i ∈ own.map (fun p : Str × Nat => p.2))
    (hg : ∀ (s : Shared) (H : Hp) (C : Addr) (cl : List (Str × Addr)) (fp : List Addr), PG (X.blk s H scope (compEnvC scope cl C X.env) fp) tg (t.tg X.K))
    (ht : (ifs = [] ∧ cond = mYes) ∨ ∃ c, ifs = [c] ∧ ∀ (s : Shared) (H : Hp) (C : Addr) (cl : List (Str × Addr)) (fp : List Addr), STt (X.blk s H scope (compEnvC scope cl C X.env) fp) T W0 c cond)
    (he : ∀ (s : Shared) (H : Hp) (C : Addr) (cl : List (Str × Addr)) (fp : List Addr), SE (X.blk s H scope (compEnvC scope cl C X.env) fp) T W0 elt m) (hs : ∀ x, foldedSetIterable iter X.env x = pure x := by intro _; rfl) :
    SSt X T Wx (.Assign [.Name y py] (.ListComp elt [⟨tg, iter, ifs, 0⟩] scope pos) spos) (sAsg (mComp fz mi (own.map (fun p : Str × Nat => p.2)) t cond m) (gName' i)) := by
  obtain ⟨tt, te, h1, h2, h3⟩ := comp_T (fz := fz) (own := own) (Wx := Wx) hi hv ht he
  exact ss_setT h3 (ps_setLc hc hN hy hyl hsw pi_S ok hg h1 h2 hs)
end
end Mi
namespace Mi
open PySem L2
/-- what a def does: from its arguments and the store -/
abbrev RunM := List W → Sto → Rs W
/-- the promise of a def that does what run does -/
def spM (K : PySem.W.Frag) (T : Nat → Addr) (n : Nat) (run : RunM) : Sp := fun vs H Q E => ∃ ρ η st ws, SR K T ρ η st H ∧ VRs K ρ η H ws vs ∧ ws.length = n ∧ After K T η (fun ρ H => VR K ρ η H) ρ H (run ws st) Q E
theorem spM_len {K : PySem.W.Frag} {T : Nat → Addr} {n : Nat} {run : RunM} : ∀ vs H Q E, spM K T n run vs H Q E → vs.length = n := fun vs H Q E ⟨_, _, _, _, _, r, l, _⟩ => by rw [r.len, l]
abbrev FnM (P : Program) (w : World) (K : PySem.W.Frag) (mg : Str → Option Value) (base : Heap) (T : Nat → Addr) (k : Nat) (f : Addr) (fd : FuncData) (ps : List Str) (run : RunM) : Prop :=
  FnOk P w K mg base (L2.CX P w) k f fd ps (spM K T ps.length run)
def mCall (run : RunM) (m : M (List W)) : M W := fun env st => (m env st).bind run
/-- an argument list by its own count -/
structure SAn (X : Cx) (T : Nat → Addr) (Wx : WX') (n : Nat) (es : List Expr) (m : M (List W)) : Prop where
  run : SA X T Wx es m
  len : ArgLen n m
theorem san_nil {X : Cx} {T : Nat → Addr} {Wx : WX'} : SAn X T Wx 0 [] mNil := ⟨sa_nil, len_nil⟩
theorem san_cons {X : Cx} {T : Nat → Addr} {Wx : WX'} {n : Nat} {e : Expr} {es : List Expr} {m : M W} {k : M (List W)} (he : SE X T Wx e m) (hs : SAn X T Wx n es k) (hst : starEach (e :: es) X.env = (false, eval e X.env) :: starEach es X.env := by rfl) : SAn X T Wx (n + 1) (e :: es) (mCons m k) := ⟨sa_cons he hs.run hst, len_cons hs.len⟩
section
variable {X : Cx} {T : Nat → Addr} {Wx : WX'} {pos p apos : Pos} {k : Nat} {f : Addr} {fd : FuncData} {ps : List Str} {run : RunM} {x m : Str} {e o : Expr} {es : List Expr} {ma : M (List W)}
/-- the state behind the arguments is what the callee wants -/
theorem sp_of {ρ η : List Addr} {H : Hp} {st : Sto} {ws : List W} {vs : List V} {n : Nat} {Q : VK} {E : XK} (s : SR X.K T ρ η st H) (r : VRs X.K ρ η H ws vs) (l : ws.length = n) (h : After X.K T η (fun ρ H => VR X.K ρ η H) ρ H (run ws st) Q E) : spM X.K T n run vs H Q E := ⟨ρ, η, st, ws, s, r, l, h⟩
theorem se_call (F : FnM X.prog X.w X.K X.mg X.base T k f fd ps run) (hr : Room k X.A) (tk : Takes X Wx) (hg : Gl X x) (hm : X.mg x = some (.ref f)) (hk : PySem.W.keepIn X.K (.ref f) = true) (hb : Binds X.K fd ps [])
    (ha : SAn X T Wx ps.length (e :: es) ma) (hdb : (x == ("__debug__" : Str)) = false := by decide) (he : starEach (e :: es) X.env = (false, eval e X.env) :: starEach es X.env := by rfl) (hpl : (backTo pos (starEach es X.env)).any (·.1) = false := by rfl) :
    SE X T Wx (.Call (.Name x p) (e :: es) [] pos) (mCall run ma) := by
  intro ρ η st env σ H Q s er q
  refine ⟨_, pe_callS (E := WE Wx) F hr hg hm hk hb (fun σ => passAt tk σ) pa_S hdb he hpl, ?_⟩
  refine ha.run ρ η st env σ H _ s er (After.bindE q fun ws s1 ρ1 H1 vs e1 g1 sr1 r1 h1 => ?_)
  exact sp_of sr1 r1 (ha.len env st ws s1 e1) h1
/-- a method of an own class -/
structure MethM (X : Cx) (T : Nat → Addr) (k : Nat) (m : Str) (n : Nat) (c : Nat) (run : RunM) : Prop where
  cls : Cls X.K (T c)
  ex : ∃ f fd ps, Meth X.K (T c) m f ∧ FnM X.prog X.w X.K X.mg X.base T k f fd ps run ∧ Binds X.K fd ps [] ∧ ps.length = n + 1
end
end Mi
namespace Mi
open PySem PySem.Spec PyProof.Rows L2
/-! ### a def by its body -/
def outOf (r : SRs) : Rs W := match r with
  | .rt w st => .ok w st
  | .nx _ st => .ok .non st
  | .ex x _ st => .ex x st
  | _ => .stuck
def runOf (n : Nat) (m : MS) : RunM := fun ws st => outOf (m (ws.map some ++ List.replicate (n - ws.length) none) st)
/-- the wish of a def about what leaves it -/
abbrev WD (E : XK) : WX' := fun c d _ H => E c d H
theorem er_start {K : PySem.W.Frag} {ρ η : List Addr} {H : Hp} {ws : List W} {vs : List V} {N : List Str} (r : VRs K ρ η H ws vs) : ER K ρ η H (ws.map some ++ List.replicate (N.length - ws.length) none) (L2.start N vs) := by
  unfold L2.start
  refine ⟨by simp [r.len], fun i w e => ?_⟩
  by_cases hi : i < ws.length
  · rw [List.getElem?_append_left (by simpa using hi), List.getElem?_map] at e
    cases q : ws[i]? with
    | none => rw [q] at e; cases e
    | some u =>
      rw [q] at e
      cases e
      obtain ⟨v, h1, h2⟩ := r.get q
      refine ⟨v, ?_, h2⟩
      rw [List.getElem?_append_left (by rw [List.length_map, r.len]; exact hi), List.getElem?_map, h1]
      rfl
  · rw [List.getElem?_append_right (by simpa using Nat.le_of_not_lt hi), List.getElem?_replicate] at e
    split at e <;> cases e
section
variable {P : Program} {w : World} {K : PySem.W.Frag} {mg : Str → Option Value} {base : Heap} {T : Nat → Addr} {k : Nat}
theorem fn_ok {x qual : Str} {st : Stmt} {f : Addr} {fd : FuncData} {N ps : List Str} {m : MS} (F : Fun K x qual st f fd) (S : FnScope N ps (defScope st))
    (hb : ∀ (cdv : Value) (A : Around) (outer : List Env) (s : Shared) (H : Hp) (E : XK), Room k (A.deeper (envOfC qual (defScope st) s.heap.objs.size f cdv)) →
      SSs (L2.cxOf (L2.CX P w) P w K mg base N qual (defScope st) f cdv A outer s H E) T (WD E) (defBody st) m) : FnM P w K mg base T (k + 1) f fd ps (runOf N.length m) := by
  refine F.okX S (fun vs H Q E h => spM_len vs H Q E h) fun cdv A outer s H vs Q E hr h => ?_
  obtain ⟨ρ, η, sto, ws, sr, r, l, a⟩ := h
  have go := hb cdv A outer s H E hr ρ η sto _ _ H { nx := fun _ H' => Q .non H', rt := Q } sr (er_start (N := N) r) ?_
  · exact go
  · unfold runOf at a
    cases e : m (ws.map some ++ List.replicate (N.length - ws.length) none) sto with
    | nx env s1 => rw [e] at a; exact fun ρ1 H1 σ1 g1 sr1 er1 => a ρ1 H1 _ g1 sr1 (by simp only [VR])
    | rt w1 s1 => rw [e] at a; exact a
    | bk env s1 => rw [e] at a; exact a.elim
    | ct env s1 => rw [e] at a; exact a.elim
    | ex x env s1 => rw [e] at a; exact fun ρ1 H1 σ1 c d g1 sr1 er1 xr => a ρ1 H1 c d g1 sr1 xr
    | stuck => rw [e] at a; exact a
end
/-! ### raise -/
section
variable {X : Cx} {T : Nat → Addr} {Wx : WX'} {pos : Pos}
/-- what must be known of an own exception class (over ValueError, no __init__) -/
structure ExcOk (X : Cx) (C : Addr) (x : Str) : Prop where
  ex : PySem.W.excIn X.K C [.type "ValueError", .type "Exception", .type "BaseException", .type "object"] "ValueError.__new__" = true
  mg : X.mg x = some (.ref C)
  kp : PySem.W.keepIn X.K (.ref C) = true
  sub : PySem.W.subIn X.K (.ref C) (.type "BaseException") = some true
  ty : PySem.W.typeIn X.K (.ref C) = some (.type "type")
/-! ### stores -/
theorem wset_ok {ρ η : List Addr} {H : Hp} {st st1 : Sto} {o i v : W} {ov iv vv : V} (s : SR X.K T ρ η st H) (ro : VR X.K ρ η H o ov) (ri : VR X.K ρ η H i iv) (rv : VR X.K ρ η H v vv) (e : wSet o i v st = some st1) :
    ∃ (p : Addr) (xs : List V) (k : Int) (j : Nat), ov = .ref p ∧ iv = .int k ∧ H p = some (.lst xs) ∧ ixN xs.length k = some j ∧ Grow ρ H ρ (upd H p (.lst (xs.set j vv))) ∧ SR X.K T ρ η st1 (upd H p (.lst (xs.set j vv))) := by
  unfold wSet at e
  split at e
  · rename_i n
    split at e
    · rename_i xs q
      split at e
      · rename_i k
        split at e
        · rename_i j z
          cases e
          obtain ⟨p, e1, e2, vs, e3, e4⟩ := node_at s ro q
          simp only [VR] at ri
          have g : Grow ρ H ρ (upd H p (.lst (vs.set j vv))) := Grow.write (List.mem_of_getElem? e2) (open_of e3 fun _ _ z => nomatch z)
          exact ⟨p, vs, k, j, e1, ri, e3, by rw [e4.len]; exact z, g, s.write (open_of e3 fun _ _ z => nomatch z) e2 ⟨_, upd_same, (e4.set rv j).mono g⟩⟩
        · cases e
      · cases e
    · cases e
  · cases e
def putKW (kvs : List (Key × W)) (k : Key) (v : W) : List (Key × W) :=
  if (kvs.any fun kv => decide (kv.1 = k)) = true then kvs.map fun kv => if kv.1 = k then (kv.1, v) else kv else kvs ++ [(k, v)]
def dropKW (kvs : List (Key × W)) (k : Key) : List (Key × W) := kvs.filter fun kv => decide (kv.1 ≠ k)
/-- a dict's pairs, here and there -/
def KVs (K : PySem.W.Frag) (ρ η : List Addr) (H : Hp) (kvs : List (Key × W)) (kv : List (Key × V)) : Prop := kv.map (·.1) = kvs.map (·.1) ∧ VRs K ρ η H (kvs.map (·.2)) (kv.map (·.2))
theorem KVs.mono {K : PySem.W.Frag} {ρ ρ' η : List Addr} {H H' : Hp} {kvs : List (Key × W)} {kv : List (Key × V)} (g : Grow ρ H ρ' H') (h : KVs K ρ η H kvs kv) : KVs K ρ' η H' kvs kv := ⟨h.1, h.2.mono g⟩
theorem KVs.nil' {K : PySem.W.Frag} {ρ η : List Addr} {H : Hp} {kv : List (Key × V)} (h : KVs K ρ η H [] kv) : kv = [] := by
  have := h.1
  simpa using this
theorem KVs.cons' {K : PySem.W.Frag} {ρ η : List Addr} {H : Hp} {a : Key} {w : W} {kvs : List (Key × W)} {kv : List (Key × V)} (h : KVs K ρ η H ((a, w) :: kvs) kv) : ∃ v r, kv = (a, v) :: r ∧ VR K ρ η H w v ∧ KVs K ρ η H kvs r := by
  obtain ⟨h1, h2⟩ := h
  cases kv with
  | nil => simp at h1
  | cons p r =>
    obtain ⟨b, v⟩ := p
    simp only [List.map_cons, List.cons.injEq] at h1
    rw [List.map_cons, List.map_cons] at h2
    simp only [VRs] at h2
    obtain ⟨v', r', q1, q2, q3⟩ := h2
    simp only [List.cons.injEq] at q1
    obtain ⟨q1, q4⟩ := q1
    refine ⟨v, r, by rw [h1.1], by rw [q1]; exact q2, h1.2, by rw [q4]; exact q3⟩
theorem KVs.mk' {K : PySem.W.Frag} {ρ η : List Addr} {H : Hp} {a : Key} {w : W} {v : V} {kvs : List (Key × W)} {kv : List (Key × V)} (r : VR K ρ η H w v) (h : KVs K ρ η H kvs kv) : KVs K ρ η H ((a, w) :: kvs) ((a, v) :: kv) :=
  ⟨by simp [h.1], by rw [List.map_cons, List.map_cons]; exact VRs.cons r h.2⟩
theorem KVs.append {K : PySem.W.Frag} {ρ η : List Addr} {H : Hp} : ∀ {kvs ks : List (Key × W)} {kv kw : List (Key × V)}, KVs K ρ η H kvs kv → KVs K ρ η H ks kw → KVs K ρ η H (kvs ++ ks) (kv ++ kw)
  | [], ks, kv, kw, h, k => by
    rw [h.nil']
    exact k
  | (a, w) :: kvs, ks, kv, kw, h, k => by
    obtain ⟨v, r, e, h1, h2⟩ := h.cons'
    subst e
    exact KVs.mk' h1 (h2.append k)
theorem KVs.drop {K : PySem.W.Frag} {ρ η : List Addr} {H : Hp} {k : Key} : ∀ {kvs : List (Key × W)} {kv : List (Key × V)}, KVs K ρ η H kvs kv → KVs K ρ η H (dropKW kvs k) (dropK kv k)
  | [], kv, h => by
    rw [h.nil']
    exact ⟨rfl, VRs.nil⟩
  | (a, w) :: kvs, kv, h => by
    obtain ⟨v, r, e, h1, h2⟩ := h.cons'
    subst e
    have ih := KVs.drop (k := k) h2
    unfold dropKW dropK at ih ⊢
    rw [List.filter_cons, List.filter_cons]
    by_cases z : a = k
    · simp only [z, ne_eq, not_true_eq_false, decide_false, Bool.false_eq_true, if_false]
      simp only [ne_eq] at ih
      exact ih
    · simp only [z, ne_eq, not_false_eq_true, decide_true, if_true]
      simp only [ne_eq] at ih
      exact KVs.mk' h1 ih
theorem KVs.any {K : PySem.W.Frag} {ρ η : List Addr} {H : Hp} {k : Key} : ∀ {kvs : List (Key × W)} {kv : List (Key × V)}, KVs K ρ η H kvs kv → (kvs.any fun x => decide (x.1 = k)) = kv.any fun x => decide (x.1 = k)
  | [], kv, h => by rw [h.nil']; rfl
  | (a, w) :: kvs, kv, h => by
    obtain ⟨v, r, e, h1, h2⟩ := h.cons'
    subst e
    rw [List.any_cons, List.any_cons, KVs.any h2]
theorem KVs.upd {K : PySem.W.Frag} {ρ η : List Addr} {H : Hp} {k : Key} {w : W} {v : V} (r : VR K ρ η H w v) : ∀ {kvs : List (Key × W)} {kv : List (Key × V)}, KVs K ρ η H kvs kv → KVs K ρ η H (kvs.map fun x => if x.1 = k then (x.1, w) else x) (kv.map fun x => if x.1 = k then (x.1, v) else x)
  | [], kv, h => by
    rw [h.nil']
    exact ⟨rfl, VRs.nil⟩
  | (a, u) :: kvs, kv, h => by
    obtain ⟨z, r', e, h1, h2⟩ := h.cons'
    subst e
    have ih := KVs.upd (k := k) r h2
    rw [List.map_cons, List.map_cons]
    by_cases q : a = k
    · rw [if_pos q, if_pos q]
      exact KVs.mk' r ih
    · rw [if_neg q, if_neg q]
      exact KVs.mk' h1 ih
theorem KVs.put {K : PySem.W.Frag} {ρ η : List Addr} {H : Hp} {k : Key} {w : W} {v : V} (r : VR K ρ η H w v) {kvs : List (Key × W)} {kv : List (Key × V)} (h : KVs K ρ η H kvs kv) : KVs K ρ η H (putKW kvs k w) (putK kv k v) := by
  unfold putKW putK
  rw [h.any]
  split
  · exact h.upd r
  · exact h.append (KVs.mk' r ⟨rfl, VRs.nil⟩)
theorem KVs.len {K : PySem.W.Frag} {ρ η : List Addr} {H : Hp} {kvs : List (Key × W)} {kv : List (Key × V)} (h : KVs K ρ η H kvs kv) : kv.length = kvs.length := by
  have := congrArg List.length h.1
  simpa using this
/-- o[i] = v of a dict -/
def wPutD (o i v : W) (st : Sto) : Option Sto := match o with
  | .ref n => match st[n]? with
    | some (.dk kvs) => match keyOf i with
      | some k => if kvs.length < sizeLine then some (st.set n (.dk (putKW kvs k v))) else none
      | none => none
    | _ => none
  | _ => none
def wStore (o i v : W) (st : Sto) : Option Sto := match wSet o i v st with
  | some s => some s
  | none => wPutD o i v st
def gSub' (mo mi : M W) : MG := fun w env st => match mo env st with
  | .ok o s1 => match mi env s1 with
    | .ok i s2 => match wStore o i w s2 with
      | some s3 => some (env, s3)
      | none => none
    | _ => none
  | _ => none
theorem wputd_ok {ρ η : List Addr} {H : Hp} {st st1 : Sto} {o i v : W} {ov iv vv : V} (s : SR X.K T ρ η st H) (ro : VR X.K ρ η H o ov) (ri : VR X.K ρ η H i iv) (rv : VR X.K ρ η H v vv) (e : wPutD o i v st = some st1) :
    ∃ (p : Addr) (H1 : Hp), ov = .ref p ∧ DPut H p iv vv H1 ∧ Grow ρ H ρ H1 ∧ SR X.K T ρ η st1 H1 := by
  unfold wPutD at e
  split at e
  · rename_i n
    split at e
    · rename_i kvs q
      split at e
      · rename_i k z
        split at e
        · rename_i lz
          cases e
          obtain ⟨p, e1, e2, kv, e3, e4, e5⟩ := node_at s ro q
          have kk : KVs X.K ρ η H kvs kv := ⟨e4, e5⟩
          have g : Grow ρ H ρ (upd H p (.dK (putK kv k vv))) := Grow.write (List.mem_of_getElem? e2) (open_of e3 fun _ _ z => nomatch z)
          have k2 := (kk.put (k := k) rv).mono g
          rw [key_ok ri z]
          exact ⟨p, _, e1, DPut.k e3 (by rw [kk.len]; exact lz), g, s.write (open_of e3 fun _ _ z => nomatch z) e2 ⟨_, upd_same, k2.1, k2.2⟩⟩
        · cases e
      · cases e
    · cases e
  · cases e
/-- o[i] = .. -/
theorem sg_sub {o i : Expr} {mo mi : M W} (hu : X.A.units + 1 < cLine) (ho : SE X T W0 o mo) (hi : SE X T W0 i mi)
    (ha : ∀ v, assign (.Subscript o i pos) X.env v = (do
      let ov ← holding [v] (eval o X.env)
      let iv ← holding [v, ov] (eval i X.env)
      standAt pos
      holding [v, ov, iv] (setItem ov iv v)
      release [v, ov, iv] []) := by intro _; rfl) : SGt X T (.Subscript o i pos) (gSub' mo mi) := by
  intro ρ η st env σ H w v Q s er r h
  have pset : PSet X (fun o i v H Q => rSetL o i v H Q ∨ rSetD o i v H Q) := fun pins s σ H o i v ov iv u Q I ro ri rv h => h.elim (fun h => set_list pins s σ H o i v ov iv u Q I ro ri rv h) fun h => set_dict hu pins s σ H o i v ov iv u Q I ro ri rv h
  refine ⟨_, pg_sub pe_S pe_S pset ha, ?_⟩
  unfold gSub' at h
  refine ho ρ η st env σ H _ s er ?_
  cases e1 : mo env st with
  | ok ow s1 =>
    rw [e1] at h
    dsimp only at h
    intro ρ1 H1 ov g1 sr1 r1
    refine hi ρ1 η s1 env σ H1 _ sr1 (er.mono g1) ?_
    cases e2 : mi env s1 with
    | ok iw s2 =>
      rw [e2] at h
      intro ρ2 H2 iv g2 sr2 r2
      dsimp only at h
      have rv := (r.mono g1).mono g2
      have ro := r1.mono g2
      have er2 := (er.mono g1).mono g2
      split at h
      · rename_i s3 e3
        unfold wStore at e3
        split at e3
        · rename_i s4 e4
          cases e3
          obtain ⟨p, xs, k, j, f1, f2, f3, f4, f5, f6⟩ := wset_ok sr2 ro r2 rv e4
          exact .inl ⟨p, xs, k, j, f1, f2, f3, f4, h ρ2 _ σ ((g1.trans g2).trans f5) f6 (er2.mono f5)⟩
        · obtain ⟨p, H3, f1, f2, f3, f4⟩ := wputd_ok sr2 ro r2 rv e3
          exact .inr ⟨p, H3, f1, f2, h ρ2 H3 σ ((g1.trans g2).trans f3) f4 (er2.mono f3)⟩
      · exact h.elim
    | ex x s2 => rw [e2] at h; exact h.elim
    | stuck => rw [e2] at h; exact h.elim
  | ex x s1 => rw [e1] at h; exact h.elim
  | stuck => rw [e1] at h; exact h.elim
/-! ### fields -/
end
end Mi
namespace Mi
open PySem PySem.Spec PyProof.Rows L2
abbrev FC := List W → Sto → Rs W
def OkC (K : PySem.W.Frag) (T : Nat → Addr) (f : FC) (r : List V → Hp → VK → Prop) : Prop := ∀ ρ η st H ws vs Q E, SR K T ρ η st H → VRs K ρ η H ws vs → After K T η (fun ρ H => VR K ρ η H) ρ H (f ws st) Q E → r vs H Q
def mFn (f : FC) (m : M (List W)) : M W := fun env st => (m env st).bind f
section
variable {X : Cx} {T : Nat → Addr} {Wx : WX'} {pos p : Pos} {x : Str} {e : Expr} {es : List Expr} {ma : M (List W)} {r : List V → Hp → VK → Prop} {f : FC}
theorem se_blt {id : String} (hr : CallR X (.builtin id) r) (hf : OkC X.K T f r) (hg : Gl X x) (hm : X.mg x = none) (hv : bootBuiltins x = some (.builtin id)) (ha : SA X T Wx (e :: es) ma) (hn : x ≠ "__name__" := by decide) (hdb : (x == ("__debug__" : Str)) = false := by decide)
    (hst : starEach (e :: es) X.env = (false, eval e X.env) :: starEach es X.env := by rfl) (hpl : (backTo pos (starEach es X.env)).any (·.1) = false := by rfl) : SE X T Wx (.Call (.Name x p) (e :: es) [] pos) (mFn f ma) := by
  intro ρ η st env σ H Q s er q
  refine ⟨_, pe_callB hr hg hm hv pa_S hn hdb hst hpl, ?_⟩
  exact ha ρ η st env σ H _ s er (q.bind fun ws s1 ρ1 H1 vs g1 sr1 r1 h1 => hf ρ1 η s1 H1 ws vs Q _ sr1 r1 h1)
theorem se_bty {id : String} (hr : CallR X (.type id) r) (hf : OkC X.K T f r) (hg : Gl X x) (hm : X.mg x = none) (hv : bootBuiltins x = some (.type id)) (ha : SA X T Wx (e :: es) ma) (hn : x ≠ "__name__" := by decide) (hdb : (x == ("__debug__" : Str)) = false := by decide)
    (hst : starEach (e :: es) X.env = (false, eval e X.env) :: starEach es X.env := by rfl) (hpl : (backTo pos (starEach es X.env)).any (·.1) = false := by rfl) : SE X T Wx (.Call (.Name x p) (e :: es) [] pos) (mFn f ma) := by
  intro ρ η st env σ H Q s er q
  refine ⟨_, pe_callTy hr hg hm hv pa_S hn hdb hst hpl, ?_⟩
  exact ha ρ η st env σ H _ s er (q.bind fun ws s1 ρ1 H1 vs g1 sr1 r1 h1 => hf ρ1 η s1 H1 ws vs Q _ sr1 r1 h1)
end
/-! ### by values -/
def fLen : FC := fun ws st => match ws with
  | [w] => match seqL st w with
    | some xs => .ok (.int xs.length) st
    | none => match w with
      | .tup xs => .ok (.int xs.length) st
      | .str z => if z.length ≤ sizeLine then .ok (.int z.length) st else .stuck
      | .ref i => match st[i]? with
        | some (.dk kvs) => .ok (.int kvs.length) st
        | _ => .stuck
      | _ => .stuck
  | _ => .stuck
def fAbs : FC := fun ws st => match ws with
  | [.int i] => .ok (.int (if i < 0 then -i else i)) st
  | _ => .stuck
def fInt : FC := fun ws st => match ws with
  | [.int i] => .ok (.int i) st
  | [.bl k] => .ok (.int (if k = true then 1 else 0)) st
  | _ => .stuck
def fList (fz : Bool) : FC := fun ws st => match ws with
  | [w] => match seqL st w with
    | some xs => newL fz xs st
    | none => match w with
      | .tup xs => newL fz xs st
      | _ => .stuck
  | _ => .stuck
def fTuple : FC := fun ws st => match ws with
  | [w] => match seqL st w with
    | some xs => .ok (.tup xs) st
    | none => match w with
      | .tup xs => .ok (.tup xs) st
      | _ => .stuck
  | _ => .stuck
/-- the name of a built-in value's type -/
def tyOf (st : Sto) : W → Option String
  | .non => some "NoneType"
  | .bl _ => some "bool"
  | .int _ => some "int"
  | .str _ => some "str"
  | .tup _ => some "tuple"
  | .lst _ => some "list"
  | .ref i => match st[i]? with
    | some (.lst _) => some "list"
    | some (.dk _) => some "dict"
    | some (.lk _) => some "dict"
    | _ => none
  | _ => none
/-- isinstance for built-in types; own: for an own class's instance -/
def fIsi (own : Nat → String → Option Bool) : FC := fun ws st => match ws with
  | [w, .ty n] => match tyOf st w with
    | some t => match kitB t n with
      | some b => .ok (.bl b) st
      | none => .stuck
    | none => match w with
      | .ref i => match st[i]? with
        | some (.ins c _) => match own c n with
          | some b => .ok (.bl b) st
          | none => .stuck
        | _ => .stuck
      | _ => .stuck
  | _ => .stuck
def blsOf : List W → Option (List Bool)
  | [] => some []
  | .bl b :: r => (blsOf r).map (b :: ·)
  | _ => none
def fAll : FC := fun ws st => match ws with
  | [w] => match seqL st w with
    | some xs => match blsOf xs with
      | some bs => .ok (.bl (bs.all id)) st
      | none => .stuck
    | none => .stuck
  | _ => .stuck
def fAny : FC := fun ws st => match ws with
  | [w] => match seqL st w with
    | some xs => match blsOf xs with
      | some bs => .ok (.bl (bs.any id)) st
      | none => .stuck
    | none => .stuck
  | _ => .stuck
def intsOf : List W → Option (List Int)
  | [] => some []
  | .int b :: r => (intsOf r).map (b :: ·)
  | _ => none
def sortZ (ns : List Int) : List Int := ns.mergeSort fun a b => decide (a ≤ b)
def fSorted (fz : Bool) : FC := fun ws st => match ws with
  | [w] => match seqL st w with
    | some xs => match intsOf xs with
      | some ns => newL fz ((sortZ ns).map W.int) st
      | none => .stuck
    | none => match dkOf st w with
      | some kvs => match intsOf (kvs.map fun p => match p.1 with | .inl i => W.int i | .inr x => W.str x) with
        | some ns => if ns.length < 64 then newL fz ((sortZ ns).map W.int) st else .stuck
        | none => .stuck
      | none => .stuck
  | _ => .stuck
section
variable {K : PySem.W.Frag} {T : Nat → Addr} {ρ η : List Addr} {H : Hp} {st : Sto}
theorem vrs1 {w : W} {vs : List V} (h : VRs K ρ η H [w] vs) : ∃ v, vs = [v] ∧ VR K ρ η H w v := by
  simp only [VRs] at h
  obtain ⟨v, r, e, h1, h2⟩ := h
  subst h2
  exact ⟨v, e, h1⟩
theorem vrs2 {w u : W} {vs : List V} (h : VRs K ρ η H [w, u] vs) : ∃ v z, vs = [v, z] ∧ VR K ρ η H w v ∧ VR K ρ η H u z := by
  simp only [VRs] at h
  obtain ⟨v, r, e, h1, v2, r2, e2, h2, h3⟩ := h
  subst h3; subst e2
  exact ⟨v, v2, e, h1, h2⟩
theorem okc_len : OkC K T fLen (fun xs H Q => (∃ x n, xs = [x] ∧ LenV K x H n ∧ Q (.int (n : Nat)) H) ∨ ∃ a kvs, xs = [V.ref a] ∧ H a = some (.dK kvs) ∧ Q (.int (kvs.length : Nat)) H) := by
  intro ρ η st H ws vs Q E s r h
  unfold fLen at h
  split at h
  · rename_i w
    obtain ⟨v, e, rr⟩ := vrs1 r
    clear r
    have r := rr
    clear rr
    subst e
    split at h
    · rename_i xs q
      obtain ⟨a, us, e1, e2, e3⟩ := seq_ok s r q
      subst e1
      exact .inl ⟨_, xs.length, rfl, .inl ⟨us, e2, e3.len.symm⟩, h.ok s (by simp only [VR])⟩
    · split at h
      · rename_i xs q
        obtain ⟨a, us, e1, e2, e3⟩ := tup_ok r (show tupL (.tup xs) = some xs from rfl)
        subst e1
        exact .inl ⟨_, xs.length, rfl, .inr ⟨us, e2, e3.len.symm⟩, h.ok s (by simp only [VR])⟩
      · rename_i z q
        split at h
        · rename_i lz
          simp only [VR] at r
          subst r
          exact .inl ⟨_, z.length, rfl, ⟨lz, rfl⟩, h.ok s (by simp only [VR])⟩
        · exact h.elim
      · rename_i i q
        split at h
        · rename_i kvs e
          obtain ⟨a, e1, _, kv, e2, e3, e4⟩ := node_at s r e
          subst e1
          have l := congrArg List.length e3
          simp only [List.length_map] at l
          refine .inr ⟨a, kv, rfl, e2, ?_⟩
          rw [l]
          exact h.ok s (by simp only [VR])
        · exact h.elim
      · exact h.elim
  · exact h.elim
theorem okc_abs : OkC K T fAbs (fun xs H Q => ∃ i, xs = [.int i] ∧ Q (.int (if i < 0 then -i else i)) H) := by
  intro ρ η st H ws vs Q E s r h
  unfold fAbs at h
  split at h
  · obtain ⟨v, e, rr⟩ := vrs1 r
    clear r
    have r := rr
    clear rr
    simp only [VR] at r
    subst r
    exact ⟨_, e, h.ok s (by simp only [VR])⟩
  · exact h.elim
theorem okc_int : OkC K T fInt (fun xs H Q => (∃ i, xs = [.int i] ∧ Q (.int i) H) ∨ ∃ k, xs = [.bl k] ∧ Q (.int (if k then 1 else 0)) H) := by
  intro ρ η st H ws vs Q E s r h
  unfold fInt at h
  split at h
  · obtain ⟨v, e, rr⟩ := vrs1 r
    clear r
    have r := rr
    clear rr
    simp only [VR] at r
    subst r
    exact .inl ⟨_, e, h.ok s (by simp only [VR])⟩
  · obtain ⟨v, e, rr⟩ := vrs1 r
    clear r
    have r := rr
    clear rr
    simp only [VR] at r
    subst r
    exact .inr ⟨_, e, h.ok s (by simp only [VR])⟩
  · exact h.elim
theorem okc_list {fz : Bool} : OkC K T (fList fz) (fun xs H Q => ∃ p ys, xs = [.ref p] ∧ (SqL K H p ys ∨ SqT K H p ys) ∧ ∀ l, H l = none → Q (.ref l) (upd H l (.lst ys))) := by
  intro ρ η st H ws vs Q E s r h
  unfold fList at h
  split at h
  · rename_i w
    obtain ⟨v, e, rr⟩ := vrs1 r
    clear r
    have r := rr
    clear rr
    subst e
    split at h
    · rename_i xs q
      obtain ⟨a, us, e1, e2, e3⟩ := seq_ok s r q
      subst e1
      exact ⟨a, us, rfl, .inl e2, fun l hl => newL_ok h s e3 hl⟩
    · split at h
      · rename_i xs q
        obtain ⟨a, us, e1, e2, e3⟩ := tup_ok r (show tupL (.tup xs) = some xs from rfl)
        subst e1
        exact ⟨a, us, rfl, .inr e2, fun l hl => newL_ok h s e3 hl⟩
      · exact h.elim
  · exact h.elim
theorem okc_tuple : OkC K T fTuple (fun xs H Q => ∃ p ys, xs = [.ref p] ∧ ((SqL K H p ys ∧ ∀ l, H l = none → Q (.ref l) (upd H l (.tup ys))) ∨ (SqT K H p ys ∧ Q (.ref p) H))) := by
  intro ρ η st H ws vs Q E s r h
  unfold fTuple at h
  split at h
  · rename_i w
    obtain ⟨v, e, rr⟩ := vrs1 r
    clear r
    have r := rr
    clear rr
    subst e
    split at h
    · rename_i xs q
      obtain ⟨a, us, e1, e2, e3⟩ := seq_ok s r q
      subst e1
      exact ⟨a, us, rfl, .inl ⟨e2, fun l hl => newT_ok h s e3 hl⟩⟩
    · split at h
      · rename_i xs q
        obtain ⟨a, us, e1, e2, e3⟩ := tup_ok r (show tupL (.tup xs) = some xs from rfl)
        subst e1
        exact ⟨a, us, rfl, .inr ⟨e2, h.ok s r⟩⟩
      · exact h.elim
  · exact h.elim
theorem ty_ok {w : W} {v : V} {t : String} (s : SR K T ρ η st H) (r : VR K ρ η H w v) (e : tyOf st w = some t) : TyX K H v (.type t) := by
  cases w with
  | non => simp only [VR] at r; subst r; simp only [tyOf, Option.some.injEq] at e; subst e; exact .base .non
  | bl b => simp only [VR] at r; subst r; simp only [tyOf, Option.some.injEq] at e; subst e; exact .base (.bl b)
  | int b => simp only [VR] at r; subst r; simp only [tyOf, Option.some.injEq] at e; subst e; exact .base (.int b)
  | str b => simp only [VR] at r; subst r; simp only [tyOf, Option.some.injEq] at e; subst e; exact .base (.str b)
  | ty n => simp [tyOf] at e
  | at_ n => simp [tyOf] at e
  | scr n => simp [tyOf] at e
  | tup xs =>
    simp only [tyOf, Option.some.injEq] at e
    subst e
    simp only [VR] at r
    obtain ⟨a, vs, e1, e2, e3⟩ := r
    subst e1
    rcases e2 with ⟨_, _, h⟩ | ⟨o, its, n, h1, h2, _⟩
    · rcases h with h | ⟨o, h⟩
      · exact .base (.tup h)
      · exact .fTuple h
    · exact .kTuple h1 h2
  | lst xs =>
    simp only [tyOf, Option.some.injEq] at e
    subst e
    simp only [VR] at r
    obtain ⟨a, vs, e1, e2, e3⟩ := r
    subst e1
    exact .base (.lst e2.2.2)
  | ref i =>
    simp only [tyOf] at e
    split at e
    · rename_i xs q
      cases e
      obtain ⟨a, e1, _, vs, e2, _⟩ := node_at s r q
      subst e1
      exact .base (.lst e2)
    · rename_i xs q
      cases e
      obtain ⟨a, e1, _, vs, e2, _⟩ := node_at s r q
      subst e1
      exact .base (.dK e2)
    · rename_i xs q
      cases e
      obtain ⟨a, e1, _, od, vs, e2, _⟩ := node_at s r q
      subst e1
      exact .fDict e2
    · cases e
/-- what isinstance asks of an own class's instance -/
structure IsiOwn (K : PySem.W.Frag) (C : Addr) : Prop where
  cl : Cls K C
  ha : PySem.W.findIn K (.ref C) "__class__" = some (some (.builtin "object.__class__"))
  hn : PySem.W.specialIn K (.builtin "object.__class__") "__get__" = some (some (.builtin "getset_descriptor.__get__"))
  htk : PySem.W.takesIn K (.builtin "object.__class__") = some true
  hm : PySem.W.mroIn K C (.type "object") = some true
theorem okc_isi {own : Nat → String → Option Bool} (ho : ∀ c n b, own c n = some b → IsiOwn K (T c) ∧ PySem.W.kitOne K (.ref (T c)) (.type n) = some b) : OkC K T (fIsi own) (rIsi K) := by
  intro ρ η st H ws vs Q E s r h
  unfold fIsi at h
  split at h
  · rename_i w n
    obtain ⟨v, z, e, r1, r2⟩ := vrs2 r
    simp only [VR] at r2
    subst r2
    split at h
    · rename_i t q
      split at h
      · rename_i b q2
        exact ⟨v, .ty n, .type t, .type n, b, e, .ty n, ty_ok s r1 q, kit_ty q2, h.ok s (by simp only [VR])⟩
      · exact h.elim
    · split at h
      · rename_i i q
        split at h
        · rename_i c fs q2
          split at h
          · rename_i b q3
            obtain ⟨o1, o2⟩ := ho c n b q3
            obtain ⟨a, e1, _, dx, fv, e2, _⟩ := node_at s r1 q2
            subst e1
            exact ⟨_, .ty n, .ref (T c), .type n, b, e, .ty n, .base (.ins e2 o1.cl o1.ha o1.hn o1.htk o1.hm), o2, h.ok s (by simp only [VR])⟩
          · exact h.elim
        · exact h.elim
      · exact h.elim
  · exact h.elim
theorem bls_ok : ∀ {ws : List W} {vs : List V} {bs : List Bool}, VRs K ρ η H ws vs → blsOf ws = some bs → vs = bs.map V.bl
  | [], vs, bs, r, e => by
    simp only [VRs] at r
    simp only [blsOf, Option.some.injEq] at e
    subst r; subst e; rfl
  | .bl b :: ws, vs, bs, r, e => by
    simp only [VRs, VR] at r
    obtain ⟨v, rr, e1, e2, e3⟩ := r
    simp only [blsOf, Option.map_eq_some_iff] at e
    obtain ⟨cs, e4, e5⟩ := e
    subst e1; subst e2; subst e5
    rw [bls_ok e3 e4, List.map_cons]
  | .non :: ws, vs, bs, r, e => by simp [blsOf] at e
  | .int _ :: ws, vs, bs, r, e => by simp [blsOf] at e
  | .str _ :: ws, vs, bs, r, e => by simp [blsOf] at e
  | .ty _ :: ws, vs, bs, r, e => by simp [blsOf] at e
  | .tup _ :: ws, vs, bs, r, e => by simp [blsOf] at e
  | .lst _ :: ws, vs, bs, r, e => by simp [blsOf] at e
  | .scr _ :: ws, vs, bs, r, e => by simp [blsOf] at e
  | .ref _ :: ws, vs, bs, r, e => by simp [blsOf] at e
  | .at_ _ :: ws, vs, bs, r, e => by simp [blsOf] at e
theorem ints_ok : ∀ {ws : List W} {vs : List V} {bs : List Int}, VRs K ρ η H ws vs → intsOf ws = some bs → vs = bs.map V.int
  | [], vs, bs, r, e => by
    simp only [VRs] at r
    simp only [intsOf, Option.some.injEq] at e
    subst r; subst e; rfl
  | .int b :: ws, vs, bs, r, e => by
    simp only [VRs, VR] at r
    obtain ⟨v, rr, e1, e2, e3⟩ := r
    simp only [intsOf, Option.map_eq_some_iff] at e
    obtain ⟨cs, e4, e5⟩ := e
    subst e1; subst e2; subst e5
    rw [ints_ok e3 e4, List.map_cons]
  | .non :: ws, vs, bs, r, e => by simp [intsOf] at e
  | .bl _ :: ws, vs, bs, r, e => by simp [intsOf] at e
  | .str _ :: ws, vs, bs, r, e => by simp [intsOf] at e
  | .ty _ :: ws, vs, bs, r, e => by simp [intsOf] at e
  | .tup _ :: ws, vs, bs, r, e => by simp [intsOf] at e
  | .lst _ :: ws, vs, bs, r, e => by simp [intsOf] at e
  | .scr _ :: ws, vs, bs, r, e => by simp [intsOf] at e
  | .ref _ :: ws, vs, bs, r, e => by simp [intsOf] at e
  | .at_ _ :: ws, vs, bs, r, e => by simp [intsOf] at e
theorem okc_all : OkC K T fAll (rAll K) := by
  intro ρ η st H ws vs Q E s r h
  unfold fAll at h
  split at h
  · rename_i w
    obtain ⟨v, e, rr⟩ := vrs1 r
    clear r
    have r := rr
    clear rr
    subst e
    split at h
    · rename_i xs q
      obtain ⟨a, us, e1, e2, e3⟩ := seq_ok s r q
      split at h
      · rename_i bs q2
        have := bls_ok e3 q2
        subst us; subst e1
        exact ⟨a, bs, rfl, e2, h.ok s (by simp only [VR])⟩
      · exact h.elim
    · exact h.elim
  · exact h.elim
theorem sortZ_of {ns ms : List Int} (p : ms.Perm ns) (q : ms.Pairwise (· ≤ ·)) : ms = sortZ ns := by
  have p2 : (sortZ ns).Perm ns := List.mergeSort_perm ns _
  have q2 : (sortZ ns).Pairwise (· ≤ ·) := by
    have := List.pairwise_mergeSort (le := fun a b : Int => decide (a ≤ b)) (by intro a b c; simp; omega) (by intro a b; simp; omega) ns
    exact this.imp (by intro a b; simp)
  exact (p.trans p2.symm).eq_of_pairwise (fun a b _ _ h1 h2 => Int.le_antisymm h1 h2) q q2
theorem vints {ns : List Int} : VRs K ρ η H (ns.map W.int) (ns.map V.int) := by
  refine VRs.of_get (by simp) fun i x v e1 e2 => ?_
  rw [List.getElem?_map] at e1 e2
  cases q : ns[i]? with
  | none => rw [q] at e1; cases e1
  | some n =>
    rw [q] at e1 e2
    cases e1; cases e2
    simp only [VR]
def rSortDI : List V → Hp → VK → Prop := fun xs H Q => ∃ (a : Addr) (kvs : List (Key × V)) (ks : List Int), xs = [.ref a] ∧ Rd H a (.dK kvs) ∧ kvs.map (·.1) = ks.map Sum.inl ∧ ks.length < 64 ∧ ∀ (ys : List Int) (p : Addr), ys.Perm ks → ys.Pairwise (· ≤ ·) → H p = none → Q (.ref p) (upd H p (.lst (ys.map V.int)))
theorem okc_sorted {fz : Bool} : OkC K T (fSorted fz) (fun xs H Q => rSortedI K xs H Q ∨ rSortDI xs H Q) := by
  intro ρ η st H ws vs Q E s r h
  unfold fSorted at h
  split at h
  · rename_i w
    obtain ⟨v, e, rr⟩ := vrs1 r
    clear r
    have r := rr
    clear rr
    subst e
    split at h
    · rename_i xs q
      obtain ⟨a, us, e1, e2, e3⟩ := seq_ok s r q
      split at h
      · rename_i ns q2
        have := ints_ok e3 q2
        subst us; subst e1
        refine .inl ⟨a, ns, rfl, e2, fun ns' p p1 p2 hp => ?_⟩
        rw [sortZ_of p1 p2]
        exact newL_ok h s vints hp
      · exact h.elim
    · split at h
      · rename_i kvs q
        split at h
        · rename_i ns q2
          split at h
          · rename_i lz
            have hs : ∀ {st : Sto} {w : W} {v : V} {kvs : List (Key × W)}, SR K T ρ η st H → VR K ρ η H w v → dkOf st w = some kvs → ∃ a kv, v = .ref a ∧ Rd H a (.dK kv) ∧ kv.map (·.1) = kvs.map (·.1) := by
              intro st w v kvs s r e
              cases w with
              | ref i =>
                simp only [dkOf] at e
                split at e
                · rename_i ks q
                  cases e
                  obtain ⟨a, h1, _, kv, h2, h3, h4⟩ := node_at s r q
                  exact ⟨a, kv, h1, .inl h2, h3⟩
                · rename_i ks q
                  cases e
                  obtain ⟨a, h1, _, od, kv, h2, h3, h4⟩ := node_at s r q
                  exact ⟨a, kv, h1, .inr ⟨od, h2⟩, h3⟩
                · cases e
              | _ => simp [dkOf] at e
            obtain ⟨a, kv, e1, e2, e3⟩ := hs s r q
            have ks : ∀ {kvs : List (Key × W)} {ns : List Int}, intsOf (kvs.map fun p => match p.1 with | .inl i => W.int i | .inr x => W.str x) = some ns → kvs.map (·.1) = ns.map Sum.inl := by
              intro kvs
              induction kvs with
              | nil => intro ns e; simp [intsOf] at e; subst e; rfl
              | cons p kvs ih =>
                intro ns e
                obtain ⟨k, w⟩ := p
                cases k with
                | inl i =>
                  simp only [List.map_cons, intsOf, Option.map_eq_some_iff] at e
                  obtain ⟨ms, e1, e2⟩ := e
                  subst e2
                  rw [List.map_cons, ih e1, List.map_cons]
                | inr x => simp [intsOf] at e
            subst e1
            refine .inr ⟨a, kv, ns, rfl, e2, by rw [e3]; exact ks q2, lz, fun ys p p1 p2 hp => ?_⟩
            rw [sortZ_of p1 p2]
            exact newL_ok h s vints hp
          · exact h.elim
        · exact h.elim
      · exact h.elim
  · exact h.elim
end
end Mi
namespace Mi
open PySem PySem.Spec PyProof.Rows L2
section
variable {X : Cx} {T : Nat → Addr} {Wx : WX'} {pos : Pos}
/-! ### a method of a list -/
abbrev FM := W → List W → Sto → Rs W
def OkM (K : PySem.W.Frag) (T : Nat → Addr) (f : FM) (r : V → List V → Hp → VK → Prop) : Prop := ∀ ρ η st H o ws x vs Q E, SR K T ρ η st H → VR K ρ η H o x → VRs K ρ η H ws vs → After K T η (fun ρ H => VR K ρ η H) ρ H (f o ws st) Q E → r x vs H Q
def mLm (f : FM) (mo : M W) (ma : M (List W)) : M W := fun env st => (mo env st).bind fun o s1 => if (seqL s1 o).isSome = true then (ma env s1).bind fun ws s2 => f o ws s2 else .stuck
theorem se_lm {id : String} {name : Str} {o e : Expr} {es : List Expr} {mo : M W} {ma : M (List W)} {f : FM} {r : V → List V → Hp → VK → Prop} {apos : Pos} (slot : Slot "list" name id) (hty : typeOf (.builtin id) = pure (.type "method_descriptor")) (hm : MtR X id r) (hf : OkM X.K T f r)
    (ho : SE X T Wx o mo) (ha : SA X T Wx (e :: es) ma)
    (hbase : attributeBase o name X.env (eval o X.env) = eval o X.env := by rfl)
    (hfew : ((backTo pos (starEach (e :: es) X.env)).all (fun x => !x.1) && (backToKw pos (keywordEach [] X.env)).all (fun x => x.1.isSome)
      && decide ((e :: es).length + ([] : List Keyword).length + (if ([] : List Keyword).isEmpty then 0 else 1) < 30)) = true := by rfl)
    (hline : (apos.endLine == pos.line) = true := by rfl) (hs : starEach (e :: es) X.env = (false, eval e X.env) :: starEach es X.env := by rfl) (hplain : (backTo pos (starEach es X.env)).any (·.1) = false := by rfl) :
    SE X T Wx (.Call (.Attribute o name apos) (e :: es) [] pos) (mLm f mo ma) := by
  intro ρ η st env σ H Q s er q
  refine ⟨_, pe_bm PySem.F.plainAttrs_list slot hty hm pe_S pa_S hbase hfew hline hs hplain, ?_⟩
  refine ho ρ η st env σ H _ s er (q.bind fun w s1 ρ1 H1 v g1 sr1 r1 h1 => ?_)
  split at h1
  · rename_i z
    obtain ⟨xs, z⟩ := Option.isSome_iff_exists.mp z
    obtain ⟨a, vs, e1, e2, e3⟩ := seq_ok sr1 r1 z
    subst e1
    refine ⟨.inl ⟨rfl, vs, e2⟩, ?_⟩
    exact ha ρ1 η s1 env σ H1 _ sr1 (er.mono g1) (h1.bind fun ws s2 ρ2 H2 us g2 sr2 r2 h2 => hf ρ2 η s2 H2 w ws _ us Q _ sr2 (r1.mono g2) r2 h2)
  · exact h1.elim
end
/-- a place's list -/
def nodL (st : Sto) : W → Option (Nat × List W)
  | .ref i => match st[i]? with
    | some (.lst xs) => some (i, xs)
    | _ => none
  | _ => none
def fAppend : FM := fun o ws st => match nodL st o, ws with
  | some (i, xs), [w] => if xs.length < sizeLine then .ok .non (st.set i (.lst (xs ++ [w]))) else .stuck
  | _, _ => .stuck
section
variable {K : PySem.W.Frag} {T : Nat → Addr} {ρ η : List Addr} {H : Hp} {st : Sto}
theorem nodl_ok {w : W} {v : V} {i : Nat} {xs : List W} (s : SR K T ρ η st H) (h : VR K ρ η H w v) (e : nodL st w = some (i, xs)) : ∃ a vs, v = .ref a ∧ ρ[i]? = some a ∧ H a = some (.lst vs) ∧ VRs K ρ η H xs vs := by
  cases w with
  | ref j =>
    simp only [nodL] at e
    split at e
    · rename_i ys q
      cases e
      obtain ⟨a, h1, h0, vs, h2, h3⟩ := node_at s h q
      exact ⟨a, vs, h1, h0, h2, h3⟩
    · cases e
  | _ => simp [nodL] at e
/-- a place's list becomes another one -/
theorem lst_put {i : Nat} {a : Addr} {vs us : List V} {ys : List W} {w : W} {v : V} {Q : V → Hp → Prop} {E : Value → Option Addr → Hp → Prop} (s : SR K T ρ η st H) (q : ρ[i]? = some a) (e : H a = some (.lst vs)) (r : VRs K ρ η H ys us) (rw : VR K ρ η H w v)
    (h : After K T η (fun ρ H => VR K ρ η H) ρ H (.ok w (st.set i (.lst ys))) Q E) : Q v (upd H a (.lst us)) := by
  have op : Open H a := open_of e fun _ _ z => nomatch z
  have g : Grow ρ H ρ (upd H a (.lst us)) := Grow.write (List.mem_of_getElem? q) op
  exact h ρ _ v g (s.write op q ⟨us, upd_same, r.mono g⟩) (rw.mono g)
theorem vr_non : VR K ρ η H .non .non := by simp only [VR]
theorem okm_append : OkM K T fAppend rAppend := by
  intro ρ η st H o ws x vs Q E s ro r h
  unfold fAppend at h
  split at h
  · rename_i i xs w q
    obtain ⟨a, us, e1, e2, e3, e4⟩ := nodl_ok s ro q
    obtain ⟨v, e5, r1⟩ := vrs1 r
    split at h
    · rename_i lz
      exact ⟨a, us, v, e1, e5, e3, by rw [e4.len]; exact lz, lst_put s e2 e3 (e4.append (VRs.cons r1 VRs.nil)) vr_non h⟩
    · exact h.elim
  · exact h.elim
end
/-! ### dicts -/
section
variable {X : Cx} {T : Nat → Addr} {Wx : WX'} {pos apos : Pos}
/-! ### op= -/
end
end Mi
namespace Mi
open PySem PySem.Spec PyProof.Rows L2
/-! ### a dict that is walked -/
section
variable {K : PySem.W.Frag} {T : Nat → Addr} {ρ ρ' η : List Addr} {H H' : Hp} {st st' : Sto}
end
section
variable {X : Cx} {T : Nat → Addr} {Wx : WX'} {pos : Pos}
theorem KVs.get {K : PySem.W.Frag} {ρ η : List Addr} {H : Hp} : ∀ {kvs : List (Key × W)} {kv : List (Key × V)} {i : Nat} {k : Key} {w : W}, KVs K ρ η H kvs kv → kvs[i]? = some (k, w) → ∃ v, kv[i]? = some (k, v) ∧ VR K ρ η H w v
  | [], kv, i, k, w, h, e => by simp at e
  | (a, u) :: kvs, kv, i, k, w, h, e => by
    obtain ⟨v, r, e1, h1, h2⟩ := h.cons'
    subst e1
    cases i with
    | zero =>
      simp at e
      obtain ⟨e2, e3⟩ := e
      subst e2; subst e3
      exact ⟨v, rfl, h1⟩
    | succ i =>
      obtain ⟨v', e2, e3⟩ := KVs.get h2 (by simpa using e)
      exact ⟨v', by simpa using e2, e3⟩
theorem KVs.more {K : PySem.W.Frag} {ρ ρ' η η' : List Addr} {H H' : Hp} {kvs : List (Key × W)} {kv : List (Key × V)} (g : Grow ρ H ρ' H') (k : Hid η H η') (h : KVs K ρ η H kvs kv) : KVs K ρ' η' H' kvs kv := ⟨h.1, h.2.more g k⟩
/-! ### enumerate, zip -/
def enumW (s : Src) : Src := ⟨s.fuel, fun i st => match s.at_ i st with
  | some (some w) => some (some (.tup [.int i, w]))
  | some none => some none
  | none => none⟩
def srcOf (st : Sto) : W → Option Src
  | .lst xs => some (fixS xs)
  | .scr xs => some (fixS xs)
  | .ref n => match st[n]? with
    | some (.lst xs) => some (nodS n xs.length)
    | _ => none
  | _ => none
/-- a list to be read at each turn -/
theorem srcOf_ok {ρ η : List Addr} {H : Hp} {st : Sto} {w : W} {v : V} {src : Src} (s : SR X.K T ρ η st H) (r : VR X.K ρ η H w v) (e : srcOf st w = some src) :
    ∃ a vs, v = .ref a ∧ SqL X.K H a vs ∧ ∀ η', Hid η H η' → ∀ (i : Nat) (ρ' : List Addr) (H' : Hp) (st' : Sto), Grow ρ H ρ' H' → SR X.K T ρ' η' st' H' → match src.at_ i st' with
      | some (some w) => ∃ vs v, SqL X.K H' a vs ∧ vs[i]? = some v ∧ VR X.K ρ' η' H' w v
      | some none => ∃ vs, SqL X.K H' a vs ∧ vs.length ≤ i
      | none => True := by
  have fx : ∀ {a : Addr} {xs : List W} {vs : List V}, (∀ ρ' H', Grow ρ H ρ' H' → SqL X.K H' a vs) → VRs X.K ρ η H xs vs → ∀ η', Hid η H η' → ∀ (i : Nat) (ρ' : List Addr) (H' : Hp) (st' : Sto), Grow ρ H ρ' H' → SR X.K T ρ' η' st' H' → match (fixS xs).at_ i st' with
      | some (some w) => ∃ vs v, SqL X.K H' a vs ∧ vs[i]? = some v ∧ VR X.K ρ' η' H' w v
      | some none => ∃ vs, SqL X.K H' a vs ∧ vs.length ≤ i
      | none => True := by
    intro a xs vs hl r η' k i ρ' H' st' g sr
    show match some xs[i]? with | some (some w) => _ | some none => _ | none => _
    cases e : xs[i]? with
    | none => exact ⟨vs, hl _ _ g, by rw [r.len]; exact List.getElem?_eq_none_iff.mp e⟩
    | some w =>
      obtain ⟨v, e1, e2⟩ := r.get e
      exact ⟨vs, v, hl _ _ g, e1, e2.more g k⟩
  cases w with
  | lst xs =>
    simp only [srcOf, Option.some.injEq] at e
    subst e
    simp only [VR] at r
    obtain ⟨a, vs, e1, e2, e3⟩ := r
    exact ⟨a, vs, e1, SqL.of e2.2.2, fx (lst_at e2) e3⟩
  | scr xs =>
    simp only [srcOf, Option.some.injEq] at e
    subst e
    simp only [VR] at r
    obtain ⟨a, vs, e1, e2, e3⟩ := r
    exact ⟨a, vs, e1, e2.sq, fx (fun ρ' H' g => (e2.mono g).sq) e3⟩
  | ref n =>
    simp only [srcOf] at e
    split at e
    · rename_i xs q
      cases e
      obtain ⟨a, e1, e2, vs, e3, e4⟩ := node_at s r q
      refine ⟨a, vs, e1, SqL.of e3, fun η' k i ρ' H' st' g sr => ?_⟩
      show match (match st'[n]? with | some (.lst xs) => some xs[i]? | _ => none) with | some (some w) => _ | some none => _ | none => True
      cases e : st'[n]? with
      | none => trivial
      | some nd =>
        have q := sr.at_ n nd a e (g.at e2)
        cases nd with
        | lst xs =>
          obtain ⟨vs, q1, q2⟩ := q
          dsimp only
          cases e2 : xs[i]? with
          | none => exact ⟨vs, SqL.of q1, by rw [q2.len]; exact List.getElem?_eq_none_iff.mp e2⟩
          | some w =>
            obtain ⟨v, e3, e4⟩ := q2.get e2
            exact ⟨vs, v, SqL.of q1, e3, e4⟩
        | _ => trivial
    · cases e
  | _ => simp [srcOf] at e
def iE (m : M (List W)) : MI := fun env st => (m env st).bind fun ws s => match ws with
  | [w] => match srcOf s w with
    | some src => .ok (enumW src) s
    | none => .stuck
  | _ => .stuck
theorem si_enum {e : Expr} {m : M (List W)} {p pos tpos : Pos} {elts : List Expr} {kk : Nat} (hg : Gl X "enumerate") (hm : X.mg "enumerate" = none) (h : SA X T Wx [e] m) (hs : starEach [e] X.env = [(false, eval e X.env)] := by rfl) :
    SI X T Wx (.Tuple elts kk tpos) (.Call (.Name "enumerate" p) [e] [] pos) (iE m) := by
  intro ρ η st env σ H Q s er q
  refine ⟨_, pi_enum hg hm pa_S hs, ?_⟩
  refine h ρ η st env σ H _ s er (q.bind fun ws s1 ρ1 H1 vs g1 sr1 r1 h1 => ?_)
  split at h1
  · rename_i w
    obtain ⟨v, e1, r2⟩ := vrs1 r1
    split at h1
    · rename_i src e2
      obtain ⟨a, us, e3, e4, e5⟩ := srcOf_ok sr1 r2 e2
      subst e3
      refine ⟨a, us, e1, e4, h1.ok sr1 ?_⟩
      intro η' k i ρ' H' st' g sr
      have z := e5 η' k i ρ' H' st' g sr
      unfold enumW
      dsimp only
      split at z
      · rename_i w' e6
        obtain ⟨vs', v', z1, z2, z3⟩ := z
        refine ⟨⟨vs', v', z1, z2⟩, fun x H2 y => ?_⟩
        obtain ⟨TT, x', y1, y2, y3, y4⟩ := y
        subst y1; subst y3
        have := y4 vs' z1
        rw [z2] at this
        cases this
        refine ⟨Grow.new y2, sr.new' y2, ?_⟩
        simp only [VR]
        exact ⟨TT, _, rfl, .inl ⟨sr.fresh y2, sr.freshH y2, .inl upd_same⟩, VRs.cons (by simp only [VR]) (VRs.cons (z3.mono (Grow.new y2)) VRs.nil)⟩
      · exact z
      · trivial
    · exact h1.elim
  · exact h1.elim
end
end Mi
namespace Mi
open PySem PySem.Spec PyProof.Rows L2
/-! ### dicts made of dicts, of pairs -/
def mergeKW (kvs more : List (Key × W)) : List (Key × W) := more.foldl (fun acc kv => putKW acc kv.1 kv.2) kvs
def pairsW : List W → Option (List (Key × W))
  | [] => some []
  | .tup [k, w] :: r => match keyOf k, pairsW r with
    | some k, some ps => some ((k, w) :: ps)
    | _, _ => none
  | _ => none
def newD (kvs : List (Key × W)) (st : Sto) : Rs W := .ok (.ref st.length) (st ++ [.dk kvs])
def fDict : FC := fun ws st => match ws with
  | [w] => match dkOf st w with
    | some kvs => newD kvs st
    | none => match seqL st w with
      | some xs => match pairsW xs with
        | some ps => newD (mergeKW [] ps) st
        | none => .stuck
      | none => .stuck
  | _ => .stuck
section
variable {X : Cx} {T : Nat → Addr} {ρ η : List Addr} {H : Hp} {st : Sto}
theorem KVs.merge : ∀ {more : List (Key × W)} {kw : List (Key × V)} {kvs : List (Key × W)} {kv : List (Key × V)}, KVs X.K ρ η H more kw → KVs X.K ρ η H kvs kv → KVs X.K ρ η H (mergeKW kvs more) (mergeK kv kw)
  | [], kw, kvs, kv, h, k => by
    rw [h.nil']
    exact k
  | (a, w) :: more, kw, kvs, kv, h, k => by
    obtain ⟨v, r, e, h1, h2⟩ := h.cons'
    subst e
    show KVs X.K ρ η H (mergeKW (putKW kvs a w) more) (mergeK (putK kv a v) r)
    exact KVs.merge h2 (k.put h1)
/-! ### equal dicts of flat things -/
end
/-! ### {k: v for ..} -/
section
variable {X : Cx} {T : Nat → Addr} {Wx : WX'} {pos : Pos}
theorem KVs.hid {K : PySem.W.Frag} {ρ η : List Addr} {H : Hp} {D : Addr} {o : HO} (n : D ∈ η) {kvs : List (Key × W)} {kv : List (Key × V)} (h : KVs K ρ η H kvs kv) : KVs K ρ η (L2.upd H D o) kvs kv := ⟨h.1, h.2.hid n⟩
end
end Mi
namespace Mi
open PySem PySem.Spec PyProof.Rows L2
/-- what is not carried, or never reached -/
def sStk : MS := fun _ _ => .stuck
section
variable {X : Cx} {T : Nat → Addr} {Wx : WX'} {pos : Pos}
theorem ss_stk {c : Stmt} : SSt X T Wx c sStk := fun _ _ _ _ _ _ _ _ _ h => h.elim
end
/-! ### a text, sign by sign -/
end Mi
namespace Mi
open PySem PySem.Spec PyProof.Rows L2
section
variable {X : Cx} {T : Nat → Addr} {Wx : WX'} {pos : Pos}
theorem se_tupA {es : List Expr} {k : M (List W)} {n : Nat} {x1} (h : SAn X T Wx n es k) (hn : n ≤ 1000 := by decide) : SE X T Wx (.Tuple es x1 pos) (mTup k) := se_tup h.run h.len hn
theorem se_lstA {fz : Bool} {es : List Expr} {k : M (List W)} {n : Nat} (h : SAn X T Wx n es k) (hn : n ≤ 1000 := by decide) : SE X T Wx (.List es pos) (mLst fz k) := se_lst h.run h.len hn
end
end Mi
/-! The mirror: try .. except X: of own classes; the clause's suite raises nothing. -/
namespace Mi
open PySem PySem.Spec PyProof.Rows L2
def calmS (r : SRs) : SRs := match r with
  | .ex _ _ _ => .stuck
  | r => r
theorem SAfter.calm {K : PySem.W.Frag} {T : Nat → Addr} {η ρ : List Addr} {H : Hp} {r : SRs} {D : Ends} {Wx Wy : WX'} (h : SAfter K T η ρ H (calmS r) D Wx) : SAfter K T η ρ H r D Wy := by
  cases r with
  | ex x env st => exact h.elim
  | nx env st => exact h
  | rt w st => exact h
  | bk env st => exact h
  | ct env st => exact h
  | stuck => exact h.elim
/-- what must be known of an own exception class, by the fragment alone -/
structure ExcF (K : PySem.W.Frag) (mg : Str → Option Value) (C : Addr) (x : Str) : Prop where
  ex : PySem.W.excIn K C [.type "ValueError", .type "Exception", .type "BaseException", .type "object"] "ValueError.__new__" = true
  mg : mg x = some (.ref C)
  kp : PySem.W.keepIn K (.ref C) = true
  sub : PySem.W.subIn K (.ref C) (.type "BaseException") = some true
  ty : PySem.W.typeIn K (.ref C) = some (.type "type")
theorem ExcF.ok {X : Cx} {C : Addr} {x : Str} (h : ExcF X.K X.mg C x) : ExcOk X C x := ⟨h.ex, h.mg, h.kp, h.sub, h.ty⟩
end Mi
/-! enumerate of a tuple, from the library's draws -/
namespace PySem
open Sem (wp)
open AutoSeq1 (wpAny_loadPart')
theorem mi_enumerate_newT (l : Addr) (items : Array Value) (n : Nat) (dct : Option Addr) (sl : Array (Option Value)) :
    Meets (Builtin.«enumerate.__new__» ⟨[.type "enumerate", .ref l], []⟩) (fun _ R s => s.heap.get? l = some { cls := .type "tuple", dict := dct, data := .seq items n, slots := sl } ∧
      R (.ok (.ret (.ref (s.heap.push { cls := .type "tuple_iterator", data := .fields #[.ref l, .int 0 0] }).objs.size)))
        { s with heap := (s.heap.push { cls := .type "tuple_iterator", data := .fields #[.ref l, .int 0 0] }).push { cls := .type "enumerate", data := .fields #[.none, .bool false, .ref s.heap.objs.size, rawInt 0, .none, .none] } }) :=
  .of_wp fun prog w A R s h => by
    obtain ⟨hp, g, d, tk, os⟩ := s; obtain ⟨hl, h⟩ := h
    have hsub := sub_enumerate
    have hL : Heap.IsTuple (Shared.heap ⟨hp, g, d, tk, os⟩) l items := ⟨_, hl, rfl, n, rfl⟩
    wp_walk using wpAny_loadPart' hl
    refine wpAny_stack_any fun st => wpAny_pure ?_
    split
    · rename_i c _ _ _ _ _
      cases (c == Value.type "enumerate")
      · wp_walk using wpAny_loadPart' hl, wpAny_pyIter_tuple hL
        exact ⟨_, rfl, h⟩
      · wp_walk using wpAny_loadPart' hl, wpAny_pyIter_tuple hL
        exact ⟨_, rfl, h⟩
    · wp_walk using wpAny_loadPart' hl, wpAny_pyIter_tuple hL
      exact ⟨_, rfl, h⟩
theorem mi_call_enumerate_tup {prog : Program} {w : World} {A : Around} {E : Value → Shared → Prop} {s : Shared} {l : Addr} {items : Array Value} {Q : Value → Shared → Prop} (hL : s.heap.IsTuple l items)
    (h : ∀ h', IsEnum h' (s.heap.objs.size + 1) s.heap.objs.size 0 .none → h'.IsTupleIter s.heap.objs.size l 0 → h'.objs.size = s.heap.objs.size + 2 →
      (∀ b o, s.heap.get? b = some o → h'.get? b = some o) → Q (.ref (s.heap.objs.size + 1)) { s with heap := h' }) :
    wpAny (model prog w) A (call (.type "enumerate") [.ref l]) Q E s := by
  obtain ⟨⟨c, dct, dt, sl⟩, hl, hc, n, hd⟩ := hL
  replace hc : c = .type "tuple" := hc
  replace hd : dt = .seq items n := hd
  subst hc hd
  refine callType_new F.called_enumerate (by decide) (F.typeCall_enumerate_1 _) (F.newCall_enumerate_1 _) (fun obj => F.args_object_init_2 obj _) F.entry_enumerate_new
    (mi_enumerate_newT l items n dct sl) ⟨hl, ?_⟩
  have hz : (s.heap.push { cls := .type "tuple_iterator", data := .fields #[.ref l, .int 0 0] }).objs.size = s.heap.objs.size + 1 := Heap.size_push ..
  show _ ∧ _
  rw [hz]
  have he : IsEnum ((s.heap.push { cls := .type "tuple_iterator", data := .fields #[.ref l, .int 0 0] }).push
      { cls := .type "enumerate", data := .fields #[.none, .bool false, .ref s.heap.objs.size, rawInt 0, .none, .none] }) (s.heap.objs.size + 1) s.heap.objs.size 0 .none := by
    have := Heap.get?_push_size (s.heap.push { cls := .type "tuple_iterator", data := .fields #[.ref l, .int 0 0] })
      (o := { cls := .type "enumerate", data := .fields #[.none, .bool false, .ref s.heap.objs.size, rawInt 0, .none, .none] }) rfl
    rw [hz] at this; exact this
  refine ⟨⟨_, he, rfl⟩, h _ he ⟨_, Heap.get?_push_of_some _ (Heap.get?_push_size _ rfl), rfl, rfl⟩ (by rw [Heap.size_push, hz]) fun b o x => Heap.get?_push_of_some _ (Heap.get?_push_of_some _ x)⟩
end PySem
namespace Mi
open PySem PySem.Spec PyProof.Rows L2
def ItEt (K : PySem.W.Frag) (a : Addr) : It :=
  ⟨fun i H => ∃ (xs : List V) (x : V), SqT K H a xs ∧ xs[i]? = some x, fun i H v H' => ∃ T x, v = .ref T ∧ H T = none ∧ H' = upd H T (.tup [.int (i : Nat), x]) ∧ ∀ xs, SqT K H a xs → xs[i]? = some x, fun i H => ∃ xs : List V, SqT K H a xs ∧ xs.length ≤ i⟩
theorem turn_enumT {P : Program} {w : World} {K : PySem.W.Frag} {elts : List Expr} {kk : Nat} {tpos : Pos} (a e it : Addr) (ea : e ≠ a) (ia : it ≠ a) :
    Turn P w K (.Tuple elts kk tpos) (ItEt K a) [e, it] e (fun i h => (∃ old, IsEnum h e it ((i : Nat) : Int) old) ∧ h.IsTupleIter it a i ∧ e ≠ it) where
  mem := by simp
  obj := fun i h st b hb => by
    obtain ⟨⟨old, he⟩, ⟨o, ho, hc, hd⟩, _⟩ := st
    have e' : b = e ∨ b = it := by simpa using hb
    rcases e' with z | z
    · rw [z]; exact ⟨_, he, fun v q => nomatch q⟩
    · rw [z]; exact ⟨o, ho, fun v q => by rw [hd] at q; cases q⟩
  keep := fun i h h' st k => let ⟨⟨old, he⟩, hi, hne⟩ := st; ⟨⟨old, k e (by simp) _ he⟩, hi.at fun o q => k it (by simp) o q, hne⟩
  item := by
    intro X hP hw hK hc i pins s σ H E I hf st hg
    subst hP hw hK
    obtain ⟨⟨old, he⟩, hit, hne⟩ := st
    obtain ⟨xs, x, hq, hx⟩ := hg
    obtain ⟨its, rv, p, hz⟩ := I.tuple hq
    have p : s.heap.IsTuple a its.toArray := p
    obtain ⟨u, hu, ru⟩ := rv.get hx
    have hel : e < s.heap.objs.size := Heap.lt_size he
    have hil : it < s.heap.objs.size := by obtain ⟨_, q, _⟩ := hit; exact Heap.lt_size q
    have hh : X.A.handled = none := I.ok.hd hc
    have D := Draws.tuple (prog := X.prog) (w := X.w) (A := X.A.in1) hh it a (fun z => ia z.symm) its.toArray
    have hi : i < its.toArray.size := by
      have := (List.getElem?_eq_some_iff.mp hu).1
      simpa using this
    refine wpAny_pyNext_enum_itemD D he ⟨hit, p⟩ hi hne (by simp [hne, ea]) fun x' h' tk hP ho hst' hT hsz hk => ?_
    have hit' := hst'.1
    have ex : x' = u := by
      have h1 : its.toArray[i]? = some u := by simpa using hu
      rw [h1] at hP
      exact (Option.some.inj hP).symm
    subst ex
    refine ⟨_, rfl, wpAny_letOwnedTupleGo_enum (s := { s with heap := h', toks := tk + 1 }) ho fun h'' he' sb => ?_⟩
    have hT2 : h''.get? s.heap.objs.size = some { cls := .type "tuple", data := .seq #[.int i tk, x'] } := (sb.2 _ (Nat.ne_of_gt hel)).trans hT
    have new : ObjOk X.prog X.w (upd H s.heap.objs.size (.tup [.int (i : Nat), x])) h'' s.heap.objs.size (.tup [.int (i : Nat), x]) :=
      ⟨by show 2 ≤ sizeLine; decide, [.int i tk, x'], .cons ⟨_, rfl⟩ (.cons ru .nil), ⟨_, hT2, rfl, _, rfl⟩⟩
    have I1 : Inv X pins σ (upd H s.heap.objs.size (.tup [.int (i : Nat), x])) { s with heap := h'', toks := tk + 1 } :=
      I.turnedNew (ch := [e, it]) (fun b ob hb q => (sb.2 b (fun z => hb (by simp [z]))).trans (hk b ob (fun z => hb (by simp [z])) (fun z => hb (by simp [z])) q)) hf (Nat.le_refl _) new
    refine ⟨.ref s.heap.objs.size, _, I1, rfl, ⟨_, x, rfl, I.hok.fresh (Nat.le_refl _), rfl, fun ys hy => by rw [I.tuple_inj hy hq]; exact hx⟩, ⟨⟨x', ?_⟩, hit'.at fun o q => (sb.2 it (Ne.symm hne)).trans q, hne⟩, fun b hb => ?_⟩
    · have e1 : ((i + 1 : Nat) : Int) = (i : Int) + 1 := by omega
      rw [e1]; exact he'
    · have hb' : b < s.heap.objs.size := by
        have e' : b = e ∨ b = it := by simpa using hb
        rcases e' with z | z
        · rw [z]; exact hel
        · rw [z]; exact hil
      rw [upd_ne (Nat.ne_of_lt hb')]
      exact (hf b hb).1
  done := by
    intro X hP hw hK hc i pins s σ H E I hf st hg
    subst hP hw hK
    obtain ⟨⟨old, he⟩, hit, hne⟩ := st
    obtain ⟨xs, hq, hx⟩ := hg
    obtain ⟨its, rv, p, hz⟩ := I.tuple hq
    have p : s.heap.IsTuple a its.toArray := p
    obtain ⟨f0, f1, f2, f3, f4, f5⟩ := hf it (by simp)
    have hl := rv.length
    have hh : X.A.handled = none := I.ok.hd hc
    have hT : s.TypeIs (.ref e) "enumerate" := ⟨_, he, rfl⟩
    unfold pyNext
    refine wpAny_bind (wpAny_attempt (wpAny_callSpecial?_slot (name := Str.ofString "__next__") hT F.slot_enumerate_next
      (wpAny_call_entry F.slot_enumerate_next hT F.entry_enumerate_next ?_ (F.args_enumerate_next_1 _))))
    show wpAny _ _ (field (.ref e) 2 >>= _) _ _ _
    refine wpAny_bind (wpAny_field he rfl (x := .ref it) rfl ?_)
    refine wpAny_bind (wpAny_nextOf_tuple_end (show X.A.in1.handled = none from hh) hit p (by simp; omega) fun h' x he' hx' => ?_)
    obtain ⟨o, ho, hcc⟩ := hx'
    refine wpAny_bind (wpAny_isInstance (T := "StopIteration") (b := true) ⟨o, ho, hcc⟩ isSubtype_stop ?_)
    exact wpAny_pure ⟨rfl, I.turned (t' := s.toks) (fun b o hb q => he' b o hb q) f0 f1 f3 f4 f5⟩
  self := fun A i s Q E st h => let ⟨⟨_, he⟩, _⟩ := st; wpAny_pyIter_enum he h
def iEnumT (K : PySem.W.Frag) (ta : TA) : TI := fun σ H R => ta σ H fun vs H1 => ∃ a xs, vs = [.ref a] ∧ SqT K H1 a xs ∧ R (ItEt K a) H1
theorem pi_enumT {X : Cx} {e : Expr} {ta : TA} {p pos tpos : Pos} {elts : List Expr} {kk : Nat} (hg : Gl X "enumerate") (hm : X.mg "enumerate" = none) (ha : PA X [e] ta) (hs : starEach [e] X.env = [(false, eval e X.env)] := by rfl) :
    PI X (.Tuple elts kk tpos) (.Call (.Name "enumerate" p) [e] [] pos) (iEnumT X.K ta) := by
  refine ⟨fun pins s σ H R I h => ?_⟩
  refine Call_ (ld_blt I hg hm boot_enumerate (PyProof.Rows.callWith_type1 (thn (ha.run pos pins s σ H _ I h) fun us s1 ⟨vs, H1, I1, r1, q1⟩ => ?_) hs rfl))
  obtain ⟨a, xs, ex, hq, q⟩ := q1
  subst ex
  cases r1 with
  | cons r rr =>
    cases rr
    cases r
    obtain ⟨its, rv, p', hz⟩ := I1.tuple hq
    have p' : s1.heap.IsTuple a its.toArray := p'
    have hal : a < s1.heap.objs.size := by obtain ⟨_, q, _⟩ := p'; exact Heap.lt_size q
    refine mi_call_enumerate_tup p' fun h' he hit hsz hk => wpAny_pyIter_enum he ?_
    have I2 : Inv X pins σ H1 { s1 with heap := h' } := I1.kept (t' := s1.toks) hk
    refine ⟨s1.heap.objs.size + 1, [s1.heap.objs.size + 1, s1.heap.objs.size], _, _, H1, rfl, I2, turn_enumT a (s1.heap.objs.size + 1) s1.heap.objs.size (fun z => absurd (z ▸ hal : s1.heap.objs.size + 1 < s1.heap.objs.size) (by simp)) (fun z => absurd (z ▸ hal : s1.heap.objs.size < s1.heap.objs.size) (by simp)), ⟨⟨.none, he⟩, hit, Nat.succ_ne_self _⟩, fun b hb => ?_, q⟩
    have e' : b = s1.heap.objs.size + 1 ∨ b = s1.heap.objs.size := by simpa using hb
    have hle : s1.heap.objs.size ≤ b := by
      rcases e' with z | z
      · rw [z]; exact Nat.le_add_right _ _
      · rw [z]; exact Nat.le_refl _
    exact I1.fpOk hle (I1.hok.fresh hle)
end Mi
namespace Mi
open PySem PySem.Spec PyProof.Rows L2
theorem units65 {k : Nat} {A : Around} (r : Room k A) : A.units + 65 < cLine := by have := r.un; omega
/-! ### // by great divisors -/
def wDivW : F2 := fun a b st => match a, b with
  | .int i, .int j => if 0 < j ∧ j.natAbs.log2 < 9000 then .ok (.int (i / j)) st else .stuck
  | _, _ => .stuck
/-- in a list of things of any depth -/
def wInD (neg : Bool) : F2 := fun a b st => match toD st a, toD st b with
  | some d, some (.list ds) => if SeqAt.shaped d && SeqAt.shaped (.list ds) then .ok (.bl (if neg = true then !(ds.any fun z => PyData.eqv z d) else (ds.any fun z => PyData.eqv z d))) st else .stuck
  | _, _ => .stuck
section
variable {K : PySem.W.Frag} {T : Nat → Addr}
theorem ok_divW : OkR K T wDivW (rI CDivW fun i j => .int (i / j)) := by
  intro ρ η st H a b x y Q E s ha hb h
  unfold wDivW at h
  split at h
  · split at h
    · rename_i q
      simp only [VR] at ha hb
      exact ⟨_, _, ha, hb, q, h.ok s (by simp only [VR])⟩
    · exact h.elim
  · exact h.elim
theorem ok_inD : OkR K T (wInD false) (rInD K) := by
  intro ρ η st H a b x y Q E s ha hb h
  unfold wInD at h
  split at h
  · rename_i d ds e1 e2
    split at h
    · rename_i q
      rw [Bool.and_eq_true] at q
      exact ⟨d, ds, toD_ok s ha e1, toD_ok s hb e2, q.1, q.2, h.ok s (by simp only [VR, if_false, Bool.false_eq_true])⟩
    · exact h.elim
  · exact h.elim
end
section
variable {X : Cx} {T : Nat → Addr} {Wx : WX'} {pos : Pos}
/-! ### walks over lists and tuples -/
def iA (m : M W) : MI := fun env st => match m env st with
  | .ok (.tup _) _ => iT m env st
  | _ => iL m env st
theorem si_any {tg l : Expr} {m : M W} (h : SE X T Wx l m) : SI X T Wx tg l (iA m) := by
  intro ρ η st env σ H Q s er q
  unfold iA at q
  split at q
  · exact si_tup h ρ η st env σ H Q s er q
  · exact si_list h ρ η st env σ H Q s er q
def iET (m : M (List W)) : MI := fun env st => (m env st).bind fun ws s => match ws with
  | [.tup xs] => .ok (enumW (fixS xs)) s
  | _ => .stuck
theorem si_enumT {e : Expr} {m : M (List W)} {p pos tpos : Pos} {elts : List Expr} {kk : Nat} (hg : Gl X "enumerate") (hm : X.mg "enumerate" = none) (h : SA X T Wx [e] m) (hs : starEach [e] X.env = [(false, eval e X.env)] := by rfl) :
    SI X T Wx (.Tuple elts kk tpos) (.Call (.Name "enumerate" p) [e] [] pos) (iET m) := by
  intro ρ η st env σ H Q s er q
  refine ⟨_, pi_enumT hg hm pa_S hs, ?_⟩
  refine h ρ η st env σ H _ s er (q.bind fun ws s1 ρ1 H1 vs g1 sr1 r1 h1 => ?_)
  split at h1
  · rename_i xs
    obtain ⟨v, e1, r2⟩ := vrs1 r1
    simp only [VR] at r2
    obtain ⟨a, us, e3, e4, e5⟩ := r2
    subst e3
    refine ⟨a, us, e1, e4.sq, h1.ok sr1 ?_⟩
    intro η' k i ρ' H' st' g sr
    have q : SqT X.K H' a us := (e4.mono g).sq
    show match (enumW (fixS xs)).at_ i st' with | some (some w) => _ | some none => _ | none => _
    have e0 : (enumW (fixS xs)).at_ i st' = match xs[i]? with
      | some w => some (some (.tup [.int i, w]))
      | none => some none := by
      show (match some xs[i]? with | some (some w) => _ | some none => _ | none => _) = _
      cases xs[i]? <;> rfl
    rw [e0]
    cases e : xs[i]? with
    | none => exact ⟨us, q, by rw [e5.len]; exact List.getElem?_eq_none_iff.mp e⟩
    | some w =>
      obtain ⟨v, f1, f2⟩ := e5.get e
      refine ⟨⟨us, v, q, f1⟩, fun x H2 y => ?_⟩
      obtain ⟨TT, x', y1, y2, y3, y4⟩ := y
      subst y1; subst y3
      have := y4 us q
      rw [f1] at this
      cases this
      refine ⟨Grow.new y2, sr.new' y2, ?_⟩
      simp only [VR]
      exact ⟨TT, _, rfl, .inl ⟨sr.fresh y2, sr.freshH y2, .inl upd_same⟩, VRs.cons (by simp only [VR]) (VRs.cons ((f2.more g k).mono (Grow.new y2)) VRs.nil)⟩
  · exact h1.elim
def iEA (m : M (List W)) : MI := fun env st => match m env st with
  | .ok [.tup _] _ => iET m env st
  | _ => iE m env st
theorem si_enumA {e : Expr} {m : M (List W)} {p pos tpos : Pos} {elts : List Expr} {kk : Nat} (hg : Gl X "enumerate") (hm : X.mg "enumerate" = none) (h : SA X T Wx [e] m) (hs : starEach [e] X.env = [(false, eval e X.env)] := by rfl) :
    SI X T Wx (.Tuple elts kk tpos) (.Call (.Name "enumerate" p) [e] [] pos) (iEA m) := by
  intro ρ η st env σ H Q s er q
  unfold iEA at q
  split at q
  · exact si_enumT hg hm h hs ρ η st env σ H Q s er q
  · exact si_enum hg hm h hs ρ η st env σ H Q s er q
/-- reversed(x), x a list that stands still or a tuple -/
def iRv (m : M W) : MI := fun env st => (m env st).bind fun w s => match w with
  | .lst xs => .ok (fixS xs.reverse) s
  | .tup xs => .ok (fixS xs.reverse) s
  | _ => .stuck
theorem rev_get {α : Type} {xs : List α} {i : Nat} (h : i < xs.length) : xs.reverse[i]? = xs[xs.length - 1 - i]? := List.getElem?_reverse h
theorem si_rev {l : Expr} {m : M W} {tg : Expr} {p pos : Pos} (hg : Gl X "reversed") (hm : X.mg "reversed" = none) (h : SE X T Wx l m) (hs : starEach [l] X.env = (false, eval l X.env) :: starEach [] X.env := by rfl) :
    SI X T Wx tg (.Call (.Name "reversed" p) [l] [] pos) (iRv m) := by
  intro ρ η st env σ H Q s er q
  refine ⟨_, RT.pi_revA hg hm pe_S hs, ?_⟩
  refine h ρ η st env σ H _ s er (q.bind fun w s1 ρ1 H1 v g1 sr1 r1 h1 => ?_)
  split at h1
  · rename_i xs
    simp only [VR] at r1
    obtain ⟨a, vs, e1, e2, e3⟩ := r1
    refine ⟨a, vs, e1, .inl ⟨SqL.of e2.2.2, h1.ok sr1 ?_⟩⟩
    intro η' k i ρ' H' st' g sr
    have q : SqL X.K H' a vs := lst_at e2 ρ' H' g
    show match some xs.reverse[i]? with | some (some w) => _ | some none => _ | none => _
    by_cases hi : i < xs.length
    · rw [rev_get hi]
      have hj : xs.length - 1 - i < xs.length := by omega
      obtain ⟨v, f1, f2⟩ := e3.get (List.getElem?_eq_getElem hj)
      rw [List.getElem?_eq_getElem hj]
      have hl := e3.len
      rw [← hl] at f1
      refine ⟨⟨by omega, vs, v, q, f1⟩, fun x H2 y => ?_⟩
      obtain ⟨y1, y2⟩ := y
      subst y1
      have := y2 vs q
      rw [f1] at this
      cases this
      exact ⟨Grow.refl, sr, f2.more g k⟩
    · rw [List.getElem?_eq_none (by simpa using hi)]
      show vs.length ≤ i
      rw [e3.len]
      omega
  · rename_i xs
    simp only [VR] at r1
    obtain ⟨a, vs, e1, e2, e3⟩ := r1
    refine ⟨a, vs, e1, .inr ⟨e2.sq, h1.ok sr1 ?_⟩⟩
    intro η' k i ρ' H' st' g sr
    have q : SqT X.K H' a vs := (e2.mono g).sq
    show match some xs.reverse[i]? with | some (some w) => _ | some none => _ | none => _
    by_cases hi : i < xs.length
    · rw [rev_get hi]
      have hj : xs.length - 1 - i < xs.length := by omega
      obtain ⟨v, f1, f2⟩ := e3.get (List.getElem?_eq_getElem hj)
      rw [List.getElem?_eq_getElem hj]
      have hl := e3.len
      rw [← hl] at f1
      refine ⟨⟨by omega, vs, v, q, f1⟩, fun x H2 y => ?_⟩
      obtain ⟨y1, y2⟩ := y
      subst y1
      have := y2 vs q
      rw [f1] at this
      cases this
      exact ⟨Grow.refl, sr, f2.more g k⟩
    · rw [List.getElem?_eq_none (by simpa using hi)]
      show vs.length ≤ i
      rw [e3.len]
      omega
  · exact h1.elim
/-! ### *e in a display -/
def itsW (st : Sto) (w : W) : Option (List W) := match w with
  | .tup xs => some xs
  | w => seqL st w
def mStar (ma : M W) (mr : M (List W)) : M (List W) := fun env st => (ma env st).bind fun a s1 => match itsW s1 a with
  | some xs => (mr env s1).bind fun r s2 => .ok (xs ++ r) s2
  | none => .stuck
theorem its_ok {ρ η : List Addr} {H : Hp} {st : Sto} {w : W} {v : V} {xs : List W} (s : SR X.K T ρ η st H) (h : VR X.K ρ η H w v) (e : itsW st w = some xs) : ∃ a vs, v = .ref a ∧ (SqT X.K H a vs ∨ SqL X.K H a vs) ∧ VRs X.K ρ η H xs vs := by
  unfold itsW at e
  split at e
  · rename_i ys
    cases e
    simp only [VR] at h
    obtain ⟨a, vs, h1, h2, h3⟩ := h
    exact ⟨a, vs, h1, .inl h2.sq, h3⟩
  · obtain ⟨a, vs, h1, h2, h3⟩ := seq_ok s h e
    exact ⟨a, vs, h1, .inr h2, h3⟩
theorem sa_star {e : Expr} {es : List Expr} {p : Pos} {m : M W} {k : M (List W)} (he : SE X T Wx e m) (hr : SA X T Wx es k) (hs : starEach (.Starred e p :: es) X.env = (true, eval e X.env) :: starEach es X.env := by rfl) : SA X T Wx (.Starred e p :: es) (mStar m k) := by
  intro ρ η st env σ H Q s er q
  refine ⟨_, StX.pa_star pe_S pa_S hs, ?_⟩
  refine he ρ η st env σ H _ s er (q.bind fun w s1 ρ1 H1 v g1 sr1 r1 h1 => ?_)
  split at h1
  · rename_i xs e1
    obtain ⟨a, vs, e2, e3, e4⟩ := its_ok sr1 r1 e1
    refine ⟨a, vs, e2, e3, ?_⟩
    refine hr ρ1 η s1 env σ H1 _ sr1 (er.mono g1) (h1.bind fun ws s2 ρ2 H2 us g2 sr2 r2 h2 => ?_)
    exact h2.ok sr2 ((e4.mono g2).append r2)
  · exact h1.elim
def mLstS (fz : Bool) (m : M (List W)) : M W := fun env st => (m env st).bind fun ws s1 => if ws.length ≤ sizeLine then newL fz ws s1 else .stuck
theorem se_lstS {fz : Bool} {es : List Expr} {k : M (List W)} (h : SA X T Wx es k) : SE X T Wx (.List es pos) (mLstS fz k) := by
  intro ρ η st env σ H Q s er q
  refine ⟨_, pe_lst pa_S, ?_⟩
  refine h ρ η st env σ H _ s er (q.bind fun ws s1 ρ1 H1 vs g1 sr1 r1 h1 => ?_)
  split at h1
  · rename_i hl
    exact ⟨by rw [r1.len]; exact hl, fun p hp => newL_ok h1 sr1 r1 hp⟩
  · exact h1.elim
/-! ### isinstance with some types -/
def kitAB (t : String) : List String → Option Bool
  | [] => some false
  | n :: ns => match kitB t n, kitAB t ns with
    | some b, some r => some (b || r)
    | _, _ => none
theorem kitAB_ok {K : PySem.W.Frag} {t : String} : ∀ {ns : List String} {b : Bool}, kitAB t ns = some b → PySem.W.kitAny K (.type t) (ns.map Value.type) = some b
  | [], b, e => by
    simp only [kitAB, Option.some.injEq] at e
    subst e
    exact kitAny_nil
  | n :: ns, b, e => by
    simp only [kitAB] at e
    split at e
    · rename_i c r e1 e2
      cases e
      refine kitAny_cons (kit_ty e1) (fun z => ?_) (fun z => ?_)
      · rw [kitAB_ok e2, z]; rfl
      · rw [z]; rfl
    · cases e
def mIsiT (n1 n2 : String) (m : M W) : M W := fun env st => (m env st).bind fun w s => match tyOf s w with
  | some t => match kitAB t [n1, n2] with
    | some b => .ok (.bl b) s
    | none => .stuck
  | none => .stuck
theorem se_isiT {e : Expr} {m : M W} {x1 x2 : Str} {n1 n2 : String} {p p1 p2 pt pos : Pos} {kk : Nat} (hg : Gl X "isinstance") (hm : X.mg "isinstance" = none)
    (hg1 : Gl X x1) (hm1 : X.mg x1 = none) (hv1 : bootBuiltins x1 = some (.type n1)) (hg2 : Gl X x2) (hm2 : X.mg x2 = none) (hv2 : bootBuiltins x2 = some (.type n2)) (he : SE X T Wx e m)
    (hn1 : x1 ≠ "__name__" := by decide) (hn2 : x2 ≠ "__name__" := by decide) (hd1 : (x1 == ("__debug__" : Str)) = false := by decide) (hd2 : (x2 == ("__debug__" : Str)) = false := by decide)
    (s1 : starEach [e, .Tuple [.Name x1 p1, .Name x2 p2] kk pt] X.env = (false, eval e X.env) :: starEach [.Tuple [.Name x1 p1, .Name x2 p2] kk pt] X.env := by rfl)
    (s2 : starEach [.Tuple [.Name x1 p1, .Name x2 p2] kk pt] X.env = (false, eval (.Tuple [.Name x1 p1, .Name x2 p2] kk pt) X.env) :: starEach [] X.env := by rfl)
    (s3 : starEach [.Name x1 p1, .Name x2 p2] X.env = (false, eval (.Name x1 p1) X.env) :: starEach [.Name x2 p2] X.env := by rfl)
    (s4 : starEach [.Name x2 p2] X.env = (false, eval (.Name x2 p2) X.env) :: starEach [] X.env := by rfl)
    (hpl : (backTo pos (starEach [.Tuple [.Name x1 p1, .Name x2 p2] kk pt] X.env)).any (·.1) = false := by rfl) :
    SE X T Wx (.Call (.Name "isinstance" p) [e, .Tuple [.Name x1 p1, .Name x2 p2] kk pt] [] pos) (mIsiT n1 n2 m) := by
  intro ρ η st env σ H Q s er q
  refine ⟨_, pe_callB call_isiT hg hm (by decide +kernel) (pa_cons pe_S (pa_cons (pe_tup (pa_cons (pe_bltn (v := .ty n1) hg1 hm1 hv1 rfl hn1 hd1) (pa_cons (pe_bltn (v := .ty n2) hg2 hm2 hv2 rfl hn2 hd2) pa_nil s4) s3)) pa_nil s2) s1) (by decide) (by decide) s1 hpl, ?_⟩
  refine he ρ η st env σ H _ s er (q.bind fun w s1 ρ1 H1 v g1 sr1 r1 h1 => ?_)
  split at h1
  · rename_i t e1
    split at h1
    · rename_i b e2
      refine ⟨by show 2 ≤ sizeLine; decide, fun tp hp => ?_⟩
      have g2 : Grow ρ1 H1 ρ1 (upd H1 tp (.tup [.ty n1, .ty n2])) := Grow.new hp
      have sr2 : SR X.K T ρ1 η s1 (upd H1 tp (.tup [.ty n1, .ty n2])) := sr1.new' hp
      exact ⟨v, tp, [.ty n1, .ty n2], _, [Value.type n1, Value.type n2], b, rfl, upd_same, .cons (.ty n1) (.cons (.ty n2) .nil), ty_ok sr2 (r1.mono g2) e1, kitAB_ok (ns := [n1, n2]) e2, (After.grow g2 h1).ok sr2 (by simp only [VR])⟩
    · exact h1.elim
  · exact h1.elim
/-! ### min, max of two -/
def fMin2 : FC := fun ws st => match ws with
  | [.int i, .int j] => .ok (.int (if j < i then j else i)) st
  | _ => .stuck
def fMax2 : FC := fun ws st => match ws with
  | [.int i, .int j] => .ok (.int (if j > i then j else i)) st
  | _ => .stuck
theorem okc_min2 {K : PySem.W.Frag} : OkC K T fMin2 (fun xs H Q => ∃ i j, xs = [.int i, .int j] ∧ Q (.int (if j < i then j else i)) H) := by
  intro ρ η st H ws vs Q E s r h
  unfold fMin2 at h
  split at h
  · rename_i i j
    obtain ⟨v, z, e1, r1, r2⟩ := vrs2 r
    simp only [VR] at r1 r2
    subst r1; subst r2
    exact ⟨i, j, e1, h.ok s (by simp only [VR])⟩
  · exact h.elim
theorem okc_max2 {K : PySem.W.Frag} : OkC K T fMax2 (fun xs H Q => ∃ i j, xs = [.int i, .int j] ∧ Q (.int (if j > i then j else i)) H) := by
  intro ρ η st H ws vs Q E s r h
  unfold fMax2 at h
  split at h
  · rename_i i j
    obtain ⟨v, z, e1, r1, r2⟩ := vrs2 r
    simp only [VR] at r1 r2
    subst r1; subst r2
    exact ⟨i, j, e1, h.ok s (by simp only [VR])⟩
  · exact h.elim
end
end Mi
/-! t[::-1] at the library's level -/
namespace HT
open PySem PySem.Spec PyProof.Rows
section
variable {prog : Program} {w : World} {A : Around} {E : Value → Shared → Prop} {s : Shared}
theorem mi_adjust_rev (n : Nat) : Builtin.Slice.sliceAdjust none none (-1) (n : Int) = ((n : Int) - 1, -1) := by
  unfold Builtin.Slice.sliceAdjust
  rfl
theorem mi_places_rev (n : Nat) : Builtin.Slice.slicePlaces ((n : Int) - 1) (-1) (-1) = n := by
  unfold Builtin.Slice.slicePlaces
  have h1 : ¬ ((-1 : Int) > 0) := by omega
  have h2 : (- -1 : Int) = 1 := rfl
  simp only [h1, if_false, h2, Int.ediv_one]
  split <;> omega
theorem mi_applied_rev {sl : Addr} {vl vu vs : Value} {n : Nat} {Q : Int × Int × Nat → Shared → Prop} (hs : s.heap.IsSliceOf sl vl vu vs) (pl : IsPart vl none) (pu : IsPart vu none) (ps : IsPart vs (some (-1)))
    (h : Q ((n : Int) - 1, -1, n) s) : wpAny (model prog w) A (Builtin.Slice.sliceApplied (.ref sl) (pure (n : Int))) Q E s := by
  obtain ⟨os, hos, hcs, hds⟩ := id hs
  unfold Builtin.Slice.sliceApplied Builtin.Slice.sliceFields
  refine wpAny_bind (wpAny_bind (wpAny_field hos hds (x := vl) rfl (wpAny_bind (wpAny_field hos hds (x := vu) rfl (wpAny_bind (wpAny_field hos hds (x := vs) rfl (wpAny_pure ?_)))))))
  refine wpAny_bind (slicePart_ ps ?_)
  show wpAny _ _ (if ((-1 : Int) == 0) = true then _ else _) _ _ s
  rw [if_neg (by decide)]
  refine wpAny_bind (slicePart_ pl (wpAny_bind (slicePart_ pu (wpAny_bind (wpAny_pure ?_)))))
  show wpAny _ _ (match Builtin.Slice.sliceAdjust none none (-1) (n : Int) with | (lo, hi) => pure (lo, (-1 : Int), Builtin.Slice.slicePlaces lo hi (-1))) _ _ s
  rw [mi_adjust_rev]
  show wpAny _ _ (pure ((n : Int) - 1, (-1 : Int), Builtin.Slice.slicePlaces ((n : Int) - 1) (-1) (-1))) _ _ s
  rw [mi_places_rev]
  exact wpAny_pure h
theorem mi_pick_rev (xs : Array Value) : ((List.range xs.size).filterMap fun (m : Nat) => xs[(((xs.size : Int) - 1) + (m : Int) * -1).toNat]?).toArray = xs.toList.reverse.toArray := by
  have h := PySem.W.krv_all xs
  have h2 : (List.range xs.size).filterMap (fun (m : Nat) => xs[(((xs.size : Int) - 1) + (m : Int) * -1).toNat]?) = ((List.range xs.size).map fun k => xs.size - 1 - k).filterMap (xs[·]?) := by
    rw [List.filterMap_map]
    have : ∀ l : List Nat, l.filterMap (fun (m : Nat) => xs[(((xs.size : Int) - 1) + (m : Int) * -1).toNat]?) = l.filterMap ((fun x => xs[x]?) ∘ fun k => xs.size - 1 - k) := fun l => by
      congr 1
      funext k
      have e : (((xs.size : Int) - 1) + (k : Int) * -1).toNat = xs.size - 1 - k := by omega
      simp only [Function.comp, e]
    exact this _
  rw [h2, PySem.W.krv_range, List.filterMap_reverse, h]
theorem mi_getItem_tuple_rev {t sl : Addr} {items : Array Value} {vl vu vs : Value} {Q : Value → Shared → Prop} (ht : IsTup s.heap t items) (hs : s.heap.IsSliceOf sl vl vu vs) (pl : IsPart vl none) (pu : IsPart vu none) (ps : IsPart vs (some (-1)))
    (h : Q (.ref s.heap.objs.size) { s with heap := s.heap.push { cls := .type "tuple", data := .seq items.toList.reverse.toArray } })
    (hsz : items.size ≤ sizeLine) : wpAny (model prog w) A (getItem (.ref t) (.ref sl)) Q E s := by
  have htake : sizeOk (.seq items.toList.reverse.toArray) := by
    show items.toList.reverse.toArray.size ≤ sizeLine
    rw [List.size_toArray, List.length_reverse, Array.length_toList]
    exact hsz
  obtain ⟨os, hos, hcs, hds⟩ := id hs
  have hTs : s.TypeIs (.ref sl) "slice" := ⟨os, hos, hcs⟩
  unfold getItem
  try with_reducible refine wpAny_holding ?_
  first | refine wpAny_bind (wpAny_pure ?_) | skip
  refine wpAny_bind (wpAny_sequenceKey ht.typeIs (by decide) ?_)
  refine wpAny_bind (wpAny_callSpecial?_slot (name := Str.ofString "__getitem__") ht.typeIs PyProof.Rows.slot_tuple_getitem
    (wpAny_call_entry PyProof.Rows.slot_tuple_getitem ht.typeIs entry_tuple_getitem ?_ (args_tuple_getitem _ _)))
  show wpAny _ _ (Builtin.Tuple.tupleItemsOf (.ref t) >>= _) _ _ s
  refine wpAny_bind (tupleItemsOf_ ht ?_)
  refine wpAny_bind (wpAny_typeOf hTs ?_)
  rw [if_pos (by decide)]
  refine wpAny_bind (mi_applied_rev hs pl pu ps ?_)
  have hno : ¬ ((((items.size : Int) - 1) == 0 && (-1 : Int) == 1 && items.size == items.size) = true) := by
    intro q
    rw [Bool.and_eq_true, Bool.and_eq_true] at q
    exact absurd (eq_of_beq q.1.2) (by decide)
  show wpAny _ _ (if (((items.size : Int) - 1) == 0 && (-1 : Int) == 1 && items.size == items.size) = true then _ else _) _ _ s
  rw [if_neg hno, mi_pick_rev]
  first
    | exact wpAny_bind (m := Builtin.Tuple.tupleExact _) (wpAny_newObj_type (wpAny_pure ⟨_, rfl, wpAny_pure h⟩) htake)
    | exact wpAny_bind (m := Builtin.Tuple.tupleExact _) (wpAny_newObj_type (wpAny_bind (wpAny_pure (wpAny_pure ⟨_, rfl, wpAny_pure h⟩))) htake)
    | exact wpAny_bind (wpAny_bind (m := Builtin.Tuple.tupleExact _) (wpAny_newObj_type (wpAny_pure (wpAny_pure ⟨_, rfl, wpAny_pure h⟩)) htake))
    | exact wpAny_bind (wpAny_bind (m := Builtin.Tuple.tupleExact _) (wpAny_newObj_type (wpAny_pure ⟨_, rfl, wpAny_pure h⟩) htake))
end
end HT
namespace Mi
open PySem PySem.Spec PyProof.Rows L2
section
variable {X : Cx} {T : Nat → Addr} {Wx : WX'} {pos : Pos}
/-! ### x[::-1] -/
def tRevA (K : PySem.W.Frag) (te : TE) : TE := fun σ H Q => te σ H fun x H1 => ∃ a xs, x = .ref a ∧ ((SqL K H1 a xs ∧ ∀ p, H1 p = none → Q (.ref p) (upd H1 p (.lst xs.reverse))) ∨ (SqT K H1 a xs ∧ ∀ p, H1 p = none → Q (.ref p) (upd H1 p (.tup xs.reverse))))
theorem pe_revA {e : Expr} {te : TE} {k : Nat} {p1 p2 p3 pos : Pos} (he : PE X e te) : PE X (.Subscript e (.Slice none none (some (.UnaryOp .USub (.Constant (.int 1) k p1) p2)) p3) pos) (tRevA X.K te) := by
  refine ⟨fun pins s σ H Q I h => ?_⟩
  refine Subscript_ (thn (he.run pins s σ H _ I h) fun v s1 ⟨x, H1, I1, r1, q1⟩ => ?_)
  obtain ⟨a, xs, ex, q⟩ := q1
  subst ex
  cases r1
  have hst : PO X (some (.UnaryOp .USub (.Constant (.int 1) k p1) p2)) (tPart (tUn (rU fun i => .int (-i)) (tC (.int 1)))) := po_some (pe_un un_neg pe_int)
  refine wpAny_Slice (thn (po_none.run pins s1 σ H1 (fun o H2 => o = none ∧ H2 = H1) I1 ⟨rfl, rfl⟩) fun vl s2 ⟨l, H2, I2, pl, el, e2⟩ => ?_)
  subst el e2
  refine thn (po_none.run pins s2 σ H2 (fun o H3 => o = none ∧ H3 = H2) I2 ⟨rfl, rfl⟩) fun vu s3 ⟨u, H3, I3, pu, eu, e3⟩ => ?_
  subst eu e3
  refine thn (hst.run pins s3 σ H3 (fun o H4 => o = some (-1) ∧ H4 = H3) I3 ⟨1, rfl, -1, rfl, rfl, rfl⟩) fun vs s4 ⟨o, H4, I4, ps, eo, e4⟩ => ?_
  subst eo e4
  have I5 : Inv X pins σ H4 { s4 with heap := s4.heap.push { cls := .type "slice", data := .fields #[vl, vu, vs] } } := I4.kept (t' := s4.toks) fun b ob q => Heap.get?_push_of_some _ q
  show wpAny (model X.prog X.w) X.A (subscriptTail e (.Slice none none (some (.UnaryOp .USub (.Constant (.int 1) k p1) p2)) p3) (.ref a) (.ref s4.heap.objs.size)) (EP X pins σ Q) X.xe { s4 with heap := s4.heap.push { cls := .type "slice", data := .fields #[vl, vu, vs] } }
  rcases q with ⟨hx, q⟩ | ⟨hx, q⟩
  · obtain ⟨its, r, ht, hz⟩ := I5.list hx
    have hlen := r.length
    refine tail_any (ops := [.ref a, .ref s4.heap.objs.size]) ht.isList.typeIs (PySem.slot_list_getitem.lookup) ?_ (by with_unfolding_all rfl)
    refine wpAny_getItem_list_slice ht.isList (Heap.IsSliceOf.new _ vl vu vs) pl pu ps (by decide) ?_ (by rw [List.size_toArray]; omega)
    rw [PySem.W.krv_pick]
    refine ⟨.ref _, _, I5.laid (t' := s4.toks) (o := .lst xs.reverse) (fun b ob q => Heap.get?_push_of_some _ q) (Nat.le_refl _) ?_, rfl, q _ (I5.hok.fresh (Nat.le_refl _))⟩
    exact ⟨by rw [List.length_reverse]; exact hz, _, 0, r.reverse, Heap.get?_push_size _ rfl⟩
  · obtain ⟨its, r, ht, hz⟩ := I5.tuple hx
    have hlen := r.length
    refine tail_any (ops := [.ref a, .ref s4.heap.objs.size]) ht.typeIs (PyProof.Rows.slot_tuple_getitem.lookup) ?_ (by with_unfolding_all rfl)
    refine HT.mi_getItem_tuple_rev ht (Heap.IsSliceOf.new _ vl vu vs) pl pu ps ?_ (by rw [List.size_toArray]; omega)
    refine ⟨.ref _, _, I5.laid (t' := s4.toks) (o := .tup xs.reverse) (fun b ob q => Heap.get?_push_of_some _ q) (Nat.le_refl _) ?_, rfl, q _ (I5.hok.fresh (Nat.le_refl _))⟩
    exact ⟨by rw [List.length_reverse]; exact hz, _, r.reverse, ⟨_, Heap.get?_push_size _ rfl, rfl, _, rfl⟩⟩
def wRevA (fz : Bool) (a : W) (st : Sto) : Rs W := match seqL st a with
  | some xs => newL fz xs.reverse st
  | none => match a with
    | .tup xs => .ok (.tup xs.reverse) st
    | _ => .stuck
def mRev (fz : Bool) (m : M W) : M W := fun env st => (m env st).bind fun a s1 => wRevA fz a s1
theorem se_rev {fz : Bool} {a : Expr} {ma : M W} {k : Nat} {p1 p2 p3 : Pos} (ha : SE X T Wx a ma) : SE X T Wx (.Subscript a (.Slice none none (some (.UnaryOp .USub (.Constant (.int 1) k p1) p2)) p3) pos) (mRev fz ma) := by
  intro ρ η st env σ H Q s er h
  refine ⟨_, pe_revA pe_S, ?_⟩
  refine ha ρ η st env σ H _ s er (h.bind fun w s1 ρ1 H1 v g1 sr1 r1 h1 => ?_)
  unfold wRevA at h1
  split at h1
  · rename_i xs q
    obtain ⟨p, vs, f1, f2, f3⟩ := seq_ok sr1 r1 q
    exact ⟨p, vs, f1, .inl ⟨f2, fun d hd => newL_ok h1 sr1 f3.rev hd⟩⟩
  · split at h1
    · rename_i xs q
      obtain ⟨p, vs, f1, f2, f3⟩ := tup_ok r1 (show tupL (.tup xs) = some xs from rfl)
      exact ⟨p, vs, f1, .inr ⟨f2, fun d hd => newT_ok h1 sr1 f3.rev hd⟩⟩
    · exact h1.elim
/-! ### {k: v, ..} -/
def trsOf (X : Cx) : List (Option Expr) → List Expr → List (TE × TE)
  | some k :: ks, v :: vs => (tS X k, tS X v) :: trsOf X ks vs
  | _, _ => []
def kvsV (kvs : List (Key × V)) : List (V × V) := kvs.map fun kv => (kV kv.1, kv.2)
def SDp (X : Cx) (T : Nat → Addr) (pos : Pos) (Wx : WX') (ks : List (Option Expr)) (vs : List Expr) (m : M (List (Key × W))) : Prop := PPs X pos ks vs (trsOf X ks vs) ∧
  ∀ ρ η st env σ H (Q : List (V × V) → Hp → Prop), SR X.K T ρ η st H → ER X.K ρ η H env σ → After X.K T η (fun ρ H => KVs X.K ρ η H) ρ H (m env st) (fun kvs H' => Q (kvsV kvs) H') (fun c d H' => Wx c d σ H') →
    tPairs (trsOf X ks vs) σ H Q
def mPair (mk mv : M W) (mr : M (List (Key × W))) : M (List (Key × W)) := fun env st => (mk env st).bind fun k s1 => (mv env s1).bind fun v s2 => match keyOf k with
  | some k => (mr env s2).bind fun r s3 => .ok ((k, v) :: r) s3
  | none => .stuck
def mPair0 : M (List (Key × W)) := fun _ st => .ok [] st
theorem sd_nil : SDp X T pos Wx [] [] mPair0 := ⟨pps_nil, fun ρ η st env σ H Q s er h => by
  exact h ρ H [] Grow.refl s ⟨rfl, by simpa using VRs.nil⟩⟩
theorem sd_cons {k v : Expr} {ks : List (Option Expr)} {vs : List Expr} {mk mv : M W} {mr : M (List (Key × W))} (hk : SE X T Wx k mk) (hv : SE X T Wx v mv) (hr : SDp X T pos Wx ks vs mr) : SDp X T pos Wx (some k :: ks) (v :: vs) (mPair mk mv mr) := by
  refine ⟨pps_cons pe_S pe_S hr.1, fun ρ η st env σ H Q s er h => ?_⟩
  show tS X k σ H fun x H1 => tS X v σ H1 fun y H2 => tPairs (trsOf X ks vs) σ H2 fun ps H3 => Q ((x, y) :: ps) H3
  refine hk ρ η st env σ H _ s er (h.bind fun w s1 ρ1 H1 u g1 sr1 r1 h1 => ?_)
  refine hv ρ1 η s1 env σ H1 _ sr1 (er.mono g1) (h1.bind fun w2 s2 ρ2 H2 u2 g2 sr2 r2 h2 => ?_)
  split at h2
  · rename_i kk e
    have ek := key_ok (r1.mono g2) e
    subst ek
    exact hr.2 ρ2 η s2 env σ H2 _ sr2 ((er.mono g1).mono g2) (h2.bind fun r s3 ρ3 H3 kvs g3 sr3 r3 h3 => h3.ok sr3 (KVs.mk' (r2.mono g3) r3))
  · exact h2.elim
def mDisp (m : M (List (Key × W))) : M W := fun env st => match m env st with
  | .ok kvs s1 => if kvs.length ≤ 15 then newD (mergeKW [] kvs) s1 else .stuck
  | _ => .stuck
theorem se_disp {ks : List (Option Expr)} {vs : List Expr} {m : M (List (Key × W))} (h : SDp X T pos Wx ks vs m) (hall : ks.all (·.isSome) = true := by rfl) (hl : ks.length = vs.length := by rfl) (h0 : ks ≠ [] := by simp) (h15 : ks.length ≤ 15 := by decide) : SE X T Wx (.Dict ks vs pos) (mDisp m) := by
  intro ρ η st env σ H Q s er q
  refine ⟨_, pe_disp h.1 hall hl h0 h15, ?_⟩
  intro p hp
  have D1 : Hid η H (p :: η) := hid_new hp
  have g0 : Grow ρ H ρ (upd H p (.dK [])) := Grow.new hp
  refine h.2 ρ (p :: η) st env σ (upd H p (.dK [])) _ (s.hide hp) (er.more g0 D1) ?_
  unfold mDisp at q
  cases e : m env st with
  | ok kvs s1 =>
    rw [e] at q
    simp only at q
    split at q
    · rename_i hlen
      intro ρ' H' kv g sr r
      have hp' : H' p = some (.dK []) := g.same p _ (s.fresh hp) upd_same
      refine ⟨hp', kv, rfl, by rw [r.len]; exact hlen, ?_⟩
      have gA : Grow ρ H ρ' H' := g0.trans g
      have rm : KVs X.K ρ' (p :: η) H' (mergeKW [] kvs) (mergeK [] kv) := r.merge ⟨rfl, VRs.nil⟩
      have nD : p ∉ η := s.freshH hp
      have sr' : SR X.K T ρ' (p :: η) s1 (upd H' p (.dK (mergeK [] kv))) := sr.hid' List.mem_cons_self
      have rm' : KVs X.K ρ' (p :: η) (upd H' p (.dK (mergeK [] kv))) (mergeKW [] kvs) (mergeK [] kv) := rm.hid List.mem_cons_self
      refine q (ρ' ++ [p]) _ _ ((gA.hid hp).shift hp) (sr'.shift nD ⟨_, upd_same, rm'.1, rm'.2.shift⟩) ?_
      simp only [VR]
      exact ⟨p, by rw [← sr'.len, List.getElem?_append_right (Nat.le_refl _)]; simp, rfl⟩
    · exact q.elim
  | ex x s' => rw [e] at q; exact q.elim
  | stuck => rw [e] at q; exact q.elim
end
end Mi
/-! what a run of the mirror comes to -/
namespace Mi
open PySem L2
def wp {α : Type} (r : Rs α) (P : α → Sto → Prop) (E : Xc → Sto → Prop) : Prop := match r with
  | .ok a s => P a s
  | .ex x s => E x s
  | .stuck => False
abbrev KN := Ev → Sto → Prop
abbrev KR := W → Sto → Prop
abbrev KX := Xc → Ev → Sto → Prop
def ws (r : SRs) (N : KN) (R : KR) (B C : KN) (E : KX) : Prop := match r with
  | .nx e s => N e s
  | .rt w s => R w s
  | .bk e s => B e s
  | .ct e s => C e s
  | .ex x e s => E x e s
  | .stuck => False
def NoE : Xc → Sto → Prop := fun _ _ => False
theorem wp_mono {α : Type} {r : Rs α} {P P' : α → Sto → Prop} {E E' : Xc → Sto → Prop} (h : wp r P E) (f : ∀ a s, P a s → P' a s) (g : ∀ x s, E x s → E' x s) : wp r P' E' := by
  cases r with
  | ok a s => exact f a s h
  | ex x s => exact g x s h
  | stuck => exact h
theorem wp_no {α : Type} {r : Rs α} {P P' : α → Sto → Prop} {E' : Xc → Sto → Prop} (h : wp r P NoE) (f : ∀ a s, P a s → P' a s) : wp r P' E' := wp_mono h f fun _ _ z => z.elim
theorem wp_get {α : Type} {r : Rs α} {P : α → Sto → Prop} (h : wp r P NoE) : ∃ a s, r = .ok a s ∧ P a s := by
  cases r with
  | ok a s => exact ⟨a, s, rfl, h⟩
  | ex x s => exact h.elim
  | stuck => exact h.elim
theorem ws_mono {r : SRs} {N N' : KN} {R R' : KR} {B B' C C' : KN} {E E' : KX} (h : ws r N R B C E) (f : ∀ e s, N e s → N' e s) (g : ∀ w s, R w s → R' w s) (b : ∀ e s, B e s → B' e s) (c : ∀ e s, C e s → C' e s) (x : ∀ x e s, E x e s → E' x e s) : ws r N' R' B' C' E' := by
  cases r with
  | nx e s => exact f e s h
  | rt w s => exact g w s h
  | bk e s => exact b e s h
  | ct e s => exact c e s h
  | ex y e s => exact x y e s h
  | stuck => exact h
theorem ws_nx {r : SRs} {N N' : KN} {R : KR} {B C : KN} {E : KX} (h : ws r N R B C E) (f : ∀ e s, N e s → N' e s) : ws r N' R B C E := ws_mono h f (fun _ _ z => z) (fun _ _ z => z) (fun _ _ z => z) (fun _ _ _ z => z)
section
variable {P : W → Sto → Prop} {PB : Bool → Sto → Prop} {PL : List W → Sto → Prop} {E : Xc → Sto → Prop} {env : Ev} {st : Sto}
theorem wp_ok {α : Type} {a : α} {Q : α → Sto → Prop} : wp (.ok a st) Q E ↔ Q a st := Iff.rfl
theorem wp_bind {α β : Type} {r : Rs α} {k : α → Sto → Rs β} {Q : β → Sto → Prop} : wp (r.bind k) Q E ↔ wp r (fun a s => wp (k a s) Q E) E := by cases r <;> exact Iff.rfl
theorem wp_var0 {w : W} {e : Ev} : wp (mVar 0 (some w :: e) st) P E ↔ P w st := Iff.rfl
theorem wp_varS {n : Nat} {o : Option W} {e : Ev} : wp (mVar (n + 1) (o :: e) st) P E ↔ wp (mVar n e st) P E := by
  unfold mVar
  rw [List.getElem?_cons_succ]
theorem wp_c {w : W} : wp (mC w env st) P E ↔ P w st := Iff.rfl
theorem wp_op {f : F2} {a b : M W} : wp (mOp f a b env st) P E ↔ wp (a env st) (fun x s => wp (b env s) (fun y s2 => wp (f x y s2) P E) E) E := by
  unfold mOp; simp only [wp_bind]
theorem wp_neg {a : M W} : wp (mNeg a env st) P E ↔ wp (a env st) (fun x s => wp (match x with | .int i => .ok (.int (-i)) s | _ => .stuck) P E) E := by
  unfold mNeg; simp only [wp_bind] <;> rfl
theorem wp_toB {b : Bool} : wp (toB (.bl b) st) PB E ↔ PB b st := Iff.rfl
theorem wp_mB {a : M W} : wp (mB a env st) PB E ↔ wp (a env st) (fun w s => wp (toB w s) PB E) E := by
  unfold mB; simp only [wp_bind]
def trB (w : W) (s : Sto) : Rs Bool := match trW s w with
  | some b => .ok b s
  | none => .stuck
theorem wp_tr {a : M W} : wp (mTr a env st) PB E ↔ wp (a env st) (fun w s => wp (trB w s) PB E) E := by
  unfold mTr; simp only [wp_bind] <;> rfl
theorem wp_trB_bl {b : Bool} : wp (trB (.bl b) st) PB E ↔ PB b st := Iff.rfl
theorem wp_trB_non : wp (trB .non st) PB E ↔ PB false st := Iff.rfl
theorem wp_trB_int {i : Int} : wp (trB (.int i) st) PB E ↔ PB (i != 0) st := Iff.rfl
theorem wp_not {m : M Bool} : wp (mNot m env st) PB E ↔ wp (m env st) (fun b s => PB (!b) s) E := by
  unfold mNot; simp only [wp_bind, wp_ok]
theorem wp_ite {α : Type} {c : Prop} [Decidable c] {r k : Rs α} {Q : α → Sto → Prop} : wp (if c then r else k) Q E ↔ if c then wp r Q E else wp k Q E := by
  by_cases h : c <;> simp [h]
theorem wp_and {m k : M Bool} : wp (mAnd m k env st) PB E ↔ wp (m env st) (fun b s => if b = true then wp (k env s) PB E else PB false s) E := by
  unfold mAnd; simp only [wp_bind, wp_ite, wp_ok]
theorem wp_or {m k : M Bool} : wp (mOr m k env st) PB E ↔ wp (m env st) (fun b s => if b = true then PB true s else wp (k env s) PB E) E := by
  unfold mOr; simp only [wp_bind, wp_ite, wp_ok]
theorem wp_if {α : Type} {c : M Bool} {a b : M α} {Q : α → Sto → Prop} : wp (mIf c a b env st) Q E ↔ wp (c env st) (fun z s => if z = true then wp (a env s) Q E else wp (b env s) Q E) E := by
  unfold mIf; simp only [wp_bind, wp_ite]
theorem wp_mBl {m : M Bool} : wp (mBl m env st) P E ↔ wp (m env st) (fun b s => P (.bl b) s) E := by
  unfold mBl; simp only [wp_bind, wp_ok]
theorem wp_nil : wp (mNil env st) PL E ↔ PL [] st := Iff.rfl
theorem wp_cons {a : M W} {r : M (List W)} : wp (mCons a r env st) PL E ↔ wp (a env st) (fun x s => wp (r env s) (fun xs s2 => PL (x :: xs) s2) E) E := by
  unfold mCons; simp only [wp_bind, wp_ok]
theorem wp_star {a : M W} {r : M (List W)} : wp (mStar a r env st) PL E ↔ wp (a env st) (fun x s => wp (match itsW s x with | some xs => .ok xs s | none => .stuck) (fun xs s2 => wp (r env s2) (fun ys s3 => PL (xs ++ ys) s3) E) E) E := by
  unfold mStar; simp only [wp_bind]
  constructor
  · intro h
    refine wp_mono h (fun x s h => ?_) (fun _ _ z => z)
    split at h
    · rename_i xs e; first | (rw [e]; simpa only [wp_bind, wp_ok] using h) | simpa only [wp_bind, wp_ok] using h
    · exact h.elim
  · intro h
    refine wp_mono h (fun x s h => ?_) (fun _ _ z => z)
    split at h
    · rename_i xs e; simp only [e, wp_bind, wp_ok] at h ⊢; exact h
    · exact h.elim
theorem wp_tup {m : M (List W)} : wp (mTup m env st) P E ↔ wp (m env st) (fun xs s => P (.tup xs) s) E := by
  unfold mTup; simp only [wp_bind, wp_ok]
theorem wp_lst {fz : Bool} {m : M (List W)} : wp (mLst fz m env st) P E ↔ wp (m env st) (fun xs s => wp (newL fz xs s) P E) E := by
  unfold mLst; simp only [wp_bind]
theorem wp_lstS {fz : Bool} {m : M (List W)} : wp (mLstS fz m env st) P E ↔ wp (m env st) (fun xs s => xs.length ≤ sizeLine ∧ wp (newL fz xs s) P E) E := by
  unfold mLstS; simp only [wp_bind]
  constructor
  · intro h
    refine wp_mono h (fun x s h => ?_) (fun _ _ z => z)
    split at h
    · rename_i q; exact ⟨q, h⟩
    · exact h.elim
  · intro h
    refine wp_mono h (fun x s h => ?_) (fun _ _ z => z)
    rw [if_pos h.1]; exact h.2
theorem wp_newL_t {xs : List W} : wp (newL true xs st) P E ↔ P (.lst xs) st := Iff.rfl
theorem wp_newL_f {xs : List W} : wp (newL false xs st) P E ↔ P (.ref st.length) (st ++ [.lst xs]) := Iff.rfl
theorem wp_dict0 : wp (mDict0 env st) P E ↔ P (.ref st.length) (st ++ [.dk []]) := Iff.rfl
theorem wp_chain {f g : F2} {a b c : M W} : wp (mChain f g a b c env st) P E ↔ wp (a env st) (fun x s => wp (b env s) (fun y s2 => wp (f x y s2) (fun z s3 => wp (toB z s3) (fun t s4 => if t = true then wp (c env s4) (fun u s5 => wp (g y u s5) P E) E else P (.bl false) s4) E) E) E) E := by
  unfold mChain; simp only [wp_bind]
  constructor
  · intro h
    refine wp_mono h (fun x s h => wp_mono h (fun y s2 h => wp_mono h (fun z s3 h => ?_) (fun _ _ z => z)) (fun _ _ z => z)) (fun _ _ z => z)
    split at h
    · simpa only [wp_toB, if_true, wp_bind] using h
    · simpa only [wp_toB, if_false, Bool.false_eq_true, wp_ok] using h
    · exact h.elim
  · intro h
    refine wp_mono h (fun x s h => wp_mono h (fun y s2 h => wp_mono h (fun z s3 h => ?_) (fun _ _ z => z)) (fun _ _ z => z)) (fun _ _ z => z)
    cases z with
    | bl t => cases t <;> simpa only [wp_toB, if_true, if_false, Bool.false_eq_true, wp_bind, wp_ok] using h
    | _ => exact h.elim
theorem wp_call {run : RunM} {m : M (List W)} : wp (mCall run m env st) P E ↔ wp (m env st) (fun ws s => wp (run ws s) P E) E := by
  unfold mCall; simp only [wp_bind]
theorem wp_fn {f : FC} {m : M (List W)} : wp (mFn f m env st) P E ↔ wp (m env st) (fun ws s => wp (f ws s) P E) E := by
  unfold mFn; simp only [wp_bind]
def isiR (ns : List String) (w : W) (s : Sto) : Rs W := match tyOf s w with
  | some t => match kitAB t ns with
    | some b => .ok (.bl b) s
    | none => .stuck
  | none => .stuck
theorem wp_isiTT {n1 n2 : String} {m : M W} : wp (mIsiT n1 n2 m env st) P E ↔ wp (m env st) (fun w s => wp (isiR [n1, n2] w s) P E) E := by
  unfold mIsiT; simp only [wp_bind] <;> rfl
theorem wp_sl {fz : Bool} {ma : M W} {ml mh : M (Option Int)} : wp (mSl fz ma ml mh env st) P E ↔ wp (ma env st) (fun a s => wp (ml env s) (fun lo s2 => wp (mh env s2) (fun hi s3 => wp (wSl fz a lo hi s3) P E) E) E) E := by
  unfold mSl; simp only [wp_bind]
theorem wp_noPart {Q : Option Int → Sto → Prop} : wp (mNoPart env st) Q E ↔ Q none st := Iff.rfl
theorem wp_part {Q : Option Int → Sto → Prop} {m : M W} : wp (mPart m env st) Q E ↔ wp (m env st) (fun a s => wp (match a with | .int i => .ok (some i) s | _ => .stuck) Q E) E := by
  unfold mPart; simp only [wp_bind] <;> rfl
theorem wp_lm {f : FM} {o : M W} {m : M (List W)} : wp (mLm f o m env st) P E ↔ wp (o env st) (fun x s => (seqL s x).isSome = true ∧ wp (m env s) (fun xs s2 => wp (f x xs s2) P E) E) E := by
  unfold mLm; simp only [wp_bind]
  constructor
  · intro h
    refine wp_mono h (fun x s h => ?_) (fun _ _ z => z)
    split at h
    · rename_i q; exact ⟨q, by simpa only [wp_bind] using h⟩
    · exact h.elim
  · intro h
    refine wp_mono h (fun x s h => ?_) (fun _ _ z => z)
    rw [if_pos h.1]; simpa only [wp_bind] using h.2
theorem wp_comp {fz : Bool} {mi : MI} {vs : List Nat} {t : CT} {cond : M Bool} {elt : M W} : wp (mComp fz mi vs t cond elt env st) P E ↔ wp (mi env st) (fun s st1 => wp (compS s t cond elt (wipeW env vs) s.fuel 0 [] st1) (fun xs st2 => wp (newL fz xs st2) P E) E) E := by
  unfold mComp; simp only [wp_bind]
theorem wp_yes : wp (mYes env st) PB E ↔ PB true st := Iff.rfl
/-! values -/
theorem wp_add {b : Bool} {i j : Int} : wp (wAdd b (.int i) (.int j) st) P E ↔ P (.int (i + j)) st := Iff.rfl
theorem wp_addL {xs ys : List W} : wp (wAdd true (.lst xs) (.lst ys) st) P E ↔ xs.length + ys.length ≤ sizeLine ∧ P (.lst (xs ++ ys)) st := by
  show wp (if xs.length + ys.length ≤ sizeLine then newL true (xs ++ ys) st else .stuck) P E ↔ _
  rw [wp_ite]
  by_cases h : xs.length + ys.length ≤ sizeLine
  · simp only [h, if_true, true_and]; exact Iff.rfl
  · simp only [h, if_false, false_and]; exact Iff.rfl
theorem wp_addT {b : Bool} {xs ys : List W} : wp (wAdd b (.tup xs) (.tup ys) st) P E ↔ xs.length + ys.length ≤ sizeLine ∧ P (.tup (xs ++ ys)) st := by
  show wp (if xs.length + ys.length ≤ sizeLine then .ok (.tup (xs ++ ys)) st else .stuck) P E ↔ _
  rw [wp_ite]
  by_cases h : xs.length + ys.length ≤ sizeLine
  · rw [if_pos h]; exact ⟨fun z => ⟨h, z⟩, fun z => z.2⟩
  · rw [if_neg h]; exact ⟨fun z => z.elim, fun z => (h z.1).elim⟩
theorem wp_sub {i j : Int} : wp (wSub (.int i) (.int j) st) P E ↔ P (.int (i - j)) st := Iff.rfl
theorem wp_mul {b : Bool} {i j : Int} : wp (wMul b (.int i) (.int j) st) P E ↔ (Mi.small64 i || Mi.small64 j) = true ∧ P (.int (i * j)) st := by
  show wp (if Mi.small64 i || Mi.small64 j then .ok (.int (i * j)) st else .stuck) P E ↔ _
  rw [wp_ite]
  by_cases h : (Mi.small64 i || Mi.small64 j) = true
  · rw [if_pos h]; exact ⟨fun z => ⟨h, z⟩, fun z => z.2⟩
  · rw [if_neg h]; exact ⟨fun z => z.elim, fun z => (h z.1).elim⟩
theorem wp_mod {i j : Int} : wp (wMod (.int i) (.int j) st) P E ↔ j ≠ 0 ∧ P (.int (i.fmod j)) st := by
  show wp (if j ≠ 0 then .ok (.int (i.fmod j)) st else .stuck) P E ↔ _
  rw [wp_ite]
  by_cases h : j ≠ 0
  · rw [if_pos h]; exact ⟨fun z => ⟨h, z⟩, fun z => z.2⟩
  · rw [if_neg h]; exact ⟨fun z => z.elim, fun z => (h z.1).elim⟩
theorem wp_div {i j : Int} : wp (wDiv (.int i) (.int j) st) P E ↔ (j ≠ 0 ∧ j.natAbs < 1073741824) ∧ P (.int (i.fdiv j)) st := by
  show wp (if j ≠ 0 ∧ j.natAbs < 1073741824 then .ok (.int (i.fdiv j)) st else .stuck) P E ↔ _
  rw [wp_ite]
  by_cases h : j ≠ 0 ∧ j.natAbs < 1073741824
  · rw [if_pos h]; exact ⟨fun z => ⟨h, z⟩, fun z => z.2⟩
  · rw [if_neg h]; exact ⟨fun z => z.elim, fun z => (h z.1).elim⟩
theorem wp_divW {i j : Int} : wp (wDivW (.int i) (.int j) st) P E ↔ (0 < j ∧ j.natAbs.log2 < 9000) ∧ P (.int (i / j)) st := by
  show wp (if 0 < j ∧ j.natAbs.log2 < 9000 then .ok (.int (i / j)) st else .stuck) P E ↔ _
  rw [wp_ite]
  by_cases h : 0 < j ∧ j.natAbs.log2 < 9000
  · rw [if_pos h]; exact ⟨fun z => ⟨h, z⟩, fun z => z.2⟩
  · rw [if_neg h]; exact ⟨fun z => z.elim, fun z => (h z.1).elim⟩
theorem wp_pow18 : wp (wPow (.int 10) (.int 18) st) P E ↔ P (.int 1000000000000000000) st := by
  have : wPow (.int 10) (.int 18) st = .ok (.int 1000000000000000000) st := rfl
  rw [this]; exact Iff.rfl
theorem wp_pow17 : wp (wPow (.int 10) (.int 17) st) P E ↔ P (.int 100000000000000000) st := by
  have : wPow (.int 10) (.int 17) st = .ok (.int 100000000000000000) st := rfl
  rw [this]; exact Iff.rfl
theorem wp_pow16 : wp (wPow (.int 10) (.int 16) st) P E ↔ P (.int 10000000000000000) st := by
  have : wPow (.int 10) (.int 16) st = .ok (.int 10000000000000000) st := rfl
  rw [this]; exact Iff.rfl
theorem wp_pow30 : wp (wPow (.int 10) (.int 30) st) P E ↔ P (.int 1000000000000000000000000000000) st := by
  have : wPow (.int 10) (.int 30) st = .ok (.int 1000000000000000000000000000000) st := rfl
  rw [this]; exact Iff.rfl
theorem wp_eqI {i j : Int} : wp (wEq (.int i) (.int j) st) P E ↔ P (.bl (decide (i = j))) st := by
  have : wEq (.int i) (.int j) st = .ok (.bl (decide (i = j))) st := by simp [wEq, eqW, scalV, scal]
  rw [this]; exact Iff.rfl
theorem wp_neI {i j : Int} : wp (wNe (.int i) (.int j) st) P E ↔ P (.bl (!decide (i = j))) st := by
  have : wNe (.int i) (.int j) st = .ok (.bl (!decide (i = j))) st := by simp [wNe, eqW, scalV, scal]
  rw [this]; exact Iff.rfl
theorem wp_cmpI {p : Str → Str → Bool} {q : Int → Int → Bool} {i j : Int} : wp (wCmpS p q (.int i) (.int j) st) P E ↔ P (.bl (q i j)) st := Iff.rfl
theorem wp_isN {a : W} : wp (wIs a .non st) P E ↔ P (.bl (isNon a)) st := Iff.rfl
theorem wp_isNotN {a : W} : wp (wIsNot a .non st) P E ↔ P (.bl (!isNon a)) st := Iff.rfl
theorem wp_lenL {xs : List W} : wp (fLen [.lst xs] st) P E ↔ P (.int xs.length) st := Iff.rfl
theorem wp_lenT {xs : List W} : wp (fLen [.tup xs] st) P E ↔ P (.int xs.length) st := Iff.rfl
theorem wp_lenR {i : Nat} {xs : List W} (e : st[i]? = some (.lst xs)) : wp (fLen [.ref i] st) P E ↔ P (.int xs.length) st := by
  have : fLen [.ref i] st = .ok (.int xs.length) st := by simp [fLen, seqL, e]
  rw [this]; exact Iff.rfl
theorem wp_abs {i : Int} : wp (fAbs [.int i] st) P E ↔ P (.int (if i < 0 then -i else i)) st := Iff.rfl
theorem wp_int {i : Int} : wp (fInt [.int i] st) P E ↔ P (.int i) st := Iff.rfl
theorem wp_min2 {i j : Int} : wp (fMin2 [.int i, .int j] st) P E ↔ P (.int (if j < i then j else i)) st := Iff.rfl
theorem wp_max2 {i j : Int} : wp (fMax2 [.int i, .int j] st) P E ↔ P (.int (if j > i then j else i)) st := Iff.rfl
theorem wp_listL {xs : List W} : wp (fList true [.lst xs] st) P E ↔ P (.lst xs) st := Iff.rfl
theorem wp_listT {xs : List W} : wp (fList true [.tup xs] st) P E ↔ P (.lst xs) st := Iff.rfl
theorem wp_tupleL {xs : List W} : wp (fTuple [.lst xs] st) P E ↔ P (.tup xs) st := Iff.rfl
theorem wp_tupleT {xs : List W} : wp (fTuple [.tup xs] st) P E ↔ P (.tup xs) st := Iff.rfl
theorem wp_tupleR {i : Nat} {xs : List W} (e : st[i]? = some (.lst xs)) : wp (fTuple [.ref i] st) P E ↔ P (.tup xs) st := by
  have : fTuple [.ref i] st = .ok (.tup xs) st := by simp [fTuple, seqL, e]
  rw [this]; exact Iff.rfl
theorem wp_app {i : Nat} {xs : List W} {w : W} (e : st[i]? = some (.lst xs)) (h : xs.length < sizeLine) : wp (fAppend (.ref i) [w] st) P E ↔ P .non (st.set i (.lst (xs ++ [w]))) := by
  have : fAppend (.ref i) [w] st = .ok .non (st.set i (.lst (xs ++ [w]))) := by simp [fAppend, nodL, e, h]
  rw [this]; exact Iff.rfl
theorem wp_ixL {xs : List W} {n : Nat} {w : W} (e : xs[n]? = some w) : wp (wIx (.lst xs) (.int (n : Int)) st) P E ↔ P w st := by
  have h : n < xs.length := (List.getElem?_eq_some_iff.mp e).1
  have q : xs[n] = w := (List.getElem?_eq_some_iff.mp e).2
  have : wIx (.lst xs) (.int (n : Int)) st = .ok w st := by simp [wIx, dkOf, seqL, wNth, atI, ixN, h, q]
  rw [this]; exact Iff.rfl
theorem wp_ixT {xs : List W} {n : Nat} {w : W} (e : xs[n]? = some w) : wp (wIx (.tup xs) (.int (n : Int)) st) P E ↔ P w st := by
  have h : n < xs.length := (List.getElem?_eq_some_iff.mp e).1
  have q : xs[n] = w := (List.getElem?_eq_some_iff.mp e).2
  have : wIx (.tup xs) (.int (n : Int)) st = .ok w st := by simp [wIx, dkOf, seqL, tupL, wNth, atI, ixN, h, q]
  rw [this]; exact Iff.rfl
theorem wp_ixLi {xs : List W} {i : Int} {w : W} (h : 0 ≤ i) (e : xs[i.toNat]? = some w) : wp (wIx (.lst xs) (.int i) st) P E ↔ P w st := by
  have : wp (wIx (.lst xs) (.int (i.toNat : Int)) st) P E ↔ P w st := wp_ixL e
  rwa [Int.toNat_of_nonneg h] at this
theorem wp_ixT0 {w : W} {xs : List W} : wp (wIx (.tup (w :: xs)) (.int 0) st) P E ↔ P w st := wp_ixT (n := 0) rfl
theorem wp_ixT1 {v w : W} {xs : List W} : wp (wIx (.tup (v :: w :: xs)) (.int 1) st) P E ↔ P w st := wp_ixT (n := 1) rfl
theorem wp_ixL0 {w : W} {xs : List W} : wp (wIx (.lst (w :: xs)) (.int 0) st) P E ↔ P w st := wp_ixL (n := 0) rfl
theorem wp_ixR {i n : Nat} {xs : List W} {w : W} (e : st[i]? = some (.lst xs)) (e2 : xs[n]? = some w) : wp (wIx (.ref i) (.int (n : Int)) st) P E ↔ P w st := by
  have h : n < xs.length := (List.getElem?_eq_some_iff.mp e2).1
  have q : xs[n] = w := (List.getElem?_eq_some_iff.mp e2).2
  have : wIx (.ref i) (.int (n : Int)) st = .ok w st := by simp [wIx, dkOf, seqL, e, wNth, atI, ixN, h, q]
  rw [this]; exact Iff.rfl
end
section
variable {N : KN} {R : KR} {B C : KN} {E : KX} {env : Ev} {st : Sto}
theorem ws_to {α : Type} {r : Rs α} {k : α → Sto → SRs} : ws (r.to env k) N R B C E ↔ wp r (fun a s => ws (k a s) N R B C E) (fun x s => E x env s) := by cases r <;> exact Iff.rfl
theorem ws_seq {m k : MS} : ws (sSeq m k env st) N R B C E ↔ ws (m env st) (fun e s => ws (k e s) N R B C E) R B C E := by
  unfold sSeq
  cases m env st <;> exact Iff.rfl
theorem ws_sNx : ws (sNx env st) N R B C E ↔ N env st := Iff.rfl
theorem ws_ret {m : M W} : ws (sRet m env st) N R B C E ↔ wp (m env st) R (fun x s => E x env s) := by
  unfold sRet; rw [ws_to]; exact Iff.rfl
theorem ws_retN : ws (sRetN env st) N R B C E ↔ R .non st := Iff.rfl
theorem ws_expr {m : M W} : ws (sExpr m env st) N R B C E ↔ wp (m env st) (fun _ s => N env s) (fun x s => E x env s) := by
  unfold sExpr; rw [ws_to]; exact Iff.rfl
theorem ws_ite {c : Prop} [Decidable c] {r k : SRs} : ws (if c then r else k) N R B C E ↔ if c then ws r N R B C E else ws k N R B C E := by
  by_cases h : c <;> simp [h]
theorem ws_if {c : M Bool} {m k : MS} : ws (sIf c m k env st) N R B C E ↔ wp (c env st) (fun b s => if b = true then ws (m env s) N R B C E else ws (k env s) N R B C E) (fun x s => E x env s) := by
  unfold sIf; simp only [ws_to, ws_ite]
theorem ws_set {i : Nat} {m : M W} : ws (sAsg m (gName' i) env st) N R B C E ↔ wp (m env st) (fun w s => N (env.set i (some w)) s) (fun x s => E x env s) := by
  unfold sAsg; rw [ws_to]; exact Iff.rfl
def stR (o i w : W) (s : Sto) : Rs Unit := match wStore o i w s with
  | some s3 => .ok () s3
  | none => .stuck
theorem wp_stR {o i w : W} {s s3 : Sto} {P : Unit → Sto → Prop} {E : Xc → Sto → Prop} (e : wStore o i w s = some s3) : wp (stR o i w s) P E ↔ P () s3 := by
  unfold stR; rw [e]; exact Iff.rfl
theorem ws_sub {mo mi : M W} {m : M W} : ws (sAsg m (gSub' mo mi) env st) N R B C E ↔ wp (m env st) (fun w s => wp (mo env s) (fun o s1 => wp (mi env s1) (fun i s2 => wp (stR o i w s2) (fun _ s3 => N env s3) NoE) NoE) NoE) (fun x s => E x env s) := by
  unfold sAsg; rw [ws_to]
  have e : ∀ w s, ws (gDo (gSub' mo mi w env s)) N R B C E ↔ wp (mo env s) (fun o s1 => wp (mi env s1) (fun i s2 => wp (stR o i w s2) (fun _ s3 => N env s3) NoE) NoE) NoE := by
    intro w s
    unfold gSub' stR
    cases h1 : mo env s with
    | ok o s1 =>
      cases h2 : mi env s1 with
      | ok i s2 =>
        cases h3 : wStore o i w s2 with
        | some s3 => simp only [h2, h3, wp]; exact Iff.rfl
        | none => simp only [h2, h3, wp]; exact Iff.rfl
      | ex x s2 => simp only [h2, wp]; exact Iff.rfl
      | stuck => simp only [h2, wp]; exact Iff.rfl
    | ex x s2 => exact Iff.rfl
    | stuck => exact Iff.rfl
  simp only [e]
theorem ws_for {mi : MI} {g : MG} {b : MS} : ws (sFor mi g b env st) N R B C E ↔ wp (mi env st) (fun s st1 => ws (forS s g b s.fuel 0 env st1) N R B C E) (fun x s => E x env s) := by
  unfold sFor; rw [ws_to]
theorem ws_if_to {c : M Bool} {m k : MS} {b : Bool} (h : wp (c env st) (fun x s => x = b ∧ s = st) NoE) (p : ws (if b = true then m env st else k env st) N R B C E) : ws (sIf c m k env st) N R B C E := by
  rw [ws_if]
  refine wp_no h fun x s z => ?_
  rw [z.1, z.2, ← ws_ite]
  exact p
/-- a walk over things that stand still -/
theorem forS_fix {xs : List W} {g : MG} {b : MS} (inv : Nat → KN) (h0 : inv 0 env st)
    (step : ∀ (i : Nat) (w : W), xs[i]? = some w → ∀ env st, inv i env st → ∃ env1 st1, g w env st = some (env1, st1) ∧ ws (b env1 st1) (inv (i + 1)) R N (inv (i + 1)) E)
    (fin : ∀ env st, inv xs.length env st → N env st) : ws (forS (fixS xs) g b (fixS xs).fuel 0 env st) N R B C E := by
  suffices H : ∀ m i env st, xs.length < i + m → i ≤ xs.length → inv i env st → ws (forS (fixS xs) g b m i env st) N R B C E by
    refine H _ _ _ _ ?_ (Nat.zero_le _) h0
    show xs.length < 0 + (xs.length + 1)
    omega
  intro m
  induction m with
  | zero => intro i env st h1 h2; omega
  | succ m ih =>
    intro i env st h1 h2 hi
    show ws (match (some xs[i]? : Option (Option W)) with | some (some w) => _ | some none => _ | none => _) N R B C E
    by_cases e : i = xs.length
    · rw [List.getElem?_eq_none (by omega)]
      subst e
      exact fin env st hi
    · have hl : i < xs.length := by omega
      rw [List.getElem?_eq_getElem hl]
      obtain ⟨env1, st1, e1, q⟩ := step i xs[i] (List.getElem?_eq_getElem hl) env st hi
      simp only [e1]
      cases e2 : b env1 st1 with
      | nx e s => rw [e2] at q; exact ih (i + 1) e s (by omega) (by omega) q
      | ct e s => rw [e2] at q; exact ih (i + 1) e s (by omega) (by omega) q
      | bk e s => rw [e2] at q; exact q
      | rt w s => rw [e2] at q; exact q
      | ex x e s => rw [e2] at q; exact q
      | stuck => rw [e2] at q; exact q
end
section
variable {Q : List W → Sto → Prop} {E : Xc → Sto → Prop} {env : Ev} {st : Sto}
/-- a comprehension over things that stand still -/
theorem compS_fix {xs : List W} {t : CT} {cond : M Bool} {elt : M W} (inv : Nat → List W → Sto → Prop) (h0 : inv 0 [] st) (hl : xs.length ≤ sizeLine)
    (hacc : ∀ i acc st, inv i acc st → acc.length ≤ i)
    (step : ∀ (i : Nat) (w : W), xs[i]? = some w → ∀ acc st, inv i acc st → ∃ env1, t.put w env = some env1 ∧ wp (cond env1 st) (fun c s => if c = true then wp (elt env1 s) (fun v s2 => inv (i + 1) (acc ++ [v]) s2) NoE else inv (i + 1) acc s) NoE)
    (fin : ∀ acc st, inv xs.length acc st → Q acc st) : wp (compS (fixS xs) t cond elt env (fixS xs).fuel 0 [] st) Q E := by
  suffices H : ∀ m i acc st, xs.length < i + m → i ≤ xs.length → inv i acc st → wp (compS (fixS xs) t cond elt env m i acc st) Q E by
    refine H _ _ _ _ ?_ (Nat.zero_le _) h0
    show xs.length < 0 + (xs.length + 1)
    omega
  intro m
  induction m with
  | zero => intro i acc st h1 h2; omega
  | succ m ih =>
    intro i acc st h1 h2 hi
    show wp (match (some xs[i]? : Option (Option W)) with | some (some w) => _ | some none => _ | none => _) Q E
    by_cases e : i = xs.length
    · rw [List.getElem?_eq_none (by omega)]
      subst e
      exact fin acc st hi
    · have hx : i < xs.length := by omega
      rw [List.getElem?_eq_getElem hx]
      obtain ⟨env1, e1, q⟩ := step i xs[i] (List.getElem?_eq_getElem hx) acc st hi
      obtain ⟨c, s, e2, q⟩ := wp_get q
      simp only [e1, e2]
      cases c with
      | false => exact ih (i + 1) acc s (by omega) (by omega) q
      | true =>
        obtain ⟨v, s2, e3, q⟩ := wp_get q
        have := hacc i acc st hi
        simp only [e3]
        rw [if_pos (by omega)]
        exact ih (i + 1) (acc ++ [v]) s2 (by omega) (by omega) q
end
section
variable {P : Src → Sto → Prop} {E : Xc → Sto → Prop} {env : Ev} {st : Sto}
def srcL (w : W) (s : Sto) : Rs Src := match w with
  | .lst xs => .ok (fixS xs) s
  | .scr xs => .ok (fixS xs) s
  | .tup xs => .stuck
  | .ref n => match s[n]? with
    | some (.lst xs) => .ok (nodS n xs.length) s
    | _ => .stuck
  | _ => .stuck
def srcA (w : W) (s : Sto) : Rs Src := match w with
  | .tup xs => .ok (fixS xs) s
  | w => srcL w s
theorem wp_iL {m : M W} : wp (iL m env st) P E ↔ wp (m env st) (fun w s => wp (srcL w s) P E) E := by
  unfold iL; rw [wp_bind] <;> exact Iff.rfl
theorem wp_iT {m : M W} : wp (iT m env st) P E ↔ wp (m env st) (fun w s => wp (match w with | .tup xs => .ok (fixS xs) s | _ => .stuck) P E) E := by
  unfold iT; rw [wp_bind] <;> exact Iff.rfl
theorem wp_iA {m : M W} : wp (iA m env st) P E ↔ wp (m env st) (fun w s => wp (srcA w s) P E) E := by
  unfold iA
  cases e : m env st with
  | ok w s =>
    cases w with
    | tup xs => simp only [wp_iT, e]; exact Iff.rfl
    | _ => simp only [wp_iL, e]; exact Iff.rfl
  | ex x s => simp only [wp_iL, e]; exact Iff.rfl
  | stuck => simp only [wp_iL, e]; exact Iff.rfl
theorem wp_srcL {xs : List W} : wp (srcL (.lst xs) st) P E ↔ P (fixS xs) st := Iff.rfl
theorem wp_srcS {xs : List W} : wp (srcL (.scr xs) st) P E ↔ P (fixS xs) st := Iff.rfl
theorem wp_srcAL {xs : List W} : wp (srcA (.lst xs) st) P E ↔ P (fixS xs) st := Iff.rfl
theorem wp_srcAT {xs : List W} : wp (srcA (.tup xs) st) P E ↔ P (fixS xs) st := Iff.rfl
def rng1 (ws : List W) (s : Sto) : Rs Src := match ws with
  | [.int j] => if small62 j then .ok (fixS (rngW 0 j.toNat)) s else .stuck
  | _ => .stuck
def rng2 (ws : List W) (s : Sto) : Rs Src := match ws with
  | [.int i, .int j] => if small62 i ∧ small62 j then .ok (fixS (rngW i (j - i).toNat)) s else .stuck
  | _ => .stuck
theorem wp_iR1 {m : M (List W)} : wp (iR1 m env st) P E ↔ wp (m env st) (fun w s => wp (rng1 w s) P E) E := by
  unfold iR1; rw [wp_bind] <;> exact Iff.rfl
theorem wp_iR2 {m : M (List W)} : wp (iR2 m env st) P E ↔ wp (m env st) (fun w s => wp (rng2 w s) P E) E := by
  unfold iR2; rw [wp_bind] <;> exact Iff.rfl
theorem wp_rng1 {j : Int} : wp (rng1 [.int j] st) P E ↔ Mi.small62 j = true ∧ P (fixS (rngW 0 j.toNat)) st := by
  show wp (if Mi.small62 j then .ok (fixS (rngW 0 j.toNat)) st else .stuck) P E ↔ _
  rw [wp_ite]
  by_cases h : Mi.small62 j = true
  · rw [if_pos h]; exact ⟨fun z => ⟨h, z⟩, fun z => z.2⟩
  · rw [if_neg h]; exact ⟨fun z => z.elim, fun z => (h z.1).elim⟩
theorem wp_rng2 {i j : Int} : wp (rng2 [.int i, .int j] st) P E ↔ (Mi.small62 i ∧ Mi.small62 j) ∧ P (fixS (rngW i (j - i).toNat)) st := by
  show wp (if small62 i ∧ small62 j then .ok (fixS (rngW i (j - i).toNat)) st else .stuck) P E ↔ _
  rw [wp_ite]
  by_cases h : (Mi.small62 i ∧ Mi.small62 j : Prop)
  · rw [if_pos h]; exact ⟨fun z => ⟨h, z⟩, fun z => z.2⟩
  · rw [if_neg h]; exact ⟨fun z => z.elim, fun z => (h z.1).elim⟩
def srcR (w : W) (s : Sto) : Rs Src := match w with
  | .lst xs => .ok (fixS xs.reverse) s
  | .tup xs => .ok (fixS xs.reverse) s
  | _ => .stuck
theorem wp_iRv {m : M W} : wp (iRv m env st) P E ↔ wp (m env st) (fun w s => wp (srcR w s) P E) E := by
  unfold iRv; rw [wp_bind] <;> exact Iff.rfl
theorem wp_srcRL {xs : List W} : wp (srcR (.lst xs) st) P E ↔ P (fixS xs.reverse) st := Iff.rfl
theorem wp_srcRT {xs : List W} : wp (srcR (.tup xs) st) P E ↔ P (fixS xs.reverse) st := Iff.rfl
/-- what enumerate tells -/
def enL (xs : List W) : List W := (List.range xs.length).map fun (i : Nat) => W.tup [.int i, xs.getD i .non]
theorem enL_at {xs : List W} {i : Nat} {s : Sto} : (enumW (fixS xs)).at_ i s = (fixS (enL xs)).at_ i s := by
  show (match (some xs[i]? : Option (Option W)) with | some (some w) => some (some (.tup [.int i, w])) | some none => some none | none => none) = some (enL xs)[i]?
  unfold enL
  rw [List.getElem?_map]
  by_cases h : i < xs.length
  · rw [List.getElem?_eq_getElem h, List.getElem?_eq_getElem (by simpa using h)]
    simp [List.getD, h]
  · rw [List.getElem?_eq_none (by omega), List.getElem?_eq_none (by simp; omega)]
    rfl
theorem en_src {xs : List W} : enumW (fixS xs) = fixS (enL xs) := by
  have e1 : (enumW (fixS xs)).fuel = (fixS (enL xs)).fuel := by simp [enumW, fixS, enL]
  have e2 : (enumW (fixS xs)).at_ = (fixS (enL xs)).at_ := by funext i s; exact enL_at
  cases h : enumW (fixS xs)
  cases k : fixS (enL xs)
  rw [h, k] at e1 e2
  simp only at e1 e2
  rw [e1, e2]
def srcE (ws : List W) (s : Sto) : Rs Src := match ws with
  | [.tup xs] => .ok (fixS (enL xs)) s
  | [.lst xs] => .ok (fixS (enL xs)) s
  | [.scr xs] => .ok (fixS (enL xs)) s
  | [.ref n] => match s[n]? with
    | some (.lst xs) => .ok (enumW (nodS n xs.length)) s
    | _ => .stuck
  | _ => .stuck
theorem iE_src {m : M (List W)} : iE m env st = (m env st).bind fun ws s => match ws with | [.tup _] => .stuck | ws => srcE ws s := by
  unfold iE
  cases m env st with
  | ok ws s =>
    show (match ws with | [w] => _ | _ => _) = _
    cases ws with
    | nil => rfl
    | cons w r =>
      cases r with
      | nil =>
        cases w with
        | ref n =>
          show (match srcOf s (.ref n) with | some src => Rs.ok (enumW src) s | none => .stuck) = srcE [.ref n] s
          simp only [srcOf, srcE]
          cases s[n]? with
          | none => rfl
          | some nd => cases nd <;> rfl
        | lst xs =>
          show Rs.ok (enumW (fixS xs)) s = srcE [.lst xs] s
          rw [en_src]; rfl
        | scr xs =>
          show Rs.ok (enumW (fixS xs)) s = srcE [.scr xs] s
          rw [en_src]; rfl
        | _ => rfl
      | cons a b => cases w <;> rfl
  | ex x s => rfl
  | stuck => rfl
theorem wp_iEA {m : M (List W)} : wp (iEA m env st) P E ↔ wp (m env st) (fun ws s => wp (srcE ws s) P E) E := by
  unfold iEA
  cases e : m env st with
  | ok ws s =>
    have k : wp (iE m env st) P E ↔ wp (match ws with | [.tup _] => .stuck | ws => srcE ws s) P E := by rw [iE_src, e]; exact Iff.rfl
    have k2 : wp (iET m env st) P E ↔ wp (match ws with | [.tup xs] => .ok (enumW (fixS xs)) s | _ => .stuck) P E := by unfold iET; rw [e]; exact Iff.rfl
    cases ws with
    | nil => exact k
    | cons w r =>
      cases r with
      | cons a b => cases w <;> exact k
      | nil =>
        cases w with
        | tup xs =>
          refine k2.trans ?_
          show P (enumW (fixS xs)) s ↔ P (fixS (enL xs)) s
          rw [en_src]
        | _ => exact k
  | ex x s =>
    show wp (iE m env st) P E ↔ _
    rw [iE_src, e]; exact Iff.rfl
  | stuck =>
    show wp (iE m env st) P E ↔ _
    rw [iE_src, e]; exact Iff.rfl
theorem wp_srcEL {xs : List W} : wp (srcE [.lst xs] st) P E ↔ P (fixS (enL xs)) st := Iff.rfl
theorem wp_srcET {xs : List W} : wp (srcE [.tup xs] st) P E ↔ P (fixS (enL xs)) st := Iff.rfl
end
theorem rng_get {lo : Int} {n i : Nat} {w : W} (e : (rngW lo n)[i]? = some w) : w = .int (lo + i) ∧ i < n := by
  unfold rngW at e
  rw [List.getElem?_map] at e
  by_cases h : i < n
  · rw [List.getElem?_eq_getElem (by simpa using h)] at e
    simp at e
    exact ⟨e.symm, h⟩
  · rw [List.getElem?_eq_none (by simp; omega)] at e
    simp at e
theorem rng_len {lo : Int} {n : Nat} : (rngW lo n).length = n := by simp [rngW]
theorem wp_cut63 {xs : List W} {st : Sto} {P : W → Sto → Prop} {E : Xc → Sto → Prop} : wp (wSl true (.scr xs) none (some 63) st) P E ↔ P (.lst (xs.take 63)) st := by
  have : wSl true (.scr xs) none (some 63) st = .ok (.lst (xs.take 63)) st := by
    simp only [wSl, seqL, newL, cutW, if_true]
    have e1 : HT.sIx xs.length 0 none = 0 := rfl
    have e2 : HT.sIx xs.length xs.length (some 63) = min 63 xs.length := by
      rw [show (63 : Int) = ((63 : Nat) : Int) by rfl, HT.sIx_nat]
    rw [e1, e2]
    simp only [Nat.sub_zero, List.drop_zero]
    by_cases h : 63 ≤ xs.length
    · rw [Nat.min_eq_left h]
    · rw [Nat.min_eq_right (by omega), List.take_of_length_le (Nat.le_refl _), List.take_of_length_le (by omega)]
  rw [this]; exact Iff.rfl
/-- a def's run -/
theorem wp_run {n : Nat} {m : MS} {ws' : List W} {st : Sto} {P : W → Sto → Prop} {E : Xc → Sto → Prop} :
    wp (runOf n m ws' st) P E ↔ ws (m (ws'.map some ++ List.replicate (n - ws'.length) none) st) (fun _ s => P .non s) P (fun _ _ => False) (fun _ _ => False) (fun x _ s => E x s) := by
  unfold runOf outOf
  cases m (ws'.map some ++ List.replicate (n - ws'.length) none) st <;> exact Iff.rfl
end Mi
/-! more of what a run of the mirror comes to -/
namespace Mi
open PySem L2
section
variable {N : KN} {R : KR} {B C : KN} {E : KX} {env : Ev} {st : Sto}
theorem nod_at {p len i : Nat} {st : Sto} {xs : List W} (e : st[p]? = some (.lst xs)) : (nodS p len).at_ i st = some xs[i]? := by
  show (match st[p]? with | some (.lst xs) => some xs[i]? | _ => none) = _
  rw [e]
end
section
variable {Q : List W → Sto → Prop} {E : Xc → Sto → Prop} {env : Ev} {st : Sto}
theorem compS_src {src : Src} {xs : List W} {t : CT} {cond : M Bool} {elt : M W} (inv : Nat → List W → Sto → Prop) (hf : src.fuel = xs.length + 1) (hat : ∀ i acc st, inv i acc st → src.at_ i st = some xs[i]?) (h0 : inv 0 [] st) (hl : xs.length ≤ sizeLine)
    (hacc : ∀ i acc st, inv i acc st → acc.length ≤ i)
    (step : ∀ (i : Nat) (w : W), xs[i]? = some w → ∀ acc st, inv i acc st → ∃ env1, t.put w env = some env1 ∧ wp (cond env1 st) (fun c s => if c = true then wp (elt env1 s) (fun v s2 => inv (i + 1) (acc ++ [v]) s2) NoE else inv (i + 1) acc s) NoE)
    (fin : ∀ acc st, inv xs.length acc st → Q acc st) : wp (compS src t cond elt env src.fuel 0 [] st) Q E := by
  suffices H : ∀ m i acc st, xs.length < i + m → i ≤ xs.length → inv i acc st → wp (compS src t cond elt env m i acc st) Q E by
    refine H _ _ _ _ ?_ (Nat.zero_le _) h0
    rw [hf]
    omega
  intro m
  induction m with
  | zero => intro i acc st h1 h2; omega
  | succ m ih =>
    intro i acc st h1 h2 hi
    show wp (match src.at_ i st with | some (some w) => _ | some none => _ | none => _) Q E
    rw [hat i acc st hi]
    by_cases e : i = xs.length
    · rw [List.getElem?_eq_none (by omega)]
      subst e
      exact fin acc st hi
    · have hx : i < xs.length := by omega
      rw [List.getElem?_eq_getElem hx]
      obtain ⟨env1, e1, q⟩ := step i xs[i] (List.getElem?_eq_getElem hx) acc st hi
      obtain ⟨c, s, e2, q⟩ := wp_get q
      simp only [e1, e2]
      cases c with
      | false => exact ih (i + 1) acc s (by omega) (by omega) q
      | true =>
        obtain ⟨v, s2, e3, q⟩ := wp_get q
        have := hacc i acc st hi
        simp only [e3]
        rw [if_pos (by omega)]
        exact ih (i + 1) (acc ++ [v]) s2 (by omega) (by omega) q
theorem take_next {α : Type} {l : List α} {i : Nat} {x : α} (e : l[i]? = some x) : l.take (i + 1) = l.take i ++ [x] := by
  rw [List.take_add_one, e]; rfl
/-- a comprehension that changes nothing -/
theorem compS_map' {src : Src} {α : Type} {ys : List α} {enc : α → W} {c : α → Bool} {f : α → W} {t : CT} {cond : M Bool} {elt : M W} (hf : src.fuel = ys.length + 1) (hat : ∀ i, src.at_ i st = some (ys.map enc)[i]?) (hl : ys.length ≤ sizeLine)
    (h : ∀ y ∈ ys, ∃ env1, t.put (enc y) env = some env1 ∧ wp (cond env1 st) (fun b s => b = c y ∧ s = st) NoE ∧ (c y = true → wp (elt env1 st) (fun v s => v = f y ∧ s = st) NoE))
    (q : Q ((ys.filter c).map f) st) : wp (compS src t cond elt env src.fuel 0 [] st) Q E := by
  refine compS_src (xs := ys.map enc) (fun i acc s => s = st ∧ acc = ((ys.take i).filter c).map f) (by rw [hf, List.length_map]) (fun i acc s z => by rw [z.1]; exact hat i) ⟨rfl, by simp⟩ (by rw [List.length_map]; exact hl) (fun i acc s z => ?_) (fun i w e acc s z => ?_) (fun acc s z => ?_)
  · rw [z.2, List.length_map]
    exact Nat.le_trans (List.length_filter_le ..) (by rw [List.length_take]; omega)
  · obtain ⟨rfl, rfl⟩ := z
    rw [List.getElem?_map] at e
    cases ey : ys[i]? with
    | none => rw [ey] at e; simp at e
    | some y =>
      rw [ey] at e
      simp only [Option.map_some, Option.some.injEq] at e
      subst e
      obtain ⟨env1, e1, e2, e3⟩ := h y (List.mem_of_getElem? ey)
      refine ⟨env1, e1, wp_mono e2 ?_ (fun _ _ z => z)⟩
      rintro b s' ⟨rfl, rfl⟩
      rw [take_next ey, List.filter_append, List.map_append]
      by_cases hc : c y = true
      · rw [if_pos hc]
        refine wp_mono (e3 hc) ?_ (fun _ _ z => z)
        rintro v s' ⟨rfl, rfl⟩
        exact ⟨rfl, by simp [hc]⟩
      · rw [if_neg hc]
        exact ⟨rfl, by simp [hc]⟩
  · obtain ⟨rfl, rfl⟩ := z
    rw [List.length_map, List.take_of_length_le (Nat.le_refl _)]
    exact q
theorem compS_map {α : Type} {ys : List α} {enc : α → W} (c : α → Bool) (f : α → W) {t : CT} {cond : M Bool} {elt : M W} (hl : ys.length ≤ sizeLine)
    (h : ∀ y ∈ ys, ∃ env1, t.put (enc y) env = some env1 ∧ wp (cond env1 st) (fun b s => b = c y ∧ s = st) NoE ∧ (c y = true → wp (elt env1 st) (fun v s => v = f y ∧ s = st) NoE))
    (q : Q ((ys.filter c).map f) st) : wp (compS (fixS (ys.map enc)) t cond elt env (fixS (ys.map enc)).fuel 0 [] st) Q E :=
  compS_map' (by simp [fixS]) (fun i => rfl) hl h q
theorem compS_nod {α : Type} {p : Nat} {ys : List α} {enc : α → W} (c : α → Bool) (f : α → W) {t : CT} {cond : M Bool} {elt : M W} (e : st[p]? = some (.lst (ys.map enc))) (hl : ys.length ≤ sizeLine)
    (h : ∀ y ∈ ys, ∃ env1, t.put (enc y) env = some env1 ∧ wp (cond env1 st) (fun b s => b = c y ∧ s = st) NoE ∧ (c y = true → wp (elt env1 st) (fun v s => v = f y ∧ s = st) NoE))
    (q : Q ((ys.filter c).map f) st) : wp (compS (nodS p (ys.map enc).length) t cond elt env (nodS p (ys.map enc).length).fuel 0 [] st) Q E :=
  compS_map' (by simp [nodS]) (fun i => nod_at e) hl h q
end
section
variable {P : W → Sto → Prop} {E : Xc → Sto → Prop} {env : Ev} {st : Sto}
theorem wp_srcAR {p : Nat} {xs : List W} {P : Src → Sto → Prop} (e : st[p]? = some (.lst xs)) : wp (srcA (.ref p) st) P E ↔ P (nodS p xs.length) st := by
  have : srcA (.ref p) st = .ok (nodS p xs.length) st := by simp [srcA, srcL, e]
  rw [this]; exact Iff.rfl
theorem bls_b : ∀ bs : List Bool, blsOf (bs.map W.bl) = some bs
  | [] => rfl
  | b :: bs => by simp only [List.map_cons, blsOf, bls_b bs, Option.map_some]
theorem wp_all {bs : List Bool} : wp (fAll [.lst (bs.map W.bl)] st) P E ↔ P (.bl (bs.all id)) st := by
  have : fAll [.lst (bs.map W.bl)] st = .ok (.bl (bs.all id)) st := by simp only [fAll, seqL, bls_b]
  rw [this]; exact Iff.rfl
theorem wp_any {bs : List Bool} : wp (fAny [.lst (bs.map W.bl)] st) P E ↔ P (.bl (bs.any id)) st := by
  have : fAny [.lst (bs.map W.bl)] st = .ok (.bl (bs.any id)) st := by simp only [fAny, seqL, bls_b]
  rw [this]; exact Iff.rfl
theorem wp_isB {a : W} {c : Bool} : wp (wIs a (.bl c) st) P E ↔ P (.bl (isBl c a)) st := Iff.rfl
theorem wp_isNotB {a : W} {c : Bool} : wp (wIsNot a (.bl c) st) P E ↔ P (.bl (!isBl c a)) st := Iff.rfl
theorem wp_eqB {a b : Bool} : wp (wEq (.bl a) (.bl b) st) P E ↔ P (.bl (decide (a = b))) st := by
  have : wEq (.bl a) (.bl b) st = .ok (.bl (decide (a = b))) st := by cases a <;> cases b <;> rfl
  rw [this]; exact Iff.rfl
theorem wp_neB {a b : Bool} : wp (wNe (.bl a) (.bl b) st) P E ↔ P (.bl (!decide (a = b))) st := by
  have : wNe (.bl a) (.bl b) st = .ok (.bl (!decide (a = b))) st := by cases a <;> cases b <;> rfl
  rw [this]; exact Iff.rfl
/-- slices -/
theorem wp_slT {fz : Bool} {xs : List W} {lo hi : Option Int} : wp (wSl fz (.tup xs) lo hi st) P E ↔ P (.tup (cutW xs lo hi)) st := Iff.rfl
theorem wp_slL {xs : List W} {lo hi : Option Int} : wp (wSl true (.lst xs) lo hi st) P E ↔ P (.lst (cutW xs lo hi)) st := Iff.rfl
theorem wp_rev {fz : Bool} {m : M W} : wp (mRev fz m env st) P E ↔ wp (m env st) (fun a s => wp (wRevA fz a s) P E) E := by
  unfold mRev; simp only [wp_bind]
theorem wp_revT {fz : Bool} {xs : List W} : wp (wRevA fz (.tup xs) st) P E ↔ P (.tup xs.reverse) st := Iff.rfl
theorem wp_revL {xs : List W} : wp (wRevA true (.lst xs) st) P E ↔ P (.lst xs.reverse) st := Iff.rfl
theorem wp_disp {m : M (List (Key × W))} : wp (mDisp m env st) P E ↔ wp (m env st) (fun kvs s => kvs.length ≤ 15 ∧ P (.ref s.length) (s ++ [.dk (mergeKW [] kvs)])) NoE := by
  unfold mDisp
  cases m env st with
  | ok kvs s =>
    show wp (if kvs.length ≤ 15 then newD (mergeKW [] kvs) s else .stuck) P E ↔ _
    rw [wp_ite]
    by_cases h : kvs.length ≤ 15
    · simp only [h, if_true, true_and, wp_ok]; exact Iff.rfl
    · simp only [h, if_false, false_and, wp_ok]; exact Iff.rfl
  | ex x s => exact Iff.rfl
  | stuck => exact Iff.rfl
theorem wp_pair0 {Q : List (Key × W) → Sto → Prop} : wp (mPair0 env st) Q E ↔ Q [] st := Iff.rfl
theorem wp_pair {Q : List (Key × W) → Sto → Prop} {mk mv : M W} {mr : M (List (Key × W))} : wp (mPair mk mv mr env st) Q E ↔ wp (mk env st) (fun k s => wp (mv env s) (fun v s2 => ∃ kk, keyOf k = some kk ∧ wp (mr env s2) (fun r s3 => Q ((kk, v) :: r) s3) E) E) E := by
  unfold mPair; simp only [wp_bind]
  constructor
  · intro h
    refine wp_mono h (fun k s h => wp_mono h (fun v s2 h => ?_) (fun _ _ z => z)) (fun _ _ z => z)
    split at h
    · rename_i kk e; exact ⟨kk, e, by simpa only [wp_bind, wp_ok] using h⟩
    · exact h.elim
  · intro h
    refine wp_mono h (fun k s h => wp_mono h (fun v s2 h => ?_) (fun _ _ z => z)) (fun _ _ z => z)
    obtain ⟨kk, e, h⟩ := h
    rw [e]
    simpa only [wp_bind, wp_ok] using h
end
end Mi
namespace Lw
open PySem PySem.Spec PyProof.Rows L2 Mi
/-! the text by places -/
def top (i : Nat) : Stmt := PySem.Challenge.pw_wholecommits_k73_whole_lots_that_are_eno.main.body.getD i (.Pass ⟨0, 0, 0, 0⟩)
abbrev s_law_bag : Stmt := top 28
abbrev N_law_bag : List Str := ["script", "cell"]
theorem sc_law_bag : FnScope N_law_bag ["script"] (defScope s_law_bag) := ⟨rfl, rfl, rfl, by decide +kernel, rfl, by decide +kernel, by decide +kernel⟩
abbrev s_law_mixed : Stmt := top 27
abbrev N_law_mixed : List Str := ["cell", "turn", "number"]
theorem sc_law_mixed : FnScope N_law_mixed ["cell", "turn"] (defScope s_law_mixed) := ⟨rfl, rfl, rfl, by decide +kernel, rfl, by decide +kernel, by decide +kernel⟩
abbrev s_law_draw : Stmt := top 29
abbrev N_law_draw : List Str := ["bag", "many", "found", "cells", "at", "cell"]
theorem sc_law_draw : FnScope N_law_draw ["bag", "many"] (defScope s_law_draw) := ⟨rfl, rfl, rfl, by decide +kernel, rfl, by decide +kernel, by decide +kernel⟩
abbrev s_law_versions : Stmt := top 30
abbrev N_law_versions : List Str := ["bag", "found", "commit", "k", "worth"]
theorem sc_law_versions : FnScope N_law_versions ["bag"] (defScope s_law_versions) := ⟨rfl, rfl, rfl, by decide +kernel, rfl, by decide +kernel, by decide +kernel⟩
abbrev s_law_open : Stmt := top 31
abbrev N_law_open : List Str := ["bag", "versions", "last", "found", "k", "number"]
theorem sc_law_open : FnScope N_law_open ["bag", "versions", "last"] (defScope s_law_open) := ⟨rfl, rfl, rfl, by decide +kernel, rfl, by decide +kernel, by decide +kernel⟩
abbrev s_law_needed : Stmt := top 32
abbrev N_law_needed : List Str := ["versions", "open_lot", "found", "back", "at", "is_seen", "snapshot"]
theorem sc_law_needed : FnScope N_law_needed ["versions", "open_lot"] (defScope s_law_needed) := ⟨rfl, rfl, rfl, by decide +kernel, rfl, by decide +kernel, by decide +kernel⟩
abbrev s_is_tuple : Stmt := top 11
abbrev N_is_tuple : List Str := ["many", "thing"]
theorem sc_is_tuple : FnScope N_is_tuple ["many", "thing"] (defScope s_is_tuple) := ⟨rfl, rfl, rfl, by decide +kernel, rfl, by decide +kernel, by decide +kernel⟩
abbrev s_is_integer : Stmt := top 7
abbrev N_is_integer : List Str := ["thing"]
theorem sc_is_integer : FnScope N_is_integer ["thing"] (defScope s_is_integer) := ⟨rfl, rfl, rfl, by decide +kernel, rfl, by decide +kernel, by decide +kernel⟩
abbrev s_is_within : Stmt := top 8
abbrev N_is_within : List Str := ["low", "high", "thing"]
theorem sc_is_within : FnScope N_is_within ["low", "high", "thing"] (defScope s_is_within) := ⟨rfl, rfl, rfl, by decide +kernel, rfl, by decide +kernel, by decide +kernel⟩
abbrev s_is_commit : Stmt := top 12
abbrev N_is_commit : List Str := ["thing"]
theorem sc_is_commit : FnScope N_is_commit ["thing"] (defScope s_is_commit) := ⟨rfl, rfl, rfl, by decide +kernel, rfl, by decide +kernel, by decide +kernel⟩
abbrev s_is_worth : Stmt := top 9
abbrev N_is_worth : List Str := ["thing"]
theorem sc_is_worth : FnScope N_is_worth ["thing"] (defScope s_is_worth) := ⟨rfl, rfl, rfl, by decide +kernel, rfl, by decide +kernel, by decide +kernel⟩
abbrev s_is_mark : Stmt := top 10
abbrev N_is_mark : List Str := ["thing"]
theorem sc_is_mark : FnScope N_is_mark ["thing"] (defScope s_is_mark) := ⟨rfl, rfl, rfl, by decide +kernel, rfl, by decide +kernel, by decide +kernel⟩
abbrev s_is_version : Stmt := top 13
abbrev N_is_version : List Str := ["thing"]
theorem sc_is_version : FnScope N_is_version ["thing"] (defScope s_is_version) := ⟨rfl, rfl, rfl, by decide +kernel, rfl, by decide +kernel, by decide +kernel⟩
abbrev s_demand_versions : Stmt := top 19
abbrev N_demand_versions : List Str := ["thing", "newer", "index", "version"]
theorem sc_demand_versions : FnScope N_demand_versions ["thing"] (defScope s_demand_versions) := ⟨rfl, rfl, rfl, by decide +kernel, rfl, by decide +kernel, by decide +kernel⟩
abbrev s_is_snapshot : Stmt := top 14
abbrev N_is_snapshot : List Str := ["thing"]
theorem sc_is_snapshot : FnScope N_is_snapshot ["thing"] (defScope s_is_snapshot) := ⟨rfl, rfl, rfl, by decide +kernel, rfl, by decide +kernel, by decide +kernel⟩
abbrev s_is_lot_below : Stmt := top 15
abbrev N_is_lot_below : List Str := ["bound", "thing", "least", "number"]
theorem sc_is_lot_below : FnScope N_is_lot_below ["bound", "thing"] (defScope s_is_lot_below) := ⟨rfl, rfl, rfl, by decide +kernel, rfl, by decide +kernel, by decide +kernel⟩
abbrev s_demand_snapshots : Stmt := top 20
abbrev N_demand_snapshots : List Str := ["open_lot", "last"]
theorem sc_demand_snapshots : FnScope N_demand_snapshots ["open_lot", "last"] (defScope s_demand_snapshots) := ⟨rfl, rfl, rfl, by decide +kernel, rfl, by decide +kernel, by decide +kernel⟩
abbrev s_demand_asked : Stmt := top 21
abbrev N_demand_asked : List Str := ["versions", "open_lot", "last"]
theorem sc_demand_asked : FnScope N_demand_asked ["versions", "open_lot", "last"] (defScope s_demand_asked) := ⟨rfl, rfl, rfl, by decide +kernel, rfl, by decide +kernel, by decide +kernel⟩
abbrev s_version_at : Stmt := top 22
abbrev N_version_at : List Str := ["versions", "snapshot", "version"]
theorem sc_version_at : FnScope N_version_at ["versions", "snapshot"] (defScope s_version_at) := ⟨rfl, rfl, rfl, by decide +kernel, rfl, by decide +kernel, by decide +kernel⟩
abbrev s_needed_at : Stmt := top 25
abbrev N_needed_at : List Str := ["versions", "asked", "seen", "kept", "version", "snapshot"]
theorem sc_needed_at : FnScope N_needed_at ["versions", "asked"] (defScope s_needed_at) := ⟨rfl, rfl, rfl, by decide +kernel, rfl, by decide +kernel, by decide +kernel⟩
abbrev s_needed : Stmt := top 17
abbrev N_needed : List Str := ["versions", "open_lot", "last"]
theorem sc_needed : FnScope N_needed ["versions", "open_lot", "last"] (defScope s_needed) := ⟨rfl, rfl, rfl, by decide +kernel, rfl, by decide +kernel, by decide +kernel⟩
abbrev s_law_is_lot : Stmt := top 36
abbrev N_law_is_lot : List Str := ["thing", "commits", "ahead", "one"]
theorem sc_law_is_lot : FnScope N_law_is_lot ["thing", "commits"] (defScope s_law_is_lot) := ⟨rfl, rfl, rfl, by decide +kernel, rfl, by decide +kernel, by decide +kernel⟩
abbrev s_law_seen : Stmt := top 37
abbrev N_law_seen : List Str := ["versions", "snapshot", "pair"]
theorem sc_law_seen : FnScope N_law_seen ["versions", "snapshot"] (defScope s_law_seen) := ⟨rfl, rfl, rfl, by decide +kernel, rfl, by decide +kernel, by decide +kernel⟩
abbrev s_law_is_enough : Stmt := top 38
abbrev N_law_is_enough : List Str := ["versions", "asked", "thing", "kept", "snapshot", "whole", "part", "pair"]
theorem sc_law_is_enough : FnScope N_law_is_enough ["versions", "asked", "thing"] (defScope s_law_is_enough) := ⟨rfl, rfl, rfl, by decide +kernel, rfl, by decide +kernel, by decide +kernel⟩
abbrev s_read_at : Stmt := top 23
abbrev N_read_at : List Str := ["versions", "snapshot", "version"]
theorem sc_read_at : FnScope N_read_at ["versions", "snapshot"] (defScope s_read_at) := ⟨rfl, rfl, rfl, by decide +kernel, rfl, by decide +kernel, by decide +kernel⟩
abbrev s_is_told_right : Stmt := top 24
abbrev N_is_told_right : List Str := ["versions", "kept", "snapshot", "found"]
theorem sc_is_told_right : FnScope N_is_told_right ["versions", "kept", "snapshot"] (defScope s_is_told_right) := ⟨rfl, rfl, rfl, by decide +kernel, rfl, by decide +kernel, by decide +kernel⟩
abbrev s_is_kept_right : Stmt := top 18
abbrev N_is_kept_right : List Str := ["versions", "open_lot", "last", "thing", "commits", "kept", "version", "snapshot", "commit"]
theorem sc_is_kept_right : FnScope N_is_kept_right ["versions", "open_lot", "last", "thing"] (defScope s_is_kept_right) := ⟨rfl, rfl, rfl, by decide +kernel, rfl, by decide +kernel, by decide +kernel⟩
abbrev s_law_some : Stmt := top 33
abbrev N_law_some : List Str := ["bag", "row", "share", "found", "one"]
theorem sc_law_some : FnScope N_law_some ["bag", "row", "share"] (defScope s_law_some) := ⟨rfl, rfl, rfl, by decide +kernel, rfl, by decide +kernel, by decide +kernel⟩
abbrev s_law_lot : Stmt := top 34
abbrev N_law_lot : List Str := ["bag", "versions", "due", "kind", "commits", "one", "gone", "pair", "commit"]
theorem sc_law_lot : FnScope N_law_lot ["bag", "versions", "due"] (defScope s_law_lot) := ⟨rfl, rfl, rfl, by decide +kernel, rfl, by decide +kernel, by decide +kernel⟩
abbrev s_law_no_lot : Stmt := top 35
abbrev N_law_no_lot : List Str := ["bag", "lot", "kind", "at", "strange"]
theorem sc_law_no_lot : FnScope N_law_no_lot ["bag", "lot"] (defScope s_law_no_lot) := ⟨rfl, rfl, rfl, by decide +kernel, rfl, by decide +kernel, by decide +kernel⟩
abbrev s_law : Stmt := top 39
abbrev N_law : List Str := ["script", "bag", "versions", "last", "open_lot", "due", "asked", "told", "k", "thing", "passed", "answer", "commit"]
theorem sc_law : FnScope N_law ["script"] (defScope s_law) := ⟨rfl, rfl, rfl, by decide +kernel, rfl, by decide +kernel, by decide +kernel⟩
/-! the mirror -/
def x_own : Nat → String → Option Bool := fun _ _ => none
def m_law_bag : MS := sRet (mLst false (mCons (mComp true (iA (mSl true (mVar 0) (mNoPart) (mPart (mC (.int 63))))) [1] (.one 1) (mYes) (mFn fInt (mCons (mVar 1) (mNil)))) (mCons (mC (.int 0)) (mCons (mC (.int 0)) (mCons (mC (.int 0)) (mNil))))))
def r_law_bag : RunM := runOf 2 m_law_bag
def m_law_mixed : MS := sSeq (sAsg (mOp (wMod) (mOp (wMul true) (mOp (wAdd true) (mOp (wAdd true) (mOp (wMod) (mFn fInt (mCons (mVar 0) (mNil))) (mC (.int 2147483647))) (mOp (wMul true) (mC (.int 7919)) (mVar 1))) (mC (.int 1))) (mC (.int 48271))) (mC (.int 2147483647))) (gName' 2)) (sSeq (sAsg (mOp (wMod) (mOp (wMul true) (mVar 2) (mOp (wAdd true) (mOp (wDivW) (mVar 2) (mC (.int 1009))) (mC (.int 69621)))) (mC (.int 2147483647))) (gName' 2)) (sRet (mOp (wDivW) (mOp (wMod) (mOp (wMul true) (mVar 2) (mOp (wAdd true) (mOp (wDivW) (mVar 2) (mC (.int 2003))) (mC (.int 40692)))) (mC (.int 2147483399))) (mC (.int 16)))))
def r_law_mixed : RunM := runOf 3 m_law_mixed
def m_law_draw : MS := sSeq (sAsg (mOp (wAdd true) (mOp wIx (mVar 0) (mC (.int 3))) (mC (.int 1))) (gSub' (mVar 0) (mC (.int 3)))) (sSeq (sIf (mB (mOp (wCmpS (fun i j => decide (j.cps.toList < i.cps.toList)) (fun i j => decide (j < i))) (mOp wIx (mVar 0) (mC (.int 2))) (mC (.int 0)))) (sSeq (sAsg (mOp (wMod) (mFn fInt (mCons (mOp wIx (mVar 0) (mC (.int 2))) (mNil))) (mVar 1)) (gName' 2)) (sSeq (sAsg (mOp (wDivW) (mOp wIx (mVar 0) (mC (.int 2))) (mVar 1)) (gSub' (mVar 0) (mC (.int 2)))) (sRet (mVar 2)))) (sNx)) (sSeq (sAsg (mOp wIx (mVar 0) (mC (.int 0))) (gName' 3)) (sSeq (sIf (mB (mOp (wEq) (mFn fLen (mCons (mVar 3) (mNil))) (mC (.int 0)))) (sRet (mOp (wMod) (mCall r_law_mixed (mCons (mC (.int 0)) (mCons (mOp wIx (mVar 0) (mC (.int 3))) (mNil)))) (mVar 1))) (sNx)) (sSeq (sAsg (mOp wIx (mVar 0) (mC (.int 1))) (gName' 4)) (sSeq (sAsg (mOp (wAdd true) (mVar 4) (mC (.int 1))) (gSub' (mVar 0) (mC (.int 1)))) (sSeq (sAsg (mOp wIx (mVar 3) (mOp (wMod) (mFn fInt (mCons (mVar 4) (mNil))) (mFn fLen (mCons (mVar 3) (mNil))))) (gName' 5)) (sSeq (sIf (mAnd (mB (mOp (wCmpS (fun i j => decide (i.cps.toList < j.cps.toList)) (fun i j => decide (i < j))) (mVar 4) (mFn fLen (mCons (mVar 3) (mNil))))) (mB (mOp (wCmpS (fun i j => !decide (i.cps.toList < j.cps.toList)) (fun i j => decide (j ≤ i))) (mFn fAbs (mCons (mVar 5) (mNil))) (mOp (wPow) (mC (.int 10)) (mC (.int 18)))))) (sSeq (sAsg (mOp (wDivW) (mFn fAbs (mCons (mVar 5) (mNil))) (mVar 1)) (gSub' (mVar 0) (mC (.int 2)))) (sRet (mOp (wMod) (mFn fInt (mCons (mFn fAbs (mCons (mVar 5) (mNil))) (mNil))) (mVar 1)))) (sNx)) (sRet (mOp (wMod) (mCall r_law_mixed (mCons (mVar 5) (mCons (mOp wIx (mVar 0) (mC (.int 3))) (mNil)))) (mVar 1))))))))))
def r_law_draw : RunM := runOf 6 m_law_draw
def m_law_versions : MS := sSeq (sAsg (mLst true (mNil)) (gName' 1)) (sSeq (sAsg (mC (.int 0)) (gName' 2)) (sSeq (sFor (iR1 (mCons (mCall r_law_draw (mCons (mVar 0) (mCons (mOp wIx (mLst true (mCons (mC (.int 5)) (mCons (mC (.int 13)) (mNil)))) (mCall r_law_draw (mCons (mVar 0) (mCons (mC (.int 2)) (mNil))))) (mNil)))) (mNil))) (gName' 3) (sSeq (sAsg (mOp (wAdd true) (mOp (wAdd true) (mVar 2) (mC (.int 1))) (mCall r_law_draw (mCons (mVar 0) (mCons (mOp wIx (mLst true (mCons (mC (.int 1)) (mCons (mC (.int 3)) (mCons (mOp (wPow) (mC (.int 10)) (mC (.int 16))) (mNil))))) (mCall r_law_draw (mCons (mVar 0) (mCons (mC (.int 3)) (mNil))))) (mNil))))) (gName' 2)) (sSeq (sAsg (mC .non) (gName' 4)) (sSeq (sIf (mB (mOp (wCmpS (fun i j => decide (j.cps.toList < i.cps.toList)) (fun i j => decide (j < i))) (mCall r_law_draw (mCons (mVar 0) (mCons (mC (.int 3)) (mNil)))) (mC (.int 0)))) (sAsg (mOp (wSub) (mCall r_law_draw (mCons (mVar 0) (mCons (mC (.int 5)) (mNil)))) (mC (.int 2))) (gName' 4)) (sNx)) (sAsg (mOp (wAdd true) (mLst true (mCons (mTup (mCons (mVar 2) (mCons (mVar 4) (mNil)))) (mNil))) (mVar 1)) (gName' 1)))))) (sRet (mVar 1))))
def r_law_versions : RunM := runOf 5 m_law_versions
def m_law_open : MS := sSeq (sAsg (mLst false (mNil)) (gName' 3)) (sSeq (sFor (iR1 (mCons (mCall r_law_draw (mCons (mVar 0) (mCons (mC (.int 7)) (mNil)))) (mNil))) (gName' 4) (sSeq (sAsg (mCall r_law_draw (mCons (mVar 0) (mCons (mOp (wAdd true) (mVar 2) (mC (.int 1))) (mNil)))) (gName' 5)) (sSeq (sIf (mAnd (mB (mOp (wCmpS (fun i j => decide (j.cps.toList < i.cps.toList)) (fun i j => decide (j < i))) (mFn fLen (mCons (mVar 1) (mNil))) (mC (.int 0)))) (mB (mOp (wCmpS (fun i j => decide (j.cps.toList < i.cps.toList)) (fun i j => decide (j < i))) (mCall r_law_draw (mCons (mVar 0) (mCons (mC (.int 4)) (mNil)))) (mC (.int 0))))) (sAsg (mFn fMin2 (mCons (mVar 2) (mCons (mOp (wSub) (mOp (wAdd true) (mOp wIx (mOp wIx (mVar 1) (mCall r_law_draw (mCons (mVar 0) (mCons (mFn fLen (mCons (mVar 1) (mNil))) (mNil))))) (mC (.int 0))) (mCall r_law_draw (mCons (mVar 0) (mCons (mC (.int 3)) (mNil))))) (mC (.int 1))) (mNil)))) (gName' 5)) (sNx)) (sIf (mB (mOp (wIn true) (mVar 5) (mVar 3))) (sExpr (mLm fAppend (mVar 3) (mCons (mVar 5) (mNil)))) (sNx))))) (sRet (mFn fTuple (mCons (mFn (fSorted true) (mCons (mVar 3) (mNil))) (mNil)))))
def r_law_open : RunM := runOf 6 m_law_open
def m_law_needed : MS := sSeq (sAsg (mLst false (mNil)) (gName' 2)) (sSeq (sFor (iR1 (mCons (mFn fLen (mCons (mVar 0) (mNil))) (mNil))) (gName' 3) (sSeq (sAsg (mOp (wSub) (mOp (wSub) (mFn fLen (mCons (mVar 0) (mNil))) (mC (.int 1))) (mVar 3)) (gName' 4)) (sSeq (sAsg (mOp (wEq) (mVar 4) (mC (.int 0))) (gName' 5)) (sSeq (sFor (iA (mVar 1)) (gName' 6) (sIf (mAnd (mB (mOp (wCmpS (fun i j => !decide (j.cps.toList < i.cps.toList)) (fun i j => decide (i ≤ j))) (mOp wIx (mOp wIx (mVar 0) (mVar 4)) (mC (.int 0))) (mVar 6))) (mOr (mB (mOp (wEq) (mVar 4) (mC (.int 0)))) (mB (mOp (wCmpS (fun i j => decide (i.cps.toList < j.cps.toList)) (fun i j => decide (i < j))) (mVar 6) (mOp wIx (mOp wIx (mVar 0) (mOp (wSub) (mVar 4) (mC (.int 1)))) (mC (.int 0))))))) (sAsg (mC (.bl true)) (gName' 5)) (sNx))) (sIf (mAnd (mTr (mVar 5)) (mOr (mB (mOp (wIsNot) (mOp wIx (mOp wIx (mVar 0) (mVar 4)) (mC (.int 1))) (mC .non))) (mB (mOp (wCmpS (fun i j => decide (j.cps.toList < i.cps.toList)) (fun i j => decide (j < i))) (mFn fLen (mCons (mVar 2) (mNil))) (mC (.int 0)))))) (sExpr (mLm fAppend (mVar 2) (mCons (mOp wIx (mOp wIx (mVar 0) (mVar 4)) (mC (.int 0))) (mNil)))) (sNx)))))) (sRet (mVar 2)))
def r_law_needed : RunM := runOf 7 m_law_needed
def m_is_tuple : MS := sRet (mBl (mAnd (mB (mFn (fIsi x_own) (mCons (mVar 1) (mCons (mC (.ty "tuple")) (mNil))))) (mB (mOp (wEq) (mFn fLen (mCons (mVar 1) (mNil))) (mVar 0)))))
def r_is_tuple : RunM := runOf 2 m_is_tuple
def m_is_integer : MS := sRet (mBl (mAnd (mB (mFn (fIsi x_own) (mCons (mVar 0) (mCons (mC (.ty "int")) (mNil))))) (mNot (mB (mFn (fIsi x_own) (mCons (mVar 0) (mCons (mC (.ty "bool")) (mNil))))))))
def r_is_integer : RunM := runOf 1 m_is_integer
def m_is_within : MS := sRet (mBl (mAnd (mB (mCall r_is_integer (mCons (mVar 2) (mNil)))) (mB (mChain (wCmpS (fun i j => !decide (j.cps.toList < i.cps.toList)) (fun i j => decide (i ≤ j))) (wCmpS (fun i j => !decide (j.cps.toList < i.cps.toList)) (fun i j => decide (i ≤ j))) (mVar 0) (mVar 2) (mVar 1)))))
def r_is_within : RunM := runOf 3 m_is_within
def m_is_commit : MS := sRet (mCall r_is_within (mCons (mC (.int 1)) (mCons (mC (.int 1000000000000000000)) (mCons (mVar 0) (mNil)))))
def r_is_commit : RunM := runOf 1 m_is_commit
def m_is_worth : MS := sRet (mCall r_is_within (mCons (mNeg (mC (.int 1000000000000000000))) (mCons (mC (.int 1000000000000000000)) (mCons (mVar 0) (mNil)))))
def r_is_worth : RunM := runOf 1 m_is_worth
def m_is_mark : MS := sRet (mBl (mOr (mB (mOp (wIs) (mVar 0) (mC .non))) (mB (mCall r_is_worth (mCons (mVar 0) (mNil))))))
def r_is_mark : RunM := runOf 1 m_is_mark
def m_is_version : MS := sRet (mBl (mAnd (mB (mCall r_is_tuple (mCons (mC (.int 2)) (mCons (mVar 0) (mNil))))) (mAnd (mB (mCall r_is_commit (mCons (mOp wIx (mVar 0) (mC (.int 0))) (mNil)))) (mB (mCall r_is_mark (mCons (mOp wIx (mVar 0) (mC (.int 1))) (mNil)))))))
def r_is_version : RunM := runOf 1 m_is_version
def m_demand_versions : MS := sSeq (sIf (mNot (mTr (mIsiT "list" "tuple" (mVar 0)))) (sStk) (sNx)) (sSeq (sAsg (mC .non) (gName' 1)) (sFor (iEA (mCons (mVar 0) (mNil))) (gTup' [gName' 2, gName' 3]) (sSeq (sIf (mOr (mNot (mTr (mCall r_is_version (mCons (mVar 3) (mNil))))) (mAnd (mB (mOp (wIsNot) (mVar 1) (mC .non))) (mB (mOp (wCmpS (fun i j => !decide (i.cps.toList < j.cps.toList)) (fun i j => decide (j ≤ i))) (mOp wIx (mVar 3) (mC (.int 0))) (mVar 1))))) (sStk) (sNx)) (sAsg (mOp wIx (mVar 3) (mC (.int 0))) (gName' 1)))))
def r_demand_versions : RunM := runOf 4 m_demand_versions
def m_is_snapshot : MS := sRet (mCall r_is_within (mCons (mC (.int 0)) (mCons (mC (.int 1000000000000000000)) (mCons (mVar 0) (mNil)))))
def r_is_snapshot : RunM := runOf 1 m_is_snapshot
def m_is_lot_below : MS := sSeq (sIf (mNot (mTr (mFn (fIsi x_own) (mCons (mVar 1) (mCons (mC (.ty "tuple")) (mNil)))))) (sRet (mC (.bl false))) (sNx)) (sSeq (sAsg (mC (.int 0)) (gName' 2)) (sSeq (sFor (iA (mVar 1)) (gName' 3) (sSeq (sIf (mNot (mTr (mCall r_is_within (mCons (mVar 2) (mCons (mOp (wSub) (mVar 0) (mC (.int 1))) (mCons (mVar 3) (mNil))))))) (sRet (mC (.bl false))) (sNx)) (sAsg (mOp (wAdd true) (mVar 3) (mC (.int 1))) (gName' 2)))) (sRet (mC (.bl true)))))
def r_is_lot_below : RunM := runOf 4 m_is_lot_below
def m_demand_snapshots : MS := sSeq (sIf (mNot (mTr (mCall r_is_snapshot (mCons (mVar 1) (mNil))))) (sStk) (sNx)) (sIf (mNot (mTr (mCall r_is_lot_below (mCons (mOp (wAdd true) (mVar 1) (mC (.int 1))) (mCons (mVar 0) (mNil)))))) (sStk) (sNx))
def r_demand_snapshots : RunM := runOf 2 m_demand_snapshots
def m_demand_asked : MS := sSeq (sExpr (mCall r_demand_versions (mCons (mVar 0) (mNil)))) (sSeq (sIf (mAnd (mTr (mCall r_is_snapshot (mCons (mVar 2) (mNil)))) (mAnd (mTr (mVar 0)) (mB (mOp (wCmpS (fun i j => decide (j.cps.toList < i.cps.toList)) (fun i j => decide (j < i))) (mOp wIx (mOp wIx (mVar 0) (mC (.int 0))) (mC (.int 0))) (mVar 2))))) (sStk) (sNx)) (sExpr (mCall r_demand_snapshots (mCons (mVar 1) (mCons (mVar 2) (mNil))))))
def r_demand_asked : RunM := runOf 3 m_demand_asked
def m_version_at : MS := sSeq (sFor (iA (mVar 0)) (gName' 2) (sIf (mB (mOp (wCmpS (fun i j => !decide (j.cps.toList < i.cps.toList)) (fun i j => decide (i ≤ j))) (mOp wIx (mVar 2) (mC (.int 0))) (mVar 1))) (sRet (mVar 2)) (sNx))) (sRet (mC .non))
def r_version_at : RunM := runOf 3 m_version_at
def m_needed_at : MS := sSeq (sAsg (mComp true (iA (mVar 1)) [5] (.one 5) (mYes) (mCall r_version_at (mCons (mVar 0) (mCons (mVar 5) (mNil))))) (gName' 2)) (sSeq (sAsg (mLst false (mNil)) (gName' 3)) (sSeq (sFor (iRv (mVar 0)) (gName' 4) (sIf (mAnd (mB (mOp (wInD false) (mVar 4) (mVar 2))) (mOr (mB (mOp (wIsNot) (mOp wIx (mVar 4) (mC (.int 1))) (mC .non))) (mTr (mVar 3)))) (sExpr (mLm fAppend (mVar 3) (mCons (mOp wIx (mVar 4) (mC (.int 0))) (mNil)))) (sNx))) (sRet (mFn fTuple (mCons (mVar 3) (mNil))))))
def r_needed_at : RunM := runOf 6 m_needed_at
def m_needed : MS := sSeq (sExpr (mCall r_demand_asked (mCons (mVar 0) (mCons (mVar 1) (mCons (mVar 2) (mNil)))))) (sRet (mCall r_needed_at (mCons (mVar 0) (mCons (mLstS true (mStar (mVar 1) (mCons (mVar 2) (mNil)))) (mNil)))))
def r_needed : RunM := runOf 3 m_needed
def m_law_is_lot : MS := sSeq (sIf (mNot (mTr (mFn (fIsi x_own) (mCons (mVar 0) (mCons (mC (.ty "tuple")) (mNil)))))) (sRet (mC (.bl false))) (sNx)) (sSeq (sAsg (mC (.int 0)) (gName' 2)) (sSeq (sFor (iA (mVar 0)) (gName' 3) (sSeq (sIf (mOr (mNot (mTr (mFn (fIsi x_own) (mCons (mVar 3) (mCons (mC (.ty "int")) (mNil)))))) (mOr (mTr (mFn (fIsi x_own) (mCons (mVar 3) (mCons (mC (.ty "bool")) (mNil))))) (mOr (mB (mOp (wCmpS (fun i j => !decide (j.cps.toList < i.cps.toList)) (fun i j => decide (i ≤ j))) (mVar 3) (mVar 2))) (mB (mOp (wIn true) (mVar 3) (mVar 1)))))) (sRet (mC (.bl false))) (sNx)) (sAsg (mVar 3) (gName' 2)))) (sRet (mC (.bl true)))))
def r_law_is_lot : RunM := runOf 4 m_law_is_lot
def m_law_seen : MS := sSeq (sFor (iA (mVar 0)) (gName' 2) (sIf (mB (mOp (wCmpS (fun i j => !decide (j.cps.toList < i.cps.toList)) (fun i j => decide (i ≤ j))) (mOp wIx (mVar 2) (mC (.int 0))) (mVar 1))) (sRet (mVar 2)) (sNx))) (sRet (mC .non))
def r_law_seen : RunM := runOf 3 m_law_seen
def m_law_is_enough : MS := sSeq (sIf (mNot (mTr (mCall r_law_is_lot (mCons (mVar 2) (mCons (mComp true (iA (mVar 0)) [7] (.one 7) (mYes) (mOp wIx (mVar 7) (mC (.int 0)))) (mNil)))))) (sRet (mC (.bl false))) (sNx)) (sSeq (sAsg (mComp true (iA (mVar 0)) [7] (.one 7) (mB (mOp (wIn false) (mOp wIx (mVar 7) (mC (.int 0))) (mVar 2))) (mVar 7)) (gName' 3)) (sSeq (sFor (iA (mVar 1)) (gName' 4) (sSeq (sAsg (mCall r_law_seen (mCons (mVar 0) (mCons (mVar 4) (mNil)))) (gName' 5)) (sSeq (sAsg (mCall r_law_seen (mCons (mVar 3) (mCons (mVar 4) (mNil)))) (gName' 6)) (sIf (mB (mOp (wIs) (mVar 6) (mC .non))) (sIf (mAnd (mB (mOp (wIsNot) (mVar 5) (mC .non))) (mB (mOp (wIsNot) (mOp wIx (mVar 5) (mC (.int 1))) (mC .non)))) (sRet (mC (.bl false))) (sNx)) (sIf (mB (mOp (wNe) (mOp wIx (mVar 5) (mC (.int 0))) (mOp wIx (mVar 6) (mC (.int 0))))) (sRet (mC (.bl false))) (sNx)))))) (sRet (mC (.bl true)))))
def r_law_is_enough : RunM := runOf 8 m_law_is_enough
def m_read_at : MS := sSeq (sAsg (mCall r_version_at (mCons (mVar 0) (mCons (mVar 1) (mNil)))) (gName' 2)) (sSeq (sIf (mOr (mB (mOp (wIs) (mVar 2) (mC .non))) (mB (mOp (wIs) (mOp wIx (mVar 2) (mC (.int 1))) (mC .non)))) (sRet (mC .non)) (sNx)) (sRet (mVar 2)))
def r_read_at : RunM := runOf 3 m_read_at
def m_is_told_right : MS := sSeq (sAsg (mCall r_version_at (mCons (mVar 1) (mCons (mVar 2) (mNil)))) (gName' 3)) (sRet (mBl (mOr (mB (mOp (wEq) (mVar 3) (mCall r_version_at (mCons (mVar 0) (mCons (mVar 2) (mNil)))))) (mAnd (mB (mOp (wIs) (mVar 3) (mC .non))) (mB (mOp (wIs) (mCall r_read_at (mCons (mVar 0) (mCons (mVar 2) (mNil)))) (mC .non)))))))
def r_is_told_right : RunM := runOf 4 m_is_told_right
def m_is_kept_right : MS := sSeq (sExpr (mCall r_demand_asked (mCons (mVar 0) (mCons (mVar 1) (mCons (mVar 2) (mNil)))))) (sSeq (sAsg (mComp true (iA (mVar 0)) [6] (.one 6) (mYes) (mOp wIx (mVar 6) (mC (.int 0)))) (gName' 4)) (sSeq (sIf (mOr (mNot (mTr (mCall r_is_lot_below (mCons (mOp (wAdd true) (mVar 2) (mC (.int 1))) (mCons (mVar 3) (mNil)))))) (mNot (mTr (mFn fAll (mCons (mComp true (iA (mVar 3)) [8] (.one 8) (mYes) (mOp (wIn false) (mVar 8) (mVar 4))) (mNil)))))) (sRet (mC (.bl false))) (sNx)) (sSeq (sAsg (mComp true (iA (mVar 0)) [6] (.one 6) (mB (mOp (wIn false) (mOp wIx (mVar 6) (mC (.int 0))) (mVar 3))) (mVar 6)) (gName' 5)) (sRet (mFn fAll (mCons (mComp true (iA (mLstS true (mStar (mVar 1) (mCons (mVar 2) (mNil))))) [7] (.one 7) (mYes) (mCall r_is_told_right (mCons (mVar 0) (mCons (mVar 5) (mCons (mVar 7) (mNil)))))) (mNil)))))))
def r_is_kept_right : RunM := runOf 9 m_is_kept_right
def m_law_some : MS := sSeq (sAsg (mLst false (mNil)) (gName' 3)) (sSeq (sFor (iA (mVar 1)) (gName' 4) (sIf (mB (mOp (wCmpS (fun i j => decide (i.cps.toList < j.cps.toList)) (fun i j => decide (i < j))) (mCall r_law_draw (mCons (mVar 0) (mCons (mC (.int 4)) (mNil)))) (mVar 2))) (sExpr (mLm fAppend (mVar 3) (mCons (mVar 4) (mNil)))) (sNx))) (sRet (mVar 3)))
def r_law_some : RunM := runOf 5 m_law_some
def m_law_lot : MS := sSeq (sAsg (mCall r_law_draw (mCons (mVar 0) (mCons (mC (.int 6)) (mNil)))) (gName' 3)) (sSeq (sAsg (mFn (fSorted true) (mCons (mComp true (iA (mVar 1)) [7] (.one 7) (mYes) (mOp wIx (mVar 7) (mC (.int 0)))) (mNil))) (gName' 4)) (sSeq (sIf (mOr (mB (mOp (wEq) (mVar 3) (mC (.int 0)))) (mB (mOp (wEq) (mFn fLen (mCons (mVar 4) (mNil))) (mC (.int 0))))) (sRet (mFn fTuple (mCons (mVar 2) (mNil)))) (sNx)) (sSeq (sIf (mB (mOp (wEq) (mVar 3) (mC (.int 1)))) (sRet (mFn fTuple (mCons (mCall r_law_some (mCons (mVar 0) (mCons (mVar 4) (mCons (mOp (wAdd true) (mC (.int 1)) (mCall r_law_draw (mCons (mVar 0) (mCons (mC (.int 4)) (mNil))))) (mNil))))) (mNil)))) (sNx)) (sSeq (sIf (mB (mOp (wEq) (mVar 3) (mC (.int 2)))) (sSeq (sAsg (mOp wIx (mVar 4) (mCall r_law_draw (mCons (mVar 0) (mCons (mFn fLen (mCons (mVar 4) (mNil))) (mNil))))) (gName' 5)) (sRet (mFn fTuple (mCons (mComp true (iA (mVar 4)) [8] (.one 8) (mOr (mB (mOp (wIn false) (mVar 8) (mVar 2))) (mB (mOp (wEq) (mVar 8) (mVar 5)))) (mVar 8)) (mNil))))) (sNx)) (sSeq (sIf (mB (mOp (wEq) (mVar 3) (mC (.int 3)))) (sSeq (sAsg (mOp wIx (mVar 4) (mCall r_law_draw (mCons (mVar 0) (mCons (mFn fLen (mCons (mVar 4) (mNil))) (mNil))))) (gName' 5)) (sRet (mFn fTuple (mCons (mComp true (iA (mVar 2)) [8] (.one 8) (mB (mOp (wNe) (mVar 8) (mVar 5))) (mVar 8)) (mNil))))) (sNx)) (sSeq (sIf (mB (mOp (wEq) (mVar 3) (mC (.int 4)))) (sSeq (sAsg (mCall r_law_some (mCons (mVar 0) (mCons (mComp true (iA (mVar 1)) [7] (.one 7) (mB (mOp (wIs) (mOp wIx (mVar 7) (mC (.int 1))) (mC .non))) (mOp wIx (mVar 7) (mC (.int 0)))) (mCons (mC (.int 2)) (mNil))))) (gName' 6)) (sRet (mFn fTuple (mCons (mComp true (iA (mVar 4)) [8] (.one 8) (mOr (mB (mOp (wIn false) (mVar 8) (mVar 2))) (mB (mOp (wIn false) (mVar 8) (mVar 6)))) (mVar 8)) (mNil))))) (sNx)) (sRet (mFn fTuple (mCons (mVar 4) (mNil))))))))))
def r_law_lot : RunM := runOf 9 m_law_lot
def m_law_no_lot : MS := sSeq (sAsg (mCall r_law_draw (mCons (mVar 0) (mCons (mC (.int 9)) (mNil)))) (gName' 2)) (sSeq (sAsg (mCall r_law_draw (mCons (mVar 0) (mCons (mOp (wAdd true) (mFn fLen (mCons (mVar 1) (mNil))) (mC (.int 1))) (mNil)))) (gName' 3)) (sSeq (sIf (mB (mOp (wEq) (mVar 2) (mC (.int 0)))) (sRet (mFn (fList true) (mCons (mVar 1) (mNil)))) (sNx)) (sSeq (sIf (mB (mOp (wEq) (mVar 2) (mC (.int 1)))) (sRet (mRev true (mVar 1))) (sNx)) (sSeq (sIf (mB (mOp (wEq) (mVar 2) (mC (.int 2)))) (sRet (mOp (wAdd true) (mSl true (mVar 1) (mNoPart) (mPart (mVar 3))) (mSl true (mVar 1) (mPart (mFn fMax2 (mCons (mC (.int 0)) (mCons (mOp (wSub) (mVar 3) (mC (.int 1))) (mNil))))) (mNoPart)))) (sNx)) (sSeq (sIf (mB (mOp (wEq) (mVar 2) (mC (.int 3)))) (sSeq (sAsg (mOp wIx (mLst true (mCons (mC (.int 0)) (mCons (mNeg (mC (.int 1))) (mCons (mOp (wPow) (mC (.int 10)) (mC (.int 18))) (mCons (mOp (wPow) (mC (.int 10)) (mC (.int 30))) (mNil)))))) (mCall r_law_draw (mCons (mVar 0) (mCons (mC (.int 4)) (mNil))))) (gName' 4)) (sRet (mFn fTuple (mCons (mFn (fSorted true) (mCons (mOp (wAdd true) (mFn (fList true) (mCons (mVar 1) (mNil))) (mLst true (mCons (mVar 4) (mNil)))) (mNil))) (mNil))))) (sNx)) (sSeq (sIf (mB (mOp (wEq) (mVar 2) (mC (.int 4)))) (sRet (mOp (wAdd true) (mTup (mCons (mC (.bl true)) (mNil))) (mSl true (mVar 1) (mPart (mC (.int 1))) (mNoPart)))) (sNx)) (sSeq (sIf (mB (mOp (wEq) (mVar 2) (mC (.int 5)))) (sRet (mOp (wAdd true) (mOp (wAdd true) (mSl true (mVar 1) (mNoPart) (mPart (mVar 3))) (mTup (mCons (mOp wIx (mLst true (mCons (mC (.str "1")) (mCons (mC .non) (mCons (mTup (mCons (mC (.int 1)) (mNil))) (mCons (mLst true (mCons (mC (.int 1)) (mNil))) (mCons (mTup (mNil)) (mNil))))))) (mCall r_law_draw (mCons (mVar 0) (mCons (mC (.int 5)) (mNil))))) (mNil)))) (mSl true (mVar 1) (mPart (mVar 3)) (mNoPart)))) (sNx)) (sSeq (sIf (mB (mOp (wEq) (mVar 2) (mC (.int 6)))) (sRet (mOp (wAdd true) (mOp (wAdd true) (mSl true (mVar 1) (mNoPart) (mPart (mVar 3))) (mTup (mCons (mCall r_law_draw (mCons (mVar 0) (mCons (mC (.int 40)) (mNil)))) (mNil)))) (mSl true (mVar 1) (mPart (mOp (wAdd true) (mVar 3) (mC (.int 1)))) (mNoPart)))) (sNx)) (sSeq (sIf (mB (mOp (wEq) (mVar 2) (mC (.int 7)))) (sRet (mTup (mCons (mVar 1) (mNil)))) (sNx)) (sRet (mOp wIx (mLst true (mCons (mC .non) (mCons (mC (.bl true)) (mCons (mC (.int 1)) (mCons (mC (.str "")) (mCons (mC (.str "(1,)")) (mCons (mDict0) (mCons (mDisp (mPair (mC (.int 1)) (mC (.int 1)) (mPair0))) (mNil))))))))) (mCall r_law_draw (mCons (mVar 0) (mCons (mC (.int 7)) (mNil)))))))))))))))
def r_law_no_lot : RunM := runOf 5 m_law_no_lot
def m_law : MS := sSeq (sAsg (mCall r_law_bag (mCons (mVar 0) (mNil))) (gName' 1)) (sSeq (sAsg (mCall r_law_versions (mCons (mVar 1) (mNil))) (gName' 2)) (sSeq (sAsg (mC (.int 0)) (gName' 3)) (sSeq (sIf (mB (mOp (wCmpS (fun i j => decide (j.cps.toList < i.cps.toList)) (fun i j => decide (j < i))) (mFn fLen (mCons (mVar 2) (mNil))) (mC (.int 0)))) (sAsg (mOp wIx (mOp wIx (mVar 2) (mC (.int 0))) (mC (.int 0))) (gName' 3)) (sNx)) (sSeq (sAsg (mOp (wAdd true) (mVar 3) (mCall r_law_draw (mCons (mVar 1) (mCons (mC (.int 3)) (mNil))))) (gName' 3)) (sSeq (sAsg (mCall r_law_open (mCons (mVar 1) (mCons (mVar 2) (mCons (mVar 3) (mNil))))) (gName' 4)) (sSeq (sAsg (mCall r_law_needed (mCons (mVar 2) (mCons (mVar 4) (mNil)))) (gName' 5)) (sSeq (sAsg (mOp (wAdd true) (mFn (fList true) (mCons (mVar 4) (mNil))) (mLst true (mCons (mVar 3) (mCons (mOp (wAdd true) (mOp (wAdd true) (mVar 3) (mC (.int 1))) (mCall r_law_draw (mCons (mVar 1) (mCons (mC (.int 9)) (mNil))))) (mNil))))) (gName' 6)) (sSeq (sAsg (mCall r_needed (mCons (mFn (fList true) (mCons (mVar 2) (mNil))) (mCons (mVar 4) (mCons (mVar 3) (mNil))))) (gName' 7)) (sSeq (sIf (mOr (mNot (mTr (mCall r_law_is_enough (mCons (mVar 2) (mCons (mVar 6) (mCons (mVar 7) (mNil))))))) (mB (mOp (wIsNot) (mCall r_is_kept_right (mCons (mFn fTuple (mCons (mVar 2) (mNil))) (mCons (mVar 4) (mCons (mVar 3) (mCons (mVar 7) (mNil)))))) (mC (.bl true))))) (sRet (mC (.bl false))) (sNx)) (sSeq (sFor (iR1 (mCons (mC (.int 8)) (mNil))) (gName' 8) (sSeq (sAsg (mCall r_law_lot (mCons (mVar 1) (mCons (mVar 2) (mCons (mVar 5) (mNil))))) (gName' 9)) (sSeq (sIf (mB (mOp (wEq) (mCall r_law_draw (mCons (mVar 1) (mCons (mC (.int 3)) (mNil)))) (mC (.int 0)))) (sAsg (mCall r_law_no_lot (mCons (mVar 1) (mCons (mVar 9) (mNil)))) (gName' 9)) (sNx)) (sSeq (sAsg (mFn (fList true) (mCons (mVar 2) (mNil))) (gName' 10)) (sSeq (sAsg (mCall r_is_kept_right (mCons (mVar 10) (mCons (mVar 4) (mCons (mVar 3) (mCons (mVar 9) (mNil)))))) (gName' 11)) (sSeq (sIf (mOr (mB (mOp (wNe) (mVar 10) (mVar 2))) (mOr (mNot (mTr (mFn (fIsi x_own) (mCons (mVar 11) (mCons (mC (.ty "bool")) (mNil)))))) (mB (mOp (wNe) (mVar 11) (mCall r_law_is_enough (mCons (mVar 2) (mCons (mVar 6) (mCons (mVar 9) (mNil))))))))) (sRet (mC (.bl false))) (sNx)) (sIf (mTr (mVar 11)) (sFor (iA (mVar 7)) (gName' 12) (sIf (mB (mOp (wIn true) (mVar 12) (mVar 9))) (sRet (mC (.bl false))) (sNx))) (sNx)))))))) (sRet (mC (.bl true)))))))))))))
def r_law : RunM := runOf 13 m_law
/-! what stands where -/
structure Tx (K : PySem.W.Frag) (mg : Str → Option Value) where
  a_law_bag : Addr
  d_law_bag : FuncData
  F_law_bag : Fun K "_law_bag" "_law_bag" s_law_bag a_law_bag d_law_bag
  b_law_bag : Binds K d_law_bag ["script"] []
  g_law_bag : mg "_law_bag" = some (.ref a_law_bag)
  a_law_mixed : Addr
  d_law_mixed : FuncData
  F_law_mixed : Fun K "_law_mixed" "_law_mixed" s_law_mixed a_law_mixed d_law_mixed
  b_law_mixed : Binds K d_law_mixed ["cell", "turn"] []
  g_law_mixed : mg "_law_mixed" = some (.ref a_law_mixed)
  a_law_draw : Addr
  d_law_draw : FuncData
  F_law_draw : Fun K "_law_draw" "_law_draw" s_law_draw a_law_draw d_law_draw
  b_law_draw : Binds K d_law_draw ["bag", "many"] []
  g_law_draw : mg "_law_draw" = some (.ref a_law_draw)
  a_law_versions : Addr
  d_law_versions : FuncData
  F_law_versions : Fun K "_law_versions" "_law_versions" s_law_versions a_law_versions d_law_versions
  b_law_versions : Binds K d_law_versions ["bag"] []
  g_law_versions : mg "_law_versions" = some (.ref a_law_versions)
  a_law_open : Addr
  d_law_open : FuncData
  F_law_open : Fun K "_law_open" "_law_open" s_law_open a_law_open d_law_open
  b_law_open : Binds K d_law_open ["bag", "versions", "last"] []
  g_law_open : mg "_law_open" = some (.ref a_law_open)
  a_law_needed : Addr
  d_law_needed : FuncData
  F_law_needed : Fun K "_law_needed" "_law_needed" s_law_needed a_law_needed d_law_needed
  b_law_needed : Binds K d_law_needed ["versions", "open_lot"] []
  g_law_needed : mg "_law_needed" = some (.ref a_law_needed)
  a_is_tuple : Addr
  d_is_tuple : FuncData
  F_is_tuple : Fun K "is_tuple" "is_tuple" s_is_tuple a_is_tuple d_is_tuple
  b_is_tuple : Binds K d_is_tuple ["many", "thing"] []
  g_is_tuple : mg "is_tuple" = some (.ref a_is_tuple)
  a_is_integer : Addr
  d_is_integer : FuncData
  F_is_integer : Fun K "is_integer" "is_integer" s_is_integer a_is_integer d_is_integer
  b_is_integer : Binds K d_is_integer ["thing"] []
  g_is_integer : mg "is_integer" = some (.ref a_is_integer)
  a_is_within : Addr
  d_is_within : FuncData
  F_is_within : Fun K "is_within" "is_within" s_is_within a_is_within d_is_within
  b_is_within : Binds K d_is_within ["low", "high", "thing"] []
  g_is_within : mg "is_within" = some (.ref a_is_within)
  a_is_commit : Addr
  d_is_commit : FuncData
  F_is_commit : Fun K "is_commit" "is_commit" s_is_commit a_is_commit d_is_commit
  b_is_commit : Binds K d_is_commit ["thing"] []
  g_is_commit : mg "is_commit" = some (.ref a_is_commit)
  a_is_worth : Addr
  d_is_worth : FuncData
  F_is_worth : Fun K "is_worth" "is_worth" s_is_worth a_is_worth d_is_worth
  b_is_worth : Binds K d_is_worth ["thing"] []
  g_is_worth : mg "is_worth" = some (.ref a_is_worth)
  a_is_mark : Addr
  d_is_mark : FuncData
  F_is_mark : Fun K "is_mark" "is_mark" s_is_mark a_is_mark d_is_mark
  b_is_mark : Binds K d_is_mark ["thing"] []
  g_is_mark : mg "is_mark" = some (.ref a_is_mark)
  a_is_version : Addr
  d_is_version : FuncData
  F_is_version : Fun K "is_version" "is_version" s_is_version a_is_version d_is_version
  b_is_version : Binds K d_is_version ["thing"] []
  g_is_version : mg "is_version" = some (.ref a_is_version)
  a_demand_versions : Addr
  d_demand_versions : FuncData
  F_demand_versions : Fun K "demand_versions" "demand_versions" s_demand_versions a_demand_versions d_demand_versions
  b_demand_versions : Binds K d_demand_versions ["thing"] []
  g_demand_versions : mg "demand_versions" = some (.ref a_demand_versions)
  a_is_snapshot : Addr
  d_is_snapshot : FuncData
  F_is_snapshot : Fun K "is_snapshot" "is_snapshot" s_is_snapshot a_is_snapshot d_is_snapshot
  b_is_snapshot : Binds K d_is_snapshot ["thing"] []
  g_is_snapshot : mg "is_snapshot" = some (.ref a_is_snapshot)
  a_is_lot_below : Addr
  d_is_lot_below : FuncData
  F_is_lot_below : Fun K "is_lot_below" "is_lot_below" s_is_lot_below a_is_lot_below d_is_lot_below
  b_is_lot_below : Binds K d_is_lot_below ["bound", "thing"] []
  g_is_lot_below : mg "is_lot_below" = some (.ref a_is_lot_below)
  a_demand_snapshots : Addr
  d_demand_snapshots : FuncData
  F_demand_snapshots : Fun K "demand_snapshots" "demand_snapshots" s_demand_snapshots a_demand_snapshots d_demand_snapshots
  b_demand_snapshots : Binds K d_demand_snapshots ["open_lot", "last"] []
  g_demand_snapshots : mg "demand_snapshots" = some (.ref a_demand_snapshots)
  a_demand_asked : Addr
  d_demand_asked : FuncData
  F_demand_asked : Fun K "demand_asked" "demand_asked" s_demand_asked a_demand_asked d_demand_asked
  b_demand_asked : Binds K d_demand_asked ["versions", "open_lot", "last"] []
  g_demand_asked : mg "demand_asked" = some (.ref a_demand_asked)
  a_version_at : Addr
  d_version_at : FuncData
  F_version_at : Fun K "version_at" "version_at" s_version_at a_version_at d_version_at
  b_version_at : Binds K d_version_at ["versions", "snapshot"] []
  g_version_at : mg "version_at" = some (.ref a_version_at)
  a_needed_at : Addr
  d_needed_at : FuncData
  F_needed_at : Fun K "needed_at" "needed_at" s_needed_at a_needed_at d_needed_at
  b_needed_at : Binds K d_needed_at ["versions", "asked"] []
  g_needed_at : mg "needed_at" = some (.ref a_needed_at)
  a_needed : Addr
  d_needed : FuncData
  F_needed : Fun K "needed" "needed" s_needed a_needed d_needed
  b_needed : Binds K d_needed ["versions", "open_lot", "last"] []
  g_needed : mg "needed" = some (.ref a_needed)
  a_law_is_lot : Addr
  d_law_is_lot : FuncData
  F_law_is_lot : Fun K "_law_is_lot" "_law_is_lot" s_law_is_lot a_law_is_lot d_law_is_lot
  b_law_is_lot : Binds K d_law_is_lot ["thing", "commits"] []
  g_law_is_lot : mg "_law_is_lot" = some (.ref a_law_is_lot)
  a_law_seen : Addr
  d_law_seen : FuncData
  F_law_seen : Fun K "_law_seen" "_law_seen" s_law_seen a_law_seen d_law_seen
  b_law_seen : Binds K d_law_seen ["versions", "snapshot"] []
  g_law_seen : mg "_law_seen" = some (.ref a_law_seen)
  a_law_is_enough : Addr
  d_law_is_enough : FuncData
  F_law_is_enough : Fun K "_law_is_enough" "_law_is_enough" s_law_is_enough a_law_is_enough d_law_is_enough
  b_law_is_enough : Binds K d_law_is_enough ["versions", "asked", "thing"] []
  g_law_is_enough : mg "_law_is_enough" = some (.ref a_law_is_enough)
  a_read_at : Addr
  d_read_at : FuncData
  F_read_at : Fun K "read_at" "read_at" s_read_at a_read_at d_read_at
  b_read_at : Binds K d_read_at ["versions", "snapshot"] []
  g_read_at : mg "read_at" = some (.ref a_read_at)
  a_is_told_right : Addr
  d_is_told_right : FuncData
  F_is_told_right : Fun K "is_told_right" "is_told_right" s_is_told_right a_is_told_right d_is_told_right
  b_is_told_right : Binds K d_is_told_right ["versions", "kept", "snapshot"] []
  g_is_told_right : mg "is_told_right" = some (.ref a_is_told_right)
  a_is_kept_right : Addr
  d_is_kept_right : FuncData
  F_is_kept_right : Fun K "is_kept_right" "is_kept_right" s_is_kept_right a_is_kept_right d_is_kept_right
  b_is_kept_right : Binds K d_is_kept_right ["versions", "open_lot", "last", "thing"] []
  g_is_kept_right : mg "is_kept_right" = some (.ref a_is_kept_right)
  a_law_some : Addr
  d_law_some : FuncData
  F_law_some : Fun K "_law_some" "_law_some" s_law_some a_law_some d_law_some
  b_law_some : Binds K d_law_some ["bag", "row", "share"] []
  g_law_some : mg "_law_some" = some (.ref a_law_some)
  a_law_lot : Addr
  d_law_lot : FuncData
  F_law_lot : Fun K "_law_lot" "_law_lot" s_law_lot a_law_lot d_law_lot
  b_law_lot : Binds K d_law_lot ["bag", "versions", "due"] []
  g_law_lot : mg "_law_lot" = some (.ref a_law_lot)
  a_law_no_lot : Addr
  d_law_no_lot : FuncData
  F_law_no_lot : Fun K "_law_no_lot" "_law_no_lot" s_law_no_lot a_law_no_lot d_law_no_lot
  b_law_no_lot : Binds K d_law_no_lot ["bag", "lot"] []
  g_law_no_lot : mg "_law_no_lot" = some (.ref a_law_no_lot)
  a_law : Addr
  d_law : FuncData
  F_law : Fun K "law" "law" s_law a_law d_law
  b_law : Binds K d_law ["script"] []
  g_law : mg "law" = some (.ref a_law)
  bl : ∀ (s : Shared) (u : Value), BindsTo s d_law ⟨[u], []⟩ [("script", u)]
  t_GREATEST : Tok
  c_GREATEST : mg "GREATEST" = some (.int 1000000000000000000 t_GREATEST)
  z_abs : mg "abs" = none
  z_all : mg "all" = none
  z_bool : mg "bool" = none
  z_enumerate : mg "enumerate" = none
  z_int : mg "int" = none
  z_isinstance : mg "isinstance" = none
  z_len : mg "len" = none
  z_list : mg "list" = none
  z_max : mg "max" = none
  z_min : mg "min" = none
  z_range : mg "range" = none
  z_reversed : mg "reversed" = none
  z_sorted : mg "sorted" = none
  z_tuple : mg "tuple" = none
section
variable {P : Program} {w : World} {K : PySem.W.Frag} {mg : Str → Option Value} {base : Heap}
def Tx.T (x : Tx K mg) : Nat → Addr := fun c => 0
theorem Tx.own_ok (x : Tx K mg) : ∀ c n b, x_own c n = some b → IsiOwn K (x.T c) ∧ PySem.W.kitOne K (.ref (x.T c)) (.type n) = some b := fun c n b h => by simp [x_own] at h
theorem fn_law_bag (x : Tx K mg) : FnM P w K mg base x.T 1 x.a_law_bag x.d_law_bag ["script"] r_law_bag := fn_ok x.F_law_bag sc_law_bag fun cdv A outer s H E hr => sss_one (ss_ret (se_lstA (fz := false) (n := 4) (san_cons (se_comp (fz := true) (own := [("cell", 1)]) (t := (.one 1)) rfl sc_law_bag.nd (si_any (se_sl (fz := true) (se_var (by rfl) (by first | exact Or.inl rfl | exact Or.inr (Or.inl rfl) | exact Or.inr (Or.inr rfl))) (sp_none) (sp_some (se_int)))) (blkOk_by (own := [("cell", 1)]) (N := N_law_bag) (sc := (defScope s_law_bag)) (by decide +kernel)) (by decide) (fun _ _ _ _ _ => pg_name (i := 1) sc_law_bag.nd (by rfl) (Or.inl (by rfl))) (.inl ⟨rfl, rfl⟩) (fun _ _ _ _ _ => se_bty call_int1 okc_int (by rfl) x.z_int (by decide +kernel) (SAn.run (san_cons (se_var (by rfl) (by first | exact Or.inl rfl | exact Or.inr (Or.inl rfl) | exact Or.inr (Or.inr rfl))) (san_nil))))) (san_cons (se_int) (san_cons (se_int) (san_cons (se_int) (san_nil)))))))
theorem fn_law_mixed (x : Tx K mg) : FnM P w K mg base x.T 1 x.a_law_mixed x.d_law_mixed ["cell", "turn"] r_law_mixed := fn_ok x.F_law_mixed sc_law_mixed fun cdv A outer s H E hr => sss_cons (ss_set (i := 2) sc_law_mixed.nd (by rfl) (by first | exact Or.inl rfl | exact Or.inr rfl) (se_op op_modN ok_mod (se_op (opr_or op_mul op_rep) (ok_mul (fz := true)) (se_op (opr_or op_add (opr_or op_add_str (opr_or op_catA op_cat))) (ok_add (fz := true)) (se_op (opr_or op_add (opr_or op_add_str (opr_or op_catA op_cat))) (ok_add (fz := true)) (se_op op_modN ok_mod (se_bty call_int1 okc_int (by rfl) x.z_int (by decide +kernel) (SAn.run (san_cons (se_var (by rfl) (by first | exact Or.inl rfl | exact Or.inr (Or.inl rfl) | exact Or.inr (Or.inr rfl))) (san_nil)))) (se_int)) (se_op (opr_or op_mul op_rep) (ok_mul (fz := true)) (se_int) (se_var (by rfl) (by first | exact Or.inl rfl | exact Or.inr (Or.inl rfl) | exact Or.inr (Or.inr rfl))))) (se_int)) (se_int)) (se_int))) (sss_cons (ss_set (i := 2) sc_law_mixed.nd (by rfl) (by first | exact Or.inl rfl | exact Or.inr rfl) (se_op op_modN ok_mod (se_op (opr_or op_mul op_rep) (ok_mul (fz := true)) (se_var (by rfl) (by first | exact Or.inl rfl | exact Or.inr (Or.inl rfl) | exact Or.inr (Or.inr rfl))) (se_op (opr_or op_add (opr_or op_add_str (opr_or op_catA op_cat))) (ok_add (fz := true)) (se_op op_fdivW ok_divW (se_var (by rfl) (by first | exact Or.inl rfl | exact Or.inr (Or.inl rfl) | exact Or.inr (Or.inr rfl))) (se_int)) (se_int))) (se_int))) (sss_one (ss_ret (se_op op_fdivW ok_divW (se_op op_modN ok_mod (se_op (opr_or op_mul op_rep) (ok_mul (fz := true)) (se_var (by rfl) (by first | exact Or.inl rfl | exact Or.inr (Or.inl rfl) | exact Or.inr (Or.inr rfl))) (se_op (opr_or op_add (opr_or op_add_str (opr_or op_catA op_cat))) (ok_add (fz := true)) (se_op op_fdivW ok_divW (se_var (by rfl) (by first | exact Or.inl rfl | exact Or.inr (Or.inl rfl) | exact Or.inr (Or.inr rfl))) (se_int)) (se_int))) (se_int)) (se_int)))))
theorem fn_law_draw (x : Tx K mg) : FnM P w K mg base x.T 2 x.a_law_draw x.d_law_draw ["bag", "many"] r_law_draw := fn_ok x.F_law_draw sc_law_draw fun cdv A outer s H E hr => sss_cons (ss_asg (se_op (opr_or op_add (opr_or op_add_str (opr_or op_catA op_cat))) (ok_add (fz := true)) (se_ix (hu_of hr) (se_var (by rfl) (by first | exact Or.inl rfl | exact Or.inr (Or.inl rfl) | exact Or.inr (Or.inr rfl))) (se_int)) (se_int)) (sg_sub (hu_of hr) (se_var (by rfl) (by first | exact Or.inl rfl | exact Or.inr (Or.inl rfl) | exact Or.inr (Or.inr rfl))) (se_int))) (sss_cons (ss_if (st_cmp (opr_or op_gt op_gt_str) ok_cmpS (se_ix (hu_of hr) (se_var (by rfl) (by first | exact Or.inl rfl | exact Or.inr (Or.inl rfl) | exact Or.inr (Or.inr rfl))) (se_int)) (se_int) (by rfl)) (sss_cons (ss_set (i := 2) sc_law_draw.nd (by rfl) (by first | exact Or.inl rfl | exact Or.inr rfl) (se_op op_modN ok_mod (se_bty call_int1 okc_int (by rfl) x.z_int (by decide +kernel) (SAn.run (san_cons (se_ix (hu_of hr) (se_var (by rfl) (by first | exact Or.inl rfl | exact Or.inr (Or.inl rfl) | exact Or.inr (Or.inr rfl))) (se_int)) (san_nil)))) (se_var (by rfl) (by first | exact Or.inl rfl | exact Or.inr (Or.inl rfl) | exact Or.inr (Or.inr rfl))))) (sss_cons (ss_asg (se_op op_fdivW ok_divW (se_ix (hu_of hr) (se_var (by rfl) (by first | exact Or.inl rfl | exact Or.inr (Or.inl rfl) | exact Or.inr (Or.inr rfl))) (se_int)) (se_var (by rfl) (by first | exact Or.inl rfl | exact Or.inr (Or.inl rfl) | exact Or.inr (Or.inr rfl)))) (sg_sub (hu_of hr) (se_var (by rfl) (by first | exact Or.inl rfl | exact Or.inr (Or.inl rfl) | exact Or.inr (Or.inr rfl))) (se_int))) (sss_one (ss_ret (se_var (by rfl) (by first | exact Or.inl rfl | exact Or.inr (Or.inl rfl) | exact Or.inr (Or.inr rfl))))))) (sss_nil)) (sss_cons (ss_set (i := 3) sc_law_draw.nd (by rfl) (by first | exact Or.inl rfl | exact Or.inr rfl) (se_ix (hu_of hr) (se_var (by rfl) (by first | exact Or.inl rfl | exact Or.inr (Or.inl rfl) | exact Or.inr (Or.inr rfl))) (se_int))) (sss_cons (ss_if (st_cmp (opr_or op_eq (op_eqD hr.units)) ok_eq (se_blt (CallR.or call_len call_lenD) okc_len (by rfl) x.z_len (by decide +kernel) (SAn.run (san_cons (se_var (by rfl) (by first | exact Or.inl rfl | exact Or.inr (Or.inl rfl) | exact Or.inr (Or.inr rfl))) (san_nil)))) (se_int) (by rfl)) (sss_one (ss_ret (se_op op_modN ok_mod (se_call ((fn_law_mixed x).mono (by decide)) hr (takes_of rfl rfl rfl rfl) (by rfl) x.g_law_mixed x.F_law_mixed.kp x.b_law_mixed (san_cons (se_int) (san_cons (se_ix (hu_of hr) (se_var (by rfl) (by first | exact Or.inl rfl | exact Or.inr (Or.inl rfl) | exact Or.inr (Or.inr rfl))) (se_int)) (san_nil)))) (se_var (by rfl) (by first | exact Or.inl rfl | exact Or.inr (Or.inl rfl) | exact Or.inr (Or.inr rfl)))))) (sss_nil)) (sss_cons (ss_set (i := 4) sc_law_draw.nd (by rfl) (by first | exact Or.inl rfl | exact Or.inr rfl) (se_ix (hu_of hr) (se_var (by rfl) (by first | exact Or.inl rfl | exact Or.inr (Or.inl rfl) | exact Or.inr (Or.inr rfl))) (se_int))) (sss_cons (ss_asg (se_op (opr_or op_add (opr_or op_add_str (opr_or op_catA op_cat))) (ok_add (fz := true)) (se_var (by rfl) (by first | exact Or.inl rfl | exact Or.inr (Or.inl rfl) | exact Or.inr (Or.inr rfl))) (se_int)) (sg_sub (hu_of hr) (se_var (by rfl) (by first | exact Or.inl rfl | exact Or.inr (Or.inl rfl) | exact Or.inr (Or.inr rfl))) (se_int))) (sss_cons (ss_set (i := 5) sc_law_draw.nd (by rfl) (by first | exact Or.inl rfl | exact Or.inr rfl) (se_ix (hu_of hr) (se_var (by rfl) (by first | exact Or.inl rfl | exact Or.inr (Or.inl rfl) | exact Or.inr (Or.inr rfl))) (se_op op_modN ok_mod (se_bty call_int1 okc_int (by rfl) x.z_int (by decide +kernel) (SAn.run (san_cons (se_var (by rfl) (by first | exact Or.inl rfl | exact Or.inr (Or.inl rfl) | exact Or.inr (Or.inr rfl))) (san_nil)))) (se_blt (CallR.or call_len call_lenD) okc_len (by rfl) x.z_len (by decide +kernel) (SAn.run (san_cons (se_var (by rfl) (by first | exact Or.inl rfl | exact Or.inr (Or.inl rfl) | exact Or.inr (Or.inr rfl))) (san_nil))))))) (sss_cons (ss_if (st_w (sw_and (st_cmp (opr_or op_lt op_lt_str) ok_cmpS (se_var (by rfl) (by first | exact Or.inl rfl | exact Or.inr (Or.inl rfl) | exact Or.inr (Or.inr rfl))) (se_blt (CallR.or call_len call_lenD) okc_len (by rfl) x.z_len (by decide +kernel) (SAn.run (san_cons (se_var (by rfl) (by first | exact Or.inl rfl | exact Or.inr (Or.inl rfl) | exact Or.inr (Or.inr rfl))) (san_nil)))) (by rfl)) (sw_and1 (st_cmp (opr_or op_ge op_ge_str) ok_cmpS (se_blt call_abs okc_abs (by rfl) x.z_abs (by decide +kernel) (SAn.run (san_cons (se_var (by rfl) (by first | exact Or.inl rfl | exact Or.inr (Or.inl rfl) | exact Or.inr (Or.inr rfl))) (san_nil)))) (se_op op_pow ok_pow (se_int) (se_int)) (by rfl))))) (sss_cons (ss_asg (se_op op_fdivW ok_divW (se_blt call_abs okc_abs (by rfl) x.z_abs (by decide +kernel) (SAn.run (san_cons (se_var (by rfl) (by first | exact Or.inl rfl | exact Or.inr (Or.inl rfl) | exact Or.inr (Or.inr rfl))) (san_nil)))) (se_var (by rfl) (by first | exact Or.inl rfl | exact Or.inr (Or.inl rfl) | exact Or.inr (Or.inr rfl)))) (sg_sub (hu_of hr) (se_var (by rfl) (by first | exact Or.inl rfl | exact Or.inr (Or.inl rfl) | exact Or.inr (Or.inr rfl))) (se_int))) (sss_one (ss_ret (se_op op_modN ok_mod (se_bty call_int1 okc_int (by rfl) x.z_int (by decide +kernel) (SAn.run (san_cons (se_blt call_abs okc_abs (by rfl) x.z_abs (by decide +kernel) (SAn.run (san_cons (se_var (by rfl) (by first | exact Or.inl rfl | exact Or.inr (Or.inl rfl) | exact Or.inr (Or.inr rfl))) (san_nil)))) (san_nil)))) (se_var (by rfl) (by first | exact Or.inl rfl | exact Or.inr (Or.inl rfl) | exact Or.inr (Or.inr rfl))))))) (sss_nil)) (sss_one (ss_ret (se_op op_modN ok_mod (se_call ((fn_law_mixed x).mono (by decide)) hr (takes_of rfl rfl rfl rfl) (by rfl) x.g_law_mixed x.F_law_mixed.kp x.b_law_mixed (san_cons (se_var (by rfl) (by first | exact Or.inl rfl | exact Or.inr (Or.inl rfl) | exact Or.inr (Or.inr rfl))) (san_cons (se_ix (hu_of hr) (se_var (by rfl) (by first | exact Or.inl rfl | exact Or.inr (Or.inl rfl) | exact Or.inr (Or.inr rfl))) (se_int)) (san_nil)))) (se_var (by rfl) (by first | exact Or.inl rfl | exact Or.inr (Or.inl rfl) | exact Or.inr (Or.inr rfl)))))))))))))
theorem fn_law_versions (x : Tx K mg) : FnM P w K mg base x.T 3 x.a_law_versions x.d_law_versions ["bag"] r_law_versions := fn_ok x.F_law_versions sc_law_versions fun cdv A outer s H E hr => sss_cons (ss_set (i := 1) sc_law_versions.nd (by rfl) (by first | exact Or.inl rfl | exact Or.inr rfl) (se_lstA (fz := true) (n := 0) (san_nil))) (sss_cons (ss_set (i := 2) sc_law_versions.nd (by rfl) (by first | exact Or.inl rfl | exact Or.inr rfl) (se_int)) (sss_cons (ss_for (passes_of rfl) rfl (si_range1 (by rfl) x.z_range (SAn.run (san_cons (se_call ((fn_law_draw x).mono (by decide)) hr (takes_of rfl rfl rfl rfl) (by rfl) x.g_law_draw x.F_law_draw.kp x.b_law_draw (san_cons (se_var (by rfl) (by first | exact Or.inl rfl | exact Or.inr (Or.inl rfl) | exact Or.inr (Or.inr rfl))) (san_cons (se_ix (hu_of hr) (se_lstA (fz := true) (n := 2) (san_cons (se_int) (san_cons (se_int) (san_nil)))) (se_call ((fn_law_draw x).mono (by decide)) hr (takes_of rfl rfl rfl rfl) (by rfl) x.g_law_draw x.F_law_draw.kp x.b_law_draw (san_cons (se_var (by rfl) (by first | exact Or.inl rfl | exact Or.inr (Or.inl rfl) | exact Or.inr (Or.inr rfl))) (san_cons (se_int) (san_nil))))) (san_nil)))) (san_nil)))) (sg_name (i := 3) sc_law_versions.nd (by rfl) (by first | exact Or.inl rfl | exact Or.inr rfl)) (sss_cons (ss_set (i := 2) sc_law_versions.nd (by rfl) (by first | exact Or.inl rfl | exact Or.inr rfl) (se_op (opr_or op_add (opr_or op_add_str (opr_or op_catA op_cat))) (ok_add (fz := true)) (se_op (opr_or op_add (opr_or op_add_str (opr_or op_catA op_cat))) (ok_add (fz := true)) (se_var (by rfl) (by first | exact Or.inl rfl | exact Or.inr (Or.inl rfl) | exact Or.inr (Or.inr rfl))) (se_int)) (se_call ((fn_law_draw x).mono (by decide)) hr (takes_of rfl rfl rfl rfl) (by rfl) x.g_law_draw x.F_law_draw.kp x.b_law_draw (san_cons (se_var (by rfl) (by first | exact Or.inl rfl | exact Or.inr (Or.inl rfl) | exact Or.inr (Or.inr rfl))) (san_cons (se_ix (hu_of hr) (se_lstA (fz := true) (n := 3) (san_cons (se_int) (san_cons (se_int) (san_cons (se_op op_pow ok_pow (se_int) (se_int)) (san_nil))))) (se_call ((fn_law_draw x).mono (by decide)) hr (takes_of rfl rfl rfl rfl) (by rfl) x.g_law_draw x.F_law_draw.kp x.b_law_draw (san_cons (se_var (by rfl) (by first | exact Or.inl rfl | exact Or.inr (Or.inl rfl) | exact Or.inr (Or.inr rfl))) (san_cons (se_int) (san_nil))))) (san_nil)))))) (sss_cons (ss_set (i := 4) sc_law_versions.nd (by rfl) (by first | exact Or.inl rfl | exact Or.inr rfl) (se_non)) (sss_cons (ss_if (st_cmp (opr_or op_gt op_gt_str) ok_cmpS (se_call ((fn_law_draw x).mono (by decide)) hr (takes_of rfl rfl rfl rfl) (by rfl) x.g_law_draw x.F_law_draw.kp x.b_law_draw (san_cons (se_var (by rfl) (by first | exact Or.inl rfl | exact Or.inr (Or.inl rfl) | exact Or.inr (Or.inr rfl))) (san_cons (se_int) (san_nil)))) (se_int) (by rfl)) (sss_one (ss_set (i := 4) sc_law_versions.nd (by rfl) (by first | exact Or.inl rfl | exact Or.inr rfl) (se_op op_sub ok_sub (se_call ((fn_law_draw x).mono (by decide)) hr (takes_of rfl rfl rfl rfl) (by rfl) x.g_law_draw x.F_law_draw.kp x.b_law_draw (san_cons (se_var (by rfl) (by first | exact Or.inl rfl | exact Or.inr (Or.inl rfl) | exact Or.inr (Or.inr rfl))) (san_cons (se_int) (san_nil)))) (se_int)))) (sss_nil)) (sss_one (ss_set (i := 1) sc_law_versions.nd (by rfl) (by first | exact Or.inl rfl | exact Or.inr rfl) (se_op (opr_or op_add (opr_or op_add_str (opr_or op_catA op_cat))) (ok_add (fz := true)) (se_lstA (fz := true) (n := 1) (san_cons (se_tupA (n := 2) (san_cons (se_var (by rfl) (by first | exact Or.inl rfl | exact Or.inr (Or.inl rfl) | exact Or.inr (Or.inr rfl))) (san_cons (se_var (by rfl) (by first | exact Or.inl rfl | exact Or.inr (Or.inl rfl) | exact Or.inr (Or.inr rfl))) (san_nil)))) (san_nil))) (se_var (by rfl) (by first | exact Or.inl rfl | exact Or.inr (Or.inl rfl) | exact Or.inr (Or.inr rfl)))))))))) (sss_one (ss_ret (se_var (by rfl) (by first | exact Or.inl rfl | exact Or.inr (Or.inl rfl) | exact Or.inr (Or.inr rfl)))))))
theorem fn_law_open (x : Tx K mg) : FnM P w K mg base x.T 3 x.a_law_open x.d_law_open ["bag", "versions", "last"] r_law_open := fn_ok x.F_law_open sc_law_open fun cdv A outer s H E hr => sss_cons (ss_set (i := 3) sc_law_open.nd (by rfl) (by first | exact Or.inl rfl | exact Or.inr rfl) (se_lstA (fz := false) (n := 0) (san_nil))) (sss_cons (ss_for (passes_of rfl) rfl (si_range1 (by rfl) x.z_range (SAn.run (san_cons (se_call ((fn_law_draw x).mono (by decide)) hr (takes_of rfl rfl rfl rfl) (by rfl) x.g_law_draw x.F_law_draw.kp x.b_law_draw (san_cons (se_var (by rfl) (by first | exact Or.inl rfl | exact Or.inr (Or.inl rfl) | exact Or.inr (Or.inr rfl))) (san_cons (se_int) (san_nil)))) (san_nil)))) (sg_name (i := 4) sc_law_open.nd (by rfl) (by first | exact Or.inl rfl | exact Or.inr rfl)) (sss_cons (ss_set (i := 5) sc_law_open.nd (by rfl) (by first | exact Or.inl rfl | exact Or.inr rfl) (se_call ((fn_law_draw x).mono (by decide)) hr (takes_of rfl rfl rfl rfl) (by rfl) x.g_law_draw x.F_law_draw.kp x.b_law_draw (san_cons (se_var (by rfl) (by first | exact Or.inl rfl | exact Or.inr (Or.inl rfl) | exact Or.inr (Or.inr rfl))) (san_cons (se_op (opr_or op_add (opr_or op_add_str (opr_or op_catA op_cat))) (ok_add (fz := true)) (se_var (by rfl) (by first | exact Or.inl rfl | exact Or.inr (Or.inl rfl) | exact Or.inr (Or.inr rfl))) (se_int)) (san_nil))))) (sss_cons (ss_if (st_w (sw_and (st_cmp (opr_or op_gt op_gt_str) ok_cmpS (se_blt (CallR.or call_len call_lenD) okc_len (by rfl) x.z_len (by decide +kernel) (SAn.run (san_cons (se_var (by rfl) (by first | exact Or.inl rfl | exact Or.inr (Or.inl rfl) | exact Or.inr (Or.inr rfl))) (san_nil)))) (se_int) (by rfl)) (sw_and1 (st_cmp (opr_or op_gt op_gt_str) ok_cmpS (se_call ((fn_law_draw x).mono (by decide)) hr (takes_of rfl rfl rfl rfl) (by rfl) x.g_law_draw x.F_law_draw.kp x.b_law_draw (san_cons (se_var (by rfl) (by first | exact Or.inl rfl | exact Or.inr (Or.inl rfl) | exact Or.inr (Or.inr rfl))) (san_cons (se_int) (san_nil)))) (se_int) (by rfl))))) (sss_one (ss_set (i := 5) sc_law_open.nd (by rfl) (by first | exact Or.inl rfl | exact Or.inr rfl) (se_blt (call_min2 rfl) okc_min2 (by rfl) x.z_min (by decide +kernel) (SAn.run (san_cons (se_var (by rfl) (by first | exact Or.inl rfl | exact Or.inr (Or.inl rfl) | exact Or.inr (Or.inr rfl))) (san_cons (se_op op_sub ok_sub (se_op (opr_or op_add (opr_or op_add_str (opr_or op_catA op_cat))) (ok_add (fz := true)) (se_ix (hu_of hr) (se_ix (hu_of hr) (se_var (by rfl) (by first | exact Or.inl rfl | exact Or.inr (Or.inl rfl) | exact Or.inr (Or.inr rfl))) (se_call ((fn_law_draw x).mono (by decide)) hr (takes_of rfl rfl rfl rfl) (by rfl) x.g_law_draw x.F_law_draw.kp x.b_law_draw (san_cons (se_var (by rfl) (by first | exact Or.inl rfl | exact Or.inr (Or.inl rfl) | exact Or.inr (Or.inr rfl))) (san_cons (se_blt (CallR.or call_len call_lenD) okc_len (by rfl) x.z_len (by decide +kernel) (SAn.run (san_cons (se_var (by rfl) (by first | exact Or.inl rfl | exact Or.inr (Or.inl rfl) | exact Or.inr (Or.inr rfl))) (san_nil)))) (san_nil))))) (se_int)) (se_call ((fn_law_draw x).mono (by decide)) hr (takes_of rfl rfl rfl rfl) (by rfl) x.g_law_draw x.F_law_draw.kp x.b_law_draw (san_cons (se_var (by rfl) (by first | exact Or.inl rfl | exact Or.inr (Or.inl rfl) | exact Or.inr (Or.inr rfl))) (san_cons (se_int) (san_nil))))) (se_int)) (san_nil))))))) (sss_nil)) (sss_one (ss_if (st_cmp (opr_or op_notIn_seq op_notIn_sign) (ok_in (neg := true)) (se_var (by rfl) (by first | exact Or.inl rfl | exact Or.inr (Or.inl rfl) | exact Or.inr (Or.inr rfl))) (se_var (by rfl) (by first | exact Or.inl rfl | exact Or.inr (Or.inl rfl) | exact Or.inr (Or.inr rfl))) (by rfl)) (sss_one (ss_expr (se_lm PySem.F.slot_list_append PySem.F.type_list_append mt_append okm_append (se_var (by rfl) (by first | exact Or.inl rfl | exact Or.inr (Or.inl rfl) | exact Or.inr (Or.inr rfl))) (SAn.run (san_cons (se_var (by rfl) (by first | exact Or.inl rfl | exact Or.inr (Or.inl rfl) | exact Or.inr (Or.inr rfl))) (san_nil)))))) (sss_nil)))))) (sss_one (ss_ret (se_bty call_tuple_of okc_tuple (by rfl) x.z_tuple (by decide +kernel) (SAn.run (san_cons (se_blt (CallR.or cr_sortedI (call_sortedDI rfl)) (okc_sorted (fz := true)) (by rfl) x.z_sorted (by decide +kernel) (SAn.run (san_cons (se_var (by rfl) (by first | exact Or.inl rfl | exact Or.inr (Or.inl rfl) | exact Or.inr (Or.inr rfl))) (san_nil)))) (san_nil)))))))
theorem fn_law_needed (x : Tx K mg) : FnM P w K mg base x.T 1 x.a_law_needed x.d_law_needed ["versions", "open_lot"] r_law_needed := fn_ok x.F_law_needed sc_law_needed fun cdv A outer s H E hr => sss_cons (ss_set (i := 2) sc_law_needed.nd (by rfl) (by first | exact Or.inl rfl | exact Or.inr rfl) (se_lstA (fz := false) (n := 0) (san_nil))) (sss_cons (ss_for (passes_of rfl) rfl (si_range1 (by rfl) x.z_range (SAn.run (san_cons (se_blt (CallR.or call_len call_lenD) okc_len (by rfl) x.z_len (by decide +kernel) (SAn.run (san_cons (se_var (by rfl) (by first | exact Or.inl rfl | exact Or.inr (Or.inl rfl) | exact Or.inr (Or.inr rfl))) (san_nil)))) (san_nil)))) (sg_name (i := 3) sc_law_needed.nd (by rfl) (by first | exact Or.inl rfl | exact Or.inr rfl)) (sss_cons (ss_set (i := 4) sc_law_needed.nd (by rfl) (by first | exact Or.inl rfl | exact Or.inr rfl) (se_op op_sub ok_sub (se_op op_sub ok_sub (se_blt (CallR.or call_len call_lenD) okc_len (by rfl) x.z_len (by decide +kernel) (SAn.run (san_cons (se_var (by rfl) (by first | exact Or.inl rfl | exact Or.inr (Or.inl rfl) | exact Or.inr (Or.inr rfl))) (san_nil)))) (se_int)) (se_var (by rfl) (by first | exact Or.inl rfl | exact Or.inr (Or.inl rfl) | exact Or.inr (Or.inr rfl))))) (sss_cons (ss_set (i := 5) sc_law_needed.nd (by rfl) (by first | exact Or.inl rfl | exact Or.inr rfl) (se_cmp (opr_or op_eq (op_eqD hr.units)) ok_eq (se_var (by rfl) (by first | exact Or.inl rfl | exact Or.inr (Or.inl rfl) | exact Or.inr (Or.inr rfl))) (se_int) (by rfl))) (sss_cons (ss_for (passes_of rfl) rfl (si_any (se_var (by rfl) (by first | exact Or.inl rfl | exact Or.inr (Or.inl rfl) | exact Or.inr (Or.inr rfl)))) (sg_name (i := 6) sc_law_needed.nd (by rfl) (by first | exact Or.inl rfl | exact Or.inr rfl)) (sss_one (ss_if (st_w (sw_and (st_cmp (opr_or op_le op_le_str) ok_cmpS (se_ix (hu_of hr) (se_ix (hu_of hr) (se_var (by rfl) (by first | exact Or.inl rfl | exact Or.inr (Or.inl rfl) | exact Or.inr (Or.inr rfl))) (se_var (by rfl) (by first | exact Or.inl rfl | exact Or.inr (Or.inl rfl) | exact Or.inr (Or.inr rfl)))) (se_int)) (se_var (by rfl) (by first | exact Or.inl rfl | exact Or.inr (Or.inl rfl) | exact Or.inr (Or.inr rfl))) (by rfl)) (sw_and1 (st_w (sw_or (st_cmp (opr_or op_eq (op_eqD hr.units)) ok_eq (se_var (by rfl) (by first | exact Or.inl rfl | exact Or.inr (Or.inl rfl) | exact Or.inr (Or.inr rfl))) (se_int) (by rfl)) (sw_or1 (st_cmp (opr_or op_lt op_lt_str) ok_cmpS (se_var (by rfl) (by first | exact Or.inl rfl | exact Or.inr (Or.inl rfl) | exact Or.inr (Or.inr rfl))) (se_ix (hu_of hr) (se_ix (hu_of hr) (se_var (by rfl) (by first | exact Or.inl rfl | exact Or.inr (Or.inl rfl) | exact Or.inr (Or.inr rfl))) (se_op op_sub ok_sub (se_var (by rfl) (by first | exact Or.inl rfl | exact Or.inr (Or.inl rfl) | exact Or.inr (Or.inr rfl))) (se_int))) (se_int)) (by rfl)))))))) (sss_one (ss_set (i := 5) sc_law_needed.nd (by rfl) (by first | exact Or.inl rfl | exact Or.inr rfl) (se_bl))) (sss_nil)))) (sss_one (ss_if (st_w (sw_and (st_tr (se_var (by rfl) (by first | exact Or.inl rfl | exact Or.inr (Or.inl rfl) | exact Or.inr (Or.inr rfl)))) (sw_and1 (st_w (sw_or (st_cmp (opr_or op_notN op_isNotF) ok_isnot (se_ix (hu_of hr) (se_ix (hu_of hr) (se_var (by rfl) (by first | exact Or.inl rfl | exact Or.inr (Or.inl rfl) | exact Or.inr (Or.inr rfl))) (se_var (by rfl) (by first | exact Or.inl rfl | exact Or.inr (Or.inl rfl) | exact Or.inr (Or.inr rfl)))) (se_int)) (se_non) (by rfl)) (sw_or1 (st_cmp (opr_or op_gt op_gt_str) ok_cmpS (se_blt (CallR.or call_len call_lenD) okc_len (by rfl) x.z_len (by decide +kernel) (SAn.run (san_cons (se_var (by rfl) (by first | exact Or.inl rfl | exact Or.inr (Or.inl rfl) | exact Or.inr (Or.inr rfl))) (san_nil)))) (se_int) (by rfl)))))))) (sss_one (ss_expr (se_lm PySem.F.slot_list_append PySem.F.type_list_append mt_append okm_append (se_var (by rfl) (by first | exact Or.inl rfl | exact Or.inr (Or.inl rfl) | exact Or.inr (Or.inr rfl))) (SAn.run (san_cons (se_ix (hu_of hr) (se_ix (hu_of hr) (se_var (by rfl) (by first | exact Or.inl rfl | exact Or.inr (Or.inl rfl) | exact Or.inr (Or.inr rfl))) (se_var (by rfl) (by first | exact Or.inl rfl | exact Or.inr (Or.inl rfl) | exact Or.inr (Or.inr rfl)))) (se_int)) (san_nil)))))) (sss_nil))))))) (sss_one (ss_ret (se_var (by rfl) (by first | exact Or.inl rfl | exact Or.inr (Or.inl rfl) | exact Or.inr (Or.inr rfl))))))
theorem fn_is_tuple (x : Tx K mg) : FnM P w K mg base x.T 1 x.a_is_tuple x.d_is_tuple ["many", "thing"] r_is_tuple := fn_ok x.F_is_tuple sc_is_tuple fun cdv A outer s H E hr => sss_one (ss_ret (se_and (se_bB (se_blt call_isi (okc_isi x.own_ok) (by rfl) x.z_isinstance (by decide +kernel) (SAn.run (san_cons (se_var (by rfl) (by first | exact Or.inl rfl | exact Or.inr (Or.inl rfl) | exact Or.inr (Or.inr rfl))) (san_cons (se_c (pe_bltn (v := .ty "tuple") (by rfl) x.z_tuple (by decide +kernel) rfl) (fun _ _ _ => by simp only [VR])) (san_nil)))))) (se_and1 (se_bB (se_cmp (opr_or op_eq (op_eqD hr.units)) ok_eq (se_blt (CallR.or call_len call_lenD) okc_len (by rfl) x.z_len (by decide +kernel) (SAn.run (san_cons (se_var (by rfl) (by first | exact Or.inl rfl | exact Or.inr (Or.inl rfl) | exact Or.inr (Or.inr rfl))) (san_nil)))) (se_var (by rfl) (by first | exact Or.inl rfl | exact Or.inr (Or.inl rfl) | exact Or.inr (Or.inr rfl))) (by rfl))))))
theorem fn_is_integer (x : Tx K mg) : FnM P w K mg base x.T 1 x.a_is_integer x.d_is_integer ["thing"] r_is_integer := fn_ok x.F_is_integer sc_is_integer fun cdv A outer s H E hr => sss_one (ss_ret (se_and (se_bB (se_blt call_isi (okc_isi x.own_ok) (by rfl) x.z_isinstance (by decide +kernel) (SAn.run (san_cons (se_var (by rfl) (by first | exact Or.inl rfl | exact Or.inr (Or.inl rfl) | exact Or.inr (Or.inr rfl))) (san_cons (se_c (pe_bltn (v := .ty "int") (by rfl) x.z_int (by decide +kernel) rfl) (fun _ _ _ => by simp only [VR])) (san_nil)))))) (se_and1 (se_not (se_bB (se_blt call_isi (okc_isi x.own_ok) (by rfl) x.z_isinstance (by decide +kernel) (SAn.run (san_cons (se_var (by rfl) (by first | exact Or.inl rfl | exact Or.inr (Or.inl rfl) | exact Or.inr (Or.inr rfl))) (san_cons (se_c (pe_bltn (v := .ty "bool") (by rfl) x.z_bool (by decide +kernel) rfl) (fun _ _ _ => by simp only [VR])) (san_nil))))))))))
theorem fn_is_within (x : Tx K mg) : FnM P w K mg base x.T 2 x.a_is_within x.d_is_within ["low", "high", "thing"] r_is_within := fn_ok x.F_is_within sc_is_within fun cdv A outer s H E hr => sss_one (ss_ret (se_and (se_bB (se_call ((fn_is_integer x).mono (by decide)) hr (takes_of rfl rfl rfl rfl) (by rfl) x.g_is_integer x.F_is_integer.kp x.b_is_integer (san_cons (se_var (by rfl) (by first | exact Or.inl rfl | exact Or.inr (Or.inl rfl) | exact Or.inr (Or.inr rfl))) (san_nil)))) (se_and1 (se_bB (se_chain (opr_or op_le op_le_str) ok_cmpS (opr_or op_le op_le_str) ok_cmpS (se_var (by rfl) (by first | exact Or.inl rfl | exact Or.inr (Or.inl rfl) | exact Or.inr (Or.inr rfl))) (se_var (by rfl) (by first | exact Or.inl rfl | exact Or.inr (Or.inl rfl) | exact Or.inr (Or.inr rfl))) (se_var (by rfl) (by first | exact Or.inl rfl | exact Or.inr (Or.inl rfl) | exact Or.inr (Or.inr rfl))))))))
theorem fn_is_commit (x : Tx K mg) : FnM P w K mg base x.T 3 x.a_is_commit x.d_is_commit ["thing"] r_is_commit := fn_ok x.F_is_commit sc_is_commit fun cdv A outer s H E hr => sss_one (ss_ret (se_call ((fn_is_within x).mono (by decide)) hr (takes_of rfl rfl rfl rfl) (by rfl) x.g_is_within x.F_is_within.kp x.b_is_within (san_cons (se_int) (san_cons (se_globI (by rfl) x.c_GREATEST ⟨_, rfl⟩) (san_cons (se_var (by rfl) (by first | exact Or.inl rfl | exact Or.inr (Or.inl rfl) | exact Or.inr (Or.inr rfl))) (san_nil))))))
theorem fn_is_worth (x : Tx K mg) : FnM P w K mg base x.T 3 x.a_is_worth x.d_is_worth ["thing"] r_is_worth := fn_ok x.F_is_worth sc_is_worth fun cdv A outer s H E hr => sss_one (ss_ret (se_call ((fn_is_within x).mono (by decide)) hr (takes_of rfl rfl rfl rfl) (by rfl) x.g_is_within x.F_is_within.kp x.b_is_within (san_cons (se_neg (se_globI (by rfl) x.c_GREATEST ⟨_, rfl⟩)) (san_cons (se_globI (by rfl) x.c_GREATEST ⟨_, rfl⟩) (san_cons (se_var (by rfl) (by first | exact Or.inl rfl | exact Or.inr (Or.inl rfl) | exact Or.inr (Or.inr rfl))) (san_nil))))))
theorem fn_is_mark (x : Tx K mg) : FnM P w K mg base x.T 4 x.a_is_mark x.d_is_mark ["thing"] r_is_mark := fn_ok x.F_is_mark sc_is_mark fun cdv A outer s H E hr => sss_one (ss_ret (se_or (se_bB (se_cmp (opr_or op_isN op_isF) ok_is (se_var (by rfl) (by first | exact Or.inl rfl | exact Or.inr (Or.inl rfl) | exact Or.inr (Or.inr rfl))) (se_non) (by rfl))) (se_and1 (se_bB (se_call ((fn_is_worth x).mono (by decide)) hr (takes_of rfl rfl rfl rfl) (by rfl) x.g_is_worth x.F_is_worth.kp x.b_is_worth (san_cons (se_var (by rfl) (by first | exact Or.inl rfl | exact Or.inr (Or.inl rfl) | exact Or.inr (Or.inr rfl))) (san_nil)))))))
theorem fn_is_version (x : Tx K mg) : FnM P w K mg base x.T 5 x.a_is_version x.d_is_version ["thing"] r_is_version := fn_ok x.F_is_version sc_is_version fun cdv A outer s H E hr => sss_one (ss_ret (se_and (se_bB (se_call ((fn_is_tuple x).mono (by decide)) hr (takes_of rfl rfl rfl rfl) (by rfl) x.g_is_tuple x.F_is_tuple.kp x.b_is_tuple (san_cons (se_int) (san_cons (se_var (by rfl) (by first | exact Or.inl rfl | exact Or.inr (Or.inl rfl) | exact Or.inr (Or.inr rfl))) (san_nil))))) (se_and (se_bB (se_call ((fn_is_commit x).mono (by decide)) hr (takes_of rfl rfl rfl rfl) (by rfl) x.g_is_commit x.F_is_commit.kp x.b_is_commit (san_cons (se_ix (hu_of hr) (se_var (by rfl) (by first | exact Or.inl rfl | exact Or.inr (Or.inl rfl) | exact Or.inr (Or.inr rfl))) (se_int)) (san_nil)))) (se_and1 (se_bB (se_call ((fn_is_mark x).mono (by decide)) hr (takes_of rfl rfl rfl rfl) (by rfl) x.g_is_mark x.F_is_mark.kp x.b_is_mark (san_cons (se_ix (hu_of hr) (se_var (by rfl) (by first | exact Or.inl rfl | exact Or.inr (Or.inl rfl) | exact Or.inr (Or.inr rfl))) (se_int)) (san_nil))))))))
theorem fn_demand_versions (x : Tx K mg) : FnM P w K mg base x.T 6 x.a_demand_versions x.d_demand_versions ["thing"] r_demand_versions := fn_ok x.F_demand_versions sc_demand_versions fun cdv A outer s H E hr => sss_cons (ss_if (st_not (st_tr (se_isiT (n1 := "list") (n2 := "tuple") (by rfl) x.z_isinstance (by rfl) x.z_list (by decide +kernel) (by rfl) x.z_tuple (by decide +kernel) (se_var (by rfl) (by first | exact Or.inl rfl | exact Or.inr (Or.inl rfl) | exact Or.inr (Or.inr rfl)))))) (sss_one (ss_stk)) (sss_nil)) (sss_cons (ss_set (i := 1) sc_demand_versions.nd (by rfl) (by first | exact Or.inl rfl | exact Or.inr rfl) (se_non)) (sss_one (ss_for (passes_of rfl) rfl (si_enumA (by rfl) x.z_enumerate (SAn.run (san_cons (se_var (by rfl) (by first | exact Or.inl rfl | exact Or.inr (Or.inl rfl) | exact Or.inr (Or.inr rfl))) (san_nil)))) (sg_tup rfl (sgs_cons (sg_name (i := 2) sc_demand_versions.nd (by rfl) (by first | exact Or.inl rfl | exact Or.inr rfl)) (sgs_cons (sg_name (i := 3) sc_demand_versions.nd (by rfl) (by first | exact Or.inl rfl | exact Or.inr rfl)) (sgs_nil)))) (sss_cons (ss_if (st_w (sw_or (st_not (st_tr (se_call ((fn_is_version x).mono (by decide)) hr (takes_of rfl rfl rfl rfl) (by rfl) x.g_is_version x.F_is_version.kp x.b_is_version (san_cons (se_var (by rfl) (by first | exact Or.inl rfl | exact Or.inr (Or.inl rfl) | exact Or.inr (Or.inr rfl))) (san_nil))))) (sw_or1 (st_w (sw_and (st_cmp (opr_or op_notN op_isNotF) ok_isnot (se_var (by rfl) (by first | exact Or.inl rfl | exact Or.inr (Or.inl rfl) | exact Or.inr (Or.inr rfl))) (se_non) (by rfl)) (sw_and1 (st_cmp (opr_or op_ge op_ge_str) ok_cmpS (se_ix (hu_of hr) (se_var (by rfl) (by first | exact Or.inl rfl | exact Or.inr (Or.inl rfl) | exact Or.inr (Or.inr rfl))) (se_int)) (se_var (by rfl) (by first | exact Or.inl rfl | exact Or.inr (Or.inl rfl) | exact Or.inr (Or.inr rfl))) (by rfl)))))))) (sss_one (ss_stk)) (sss_nil)) (sss_one (ss_set (i := 1) sc_demand_versions.nd (by rfl) (by first | exact Or.inl rfl | exact Or.inr rfl) (se_ix (hu_of hr) (se_var (by rfl) (by first | exact Or.inl rfl | exact Or.inr (Or.inl rfl) | exact Or.inr (Or.inr rfl))) (se_int))))))))
theorem fn_is_snapshot (x : Tx K mg) : FnM P w K mg base x.T 3 x.a_is_snapshot x.d_is_snapshot ["thing"] r_is_snapshot := fn_ok x.F_is_snapshot sc_is_snapshot fun cdv A outer s H E hr => sss_one (ss_ret (se_call ((fn_is_within x).mono (by decide)) hr (takes_of rfl rfl rfl rfl) (by rfl) x.g_is_within x.F_is_within.kp x.b_is_within (san_cons (se_int) (san_cons (se_globI (by rfl) x.c_GREATEST ⟨_, rfl⟩) (san_cons (se_var (by rfl) (by first | exact Or.inl rfl | exact Or.inr (Or.inl rfl) | exact Or.inr (Or.inr rfl))) (san_nil))))))
theorem fn_is_lot_below (x : Tx K mg) : FnM P w K mg base x.T 3 x.a_is_lot_below x.d_is_lot_below ["bound", "thing"] r_is_lot_below := fn_ok x.F_is_lot_below sc_is_lot_below fun cdv A outer s H E hr => sss_cons (ss_if (st_not (st_tr (se_blt call_isi (okc_isi x.own_ok) (by rfl) x.z_isinstance (by decide +kernel) (SAn.run (san_cons (se_var (by rfl) (by first | exact Or.inl rfl | exact Or.inr (Or.inl rfl) | exact Or.inr (Or.inr rfl))) (san_cons (se_c (pe_bltn (v := .ty "tuple") (by rfl) x.z_tuple (by decide +kernel) rfl) (fun _ _ _ => by simp only [VR])) (san_nil))))))) (sss_one (ss_ret (se_bl))) (sss_nil)) (sss_cons (ss_set (i := 2) sc_is_lot_below.nd (by rfl) (by first | exact Or.inl rfl | exact Or.inr rfl) (se_int)) (sss_cons (ss_for (passes_of rfl) rfl (si_any (se_var (by rfl) (by first | exact Or.inl rfl | exact Or.inr (Or.inl rfl) | exact Or.inr (Or.inr rfl)))) (sg_name (i := 3) sc_is_lot_below.nd (by rfl) (by first | exact Or.inl rfl | exact Or.inr rfl)) (sss_cons (ss_if (st_not (st_tr (se_call ((fn_is_within x).mono (by decide)) hr (takes_of rfl rfl rfl rfl) (by rfl) x.g_is_within x.F_is_within.kp x.b_is_within (san_cons (se_var (by rfl) (by first | exact Or.inl rfl | exact Or.inr (Or.inl rfl) | exact Or.inr (Or.inr rfl))) (san_cons (se_op op_sub ok_sub (se_var (by rfl) (by first | exact Or.inl rfl | exact Or.inr (Or.inl rfl) | exact Or.inr (Or.inr rfl))) (se_int)) (san_cons (se_var (by rfl) (by first | exact Or.inl rfl | exact Or.inr (Or.inl rfl) | exact Or.inr (Or.inr rfl))) (san_nil))))))) (sss_one (ss_ret (se_bl))) (sss_nil)) (sss_one (ss_set (i := 2) sc_is_lot_below.nd (by rfl) (by first | exact Or.inl rfl | exact Or.inr rfl) (se_op (opr_or op_add (opr_or op_add_str (opr_or op_catA op_cat))) (ok_add (fz := true)) (se_var (by rfl) (by first | exact Or.inl rfl | exact Or.inr (Or.inl rfl) | exact Or.inr (Or.inr rfl))) (se_int)))))) (sss_one (ss_ret (se_bl)))))
theorem fn_demand_snapshots (x : Tx K mg) : FnM P w K mg base x.T 4 x.a_demand_snapshots x.d_demand_snapshots ["open_lot", "last"] r_demand_snapshots := fn_ok x.F_demand_snapshots sc_demand_snapshots fun cdv A outer s H E hr => sss_cons (ss_if (st_not (st_tr (se_call ((fn_is_snapshot x).mono (by decide)) hr (takes_of rfl rfl rfl rfl) (by rfl) x.g_is_snapshot x.F_is_snapshot.kp x.b_is_snapshot (san_cons (se_var (by rfl) (by first | exact Or.inl rfl | exact Or.inr (Or.inl rfl) | exact Or.inr (Or.inr rfl))) (san_nil))))) (sss_one (ss_stk)) (sss_nil)) (sss_one (ss_if (st_not (st_tr (se_call ((fn_is_lot_below x).mono (by decide)) hr (takes_of rfl rfl rfl rfl) (by rfl) x.g_is_lot_below x.F_is_lot_below.kp x.b_is_lot_below (san_cons (se_op (opr_or op_add (opr_or op_add_str (opr_or op_catA op_cat))) (ok_add (fz := true)) (se_var (by rfl) (by first | exact Or.inl rfl | exact Or.inr (Or.inl rfl) | exact Or.inr (Or.inr rfl))) (se_int)) (san_cons (se_var (by rfl) (by first | exact Or.inl rfl | exact Or.inr (Or.inl rfl) | exact Or.inr (Or.inr rfl))) (san_nil)))))) (sss_one (ss_stk)) (sss_nil)))
theorem fn_demand_asked (x : Tx K mg) : FnM P w K mg base x.T 7 x.a_demand_asked x.d_demand_asked ["versions", "open_lot", "last"] r_demand_asked := fn_ok x.F_demand_asked sc_demand_asked fun cdv A outer s H E hr => sss_cons (ss_expr (se_call ((fn_demand_versions x).mono (by decide)) hr (takes_of rfl rfl rfl rfl) (by rfl) x.g_demand_versions x.F_demand_versions.kp x.b_demand_versions (san_cons (se_var (by rfl) (by first | exact Or.inl rfl | exact Or.inr (Or.inl rfl) | exact Or.inr (Or.inr rfl))) (san_nil)))) (sss_cons (ss_if (st_w (sw_and (st_tr (se_call ((fn_is_snapshot x).mono (by decide)) hr (takes_of rfl rfl rfl rfl) (by rfl) x.g_is_snapshot x.F_is_snapshot.kp x.b_is_snapshot (san_cons (se_var (by rfl) (by first | exact Or.inl rfl | exact Or.inr (Or.inl rfl) | exact Or.inr (Or.inr rfl))) (san_nil)))) (sw_and (st_tr (se_var (by rfl) (by first | exact Or.inl rfl | exact Or.inr (Or.inl rfl) | exact Or.inr (Or.inr rfl)))) (sw_and1 (st_cmp (opr_or op_gt op_gt_str) ok_cmpS (se_ix (hu_of hr) (se_ix (hu_of hr) (se_var (by rfl) (by first | exact Or.inl rfl | exact Or.inr (Or.inl rfl) | exact Or.inr (Or.inr rfl))) (se_int)) (se_int)) (se_var (by rfl) (by first | exact Or.inl rfl | exact Or.inr (Or.inl rfl) | exact Or.inr (Or.inr rfl))) (by rfl)))))) (sss_one (ss_stk)) (sss_nil)) (sss_one (ss_expr (se_call ((fn_demand_snapshots x).mono (by decide)) hr (takes_of rfl rfl rfl rfl) (by rfl) x.g_demand_snapshots x.F_demand_snapshots.kp x.b_demand_snapshots (san_cons (se_var (by rfl) (by first | exact Or.inl rfl | exact Or.inr (Or.inl rfl) | exact Or.inr (Or.inr rfl))) (san_cons (se_var (by rfl) (by first | exact Or.inl rfl | exact Or.inr (Or.inl rfl) | exact Or.inr (Or.inr rfl))) (san_nil)))))))
theorem fn_version_at (x : Tx K mg) : FnM P w K mg base x.T 1 x.a_version_at x.d_version_at ["versions", "snapshot"] r_version_at := fn_ok x.F_version_at sc_version_at fun cdv A outer s H E hr => sss_cons (ss_for (passes_of rfl) rfl (si_any (se_var (by rfl) (by first | exact Or.inl rfl | exact Or.inr (Or.inl rfl) | exact Or.inr (Or.inr rfl)))) (sg_name (i := 2) sc_version_at.nd (by rfl) (by first | exact Or.inl rfl | exact Or.inr rfl)) (sss_one (ss_if (st_cmp (opr_or op_le op_le_str) ok_cmpS (se_ix (hu_of hr) (se_var (by rfl) (by first | exact Or.inl rfl | exact Or.inr (Or.inl rfl) | exact Or.inr (Or.inr rfl))) (se_int)) (se_var (by rfl) (by first | exact Or.inl rfl | exact Or.inr (Or.inl rfl) | exact Or.inr (Or.inr rfl))) (by rfl)) (sss_one (ss_ret (se_var (by rfl) (by first | exact Or.inl rfl | exact Or.inr (Or.inl rfl) | exact Or.inr (Or.inr rfl))))) (sss_nil)))) (sss_one (ss_ret (se_non)))
theorem fn_needed_at (x : Tx K mg) : FnM P w K mg base x.T 2 x.a_needed_at x.d_needed_at ["versions", "asked"] r_needed_at := fn_ok x.F_needed_at sc_needed_at fun cdv A outer s H E hr => sss_cons (ss_comp (fz := true) (i := 2) (own := [("snapshot", 5)]) (t := (.one 5)) rfl sc_needed_at.nd (by rfl) (by rfl) (sw_true rfl rfl rfl (by decide +kernel)) (si_any (se_var (by rfl) (by first | exact Or.inl rfl | exact Or.inr (Or.inl rfl) | exact Or.inr (Or.inr rfl)))) (blkOk_by (own := [("snapshot", 5)]) (N := N_needed_at) (sc := (defScope s_needed_at)) (by decide +kernel)) (by decide) (fun _ _ _ _ _ => pg_name (i := 5) sc_needed_at.nd (by rfl) (Or.inl (by rfl))) (.inl ⟨rfl, rfl⟩) (fun _ _ _ _ _ => se_call ((fn_version_at x).mono (by decide)) hr takes0 (by rfl) x.g_version_at x.F_version_at.kp x.b_version_at (san_cons (se_var (by rfl) (by first | exact Or.inl rfl | exact Or.inr (Or.inl rfl) | exact Or.inr (Or.inr rfl))) (san_cons (se_var (by rfl) (by first | exact Or.inl rfl | exact Or.inr (Or.inl rfl) | exact Or.inr (Or.inr rfl))) (san_nil))))) (sss_cons (ss_set (i := 3) sc_needed_at.nd (by rfl) (by first | exact Or.inl rfl | exact Or.inr rfl) (se_lstA (fz := false) (n := 0) (san_nil))) (sss_cons (ss_for (passes_of rfl) rfl (si_rev (by rfl) x.z_reversed (se_var (by rfl) (by first | exact Or.inl rfl | exact Or.inr (Or.inl rfl) | exact Or.inr (Or.inr rfl)))) (sg_name (i := 4) sc_needed_at.nd (by rfl) (by first | exact Or.inl rfl | exact Or.inr rfl)) (sss_one (ss_if (st_w (sw_and (st_cmp (op_inD (units65 hr)) ok_inD (se_var (by rfl) (by first | exact Or.inl rfl | exact Or.inr (Or.inl rfl) | exact Or.inr (Or.inr rfl))) (se_var (by rfl) (by first | exact Or.inl rfl | exact Or.inr (Or.inl rfl) | exact Or.inr (Or.inr rfl))) (by rfl)) (sw_and1 (st_w (sw_or (st_cmp (opr_or op_notN op_isNotF) ok_isnot (se_ix (hu_of hr) (se_var (by rfl) (by first | exact Or.inl rfl | exact Or.inr (Or.inl rfl) | exact Or.inr (Or.inr rfl))) (se_int)) (se_non) (by rfl)) (sw_or1 (st_tr (se_var (by rfl) (by first | exact Or.inl rfl | exact Or.inr (Or.inl rfl) | exact Or.inr (Or.inr rfl)))))))))) (sss_one (ss_expr (se_lm PySem.F.slot_list_append PySem.F.type_list_append mt_append okm_append (se_var (by rfl) (by first | exact Or.inl rfl | exact Or.inr (Or.inl rfl) | exact Or.inr (Or.inr rfl))) (SAn.run (san_cons (se_ix (hu_of hr) (se_var (by rfl) (by first | exact Or.inl rfl | exact Or.inr (Or.inl rfl) | exact Or.inr (Or.inr rfl))) (se_int)) (san_nil)))))) (sss_nil)))) (sss_one (ss_ret (se_bty call_tuple_of okc_tuple (by rfl) x.z_tuple (by decide +kernel) (SAn.run (san_cons (se_var (by rfl) (by first | exact Or.inl rfl | exact Or.inr (Or.inl rfl) | exact Or.inr (Or.inr rfl))) (san_nil))))))))
theorem fn_needed (x : Tx K mg) : FnM P w K mg base x.T 8 x.a_needed x.d_needed ["versions", "open_lot", "last"] r_needed := fn_ok x.F_needed sc_needed fun cdv A outer s H E hr => sss_cons (ss_expr (se_call ((fn_demand_asked x).mono (by decide)) hr (takes_of rfl rfl rfl rfl) (by rfl) x.g_demand_asked x.F_demand_asked.kp x.b_demand_asked (san_cons (se_var (by rfl) (by first | exact Or.inl rfl | exact Or.inr (Or.inl rfl) | exact Or.inr (Or.inr rfl))) (san_cons (se_var (by rfl) (by first | exact Or.inl rfl | exact Or.inr (Or.inl rfl) | exact Or.inr (Or.inr rfl))) (san_cons (se_var (by rfl) (by first | exact Or.inl rfl | exact Or.inr (Or.inl rfl) | exact Or.inr (Or.inr rfl))) (san_nil)))))) (sss_one (ss_ret (se_call ((fn_needed_at x).mono (by decide)) hr (takes_of rfl rfl rfl rfl) (by rfl) x.g_needed_at x.F_needed_at.kp x.b_needed_at (san_cons (se_var (by rfl) (by first | exact Or.inl rfl | exact Or.inr (Or.inl rfl) | exact Or.inr (Or.inr rfl))) (san_cons (se_lstS (fz := true) (sa_star (se_var (by rfl) (by first | exact Or.inl rfl | exact Or.inr (Or.inl rfl) | exact Or.inr (Or.inr rfl))) (sa_cons (se_var (by rfl) (by first | exact Or.inl rfl | exact Or.inr (Or.inl rfl) | exact Or.inr (Or.inr rfl))) (sa_nil)))) (san_nil))))))
theorem fn_law_is_lot (x : Tx K mg) : FnM P w K mg base x.T 1 x.a_law_is_lot x.d_law_is_lot ["thing", "commits"] r_law_is_lot := fn_ok x.F_law_is_lot sc_law_is_lot fun cdv A outer s H E hr => sss_cons (ss_if (st_not (st_tr (se_blt call_isi (okc_isi x.own_ok) (by rfl) x.z_isinstance (by decide +kernel) (SAn.run (san_cons (se_var (by rfl) (by first | exact Or.inl rfl | exact Or.inr (Or.inl rfl) | exact Or.inr (Or.inr rfl))) (san_cons (se_c (pe_bltn (v := .ty "tuple") (by rfl) x.z_tuple (by decide +kernel) rfl) (fun _ _ _ => by simp only [VR])) (san_nil))))))) (sss_one (ss_ret (se_bl))) (sss_nil)) (sss_cons (ss_set (i := 2) sc_law_is_lot.nd (by rfl) (by first | exact Or.inl rfl | exact Or.inr rfl) (se_int)) (sss_cons (ss_for (passes_of rfl) rfl (si_any (se_var (by rfl) (by first | exact Or.inl rfl | exact Or.inr (Or.inl rfl) | exact Or.inr (Or.inr rfl)))) (sg_name (i := 3) sc_law_is_lot.nd (by rfl) (by first | exact Or.inl rfl | exact Or.inr rfl)) (sss_cons (ss_if (st_w (sw_or (st_not (st_tr (se_blt call_isi (okc_isi x.own_ok) (by rfl) x.z_isinstance (by decide +kernel) (SAn.run (san_cons (se_var (by rfl) (by first | exact Or.inl rfl | exact Or.inr (Or.inl rfl) | exact Or.inr (Or.inr rfl))) (san_cons (se_c (pe_bltn (v := .ty "int") (by rfl) x.z_int (by decide +kernel) rfl) (fun _ _ _ => by simp only [VR])) (san_nil))))))) (sw_or (st_tr (se_blt call_isi (okc_isi x.own_ok) (by rfl) x.z_isinstance (by decide +kernel) (SAn.run (san_cons (se_var (by rfl) (by first | exact Or.inl rfl | exact Or.inr (Or.inl rfl) | exact Or.inr (Or.inr rfl))) (san_cons (se_c (pe_bltn (v := .ty "bool") (by rfl) x.z_bool (by decide +kernel) rfl) (fun _ _ _ => by simp only [VR])) (san_nil)))))) (sw_or (st_cmp (opr_or op_le op_le_str) ok_cmpS (se_var (by rfl) (by first | exact Or.inl rfl | exact Or.inr (Or.inl rfl) | exact Or.inr (Or.inr rfl))) (se_var (by rfl) (by first | exact Or.inl rfl | exact Or.inr (Or.inl rfl) | exact Or.inr (Or.inr rfl))) (by rfl)) (sw_or1 (st_cmp (opr_or op_notIn_seq op_notIn_sign) (ok_in (neg := true)) (se_var (by rfl) (by first | exact Or.inl rfl | exact Or.inr (Or.inl rfl) | exact Or.inr (Or.inr rfl))) (se_var (by rfl) (by first | exact Or.inl rfl | exact Or.inr (Or.inl rfl) | exact Or.inr (Or.inr rfl))) (by rfl))))))) (sss_one (ss_ret (se_bl))) (sss_nil)) (sss_one (ss_set (i := 2) sc_law_is_lot.nd (by rfl) (by first | exact Or.inl rfl | exact Or.inr rfl) (se_var (by rfl) (by first | exact Or.inl rfl | exact Or.inr (Or.inl rfl) | exact Or.inr (Or.inr rfl))))))) (sss_one (ss_ret (se_bl)))))
theorem fn_law_seen (x : Tx K mg) : FnM P w K mg base x.T 1 x.a_law_seen x.d_law_seen ["versions", "snapshot"] r_law_seen := fn_ok x.F_law_seen sc_law_seen fun cdv A outer s H E hr => sss_cons (ss_for (passes_of rfl) rfl (si_any (se_var (by rfl) (by first | exact Or.inl rfl | exact Or.inr (Or.inl rfl) | exact Or.inr (Or.inr rfl)))) (sg_name (i := 2) sc_law_seen.nd (by rfl) (by first | exact Or.inl rfl | exact Or.inr rfl)) (sss_one (ss_if (st_cmp (opr_or op_le op_le_str) ok_cmpS (se_ix (hu_of hr) (se_var (by rfl) (by first | exact Or.inl rfl | exact Or.inr (Or.inl rfl) | exact Or.inr (Or.inr rfl))) (se_int)) (se_var (by rfl) (by first | exact Or.inl rfl | exact Or.inr (Or.inl rfl) | exact Or.inr (Or.inr rfl))) (by rfl)) (sss_one (ss_ret (se_var (by rfl) (by first | exact Or.inl rfl | exact Or.inr (Or.inl rfl) | exact Or.inr (Or.inr rfl))))) (sss_nil)))) (sss_one (ss_ret (se_non)))
theorem fn_law_is_enough (x : Tx K mg) : FnM P w K mg base x.T 2 x.a_law_is_enough x.d_law_is_enough ["versions", "asked", "thing"] r_law_is_enough := fn_ok x.F_law_is_enough sc_law_is_enough fun cdv A outer s H E hr => sss_cons (ss_if (st_not (st_tr (se_call ((fn_law_is_lot x).mono (by decide)) hr (takes_of rfl rfl rfl rfl) (by rfl) x.g_law_is_lot x.F_law_is_lot.kp x.b_law_is_lot (san_cons (se_var (by rfl) (by first | exact Or.inl rfl | exact Or.inr (Or.inl rfl) | exact Or.inr (Or.inr rfl))) (san_cons (se_comp (fz := true) (own := [("pair", 7)]) (t := (.one 7)) rfl sc_law_is_enough.nd (si_any (se_var (by rfl) (by first | exact Or.inl rfl | exact Or.inr (Or.inl rfl) | exact Or.inr (Or.inr rfl)))) (blkOk_by (own := [("pair", 7)]) (N := N_law_is_enough) (sc := (defScope s_law_is_enough)) (by decide +kernel)) (by decide) (fun _ _ _ _ _ => pg_name (i := 7) sc_law_is_enough.nd (by rfl) (Or.inl (by rfl))) (.inl ⟨rfl, rfl⟩) (fun _ _ _ _ _ => se_ix (hu_of hr) (se_var (by rfl) (by first | exact Or.inl rfl | exact Or.inr (Or.inl rfl) | exact Or.inr (Or.inr rfl))) (se_int))) (san_nil)))))) (sss_one (ss_ret (se_bl))) (sss_nil)) (sss_cons (ss_comp (fz := true) (i := 3) (own := [("pair", 7)]) (t := (.one 7)) rfl sc_law_is_enough.nd (by rfl) (by rfl) (sw_true rfl rfl rfl (by decide +kernel)) (si_any (se_var (by rfl) (by first | exact Or.inl rfl | exact Or.inr (Or.inl rfl) | exact Or.inr (Or.inr rfl)))) (blkOk_by (own := [("pair", 7)]) (N := N_law_is_enough) (sc := (defScope s_law_is_enough)) (by decide +kernel)) (by decide) (fun _ _ _ _ _ => pg_name (i := 7) sc_law_is_enough.nd (by rfl) (Or.inl (by rfl))) (.inr ⟨_, rfl, fun _ _ _ _ _ => st_cmp (opr_or op_in_seq op_in_sign) (ok_in (neg := false)) (se_ix (hu_of hr) (se_var (by rfl) (by first | exact Or.inl rfl | exact Or.inr (Or.inl rfl) | exact Or.inr (Or.inr rfl))) (se_int)) (se_var (by rfl) (by first | exact Or.inl rfl | exact Or.inr (Or.inl rfl) | exact Or.inr (Or.inr rfl))) (by rfl)⟩) (fun _ _ _ _ _ => se_var (by rfl) (by first | exact Or.inl rfl | exact Or.inr (Or.inl rfl) | exact Or.inr (Or.inr rfl)))) (sss_cons (ss_for (passes_of rfl) rfl (si_any (se_var (by rfl) (by first | exact Or.inl rfl | exact Or.inr (Or.inl rfl) | exact Or.inr (Or.inr rfl)))) (sg_name (i := 4) sc_law_is_enough.nd (by rfl) (by first | exact Or.inl rfl | exact Or.inr rfl)) (sss_cons (ss_set (i := 5) sc_law_is_enough.nd (by rfl) (by first | exact Or.inl rfl | exact Or.inr rfl) (se_call ((fn_law_seen x).mono (by decide)) hr (takes_of rfl rfl rfl rfl) (by rfl) x.g_law_seen x.F_law_seen.kp x.b_law_seen (san_cons (se_var (by rfl) (by first | exact Or.inl rfl | exact Or.inr (Or.inl rfl) | exact Or.inr (Or.inr rfl))) (san_cons (se_var (by rfl) (by first | exact Or.inl rfl | exact Or.inr (Or.inl rfl) | exact Or.inr (Or.inr rfl))) (san_nil))))) (sss_cons (ss_set (i := 6) sc_law_is_enough.nd (by rfl) (by first | exact Or.inl rfl | exact Or.inr rfl) (se_call ((fn_law_seen x).mono (by decide)) hr (takes_of rfl rfl rfl rfl) (by rfl) x.g_law_seen x.F_law_seen.kp x.b_law_seen (san_cons (se_var (by rfl) (by first | exact Or.inl rfl | exact Or.inr (Or.inl rfl) | exact Or.inr (Or.inr rfl))) (san_cons (se_var (by rfl) (by first | exact Or.inl rfl | exact Or.inr (Or.inl rfl) | exact Or.inr (Or.inr rfl))) (san_nil))))) (sss_one (ss_if (st_cmp (opr_or op_isN op_isF) ok_is (se_var (by rfl) (by first | exact Or.inl rfl | exact Or.inr (Or.inl rfl) | exact Or.inr (Or.inr rfl))) (se_non) (by rfl)) (sss_one (ss_if (st_w (sw_and (st_cmp (opr_or op_notN op_isNotF) ok_isnot (se_var (by rfl) (by first | exact Or.inl rfl | exact Or.inr (Or.inl rfl) | exact Or.inr (Or.inr rfl))) (se_non) (by rfl)) (sw_and1 (st_cmp (opr_or op_notN op_isNotF) ok_isnot (se_ix (hu_of hr) (se_var (by rfl) (by first | exact Or.inl rfl | exact Or.inr (Or.inl rfl) | exact Or.inr (Or.inr rfl))) (se_int)) (se_non) (by rfl))))) (sss_one (ss_ret (se_bl))) (sss_nil))) (sss_one (ss_if (st_cmp (opr_or op_ne (op_neD hr.units)) ok_ne (se_ix (hu_of hr) (se_var (by rfl) (by first | exact Or.inl rfl | exact Or.inr (Or.inl rfl) | exact Or.inr (Or.inr rfl))) (se_int)) (se_ix (hu_of hr) (se_var (by rfl) (by first | exact Or.inl rfl | exact Or.inr (Or.inl rfl) | exact Or.inr (Or.inr rfl))) (se_int)) (by rfl)) (sss_one (ss_ret (se_bl))) (sss_nil)))))))) (sss_one (ss_ret (se_bl)))))
theorem fn_read_at (x : Tx K mg) : FnM P w K mg base x.T 2 x.a_read_at x.d_read_at ["versions", "snapshot"] r_read_at := fn_ok x.F_read_at sc_read_at fun cdv A outer s H E hr => sss_cons (ss_set (i := 2) sc_read_at.nd (by rfl) (by first | exact Or.inl rfl | exact Or.inr rfl) (se_call ((fn_version_at x).mono (by decide)) hr (takes_of rfl rfl rfl rfl) (by rfl) x.g_version_at x.F_version_at.kp x.b_version_at (san_cons (se_var (by rfl) (by first | exact Or.inl rfl | exact Or.inr (Or.inl rfl) | exact Or.inr (Or.inr rfl))) (san_cons (se_var (by rfl) (by first | exact Or.inl rfl | exact Or.inr (Or.inl rfl) | exact Or.inr (Or.inr rfl))) (san_nil))))) (sss_cons (ss_if (st_w (sw_or (st_cmp (opr_or op_isN op_isF) ok_is (se_var (by rfl) (by first | exact Or.inl rfl | exact Or.inr (Or.inl rfl) | exact Or.inr (Or.inr rfl))) (se_non) (by rfl)) (sw_or1 (st_cmp (opr_or op_isN op_isF) ok_is (se_ix (hu_of hr) (se_var (by rfl) (by first | exact Or.inl rfl | exact Or.inr (Or.inl rfl) | exact Or.inr (Or.inr rfl))) (se_int)) (se_non) (by rfl))))) (sss_one (ss_ret (se_non))) (sss_nil)) (sss_one (ss_ret (se_var (by rfl) (by first | exact Or.inl rfl | exact Or.inr (Or.inl rfl) | exact Or.inr (Or.inr rfl))))))
theorem fn_is_told_right (x : Tx K mg) : FnM P w K mg base x.T 3 x.a_is_told_right x.d_is_told_right ["versions", "kept", "snapshot"] r_is_told_right := fn_ok x.F_is_told_right sc_is_told_right fun cdv A outer s H E hr => sss_cons (ss_set (i := 3) sc_is_told_right.nd (by rfl) (by first | exact Or.inl rfl | exact Or.inr rfl) (se_call ((fn_version_at x).mono (by decide)) hr (takes_of rfl rfl rfl rfl) (by rfl) x.g_version_at x.F_version_at.kp x.b_version_at (san_cons (se_var (by rfl) (by first | exact Or.inl rfl | exact Or.inr (Or.inl rfl) | exact Or.inr (Or.inr rfl))) (san_cons (se_var (by rfl) (by first | exact Or.inl rfl | exact Or.inr (Or.inl rfl) | exact Or.inr (Or.inr rfl))) (san_nil))))) (sss_one (ss_ret (se_or (se_bB (se_cmp (opr_or op_eq (op_eqD hr.units)) ok_eq (se_var (by rfl) (by first | exact Or.inl rfl | exact Or.inr (Or.inl rfl) | exact Or.inr (Or.inr rfl))) (se_call ((fn_version_at x).mono (by decide)) hr (takes_of rfl rfl rfl rfl) (by rfl) x.g_version_at x.F_version_at.kp x.b_version_at (san_cons (se_var (by rfl) (by first | exact Or.inl rfl | exact Or.inr (Or.inl rfl) | exact Or.inr (Or.inr rfl))) (san_cons (se_var (by rfl) (by first | exact Or.inl rfl | exact Or.inr (Or.inl rfl) | exact Or.inr (Or.inr rfl))) (san_nil)))) (by rfl))) (se_and1 (se_and (se_bB (se_cmp (opr_or op_isN op_isF) ok_is (se_var (by rfl) (by first | exact Or.inl rfl | exact Or.inr (Or.inl rfl) | exact Or.inr (Or.inr rfl))) (se_non) (by rfl))) (se_and1 (se_bB (se_cmp (opr_or op_isN op_isF) ok_is (se_call ((fn_read_at x).mono (by decide)) hr (takes_of rfl rfl rfl rfl) (by rfl) x.g_read_at x.F_read_at.kp x.b_read_at (san_cons (se_var (by rfl) (by first | exact Or.inl rfl | exact Or.inr (Or.inl rfl) | exact Or.inr (Or.inr rfl))) (san_cons (se_var (by rfl) (by first | exact Or.inl rfl | exact Or.inr (Or.inl rfl) | exact Or.inr (Or.inr rfl))) (san_nil)))) (se_non) (by rfl)))))))))
theorem fn_is_kept_right (x : Tx K mg) : FnM P w K mg base x.T 8 x.a_is_kept_right x.d_is_kept_right ["versions", "open_lot", "last", "thing"] r_is_kept_right := fn_ok x.F_is_kept_right sc_is_kept_right fun cdv A outer s H E hr => sss_cons (ss_expr (se_call ((fn_demand_asked x).mono (by decide)) hr (takes_of rfl rfl rfl rfl) (by rfl) x.g_demand_asked x.F_demand_asked.kp x.b_demand_asked (san_cons (se_var (by rfl) (by first | exact Or.inl rfl | exact Or.inr (Or.inl rfl) | exact Or.inr (Or.inr rfl))) (san_cons (se_var (by rfl) (by first | exact Or.inl rfl | exact Or.inr (Or.inl rfl) | exact Or.inr (Or.inr rfl))) (san_cons (se_var (by rfl) (by first | exact Or.inl rfl | exact Or.inr (Or.inl rfl) | exact Or.inr (Or.inr rfl))) (san_nil)))))) (sss_cons (ss_set (i := 4) sc_is_kept_right.nd (by rfl) (by first | exact Or.inl rfl | exact Or.inr rfl) (se_comp (fz := true) (own := [("version", 6)]) (t := (.one 6)) rfl sc_is_kept_right.nd (si_any (se_var (by rfl) (by first | exact Or.inl rfl | exact Or.inr (Or.inl rfl) | exact Or.inr (Or.inr rfl)))) (blkOk_by (own := [("version", 6)]) (N := N_is_kept_right) (sc := (defScope s_is_kept_right)) (by decide +kernel)) (by decide) (fun _ _ _ _ _ => pg_name (i := 6) sc_is_kept_right.nd (by rfl) (Or.inl (by rfl))) (.inl ⟨rfl, rfl⟩) (fun _ _ _ _ _ => se_ix (hu_of hr) (se_var (by rfl) (by first | exact Or.inl rfl | exact Or.inr (Or.inl rfl) | exact Or.inr (Or.inr rfl))) (se_int)))) (sss_cons (ss_if (st_w (sw_or (st_not (st_tr (se_call ((fn_is_lot_below x).mono (by decide)) hr (takes_of rfl rfl rfl rfl) (by rfl) x.g_is_lot_below x.F_is_lot_below.kp x.b_is_lot_below (san_cons (se_op (opr_or op_add (opr_or op_add_str (opr_or op_catA op_cat))) (ok_add (fz := true)) (se_var (by rfl) (by first | exact Or.inl rfl | exact Or.inr (Or.inl rfl) | exact Or.inr (Or.inr rfl))) (se_int)) (san_cons (se_var (by rfl) (by first | exact Or.inl rfl | exact Or.inr (Or.inl rfl) | exact Or.inr (Or.inr rfl))) (san_nil)))))) (sw_or1 (st_not (st_tr (se_blt (cr_all rfl) okc_all (by rfl) x.z_all (by decide +kernel) (SAn.run (san_cons (se_comp (fz := true) (own := [("commit", 8)]) (t := (.one 8)) rfl sc_is_kept_right.nd (si_any (se_var (by rfl) (by first | exact Or.inl rfl | exact Or.inr (Or.inl rfl) | exact Or.inr (Or.inr rfl)))) (blkOk_by (own := [("commit", 8)]) (N := N_is_kept_right) (sc := (defScope s_is_kept_right)) (by decide +kernel)) (by decide) (fun _ _ _ _ _ => pg_name (i := 8) sc_is_kept_right.nd (by rfl) (Or.inl (by rfl))) (.inl ⟨rfl, rfl⟩) (fun _ _ _ _ _ => se_cmp (opr_or op_in_seq op_in_sign) (ok_in (neg := false)) (se_var (by rfl) (by first | exact Or.inl rfl | exact Or.inr (Or.inl rfl) | exact Or.inr (Or.inr rfl))) (se_var (by rfl) (by first | exact Or.inl rfl | exact Or.inr (Or.inl rfl) | exact Or.inr (Or.inr rfl))) (by rfl))) (san_nil))))))))) (sss_one (ss_ret (se_bl))) (sss_nil)) (sss_cons (ss_set (i := 5) sc_is_kept_right.nd (by rfl) (by first | exact Or.inl rfl | exact Or.inr rfl) (se_comp (fz := true) (own := [("version", 6)]) (t := (.one 6)) rfl sc_is_kept_right.nd (si_any (se_var (by rfl) (by first | exact Or.inl rfl | exact Or.inr (Or.inl rfl) | exact Or.inr (Or.inr rfl)))) (blkOk_by (own := [("version", 6)]) (N := N_is_kept_right) (sc := (defScope s_is_kept_right)) (by decide +kernel)) (by decide) (fun _ _ _ _ _ => pg_name (i := 6) sc_is_kept_right.nd (by rfl) (Or.inl (by rfl))) (.inr ⟨_, rfl, fun _ _ _ _ _ => st_cmp (opr_or op_in_seq op_in_sign) (ok_in (neg := false)) (se_ix (hu_of hr) (se_var (by rfl) (by first | exact Or.inl rfl | exact Or.inr (Or.inl rfl) | exact Or.inr (Or.inr rfl))) (se_int)) (se_var (by rfl) (by first | exact Or.inl rfl | exact Or.inr (Or.inl rfl) | exact Or.inr (Or.inr rfl))) (by rfl)⟩) (fun _ _ _ _ _ => se_var (by rfl) (by first | exact Or.inl rfl | exact Or.inr (Or.inl rfl) | exact Or.inr (Or.inr rfl))))) (sss_one (ss_ret (se_blt (cr_all rfl) okc_all (by rfl) x.z_all (by decide +kernel) (SAn.run (san_cons (se_comp (fz := true) (own := [("snapshot", 7)]) (t := (.one 7)) rfl sc_is_kept_right.nd (si_any (se_lstS (fz := true) (sa_star (se_var (by rfl) (by first | exact Or.inl rfl | exact Or.inr (Or.inl rfl) | exact Or.inr (Or.inr rfl))) (sa_cons (se_var (by rfl) (by first | exact Or.inl rfl | exact Or.inr (Or.inl rfl) | exact Or.inr (Or.inr rfl))) (sa_nil))))) (blkOk_by (own := [("snapshot", 7)]) (N := N_is_kept_right) (sc := (defScope s_is_kept_right)) (by decide +kernel)) (by decide) (fun _ _ _ _ _ => pg_name (i := 7) sc_is_kept_right.nd (by rfl) (Or.inl (by rfl))) (.inl ⟨rfl, rfl⟩) (fun _ _ _ _ _ => se_call ((fn_is_told_right x).mono (by decide)) hr takes0 (by rfl) x.g_is_told_right x.F_is_told_right.kp x.b_is_told_right (san_cons (se_var (by rfl) (by first | exact Or.inl rfl | exact Or.inr (Or.inl rfl) | exact Or.inr (Or.inr rfl))) (san_cons (se_var (by rfl) (by first | exact Or.inl rfl | exact Or.inr (Or.inl rfl) | exact Or.inr (Or.inr rfl))) (san_cons (se_var (by rfl) (by first | exact Or.inl rfl | exact Or.inr (Or.inl rfl) | exact Or.inr (Or.inr rfl))) (san_nil)))))) (san_nil)))))))))
theorem fn_law_some (x : Tx K mg) : FnM P w K mg base x.T 3 x.a_law_some x.d_law_some ["bag", "row", "share"] r_law_some := fn_ok x.F_law_some sc_law_some fun cdv A outer s H E hr => sss_cons (ss_set (i := 3) sc_law_some.nd (by rfl) (by first | exact Or.inl rfl | exact Or.inr rfl) (se_lstA (fz := false) (n := 0) (san_nil))) (sss_cons (ss_for (passes_of rfl) rfl (si_any (se_var (by rfl) (by first | exact Or.inl rfl | exact Or.inr (Or.inl rfl) | exact Or.inr (Or.inr rfl)))) (sg_name (i := 4) sc_law_some.nd (by rfl) (by first | exact Or.inl rfl | exact Or.inr rfl)) (sss_one (ss_if (st_cmp (opr_or op_lt op_lt_str) ok_cmpS (se_call ((fn_law_draw x).mono (by decide)) hr (takes_of rfl rfl rfl rfl) (by rfl) x.g_law_draw x.F_law_draw.kp x.b_law_draw (san_cons (se_var (by rfl) (by first | exact Or.inl rfl | exact Or.inr (Or.inl rfl) | exact Or.inr (Or.inr rfl))) (san_cons (se_int) (san_nil)))) (se_var (by rfl) (by first | exact Or.inl rfl | exact Or.inr (Or.inl rfl) | exact Or.inr (Or.inr rfl))) (by rfl)) (sss_one (ss_expr (se_lm PySem.F.slot_list_append PySem.F.type_list_append mt_append okm_append (se_var (by rfl) (by first | exact Or.inl rfl | exact Or.inr (Or.inl rfl) | exact Or.inr (Or.inr rfl))) (SAn.run (san_cons (se_var (by rfl) (by first | exact Or.inl rfl | exact Or.inr (Or.inl rfl) | exact Or.inr (Or.inr rfl))) (san_nil)))))) (sss_nil)))) (sss_one (ss_ret (se_var (by rfl) (by first | exact Or.inl rfl | exact Or.inr (Or.inl rfl) | exact Or.inr (Or.inr rfl))))))
theorem fn_law_lot (x : Tx K mg) : FnM P w K mg base x.T 4 x.a_law_lot x.d_law_lot ["bag", "versions", "due"] r_law_lot := fn_ok x.F_law_lot sc_law_lot fun cdv A outer s H E hr => sss_cons (ss_set (i := 3) sc_law_lot.nd (by rfl) (by first | exact Or.inl rfl | exact Or.inr rfl) (se_call ((fn_law_draw x).mono (by decide)) hr (takes_of rfl rfl rfl rfl) (by rfl) x.g_law_draw x.F_law_draw.kp x.b_law_draw (san_cons (se_var (by rfl) (by first | exact Or.inl rfl | exact Or.inr (Or.inl rfl) | exact Or.inr (Or.inr rfl))) (san_cons (se_int) (san_nil))))) (sss_cons (ss_set (i := 4) sc_law_lot.nd (by rfl) (by first | exact Or.inl rfl | exact Or.inr rfl) (se_blt (CallR.or cr_sortedI (call_sortedDI rfl)) (okc_sorted (fz := true)) (by rfl) x.z_sorted (by decide +kernel) (SAn.run (san_cons (se_comp (fz := true) (own := [("pair", 7)]) (t := (.one 7)) rfl sc_law_lot.nd (si_any (se_var (by rfl) (by first | exact Or.inl rfl | exact Or.inr (Or.inl rfl) | exact Or.inr (Or.inr rfl)))) (blkOk_by (own := [("pair", 7)]) (N := N_law_lot) (sc := (defScope s_law_lot)) (by decide +kernel)) (by decide) (fun _ _ _ _ _ => pg_name (i := 7) sc_law_lot.nd (by rfl) (Or.inl (by rfl))) (.inl ⟨rfl, rfl⟩) (fun _ _ _ _ _ => se_ix (hu_of hr) (se_var (by rfl) (by first | exact Or.inl rfl | exact Or.inr (Or.inl rfl) | exact Or.inr (Or.inr rfl))) (se_int))) (san_nil))))) (sss_cons (ss_if (st_w (sw_or (st_cmp (opr_or op_eq (op_eqD hr.units)) ok_eq (se_var (by rfl) (by first | exact Or.inl rfl | exact Or.inr (Or.inl rfl) | exact Or.inr (Or.inr rfl))) (se_int) (by rfl)) (sw_or1 (st_cmp (opr_or op_eq (op_eqD hr.units)) ok_eq (se_blt (CallR.or call_len call_lenD) okc_len (by rfl) x.z_len (by decide +kernel) (SAn.run (san_cons (se_var (by rfl) (by first | exact Or.inl rfl | exact Or.inr (Or.inl rfl) | exact Or.inr (Or.inr rfl))) (san_nil)))) (se_int) (by rfl))))) (sss_one (ss_ret (se_bty call_tuple_of okc_tuple (by rfl) x.z_tuple (by decide +kernel) (SAn.run (san_cons (se_var (by rfl) (by first | exact Or.inl rfl | exact Or.inr (Or.inl rfl) | exact Or.inr (Or.inr rfl))) (san_nil)))))) (sss_nil)) (sss_cons (ss_if (st_cmp (opr_or op_eq (op_eqD hr.units)) ok_eq (se_var (by rfl) (by first | exact Or.inl rfl | exact Or.inr (Or.inl rfl) | exact Or.inr (Or.inr rfl))) (se_int) (by rfl)) (sss_one (ss_ret (se_bty call_tuple_of okc_tuple (by rfl) x.z_tuple (by decide +kernel) (SAn.run (san_cons (se_call ((fn_law_some x).mono (by decide)) hr (takes_of rfl rfl rfl rfl) (by rfl) x.g_law_some x.F_law_some.kp x.b_law_some (san_cons (se_var (by rfl) (by first | exact Or.inl rfl | exact Or.inr (Or.inl rfl) | exact Or.inr (Or.inr rfl))) (san_cons (se_var (by rfl) (by first | exact Or.inl rfl | exact Or.inr (Or.inl rfl) | exact Or.inr (Or.inr rfl))) (san_cons (se_op (opr_or op_add (opr_or op_add_str (opr_or op_catA op_cat))) (ok_add (fz := true)) (se_int) (se_call ((fn_law_draw x).mono (by decide)) hr (takes_of rfl rfl rfl rfl) (by rfl) x.g_law_draw x.F_law_draw.kp x.b_law_draw (san_cons (se_var (by rfl) (by first | exact Or.inl rfl | exact Or.inr (Or.inl rfl) | exact Or.inr (Or.inr rfl))) (san_cons (se_int) (san_nil))))) (san_nil))))) (san_nil)))))) (sss_nil)) (sss_cons (ss_if (st_cmp (opr_or op_eq (op_eqD hr.units)) ok_eq (se_var (by rfl) (by first | exact Or.inl rfl | exact Or.inr (Or.inl rfl) | exact Or.inr (Or.inr rfl))) (se_int) (by rfl)) (sss_cons (ss_set (i := 5) sc_law_lot.nd (by rfl) (by first | exact Or.inl rfl | exact Or.inr rfl) (se_ix (hu_of hr) (se_var (by rfl) (by first | exact Or.inl rfl | exact Or.inr (Or.inl rfl) | exact Or.inr (Or.inr rfl))) (se_call ((fn_law_draw x).mono (by decide)) hr (takes_of rfl rfl rfl rfl) (by rfl) x.g_law_draw x.F_law_draw.kp x.b_law_draw (san_cons (se_var (by rfl) (by first | exact Or.inl rfl | exact Or.inr (Or.inl rfl) | exact Or.inr (Or.inr rfl))) (san_cons (se_blt (CallR.or call_len call_lenD) okc_len (by rfl) x.z_len (by decide +kernel) (SAn.run (san_cons (se_var (by rfl) (by first | exact Or.inl rfl | exact Or.inr (Or.inl rfl) | exact Or.inr (Or.inr rfl))) (san_nil)))) (san_nil)))))) (sss_one (ss_ret (se_bty call_tuple_of okc_tuple (by rfl) x.z_tuple (by decide +kernel) (SAn.run (san_cons (se_comp (fz := true) (own := [("commit", 8)]) (t := (.one 8)) rfl sc_law_lot.nd (si_any (se_var (by rfl) (by first | exact Or.inl rfl | exact Or.inr (Or.inl rfl) | exact Or.inr (Or.inr rfl)))) (blkOk_by (own := [("commit", 8)]) (N := N_law_lot) (sc := (defScope s_law_lot)) (by decide +kernel)) (by decide) (fun _ _ _ _ _ => pg_name (i := 8) sc_law_lot.nd (by rfl) (Or.inl (by rfl))) (.inr ⟨_, rfl, fun _ _ _ _ _ => st_w (sw_or (st_cmp (opr_or op_in_seq op_in_sign) (ok_in (neg := false)) (se_var (by rfl) (by first | exact Or.inl rfl | exact Or.inr (Or.inl rfl) | exact Or.inr (Or.inr rfl))) (se_var (by rfl) (by first | exact Or.inl rfl | exact Or.inr (Or.inl rfl) | exact Or.inr (Or.inr rfl))) (by rfl)) (sw_or1 (st_cmp (opr_or op_eq (op_eqD hr.units)) ok_eq (se_var (by rfl) (by first | exact Or.inl rfl | exact Or.inr (Or.inl rfl) | exact Or.inr (Or.inr rfl))) (se_var (by rfl) (by first | exact Or.inl rfl | exact Or.inr (Or.inl rfl) | exact Or.inr (Or.inr rfl))) (by rfl))))⟩) (fun _ _ _ _ _ => se_var (by rfl) (by first | exact Or.inl rfl | exact Or.inr (Or.inl rfl) | exact Or.inr (Or.inr rfl)))) (san_nil))))))) (sss_nil)) (sss_cons (ss_if (st_cmp (opr_or op_eq (op_eqD hr.units)) ok_eq (se_var (by rfl) (by first | exact Or.inl rfl | exact Or.inr (Or.inl rfl) | exact Or.inr (Or.inr rfl))) (se_int) (by rfl)) (sss_cons (ss_set (i := 5) sc_law_lot.nd (by rfl) (by first | exact Or.inl rfl | exact Or.inr rfl) (se_ix (hu_of hr) (se_var (by rfl) (by first | exact Or.inl rfl | exact Or.inr (Or.inl rfl) | exact Or.inr (Or.inr rfl))) (se_call ((fn_law_draw x).mono (by decide)) hr (takes_of rfl rfl rfl rfl) (by rfl) x.g_law_draw x.F_law_draw.kp x.b_law_draw (san_cons (se_var (by rfl) (by first | exact Or.inl rfl | exact Or.inr (Or.inl rfl) | exact Or.inr (Or.inr rfl))) (san_cons (se_blt (CallR.or call_len call_lenD) okc_len (by rfl) x.z_len (by decide +kernel) (SAn.run (san_cons (se_var (by rfl) (by first | exact Or.inl rfl | exact Or.inr (Or.inl rfl) | exact Or.inr (Or.inr rfl))) (san_nil)))) (san_nil)))))) (sss_one (ss_ret (se_bty call_tuple_of okc_tuple (by rfl) x.z_tuple (by decide +kernel) (SAn.run (san_cons (se_comp (fz := true) (own := [("commit", 8)]) (t := (.one 8)) rfl sc_law_lot.nd (si_any (se_var (by rfl) (by first | exact Or.inl rfl | exact Or.inr (Or.inl rfl) | exact Or.inr (Or.inr rfl)))) (blkOk_by (own := [("commit", 8)]) (N := N_law_lot) (sc := (defScope s_law_lot)) (by decide +kernel)) (by decide) (fun _ _ _ _ _ => pg_name (i := 8) sc_law_lot.nd (by rfl) (Or.inl (by rfl))) (.inr ⟨_, rfl, fun _ _ _ _ _ => st_cmp (opr_or op_ne (op_neD hr.units)) ok_ne (se_var (by rfl) (by first | exact Or.inl rfl | exact Or.inr (Or.inl rfl) | exact Or.inr (Or.inr rfl))) (se_var (by rfl) (by first | exact Or.inl rfl | exact Or.inr (Or.inl rfl) | exact Or.inr (Or.inr rfl))) (by rfl)⟩) (fun _ _ _ _ _ => se_var (by rfl) (by first | exact Or.inl rfl | exact Or.inr (Or.inl rfl) | exact Or.inr (Or.inr rfl)))) (san_nil))))))) (sss_nil)) (sss_cons (ss_if (st_cmp (opr_or op_eq (op_eqD hr.units)) ok_eq (se_var (by rfl) (by first | exact Or.inl rfl | exact Or.inr (Or.inl rfl) | exact Or.inr (Or.inr rfl))) (se_int) (by rfl)) (sss_cons (ss_set (i := 6) sc_law_lot.nd (by rfl) (by first | exact Or.inl rfl | exact Or.inr rfl) (se_call ((fn_law_some x).mono (by decide)) hr (takes_of rfl rfl rfl rfl) (by rfl) x.g_law_some x.F_law_some.kp x.b_law_some (san_cons (se_var (by rfl) (by first | exact Or.inl rfl | exact Or.inr (Or.inl rfl) | exact Or.inr (Or.inr rfl))) (san_cons (se_comp (fz := true) (own := [("pair", 7)]) (t := (.one 7)) rfl sc_law_lot.nd (si_any (se_var (by rfl) (by first | exact Or.inl rfl | exact Or.inr (Or.inl rfl) | exact Or.inr (Or.inr rfl)))) (blkOk_by (own := [("pair", 7)]) (N := N_law_lot) (sc := (defScope s_law_lot)) (by decide +kernel)) (by decide) (fun _ _ _ _ _ => pg_name (i := 7) sc_law_lot.nd (by rfl) (Or.inl (by rfl))) (.inr ⟨_, rfl, fun _ _ _ _ _ => st_cmp (opr_or op_isN op_isF) ok_is (se_ix (hu_of hr) (se_var (by rfl) (by first | exact Or.inl rfl | exact Or.inr (Or.inl rfl) | exact Or.inr (Or.inr rfl))) (se_int)) (se_non) (by rfl)⟩) (fun _ _ _ _ _ => se_ix (hu_of hr) (se_var (by rfl) (by first | exact Or.inl rfl | exact Or.inr (Or.inl rfl) | exact Or.inr (Or.inr rfl))) (se_int))) (san_cons (se_int) (san_nil)))))) (sss_one (ss_ret (se_bty call_tuple_of okc_tuple (by rfl) x.z_tuple (by decide +kernel) (SAn.run (san_cons (se_comp (fz := true) (own := [("commit", 8)]) (t := (.one 8)) rfl sc_law_lot.nd (si_any (se_var (by rfl) (by first | exact Or.inl rfl | exact Or.inr (Or.inl rfl) | exact Or.inr (Or.inr rfl)))) (blkOk_by (own := [("commit", 8)]) (N := N_law_lot) (sc := (defScope s_law_lot)) (by decide +kernel)) (by decide) (fun _ _ _ _ _ => pg_name (i := 8) sc_law_lot.nd (by rfl) (Or.inl (by rfl))) (.inr ⟨_, rfl, fun _ _ _ _ _ => st_w (sw_or (st_cmp (opr_or op_in_seq op_in_sign) (ok_in (neg := false)) (se_var (by rfl) (by first | exact Or.inl rfl | exact Or.inr (Or.inl rfl) | exact Or.inr (Or.inr rfl))) (se_var (by rfl) (by first | exact Or.inl rfl | exact Or.inr (Or.inl rfl) | exact Or.inr (Or.inr rfl))) (by rfl)) (sw_or1 (st_cmp (opr_or op_in_seq op_in_sign) (ok_in (neg := false)) (se_var (by rfl) (by first | exact Or.inl rfl | exact Or.inr (Or.inl rfl) | exact Or.inr (Or.inr rfl))) (se_var (by rfl) (by first | exact Or.inl rfl | exact Or.inr (Or.inl rfl) | exact Or.inr (Or.inr rfl))) (by rfl))))⟩) (fun _ _ _ _ _ => se_var (by rfl) (by first | exact Or.inl rfl | exact Or.inr (Or.inl rfl) | exact Or.inr (Or.inr rfl)))) (san_nil))))))) (sss_nil)) (sss_one (ss_ret (se_bty call_tuple_of okc_tuple (by rfl) x.z_tuple (by decide +kernel) (SAn.run (san_cons (se_var (by rfl) (by first | exact Or.inl rfl | exact Or.inr (Or.inl rfl) | exact Or.inr (Or.inr rfl))) (san_nil))))))))))))
theorem fn_law_no_lot (x : Tx K mg) : FnM P w K mg base x.T 3 x.a_law_no_lot x.d_law_no_lot ["bag", "lot"] r_law_no_lot := fn_ok x.F_law_no_lot sc_law_no_lot fun cdv A outer s H E hr => sss_cons (ss_set (i := 2) sc_law_no_lot.nd (by rfl) (by first | exact Or.inl rfl | exact Or.inr rfl) (se_call ((fn_law_draw x).mono (by decide)) hr (takes_of rfl rfl rfl rfl) (by rfl) x.g_law_draw x.F_law_draw.kp x.b_law_draw (san_cons (se_var (by rfl) (by first | exact Or.inl rfl | exact Or.inr (Or.inl rfl) | exact Or.inr (Or.inr rfl))) (san_cons (se_int) (san_nil))))) (sss_cons (ss_set (i := 3) sc_law_no_lot.nd (by rfl) (by first | exact Or.inl rfl | exact Or.inr rfl) (se_call ((fn_law_draw x).mono (by decide)) hr (takes_of rfl rfl rfl rfl) (by rfl) x.g_law_draw x.F_law_draw.kp x.b_law_draw (san_cons (se_var (by rfl) (by first | exact Or.inl rfl | exact Or.inr (Or.inl rfl) | exact Or.inr (Or.inr rfl))) (san_cons (se_op (opr_or op_add (opr_or op_add_str (opr_or op_catA op_cat))) (ok_add (fz := true)) (se_blt (CallR.or call_len call_lenD) okc_len (by rfl) x.z_len (by decide +kernel) (SAn.run (san_cons (se_var (by rfl) (by first | exact Or.inl rfl | exact Or.inr (Or.inl rfl) | exact Or.inr (Or.inr rfl))) (san_nil)))) (se_int)) (san_nil))))) (sss_cons (ss_if (st_cmp (opr_or op_eq (op_eqD hr.units)) ok_eq (se_var (by rfl) (by first | exact Or.inl rfl | exact Or.inr (Or.inl rfl) | exact Or.inr (Or.inr rfl))) (se_int) (by rfl)) (sss_one (ss_ret (se_bty call_list_of (okc_list (fz := true)) (by rfl) x.z_list (by decide +kernel) (SAn.run (san_cons (se_var (by rfl) (by first | exact Or.inl rfl | exact Or.inr (Or.inl rfl) | exact Or.inr (Or.inr rfl))) (san_nil)))))) (sss_nil)) (sss_cons (ss_if (st_cmp (opr_or op_eq (op_eqD hr.units)) ok_eq (se_var (by rfl) (by first | exact Or.inl rfl | exact Or.inr (Or.inl rfl) | exact Or.inr (Or.inr rfl))) (se_int) (by rfl)) (sss_one (ss_ret (se_rev (fz := true) (se_var (by rfl) (by first | exact Or.inl rfl | exact Or.inr (Or.inl rfl) | exact Or.inr (Or.inr rfl)))))) (sss_nil)) (sss_cons (ss_if (st_cmp (opr_or op_eq (op_eqD hr.units)) ok_eq (se_var (by rfl) (by first | exact Or.inl rfl | exact Or.inr (Or.inl rfl) | exact Or.inr (Or.inr rfl))) (se_int) (by rfl)) (sss_one (ss_ret (se_op (opr_or op_add (opr_or op_add_str (opr_or op_catA op_cat))) (ok_add (fz := true)) (se_sl (fz := true) (se_var (by rfl) (by first | exact Or.inl rfl | exact Or.inr (Or.inl rfl) | exact Or.inr (Or.inr rfl))) (sp_none) (sp_some (se_var (by rfl) (by first | exact Or.inl rfl | exact Or.inr (Or.inl rfl) | exact Or.inr (Or.inr rfl))))) (se_sl (fz := true) (se_var (by rfl) (by first | exact Or.inl rfl | exact Or.inr (Or.inl rfl) | exact Or.inr (Or.inr rfl))) (sp_some (se_blt (call_max2 rfl) okc_max2 (by rfl) x.z_max (by decide +kernel) (SAn.run (san_cons (se_int) (san_cons (se_op op_sub ok_sub (se_var (by rfl) (by first | exact Or.inl rfl | exact Or.inr (Or.inl rfl) | exact Or.inr (Or.inr rfl))) (se_int)) (san_nil)))))) (sp_none))))) (sss_nil)) (sss_cons (ss_if (st_cmp (opr_or op_eq (op_eqD hr.units)) ok_eq (se_var (by rfl) (by first | exact Or.inl rfl | exact Or.inr (Or.inl rfl) | exact Or.inr (Or.inr rfl))) (se_int) (by rfl)) (sss_cons (ss_set (i := 4) sc_law_no_lot.nd (by rfl) (by first | exact Or.inl rfl | exact Or.inr rfl) (se_ix (hu_of hr) (se_lstA (fz := true) (n := 4) (san_cons (se_int) (san_cons (se_neg (se_int)) (san_cons (se_op op_pow ok_pow (se_int) (se_int)) (san_cons (se_op op_pow ok_pow (se_int) (se_int)) (san_nil)))))) (se_call ((fn_law_draw x).mono (by decide)) hr (takes_of rfl rfl rfl rfl) (by rfl) x.g_law_draw x.F_law_draw.kp x.b_law_draw (san_cons (se_var (by rfl) (by first | exact Or.inl rfl | exact Or.inr (Or.inl rfl) | exact Or.inr (Or.inr rfl))) (san_cons (se_int) (san_nil)))))) (sss_one (ss_ret (se_bty call_tuple_of okc_tuple (by rfl) x.z_tuple (by decide +kernel) (SAn.run (san_cons (se_blt (CallR.or cr_sortedI (call_sortedDI rfl)) (okc_sorted (fz := true)) (by rfl) x.z_sorted (by decide +kernel) (SAn.run (san_cons (se_op (opr_or op_add (opr_or op_add_str (opr_or op_catA op_cat))) (ok_add (fz := true)) (se_bty call_list_of (okc_list (fz := true)) (by rfl) x.z_list (by decide +kernel) (SAn.run (san_cons (se_var (by rfl) (by first | exact Or.inl rfl | exact Or.inr (Or.inl rfl) | exact Or.inr (Or.inr rfl))) (san_nil)))) (se_lstA (fz := true) (n := 1) (san_cons (se_var (by rfl) (by first | exact Or.inl rfl | exact Or.inr (Or.inl rfl) | exact Or.inr (Or.inr rfl))) (san_nil)))) (san_nil)))) (san_nil))))))) (sss_nil)) (sss_cons (ss_if (st_cmp (opr_or op_eq (op_eqD hr.units)) ok_eq (se_var (by rfl) (by first | exact Or.inl rfl | exact Or.inr (Or.inl rfl) | exact Or.inr (Or.inr rfl))) (se_int) (by rfl)) (sss_one (ss_ret (se_op (opr_or op_add (opr_or op_add_str (opr_or op_catA op_cat))) (ok_add (fz := true)) (se_tupA (n := 1) (san_cons (se_bl) (san_nil))) (se_sl (fz := true) (se_var (by rfl) (by first | exact Or.inl rfl | exact Or.inr (Or.inl rfl) | exact Or.inr (Or.inr rfl))) (sp_some (se_int)) (sp_none))))) (sss_nil)) (sss_cons (ss_if (st_cmp (opr_or op_eq (op_eqD hr.units)) ok_eq (se_var (by rfl) (by first | exact Or.inl rfl | exact Or.inr (Or.inl rfl) | exact Or.inr (Or.inr rfl))) (se_int) (by rfl)) (sss_one (ss_ret (se_op (opr_or op_add (opr_or op_add_str (opr_or op_catA op_cat))) (ok_add (fz := true)) (se_op (opr_or op_add (opr_or op_add_str (opr_or op_catA op_cat))) (ok_add (fz := true)) (se_sl (fz := true) (se_var (by rfl) (by first | exact Or.inl rfl | exact Or.inr (Or.inl rfl) | exact Or.inr (Or.inr rfl))) (sp_none) (sp_some (se_var (by rfl) (by first | exact Or.inl rfl | exact Or.inr (Or.inl rfl) | exact Or.inr (Or.inr rfl))))) (se_tupA (n := 1) (san_cons (se_ix (hu_of hr) (se_lstA (fz := true) (n := 5) (san_cons (se_str) (san_cons (se_non) (san_cons (se_tupA (n := 1) (san_cons (se_int) (san_nil))) (san_cons (se_lstA (fz := true) (n := 1) (san_cons (se_int) (san_nil))) (san_cons (se_tupA (n := 0) (san_nil)) (san_nil))))))) (se_call ((fn_law_draw x).mono (by decide)) hr (takes_of rfl rfl rfl rfl) (by rfl) x.g_law_draw x.F_law_draw.kp x.b_law_draw (san_cons (se_var (by rfl) (by first | exact Or.inl rfl | exact Or.inr (Or.inl rfl) | exact Or.inr (Or.inr rfl))) (san_cons (se_int) (san_nil))))) (san_nil)))) (se_sl (fz := true) (se_var (by rfl) (by first | exact Or.inl rfl | exact Or.inr (Or.inl rfl) | exact Or.inr (Or.inr rfl))) (sp_some (se_var (by rfl) (by first | exact Or.inl rfl | exact Or.inr (Or.inl rfl) | exact Or.inr (Or.inr rfl)))) (sp_none))))) (sss_nil)) (sss_cons (ss_if (st_cmp (opr_or op_eq (op_eqD hr.units)) ok_eq (se_var (by rfl) (by first | exact Or.inl rfl | exact Or.inr (Or.inl rfl) | exact Or.inr (Or.inr rfl))) (se_int) (by rfl)) (sss_one (ss_ret (se_op (opr_or op_add (opr_or op_add_str (opr_or op_catA op_cat))) (ok_add (fz := true)) (se_op (opr_or op_add (opr_or op_add_str (opr_or op_catA op_cat))) (ok_add (fz := true)) (se_sl (fz := true) (se_var (by rfl) (by first | exact Or.inl rfl | exact Or.inr (Or.inl rfl) | exact Or.inr (Or.inr rfl))) (sp_none) (sp_some (se_var (by rfl) (by first | exact Or.inl rfl | exact Or.inr (Or.inl rfl) | exact Or.inr (Or.inr rfl))))) (se_tupA (n := 1) (san_cons (se_call ((fn_law_draw x).mono (by decide)) hr (takes_of rfl rfl rfl rfl) (by rfl) x.g_law_draw x.F_law_draw.kp x.b_law_draw (san_cons (se_var (by rfl) (by first | exact Or.inl rfl | exact Or.inr (Or.inl rfl) | exact Or.inr (Or.inr rfl))) (san_cons (se_int) (san_nil)))) (san_nil)))) (se_sl (fz := true) (se_var (by rfl) (by first | exact Or.inl rfl | exact Or.inr (Or.inl rfl) | exact Or.inr (Or.inr rfl))) (sp_some (se_op (opr_or op_add (opr_or op_add_str (opr_or op_catA op_cat))) (ok_add (fz := true)) (se_var (by rfl) (by first | exact Or.inl rfl | exact Or.inr (Or.inl rfl) | exact Or.inr (Or.inr rfl))) (se_int))) (sp_none))))) (sss_nil)) (sss_cons (ss_if (st_cmp (opr_or op_eq (op_eqD hr.units)) ok_eq (se_var (by rfl) (by first | exact Or.inl rfl | exact Or.inr (Or.inl rfl) | exact Or.inr (Or.inr rfl))) (se_int) (by rfl)) (sss_one (ss_ret (se_tupA (n := 1) (san_cons (se_var (by rfl) (by first | exact Or.inl rfl | exact Or.inr (Or.inl rfl) | exact Or.inr (Or.inr rfl))) (san_nil))))) (sss_nil)) (sss_one (ss_ret (se_ix (hu_of hr) (se_lstA (fz := true) (n := 7) (san_cons (se_non) (san_cons (se_bl) (san_cons (se_int) (san_cons (se_str) (san_cons (se_str) (san_cons (se_dict0) (san_cons (se_disp (sd_cons (se_int) (se_int) (sd_nil))) (san_nil))))))))) (se_call ((fn_law_draw x).mono (by decide)) hr (takes_of rfl rfl rfl rfl) (by rfl) x.g_law_draw x.F_law_draw.kp x.b_law_draw (san_cons (se_var (by rfl) (by first | exact Or.inl rfl | exact Or.inr (Or.inl rfl) | exact Or.inr (Or.inr rfl))) (san_cons (se_int) (san_nil))))))))))))))))
theorem fn_law (x : Tx K mg) : FnM P w K mg base x.T 9 x.a_law x.d_law ["script"] r_law := fn_ok x.F_law sc_law fun cdv A outer s H E hr => sss_cons (ss_set (i := 1) sc_law.nd (by rfl) (by first | exact Or.inl rfl | exact Or.inr rfl) (se_call ((fn_law_bag x).mono (by decide)) hr (takes_of rfl rfl rfl rfl) (by rfl) x.g_law_bag x.F_law_bag.kp x.b_law_bag (san_cons (se_var (by rfl) (by first | exact Or.inl rfl | exact Or.inr (Or.inl rfl) | exact Or.inr (Or.inr rfl))) (san_nil)))) (sss_cons (ss_set (i := 2) sc_law.nd (by rfl) (by first | exact Or.inl rfl | exact Or.inr rfl) (se_call ((fn_law_versions x).mono (by decide)) hr (takes_of rfl rfl rfl rfl) (by rfl) x.g_law_versions x.F_law_versions.kp x.b_law_versions (san_cons (se_var (by rfl) (by first | exact Or.inl rfl | exact Or.inr (Or.inl rfl) | exact Or.inr (Or.inr rfl))) (san_nil)))) (sss_cons (ss_set (i := 3) sc_law.nd (by rfl) (by first | exact Or.inl rfl | exact Or.inr rfl) (se_int)) (sss_cons (ss_if (st_cmp (opr_or op_gt op_gt_str) ok_cmpS (se_blt (CallR.or call_len call_lenD) okc_len (by rfl) x.z_len (by decide +kernel) (SAn.run (san_cons (se_var (by rfl) (by first | exact Or.inl rfl | exact Or.inr (Or.inl rfl) | exact Or.inr (Or.inr rfl))) (san_nil)))) (se_int) (by rfl)) (sss_one (ss_set (i := 3) sc_law.nd (by rfl) (by first | exact Or.inl rfl | exact Or.inr rfl) (se_ix (hu_of hr) (se_ix (hu_of hr) (se_var (by rfl) (by first | exact Or.inl rfl | exact Or.inr (Or.inl rfl) | exact Or.inr (Or.inr rfl))) (se_int)) (se_int)))) (sss_nil)) (sss_cons (ss_set (i := 3) sc_law.nd (by rfl) (by first | exact Or.inl rfl | exact Or.inr rfl) (se_op (opr_or op_add (opr_or op_add_str (opr_or op_catA op_cat))) (ok_add (fz := true)) (se_var (by rfl) (by first | exact Or.inl rfl | exact Or.inr (Or.inl rfl) | exact Or.inr (Or.inr rfl))) (se_call ((fn_law_draw x).mono (by decide)) hr (takes_of rfl rfl rfl rfl) (by rfl) x.g_law_draw x.F_law_draw.kp x.b_law_draw (san_cons (se_var (by rfl) (by first | exact Or.inl rfl | exact Or.inr (Or.inl rfl) | exact Or.inr (Or.inr rfl))) (san_cons (se_int) (san_nil)))))) (sss_cons (ss_set (i := 4) sc_law.nd (by rfl) (by first | exact Or.inl rfl | exact Or.inr rfl) (se_call ((fn_law_open x).mono (by decide)) hr (takes_of rfl rfl rfl rfl) (by rfl) x.g_law_open x.F_law_open.kp x.b_law_open (san_cons (se_var (by rfl) (by first | exact Or.inl rfl | exact Or.inr (Or.inl rfl) | exact Or.inr (Or.inr rfl))) (san_cons (se_var (by rfl) (by first | exact Or.inl rfl | exact Or.inr (Or.inl rfl) | exact Or.inr (Or.inr rfl))) (san_cons (se_var (by rfl) (by first | exact Or.inl rfl | exact Or.inr (Or.inl rfl) | exact Or.inr (Or.inr rfl))) (san_nil)))))) (sss_cons (ss_set (i := 5) sc_law.nd (by rfl) (by first | exact Or.inl rfl | exact Or.inr rfl) (se_call ((fn_law_needed x).mono (by decide)) hr (takes_of rfl rfl rfl rfl) (by rfl) x.g_law_needed x.F_law_needed.kp x.b_law_needed (san_cons (se_var (by rfl) (by first | exact Or.inl rfl | exact Or.inr (Or.inl rfl) | exact Or.inr (Or.inr rfl))) (san_cons (se_var (by rfl) (by first | exact Or.inl rfl | exact Or.inr (Or.inl rfl) | exact Or.inr (Or.inr rfl))) (san_nil))))) (sss_cons (ss_set (i := 6) sc_law.nd (by rfl) (by first | exact Or.inl rfl | exact Or.inr rfl) (se_op (opr_or op_add (opr_or op_add_str (opr_or op_catA op_cat))) (ok_add (fz := true)) (se_bty call_list_of (okc_list (fz := true)) (by rfl) x.z_list (by decide +kernel) (SAn.run (san_cons (se_var (by rfl) (by first | exact Or.inl rfl | exact Or.inr (Or.inl rfl) | exact Or.inr (Or.inr rfl))) (san_nil)))) (se_lstA (fz := true) (n := 2) (san_cons (se_var (by rfl) (by first | exact Or.inl rfl | exact Or.inr (Or.inl rfl) | exact Or.inr (Or.inr rfl))) (san_cons (se_op (opr_or op_add (opr_or op_add_str (opr_or op_catA op_cat))) (ok_add (fz := true)) (se_op (opr_or op_add (opr_or op_add_str (opr_or op_catA op_cat))) (ok_add (fz := true)) (se_var (by rfl) (by first | exact Or.inl rfl | exact Or.inr (Or.inl rfl) | exact Or.inr (Or.inr rfl))) (se_int)) (se_call ((fn_law_draw x).mono (by decide)) hr (takes_of rfl rfl rfl rfl) (by rfl) x.g_law_draw x.F_law_draw.kp x.b_law_draw (san_cons (se_var (by rfl) (by first | exact Or.inl rfl | exact Or.inr (Or.inl rfl) | exact Or.inr (Or.inr rfl))) (san_cons (se_int) (san_nil))))) (san_nil)))))) (sss_cons (ss_set (i := 7) sc_law.nd (by rfl) (by first | exact Or.inl rfl | exact Or.inr rfl) (se_call ((fn_needed x).mono (by decide)) hr (takes_of rfl rfl rfl rfl) (by rfl) x.g_needed x.F_needed.kp x.b_needed (san_cons (se_bty call_list_of (okc_list (fz := true)) (by rfl) x.z_list (by decide +kernel) (SAn.run (san_cons (se_var (by rfl) (by first | exact Or.inl rfl | exact Or.inr (Or.inl rfl) | exact Or.inr (Or.inr rfl))) (san_nil)))) (san_cons (se_var (by rfl) (by first | exact Or.inl rfl | exact Or.inr (Or.inl rfl) | exact Or.inr (Or.inr rfl))) (san_cons (se_var (by rfl) (by first | exact Or.inl rfl | exact Or.inr (Or.inl rfl) | exact Or.inr (Or.inr rfl))) (san_nil)))))) (sss_cons (ss_if (st_w (sw_or (st_not (st_tr (se_call ((fn_law_is_enough x).mono (by decide)) hr (takes_of rfl rfl rfl rfl) (by rfl) x.g_law_is_enough x.F_law_is_enough.kp x.b_law_is_enough (san_cons (se_var (by rfl) (by first | exact Or.inl rfl | exact Or.inr (Or.inl rfl) | exact Or.inr (Or.inr rfl))) (san_cons (se_var (by rfl) (by first | exact Or.inl rfl | exact Or.inr (Or.inl rfl) | exact Or.inr (Or.inr rfl))) (san_cons (se_var (by rfl) (by first | exact Or.inl rfl | exact Or.inr (Or.inl rfl) | exact Or.inr (Or.inr rfl))) (san_nil))))))) (sw_or1 (st_cmp (opr_or op_notN op_isNotF) ok_isnot (se_call ((fn_is_kept_right x).mono (by decide)) hr (takes_of rfl rfl rfl rfl) (by rfl) x.g_is_kept_right x.F_is_kept_right.kp x.b_is_kept_right (san_cons (se_bty call_tuple_of okc_tuple (by rfl) x.z_tuple (by decide +kernel) (SAn.run (san_cons (se_var (by rfl) (by first | exact Or.inl rfl | exact Or.inr (Or.inl rfl) | exact Or.inr (Or.inr rfl))) (san_nil)))) (san_cons (se_var (by rfl) (by first | exact Or.inl rfl | exact Or.inr (Or.inl rfl) | exact Or.inr (Or.inr rfl))) (san_cons (se_var (by rfl) (by first | exact Or.inl rfl | exact Or.inr (Or.inl rfl) | exact Or.inr (Or.inr rfl))) (san_cons (se_var (by rfl) (by first | exact Or.inl rfl | exact Or.inr (Or.inl rfl) | exact Or.inr (Or.inr rfl))) (san_nil)))))) (se_bl) (by rfl))))) (sss_one (ss_ret (se_bl))) (sss_nil)) (sss_cons (ss_for (passes_of rfl) rfl (si_range1 (by rfl) x.z_range (SAn.run (san_cons (se_int) (san_nil)))) (sg_name (i := 8) sc_law.nd (by rfl) (by first | exact Or.inl rfl | exact Or.inr rfl)) (sss_cons (ss_set (i := 9) sc_law.nd (by rfl) (by first | exact Or.inl rfl | exact Or.inr rfl) (se_call ((fn_law_lot x).mono (by decide)) hr (takes_of rfl rfl rfl rfl) (by rfl) x.g_law_lot x.F_law_lot.kp x.b_law_lot (san_cons (se_var (by rfl) (by first | exact Or.inl rfl | exact Or.inr (Or.inl rfl) | exact Or.inr (Or.inr rfl))) (san_cons (se_var (by rfl) (by first | exact Or.inl rfl | exact Or.inr (Or.inl rfl) | exact Or.inr (Or.inr rfl))) (san_cons (se_var (by rfl) (by first | exact Or.inl rfl | exact Or.inr (Or.inl rfl) | exact Or.inr (Or.inr rfl))) (san_nil)))))) (sss_cons (ss_if (st_cmp (opr_or op_eq (op_eqD hr.units)) ok_eq (se_call ((fn_law_draw x).mono (by decide)) hr (takes_of rfl rfl rfl rfl) (by rfl) x.g_law_draw x.F_law_draw.kp x.b_law_draw (san_cons (se_var (by rfl) (by first | exact Or.inl rfl | exact Or.inr (Or.inl rfl) | exact Or.inr (Or.inr rfl))) (san_cons (se_int) (san_nil)))) (se_int) (by rfl)) (sss_one (ss_set (i := 9) sc_law.nd (by rfl) (by first | exact Or.inl rfl | exact Or.inr rfl) (se_call ((fn_law_no_lot x).mono (by decide)) hr (takes_of rfl rfl rfl rfl) (by rfl) x.g_law_no_lot x.F_law_no_lot.kp x.b_law_no_lot (san_cons (se_var (by rfl) (by first | exact Or.inl rfl | exact Or.inr (Or.inl rfl) | exact Or.inr (Or.inr rfl))) (san_cons (se_var (by rfl) (by first | exact Or.inl rfl | exact Or.inr (Or.inl rfl) | exact Or.inr (Or.inr rfl))) (san_nil)))))) (sss_nil)) (sss_cons (ss_set (i := 10) sc_law.nd (by rfl) (by first | exact Or.inl rfl | exact Or.inr rfl) (se_bty call_list_of (okc_list (fz := true)) (by rfl) x.z_list (by decide +kernel) (SAn.run (san_cons (se_var (by rfl) (by first | exact Or.inl rfl | exact Or.inr (Or.inl rfl) | exact Or.inr (Or.inr rfl))) (san_nil))))) (sss_cons (ss_set (i := 11) sc_law.nd (by rfl) (by first | exact Or.inl rfl | exact Or.inr rfl) (se_call ((fn_is_kept_right x).mono (by decide)) hr (takes_of rfl rfl rfl rfl) (by rfl) x.g_is_kept_right x.F_is_kept_right.kp x.b_is_kept_right (san_cons (se_var (by rfl) (by first | exact Or.inl rfl | exact Or.inr (Or.inl rfl) | exact Or.inr (Or.inr rfl))) (san_cons (se_var (by rfl) (by first | exact Or.inl rfl | exact Or.inr (Or.inl rfl) | exact Or.inr (Or.inr rfl))) (san_cons (se_var (by rfl) (by first | exact Or.inl rfl | exact Or.inr (Or.inl rfl) | exact Or.inr (Or.inr rfl))) (san_cons (se_var (by rfl) (by first | exact Or.inl rfl | exact Or.inr (Or.inl rfl) | exact Or.inr (Or.inr rfl))) (san_nil))))))) (sss_cons (ss_if (st_w (sw_or (st_cmp (opr_or op_ne (op_neD hr.units)) ok_ne (se_var (by rfl) (by first | exact Or.inl rfl | exact Or.inr (Or.inl rfl) | exact Or.inr (Or.inr rfl))) (se_var (by rfl) (by first | exact Or.inl rfl | exact Or.inr (Or.inl rfl) | exact Or.inr (Or.inr rfl))) (by rfl)) (sw_or (st_not (st_tr (se_blt call_isi (okc_isi x.own_ok) (by rfl) x.z_isinstance (by decide +kernel) (SAn.run (san_cons (se_var (by rfl) (by first | exact Or.inl rfl | exact Or.inr (Or.inl rfl) | exact Or.inr (Or.inr rfl))) (san_cons (se_c (pe_bltn (v := .ty "bool") (by rfl) x.z_bool (by decide +kernel) rfl) (fun _ _ _ => by simp only [VR])) (san_nil))))))) (sw_or1 (st_cmp (opr_or op_ne (op_neD hr.units)) ok_ne (se_var (by rfl) (by first | exact Or.inl rfl | exact Or.inr (Or.inl rfl) | exact Or.inr (Or.inr rfl))) (se_call ((fn_law_is_enough x).mono (by decide)) hr (takes_of rfl rfl rfl rfl) (by rfl) x.g_law_is_enough x.F_law_is_enough.kp x.b_law_is_enough (san_cons (se_var (by rfl) (by first | exact Or.inl rfl | exact Or.inr (Or.inl rfl) | exact Or.inr (Or.inr rfl))) (san_cons (se_var (by rfl) (by first | exact Or.inl rfl | exact Or.inr (Or.inl rfl) | exact Or.inr (Or.inr rfl))) (san_cons (se_var (by rfl) (by first | exact Or.inl rfl | exact Or.inr (Or.inl rfl) | exact Or.inr (Or.inr rfl))) (san_nil))))) (by rfl)))))) (sss_one (ss_ret (se_bl))) (sss_nil)) (sss_one (ss_if (st_tr (se_var (by rfl) (by first | exact Or.inl rfl | exact Or.inr (Or.inl rfl) | exact Or.inr (Or.inr rfl)))) (sss_one (ss_for (passes_of rfl) rfl (si_any (se_var (by rfl) (by first | exact Or.inl rfl | exact Or.inr (Or.inl rfl) | exact Or.inr (Or.inr rfl)))) (sg_name (i := 12) sc_law.nd (by rfl) (by first | exact Or.inl rfl | exact Or.inr rfl)) (sss_one (ss_if (st_cmp (opr_or op_notIn_seq op_notIn_sign) (ok_in (neg := true)) (se_var (by rfl) (by first | exact Or.inl rfl | exact Or.inr (Or.inl rfl) | exact Or.inr (Or.inr rfl))) (se_var (by rfl) (by first | exact Or.inl rfl | exact Or.inr (Or.inl rfl) | exact Or.inr (Or.inr rfl))) (by rfl)) (sss_one (ss_ret (se_bl))) (sss_nil))))) (sss_nil))))))))) (sss_one (ss_ret (se_bl)))))))))))))
end
/-! the end -/
theorem all_mk {w : World} {K : PySem.W.Frag} {h : Heap} {mg : Str → Option Value} {fa : Addr} (X : K.In h) (G : h.Ns mainGlobals mg) (hfa : mg "law" = some (.ref fa))
    {f0 : Addr} {od0 an0 : Option Addr} {sl0 : Array (Option Value)} {oc0 kV0 dc0 pm0 cd0 ct0 : Value}
    {f1 : Addr} {od1 an1 : Option Addr} {sl1 : Array (Option Value)} {oc1 kV1 dc1 pm1 cd1 ct1 : Value}
    {f2 : Addr} {od2 an2 : Option Addr} {sl2 : Array (Option Value)} {oc2 kV2 dc2 pm2 cd2 ct2 : Value}
    {f3 : Addr} {od3 an3 : Option Addr} {sl3 : Array (Option Value)} {oc3 kV3 dc3 pm3 cd3 ct3 : Value}
    {f4 : Addr} {od4 an4 : Option Addr} {sl4 : Array (Option Value)} {oc4 kV4 dc4 pm4 cd4 ct4 : Value}
    {f5 : Addr} {od5 an5 : Option Addr} {sl5 : Array (Option Value)} {oc5 kV5 dc5 pm5 cd5 ct5 : Value}
    {f6 : Addr} {od6 an6 : Option Addr} {sl6 : Array (Option Value)} {oc6 kV6 dc6 pm6 cd6 ct6 : Value}
    {f7 : Addr} {od7 an7 : Option Addr} {sl7 : Array (Option Value)} {oc7 kV7 dc7 pm7 cd7 ct7 : Value}
    {f8 : Addr} {od8 an8 : Option Addr} {sl8 : Array (Option Value)} {oc8 kV8 dc8 pm8 cd8 ct8 : Value}
    {f9 : Addr} {od9 an9 : Option Addr} {sl9 : Array (Option Value)} {oc9 kV9 dc9 pm9 cd9 ct9 : Value}
    {f10 : Addr} {od10 an10 : Option Addr} {sl10 : Array (Option Value)} {oc10 kV10 dc10 pm10 cd10 ct10 : Value}
    {f11 : Addr} {od11 an11 : Option Addr} {sl11 : Array (Option Value)} {oc11 kV11 dc11 pm11 cd11 ct11 : Value}
    {f12 : Addr} {od12 an12 : Option Addr} {sl12 : Array (Option Value)} {oc12 kV12 dc12 pm12 cd12 ct12 : Value}
    {f13 : Addr} {od13 an13 : Option Addr} {sl13 : Array (Option Value)} {oc13 kV13 dc13 pm13 cd13 ct13 : Value}
    {f14 : Addr} {od14 an14 : Option Addr} {sl14 : Array (Option Value)} {oc14 kV14 dc14 pm14 cd14 ct14 : Value}
    {f15 : Addr} {od15 an15 : Option Addr} {sl15 : Array (Option Value)} {oc15 kV15 dc15 pm15 cd15 ct15 : Value}
    {f16 : Addr} {od16 an16 : Option Addr} {sl16 : Array (Option Value)} {oc16 kV16 dc16 pm16 cd16 ct16 : Value}
    {f17 : Addr} {od17 an17 : Option Addr} {sl17 : Array (Option Value)} {oc17 kV17 dc17 pm17 cd17 ct17 : Value}
    {f18 : Addr} {od18 an18 : Option Addr} {sl18 : Array (Option Value)} {oc18 kV18 dc18 pm18 cd18 ct18 : Value}
    {f19 : Addr} {od19 an19 : Option Addr} {sl19 : Array (Option Value)} {oc19 kV19 dc19 pm19 cd19 ct19 : Value}
    {f20 : Addr} {od20 an20 : Option Addr} {sl20 : Array (Option Value)} {oc20 kV20 dc20 pm20 cd20 ct20 : Value}
    {f21 : Addr} {od21 an21 : Option Addr} {sl21 : Array (Option Value)} {oc21 kV21 dc21 pm21 cd21 ct21 : Value}
    {f22 : Addr} {od22 an22 : Option Addr} {sl22 : Array (Option Value)} {oc22 kV22 dc22 pm22 cd22 ct22 : Value}
    {f23 : Addr} {od23 an23 : Option Addr} {sl23 : Array (Option Value)} {oc23 kV23 dc23 pm23 cd23 ct23 : Value}
    {f24 : Addr} {od24 an24 : Option Addr} {sl24 : Array (Option Value)} {oc24 kV24 dc24 pm24 cd24 ct24 : Value}
    {f25 : Addr} {od25 an25 : Option Addr} {sl25 : Array (Option Value)} {oc25 kV25 dc25 pm25 cd25 ct25 : Value}
    {f26 : Addr} {od26 an26 : Option Addr} {sl26 : Array (Option Value)} {oc26 kV26 dc26 pm26 cd26 ct26 : Value}
    {f27 : Addr} {od27 an27 : Option Addr} {sl27 : Array (Option Value)} {oc27 kV27 dc27 pm27 cd27 ct27 : Value}
    {f28 : Addr} {od28 an28 : Option Addr} {sl28 : Array (Option Value)} {oc28 kV28 dc28 pm28 cd28 ct28 : Value}
    {f29 : Addr} {od29 an29 : Option Addr} {sl29 : Array (Option Value)} {oc29 kV29 dc29 pm29 cd29 ct29 : Value}
    {f30 : Addr} {od30 an30 : Option Addr} {sl30 : Array (Option Value)} {oc30 kV30 dc30 pm30 cd30 ct30 : Value}
    {t_GREATEST : Tok}
    (a0 : PySem.W.nsIn K mainGlobals "_law_bag" = some (some (.ref f0)))
    (l0 : K.lookup f0 = some ⟨oc0, od0, .func (PySem.W.fnOf "_law_bag" "_law_bag" (defArgs s_law_bag) (defBody s_law_bag) (defScope s_law_bag) .none kV0 dc0 pm0 an0 cd0 ct0), sl0⟩)
    (c0 : PySem.W.codeIn K cd0 "_law_bag" = true)
    (k0 : PySem.W.keepIn K (.ref f0) = true)
    (a1 : PySem.W.nsIn K mainGlobals "_law_mixed" = some (some (.ref f1)))
    (l1 : K.lookup f1 = some ⟨oc1, od1, .func (PySem.W.fnOf "_law_mixed" "_law_mixed" (defArgs s_law_mixed) (defBody s_law_mixed) (defScope s_law_mixed) .none kV1 dc1 pm1 an1 cd1 ct1), sl1⟩)
    (c1 : PySem.W.codeIn K cd1 "_law_mixed" = true)
    (k1 : PySem.W.keepIn K (.ref f1) = true)
    (a2 : PySem.W.nsIn K mainGlobals "_law_draw" = some (some (.ref f2)))
    (l2 : K.lookup f2 = some ⟨oc2, od2, .func (PySem.W.fnOf "_law_draw" "_law_draw" (defArgs s_law_draw) (defBody s_law_draw) (defScope s_law_draw) .none kV2 dc2 pm2 an2 cd2 ct2), sl2⟩)
    (c2 : PySem.W.codeIn K cd2 "_law_draw" = true)
    (k2 : PySem.W.keepIn K (.ref f2) = true)
    (a3 : PySem.W.nsIn K mainGlobals "_law_versions" = some (some (.ref f3)))
    (l3 : K.lookup f3 = some ⟨oc3, od3, .func (PySem.W.fnOf "_law_versions" "_law_versions" (defArgs s_law_versions) (defBody s_law_versions) (defScope s_law_versions) .none kV3 dc3 pm3 an3 cd3 ct3), sl3⟩)
    (c3 : PySem.W.codeIn K cd3 "_law_versions" = true)
    (k3 : PySem.W.keepIn K (.ref f3) = true)
    (a4 : PySem.W.nsIn K mainGlobals "_law_open" = some (some (.ref f4)))
    (l4 : K.lookup f4 = some ⟨oc4, od4, .func (PySem.W.fnOf "_law_open" "_law_open" (defArgs s_law_open) (defBody s_law_open) (defScope s_law_open) .none kV4 dc4 pm4 an4 cd4 ct4), sl4⟩)
    (c4 : PySem.W.codeIn K cd4 "_law_open" = true)
    (k4 : PySem.W.keepIn K (.ref f4) = true)
    (a5 : PySem.W.nsIn K mainGlobals "_law_needed" = some (some (.ref f5)))
    (l5 : K.lookup f5 = some ⟨oc5, od5, .func (PySem.W.fnOf "_law_needed" "_law_needed" (defArgs s_law_needed) (defBody s_law_needed) (defScope s_law_needed) .none kV5 dc5 pm5 an5 cd5 ct5), sl5⟩)
    (c5 : PySem.W.codeIn K cd5 "_law_needed" = true)
    (k5 : PySem.W.keepIn K (.ref f5) = true)
    (a6 : PySem.W.nsIn K mainGlobals "is_tuple" = some (some (.ref f6)))
    (l6 : K.lookup f6 = some ⟨oc6, od6, .func (PySem.W.fnOf "is_tuple" "is_tuple" (defArgs s_is_tuple) (defBody s_is_tuple) (defScope s_is_tuple) .none kV6 dc6 pm6 an6 cd6 ct6), sl6⟩)
    (c6 : PySem.W.codeIn K cd6 "is_tuple" = true)
    (k6 : PySem.W.keepIn K (.ref f6) = true)
    (a7 : PySem.W.nsIn K mainGlobals "is_integer" = some (some (.ref f7)))
    (l7 : K.lookup f7 = some ⟨oc7, od7, .func (PySem.W.fnOf "is_integer" "is_integer" (defArgs s_is_integer) (defBody s_is_integer) (defScope s_is_integer) .none kV7 dc7 pm7 an7 cd7 ct7), sl7⟩)
    (c7 : PySem.W.codeIn K cd7 "is_integer" = true)
    (k7 : PySem.W.keepIn K (.ref f7) = true)
    (a8 : PySem.W.nsIn K mainGlobals "is_within" = some (some (.ref f8)))
    (l8 : K.lookup f8 = some ⟨oc8, od8, .func (PySem.W.fnOf "is_within" "is_within" (defArgs s_is_within) (defBody s_is_within) (defScope s_is_within) .none kV8 dc8 pm8 an8 cd8 ct8), sl8⟩)
    (c8 : PySem.W.codeIn K cd8 "is_within" = true)
    (k8 : PySem.W.keepIn K (.ref f8) = true)
    (a9 : PySem.W.nsIn K mainGlobals "is_commit" = some (some (.ref f9)))
    (l9 : K.lookup f9 = some ⟨oc9, od9, .func (PySem.W.fnOf "is_commit" "is_commit" (defArgs s_is_commit) (defBody s_is_commit) (defScope s_is_commit) .none kV9 dc9 pm9 an9 cd9 ct9), sl9⟩)
    (c9 : PySem.W.codeIn K cd9 "is_commit" = true)
    (k9 : PySem.W.keepIn K (.ref f9) = true)
    (a10 : PySem.W.nsIn K mainGlobals "is_worth" = some (some (.ref f10)))
    (l10 : K.lookup f10 = some ⟨oc10, od10, .func (PySem.W.fnOf "is_worth" "is_worth" (defArgs s_is_worth) (defBody s_is_worth) (defScope s_is_worth) .none kV10 dc10 pm10 an10 cd10 ct10), sl10⟩)
    (c10 : PySem.W.codeIn K cd10 "is_worth" = true)
    (k10 : PySem.W.keepIn K (.ref f10) = true)
    (a11 : PySem.W.nsIn K mainGlobals "is_mark" = some (some (.ref f11)))
    (l11 : K.lookup f11 = some ⟨oc11, od11, .func (PySem.W.fnOf "is_mark" "is_mark" (defArgs s_is_mark) (defBody s_is_mark) (defScope s_is_mark) .none kV11 dc11 pm11 an11 cd11 ct11), sl11⟩)
    (c11 : PySem.W.codeIn K cd11 "is_mark" = true)
    (k11 : PySem.W.keepIn K (.ref f11) = true)
    (a12 : PySem.W.nsIn K mainGlobals "is_version" = some (some (.ref f12)))
    (l12 : K.lookup f12 = some ⟨oc12, od12, .func (PySem.W.fnOf "is_version" "is_version" (defArgs s_is_version) (defBody s_is_version) (defScope s_is_version) .none kV12 dc12 pm12 an12 cd12 ct12), sl12⟩)
    (c12 : PySem.W.codeIn K cd12 "is_version" = true)
    (k12 : PySem.W.keepIn K (.ref f12) = true)
    (a13 : PySem.W.nsIn K mainGlobals "demand_versions" = some (some (.ref f13)))
    (l13 : K.lookup f13 = some ⟨oc13, od13, .func (PySem.W.fnOf "demand_versions" "demand_versions" (defArgs s_demand_versions) (defBody s_demand_versions) (defScope s_demand_versions) .none kV13 dc13 pm13 an13 cd13 ct13), sl13⟩)
    (c13 : PySem.W.codeIn K cd13 "demand_versions" = true)
    (k13 : PySem.W.keepIn K (.ref f13) = true)
    (a14 : PySem.W.nsIn K mainGlobals "is_snapshot" = some (some (.ref f14)))
    (l14 : K.lookup f14 = some ⟨oc14, od14, .func (PySem.W.fnOf "is_snapshot" "is_snapshot" (defArgs s_is_snapshot) (defBody s_is_snapshot) (defScope s_is_snapshot) .none kV14 dc14 pm14 an14 cd14 ct14), sl14⟩)
    (c14 : PySem.W.codeIn K cd14 "is_snapshot" = true)
    (k14 : PySem.W.keepIn K (.ref f14) = true)
    (a15 : PySem.W.nsIn K mainGlobals "is_lot_below" = some (some (.ref f15)))
    (l15 : K.lookup f15 = some ⟨oc15, od15, .func (PySem.W.fnOf "is_lot_below" "is_lot_below" (defArgs s_is_lot_below) (defBody s_is_lot_below) (defScope s_is_lot_below) .none kV15 dc15 pm15 an15 cd15 ct15), sl15⟩)
    (c15 : PySem.W.codeIn K cd15 "is_lot_below" = true)
    (k15 : PySem.W.keepIn K (.ref f15) = true)
    (a16 : PySem.W.nsIn K mainGlobals "demand_snapshots" = some (some (.ref f16)))
    (l16 : K.lookup f16 = some ⟨oc16, od16, .func (PySem.W.fnOf "demand_snapshots" "demand_snapshots" (defArgs s_demand_snapshots) (defBody s_demand_snapshots) (defScope s_demand_snapshots) .none kV16 dc16 pm16 an16 cd16 ct16), sl16⟩)
    (c16 : PySem.W.codeIn K cd16 "demand_snapshots" = true)
    (k16 : PySem.W.keepIn K (.ref f16) = true)
    (a17 : PySem.W.nsIn K mainGlobals "demand_asked" = some (some (.ref f17)))
    (l17 : K.lookup f17 = some ⟨oc17, od17, .func (PySem.W.fnOf "demand_asked" "demand_asked" (defArgs s_demand_asked) (defBody s_demand_asked) (defScope s_demand_asked) .none kV17 dc17 pm17 an17 cd17 ct17), sl17⟩)
    (c17 : PySem.W.codeIn K cd17 "demand_asked" = true)
    (k17 : PySem.W.keepIn K (.ref f17) = true)
    (a18 : PySem.W.nsIn K mainGlobals "version_at" = some (some (.ref f18)))
    (l18 : K.lookup f18 = some ⟨oc18, od18, .func (PySem.W.fnOf "version_at" "version_at" (defArgs s_version_at) (defBody s_version_at) (defScope s_version_at) .none kV18 dc18 pm18 an18 cd18 ct18), sl18⟩)
    (c18 : PySem.W.codeIn K cd18 "version_at" = true)
    (k18 : PySem.W.keepIn K (.ref f18) = true)
    (a19 : PySem.W.nsIn K mainGlobals "needed_at" = some (some (.ref f19)))
    (l19 : K.lookup f19 = some ⟨oc19, od19, .func (PySem.W.fnOf "needed_at" "needed_at" (defArgs s_needed_at) (defBody s_needed_at) (defScope s_needed_at) .none kV19 dc19 pm19 an19 cd19 ct19), sl19⟩)
    (c19 : PySem.W.codeIn K cd19 "needed_at" = true)
    (k19 : PySem.W.keepIn K (.ref f19) = true)
    (a20 : PySem.W.nsIn K mainGlobals "needed" = some (some (.ref f20)))
    (l20 : K.lookup f20 = some ⟨oc20, od20, .func (PySem.W.fnOf "needed" "needed" (defArgs s_needed) (defBody s_needed) (defScope s_needed) .none kV20 dc20 pm20 an20 cd20 ct20), sl20⟩)
    (c20 : PySem.W.codeIn K cd20 "needed" = true)
    (k20 : PySem.W.keepIn K (.ref f20) = true)
    (a21 : PySem.W.nsIn K mainGlobals "_law_is_lot" = some (some (.ref f21)))
    (l21 : K.lookup f21 = some ⟨oc21, od21, .func (PySem.W.fnOf "_law_is_lot" "_law_is_lot" (defArgs s_law_is_lot) (defBody s_law_is_lot) (defScope s_law_is_lot) .none kV21 dc21 pm21 an21 cd21 ct21), sl21⟩)
    (c21 : PySem.W.codeIn K cd21 "_law_is_lot" = true)
    (k21 : PySem.W.keepIn K (.ref f21) = true)
    (a22 : PySem.W.nsIn K mainGlobals "_law_seen" = some (some (.ref f22)))
    (l22 : K.lookup f22 = some ⟨oc22, od22, .func (PySem.W.fnOf "_law_seen" "_law_seen" (defArgs s_law_seen) (defBody s_law_seen) (defScope s_law_seen) .none kV22 dc22 pm22 an22 cd22 ct22), sl22⟩)
    (c22 : PySem.W.codeIn K cd22 "_law_seen" = true)
    (k22 : PySem.W.keepIn K (.ref f22) = true)
    (a23 : PySem.W.nsIn K mainGlobals "_law_is_enough" = some (some (.ref f23)))
    (l23 : K.lookup f23 = some ⟨oc23, od23, .func (PySem.W.fnOf "_law_is_enough" "_law_is_enough" (defArgs s_law_is_enough) (defBody s_law_is_enough) (defScope s_law_is_enough) .none kV23 dc23 pm23 an23 cd23 ct23), sl23⟩)
    (c23 : PySem.W.codeIn K cd23 "_law_is_enough" = true)
    (k23 : PySem.W.keepIn K (.ref f23) = true)
    (a24 : PySem.W.nsIn K mainGlobals "read_at" = some (some (.ref f24)))
    (l24 : K.lookup f24 = some ⟨oc24, od24, .func (PySem.W.fnOf "read_at" "read_at" (defArgs s_read_at) (defBody s_read_at) (defScope s_read_at) .none kV24 dc24 pm24 an24 cd24 ct24), sl24⟩)
    (c24 : PySem.W.codeIn K cd24 "read_at" = true)
    (k24 : PySem.W.keepIn K (.ref f24) = true)
    (a25 : PySem.W.nsIn K mainGlobals "is_told_right" = some (some (.ref f25)))
    (l25 : K.lookup f25 = some ⟨oc25, od25, .func (PySem.W.fnOf "is_told_right" "is_told_right" (defArgs s_is_told_right) (defBody s_is_told_right) (defScope s_is_told_right) .none kV25 dc25 pm25 an25 cd25 ct25), sl25⟩)
    (c25 : PySem.W.codeIn K cd25 "is_told_right" = true)
    (k25 : PySem.W.keepIn K (.ref f25) = true)
    (a26 : PySem.W.nsIn K mainGlobals "is_kept_right" = some (some (.ref f26)))
    (l26 : K.lookup f26 = some ⟨oc26, od26, .func (PySem.W.fnOf "is_kept_right" "is_kept_right" (defArgs s_is_kept_right) (defBody s_is_kept_right) (defScope s_is_kept_right) .none kV26 dc26 pm26 an26 cd26 ct26), sl26⟩)
    (c26 : PySem.W.codeIn K cd26 "is_kept_right" = true)
    (k26 : PySem.W.keepIn K (.ref f26) = true)
    (a27 : PySem.W.nsIn K mainGlobals "_law_some" = some (some (.ref f27)))
    (l27 : K.lookup f27 = some ⟨oc27, od27, .func (PySem.W.fnOf "_law_some" "_law_some" (defArgs s_law_some) (defBody s_law_some) (defScope s_law_some) .none kV27 dc27 pm27 an27 cd27 ct27), sl27⟩)
    (c27 : PySem.W.codeIn K cd27 "_law_some" = true)
    (k27 : PySem.W.keepIn K (.ref f27) = true)
    (a28 : PySem.W.nsIn K mainGlobals "_law_lot" = some (some (.ref f28)))
    (l28 : K.lookup f28 = some ⟨oc28, od28, .func (PySem.W.fnOf "_law_lot" "_law_lot" (defArgs s_law_lot) (defBody s_law_lot) (defScope s_law_lot) .none kV28 dc28 pm28 an28 cd28 ct28), sl28⟩)
    (c28 : PySem.W.codeIn K cd28 "_law_lot" = true)
    (k28 : PySem.W.keepIn K (.ref f28) = true)
    (a29 : PySem.W.nsIn K mainGlobals "_law_no_lot" = some (some (.ref f29)))
    (l29 : K.lookup f29 = some ⟨oc29, od29, .func (PySem.W.fnOf "_law_no_lot" "_law_no_lot" (defArgs s_law_no_lot) (defBody s_law_no_lot) (defScope s_law_no_lot) .none kV29 dc29 pm29 an29 cd29 ct29), sl29⟩)
    (c29 : PySem.W.codeIn K cd29 "_law_no_lot" = true)
    (k29 : PySem.W.keepIn K (.ref f29) = true)
    (a30 : PySem.W.nsIn K mainGlobals "law" = some (some (.ref f30)))
    (l30 : K.lookup f30 = some ⟨oc30, od30, .func (PySem.W.fnOf "law" "law" (defArgs s_law) (defBody s_law) (defScope s_law) .none kV30 dc30 pm30 an30 cd30 ct30), sl30⟩)
    (c30 : PySem.W.codeIn K cd30 "law" = true)
    (k30 : PySem.W.keepIn K (.ref f30) = true)
    (co_GREATEST : PySem.W.nsIn K mainGlobals "GREATEST" = some (some (.int 1000000000000000000 t_GREATEST)))
    (zb_abs : PySem.W.nsIn K mainGlobals "abs" = some none)
    (zb_all : PySem.W.nsIn K mainGlobals "all" = some none)
    (zb_bool : PySem.W.nsIn K mainGlobals "bool" = some none)
    (zb_enumerate : PySem.W.nsIn K mainGlobals "enumerate" = some none)
    (zb_int : PySem.W.nsIn K mainGlobals "int" = some none)
    (zb_isinstance : PySem.W.nsIn K mainGlobals "isinstance" = some none)
    (zb_len : PySem.W.nsIn K mainGlobals "len" = some none)
    (zb_list : PySem.W.nsIn K mainGlobals "list" = some none)
    (zb_max : PySem.W.nsIn K mainGlobals "max" = some none)
    (zb_min : PySem.W.nsIn K mainGlobals "min" = some none)
    (zb_range : PySem.W.nsIn K mainGlobals "range" = some none)
    (zb_reversed : PySem.W.nsIn K mainGlobals "reversed" = some none)
    (zb_sorted : PySem.W.nsIn K mainGlobals "sorted" = some none)
    (zb_tuple : PySem.W.nsIn K mainGlobals "tuple" = some none)
    : ∃ x : Tx K mg, x.a_law = fa := by
  have e := hfa.symm.trans (PySem.W.mg_of X G a30)
  cases e
  exact ⟨{
    a_law_bag := f0,
    d_law_bag := _,
    F_law_bag := fun_mk (st := s_law_bag) l0 c0 k0,
    b_law_bag := (fun_mk (st := s_law_bag) l0 c0 k0).binds (ps := ["script"]) (fun _ _ _ _ _ _ us hl => match us, hl with | [_], _ => rfl),
    g_law_bag := PySem.W.mg_of X G a0,
    a_law_mixed := f1,
    d_law_mixed := _,
    F_law_mixed := fun_mk (st := s_law_mixed) l1 c1 k1,
    b_law_mixed := (fun_mk (st := s_law_mixed) l1 c1 k1).binds (ps := ["cell", "turn"]) (fun _ _ _ _ _ _ us hl => match us, hl with | [_, _], _ => rfl),
    g_law_mixed := PySem.W.mg_of X G a1,
    a_law_draw := f2,
    d_law_draw := _,
    F_law_draw := fun_mk (st := s_law_draw) l2 c2 k2,
    b_law_draw := (fun_mk (st := s_law_draw) l2 c2 k2).binds (ps := ["bag", "many"]) (fun _ _ _ _ _ _ us hl => match us, hl with | [_, _], _ => rfl),
    g_law_draw := PySem.W.mg_of X G a2,
    a_law_versions := f3,
    d_law_versions := _,
    F_law_versions := fun_mk (st := s_law_versions) l3 c3 k3,
    b_law_versions := (fun_mk (st := s_law_versions) l3 c3 k3).binds (ps := ["bag"]) (fun _ _ _ _ _ _ us hl => match us, hl with | [_], _ => rfl),
    g_law_versions := PySem.W.mg_of X G a3,
    a_law_open := f4,
    d_law_open := _,
    F_law_open := fun_mk (st := s_law_open) l4 c4 k4,
    b_law_open := (fun_mk (st := s_law_open) l4 c4 k4).binds (ps := ["bag", "versions", "last"]) (fun _ _ _ _ _ _ us hl => match us, hl with | [_, _, _], _ => rfl),
    g_law_open := PySem.W.mg_of X G a4,
    a_law_needed := f5,
    d_law_needed := _,
    F_law_needed := fun_mk (st := s_law_needed) l5 c5 k5,
    b_law_needed := (fun_mk (st := s_law_needed) l5 c5 k5).binds (ps := ["versions", "open_lot"]) (fun _ _ _ _ _ _ us hl => match us, hl with | [_, _], _ => rfl),
    g_law_needed := PySem.W.mg_of X G a5,
    a_is_tuple := f6,
    d_is_tuple := _,
    F_is_tuple := fun_mk (st := s_is_tuple) l6 c6 k6,
    b_is_tuple := (fun_mk (st := s_is_tuple) l6 c6 k6).binds (ps := ["many", "thing"]) (fun _ _ _ _ _ _ us hl => match us, hl with | [_, _], _ => rfl),
    g_is_tuple := PySem.W.mg_of X G a6,
    a_is_integer := f7,
    d_is_integer := _,
    F_is_integer := fun_mk (st := s_is_integer) l7 c7 k7,
    b_is_integer := (fun_mk (st := s_is_integer) l7 c7 k7).binds (ps := ["thing"]) (fun _ _ _ _ _ _ us hl => match us, hl with | [_], _ => rfl),
    g_is_integer := PySem.W.mg_of X G a7,
    a_is_within := f8,
    d_is_within := _,
    F_is_within := fun_mk (st := s_is_within) l8 c8 k8,
    b_is_within := (fun_mk (st := s_is_within) l8 c8 k8).binds (ps := ["low", "high", "thing"]) (fun _ _ _ _ _ _ us hl => match us, hl with | [_, _, _], _ => rfl),
    g_is_within := PySem.W.mg_of X G a8,
    a_is_commit := f9,
    d_is_commit := _,
    F_is_commit := fun_mk (st := s_is_commit) l9 c9 k9,
    b_is_commit := (fun_mk (st := s_is_commit) l9 c9 k9).binds (ps := ["thing"]) (fun _ _ _ _ _ _ us hl => match us, hl with | [_], _ => rfl),
    g_is_commit := PySem.W.mg_of X G a9,
    a_is_worth := f10,
    d_is_worth := _,
    F_is_worth := fun_mk (st := s_is_worth) l10 c10 k10,
    b_is_worth := (fun_mk (st := s_is_worth) l10 c10 k10).binds (ps := ["thing"]) (fun _ _ _ _ _ _ us hl => match us, hl with | [_], _ => rfl),
    g_is_worth := PySem.W.mg_of X G a10,
    a_is_mark := f11,
    d_is_mark := _,
    F_is_mark := fun_mk (st := s_is_mark) l11 c11 k11,
    b_is_mark := (fun_mk (st := s_is_mark) l11 c11 k11).binds (ps := ["thing"]) (fun _ _ _ _ _ _ us hl => match us, hl with | [_], _ => rfl),
    g_is_mark := PySem.W.mg_of X G a11,
    a_is_version := f12,
    d_is_version := _,
    F_is_version := fun_mk (st := s_is_version) l12 c12 k12,
    b_is_version := (fun_mk (st := s_is_version) l12 c12 k12).binds (ps := ["thing"]) (fun _ _ _ _ _ _ us hl => match us, hl with | [_], _ => rfl),
    g_is_version := PySem.W.mg_of X G a12,
    a_demand_versions := f13,
    d_demand_versions := _,
    F_demand_versions := fun_mk (st := s_demand_versions) l13 c13 k13,
    b_demand_versions := (fun_mk (st := s_demand_versions) l13 c13 k13).binds (ps := ["thing"]) (fun _ _ _ _ _ _ us hl => match us, hl with | [_], _ => rfl),
    g_demand_versions := PySem.W.mg_of X G a13,
    a_is_snapshot := f14,
    d_is_snapshot := _,
    F_is_snapshot := fun_mk (st := s_is_snapshot) l14 c14 k14,
    b_is_snapshot := (fun_mk (st := s_is_snapshot) l14 c14 k14).binds (ps := ["thing"]) (fun _ _ _ _ _ _ us hl => match us, hl with | [_], _ => rfl),
    g_is_snapshot := PySem.W.mg_of X G a14,
    a_is_lot_below := f15,
    d_is_lot_below := _,
    F_is_lot_below := fun_mk (st := s_is_lot_below) l15 c15 k15,
    b_is_lot_below := (fun_mk (st := s_is_lot_below) l15 c15 k15).binds (ps := ["bound", "thing"]) (fun _ _ _ _ _ _ us hl => match us, hl with | [_, _], _ => rfl),
    g_is_lot_below := PySem.W.mg_of X G a15,
    a_demand_snapshots := f16,
    d_demand_snapshots := _,
    F_demand_snapshots := fun_mk (st := s_demand_snapshots) l16 c16 k16,
    b_demand_snapshots := (fun_mk (st := s_demand_snapshots) l16 c16 k16).binds (ps := ["open_lot", "last"]) (fun _ _ _ _ _ _ us hl => match us, hl with | [_, _], _ => rfl),
    g_demand_snapshots := PySem.W.mg_of X G a16,
    a_demand_asked := f17,
    d_demand_asked := _,
    F_demand_asked := fun_mk (st := s_demand_asked) l17 c17 k17,
    b_demand_asked := (fun_mk (st := s_demand_asked) l17 c17 k17).binds (ps := ["versions", "open_lot", "last"]) (fun _ _ _ _ _ _ us hl => match us, hl with | [_, _, _], _ => rfl),
    g_demand_asked := PySem.W.mg_of X G a17,
    a_version_at := f18,
    d_version_at := _,
    F_version_at := fun_mk (st := s_version_at) l18 c18 k18,
    b_version_at := (fun_mk (st := s_version_at) l18 c18 k18).binds (ps := ["versions", "snapshot"]) (fun _ _ _ _ _ _ us hl => match us, hl with | [_, _], _ => rfl),
    g_version_at := PySem.W.mg_of X G a18,
    a_needed_at := f19,
    d_needed_at := _,
    F_needed_at := fun_mk (st := s_needed_at) l19 c19 k19,
    b_needed_at := (fun_mk (st := s_needed_at) l19 c19 k19).binds (ps := ["versions", "asked"]) (fun _ _ _ _ _ _ us hl => match us, hl with | [_, _], _ => rfl),
    g_needed_at := PySem.W.mg_of X G a19,
    a_needed := f20,
    d_needed := _,
    F_needed := fun_mk (st := s_needed) l20 c20 k20,
    b_needed := (fun_mk (st := s_needed) l20 c20 k20).binds (ps := ["versions", "open_lot", "last"]) (fun _ _ _ _ _ _ us hl => match us, hl with | [_, _, _], _ => rfl),
    g_needed := PySem.W.mg_of X G a20,
    a_law_is_lot := f21,
    d_law_is_lot := _,
    F_law_is_lot := fun_mk (st := s_law_is_lot) l21 c21 k21,
    b_law_is_lot := (fun_mk (st := s_law_is_lot) l21 c21 k21).binds (ps := ["thing", "commits"]) (fun _ _ _ _ _ _ us hl => match us, hl with | [_, _], _ => rfl),
    g_law_is_lot := PySem.W.mg_of X G a21,
    a_law_seen := f22,
    d_law_seen := _,
    F_law_seen := fun_mk (st := s_law_seen) l22 c22 k22,
    b_law_seen := (fun_mk (st := s_law_seen) l22 c22 k22).binds (ps := ["versions", "snapshot"]) (fun _ _ _ _ _ _ us hl => match us, hl with | [_, _], _ => rfl),
    g_law_seen := PySem.W.mg_of X G a22,
    a_law_is_enough := f23,
    d_law_is_enough := _,
    F_law_is_enough := fun_mk (st := s_law_is_enough) l23 c23 k23,
    b_law_is_enough := (fun_mk (st := s_law_is_enough) l23 c23 k23).binds (ps := ["versions", "asked", "thing"]) (fun _ _ _ _ _ _ us hl => match us, hl with | [_, _, _], _ => rfl),
    g_law_is_enough := PySem.W.mg_of X G a23,
    a_read_at := f24,
    d_read_at := _,
    F_read_at := fun_mk (st := s_read_at) l24 c24 k24,
    b_read_at := (fun_mk (st := s_read_at) l24 c24 k24).binds (ps := ["versions", "snapshot"]) (fun _ _ _ _ _ _ us hl => match us, hl with | [_, _], _ => rfl),
    g_read_at := PySem.W.mg_of X G a24,
    a_is_told_right := f25,
    d_is_told_right := _,
    F_is_told_right := fun_mk (st := s_is_told_right) l25 c25 k25,
    b_is_told_right := (fun_mk (st := s_is_told_right) l25 c25 k25).binds (ps := ["versions", "kept", "snapshot"]) (fun _ _ _ _ _ _ us hl => match us, hl with | [_, _, _], _ => rfl),
    g_is_told_right := PySem.W.mg_of X G a25,
    a_is_kept_right := f26,
    d_is_kept_right := _,
    F_is_kept_right := fun_mk (st := s_is_kept_right) l26 c26 k26,
    b_is_kept_right := (fun_mk (st := s_is_kept_right) l26 c26 k26).binds (ps := ["versions", "open_lot", "last", "thing"]) (fun _ _ _ _ _ _ us hl => match us, hl with | [_, _, _, _], _ => rfl),
    g_is_kept_right := PySem.W.mg_of X G a26,
    a_law_some := f27,
    d_law_some := _,
    F_law_some := fun_mk (st := s_law_some) l27 c27 k27,
    b_law_some := (fun_mk (st := s_law_some) l27 c27 k27).binds (ps := ["bag", "row", "share"]) (fun _ _ _ _ _ _ us hl => match us, hl with | [_, _, _], _ => rfl),
    g_law_some := PySem.W.mg_of X G a27,
    a_law_lot := f28,
    d_law_lot := _,
    F_law_lot := fun_mk (st := s_law_lot) l28 c28 k28,
    b_law_lot := (fun_mk (st := s_law_lot) l28 c28 k28).binds (ps := ["bag", "versions", "due"]) (fun _ _ _ _ _ _ us hl => match us, hl with | [_, _, _], _ => rfl),
    g_law_lot := PySem.W.mg_of X G a28,
    a_law_no_lot := f29,
    d_law_no_lot := _,
    F_law_no_lot := fun_mk (st := s_law_no_lot) l29 c29 k29,
    b_law_no_lot := (fun_mk (st := s_law_no_lot) l29 c29 k29).binds (ps := ["bag", "lot"]) (fun _ _ _ _ _ _ us hl => match us, hl with | [_, _], _ => rfl),
    g_law_no_lot := PySem.W.mg_of X G a29,
    a_law := fa,
    d_law := _,
    F_law := fun_mk (st := s_law) l30 c30 k30,
    b_law := (fun_mk (st := s_law) l30 c30 k30).binds (ps := ["script"]) (fun _ _ _ _ _ _ us hl => match us, hl with | [_], _ => rfl),
    g_law := PySem.W.mg_of X G a30,
    bl := fun s u => .of_eq rfl,
    t_GREATEST := t_GREATEST,
    c_GREATEST := PySem.W.mg_of X G co_GREATEST,
    z_abs := PySem.W.mg_none_of X G zb_abs,
    z_all := PySem.W.mg_none_of X G zb_all,
    z_bool := PySem.W.mg_none_of X G zb_bool,
    z_enumerate := PySem.W.mg_none_of X G zb_enumerate,
    z_int := PySem.W.mg_none_of X G zb_int,
    z_isinstance := PySem.W.mg_none_of X G zb_isinstance,
    z_len := PySem.W.mg_none_of X G zb_len,
    z_list := PySem.W.mg_none_of X G zb_list,
    z_max := PySem.W.mg_none_of X G zb_max,
    z_min := PySem.W.mg_none_of X G zb_min,
    z_range := PySem.W.mg_none_of X G zb_range,
    z_reversed := PySem.W.mg_none_of X G zb_reversed,
    z_sorted := PySem.W.mg_none_of X G zb_sorted,
    z_tuple := PySem.W.mg_none_of X G zb_tuple }, rfl⟩
/-- what is asked of the law -/
def spLaw (K : PySem.W.Frag) : Sp := fun vs H Q _ => ∃ (a : Addr) (ns : List Int), vs = [.ref a] ∧ SqL K H a (ns.map V.int) ∧ ns.length ≤ 63 ∧ ∀ H', Q (.bl true) H'
end Lw
namespace Lw
open PySem L2 Mi
def Up (h : Nat) (st s : Sto) : Prop := st.length ≤ s.length ∧ ∀ (i : Nat) (n : Nd), i ≠ h → st[i]? = some n → s[i]? = some n
def Ext (st s : Sto) : Prop := st.length ≤ s.length ∧ ∀ (i : Nat) (n : Nd), st[i]? = some n → s[i]? = some n
theorem Up.refl {h : Nat} {st : Sto} : Up h st st := ⟨Nat.le_refl _, fun _ _ _ z => z⟩
theorem Up.trans {h : Nat} {a b c : Sto} (x : Up h a b) (y : Up h b c) : Up h a c := ⟨Nat.le_trans x.1 y.1, fun i n k z => y.2 i n k (x.2 i n k z)⟩
theorem Ext.refl {st : Sto} : Ext st st := ⟨Nat.le_refl _, fun _ _ z => z⟩
theorem Ext.trans {a b c : Sto} (x : Ext a b) (y : Ext b c) : Ext a c := ⟨Nat.le_trans x.1 y.1, fun i n z => y.2 i n (x.2 i n z)⟩
theorem Ext.up {h : Nat} {a b : Sto} (x : Ext a b) : Up h a b := ⟨x.1, fun i n _ z => x.2 i n z⟩
theorem Ext.app {a t : Sto} : Ext a (a ++ t) := ⟨by simp, fun i n z => by
  rw [List.getElem?_append_left (List.getElem?_eq_some_iff.mp z).1]; exact z⟩
theorem Up.set {h : Nat} {a : Sto} {n : Nd} : Up h a (a.set h n) := ⟨by simp, fun i m k z => by rw [List.getElem?_set_ne (fun e => k e.symm)]; exact z⟩
/-- a place behind st changes -/
theorem Ext.set {a s : Sto} {p : Nat} {n : Nd} (x : Ext a s) (hp : a.length ≤ p) : Ext a (s.set p n) := ⟨by simp; exact x.1, fun i m z => by
  have := (List.getElem?_eq_some_iff.mp z).1
  rw [List.getElem?_set_ne (by omega)]; exact x.2 i m z⟩
theorem Up.setp {h : Nat} {a s : Sto} {p : Nat} {n : Nd} (x : Up h a s) (hp : a.length ≤ p) : Up h a (s.set p n) := ⟨by simp; exact x.1, fun i m k z => by
  have := (List.getElem?_eq_some_iff.mp z).1
  rw [List.getElem?_set_ne (by omega)]; exact x.2 i m k z⟩
theorem get_setp {s : Sto} {p : Nat} {n m : Nd} (e : s[p]? = some m) : (s.set p n)[p]? = some n := by
  have := (List.getElem?_eq_some_iff.mp e).1
  simp [this]
theorem get_setn {s : Sto} {p q : Nat} {n : Nd} (h : p ≠ q) : (s.set p n)[q]? = s[q]? := List.getElem?_set_ne h
theorem get_new {s : Sto} {n : Nd} : (s ++ [n])[s.length]? = some n := by simp
theorem lt_of_get {s : Sto} {i : Nat} {m : Nd} (e : s[i]? = some m) : i < s.length := (List.getElem?_eq_some_iff.mp e).1
/-! the bag -/
def BagN (cs : List Int) (a : Nat) (b c : Int) : Nd := .lst [.lst (cs.map W.int), .int (a : Int), .int b, .int c]
def Bg (h : Nat) (st : Sto) : Prop := ∃ cs a b c, st[h]? = some (BagN cs a b c)
theorem Bg.ext {h : Nat} {a b : Sto} (x : Ext a b) (g : Bg h a) : Bg h b := by
  obtain ⟨cs, i, j, k, e⟩ := g
  exact ⟨cs, i, j, k, x.2 h _ e⟩
theorem Bg.new {h : Nat} {st : Sto} {n : Nd} (g : Bg h st) : Bg h (st ++ [n]) := g.ext Ext.app
theorem Bg.set {h p : Nat} {st : Sto} {n : Nd} (g : Bg h st) (k : p ≠ h) : Bg h (st.set p n) := by
  obtain ⟨cs, i, j, l, e⟩ := g
  exact ⟨cs, i, j, l, by rw [get_setn k]; exact e⟩
theorem Bg.lt {h : Nat} {st : Sto} (g : Bg h st) : h < st.length := by
  obtain ⟨_, _, _, _, e⟩ := g
  exact lt_of_get e
section
variable {h : Nat} {st : Sto} {cs : List Int} {a : Nat} {b c : Int} {P : W → Sto → Prop} {E : Xc → Sto → Prop}
theorem bag0 (e : st[h]? = some (BagN cs a b c)) : wp (wIx (.ref h) (.int 0) st) P E ↔ P (.lst (cs.map W.int)) st := wp_ixR (n := 0) e rfl
theorem bag1 (e : st[h]? = some (BagN cs a b c)) : wp (wIx (.ref h) (.int 1) st) P E ↔ P (.int a) st := wp_ixR (n := 1) e rfl
theorem bag2 (e : st[h]? = some (BagN cs a b c)) : wp (wIx (.ref h) (.int 2) st) P E ↔ P (.int b) st := wp_ixR (n := 2) e rfl
theorem bag3 (e : st[h]? = some (BagN cs a b c)) : wp (wIx (.ref h) (.int 3) st) P E ↔ P (.int c) st := wp_ixR (n := 3) e rfl
theorem set_k {st : Sto} {h : Nat} {xs : List W} {n : Nat} {w : W} (e : st[h]? = some (.lst xs)) (k : n < xs.length) : wStore (.ref h) (.int (n : Int)) w st = some (st.set h (.lst (xs.set n w))) := by
  simp [wStore, wSet, e, ixN, k]
theorem bags1 {x : Nat} (e : st[h]? = some (BagN cs a b c)) : wStore (.ref h) (.int 1) (.int x) st = some (st.set h (BagN cs x b c)) := by
  have := set_k (n := 1) (w := .int (x : Int)) e (by simp)
  simpa [BagN] using this
theorem bags2 {x : Int} (e : st[h]? = some (BagN cs a b c)) : wStore (.ref h) (.int 2) (.int x) st = some (st.set h (BagN cs a x c)) := by
  have := set_k (n := 2) (w := .int x) e (by simp)
  simpa [BagN] using this
theorem bags3 {x : Int} (e : st[h]? = some (BagN cs a b c)) : wStore (.ref h) (.int 3) (.int x) st = some (st.set h (BagN cs a b x)) := by
  have := set_k (n := 3) (w := .int x) e (by simp)
  simpa [BagN] using this
end
theorem small_of {i : Int} (a : 0 ≤ i) (b : i < 18446744073709551616) : Mi.small64 i = true := by
  simp only [Mi.small64, decide_eq_true_eq]; omega
theorem mixed_ok {c t : Int} {st : Sto} {E : Xc → Sto → Prop} : wp (r_law_mixed [.int c, .int t] st) (fun w s => (∃ x, w = .int x) ∧ s = st) E := by
  simp only [r_law_mixed, m_law_mixed]
  simp only [ws_seq, ws_if, ws_set, ws_sub, ws_ret, ws_retN, ws_expr, ws_sNx, ws_for, wp_op, wp_var0, wp_varS, wp_c, wp_mB, wp_toB, wp_tr, wp_trB_bl, wp_trB_non, wp_trB_int, wp_not, wp_and, wp_or, wp_if, wp_mBl, wp_nil, wp_cons, wp_tup, wp_lst, wp_lstS, wp_newL_t, wp_newL_f, wp_chain, wp_call, wp_fn, wp_sl, wp_noPart, wp_part, wp_comp, wp_yes, wp_iL, wp_iA, wp_srcL, wp_srcS, wp_srcAL, wp_srcAT, wp_iR1, wp_iR2, wp_rng1, wp_rng2, wp_iRv, wp_srcRL, wp_srcRT, wp_iEA, wp_srcEL, wp_srcET, wp_add, wp_sub, wp_mul, wp_mod, wp_div, wp_divW, wp_pow18, wp_pow17, wp_pow16, wp_pow30, wp_eqI, wp_neI, wp_cmpI, wp_isN, wp_isNotN, wp_lenL, wp_lenT, wp_abs, wp_int, wp_min2, wp_max2, wp_listL, wp_listT, wp_tupleL, wp_tupleT, wp_ixT0, wp_ixT1, wp_ixL0, wp_neg, wp_ok, wp_srcEL, wp_isB, wp_isNotB, wp_eqB, wp_neB, wp_all, wp_any, wp_slT, wp_slL, wp_rev, wp_revT, wp_revL, wp_disp, wp_pair, wp_pair0, wp_dict0, wipeW, List.foldl_cons, List.foldl_nil, wp_run, List.map, List.length, List.replicate, List.cons_append, List.nil_append, List.append_nil, List.set_cons_zero, List.set_cons_succ, if_true, if_false, Bool.not_true, Bool.not_false, Bool.true_eq_false, Bool.false_eq_true, Nat.reduceAdd, Nat.reduceSub, gName']
  have f := fun x : Int => small_of (Int.fmod_nonneg_of_pos x (by decide : (0 : Int) < 2147483647)) (Int.lt_trans (Int.fmod_lt_of_pos x (by decide : (0 : Int) < 2147483647)) (by decide))
  have s1 : Mi.small64 7919 = true := rfl
  have s2 : Mi.small64 48271 = true := rfl
  simp only [f, s1, s2, Bool.true_or, Bool.or_true, true_and, and_true]
  exact ⟨by decide, by decide, ⟨by decide, by decide⟩, by decide, ⟨by decide, by decide⟩, by decide, ⟨by decide, by decide⟩, _, rfl⟩
theorem bagw1 {h : Nat} {st : Sto} {cs : List Int} {a : Nat} {b c : Int} {x : Nat} {P : Unit → Sto → Prop} {E : Xc → Sto → Prop} (e : st[h]? = some (BagN cs a b c)) : wp (stR (.ref h) (.int 1) (.int ((x : Int) + 1)) st) P E ↔ P () (st.set h (BagN cs (x + 1) b c)) := wp_stR (bags1 (x := x + 1) e)
theorem bagw2 {h : Nat} {st : Sto} {cs : List Int} {a : Nat} {b c : Int} {x : Int} {P : Unit → Sto → Prop} {E : Xc → Sto → Prop} (e : st[h]? = some (BagN cs a b c)) : wp (stR (.ref h) (.int 2) (.int x) st) P E ↔ P () (st.set h (BagN cs a x c)) := wp_stR (bags2 e)
theorem bagw3 {h : Nat} {st : Sto} {cs : List Int} {a : Nat} {b c : Int} {x : Int} {P : Unit → Sto → Prop} {E : Xc → Sto → Prop} (e : st[h]? = some (BagN cs a b c)) : wp (stR (.ref h) (.int 3) (.int x) st) P E ↔ P () (st.set h (BagN cs a b x)) := wp_stR (bags3 e)
/-- a draw -/
theorem draw_ok {h : Nat} {st : Sto} {m : Int} (g : Bg h st) (h0 : 0 < m) (h1 : m.natAbs.log2 < 9000) : wp (r_law_draw [.ref h, .int m] st) (fun w s => ∃ (x : Int) (n : Nd), w = .int x ∧ 0 ≤ x ∧ x < m ∧ s = st.set h n ∧ Bg h s) NoE := by
  obtain ⟨cs, a, b, c, e⟩ := g
  have e1 : (st.set h (BagN cs a b (c + 1)))[h]? = some (BagN cs a b (c + 1)) := get_setp e
  have hb : ∀ {n : Nd} {s : Sto} {cs a b c}, s[h]? = some n → Bg h (s.set h (BagN cs a b c)) := fun q => ⟨_, _, _, _, get_setp q⟩
  have hm : m ≠ 0 := by omega
  have hf : ∀ {x : Int} {n : Nd} {s : Sto}, s = st.set h n → Bg h s → ∃ (y : Int) (n' : Nd), W.int (x.fmod m) = W.int y ∧ 0 ≤ y ∧ y < m ∧ s = st.set h n' ∧ Bg h s := fun q q2 => ⟨_, _, rfl, Int.fmod_nonneg_of_pos _ h0, Int.fmod_lt_of_pos _ h0, q, q2⟩
  simp only [r_law_draw, m_law_draw]
  simp only [ws_seq, ws_if, ws_set, ws_sub, ws_ret, ws_retN, ws_expr, ws_sNx, ws_for, wp_op, wp_var0, wp_varS, wp_c, wp_mB, wp_toB, wp_tr, wp_trB_bl, wp_trB_non, wp_trB_int, wp_not, wp_and, wp_or, wp_if, wp_mBl, wp_nil, wp_cons, wp_tup, wp_lst, wp_lstS, wp_newL_t, wp_newL_f, wp_chain, wp_call, wp_fn, wp_sl, wp_noPart, wp_part, wp_comp, wp_yes, wp_iL, wp_iA, wp_srcL, wp_srcS, wp_srcAL, wp_srcAT, wp_iR1, wp_iR2, wp_rng1, wp_rng2, wp_iRv, wp_srcRL, wp_srcRT, wp_iEA, wp_srcEL, wp_srcET, wp_add, wp_sub, wp_mul, wp_mod, wp_div, wp_divW, wp_pow18, wp_pow17, wp_pow16, wp_pow30, wp_eqI, wp_neI, wp_cmpI, wp_isN, wp_isNotN, wp_lenL, wp_lenT, wp_abs, wp_int, wp_min2, wp_max2, wp_listL, wp_listT, wp_tupleL, wp_tupleT, wp_ixT0, wp_ixT1, wp_ixL0, wp_neg, wp_ok, wp_srcEL, wp_isB, wp_isNotB, wp_eqB, wp_neB, wp_all, wp_any, wp_slT, wp_slL, wp_rev, wp_revT, wp_revL, wp_disp, wp_pair, wp_pair0, wp_dict0, wipeW, List.foldl_cons, List.foldl_nil, wp_run, List.map, List.length, List.replicate, List.cons_append, List.nil_append, List.append_nil, List.set_cons_zero, List.set_cons_succ, if_true, if_false, Bool.not_true, Bool.not_false, Bool.true_eq_false, Bool.false_eq_true, Nat.reduceAdd, Nat.reduceSub, gName', bag3 e, bagw3 e, bag2 e1, bagw2 e1, decide_eq_true_eq, hm, h0, h1, true_and, and_true, ne_eq, not_false_eq_true]
  split
  · exact hf (by rw [List.set_set]) (hb e1)
  · simp only [ws_seq, ws_if, ws_set, ws_sub, ws_ret, ws_retN, ws_expr, ws_sNx, ws_for, wp_op, wp_var0, wp_varS, wp_c, wp_mB, wp_toB, wp_tr, wp_trB_bl, wp_trB_non, wp_trB_int, wp_not, wp_and, wp_or, wp_if, wp_mBl, wp_nil, wp_cons, wp_tup, wp_lst, wp_lstS, wp_newL_t, wp_newL_f, wp_chain, wp_call, wp_fn, wp_sl, wp_noPart, wp_part, wp_comp, wp_yes, wp_iL, wp_iA, wp_srcL, wp_srcS, wp_srcAL, wp_srcAT, wp_iR1, wp_iR2, wp_rng1, wp_rng2, wp_iRv, wp_srcRL, wp_srcRT, wp_iEA, wp_srcEL, wp_srcET, wp_add, wp_sub, wp_mul, wp_mod, wp_div, wp_divW, wp_pow18, wp_pow17, wp_pow16, wp_pow30, wp_eqI, wp_neI, wp_cmpI, wp_isN, wp_isNotN, wp_lenL, wp_lenT, wp_abs, wp_int, wp_min2, wp_max2, wp_listL, wp_listT, wp_tupleL, wp_tupleT, wp_ixT0, wp_ixT1, wp_ixL0, wp_neg, wp_ok, wp_srcEL, wp_isB, wp_isNotB, wp_eqB, wp_neB, wp_all, wp_any, wp_slT, wp_slL, wp_rev, wp_revT, wp_revL, wp_disp, wp_pair, wp_pair0, wp_dict0, wipeW, List.foldl_cons, List.foldl_nil, wp_run, List.map, List.length, List.replicate, List.cons_append, List.nil_append, List.append_nil, List.set_cons_zero, List.set_cons_succ, if_true, if_false, Bool.not_true, Bool.not_false, Bool.true_eq_false, Bool.false_eq_true, Nat.reduceAdd, Nat.reduceSub, gName', bag0 e1, bag1 e1, bag3 e1, bagw1 e1, List.length_map, decide_eq_true_eq]
    split
    · refine wp_no mixed_ok ?_
      rintro w s ⟨⟨x, rfl⟩, rfl⟩
      simp only [ws_seq, ws_if, ws_set, ws_sub, ws_ret, ws_retN, ws_expr, ws_sNx, ws_for, wp_op, wp_var0, wp_varS, wp_c, wp_mB, wp_toB, wp_tr, wp_trB_bl, wp_trB_non, wp_trB_int, wp_not, wp_and, wp_or, wp_if, wp_mBl, wp_nil, wp_cons, wp_tup, wp_lst, wp_lstS, wp_newL_t, wp_newL_f, wp_chain, wp_call, wp_fn, wp_sl, wp_noPart, wp_part, wp_comp, wp_yes, wp_iL, wp_iA, wp_srcL, wp_srcS, wp_srcAL, wp_srcAT, wp_iR1, wp_iR2, wp_rng1, wp_rng2, wp_iRv, wp_srcRL, wp_srcRT, wp_iEA, wp_srcEL, wp_srcET, wp_add, wp_sub, wp_mul, wp_mod, wp_div, wp_divW, wp_pow18, wp_pow17, wp_pow16, wp_pow30, wp_eqI, wp_neI, wp_cmpI, wp_isN, wp_isNotN, wp_lenL, wp_lenT, wp_abs, wp_int, wp_min2, wp_max2, wp_listL, wp_listT, wp_tupleL, wp_tupleT, wp_ixT0, wp_ixT1, wp_ixL0, wp_neg, wp_ok, wp_srcEL, wp_isB, wp_isNotB, wp_eqB, wp_neB, wp_all, wp_any, wp_slT, wp_slL, wp_rev, wp_revT, wp_revL, wp_disp, wp_pair, wp_pair0, wp_dict0, wipeW, List.foldl_cons, List.foldl_nil, wp_run, List.map, List.length, List.replicate, List.cons_append, List.nil_append, List.append_nil, List.set_cons_zero, List.set_cons_succ, if_true, if_false, Bool.not_true, Bool.not_false, Bool.true_eq_false, Bool.false_eq_true, Nat.reduceAdd, Nat.reduceSub, gName', hm, true_and, ne_eq, not_false_eq_true]
      exact hf rfl (hb e)
    · rename_i hn
      have hl : 0 < (cs.length : Int) := by omega
      have i0 : 0 ≤ (a : Int).fmod cs.length := Int.fmod_nonneg_of_pos _ hl
      have i1 : (a : Int).fmod cs.length < cs.length := Int.fmod_lt_of_pos _ hl
      obtain ⟨cell, hcell⟩ : ∃ cell, cs[((a : Int).fmod cs.length).toNat]? = some cell := ⟨_, List.getElem?_eq_getElem (by omega)⟩
      have e2 : (List.map W.int cs)[((a : Int).fmod cs.length).toNat]? = some (.int cell) := by rw [List.getElem?_map, hcell]; rfl
      refine ⟨by omega, ?_⟩
      rw [wp_ixLi i0 e2]
      have e3 : ((st.set h (BagN cs a b (c + 1))).set h (BagN cs (a + 1) b (c + 1)))[h]? = some (BagN cs (a + 1) b (c + 1)) := get_setp e1
      have last : wp (wIx (W.ref h) (W.int 3) ((st.set h (BagN cs a b (c + 1))).set h (BagN cs (a + 1) b (c + 1)))) (fun x s => wp (r_law_mixed [.int cell, x] s) (fun x s => wp (wMod x (W.int m) s) (fun w s => ∃ x n, w = W.int x ∧ 0 ≤ x ∧ x < m ∧ s = List.set st h n ∧ Bg h s) fun x s => NoE x s) fun x s => NoE x s) fun x s => NoE x s := by
        rw [bag3 e3]
        refine wp_no mixed_ok ?_
        rintro w s ⟨⟨x, rfl⟩, rfl⟩
        simp only [ws_seq, ws_if, ws_set, ws_sub, ws_ret, ws_retN, ws_expr, ws_sNx, ws_for, wp_op, wp_var0, wp_varS, wp_c, wp_mB, wp_toB, wp_tr, wp_trB_bl, wp_trB_non, wp_trB_int, wp_not, wp_and, wp_or, wp_if, wp_mBl, wp_nil, wp_cons, wp_tup, wp_lst, wp_lstS, wp_newL_t, wp_newL_f, wp_chain, wp_call, wp_fn, wp_sl, wp_noPart, wp_part, wp_comp, wp_yes, wp_iL, wp_iA, wp_srcL, wp_srcS, wp_srcAL, wp_srcAT, wp_iR1, wp_iR2, wp_rng1, wp_rng2, wp_iRv, wp_srcRL, wp_srcRT, wp_iEA, wp_srcEL, wp_srcET, wp_add, wp_sub, wp_mul, wp_mod, wp_div, wp_divW, wp_pow18, wp_pow17, wp_pow16, wp_pow30, wp_eqI, wp_neI, wp_cmpI, wp_isN, wp_isNotN, wp_lenL, wp_lenT, wp_abs, wp_int, wp_min2, wp_max2, wp_listL, wp_listT, wp_tupleL, wp_tupleT, wp_ixT0, wp_ixT1, wp_ixL0, wp_neg, wp_ok, wp_srcEL, wp_isB, wp_isNotB, wp_eqB, wp_neB, wp_all, wp_any, wp_slT, wp_slL, wp_rev, wp_revT, wp_revL, wp_disp, wp_pair, wp_pair0, wp_dict0, wipeW, List.foldl_cons, List.foldl_nil, wp_run, List.map, List.length, List.replicate, List.cons_append, List.nil_append, List.append_nil, List.set_cons_zero, List.set_cons_succ, if_true, if_false, Bool.not_true, Bool.not_false, Bool.true_eq_false, Bool.false_eq_true, Nat.reduceAdd, Nat.reduceSub, gName', hm, true_and, ne_eq, not_false_eq_true]
        exact hf (by rw [List.set_set]) (hb e1)
      split
      · simp only [ws_seq, ws_if, ws_set, ws_sub, ws_ret, ws_retN, ws_expr, ws_sNx, ws_for, wp_op, wp_var0, wp_varS, wp_c, wp_mB, wp_toB, wp_tr, wp_trB_bl, wp_trB_non, wp_trB_int, wp_not, wp_and, wp_or, wp_if, wp_mBl, wp_nil, wp_cons, wp_tup, wp_lst, wp_lstS, wp_newL_t, wp_newL_f, wp_chain, wp_call, wp_fn, wp_sl, wp_noPart, wp_part, wp_comp, wp_yes, wp_iL, wp_iA, wp_srcL, wp_srcS, wp_srcAL, wp_srcAT, wp_iR1, wp_iR2, wp_rng1, wp_rng2, wp_iRv, wp_srcRL, wp_srcRT, wp_iEA, wp_srcEL, wp_srcET, wp_add, wp_sub, wp_mul, wp_mod, wp_div, wp_divW, wp_pow18, wp_pow17, wp_pow16, wp_pow30, wp_eqI, wp_neI, wp_cmpI, wp_isN, wp_isNotN, wp_lenL, wp_lenT, wp_abs, wp_int, wp_min2, wp_max2, wp_listL, wp_listT, wp_tupleL, wp_tupleT, wp_ixT0, wp_ixT1, wp_ixL0, wp_neg, wp_ok, wp_srcEL, wp_isB, wp_isNotB, wp_eqB, wp_neB, wp_all, wp_any, wp_slT, wp_slL, wp_rev, wp_revT, wp_revL, wp_disp, wp_pair, wp_pair0, wp_dict0, wipeW, List.foldl_cons, List.foldl_nil, wp_run, List.map, List.length, List.replicate, List.cons_append, List.nil_append, List.append_nil, List.set_cons_zero, List.set_cons_succ, if_true, if_false, Bool.not_true, Bool.not_false, Bool.true_eq_false, Bool.false_eq_true, Nat.reduceAdd, Nat.reduceSub, gName', decide_eq_true_eq]
        generalize (if cell < 0 then -cell else cell) = y
        split
        · simp only [ws_seq, ws_if, ws_set, ws_sub, ws_ret, ws_retN, ws_expr, ws_sNx, ws_for, wp_op, wp_var0, wp_varS, wp_c, wp_mB, wp_toB, wp_tr, wp_trB_bl, wp_trB_non, wp_trB_int, wp_not, wp_and, wp_or, wp_if, wp_mBl, wp_nil, wp_cons, wp_tup, wp_lst, wp_lstS, wp_newL_t, wp_newL_f, wp_chain, wp_call, wp_fn, wp_sl, wp_noPart, wp_part, wp_comp, wp_yes, wp_iL, wp_iA, wp_srcL, wp_srcS, wp_srcAL, wp_srcAT, wp_iR1, wp_iR2, wp_rng1, wp_rng2, wp_iRv, wp_srcRL, wp_srcRT, wp_iEA, wp_srcEL, wp_srcET, wp_add, wp_sub, wp_mul, wp_mod, wp_div, wp_divW, wp_pow18, wp_pow17, wp_pow16, wp_pow30, wp_eqI, wp_neI, wp_cmpI, wp_isN, wp_isNotN, wp_lenL, wp_lenT, wp_abs, wp_int, wp_min2, wp_max2, wp_listL, wp_listT, wp_tupleL, wp_tupleT, wp_ixT0, wp_ixT1, wp_ixL0, wp_neg, wp_ok, wp_srcEL, wp_isB, wp_isNotB, wp_eqB, wp_neB, wp_all, wp_any, wp_slT, wp_slL, wp_rev, wp_revT, wp_revL, wp_disp, wp_pair, wp_pair0, wp_dict0, wipeW, List.foldl_cons, List.foldl_nil, wp_run, List.map, List.length, List.replicate, List.cons_append, List.nil_append, List.append_nil, List.set_cons_zero, List.set_cons_succ, if_true, if_false, Bool.not_true, Bool.not_false, Bool.true_eq_false, Bool.false_eq_true, Nat.reduceAdd, Nat.reduceSub, gName', hm, h0, h1, true_and, ne_eq, not_false_eq_true, bagw2 e3]
          exact hf (by rw [List.set_set, List.set_set]) (hb e3)
        · exact last
      · exact last
theorem draw1 {h : Nat} {st : Sto} {m : Int} (g : Bg h st) (h0 : 0 < m) (h1 : m.natAbs.log2 < 9000) : wp (r_law_draw [.ref h, .int m] st) (fun w s => ∃ x : Int, w = .int x ∧ 0 ≤ x ∧ x < m ∧ Up h st s ∧ Bg h s) NoE := wp_no (draw_ok g h0 h1) fun w s ⟨x, n, a, b, c, d, e⟩ => ⟨x, a, b, c, d ▸ Up.set, e⟩
theorem log_of {m : Int} (h0 : 0 ≤ m) (h : m < 340282366920938463463374607431768211456) : m.natAbs.log2 < 9000 := by
  have h2 : m.natAbs < 2 ^ 128 := by
    have : (2 : Nat) ^ 128 = 340282366920938463463374607431768211456 := by decide
    omega
  exact Nat.lt_of_lt_of_le (PySem.Flt.log2_lt_of (by decide) h2) (by decide)
theorem bag_ok (ns : List Int) (hl : ns.length ≤ 63) : wp (r_law_bag [.scr (ns.map W.int)] []) (fun w s => w = .ref 0 ∧ Bg 0 s) NoE := by
  simp only [r_law_bag, m_law_bag]
  simp only [ws_seq, ws_if, ws_set, ws_sub, ws_ret, ws_retN, ws_expr, ws_sNx, ws_for, wp_op, wp_var0, wp_varS, wp_c, wp_mB, wp_toB, wp_tr, wp_trB_bl, wp_trB_non, wp_trB_int, wp_not, wp_and, wp_or, wp_if, wp_mBl, wp_nil, wp_cons, wp_tup, wp_lst, wp_lstS, wp_newL_t, wp_newL_f, wp_chain, wp_call, wp_fn, wp_sl, wp_noPart, wp_part, wp_comp, wp_yes, wp_iL, wp_iA, wp_srcL, wp_srcS, wp_srcAL, wp_srcAT, wp_iR1, wp_iR2, wp_rng1, wp_rng2, wp_iRv, wp_srcRL, wp_srcRT, wp_iEA, wp_srcEL, wp_srcET, wp_add, wp_sub, wp_mul, wp_mod, wp_div, wp_divW, wp_pow18, wp_pow17, wp_pow16, wp_pow30, wp_eqI, wp_neI, wp_cmpI, wp_isN, wp_isNotN, wp_lenL, wp_lenT, wp_abs, wp_int, wp_min2, wp_max2, wp_listL, wp_listT, wp_tupleL, wp_tupleT, wp_ixT0, wp_ixT1, wp_ixL0, wp_neg, wp_ok, wp_srcEL, wp_isB, wp_isNotB, wp_eqB, wp_neB, wp_all, wp_any, wp_slT, wp_slL, wp_rev, wp_revT, wp_revL, wp_disp, wp_pair, wp_pair0, wp_dict0, wipeW, List.foldl_cons, List.foldl_nil, wp_run, List.map, List.length, List.replicate, List.cons_append, List.nil_append, List.append_nil, List.set_cons_zero, List.set_cons_succ, if_true, if_false, Bool.not_true, Bool.not_false, Bool.true_eq_false, Bool.false_eq_true, Nat.reduceAdd, Nat.reduceSub, gName', wp_cut63]
  refine compS_fix (fun i acc s => s = [] ∧ acc.length = i ∧ ∃ cs : List Int, acc = cs.map W.int) ⟨rfl, rfl, [], rfl⟩ (by simp [sizeLine]; omega) (fun i acc s z => by omega) (fun i w e acc s z => ?_) (fun acc s z => ?_)
  · obtain ⟨rfl, rfl, cs, rfl⟩ := z
    have e' : ∃ c : Int, w = .int c := by
      rw [List.getElem?_take] at e
      split at e
      · rw [List.getElem?_map] at e
        cases q : ns[(cs.map W.int).length]? with
        | none => rw [q] at e; simp at e
        | some c => rw [q] at e; simp at e; exact ⟨c, e.symm⟩
      · simp at e
    obtain ⟨c, rfl⟩ := e'
    refine ⟨_, rfl, ?_⟩
    simp only [ws_seq, ws_if, ws_set, ws_sub, ws_ret, ws_retN, ws_expr, ws_sNx, ws_for, wp_op, wp_var0, wp_varS, wp_c, wp_mB, wp_toB, wp_tr, wp_trB_bl, wp_trB_non, wp_trB_int, wp_not, wp_and, wp_or, wp_if, wp_mBl, wp_nil, wp_cons, wp_tup, wp_lst, wp_lstS, wp_newL_t, wp_newL_f, wp_chain, wp_call, wp_fn, wp_sl, wp_noPart, wp_part, wp_comp, wp_yes, wp_iL, wp_iA, wp_srcL, wp_srcS, wp_srcAL, wp_srcAT, wp_iR1, wp_iR2, wp_rng1, wp_rng2, wp_iRv, wp_srcRL, wp_srcRT, wp_iEA, wp_srcEL, wp_srcET, wp_add, wp_sub, wp_mul, wp_mod, wp_div, wp_divW, wp_pow18, wp_pow17, wp_pow16, wp_pow30, wp_eqI, wp_neI, wp_cmpI, wp_isN, wp_isNotN, wp_lenL, wp_lenT, wp_abs, wp_int, wp_min2, wp_max2, wp_listL, wp_listT, wp_tupleL, wp_tupleT, wp_ixT0, wp_ixT1, wp_ixL0, wp_neg, wp_ok, wp_srcEL, wp_isB, wp_isNotB, wp_eqB, wp_neB, wp_all, wp_any, wp_slT, wp_slL, wp_rev, wp_revT, wp_revL, wp_disp, wp_pair, wp_pair0, wp_dict0, wipeW, List.foldl_cons, List.foldl_nil, wp_run, List.map, List.length, List.replicate, List.cons_append, List.nil_append, List.append_nil, List.set_cons_zero, List.set_cons_succ, if_true, if_false, Bool.not_true, Bool.not_false, Bool.true_eq_false, Bool.false_eq_true, Nat.reduceAdd, Nat.reduceSub, gName']
    exact ⟨by trivial, by simp, cs ++ [c], by simp⟩
  · obtain ⟨rfl, _, cs, rfl⟩ := z
    exact ⟨rfl, cs, 0, 0, 0, rfl⟩
end Lw
namespace Lw
open PySem L2 Mi
abbrev Vn := Int × Option Int
def mW : Option Int → W
  | none => .non
  | some x => .int x
def vW (v : Vn) : W := .tup [.int v.1, mW v.2]
def oW : Option Vn → W
  | none => .non
  | some v => vW v
def mD : Option Int → PyData
  | none => .none
  | some x => .int x
def vD (v : Vn) : PyData := .tuple [.int v.1, mD v.2]
def oD : Option Vn → PyData
  | none => .none
  | some v => vD v
theorem toD_v (st : Sto) (v : Vn) : toD st (vW v) = some (vD v) := by
  obtain ⟨c, m⟩ := v
  cases m <;> rfl
theorem toD_o (st : Sto) (o : Option Vn) : toD st (oW o) = some (oD o) := by
  cases o with
  | none => rfl
  | some v => exact toD_v st v
theorem toDs_o (st : Sto) : ∀ os : List (Option Vn), toDs st (os.map oW) = some (os.map oD)
  | [] => rfl
  | o :: os => by simp only [List.map_cons, toDs, toD_o, toDs_o st os]
theorem toDs_v (st : Sto) : ∀ os : List Vn, toDs st (os.map vW) = some (os.map vD)
  | [] => rfl
  | o :: os => by simp only [List.map_cons, toDs, toD_v, toDs_v st os]
theorem toD_os (st : Sto) (os : List (Option Vn)) : toD st (.lst (os.map oW)) = some (.list (os.map oD)) := by
  simp only [toD, toDs_o, Option.map_some]
theorem toD_vs (st : Sto) (os : List Vn) : toD st (.lst (os.map vW)) = some (.list (os.map vD)) := by
  simp only [toD, toDs_v, Option.map_some]
theorem lay_m (m : Option Int) : (mD m).canLay0 = true := by cases m <;> simp [mD, PyData.canLay0]
theorem dep_m (m : Option Int) : (mD m).depth ≤ 1 := by cases m <;> simp [mD, PyData.depth]
theorem lay_v (v : Vn) : (vD v).canLay0 = true := by simp [vD, PyData.canLay0, PyData.canLayAll0, lay_m]
theorem dep_v (v : Vn) : (vD v).depth ≤ 2 := by
  have := dep_m v.2
  simp only [vD, PyData.depth, PyData.depthAll]; omega
theorem lay_o (v : Option Vn) : (oD v).canLay0 = true := by
  cases v with
  | none => simp [oD, PyData.canLay0]
  | some v => exact lay_v v
theorem dep_o (v : Option Vn) : (oD v).depth ≤ 2 := by
  cases v with
  | none => simp [oD, PyData.depth]
  | some v => exact dep_v v
theorem lay_os : ∀ os : List (Option Vn), PyData.canLayAll0 (os.map oD) = true
  | [] => by simp [PyData.canLayAll0]
  | o :: os => by simp [PyData.canLayAll0, lay_o, lay_os os]
theorem dep_os : ∀ os : List (Option Vn), PyData.depthAll (os.map oD) ≤ 2
  | [] => by simp [PyData.depthAll]
  | o :: os => by
    have h1 := dep_os os
    have h2 := dep_o o
    simp only [List.map_cons, PyData.depthAll]
    omega
theorem sh_v (v : Vn) : SeqAt.shaped (vD v) = true := by
  have := dep_v v
  show ((vD v).canLay0 && decide ((vD v).depth ≤ 64)) = true
  rw [lay_v, Bool.true_and]
  exact decide_eq_true (by omega)
theorem sh_os (os : List (Option Vn)) : SeqAt.shaped (.list (os.map oD)) = true := by
  have h1 := dep_os os
  have h2 : PyData.depth (.list (os.map oD)) ≤ 64 := by simp only [PyData.depth]; omega
  show (PyData.canLay0 (.list (os.map oD)) && decide (PyData.depth (.list (os.map oD)) ≤ 64)) = true
  rw [Bool.and_eq_true]
  exact ⟨by simp only [PyData.canLay0]; exact lay_os os, decide_eq_true h2⟩
theorem sh_vs (os : List Vn) : SeqAt.shaped (.list (os.map vD)) = true := by
  have := sh_os (os.map some)
  rw [List.map_map] at this
  exact this
theorem eqv_m (a b : Option Int) : PyData.eqv (mD a) (mD b) = decide (a = b) := by
  cases a <;> cases b <;> simp [mD, PyData.eqv]
  exact Bool.beq_eq_decide_eq ..
theorem eqv_v (a b : Vn) : PyData.eqv (vD a) (vD b) = decide (a = b) := by
  obtain ⟨c, m⟩ := a
  obtain ⟨d, n⟩ := b
  simp only [vD, PyData.eqv, PyData.eqvAll, eqv_m]
  by_cases h : c = d
  · by_cases k : m = n
    · simp [h, k]
    · simp [h, k]
  · simp [h]
theorem eqv_o (a : Option Vn) (b : Vn) : PyData.eqv (oD a) (vD b) = decide (a = some b) := by
  cases a with
  | none => simp [oD, vD, PyData.eqv]
  | some v => simp [oD, eqv_v]
theorem eqv_vs : ∀ a b : List Vn, PyData.eqvAll (a.map vD) (b.map vD) = decide (a = b)
  | [], [] => by simp [PyData.eqvAll]
  | [], b :: bs => by simp [PyData.eqvAll]
  | a :: as, [] => by simp [PyData.eqvAll]
  | a :: as, b :: bs => by
    simp only [List.map_cons, PyData.eqvAll, eqv_v, eqv_vs as bs]
    by_cases h : a = b
    · by_cases k : as = bs
      · simp [h, k]
      · simp [h, k]
    · simp [h]
section
variable {P : W → Sto → Prop} {E : Xc → Sto → Prop} {st : Sto}
theorem wp_inD {v : Vn} {os : List (Option Vn)} : wp (wInD false (vW v) (.lst (os.map oW)) st) P E ↔ P (.bl (decide (some v ∈ os))) st := by
  have e : (os.map oD).any (fun z => PyData.eqv z (vD v)) = decide (some v ∈ os) := by
    rw [List.any_map]
    induction os with
    | nil => simp
    | cons o os ih =>
      rw [List.any_cons, ih]
      simp only [Function.comp, eqv_o, List.mem_cons, Bool.decide_or]
      congr 1
      by_cases h : o = some v
      · simp [h]
      · have : ¬ some v = o := fun z => h z.symm
        simp [h, this]
  have : wInD false (vW v) (.lst (os.map oW)) st = .ok (.bl (decide (some v ∈ os))) st := by
    simp only [wInD, toD_v, toD_os, sh_v, sh_os, Bool.and_self, if_true, Bool.false_eq_true, if_false, e]
  rw [this]; exact Iff.rfl
theorem scal_lst {vs : List Vn} : scalV (.lst (vs.map vW)) = none := rfl
theorem wp_neV {a b : List Vn} : wp (wNe (.lst (a.map vW)) (.lst (b.map vW)) st) P E ↔ P (.bl (!decide (a = b))) st := by
  have : wNe (.lst (a.map vW)) (.lst (b.map vW)) st = .ok (.bl (!decide (a = b))) st := by
    simp only [wNe, eqW, scal_lst, toD_vs, sh_vs, Bool.and_self, if_true, PyData.eqv, eqv_vs]
  rw [this]; exact Iff.rfl
theorem wp_vc {v : Vn} : wp (wIx (vW v) (.int 0) st) P E ↔ P (.int v.1) st := wp_ixT0
theorem wp_vm {v : Vn} : wp (wIx (vW v) (.int 1) st) P E ↔ P (mW v.2) st := wp_ixT1
theorem non_m {m : Option Int} : Mi.isNon (mW m) = decide (m = none) := by cases m <;> simp [mW, Mi.isNon]
/-! in, of whole numbers -/
theorem scalVs_i : ∀ ns : List Int, scalVs (ns.map W.int) = some (ns.map V.int)
  | [] => rfl
  | n :: ns => by simp only [List.map_cons, scalVs, scalV, scalVs_i ns]
theorem inV_i (x : Int) (ns : List Int) : inV (.int x) (ns.map V.int) = decide (x ∈ ns) := by
  unfold inV
  rw [List.any_map]
  induction ns with
  | nil => simp
  | cons n ns ih =>
    rw [List.any_cons, ih]
    simp only [Function.comp, eqV, List.mem_cons, Bool.decide_or]
    congr 1
    by_cases h : n = x
    · simp [h]
    · have : ¬ x = n := fun z => h z.symm
      simp [h, this]
theorem wp_inL {neg : Bool} {x : Int} {ns : List Int} : wp (wIn neg (.int x) (.lst (ns.map W.int)) st) P E ↔ P (.bl (if neg = true then !decide (x ∈ ns) else decide (x ∈ ns))) st := by
  have : wIn neg (.int x) (.lst (ns.map W.int)) st = .ok (.bl (if neg = true then !decide (x ∈ ns) else decide (x ∈ ns))) st := by
    simp only [wIn, inW, scalV, tupL, seqL, scalVs_i, inV_i]
  rw [this]; exact Iff.rfl
theorem wp_inT {neg : Bool} {x : Int} {ns : List Int} : wp (wIn neg (.int x) (.tup (ns.map W.int)) st) P E ↔ P (.bl (if neg = true then !decide (x ∈ ns) else decide (x ∈ ns))) st := by
  have : wIn neg (.int x) (.tup (ns.map W.int)) st = .ok (.bl (if neg = true then !decide (x ∈ ns) else decide (x ∈ ns))) st := by
    simp only [wIn, inW, scalV, tupL, seqL, scalVs_i, inV_i]
  rw [this]; exact Iff.rfl
theorem wp_inR {neg : Bool} {x : Int} {ns : List Int} {p : Nat} (e : st[p]? = some (.lst (ns.map W.int))) : wp (wIn neg (.int x) (.ref p) st) P E ↔ P (.bl (if neg = true then !decide (x ∈ ns) else decide (x ∈ ns))) st := by
  have : wIn neg (.int x) (.ref p) st = .ok (.bl (if neg = true then !decide (x ∈ ns) else decide (x ∈ ns))) st := by
    simp only [wIn, inW, scalV, tupL, seqL, e, scalVs_i, inV_i]
  rw [this]; exact Iff.rfl
theorem ints_i : ∀ ns : List Int, intsOf (ns.map W.int) = some ns
  | [] => rfl
  | n :: ns => by simp only [List.map_cons, intsOf, ints_i ns, Option.map_some]
theorem wp_sortL {ns : List Int} : wp (fSorted true [.lst (ns.map W.int)] st) P E ↔ P (.lst ((sortZ ns).map W.int)) st := by
  have : fSorted true [.lst (ns.map W.int)] st = .ok (.lst ((sortZ ns).map W.int)) st := by
    simp only [fSorted, seqL, ints_i, newL, if_true]
  rw [this]; exact Iff.rfl
theorem wp_sortR {ns : List Int} {p : Nat} (e : st[p]? = some (.lst (ns.map W.int))) : wp (fSorted true [.ref p] st) P E ↔ P (.lst ((sortZ ns).map W.int)) st := by
  have : fSorted true [.ref p] st = .ok (.lst ((sortZ ns).map W.int)) st := by
    simp only [fSorted, seqL, e, ints_i, newL, if_true]
  rw [this]; exact Iff.rfl
/-! isinstance -/
theorem wp_isi {w : W} {n t : String} {b : Bool} (e : tyOf st w = some t) (k : kitB t n = some b) : wp (fIsi x_own [w, .ty n] st) P E ↔ P (.bl b) st := by
  have : fIsi x_own [w, .ty n] st = .ok (.bl b) st := by simp only [fIsi, e, k]
  rw [this]; exact Iff.rfl
theorem wp_isiI {i : Int} : wp (fIsi x_own [.int i, .ty "int"] st) P E ↔ P (.bl true) st := wp_isi rfl (by decide +kernel)
theorem wp_isiB {i : Int} : wp (fIsi x_own [.int i, .ty "bool"] st) P E ↔ P (.bl false) st := wp_isi rfl (by decide +kernel)
theorem wp_isiT {xs : List W} : wp (fIsi x_own [.tup xs, .ty "tuple"] st) P E ↔ P (.bl true) st := wp_isi rfl (by decide +kernel)
theorem wp_isiV {v : Vn} : wp (fIsi x_own [vW v, .ty "tuple"] st) P E ↔ P (.bl true) st := wp_isi rfl (by decide +kernel)
end
theorem sort_perm (ns : List Int) : (sortZ ns).Perm ns := List.mergeSort_perm ..
theorem sort_asc {ns : List Int} (h : ns.Nodup) : (sortZ ns).Pairwise (· < ·) := by
  have h1 : (sortZ ns).Pairwise (fun a b => decide (a ≤ b) = true) := List.pairwise_mergeSort (fun a b c h1 h2 => by simp at *; omega) (fun a b => by simp; omega) ns
  have h2 : (sortZ ns).Nodup := (sort_perm ns).nodup_iff.mpr h
  refine (List.Pairwise.and h1 h2).imp fun {a b} z => ?_
  obtain ⟨z1, z2⟩ := z
  have z1 : a ≤ b := of_decide_eq_true z1
  omega
def MarkO (m : Option Int) : Prop := ∀ x, m = some x → -1000000000000000000 ≤ x ∧ x ≤ 1000000000000000000
def Desc (vs : List Vn) : Prop := vs.Pairwise (fun a b => b.1 < a.1)
structure Good (vs : List Vn) : Prop where
  desc : Desc vs
  ok : ∀ v ∈ vs, 1 ≤ v.1 ∧ v.1 ≤ 1000000000000000000 ∧ MarkO v.2
  few : vs.length ≤ 40
theorem small62_lit {i : Int} (a : 0 ≤ i) (b : i < 4611686018427387904) : Mi.small62 i = true := by
  simp only [Mi.small62, decide_eq_true_eq]; omega
theorem getv {vs : List Vn} {i : Nat} {v : Vn} (e : vs[i]? = some v) : (vs.map vW)[i]? = some (vW v) := by rw [List.getElem?_map, e]; rfl
/-- what was drawn as a lot -/
structure Lot (ns : List Int) (last : Int) : Prop where
  asc : ns.Pairwise (· < ·)
  ok : ∀ n ∈ ns, 0 ≤ n ∧ n ≤ last
  few : ns.length ≤ 40
end Lw
namespace Lw
open PySem L2 Mi
/-! the program -/
section
variable {E : Xc → Sto → Prop} {st : Sto}
theorem int_ok {i : Int} : wp (r_is_integer [.int i] st) (fun w s => w = .bl true ∧ s = st) E := by
  simp only [r_is_integer, m_is_integer]
  simp only [ws_seq, ws_if, ws_set, ws_sub, ws_ret, ws_retN, ws_expr, ws_sNx, ws_for, wp_op, wp_var0, wp_varS, wp_c, wp_mB, wp_toB, wp_tr, wp_trB_bl, wp_trB_non, wp_trB_int, wp_not, wp_and, wp_or, wp_if, wp_mBl, wp_nil, wp_cons, wp_tup, wp_lst, wp_lstS, wp_newL_t, wp_newL_f, wp_chain, wp_call, wp_fn, wp_sl, wp_noPart, wp_part, wp_comp, wp_yes, wp_iL, wp_iA, wp_srcL, wp_srcS, wp_srcAL, wp_srcAT, wp_iR1, wp_iR2, wp_rng1, wp_rng2, wp_iRv, wp_srcRL, wp_srcRT, wp_iEA, wp_srcEL, wp_srcET, wp_add, wp_sub, wp_mul, wp_mod, wp_div, wp_divW, wp_pow18, wp_pow17, wp_pow16, wp_pow30, wp_eqI, wp_neI, wp_cmpI, wp_isN, wp_isNotN, wp_lenL, wp_lenT, wp_abs, wp_int, wp_min2, wp_max2, wp_listL, wp_listT, wp_tupleL, wp_tupleT, wp_ixT0, wp_ixT1, wp_ixL0, wp_neg, wp_ok, wp_srcEL, wp_isB, wp_isNotB, wp_eqB, wp_neB, wp_all, wp_any, wp_slT, wp_slL, wp_rev, wp_revT, wp_revL, wp_disp, wp_pair, wp_pair0, wp_dict0, wipeW, List.foldl_cons, List.foldl_nil, wp_run, List.map, List.length, List.replicate, List.cons_append, List.nil_append, List.append_nil, List.set_cons_zero, List.set_cons_succ, if_true, if_false, Bool.not_true, Bool.not_false, Bool.true_eq_false, Bool.false_eq_true, Nat.reduceAdd, Nat.reduceSub, gName', wp_isiI, wp_isiB]
  simp
theorem within_ok {a b i : Int} : wp (r_is_within [.int a, .int b, .int i] st) (fun w s => w = .bl (decide (a ≤ i) && decide (i ≤ b)) ∧ s = st) E := by
  simp only [r_is_within, m_is_within]
  simp only [ws_seq, ws_if, ws_set, ws_sub, ws_ret, ws_retN, ws_expr, ws_sNx, ws_for, wp_op, wp_var0, wp_varS, wp_c, wp_mB, wp_toB, wp_tr, wp_trB_bl, wp_trB_non, wp_trB_int, wp_not, wp_and, wp_or, wp_if, wp_mBl, wp_nil, wp_cons, wp_tup, wp_lst, wp_lstS, wp_newL_t, wp_newL_f, wp_chain, wp_call, wp_fn, wp_sl, wp_noPart, wp_part, wp_comp, wp_yes, wp_iL, wp_iA, wp_srcL, wp_srcS, wp_srcAL, wp_srcAT, wp_iR1, wp_iR2, wp_rng1, wp_rng2, wp_iRv, wp_srcRL, wp_srcRT, wp_iEA, wp_srcEL, wp_srcET, wp_add, wp_sub, wp_mul, wp_mod, wp_div, wp_divW, wp_pow18, wp_pow17, wp_pow16, wp_pow30, wp_eqI, wp_neI, wp_cmpI, wp_isN, wp_isNotN, wp_lenL, wp_lenT, wp_abs, wp_int, wp_min2, wp_max2, wp_listL, wp_listT, wp_tupleL, wp_tupleT, wp_ixT0, wp_ixT1, wp_ixL0, wp_neg, wp_ok, wp_srcEL, wp_isB, wp_isNotB, wp_eqB, wp_neB, wp_all, wp_any, wp_slT, wp_slL, wp_rev, wp_revT, wp_revL, wp_disp, wp_pair, wp_pair0, wp_dict0, wipeW, List.foldl_cons, List.foldl_nil, wp_run, List.map, List.length, List.replicate, List.cons_append, List.nil_append, List.append_nil, List.set_cons_zero, List.set_cons_succ, if_true, if_false, Bool.not_true, Bool.not_false, Bool.true_eq_false, Bool.false_eq_true, Nat.reduceAdd, Nat.reduceSub, gName']
  refine wp_mono int_ok ?_ (fun _ _ z => z)
  rintro _ s ⟨rfl, rfl⟩
  simp only [ws_seq, ws_if, ws_set, ws_sub, ws_ret, ws_retN, ws_expr, ws_sNx, ws_for, wp_op, wp_var0, wp_varS, wp_c, wp_mB, wp_toB, wp_tr, wp_trB_bl, wp_trB_non, wp_trB_int, wp_not, wp_and, wp_or, wp_if, wp_mBl, wp_nil, wp_cons, wp_tup, wp_lst, wp_lstS, wp_newL_t, wp_newL_f, wp_chain, wp_call, wp_fn, wp_sl, wp_noPart, wp_part, wp_comp, wp_yes, wp_iL, wp_iA, wp_srcL, wp_srcS, wp_srcAL, wp_srcAT, wp_iR1, wp_iR2, wp_rng1, wp_rng2, wp_iRv, wp_srcRL, wp_srcRT, wp_iEA, wp_srcEL, wp_srcET, wp_add, wp_sub, wp_mul, wp_mod, wp_div, wp_divW, wp_pow18, wp_pow17, wp_pow16, wp_pow30, wp_eqI, wp_neI, wp_cmpI, wp_isN, wp_isNotN, wp_lenL, wp_lenT, wp_abs, wp_int, wp_min2, wp_max2, wp_listL, wp_listT, wp_tupleL, wp_tupleT, wp_ixT0, wp_ixT1, wp_ixL0, wp_neg, wp_ok, wp_srcEL, wp_isB, wp_isNotB, wp_eqB, wp_neB, wp_all, wp_any, wp_slT, wp_slL, wp_rev, wp_revT, wp_revL, wp_disp, wp_pair, wp_pair0, wp_dict0, wipeW, List.foldl_cons, List.foldl_nil, wp_run, List.map, List.length, List.replicate, List.cons_append, List.nil_append, List.append_nil, List.set_cons_zero, List.set_cons_succ, if_true, if_false, Bool.not_true, Bool.not_false, Bool.true_eq_false, Bool.false_eq_true, Nat.reduceAdd, Nat.reduceSub, gName']
  by_cases h : a ≤ i
  · simp only [h, decide_true, if_true, Bool.true_and, wp_toB, and_self]
  · simp only [h, decide_false, Bool.false_eq_true, if_false, Bool.false_and, wp_toB, and_self]
theorem wp_eq {α : Type} {a : α} {r : Rs α} {s0 : Sto} {P : α → Sto → Prop} {E : Xc → Sto → Prop} (h : wp r (fun w s => w = a ∧ s = s0) NoE) (p : P a s0) : wp r P E := wp_no h fun w s z => by rw [z.1, z.2]; exact p
theorem version_ok {v : Vn} {E : Xc → Sto → Prop} (h : 1 ≤ v.1 ∧ v.1 ≤ 1000000000000000000 ∧ MarkO v.2) : wp (r_is_version [vW v] st) (fun w s => w = .bl true ∧ s = st) E := by
  simp only [r_is_version, m_is_version]
  simp only [ws_seq, ws_if, ws_set, ws_sub, ws_ret, ws_retN, ws_expr, ws_sNx, ws_for, wp_op, wp_var0, wp_varS, wp_c, wp_mB, wp_toB, wp_tr, wp_trB_bl, wp_trB_non, wp_trB_int, wp_not, wp_and, wp_or, wp_if, wp_mBl, wp_nil, wp_cons, wp_tup, wp_lst, wp_lstS, wp_newL_t, wp_newL_f, wp_chain, wp_call, wp_fn, wp_sl, wp_noPart, wp_part, wp_comp, wp_yes, wp_iL, wp_iA, wp_srcL, wp_srcS, wp_srcAL, wp_srcAT, wp_iR1, wp_iR2, wp_rng1, wp_rng2, wp_iRv, wp_srcRL, wp_srcRT, wp_iEA, wp_srcEL, wp_srcET, wp_add, wp_sub, wp_mul, wp_mod, wp_div, wp_divW, wp_pow18, wp_pow17, wp_pow16, wp_pow30, wp_eqI, wp_neI, wp_cmpI, wp_isN, wp_isNotN, wp_lenL, wp_lenT, wp_abs, wp_int, wp_min2, wp_max2, wp_listL, wp_listT, wp_tupleL, wp_tupleT, wp_ixT0, wp_ixT1, wp_ixL0, wp_neg, wp_ok, wp_srcEL, wp_isB, wp_isNotB, wp_eqB, wp_neB, wp_all, wp_any, wp_slT, wp_slL, wp_rev, wp_revT, wp_revL, wp_disp, wp_pair, wp_pair0, wp_dict0, wipeW, List.foldl_cons, List.foldl_nil, wp_run, List.map, List.length, List.replicate, List.cons_append, List.nil_append, List.append_nil, List.set_cons_zero, List.set_cons_succ, if_true, if_false, Bool.not_true, Bool.not_false, Bool.true_eq_false, Bool.false_eq_true, Nat.reduceAdd, Nat.reduceSub, gName']
  have t1 : wp (r_is_tuple [.int 2, vW v] st) (fun w s => w = .bl true ∧ s = st) NoE := by
    simp only [r_is_tuple, m_is_tuple]
    simp only [ws_seq, ws_if, ws_set, ws_sub, ws_ret, ws_retN, ws_expr, ws_sNx, ws_for, wp_op, wp_var0, wp_varS, wp_c, wp_mB, wp_toB, wp_tr, wp_trB_bl, wp_trB_non, wp_trB_int, wp_not, wp_and, wp_or, wp_if, wp_mBl, wp_nil, wp_cons, wp_tup, wp_lst, wp_lstS, wp_newL_t, wp_newL_f, wp_chain, wp_call, wp_fn, wp_sl, wp_noPart, wp_part, wp_comp, wp_yes, wp_iL, wp_iA, wp_srcL, wp_srcS, wp_srcAL, wp_srcAT, wp_iR1, wp_iR2, wp_rng1, wp_rng2, wp_iRv, wp_srcRL, wp_srcRT, wp_iEA, wp_srcEL, wp_srcET, wp_add, wp_sub, wp_mul, wp_mod, wp_div, wp_divW, wp_pow18, wp_pow17, wp_pow16, wp_pow30, wp_eqI, wp_neI, wp_cmpI, wp_isN, wp_isNotN, wp_lenL, wp_lenT, wp_abs, wp_int, wp_min2, wp_max2, wp_listL, wp_listT, wp_tupleL, wp_tupleT, wp_ixT0, wp_ixT1, wp_ixL0, wp_neg, wp_ok, wp_srcEL, wp_isB, wp_isNotB, wp_eqB, wp_neB, wp_all, wp_any, wp_slT, wp_slL, wp_rev, wp_revT, wp_revL, wp_disp, wp_pair, wp_pair0, wp_dict0, wipeW, List.foldl_cons, List.foldl_nil, wp_run, List.map, List.length, List.replicate, List.cons_append, List.nil_append, List.append_nil, List.set_cons_zero, List.set_cons_succ, if_true, if_false, Bool.not_true, Bool.not_false, Bool.true_eq_false, Bool.false_eq_true, Nat.reduceAdd, Nat.reduceSub, gName', wp_isiV]
    show wp (fLen [.tup _] st) _ _
    simp only [ws_seq, ws_if, ws_set, ws_sub, ws_ret, ws_retN, ws_expr, ws_sNx, ws_for, wp_op, wp_var0, wp_varS, wp_c, wp_mB, wp_toB, wp_tr, wp_trB_bl, wp_trB_non, wp_trB_int, wp_not, wp_and, wp_or, wp_if, wp_mBl, wp_nil, wp_cons, wp_tup, wp_lst, wp_lstS, wp_newL_t, wp_newL_f, wp_chain, wp_call, wp_fn, wp_sl, wp_noPart, wp_part, wp_comp, wp_yes, wp_iL, wp_iA, wp_srcL, wp_srcS, wp_srcAL, wp_srcAT, wp_iR1, wp_iR2, wp_rng1, wp_rng2, wp_iRv, wp_srcRL, wp_srcRT, wp_iEA, wp_srcEL, wp_srcET, wp_add, wp_sub, wp_mul, wp_mod, wp_div, wp_divW, wp_pow18, wp_pow17, wp_pow16, wp_pow30, wp_eqI, wp_neI, wp_cmpI, wp_isN, wp_isNotN, wp_lenL, wp_lenT, wp_abs, wp_int, wp_min2, wp_max2, wp_listL, wp_listT, wp_tupleL, wp_tupleT, wp_ixT0, wp_ixT1, wp_ixL0, wp_neg, wp_ok, wp_srcEL, wp_isB, wp_isNotB, wp_eqB, wp_neB, wp_all, wp_any, wp_slT, wp_slL, wp_rev, wp_revT, wp_revL, wp_disp, wp_pair, wp_pair0, wp_dict0, wipeW, List.foldl_cons, List.foldl_nil, wp_run, List.map, List.length, List.replicate, List.cons_append, List.nil_append, List.append_nil, List.set_cons_zero, List.set_cons_succ, if_true, if_false, Bool.not_true, Bool.not_false, Bool.true_eq_false, Bool.false_eq_true, Nat.reduceAdd, Nat.reduceSub, gName']
    simp
  refine wp_eq t1 ?_
  simp only [ws_seq, ws_if, ws_set, ws_sub, ws_ret, ws_retN, ws_expr, ws_sNx, ws_for, wp_op, wp_var0, wp_varS, wp_c, wp_mB, wp_toB, wp_tr, wp_trB_bl, wp_trB_non, wp_trB_int, wp_not, wp_and, wp_or, wp_if, wp_mBl, wp_nil, wp_cons, wp_tup, wp_lst, wp_lstS, wp_newL_t, wp_newL_f, wp_chain, wp_call, wp_fn, wp_sl, wp_noPart, wp_part, wp_comp, wp_yes, wp_iL, wp_iA, wp_srcL, wp_srcS, wp_srcAL, wp_srcAT, wp_iR1, wp_iR2, wp_rng1, wp_rng2, wp_iRv, wp_srcRL, wp_srcRT, wp_iEA, wp_srcEL, wp_srcET, wp_add, wp_sub, wp_mul, wp_mod, wp_div, wp_divW, wp_pow18, wp_pow17, wp_pow16, wp_pow30, wp_eqI, wp_neI, wp_cmpI, wp_isN, wp_isNotN, wp_lenL, wp_lenT, wp_abs, wp_int, wp_min2, wp_max2, wp_listL, wp_listT, wp_tupleL, wp_tupleT, wp_ixT0, wp_ixT1, wp_ixL0, wp_neg, wp_ok, wp_srcEL, wp_isB, wp_isNotB, wp_eqB, wp_neB, wp_all, wp_any, wp_slT, wp_slL, wp_rev, wp_revT, wp_revL, wp_disp, wp_pair, wp_pair0, wp_dict0, wipeW, List.foldl_cons, List.foldl_nil, wp_run, List.map, List.length, List.replicate, List.cons_append, List.nil_append, List.append_nil, List.set_cons_zero, List.set_cons_succ, if_true, if_false, Bool.not_true, Bool.not_false, Bool.true_eq_false, Bool.false_eq_true, Nat.reduceAdd, Nat.reduceSub, gName', wp_vc]
  have t2 : wp (r_is_commit [.int v.1] st) (fun w s => w = .bl true ∧ s = st) NoE := by
    simp only [r_is_commit, m_is_commit]
    simp only [ws_seq, ws_if, ws_set, ws_sub, ws_ret, ws_retN, ws_expr, ws_sNx, ws_for, wp_op, wp_var0, wp_varS, wp_c, wp_mB, wp_toB, wp_tr, wp_trB_bl, wp_trB_non, wp_trB_int, wp_not, wp_and, wp_or, wp_if, wp_mBl, wp_nil, wp_cons, wp_tup, wp_lst, wp_lstS, wp_newL_t, wp_newL_f, wp_chain, wp_call, wp_fn, wp_sl, wp_noPart, wp_part, wp_comp, wp_yes, wp_iL, wp_iA, wp_srcL, wp_srcS, wp_srcAL, wp_srcAT, wp_iR1, wp_iR2, wp_rng1, wp_rng2, wp_iRv, wp_srcRL, wp_srcRT, wp_iEA, wp_srcEL, wp_srcET, wp_add, wp_sub, wp_mul, wp_mod, wp_div, wp_divW, wp_pow18, wp_pow17, wp_pow16, wp_pow30, wp_eqI, wp_neI, wp_cmpI, wp_isN, wp_isNotN, wp_lenL, wp_lenT, wp_abs, wp_int, wp_min2, wp_max2, wp_listL, wp_listT, wp_tupleL, wp_tupleT, wp_ixT0, wp_ixT1, wp_ixL0, wp_neg, wp_ok, wp_srcEL, wp_isB, wp_isNotB, wp_eqB, wp_neB, wp_all, wp_any, wp_slT, wp_slL, wp_rev, wp_revT, wp_revL, wp_disp, wp_pair, wp_pair0, wp_dict0, wipeW, List.foldl_cons, List.foldl_nil, wp_run, List.map, List.length, List.replicate, List.cons_append, List.nil_append, List.append_nil, List.set_cons_zero, List.set_cons_succ, if_true, if_false, Bool.not_true, Bool.not_false, Bool.true_eq_false, Bool.false_eq_true, Nat.reduceAdd, Nat.reduceSub, gName']
    refine wp_eq within_ok ?_
    simp [h.1, h.2.1]
  refine wp_eq t2 ?_
  simp only [ws_seq, ws_if, ws_set, ws_sub, ws_ret, ws_retN, ws_expr, ws_sNx, ws_for, wp_op, wp_var0, wp_varS, wp_c, wp_mB, wp_toB, wp_tr, wp_trB_bl, wp_trB_non, wp_trB_int, wp_not, wp_and, wp_or, wp_if, wp_mBl, wp_nil, wp_cons, wp_tup, wp_lst, wp_lstS, wp_newL_t, wp_newL_f, wp_chain, wp_call, wp_fn, wp_sl, wp_noPart, wp_part, wp_comp, wp_yes, wp_iL, wp_iA, wp_srcL, wp_srcS, wp_srcAL, wp_srcAT, wp_iR1, wp_iR2, wp_rng1, wp_rng2, wp_iRv, wp_srcRL, wp_srcRT, wp_iEA, wp_srcEL, wp_srcET, wp_add, wp_sub, wp_mul, wp_mod, wp_div, wp_divW, wp_pow18, wp_pow17, wp_pow16, wp_pow30, wp_eqI, wp_neI, wp_cmpI, wp_isN, wp_isNotN, wp_lenL, wp_lenT, wp_abs, wp_int, wp_min2, wp_max2, wp_listL, wp_listT, wp_tupleL, wp_tupleT, wp_ixT0, wp_ixT1, wp_ixL0, wp_neg, wp_ok, wp_srcEL, wp_isB, wp_isNotB, wp_eqB, wp_neB, wp_all, wp_any, wp_slT, wp_slL, wp_rev, wp_revT, wp_revL, wp_disp, wp_pair, wp_pair0, wp_dict0, wipeW, List.foldl_cons, List.foldl_nil, wp_run, List.map, List.length, List.replicate, List.cons_append, List.nil_append, List.append_nil, List.set_cons_zero, List.set_cons_succ, if_true, if_false, Bool.not_true, Bool.not_false, Bool.true_eq_false, Bool.false_eq_true, Nat.reduceAdd, Nat.reduceSub, gName', wp_vm]
  have t3 : wp (r_is_mark [mW v.2] st) (fun w s => w = .bl true ∧ s = st) NoE := by
    simp only [r_is_mark, m_is_mark]
    simp only [ws_seq, ws_if, ws_set, ws_sub, ws_ret, ws_retN, ws_expr, ws_sNx, ws_for, wp_op, wp_var0, wp_varS, wp_c, wp_mB, wp_toB, wp_tr, wp_trB_bl, wp_trB_non, wp_trB_int, wp_not, wp_and, wp_or, wp_if, wp_mBl, wp_nil, wp_cons, wp_tup, wp_lst, wp_lstS, wp_newL_t, wp_newL_f, wp_chain, wp_call, wp_fn, wp_sl, wp_noPart, wp_part, wp_comp, wp_yes, wp_iL, wp_iA, wp_srcL, wp_srcS, wp_srcAL, wp_srcAT, wp_iR1, wp_iR2, wp_rng1, wp_rng2, wp_iRv, wp_srcRL, wp_srcRT, wp_iEA, wp_srcEL, wp_srcET, wp_add, wp_sub, wp_mul, wp_mod, wp_div, wp_divW, wp_pow18, wp_pow17, wp_pow16, wp_pow30, wp_eqI, wp_neI, wp_cmpI, wp_isN, wp_isNotN, wp_lenL, wp_lenT, wp_abs, wp_int, wp_min2, wp_max2, wp_listL, wp_listT, wp_tupleL, wp_tupleT, wp_ixT0, wp_ixT1, wp_ixL0, wp_neg, wp_ok, wp_srcEL, wp_isB, wp_isNotB, wp_eqB, wp_neB, wp_all, wp_any, wp_slT, wp_slL, wp_rev, wp_revT, wp_revL, wp_disp, wp_pair, wp_pair0, wp_dict0, wipeW, List.foldl_cons, List.foldl_nil, wp_run, List.map, List.length, List.replicate, List.cons_append, List.nil_append, List.append_nil, List.set_cons_zero, List.set_cons_succ, if_true, if_false, Bool.not_true, Bool.not_false, Bool.true_eq_false, Bool.false_eq_true, Nat.reduceAdd, Nat.reduceSub, gName']
    cases e : v.2 with
    | none => simp [mW, Mi.isNon]
    | some x =>
      have := h.2.2 x e
      simp only [mW, Mi.isNon, Bool.false_eq_true, if_false]
      have t4 : wp (r_is_worth [.int x] st) (fun w s => w = .bl true ∧ s = st) NoE := by
        simp only [r_is_worth, m_is_worth]
        simp only [ws_seq, ws_if, ws_set, ws_sub, ws_ret, ws_retN, ws_expr, ws_sNx, ws_for, wp_op, wp_var0, wp_varS, wp_c, wp_mB, wp_toB, wp_tr, wp_trB_bl, wp_trB_non, wp_trB_int, wp_not, wp_and, wp_or, wp_if, wp_mBl, wp_nil, wp_cons, wp_tup, wp_lst, wp_lstS, wp_newL_t, wp_newL_f, wp_chain, wp_call, wp_fn, wp_sl, wp_noPart, wp_part, wp_comp, wp_yes, wp_iL, wp_iA, wp_srcL, wp_srcS, wp_srcAL, wp_srcAT, wp_iR1, wp_iR2, wp_rng1, wp_rng2, wp_iRv, wp_srcRL, wp_srcRT, wp_iEA, wp_srcEL, wp_srcET, wp_add, wp_sub, wp_mul, wp_mod, wp_div, wp_divW, wp_pow18, wp_pow17, wp_pow16, wp_pow30, wp_eqI, wp_neI, wp_cmpI, wp_isN, wp_isNotN, wp_lenL, wp_lenT, wp_abs, wp_int, wp_min2, wp_max2, wp_listL, wp_listT, wp_tupleL, wp_tupleT, wp_ixT0, wp_ixT1, wp_ixL0, wp_neg, wp_ok, wp_srcEL, wp_isB, wp_isNotB, wp_eqB, wp_neB, wp_all, wp_any, wp_slT, wp_slL, wp_rev, wp_revT, wp_revL, wp_disp, wp_pair, wp_pair0, wp_dict0, wipeW, List.foldl_cons, List.foldl_nil, wp_run, List.map, List.length, List.replicate, List.cons_append, List.nil_append, List.append_nil, List.set_cons_zero, List.set_cons_succ, if_true, if_false, Bool.not_true, Bool.not_false, Bool.true_eq_false, Bool.false_eq_true, Nat.reduceAdd, Nat.reduceSub, gName']
        refine wp_eq within_ok ?_
        simp [this.1, this.2]
      refine wp_eq t4 ?_
      simp only [ws_seq, ws_if, ws_set, ws_sub, ws_ret, ws_retN, ws_expr, ws_sNx, ws_for, wp_op, wp_var0, wp_varS, wp_c, wp_mB, wp_toB, wp_tr, wp_trB_bl, wp_trB_non, wp_trB_int, wp_not, wp_and, wp_or, wp_if, wp_mBl, wp_nil, wp_cons, wp_tup, wp_lst, wp_lstS, wp_newL_t, wp_newL_f, wp_chain, wp_call, wp_fn, wp_sl, wp_noPart, wp_part, wp_comp, wp_yes, wp_iL, wp_iA, wp_srcL, wp_srcS, wp_srcAL, wp_srcAT, wp_iR1, wp_iR2, wp_rng1, wp_rng2, wp_iRv, wp_srcRL, wp_srcRT, wp_iEA, wp_srcEL, wp_srcET, wp_add, wp_sub, wp_mul, wp_mod, wp_div, wp_divW, wp_pow18, wp_pow17, wp_pow16, wp_pow30, wp_eqI, wp_neI, wp_cmpI, wp_isN, wp_isNotN, wp_lenL, wp_lenT, wp_abs, wp_int, wp_min2, wp_max2, wp_listL, wp_listT, wp_tupleL, wp_tupleT, wp_ixT0, wp_ixT1, wp_ixL0, wp_neg, wp_ok, wp_srcEL, wp_isB, wp_isNotB, wp_eqB, wp_neB, wp_all, wp_any, wp_slT, wp_slL, wp_rev, wp_revT, wp_revL, wp_disp, wp_pair, wp_pair0, wp_dict0, wipeW, List.foldl_cons, List.foldl_nil, wp_run, List.map, List.length, List.replicate, List.cons_append, List.nil_append, List.append_nil, List.set_cons_zero, List.set_cons_succ, if_true, if_false, Bool.not_true, Bool.not_false, Bool.true_eq_false, Bool.false_eq_true, Nat.reduceAdd, Nat.reduceSub, gName']
      simp
  refine wp_eq t3 ?_
  simp only [ws_seq, ws_if, ws_set, ws_sub, ws_ret, ws_retN, ws_expr, ws_sNx, ws_for, wp_op, wp_var0, wp_varS, wp_c, wp_mB, wp_toB, wp_tr, wp_trB_bl, wp_trB_non, wp_trB_int, wp_not, wp_and, wp_or, wp_if, wp_mBl, wp_nil, wp_cons, wp_tup, wp_lst, wp_lstS, wp_newL_t, wp_newL_f, wp_chain, wp_call, wp_fn, wp_sl, wp_noPart, wp_part, wp_comp, wp_yes, wp_iL, wp_iA, wp_srcL, wp_srcS, wp_srcAL, wp_srcAT, wp_iR1, wp_iR2, wp_rng1, wp_rng2, wp_iRv, wp_srcRL, wp_srcRT, wp_iEA, wp_srcEL, wp_srcET, wp_add, wp_sub, wp_mul, wp_mod, wp_div, wp_divW, wp_pow18, wp_pow17, wp_pow16, wp_pow30, wp_eqI, wp_neI, wp_cmpI, wp_isN, wp_isNotN, wp_lenL, wp_lenT, wp_abs, wp_int, wp_min2, wp_max2, wp_listL, wp_listT, wp_tupleL, wp_tupleT, wp_ixT0, wp_ixT1, wp_ixL0, wp_neg, wp_ok, wp_srcEL, wp_isB, wp_isNotB, wp_eqB, wp_neB, wp_all, wp_any, wp_slT, wp_slL, wp_rev, wp_revT, wp_revL, wp_disp, wp_pair, wp_pair0, wp_dict0, wipeW, List.foldl_cons, List.foldl_nil, wp_run, List.map, List.length, List.replicate, List.cons_append, List.nil_append, List.append_nil, List.set_cons_zero, List.set_cons_succ, if_true, if_false, Bool.not_true, Bool.not_false, Bool.true_eq_false, Bool.false_eq_true, Nat.reduceAdd, Nat.reduceSub, gName']
  simp
/-- as a list or as a tuple -/
def Row (w : W) (vs : List Vn) : Prop := w = .lst (vs.map vW) ∨ w = .tup (vs.map vW)
theorem isiLT {w : W} {vs : List Vn} (hw : Row w vs) {P : W → Sto → Prop} : wp (isiR ["list", "tuple"] w st) P E ↔ P (.bl true) st := by
  have k1 : kitAB "list" ["list", "tuple"] = some true := by decide +kernel
  have k2 : kitAB "tuple" ["list", "tuple"] = some true := by decide +kernel
  rcases hw with rfl | rfl
  · simp only [isiR, tyOf, k1]; exact Iff.rfl
  · simp only [isiR, tyOf, k2]; exact Iff.rfl
theorem enum_row {w : W} {vs : List Vn} (hw : Row w vs) {P : Src → Sto → Prop} : wp (srcE [w] st) P E ↔ P (fixS (enL (vs.map vW))) st := by
  rcases hw with rfl | rfl <;> exact Iff.rfl
theorem src_row {w : W} {vs : List Vn} (hw : Row w vs) {P : Src → Sto → Prop} : wp (srcA w st) P E ↔ P (fixS (vs.map vW)) st := by
  rcases hw with rfl | rfl <;> exact Iff.rfl
theorem rev_row {w : W} {vs : List Vn} (hw : Row w vs) {P : Src → Sto → Prop} : wp (srcR w st) P E ↔ P (fixS (vs.map vW).reverse) st := by
  rcases hw with rfl | rfl <;> exact Iff.rfl
theorem en_get {xs : List W} {i : Nat} {w : W} (e : (enL xs)[i]? = some w) : ∃ v, xs[i]? = some v ∧ w = .tup [.int i, v] := by
  unfold enL at e
  rw [List.getElem?_map] at e
  by_cases h : i < xs.length
  · rw [List.getElem?_eq_getElem (by simpa using h)] at e
    simp [List.getD, h] at e
    exact ⟨xs[i], by simp [h], e.symm⟩
  · rw [List.getElem?_eq_none (by simp; omega)] at e
    simp at e
theorem getv' {vs : List Vn} {i : Nat} {w : W} (e : (vs.map vW)[i]? = some w) : ∃ v, vs[i]? = some v ∧ w = vW v := by
  rw [List.getElem?_map] at e
  cases q : vs[i]? with
  | none => rw [q] at e; simp at e
  | some v => rw [q] at e; simp at e; exact ⟨v, rfl, e.symm⟩
theorem desc_get {vs : List Vn} (d : Desc vs) {i j : Nat} {a b : Vn} (ei : vs[i]? = some a) (ej : vs[j]? = some b) (h : i < j) : b.1 < a.1 := by
  obtain ⟨hi, rfl⟩ := List.getElem?_eq_some_iff.mp ei
  obtain ⟨hj, rfl⟩ := List.getElem?_eq_some_iff.mp ej
  exact List.pairwise_iff_getElem.mp d i j hi hj h
theorem dv_ok {w : W} {vs : List Vn} (hw : Row w vs) (g : Good vs) : wp (r_demand_versions [w] st) (fun _ s => s = st) E := by
  simp only [r_demand_versions, m_demand_versions]
  simp only [ws_seq, ws_if, ws_set, ws_sub, ws_ret, ws_retN, ws_expr, ws_sNx, ws_for, wp_op, wp_var0, wp_varS, wp_c, wp_mB, wp_toB, wp_tr, wp_trB_bl, wp_trB_non, wp_trB_int, wp_not, wp_and, wp_or, wp_if, wp_mBl, wp_nil, wp_cons, wp_tup, wp_lst, wp_lstS, wp_newL_t, wp_newL_f, wp_chain, wp_call, wp_fn, wp_sl, wp_noPart, wp_part, wp_comp, wp_yes, wp_iL, wp_iA, wp_srcL, wp_srcS, wp_srcAL, wp_srcAT, wp_iR1, wp_iR2, wp_rng1, wp_rng2, wp_iRv, wp_srcRL, wp_srcRT, wp_iEA, wp_srcEL, wp_srcET, wp_add, wp_sub, wp_mul, wp_mod, wp_div, wp_divW, wp_pow18, wp_pow17, wp_pow16, wp_pow30, wp_eqI, wp_neI, wp_cmpI, wp_isN, wp_isNotN, wp_lenL, wp_lenT, wp_abs, wp_int, wp_min2, wp_max2, wp_listL, wp_listT, wp_tupleL, wp_tupleT, wp_ixT0, wp_ixT1, wp_ixL0, wp_neg, wp_ok, wp_srcEL, wp_isB, wp_isNotB, wp_eqB, wp_neB, wp_all, wp_any, wp_slT, wp_slL, wp_rev, wp_revT, wp_revL, wp_disp, wp_pair, wp_pair0, wp_dict0, wipeW, List.foldl_cons, List.foldl_nil, wp_run, List.map, List.length, List.replicate, List.cons_append, List.nil_append, List.append_nil, List.set_cons_zero, List.set_cons_succ, if_true, if_false, Bool.not_true, Bool.not_false, Bool.true_eq_false, Bool.false_eq_true, Nat.reduceAdd, Nat.reduceSub, gName', wp_isiTT, isiLT hw, enum_row hw]
  refine forS_fix (fun i e s => s = st ∧ ∃ (p q : Option W) (nw : W), e = [some w, some nw, p, q] ∧ (i = 0 → nw = .non) ∧ ∀ j, i = j + 1 → ∃ v, vs[j]? = some v ∧ nw = .int v.1) ⟨rfl, none, none, .non, rfl, fun _ => rfl, fun j z => by omega⟩ (fun i x e env s z => ?_) (fun env s z => z.1)
  obtain ⟨rfl, p, q, nw, rfl, z1, z2⟩ := z
  obtain ⟨x, ex, rfl⟩ := en_get e
  obtain ⟨v, ev, rfl⟩ := getv' ex
  refine ⟨_, _, rfl, ?_⟩
  simp only [ws_seq, ws_if, ws_set, ws_sub, ws_ret, ws_retN, ws_expr, ws_sNx, ws_for, wp_op, wp_var0, wp_varS, wp_c, wp_mB, wp_toB, wp_tr, wp_trB_bl, wp_trB_non, wp_trB_int, wp_not, wp_and, wp_or, wp_if, wp_mBl, wp_nil, wp_cons, wp_tup, wp_lst, wp_lstS, wp_newL_t, wp_newL_f, wp_chain, wp_call, wp_fn, wp_sl, wp_noPart, wp_part, wp_comp, wp_yes, wp_iL, wp_iA, wp_srcL, wp_srcS, wp_srcAL, wp_srcAT, wp_iR1, wp_iR2, wp_rng1, wp_rng2, wp_iRv, wp_srcRL, wp_srcRT, wp_iEA, wp_srcEL, wp_srcET, wp_add, wp_sub, wp_mul, wp_mod, wp_div, wp_divW, wp_pow18, wp_pow17, wp_pow16, wp_pow30, wp_eqI, wp_neI, wp_cmpI, wp_isN, wp_isNotN, wp_lenL, wp_lenT, wp_abs, wp_int, wp_min2, wp_max2, wp_listL, wp_listT, wp_tupleL, wp_tupleT, wp_ixT0, wp_ixT1, wp_ixL0, wp_neg, wp_ok, wp_srcEL, wp_isB, wp_isNotB, wp_eqB, wp_neB, wp_all, wp_any, wp_slT, wp_slL, wp_rev, wp_revT, wp_revL, wp_disp, wp_pair, wp_pair0, wp_dict0, wipeW, List.foldl_cons, List.foldl_nil, wp_run, List.map, List.length, List.replicate, List.cons_append, List.nil_append, List.append_nil, List.set_cons_zero, List.set_cons_succ, if_true, if_false, Bool.not_true, Bool.not_false, Bool.true_eq_false, Bool.false_eq_true, Nat.reduceAdd, Nat.reduceSub, gName']
  refine wp_eq (version_ok (g.ok v (List.mem_of_getElem? ev))) ?_
  simp only [ws_seq, ws_if, ws_set, ws_sub, ws_ret, ws_retN, ws_expr, ws_sNx, ws_for, wp_op, wp_var0, wp_varS, wp_c, wp_mB, wp_toB, wp_tr, wp_trB_bl, wp_trB_non, wp_trB_int, wp_not, wp_and, wp_or, wp_if, wp_mBl, wp_nil, wp_cons, wp_tup, wp_lst, wp_lstS, wp_newL_t, wp_newL_f, wp_chain, wp_call, wp_fn, wp_sl, wp_noPart, wp_part, wp_comp, wp_yes, wp_iL, wp_iA, wp_srcL, wp_srcS, wp_srcAL, wp_srcAT, wp_iR1, wp_iR2, wp_rng1, wp_rng2, wp_iRv, wp_srcRL, wp_srcRT, wp_iEA, wp_srcEL, wp_srcET, wp_add, wp_sub, wp_mul, wp_mod, wp_div, wp_divW, wp_pow18, wp_pow17, wp_pow16, wp_pow30, wp_eqI, wp_neI, wp_cmpI, wp_isN, wp_isNotN, wp_lenL, wp_lenT, wp_abs, wp_int, wp_min2, wp_max2, wp_listL, wp_listT, wp_tupleL, wp_tupleT, wp_ixT0, wp_ixT1, wp_ixL0, wp_neg, wp_ok, wp_srcEL, wp_isB, wp_isNotB, wp_eqB, wp_neB, wp_all, wp_any, wp_slT, wp_slL, wp_rev, wp_revT, wp_revL, wp_disp, wp_pair, wp_pair0, wp_dict0, wipeW, List.foldl_cons, List.foldl_nil, wp_run, List.map, List.length, List.replicate, List.cons_append, List.nil_append, List.append_nil, List.set_cons_zero, List.set_cons_succ, if_true, if_false, Bool.not_true, Bool.not_false, Bool.true_eq_false, Bool.false_eq_true, Nat.reduceAdd, Nat.reduceSub, gName']
  cases i with
  | zero =>
    rw [z1 rfl]
    simp only [Mi.isNon, Bool.not_true, Bool.false_eq_true, if_false]
    simp only [ws_seq, ws_if, ws_set, ws_sub, ws_ret, ws_retN, ws_expr, ws_sNx, ws_for, wp_op, wp_var0, wp_varS, wp_c, wp_mB, wp_toB, wp_tr, wp_trB_bl, wp_trB_non, wp_trB_int, wp_not, wp_and, wp_or, wp_if, wp_mBl, wp_nil, wp_cons, wp_tup, wp_lst, wp_lstS, wp_newL_t, wp_newL_f, wp_chain, wp_call, wp_fn, wp_sl, wp_noPart, wp_part, wp_comp, wp_yes, wp_iL, wp_iA, wp_srcL, wp_srcS, wp_srcAL, wp_srcAT, wp_iR1, wp_iR2, wp_rng1, wp_rng2, wp_iRv, wp_srcRL, wp_srcRT, wp_iEA, wp_srcEL, wp_srcET, wp_add, wp_sub, wp_mul, wp_mod, wp_div, wp_divW, wp_pow18, wp_pow17, wp_pow16, wp_pow30, wp_eqI, wp_neI, wp_cmpI, wp_isN, wp_isNotN, wp_lenL, wp_lenT, wp_abs, wp_int, wp_min2, wp_max2, wp_listL, wp_listT, wp_tupleL, wp_tupleT, wp_ixT0, wp_ixT1, wp_ixL0, wp_neg, wp_ok, wp_srcEL, wp_isB, wp_isNotB, wp_eqB, wp_neB, wp_all, wp_any, wp_slT, wp_slL, wp_rev, wp_revT, wp_revL, wp_disp, wp_pair, wp_pair0, wp_dict0, wipeW, List.foldl_cons, List.foldl_nil, wp_run, List.map, List.length, List.replicate, List.cons_append, List.nil_append, List.append_nil, List.set_cons_zero, List.set_cons_succ, if_true, if_false, Bool.not_true, Bool.not_false, Bool.true_eq_false, Bool.false_eq_true, Nat.reduceAdd, Nat.reduceSub, gName', wp_vc]
    exact ⟨trivial, _, _, _, rfl, fun z => by omega, fun j z => ⟨v, by rw [← ev]; congr 1; omega, rfl⟩⟩
  | succ i =>
    obtain ⟨v2, e2, rfl⟩ := z2 i rfl
    have := desc_get g.desc e2 ev (by omega)
    have h : ¬ (v2.1 ≤ v.1) := by omega
    simp only [Mi.isNon, Bool.not_false, if_true]
    simp only [ws_seq, ws_if, ws_set, ws_sub, ws_ret, ws_retN, ws_expr, ws_sNx, ws_for, wp_op, wp_var0, wp_varS, wp_c, wp_mB, wp_toB, wp_tr, wp_trB_bl, wp_trB_non, wp_trB_int, wp_not, wp_and, wp_or, wp_if, wp_mBl, wp_nil, wp_cons, wp_tup, wp_lst, wp_lstS, wp_newL_t, wp_newL_f, wp_chain, wp_call, wp_fn, wp_sl, wp_noPart, wp_part, wp_comp, wp_yes, wp_iL, wp_iA, wp_srcL, wp_srcS, wp_srcAL, wp_srcAT, wp_iR1, wp_iR2, wp_rng1, wp_rng2, wp_iRv, wp_srcRL, wp_srcRT, wp_iEA, wp_srcEL, wp_srcET, wp_add, wp_sub, wp_mul, wp_mod, wp_div, wp_divW, wp_pow18, wp_pow17, wp_pow16, wp_pow30, wp_eqI, wp_neI, wp_cmpI, wp_isN, wp_isNotN, wp_lenL, wp_lenT, wp_abs, wp_int, wp_min2, wp_max2, wp_listL, wp_listT, wp_tupleL, wp_tupleT, wp_ixT0, wp_ixT1, wp_ixL0, wp_neg, wp_ok, wp_srcEL, wp_isB, wp_isNotB, wp_eqB, wp_neB, wp_all, wp_any, wp_slT, wp_slL, wp_rev, wp_revT, wp_revL, wp_disp, wp_pair, wp_pair0, wp_dict0, wipeW, List.foldl_cons, List.foldl_nil, wp_run, List.map, List.length, List.replicate, List.cons_append, List.nil_append, List.append_nil, List.set_cons_zero, List.set_cons_succ, if_true, if_false, Bool.not_true, Bool.not_false, Bool.true_eq_false, Bool.false_eq_true, Nat.reduceAdd, Nat.reduceSub, gName', wp_vc, h, decide_false]
    exact ⟨trivial, _, _, _, rfl, fun z => by omega, fun j z => ⟨v, by rw [← ev]; congr 1; omega, rfl⟩⟩
theorem geti {ns : List Int} {i : Nat} {w : W} (e : (ns.map W.int)[i]? = some w) : ∃ v, ns[i]? = some v ∧ w = .int v := by
  rw [List.getElem?_map] at e
  cases q : ns[i]? with
  | none => rw [q] at e; simp at e
  | some v => rw [q] at e; simp at e; exact ⟨v, rfl, e.symm⟩
theorem asc_get {ns : List Int} (d : ns.Pairwise (· < ·)) {i j : Nat} {a b : Int} (ei : ns[i]? = some a) (ej : ns[j]? = some b) (h : i < j) : a < b := by
  obtain ⟨hi, rfl⟩ := List.getElem?_eq_some_iff.mp ei
  obtain ⟨hj, rfl⟩ := List.getElem?_eq_some_iff.mp ej
  exact List.pairwise_iff_getElem.mp d i j hi hj h
theorem lot_ok {ns : List Int} {last : Int} (g : Lot ns last) : wp (r_is_lot_below [.int (last + 1), .tup (ns.map W.int)] st) (fun w s => w = .bl true ∧ s = st) E := by
  simp only [r_is_lot_below, m_is_lot_below]
  simp only [ws_seq, ws_if, ws_set, ws_sub, ws_ret, ws_retN, ws_expr, ws_sNx, ws_for, wp_op, wp_var0, wp_varS, wp_c, wp_mB, wp_toB, wp_tr, wp_trB_bl, wp_trB_non, wp_trB_int, wp_not, wp_and, wp_or, wp_if, wp_mBl, wp_nil, wp_cons, wp_tup, wp_lst, wp_lstS, wp_newL_t, wp_newL_f, wp_chain, wp_call, wp_fn, wp_sl, wp_noPart, wp_part, wp_comp, wp_yes, wp_iL, wp_iA, wp_srcL, wp_srcS, wp_srcAL, wp_srcAT, wp_iR1, wp_iR2, wp_rng1, wp_rng2, wp_iRv, wp_srcRL, wp_srcRT, wp_iEA, wp_srcEL, wp_srcET, wp_add, wp_sub, wp_mul, wp_mod, wp_div, wp_divW, wp_pow18, wp_pow17, wp_pow16, wp_pow30, wp_eqI, wp_neI, wp_cmpI, wp_isN, wp_isNotN, wp_lenL, wp_lenT, wp_abs, wp_int, wp_min2, wp_max2, wp_listL, wp_listT, wp_tupleL, wp_tupleT, wp_ixT0, wp_ixT1, wp_ixL0, wp_neg, wp_ok, wp_srcEL, wp_isB, wp_isNotB, wp_eqB, wp_neB, wp_all, wp_any, wp_slT, wp_slL, wp_rev, wp_revT, wp_revL, wp_disp, wp_pair, wp_pair0, wp_dict0, wipeW, List.foldl_cons, List.foldl_nil, wp_run, List.map, List.length, List.replicate, List.cons_append, List.nil_append, List.append_nil, List.set_cons_zero, List.set_cons_succ, if_true, if_false, Bool.not_true, Bool.not_false, Bool.true_eq_false, Bool.false_eq_true, Nat.reduceAdd, Nat.reduceSub, gName', wp_isiT]
  refine forS_fix (fun i e s => s = st ∧ ∃ (q : Option W) (nw : Int), e = [some (.int (last + 1)), some (.tup (ns.map W.int)), some (.int nw), q] ∧ (i = 0 → nw = 0) ∧ ∀ j, i = j + 1 → ∃ v, ns[j]? = some v ∧ nw = v + 1) ⟨rfl, none, 0, rfl, fun _ => rfl, fun j z => by omega⟩ (fun i x e env s z => ?_) (fun env s z => ?_)
  · obtain ⟨rfl, q, nw, rfl, z1, z2⟩ := z
    obtain ⟨v, ev, rfl⟩ := geti e
    refine ⟨_, _, rfl, ?_⟩
    simp only [ws_seq, ws_if, ws_set, ws_sub, ws_ret, ws_retN, ws_expr, ws_sNx, ws_for, wp_op, wp_var0, wp_varS, wp_c, wp_mB, wp_toB, wp_tr, wp_trB_bl, wp_trB_non, wp_trB_int, wp_not, wp_and, wp_or, wp_if, wp_mBl, wp_nil, wp_cons, wp_tup, wp_lst, wp_lstS, wp_newL_t, wp_newL_f, wp_chain, wp_call, wp_fn, wp_sl, wp_noPart, wp_part, wp_comp, wp_yes, wp_iL, wp_iA, wp_srcL, wp_srcS, wp_srcAL, wp_srcAT, wp_iR1, wp_iR2, wp_rng1, wp_rng2, wp_iRv, wp_srcRL, wp_srcRT, wp_iEA, wp_srcEL, wp_srcET, wp_add, wp_sub, wp_mul, wp_mod, wp_div, wp_divW, wp_pow18, wp_pow17, wp_pow16, wp_pow30, wp_eqI, wp_neI, wp_cmpI, wp_isN, wp_isNotN, wp_lenL, wp_lenT, wp_abs, wp_int, wp_min2, wp_max2, wp_listL, wp_listT, wp_tupleL, wp_tupleT, wp_ixT0, wp_ixT1, wp_ixL0, wp_neg, wp_ok, wp_srcEL, wp_isB, wp_isNotB, wp_eqB, wp_neB, wp_all, wp_any, wp_slT, wp_slL, wp_rev, wp_revT, wp_revL, wp_disp, wp_pair, wp_pair0, wp_dict0, wipeW, List.foldl_cons, List.foldl_nil, wp_run, List.map, List.length, List.replicate, List.cons_append, List.nil_append, List.append_nil, List.set_cons_zero, List.set_cons_succ, if_true, if_false, Bool.not_true, Bool.not_false, Bool.true_eq_false, Bool.false_eq_true, Nat.reduceAdd, Nat.reduceSub, gName']
    have ok := g.ok v (List.mem_of_getElem? ev)
    have h1 : nw ≤ v := by
      cases i with
      | zero => rw [z1 rfl]; exact ok.1
      | succ i =>
        obtain ⟨v2, e2, rfl⟩ := z2 i rfl
        have := asc_get g.asc e2 ev (by omega)
        omega
    have h2 : v ≤ last + 1 - 1 := by omega
    refine wp_eq within_ok ?_
    simp only [ws_seq, ws_if, ws_set, ws_sub, ws_ret, ws_retN, ws_expr, ws_sNx, ws_for, wp_op, wp_var0, wp_varS, wp_c, wp_mB, wp_toB, wp_tr, wp_trB_bl, wp_trB_non, wp_trB_int, wp_not, wp_and, wp_or, wp_if, wp_mBl, wp_nil, wp_cons, wp_tup, wp_lst, wp_lstS, wp_newL_t, wp_newL_f, wp_chain, wp_call, wp_fn, wp_sl, wp_noPart, wp_part, wp_comp, wp_yes, wp_iL, wp_iA, wp_srcL, wp_srcS, wp_srcAL, wp_srcAT, wp_iR1, wp_iR2, wp_rng1, wp_rng2, wp_iRv, wp_srcRL, wp_srcRT, wp_iEA, wp_srcEL, wp_srcET, wp_add, wp_sub, wp_mul, wp_mod, wp_div, wp_divW, wp_pow18, wp_pow17, wp_pow16, wp_pow30, wp_eqI, wp_neI, wp_cmpI, wp_isN, wp_isNotN, wp_lenL, wp_lenT, wp_abs, wp_int, wp_min2, wp_max2, wp_listL, wp_listT, wp_tupleL, wp_tupleT, wp_ixT0, wp_ixT1, wp_ixL0, wp_neg, wp_ok, wp_srcEL, wp_isB, wp_isNotB, wp_eqB, wp_neB, wp_all, wp_any, wp_slT, wp_slL, wp_rev, wp_revT, wp_revL, wp_disp, wp_pair, wp_pair0, wp_dict0, wipeW, List.foldl_cons, List.foldl_nil, wp_run, List.map, List.length, List.replicate, List.cons_append, List.nil_append, List.append_nil, List.set_cons_zero, List.set_cons_succ, if_true, if_false, Bool.not_true, Bool.not_false, Bool.true_eq_false, Bool.false_eq_true, Nat.reduceAdd, Nat.reduceSub, gName', h1, h2, decide_true, Bool.and_self]
    exact ⟨trivial, _, _, rfl, fun z => by omega, fun j z => ⟨v, by rw [← ev]; congr 1; omega, rfl⟩⟩
  · obtain ⟨rfl, q, nw, rfl, _⟩ := z
    simp only [ws_seq, ws_if, ws_set, ws_sub, ws_ret, ws_retN, ws_expr, ws_sNx, ws_for, wp_op, wp_var0, wp_varS, wp_c, wp_mB, wp_toB, wp_tr, wp_trB_bl, wp_trB_non, wp_trB_int, wp_not, wp_and, wp_or, wp_if, wp_mBl, wp_nil, wp_cons, wp_tup, wp_lst, wp_lstS, wp_newL_t, wp_newL_f, wp_chain, wp_call, wp_fn, wp_sl, wp_noPart, wp_part, wp_comp, wp_yes, wp_iL, wp_iA, wp_srcL, wp_srcS, wp_srcAL, wp_srcAT, wp_iR1, wp_iR2, wp_rng1, wp_rng2, wp_iRv, wp_srcRL, wp_srcRT, wp_iEA, wp_srcEL, wp_srcET, wp_add, wp_sub, wp_mul, wp_mod, wp_div, wp_divW, wp_pow18, wp_pow17, wp_pow16, wp_pow30, wp_eqI, wp_neI, wp_cmpI, wp_isN, wp_isNotN, wp_lenL, wp_lenT, wp_abs, wp_int, wp_min2, wp_max2, wp_listL, wp_listT, wp_tupleL, wp_tupleT, wp_ixT0, wp_ixT1, wp_ixL0, wp_neg, wp_ok, wp_srcEL, wp_isB, wp_isNotB, wp_eqB, wp_neB, wp_all, wp_any, wp_slT, wp_slL, wp_rev, wp_revT, wp_revL, wp_disp, wp_pair, wp_pair0, wp_dict0, wipeW, List.foldl_cons, List.foldl_nil, wp_run, List.map, List.length, List.replicate, List.cons_append, List.nil_append, List.append_nil, List.set_cons_zero, List.set_cons_succ, if_true, if_false, Bool.not_true, Bool.not_false, Bool.true_eq_false, Bool.false_eq_true, Nat.reduceAdd, Nat.reduceSub, gName']
    simp
theorem snap_ok {last : Int} (l0 : 0 ≤ last) (l1 : last ≤ 1000000000000000000) : wp (r_is_snapshot [.int last] st) (fun w s => w = .bl true ∧ s = st) E := by
  simp only [r_is_snapshot, m_is_snapshot]
  simp only [ws_seq, ws_if, ws_set, ws_sub, ws_ret, ws_retN, ws_expr, ws_sNx, ws_for, wp_op, wp_var0, wp_varS, wp_c, wp_mB, wp_toB, wp_tr, wp_trB_bl, wp_trB_non, wp_trB_int, wp_not, wp_and, wp_or, wp_if, wp_mBl, wp_nil, wp_cons, wp_tup, wp_lst, wp_lstS, wp_newL_t, wp_newL_f, wp_chain, wp_call, wp_fn, wp_sl, wp_noPart, wp_part, wp_comp, wp_yes, wp_iL, wp_iA, wp_srcL, wp_srcS, wp_srcAL, wp_srcAT, wp_iR1, wp_iR2, wp_rng1, wp_rng2, wp_iRv, wp_srcRL, wp_srcRT, wp_iEA, wp_srcEL, wp_srcET, wp_add, wp_sub, wp_mul, wp_mod, wp_div, wp_divW, wp_pow18, wp_pow17, wp_pow16, wp_pow30, wp_eqI, wp_neI, wp_cmpI, wp_isN, wp_isNotN, wp_lenL, wp_lenT, wp_abs, wp_int, wp_min2, wp_max2, wp_listL, wp_listT, wp_tupleL, wp_tupleT, wp_ixT0, wp_ixT1, wp_ixL0, wp_neg, wp_ok, wp_srcEL, wp_isB, wp_isNotB, wp_eqB, wp_neB, wp_all, wp_any, wp_slT, wp_slL, wp_rev, wp_revT, wp_revL, wp_disp, wp_pair, wp_pair0, wp_dict0, wipeW, List.foldl_cons, List.foldl_nil, wp_run, List.map, List.length, List.replicate, List.cons_append, List.nil_append, List.append_nil, List.set_cons_zero, List.set_cons_succ, if_true, if_false, Bool.not_true, Bool.not_false, Bool.true_eq_false, Bool.false_eq_true, Nat.reduceAdd, Nat.reduceSub, gName']
  refine wp_eq within_ok ?_
  simp [l0, l1]
theorem ds_ok {ns : List Int} {last : Int} (g : Lot ns last) (l0 : 0 ≤ last) (l1 : last ≤ 1000000000000000000) : wp (r_demand_snapshots [.tup (ns.map W.int), .int last] st) (fun _ s => s = st) E := by
  simp only [r_demand_snapshots, m_demand_snapshots]
  simp only [ws_seq, ws_if, ws_set, ws_sub, ws_ret, ws_retN, ws_expr, ws_sNx, ws_for, wp_op, wp_var0, wp_varS, wp_c, wp_mB, wp_toB, wp_tr, wp_trB_bl, wp_trB_non, wp_trB_int, wp_not, wp_and, wp_or, wp_if, wp_mBl, wp_nil, wp_cons, wp_tup, wp_lst, wp_lstS, wp_newL_t, wp_newL_f, wp_chain, wp_call, wp_fn, wp_sl, wp_noPart, wp_part, wp_comp, wp_yes, wp_iL, wp_iA, wp_srcL, wp_srcS, wp_srcAL, wp_srcAT, wp_iR1, wp_iR2, wp_rng1, wp_rng2, wp_iRv, wp_srcRL, wp_srcRT, wp_iEA, wp_srcEL, wp_srcET, wp_add, wp_sub, wp_mul, wp_mod, wp_div, wp_divW, wp_pow18, wp_pow17, wp_pow16, wp_pow30, wp_eqI, wp_neI, wp_cmpI, wp_isN, wp_isNotN, wp_lenL, wp_lenT, wp_abs, wp_int, wp_min2, wp_max2, wp_listL, wp_listT, wp_tupleL, wp_tupleT, wp_ixT0, wp_ixT1, wp_ixL0, wp_neg, wp_ok, wp_srcEL, wp_isB, wp_isNotB, wp_eqB, wp_neB, wp_all, wp_any, wp_slT, wp_slL, wp_rev, wp_revT, wp_revL, wp_disp, wp_pair, wp_pair0, wp_dict0, wipeW, List.foldl_cons, List.foldl_nil, wp_run, List.map, List.length, List.replicate, List.cons_append, List.nil_append, List.append_nil, List.set_cons_zero, List.set_cons_succ, if_true, if_false, Bool.not_true, Bool.not_false, Bool.true_eq_false, Bool.false_eq_true, Nat.reduceAdd, Nat.reduceSub, gName']
  refine wp_eq (snap_ok l0 l1) ?_
  simp only [ws_seq, ws_if, ws_set, ws_sub, ws_ret, ws_retN, ws_expr, ws_sNx, ws_for, wp_op, wp_var0, wp_varS, wp_c, wp_mB, wp_toB, wp_tr, wp_trB_bl, wp_trB_non, wp_trB_int, wp_not, wp_and, wp_or, wp_if, wp_mBl, wp_nil, wp_cons, wp_tup, wp_lst, wp_lstS, wp_newL_t, wp_newL_f, wp_chain, wp_call, wp_fn, wp_sl, wp_noPart, wp_part, wp_comp, wp_yes, wp_iL, wp_iA, wp_srcL, wp_srcS, wp_srcAL, wp_srcAT, wp_iR1, wp_iR2, wp_rng1, wp_rng2, wp_iRv, wp_srcRL, wp_srcRT, wp_iEA, wp_srcEL, wp_srcET, wp_add, wp_sub, wp_mul, wp_mod, wp_div, wp_divW, wp_pow18, wp_pow17, wp_pow16, wp_pow30, wp_eqI, wp_neI, wp_cmpI, wp_isN, wp_isNotN, wp_lenL, wp_lenT, wp_abs, wp_int, wp_min2, wp_max2, wp_listL, wp_listT, wp_tupleL, wp_tupleT, wp_ixT0, wp_ixT1, wp_ixL0, wp_neg, wp_ok, wp_srcEL, wp_isB, wp_isNotB, wp_eqB, wp_neB, wp_all, wp_any, wp_slT, wp_slL, wp_rev, wp_revT, wp_revL, wp_disp, wp_pair, wp_pair0, wp_dict0, wipeW, List.foldl_cons, List.foldl_nil, wp_run, List.map, List.length, List.replicate, List.cons_append, List.nil_append, List.append_nil, List.set_cons_zero, List.set_cons_succ, if_true, if_false, Bool.not_true, Bool.not_false, Bool.true_eq_false, Bool.false_eq_true, Nat.reduceAdd, Nat.reduceSub, gName']
  refine wp_eq (lot_ok g) ?_
  simp only [ws_seq, ws_if, ws_set, ws_sub, ws_ret, ws_retN, ws_expr, ws_sNx, ws_for, wp_op, wp_var0, wp_varS, wp_c, wp_mB, wp_toB, wp_tr, wp_trB_bl, wp_trB_non, wp_trB_int, wp_not, wp_and, wp_or, wp_if, wp_mBl, wp_nil, wp_cons, wp_tup, wp_lst, wp_lstS, wp_newL_t, wp_newL_f, wp_chain, wp_call, wp_fn, wp_sl, wp_noPart, wp_part, wp_comp, wp_yes, wp_iL, wp_iA, wp_srcL, wp_srcS, wp_srcAL, wp_srcAT, wp_iR1, wp_iR2, wp_rng1, wp_rng2, wp_iRv, wp_srcRL, wp_srcRT, wp_iEA, wp_srcEL, wp_srcET, wp_add, wp_sub, wp_mul, wp_mod, wp_div, wp_divW, wp_pow18, wp_pow17, wp_pow16, wp_pow30, wp_eqI, wp_neI, wp_cmpI, wp_isN, wp_isNotN, wp_lenL, wp_lenT, wp_abs, wp_int, wp_min2, wp_max2, wp_listL, wp_listT, wp_tupleL, wp_tupleT, wp_ixT0, wp_ixT1, wp_ixL0, wp_neg, wp_ok, wp_srcEL, wp_isB, wp_isNotB, wp_eqB, wp_neB, wp_all, wp_any, wp_slT, wp_slL, wp_rev, wp_revT, wp_revL, wp_disp, wp_pair, wp_pair0, wp_dict0, wipeW, List.foldl_cons, List.foldl_nil, wp_run, List.map, List.length, List.replicate, List.cons_append, List.nil_append, List.append_nil, List.set_cons_zero, List.set_cons_succ, if_true, if_false, Bool.not_true, Bool.not_false, Bool.true_eq_false, Bool.false_eq_true, Nat.reduceAdd, Nat.reduceSub, gName']
theorem tr_row {w : W} {vs : List Vn} (hw : Row w vs) {P : Bool → Sto → Prop} : wp (trB w st) P E ↔ P (!vs.isEmpty) st := by
  have e : ∀ xs : List Vn, (!(xs.map vW).isEmpty) = !xs.isEmpty := fun xs => by cases xs <;> rfl
  rcases hw with rfl | rfl
  · simp only [trB, trW, wp_ok, e]
  · simp only [trB, trW, wp_ok, e]
theorem da_ok {w : W} {vs : List Vn} {ns : List Int} {last : Int} (hw : Row w vs) (g : Good vs) (gl : Lot ns last) (l0 : 0 ≤ last) (l1 : last ≤ 1000000000000000000) (hn : ∀ v ∈ vs, v.1 ≤ last) : wp (r_demand_asked [w, .tup (ns.map W.int), .int last] st) (fun _ s => s = st) NoE := by
  simp only [r_demand_asked, m_demand_asked]
  simp only [ws_seq, ws_if, ws_set, ws_sub, ws_ret, ws_retN, ws_expr, ws_sNx, ws_for, wp_op, wp_var0, wp_varS, wp_c, wp_mB, wp_toB, wp_tr, wp_trB_bl, wp_trB_non, wp_trB_int, wp_not, wp_and, wp_or, wp_if, wp_mBl, wp_nil, wp_cons, wp_tup, wp_lst, wp_lstS, wp_newL_t, wp_newL_f, wp_chain, wp_call, wp_fn, wp_sl, wp_noPart, wp_part, wp_comp, wp_yes, wp_iL, wp_iA, wp_srcL, wp_srcS, wp_srcAL, wp_srcAT, wp_iR1, wp_iR2, wp_rng1, wp_rng2, wp_iRv, wp_srcRL, wp_srcRT, wp_iEA, wp_srcEL, wp_srcET, wp_add, wp_sub, wp_mul, wp_mod, wp_div, wp_divW, wp_pow18, wp_pow17, wp_pow16, wp_pow30, wp_eqI, wp_neI, wp_cmpI, wp_isN, wp_isNotN, wp_lenL, wp_lenT, wp_abs, wp_int, wp_min2, wp_max2, wp_listL, wp_listT, wp_tupleL, wp_tupleT, wp_ixT0, wp_ixT1, wp_ixL0, wp_neg, wp_ok, wp_srcEL, wp_isB, wp_isNotB, wp_eqB, wp_neB, wp_all, wp_any, wp_slT, wp_slL, wp_rev, wp_revT, wp_revL, wp_disp, wp_pair, wp_pair0, wp_dict0, wipeW, List.foldl_cons, List.foldl_nil, wp_run, List.map, List.length, List.replicate, List.cons_append, List.nil_append, List.append_nil, List.set_cons_zero, List.set_cons_succ, if_true, if_false, Bool.not_true, Bool.not_false, Bool.true_eq_false, Bool.false_eq_true, Nat.reduceAdd, Nat.reduceSub, gName']
  refine wp_no (dv_ok hw g) ?_
  rintro _ s rfl
  refine wp_eq (snap_ok l0 l1) ?_
  simp only [ws_seq, ws_if, ws_set, ws_sub, ws_ret, ws_retN, ws_expr, ws_sNx, ws_for, wp_op, wp_var0, wp_varS, wp_c, wp_mB, wp_toB, wp_tr, wp_trB_bl, wp_trB_non, wp_trB_int, wp_not, wp_and, wp_or, wp_if, wp_mBl, wp_nil, wp_cons, wp_tup, wp_lst, wp_lstS, wp_newL_t, wp_newL_f, wp_chain, wp_call, wp_fn, wp_sl, wp_noPart, wp_part, wp_comp, wp_yes, wp_iL, wp_iA, wp_srcL, wp_srcS, wp_srcAL, wp_srcAT, wp_iR1, wp_iR2, wp_rng1, wp_rng2, wp_iRv, wp_srcRL, wp_srcRT, wp_iEA, wp_srcEL, wp_srcET, wp_add, wp_sub, wp_mul, wp_mod, wp_div, wp_divW, wp_pow18, wp_pow17, wp_pow16, wp_pow30, wp_eqI, wp_neI, wp_cmpI, wp_isN, wp_isNotN, wp_lenL, wp_lenT, wp_abs, wp_int, wp_min2, wp_max2, wp_listL, wp_listT, wp_tupleL, wp_tupleT, wp_ixT0, wp_ixT1, wp_ixL0, wp_neg, wp_ok, wp_srcEL, wp_isB, wp_isNotB, wp_eqB, wp_neB, wp_all, wp_any, wp_slT, wp_slL, wp_rev, wp_revT, wp_revL, wp_disp, wp_pair, wp_pair0, wp_dict0, wipeW, List.foldl_cons, List.foldl_nil, wp_run, List.map, List.length, List.replicate, List.cons_append, List.nil_append, List.append_nil, List.set_cons_zero, List.set_cons_succ, if_true, if_false, Bool.not_true, Bool.not_false, Bool.true_eq_false, Bool.false_eq_true, Nat.reduceAdd, Nat.reduceSub, gName', tr_row hw]
  cases vs with
  | nil =>
    simp only [List.isEmpty_nil, Bool.not_true, Bool.false_eq_true, if_false]
    refine wp_no (ds_ok gl l0 l1) ?_
    rintro _ s rfl
    rfl
  | cons v vs =>
    simp only [List.isEmpty_cons, Bool.not_false, if_true]
    have hv : ¬ last < v.1 := by have := hn v (by simp); omega
    have i0 : ∀ {P : W → Sto → Prop} {E}, wp (wIx w (.int 0) s) P E ↔ P (vW v) s := by
      intro P E
      rcases hw with rfl | rfl
      · exact wp_ixL0
      · exact wp_ixT0
    simp only [ws_seq, ws_if, ws_set, ws_sub, ws_ret, ws_retN, ws_expr, ws_sNx, ws_for, wp_op, wp_var0, wp_varS, wp_c, wp_mB, wp_toB, wp_tr, wp_trB_bl, wp_trB_non, wp_trB_int, wp_not, wp_and, wp_or, wp_if, wp_mBl, wp_nil, wp_cons, wp_tup, wp_lst, wp_lstS, wp_newL_t, wp_newL_f, wp_chain, wp_call, wp_fn, wp_sl, wp_noPart, wp_part, wp_comp, wp_yes, wp_iL, wp_iA, wp_srcL, wp_srcS, wp_srcAL, wp_srcAT, wp_iR1, wp_iR2, wp_rng1, wp_rng2, wp_iRv, wp_srcRL, wp_srcRT, wp_iEA, wp_srcEL, wp_srcET, wp_add, wp_sub, wp_mul, wp_mod, wp_div, wp_divW, wp_pow18, wp_pow17, wp_pow16, wp_pow30, wp_eqI, wp_neI, wp_cmpI, wp_isN, wp_isNotN, wp_lenL, wp_lenT, wp_abs, wp_int, wp_min2, wp_max2, wp_listL, wp_listT, wp_tupleL, wp_tupleT, wp_ixT0, wp_ixT1, wp_ixL0, wp_neg, wp_ok, wp_srcEL, wp_isB, wp_isNotB, wp_eqB, wp_neB, wp_all, wp_any, wp_slT, wp_slL, wp_rev, wp_revT, wp_revL, wp_disp, wp_pair, wp_pair0, wp_dict0, wipeW, List.foldl_cons, List.foldl_nil, wp_run, List.map, List.length, List.replicate, List.cons_append, List.nil_append, List.append_nil, List.set_cons_zero, List.set_cons_succ, if_true, if_false, Bool.not_true, Bool.not_false, Bool.true_eq_false, Bool.false_eq_true, Nat.reduceAdd, Nat.reduceSub, gName', i0, wp_vc, hv, decide_false]
    refine wp_no (ds_ok gl l0 l1) ?_
    rintro _ s rfl
    rfl
end
end Lw
namespace Lw
open PySem L2 Mi
/-! mathematics -/
def vat (vs : List Vn) (s : Int) : Option Vn := vs.find? fun v => decide (v.1 ≤ s)
theorem vat_at {s : Int} : ∀ {vs : List Vn} {i : Nat} {v : Vn}, vs[i]? = some v → v.1 ≤ s → (∀ (j : Nat) (u : Vn), j < i → vs[j]? = some u → ¬ u.1 ≤ s) → vat vs s = some v
  | [], i, v, e, _, _ => by simp at e
  | u :: vs, 0, v, e, h, b => by
    simp at e
    subst e
    simp [vat, List.find?_cons, h]
  | u :: vs, i + 1, v, e, h, b => by
    have h1 : ¬ u.1 ≤ s := b 0 u (by omega) rfl
    have ih := vat_at (vs := vs) (i := i) (v := v) (by simpa using e) h fun j w hj ew => b (j + 1) w (by omega) (by simpa using ew)
    unfold vat at ih ⊢
    rw [List.find?_cons]
    simp only [h1, decide_false]
    exact ih
theorem vat_none {s : Int} {vs : List Vn} (b : ∀ (j : Nat) (u : Vn), vs[j]? = some u → ¬ u.1 ≤ s) : vat vs s = none := by
  unfold vat
  rw [List.find?_eq_none]
  intro u hu
  obtain ⟨j, hj⟩ := List.getElem?_of_mem hu
  simpa using b j u hj
theorem vat_some {vs : List Vn} {s : Int} {v : Vn} (e : vat vs s = some v) : v ∈ vs ∧ v.1 ≤ s := by
  unfold vat at e
  exact ⟨List.mem_of_find?_eq_some e, by simpa using List.find?_some e⟩
theorem vat_first {s : Int} {v : Vn} : ∀ {vs : List Vn}, Desc vs → vat vs s = some v → ∀ u ∈ vs, u.1 ≤ s → u.1 ≤ v.1
  | [], _, _, u, hu, _ => by simp at hu
  | w :: vs, d, e, u, hu, hs => by
    have d' := List.pairwise_cons.mp d
    unfold vat at e
    rw [List.find?_cons] at e
    by_cases h : w.1 ≤ s
    · simp only [h, decide_true] at e
      cases e
      rcases List.mem_cons.mp hu with rfl | hu
      · exact Int.le_refl _
      · exact Int.le_of_lt (d'.1 u hu)
    · simp only [h, decide_false] at e
      rcases List.mem_cons.mp hu with rfl | hu
      · exact (h hs).elim
      · exact vat_first d'.2 e u hu hs
theorem vat_last {vs : List Vn} {s : Int} (h : ∀ v ∈ vs, v.1 ≤ s) : vat vs s = vs.head? := by
  cases vs with
  | nil => rfl
  | cons v vs =>
    have := h v (by simp)
    simp [vat, List.find?_cons, this]
theorem vat_filter {p : Vn → Bool} {s : Int} {v : Vn} (hp : p v = true) : ∀ {vs : List Vn}, vat vs s = some v → vat (vs.filter p) s = some v
  | [], e => by simp [vat] at e
  | w :: vs, e => by
    unfold vat at e
    rw [List.find?_cons] at e
    by_cases h : w.1 ≤ s
    · simp only [h, decide_true] at e
      cases e
      simp [vat, List.filter_cons, hp, List.find?_cons, h]
    · simp only [h, decide_false] at e
      have ih := vat_filter hp (vs := vs) e
      rw [List.filter_cons]
      split
      · unfold vat at ih ⊢
        rw [List.find?_cons]
        simp only [h, decide_false]
        exact ih
      · exact ih
theorem vat_iff {vs : List Vn} (d : Desc vs) {a : Nat} {u v : Vn} {s : Int} (ev : vs[a + 1]? = some v) (eu : vs[a]? = some u) : vat vs s = some v ↔ v.1 ≤ s ∧ s < u.1 := by
  have uv := desc_get d eu ev (by omega)
  constructor
  · intro e
    refine ⟨(vat_some e).2, ?_⟩
    by_cases h : u.1 ≤ s
    · have := vat_first d e u (List.mem_of_getElem? eu) h
      omega
    · omega
  · intro h
    refine vat_at ev h.1 fun j w hj ew => ?_
    by_cases hja : j = a
    · subst hja
      rw [eu] at ew
      cases ew
      omega
    · have := desc_get d ew eu (by omega)
      omega
def kps (sn : Vn → Bool) (acc : List Int) (v : Vn) : List Int := if (sn v && (!decide (v.2 = none) || !acc.isEmpty)) = true then acc ++ [v.1] else acc
def need (sn : Vn → Bool) (vs : List Vn) : List Int := vs.reverse.foldl (kps sn) []
theorem need_cons {sn : Vn → Bool} {v : Vn} {vs : List Vn} : need sn (v :: vs) = kps sn (need sn vs) v := by simp [need]
theorem need_len {sn : Vn → Bool} : ∀ {vs : List Vn}, (need sn vs).length ≤ vs.length
  | [] => by simp [need]
  | v :: vs => by
    have := need_len (sn := sn) (vs := vs)
    rw [need_cons]
    unfold kps
    split
    · simp; omega
    · simp; omega
def lsn (vs : List Vn) (op : List Int) (v : Vn) : Bool := decide (vs.head? = some v) || op.any fun s => decide (vat vs s = some v)
def nd (vs : List Vn) (op : List Int) : List Int := need (lsn vs op) vs
theorem sn_eq {vs : List Vn} {op : List Int} {last : Int} (h : ∀ v ∈ vs, v.1 ≤ last) (v : Vn) : decide (some v ∈ (op ++ [last]).map (vat vs)) = lsn vs op v := by
  unfold lsn
  rw [List.map_append, List.map_singleton, vat_last h]
  have : (some v ∈ op.map (vat vs) ++ [vs.head?]) ↔ (vs.head? = some v ∨ ∃ s ∈ op, vat vs s = some v) := by
    simp only [List.mem_append, List.mem_map, List.mem_singleton]
    constructor
    · rintro (⟨s, hs, e⟩ | e)
      · exact .inr ⟨s, hs, e⟩
      · exact .inl e.symm
    · rintro (e | ⟨s, hs, e⟩)
      · exact .inr e.symm
      · exact .inl ⟨s, hs, e⟩
  rw [decide_eq_decide.mpr this, Bool.decide_or]
  congr 1
  rw [Bool.eq_iff_iff]
  simp
/-- what is kept -/
def kept (sn : Vn → Bool) : List Vn → List Vn
  | [] => []
  | v :: vs => if (sn v && (!decide (v.2 = none) || !(need sn vs).isEmpty)) = true then v :: kept sn vs else kept sn vs
theorem kept_sub {sn : Vn → Bool} : ∀ {vs : List Vn}, (kept sn vs).Sublist vs
  | [] => List.Sublist.refl _
  | v :: vs => by
    unfold kept
    split
    · exact kept_sub.cons_cons v
    · exact kept_sub.cons v
theorem need_kept {sn : Vn → Bool} : ∀ {vs : List Vn}, need sn vs = ((kept sn vs).map (·.1)).reverse
  | [] => rfl
  | v :: vs => by
    rw [need_cons]
    unfold kps kept
    split
    · rw [need_kept (vs := vs)]; simp
    · exact need_kept
theorem filter_kept {sn : Vn → Bool} : ∀ {vs : List Vn}, Desc vs → vs.filter (fun v => decide (v.1 ∈ need sn vs)) = kept sn vs
  | [], _ => rfl
  | v :: vs, d => by
    have d' := List.pairwise_cons.mp d
    have hv : v.1 ∉ need sn vs := fun z => by
      rw [need_kept, List.mem_reverse, List.mem_map] at z
      obtain ⟨u, hu, e⟩ := z
      have := d'.1 u (kept_sub.subset hu)
      omega
    have ih := filter_kept (sn := sn) d'.2
    rw [need_cons]
    unfold kps kept
    split
    · have e1 : vs.filter (fun u => decide (u.1 ∈ need sn vs ++ [v.1])) = vs.filter (fun u => decide (u.1 ∈ need sn vs)) := by
        apply List.filter_congr
        intro u hu
        have := d'.1 u hu
        have ne : u.1 ≠ v.1 := by omega
        simp [ne]
      rw [List.filter_cons, if_pos (by simp), e1, ih]
    · rw [List.filter_cons, if_neg (by simpa using hv), ih]
/-- the law's own look -/
theorem lsn_at {vs : List Vn} (d : Desc vs) {op : List Int} {a : Nat} {v : Vn} (ev : vs[a]? = some v) {c : Int → Bool} (hc : ∀ (u : Vn) (b : Nat), a = b + 1 → vs[b]? = some u → ∀ s, c s = decide (s < u.1)) :
    (decide (a = 0) || op.any fun s => decide (v.1 ≤ s) && (decide (a = 0) || c s)) = lsn vs op v := by
  unfold lsn
  cases a with
  | zero =>
    have : vs.head? = some v := by rw [List.head?_eq_getElem?]; exact ev
    simp [this]
  | succ a =>
    have ha := lt_of_get' ev
    obtain ⟨u, eu⟩ : ∃ u, vs[a]? = some u := ⟨_, List.getElem?_eq_getElem (by omega)⟩
    have hne : vs.head? ≠ some v := fun z => by
      rw [List.head?_eq_getElem?] at z
      have := desc_get d z ev (by omega)
      omega
    have e : (fun s => decide (v.1 ≤ s) && (decide (a + 1 = 0) || c s)) = fun s => decide (vat vs s = some v) := by
      funext s
      rw [hc u a rfl eu s]
      have := vat_iff d ev eu (s := s)
      have h0 : ¬ (a + 1 = 0) := by omega
      rw [decide_eq_decide.mpr this, Bool.decide_and]
      simp only [h0, decide_false, Bool.false_or]
    rw [e]
    simp [hne]
where lt_of_get' {vs : List Vn} {i : Nat} {v : Vn} (e : vs[i]? = some v) : i < vs.length := (List.getElem?_eq_some_iff.mp e).1
theorem wp_trBR {i : Nat} {xs : List W} {s : Sto} {P : Bool → Sto → Prop} {E : Xc → Sto → Prop} (e : s[i]? = some (.lst xs)) : wp (trB (.ref i) s) P E ↔ P (!xs.isEmpty) s := by
  simp only [trB, trW, e, wp_ok]
theorem va_ok {w : W} {vs : List Vn} (hw : Row w vs) {sn : Int} {st : Sto} {E : Xc → Sto → Prop} : wp (r_version_at [w, .int sn] st) (fun r s => r = oW (vat vs sn) ∧ s = st) E := by
  simp only [r_version_at, m_version_at]
  simp only [ws_seq, ws_if, ws_set, ws_sub, ws_ret, ws_retN, ws_expr, ws_sNx, ws_for, wp_op, wp_var0, wp_varS, wp_c, wp_mB, wp_toB, wp_tr, wp_trB_bl, wp_trB_non, wp_trB_int, wp_not, wp_and, wp_or, wp_if, wp_mBl, wp_nil, wp_cons, wp_tup, wp_lst, wp_lstS, wp_newL_t, wp_newL_f, wp_chain, wp_call, wp_fn, wp_sl, wp_noPart, wp_part, wp_comp, wp_yes, wp_iL, wp_iA, wp_srcL, wp_srcS, wp_srcAL, wp_srcAT, wp_iR1, wp_iR2, wp_rng1, wp_rng2, wp_iRv, wp_srcRL, wp_srcRT, wp_iEA, wp_srcEL, wp_srcET, wp_add, wp_sub, wp_mul, wp_mod, wp_div, wp_divW, wp_pow18, wp_pow17, wp_pow16, wp_pow30, wp_eqI, wp_neI, wp_cmpI, wp_isN, wp_isNotN, wp_lenL, wp_lenT, wp_abs, wp_int, wp_min2, wp_max2, wp_listL, wp_listT, wp_tupleL, wp_tupleT, wp_ixT0, wp_ixT1, wp_ixL0, wp_neg, wp_ok, wp_srcEL, wp_isB, wp_isNotB, wp_eqB, wp_neB, wp_all, wp_any, wp_slT, wp_slL, wp_rev, wp_revT, wp_revL, wp_disp, wp_pair, wp_pair0, wp_dict0, wipeW, List.foldl_cons, List.foldl_nil, wp_run, List.map, List.length, List.replicate, List.cons_append, List.nil_append, List.append_nil, List.set_cons_zero, List.set_cons_succ, if_true, if_false, Bool.not_true, Bool.not_false, Bool.true_eq_false, Bool.false_eq_true, Nat.reduceAdd, Nat.reduceSub, gName', src_row hw]
  refine forS_fix (fun i e s => s = st ∧ ∃ p, e = [some w, some (.int sn), p] ∧ ∀ (j : Nat) (u : Vn), j < i → vs[j]? = some u → ¬ u.1 ≤ sn) ⟨rfl, none, rfl, fun j u h => by omega⟩ (fun i x e env s z => ?_) (fun env s z => ?_)
  · obtain ⟨rfl, p, rfl, z⟩ := z
    obtain ⟨v, ev, rfl⟩ := getv' e
    refine ⟨_, _, rfl, ?_⟩
    simp only [ws_seq, ws_if, ws_set, ws_sub, ws_ret, ws_retN, ws_expr, ws_sNx, ws_for, wp_op, wp_var0, wp_varS, wp_c, wp_mB, wp_toB, wp_tr, wp_trB_bl, wp_trB_non, wp_trB_int, wp_not, wp_and, wp_or, wp_if, wp_mBl, wp_nil, wp_cons, wp_tup, wp_lst, wp_lstS, wp_newL_t, wp_newL_f, wp_chain, wp_call, wp_fn, wp_sl, wp_noPart, wp_part, wp_comp, wp_yes, wp_iL, wp_iA, wp_srcL, wp_srcS, wp_srcAL, wp_srcAT, wp_iR1, wp_iR2, wp_rng1, wp_rng2, wp_iRv, wp_srcRL, wp_srcRT, wp_iEA, wp_srcEL, wp_srcET, wp_add, wp_sub, wp_mul, wp_mod, wp_div, wp_divW, wp_pow18, wp_pow17, wp_pow16, wp_pow30, wp_eqI, wp_neI, wp_cmpI, wp_isN, wp_isNotN, wp_lenL, wp_lenT, wp_abs, wp_int, wp_min2, wp_max2, wp_listL, wp_listT, wp_tupleL, wp_tupleT, wp_ixT0, wp_ixT1, wp_ixL0, wp_neg, wp_ok, wp_srcEL, wp_isB, wp_isNotB, wp_eqB, wp_neB, wp_all, wp_any, wp_slT, wp_slL, wp_rev, wp_revT, wp_revL, wp_disp, wp_pair, wp_pair0, wp_dict0, wipeW, List.foldl_cons, List.foldl_nil, wp_run, List.map, List.length, List.replicate, List.cons_append, List.nil_append, List.append_nil, List.set_cons_zero, List.set_cons_succ, if_true, if_false, Bool.not_true, Bool.not_false, Bool.true_eq_false, Bool.false_eq_true, Nat.reduceAdd, Nat.reduceSub, gName', wp_vc, decide_eq_true_eq]
    split
    · rename_i h
      exact ⟨by rw [vat_at ev h z]; rfl, trivial⟩
    · rename_i h
      refine ⟨trivial, _, rfl, fun j u hj eu => ?_⟩
      by_cases q : j = i
      · subst q
        rw [ev] at eu
        cases eu
        exact h
      · exact z j u (by omega) eu
  · obtain ⟨rfl, p, rfl, z⟩ := z
    simp only [ws_seq, ws_if, ws_set, ws_sub, ws_ret, ws_retN, ws_expr, ws_sNx, ws_for, wp_op, wp_var0, wp_varS, wp_c, wp_mB, wp_toB, wp_tr, wp_trB_bl, wp_trB_non, wp_trB_int, wp_not, wp_and, wp_or, wp_if, wp_mBl, wp_nil, wp_cons, wp_tup, wp_lst, wp_lstS, wp_newL_t, wp_newL_f, wp_chain, wp_call, wp_fn, wp_sl, wp_noPart, wp_part, wp_comp, wp_yes, wp_iL, wp_iA, wp_srcL, wp_srcS, wp_srcAL, wp_srcAT, wp_iR1, wp_iR2, wp_rng1, wp_rng2, wp_iRv, wp_srcRL, wp_srcRT, wp_iEA, wp_srcEL, wp_srcET, wp_add, wp_sub, wp_mul, wp_mod, wp_div, wp_divW, wp_pow18, wp_pow17, wp_pow16, wp_pow30, wp_eqI, wp_neI, wp_cmpI, wp_isN, wp_isNotN, wp_lenL, wp_lenT, wp_abs, wp_int, wp_min2, wp_max2, wp_listL, wp_listT, wp_tupleL, wp_tupleT, wp_ixT0, wp_ixT1, wp_ixL0, wp_neg, wp_ok, wp_srcEL, wp_isB, wp_isNotB, wp_eqB, wp_neB, wp_all, wp_any, wp_slT, wp_slL, wp_rev, wp_revT, wp_revL, wp_disp, wp_pair, wp_pair0, wp_dict0, wipeW, List.foldl_cons, List.foldl_nil, wp_run, List.map, List.length, List.replicate, List.cons_append, List.nil_append, List.append_nil, List.set_cons_zero, List.set_cons_succ, if_true, if_false, Bool.not_true, Bool.not_false, Bool.true_eq_false, Bool.false_eq_true, Nat.reduceAdd, Nat.reduceSub, gName']
    refine ⟨?_, trivial⟩
    rw [vat_none fun j u eu => z j u (by have := (List.getElem?_eq_some_iff.mp eu).1; simpa using this) eu]
    rfl
theorem take_get {α : Type} {l : List α} {i : Nat} {x : α} (e : l[i]? = some x) : l.take (i + 1) = l.take i ++ [x] := by
  rw [List.take_add_one, e]; rfl
theorem fold_step {sn : Vn → Bool} {l : List Vn} {i : Nat} {v : Vn} (e : l[i]? = some v) : (l.take (i + 1)).foldl (kps sn) [] = kps sn ((l.take i).foldl (kps sn) []) v := by
  rw [take_get e, List.foldl_append]; rfl
theorem kps_len {sn : Vn → Bool} : ∀ {l : List Vn} {acc : List Int}, (l.foldl (kps sn) acc).length ≤ acc.length + l.length
  | [], acc => by simp
  | v :: l, acc => by
    have := kps_len (sn := sn) (l := l) (acc := kps sn acc v)
    have h : (kps sn acc v).length ≤ acc.length + 1 := by unfold kps; split <;> simp
    simp only [List.foldl_cons, List.length_cons]
    omega
theorem na_ok {w : W} {vs : List Vn} (hw : Row w vs) (hl : vs.length ≤ 40) {asked : List Int} (ha : asked.length ≤ 50) {st : Sto} : wp (r_needed_at [w, .lst (asked.map W.int)] st) (fun r s => r = .tup ((need (fun v => decide (some v ∈ asked.map (vat vs))) vs).map W.int) ∧ Ext st s) NoE := by
  simp only [r_needed_at, m_needed_at]
  simp only [ws_seq, ws_if, ws_set, ws_sub, ws_ret, ws_retN, ws_expr, ws_sNx, ws_for, wp_op, wp_var0, wp_varS, wp_c, wp_mB, wp_toB, wp_tr, wp_trB_bl, wp_trB_non, wp_trB_int, wp_not, wp_and, wp_or, wp_if, wp_mBl, wp_nil, wp_cons, wp_tup, wp_lst, wp_lstS, wp_newL_t, wp_newL_f, wp_chain, wp_call, wp_fn, wp_sl, wp_noPart, wp_part, wp_comp, wp_yes, wp_iL, wp_iA, wp_srcL, wp_srcS, wp_srcAL, wp_srcAT, wp_iR1, wp_iR2, wp_rng1, wp_rng2, wp_iRv, wp_srcRL, wp_srcRT, wp_iEA, wp_srcEL, wp_srcET, wp_add, wp_sub, wp_mul, wp_mod, wp_div, wp_divW, wp_pow18, wp_pow17, wp_pow16, wp_pow30, wp_eqI, wp_neI, wp_cmpI, wp_isN, wp_isNotN, wp_lenL, wp_lenT, wp_abs, wp_int, wp_min2, wp_max2, wp_listL, wp_listT, wp_tupleL, wp_tupleT, wp_ixT0, wp_ixT1, wp_ixL0, wp_neg, wp_ok, wp_srcEL, wp_isB, wp_isNotB, wp_eqB, wp_neB, wp_all, wp_any, wp_slT, wp_slL, wp_rev, wp_revT, wp_revL, wp_disp, wp_pair, wp_pair0, wp_dict0, wipeW, List.foldl_cons, List.foldl_nil, wp_run, List.map, List.length, List.replicate, List.cons_append, List.nil_append, List.append_nil, List.set_cons_zero, List.set_cons_succ, if_true, if_false, Bool.not_true, Bool.not_false, Bool.true_eq_false, Bool.false_eq_true, Nat.reduceAdd, Nat.reduceSub, gName']
  refine compS_fix (fun i acc s => s = st ∧ acc.length = i ∧ acc = ((asked.take i).map (vat vs)).map oW) ⟨rfl, rfl, rfl⟩ (by simp [sizeLine]; omega) (fun i acc s z => by omega) (fun i x e acc s z => ?_) (fun acc s z => ?_)
  · obtain ⟨rfl, z1, z2⟩ := z
    obtain ⟨n, en, rfl⟩ := geti e
    refine ⟨_, rfl, ?_⟩
    simp only [wp_yes, if_true, wipeW]
    simp only [ws_seq, ws_if, ws_set, ws_sub, ws_ret, ws_retN, ws_expr, ws_sNx, ws_for, wp_op, wp_var0, wp_varS, wp_c, wp_mB, wp_toB, wp_tr, wp_trB_bl, wp_trB_non, wp_trB_int, wp_not, wp_and, wp_or, wp_if, wp_mBl, wp_nil, wp_cons, wp_tup, wp_lst, wp_lstS, wp_newL_t, wp_newL_f, wp_chain, wp_call, wp_fn, wp_sl, wp_noPart, wp_part, wp_comp, wp_yes, wp_iL, wp_iA, wp_srcL, wp_srcS, wp_srcAL, wp_srcAT, wp_iR1, wp_iR2, wp_rng1, wp_rng2, wp_iRv, wp_srcRL, wp_srcRT, wp_iEA, wp_srcEL, wp_srcET, wp_add, wp_sub, wp_mul, wp_mod, wp_div, wp_divW, wp_pow18, wp_pow17, wp_pow16, wp_pow30, wp_eqI, wp_neI, wp_cmpI, wp_isN, wp_isNotN, wp_lenL, wp_lenT, wp_abs, wp_int, wp_min2, wp_max2, wp_listL, wp_listT, wp_tupleL, wp_tupleT, wp_ixT0, wp_ixT1, wp_ixL0, wp_neg, wp_ok, wp_srcEL, wp_isB, wp_isNotB, wp_eqB, wp_neB, wp_all, wp_any, wp_slT, wp_slL, wp_rev, wp_revT, wp_revL, wp_disp, wp_pair, wp_pair0, wp_dict0, wipeW, List.foldl_cons, List.foldl_nil, wp_run, List.map, List.length, List.replicate, List.cons_append, List.nil_append, List.append_nil, List.set_cons_zero, List.set_cons_succ, if_true, if_false, Bool.not_true, Bool.not_false, Bool.true_eq_false, Bool.false_eq_true, Nat.reduceAdd, Nat.reduceSub, gName']
    refine wp_eq (va_ok hw) ?_
    exact ⟨rfl, by simp [z1], by rw [take_get en, z2]; simp⟩
  · obtain ⟨rfl, z1, z2⟩ := z
    rw [List.length_map] at z2
    rw [List.take_of_length_le (Nat.le_refl _)] at z2
    subst z2
    simp only [ws_seq, ws_if, ws_set, ws_sub, ws_ret, ws_retN, ws_expr, ws_sNx, ws_for, wp_op, wp_var0, wp_varS, wp_c, wp_mB, wp_toB, wp_tr, wp_trB_bl, wp_trB_non, wp_trB_int, wp_not, wp_and, wp_or, wp_if, wp_mBl, wp_nil, wp_cons, wp_tup, wp_lst, wp_lstS, wp_newL_t, wp_newL_f, wp_chain, wp_call, wp_fn, wp_sl, wp_noPart, wp_part, wp_comp, wp_yes, wp_iL, wp_iA, wp_srcL, wp_srcS, wp_srcAL, wp_srcAT, wp_iR1, wp_iR2, wp_rng1, wp_rng2, wp_iRv, wp_srcRL, wp_srcRT, wp_iEA, wp_srcEL, wp_srcET, wp_add, wp_sub, wp_mul, wp_mod, wp_div, wp_divW, wp_pow18, wp_pow17, wp_pow16, wp_pow30, wp_eqI, wp_neI, wp_cmpI, wp_isN, wp_isNotN, wp_lenL, wp_lenT, wp_abs, wp_int, wp_min2, wp_max2, wp_listL, wp_listT, wp_tupleL, wp_tupleT, wp_ixT0, wp_ixT1, wp_ixL0, wp_neg, wp_ok, wp_srcEL, wp_isB, wp_isNotB, wp_eqB, wp_neB, wp_all, wp_any, wp_slT, wp_slL, wp_rev, wp_revT, wp_revL, wp_disp, wp_pair, wp_pair0, wp_dict0, wipeW, List.foldl_cons, List.foldl_nil, wp_run, List.map, List.length, List.replicate, List.cons_append, List.nil_append, List.append_nil, List.set_cons_zero, List.set_cons_succ, if_true, if_false, Bool.not_true, Bool.not_false, Bool.true_eq_false, Bool.false_eq_true, Nat.reduceAdd, Nat.reduceSub, gName', rev_row hw]
    generalize hseen : asked.map (vat vs) = seen
    rw [← List.map_reverse]
    refine forS_fix (fun i e s' => Ext s s' ∧ s'[s.length]? = some (.lst (((vs.reverse.take i).foldl (kps fun v => decide (some v ∈ seen)) []).map W.int)) ∧ ∃ p q, e = [some w, some (.lst (asked.map W.int)), some (.lst (seen.map oW)), some (.ref s.length), p, q]) ⟨Ext.app, get_new, none, none, rfl⟩ (fun i x e env s' z => ?_) (fun env s' z => ?_)
    · obtain ⟨z1, z2, p, q, rfl⟩ := z
      obtain ⟨v, ev, rfl⟩ := getv' e
      refine ⟨_, _, rfl, ?_⟩
      rw [fold_step ev]
      have hlen := kps_len (sn := fun v => decide (some v ∈ seen)) (l := vs.reverse.take i) (acc := [])
      generalize (vs.reverse.take i).foldl (kps fun v => decide (some v ∈ seen)) [] = acc at z2 hlen ⊢
      have hal : (acc.map W.int).length < sizeLine := by simp [sizeLine] at hlen ⊢; omega
      have em : (acc.map W.int).isEmpty = acc.isEmpty := by cases acc <;> rfl
      refine ws_if_to (b := decide (some v ∈ seen) && (!decide (v.2 = none) || !acc.isEmpty)) ?_ ?_
      · simp only [ws_seq, ws_if, ws_set, ws_sub, ws_ret, ws_retN, ws_expr, ws_sNx, ws_for, wp_op, wp_var0, wp_varS, wp_c, wp_mB, wp_toB, wp_tr, wp_trB_bl, wp_trB_non, wp_trB_int, wp_not, wp_and, wp_or, wp_if, wp_mBl, wp_nil, wp_cons, wp_tup, wp_lst, wp_lstS, wp_newL_t, wp_newL_f, wp_chain, wp_call, wp_fn, wp_sl, wp_noPart, wp_part, wp_comp, wp_yes, wp_iL, wp_iA, wp_srcL, wp_srcS, wp_srcAL, wp_srcAT, wp_iR1, wp_iR2, wp_rng1, wp_rng2, wp_iRv, wp_srcRL, wp_srcRT, wp_iEA, wp_srcEL, wp_srcET, wp_add, wp_sub, wp_mul, wp_mod, wp_div, wp_divW, wp_pow18, wp_pow17, wp_pow16, wp_pow30, wp_eqI, wp_neI, wp_cmpI, wp_isN, wp_isNotN, wp_lenL, wp_lenT, wp_abs, wp_int, wp_min2, wp_max2, wp_listL, wp_listT, wp_tupleL, wp_tupleT, wp_ixT0, wp_ixT1, wp_ixL0, wp_neg, wp_ok, wp_srcEL, wp_isB, wp_isNotB, wp_eqB, wp_neB, wp_all, wp_any, wp_slT, wp_slL, wp_rev, wp_revT, wp_revL, wp_disp, wp_pair, wp_pair0, wp_dict0, wipeW, List.foldl_cons, List.foldl_nil, wp_run, List.map, List.length, List.replicate, List.cons_append, List.nil_append, List.append_nil, List.set_cons_zero, List.set_cons_succ, if_true, if_false, Bool.not_true, Bool.not_false, Bool.true_eq_false, Bool.false_eq_true, Nat.reduceAdd, Nat.reduceSub, gName', wp_inD, wp_vm, non_m, wp_trBR z2]
        by_cases h1 : some v ∈ seen
        · by_cases h2 : v.2 = none
          · simp [h1, h2, em]
          · simp [h1, h2]
        · simp [h1]
      · unfold kps
        split
        · simp only [ws_seq, ws_if, ws_set, ws_sub, ws_ret, ws_retN, ws_expr, ws_sNx, ws_for, wp_op, wp_var0, wp_varS, wp_c, wp_mB, wp_toB, wp_tr, wp_trB_bl, wp_trB_non, wp_trB_int, wp_not, wp_and, wp_or, wp_if, wp_mBl, wp_nil, wp_cons, wp_tup, wp_lst, wp_lstS, wp_newL_t, wp_newL_f, wp_chain, wp_call, wp_fn, wp_sl, wp_noPart, wp_part, wp_comp, wp_yes, wp_iL, wp_iA, wp_srcL, wp_srcS, wp_srcAL, wp_srcAT, wp_iR1, wp_iR2, wp_rng1, wp_rng2, wp_iRv, wp_srcRL, wp_srcRT, wp_iEA, wp_srcEL, wp_srcET, wp_add, wp_sub, wp_mul, wp_mod, wp_div, wp_divW, wp_pow18, wp_pow17, wp_pow16, wp_pow30, wp_eqI, wp_neI, wp_cmpI, wp_isN, wp_isNotN, wp_lenL, wp_lenT, wp_abs, wp_int, wp_min2, wp_max2, wp_listL, wp_listT, wp_tupleL, wp_tupleT, wp_ixT0, wp_ixT1, wp_ixL0, wp_neg, wp_ok, wp_srcEL, wp_isB, wp_isNotB, wp_eqB, wp_neB, wp_all, wp_any, wp_slT, wp_slL, wp_rev, wp_revT, wp_revL, wp_disp, wp_pair, wp_pair0, wp_dict0, wipeW, List.foldl_cons, List.foldl_nil, wp_run, List.map, List.length, List.replicate, List.cons_append, List.nil_append, List.append_nil, List.set_cons_zero, List.set_cons_succ, if_true, if_false, Bool.not_true, Bool.not_false, Bool.true_eq_false, Bool.false_eq_true, Nat.reduceAdd, Nat.reduceSub, gName', wp_lm]
          refine ⟨by simp [seqL, z2], ?_⟩
          simp only [ws_seq, ws_if, ws_set, ws_sub, ws_ret, ws_retN, ws_expr, ws_sNx, ws_for, wp_op, wp_var0, wp_varS, wp_c, wp_mB, wp_toB, wp_tr, wp_trB_bl, wp_trB_non, wp_trB_int, wp_not, wp_and, wp_or, wp_if, wp_mBl, wp_nil, wp_cons, wp_tup, wp_lst, wp_lstS, wp_newL_t, wp_newL_f, wp_chain, wp_call, wp_fn, wp_sl, wp_noPart, wp_part, wp_comp, wp_yes, wp_iL, wp_iA, wp_srcL, wp_srcS, wp_srcAL, wp_srcAT, wp_iR1, wp_iR2, wp_rng1, wp_rng2, wp_iRv, wp_srcRL, wp_srcRT, wp_iEA, wp_srcEL, wp_srcET, wp_add, wp_sub, wp_mul, wp_mod, wp_div, wp_divW, wp_pow18, wp_pow17, wp_pow16, wp_pow30, wp_eqI, wp_neI, wp_cmpI, wp_isN, wp_isNotN, wp_lenL, wp_lenT, wp_abs, wp_int, wp_min2, wp_max2, wp_listL, wp_listT, wp_tupleL, wp_tupleT, wp_ixT0, wp_ixT1, wp_ixL0, wp_neg, wp_ok, wp_srcEL, wp_isB, wp_isNotB, wp_eqB, wp_neB, wp_all, wp_any, wp_slT, wp_slL, wp_rev, wp_revT, wp_revL, wp_disp, wp_pair, wp_pair0, wp_dict0, wipeW, List.foldl_cons, List.foldl_nil, wp_run, List.map, List.length, List.replicate, List.cons_append, List.nil_append, List.append_nil, List.set_cons_zero, List.set_cons_succ, if_true, if_false, Bool.not_true, Bool.not_false, Bool.true_eq_false, Bool.false_eq_true, Nat.reduceAdd, Nat.reduceSub, gName', wp_vc, wp_app z2 hal]
          refine ⟨z1.set (Nat.le_refl _), ?_, _, _, rfl⟩
          rw [get_setp z2]; simp
        · exact ⟨z1, z2, _, _, rfl⟩
    · obtain ⟨z1, z2, p, q, rfl⟩ := z
      simp only [ws_seq, ws_if, ws_set, ws_sub, ws_ret, ws_retN, ws_expr, ws_sNx, ws_for, wp_op, wp_var0, wp_varS, wp_c, wp_mB, wp_toB, wp_tr, wp_trB_bl, wp_trB_non, wp_trB_int, wp_not, wp_and, wp_or, wp_if, wp_mBl, wp_nil, wp_cons, wp_tup, wp_lst, wp_lstS, wp_newL_t, wp_newL_f, wp_chain, wp_call, wp_fn, wp_sl, wp_noPart, wp_part, wp_comp, wp_yes, wp_iL, wp_iA, wp_srcL, wp_srcS, wp_srcAL, wp_srcAT, wp_iR1, wp_iR2, wp_rng1, wp_rng2, wp_iRv, wp_srcRL, wp_srcRT, wp_iEA, wp_srcEL, wp_srcET, wp_add, wp_sub, wp_mul, wp_mod, wp_div, wp_divW, wp_pow18, wp_pow17, wp_pow16, wp_pow30, wp_eqI, wp_neI, wp_cmpI, wp_isN, wp_isNotN, wp_lenL, wp_lenT, wp_abs, wp_int, wp_min2, wp_max2, wp_listL, wp_listT, wp_tupleL, wp_tupleT, wp_ixT0, wp_ixT1, wp_ixL0, wp_neg, wp_ok, wp_srcEL, wp_isB, wp_isNotB, wp_eqB, wp_neB, wp_all, wp_any, wp_slT, wp_slL, wp_rev, wp_revT, wp_revL, wp_disp, wp_pair, wp_pair0, wp_dict0, wipeW, List.foldl_cons, List.foldl_nil, wp_run, List.map, List.length, List.replicate, List.cons_append, List.nil_append, List.append_nil, List.set_cons_zero, List.set_cons_succ, if_true, if_false, Bool.not_true, Bool.not_false, Bool.true_eq_false, Bool.false_eq_true, Nat.reduceAdd, Nat.reduceSub, gName', wp_tupleR z2]
      refine ⟨?_, z1⟩
      rw [List.length_map, List.take_of_length_le (Nat.le_refl _)]
      rfl
theorem nd_len {vs : List Vn} {ns : List Int} (g : Good vs) : (nd vs ns).length ≤ 40 := Nat.le_trans need_len g.few
theorem needed_ok {w : W} {vs : List Vn} {ns : List Int} {last : Int} (hw : Row w vs) (g : Good vs) (gl : Lot ns last) (l0 : 0 ≤ last) (l1 : last ≤ 1000000000000000000) (hn : ∀ v ∈ vs, v.1 ≤ last) {st : Sto} : wp (r_needed [w, .tup (ns.map W.int), .int last] st) (fun r s => r = .tup ((nd vs ns).map W.int) ∧ Ext st s) NoE := by
  simp only [r_needed, m_needed]
  simp only [ws_seq, ws_if, ws_set, ws_sub, ws_ret, ws_retN, ws_expr, ws_sNx, ws_for, wp_op, wp_var0, wp_varS, wp_c, wp_mB, wp_toB, wp_tr, wp_trB_bl, wp_trB_non, wp_trB_int, wp_not, wp_and, wp_or, wp_if, wp_mBl, wp_nil, wp_cons, wp_tup, wp_lst, wp_lstS, wp_newL_t, wp_newL_f, wp_chain, wp_call, wp_fn, wp_sl, wp_noPart, wp_part, wp_comp, wp_yes, wp_iL, wp_iA, wp_srcL, wp_srcS, wp_srcAL, wp_srcAT, wp_iR1, wp_iR2, wp_rng1, wp_rng2, wp_iRv, wp_srcRL, wp_srcRT, wp_iEA, wp_srcEL, wp_srcET, wp_add, wp_sub, wp_mul, wp_mod, wp_div, wp_divW, wp_pow18, wp_pow17, wp_pow16, wp_pow30, wp_eqI, wp_neI, wp_cmpI, wp_isN, wp_isNotN, wp_lenL, wp_lenT, wp_abs, wp_int, wp_min2, wp_max2, wp_listL, wp_listT, wp_tupleL, wp_tupleT, wp_ixT0, wp_ixT1, wp_ixL0, wp_neg, wp_ok, wp_srcEL, wp_isB, wp_isNotB, wp_eqB, wp_neB, wp_all, wp_any, wp_slT, wp_slL, wp_rev, wp_revT, wp_revL, wp_disp, wp_pair, wp_pair0, wp_dict0, wipeW, List.foldl_cons, List.foldl_nil, wp_run, List.map, List.length, List.replicate, List.cons_append, List.nil_append, List.append_nil, List.set_cons_zero, List.set_cons_succ, if_true, if_false, Bool.not_true, Bool.not_false, Bool.true_eq_false, Bool.false_eq_true, Nat.reduceAdd, Nat.reduceSub, gName']
  refine wp_no (da_ok hw g gl l0 l1 hn) ?_
  rintro _ s rfl
  simp only [ws_seq, ws_if, ws_set, ws_sub, ws_ret, ws_retN, ws_expr, ws_sNx, ws_for, wp_op, wp_var0, wp_varS, wp_c, wp_mB, wp_toB, wp_tr, wp_trB_bl, wp_trB_non, wp_trB_int, wp_not, wp_and, wp_or, wp_if, wp_mBl, wp_nil, wp_cons, wp_tup, wp_lst, wp_lstS, wp_newL_t, wp_newL_f, wp_chain, wp_call, wp_fn, wp_sl, wp_noPart, wp_part, wp_comp, wp_yes, wp_iL, wp_iA, wp_srcL, wp_srcS, wp_srcAL, wp_srcAT, wp_iR1, wp_iR2, wp_rng1, wp_rng2, wp_iRv, wp_srcRL, wp_srcRT, wp_iEA, wp_srcEL, wp_srcET, wp_add, wp_sub, wp_mul, wp_mod, wp_div, wp_divW, wp_pow18, wp_pow17, wp_pow16, wp_pow30, wp_eqI, wp_neI, wp_cmpI, wp_isN, wp_isNotN, wp_lenL, wp_lenT, wp_abs, wp_int, wp_min2, wp_max2, wp_listL, wp_listT, wp_tupleL, wp_tupleT, wp_ixT0, wp_ixT1, wp_ixL0, wp_neg, wp_ok, wp_srcEL, wp_isB, wp_isNotB, wp_eqB, wp_neB, wp_all, wp_any, wp_slT, wp_slL, wp_rev, wp_revT, wp_revL, wp_disp, wp_pair, wp_pair0, wp_dict0, wipeW, List.foldl_cons, List.foldl_nil, wp_run, List.map, List.length, List.replicate, List.cons_append, List.nil_append, List.append_nil, List.set_cons_zero, List.set_cons_succ, if_true, if_false, Bool.not_true, Bool.not_false, Bool.true_eq_false, Bool.false_eq_true, Nat.reduceAdd, Nat.reduceSub, gName', wp_star, itsW]
  have hf := gl.few
  refine ⟨by simp [sizeLine]; omega, ?_⟩
  have e : ns.map W.int ++ [W.int last] = (ns ++ [last]).map W.int := by simp
  rw [e]
  refine wp_no (na_ok hw g.few (by simp; omega)) ?_
  rintro _ s2 ⟨rfl, x⟩
  refine ⟨?_, x⟩
  have : (fun v => decide (some v ∈ (ns ++ [last]).map (vat vs))) = lsn vs ns := by funext v; exact sn_eq hn v
  rw [this]
  rfl
theorem Good.filter {vs : List Vn} (g : Good vs) (p : Vn → Bool) : Good (vs.filter p) := ⟨g.desc.sublist List.filter_sublist, fun v hv => g.ok v (List.mem_filter.mp hv).1, Nat.le_trans (List.length_filter_le ..) g.few⟩
end Lw
namespace Lw
open PySem L2 Mi
theorem pick3 {x a b c : Int} (x0 : 0 ≤ x) (x1 : x < 3) : ∃ m : Int, [W.int a, .int b, .int c][x.toNat]? = some (.int m) ∧ (m = a ∨ m = b ∨ m = c) := by
  have : x = 0 ∨ x = 1 ∨ x = 2 := by omega
  rcases this with rfl | rfl | rfl
  · exact ⟨a, rfl, by simp⟩
  · exact ⟨b, rfl, by simp⟩
  · exact ⟨c, rfl, by simp⟩
theorem pick2 {x a b : Int} (x0 : 0 ≤ x) (x1 : x < 2) : ∃ m : Int, [W.int a, .int b][x.toNat]? = some (.int m) ∧ (m = a ∨ m = b) := by
  have : x = 0 ∨ x = 1 := by omega
  rcases this with rfl | rfl
  · exact ⟨a, rfl, by simp⟩
  · exact ⟨b, rfl, by simp⟩
theorem versions_ok {h : Nat} {st : Sto} (g : Bg h st) : wp (r_law_versions [.ref h] st) (fun w s => ∃ vs : List Vn, w = .lst (vs.map vW) ∧ Good vs ∧ vs.length ≤ 12 ∧ (∀ v ∈ vs, v.1 ≤ 400000000000000000) ∧ Up h st s ∧ Bg h s) NoE := by
  simp only [r_law_versions, m_law_versions]
  simp only [ws_seq, ws_if, ws_set, ws_sub, ws_ret, ws_retN, ws_expr, ws_sNx, ws_for, wp_op, wp_var0, wp_varS, wp_c, wp_mB, wp_toB, wp_tr, wp_trB_bl, wp_trB_non, wp_trB_int, wp_not, wp_and, wp_or, wp_if, wp_mBl, wp_nil, wp_cons, wp_tup, wp_lst, wp_lstS, wp_newL_t, wp_newL_f, wp_chain, wp_call, wp_fn, wp_sl, wp_noPart, wp_part, wp_comp, wp_yes, wp_iL, wp_iA, wp_srcL, wp_srcS, wp_srcAL, wp_srcAT, wp_iR1, wp_iR2, wp_rng1, wp_rng2, wp_iRv, wp_srcRL, wp_srcRT, wp_iEA, wp_srcEL, wp_srcET, wp_add, wp_sub, wp_mul, wp_mod, wp_div, wp_divW, wp_pow18, wp_pow17, wp_pow16, wp_pow30, wp_eqI, wp_neI, wp_cmpI, wp_isN, wp_isNotN, wp_lenL, wp_lenT, wp_abs, wp_int, wp_min2, wp_max2, wp_listL, wp_listT, wp_tupleL, wp_tupleT, wp_ixT0, wp_ixT1, wp_ixL0, wp_neg, wp_ok, wp_srcEL, wp_isB, wp_isNotB, wp_eqB, wp_neB, wp_all, wp_any, wp_slT, wp_slL, wp_rev, wp_revT, wp_revL, wp_disp, wp_pair, wp_pair0, wp_dict0, wipeW, List.foldl_cons, List.foldl_nil, wp_run, List.map, List.length, List.replicate, List.cons_append, List.nil_append, List.append_nil, List.set_cons_zero, List.set_cons_succ, if_true, if_false, Bool.not_true, Bool.not_false, Bool.true_eq_false, Bool.false_eq_true, Nat.reduceAdd, Nat.reduceSub, gName']
  refine wp_no (draw1 g (by decide) (by decide)) ?_
  rintro _ s ⟨x, rfl, x0, x1, u, g⟩
  obtain ⟨m, hm, hm1⟩ := pick2 (a := 5) (b := 13) x0 x1
  rw [wp_ixLi x0 hm]
  refine wp_no (draw1 g (by omega) (log_of (by omega) (by omega))) ?_
  rintro _ s2 ⟨n, rfl, n0, n1, u2, g⟩
  refine (wp_rng1).2 ⟨small62_lit n0 (by omega), ?_⟩
  refine forS_fix (fun i e s => ∃ (vs : List Vn) (c : Int) (k l : Option W), e = [some (.ref h), some (.lst (vs.map vW)), some (.int c), k, l] ∧ vs.length = i ∧ Desc vs ∧ (∀ v ∈ vs, 1 ≤ v.1 ∧ v.1 ≤ c ∧ MarkO v.2) ∧ 0 ≤ c ∧ c ≤ i * 20000000000000000 ∧ Up h st s ∧ Bg h s)
    ⟨[], 0, none, none, rfl, rfl, List.Pairwise.nil, by simp, by decide, by decide, u.trans u2, g⟩ (fun i w e env s z => ?_) (fun env s z => ?_)
  · obtain ⟨rfl, hi⟩ := rng_get e
    obtain ⟨vs, c, k, l, rfl, z1, z2, z3, z4, z5, z6, z7⟩ := z
    refine ⟨_, _, rfl, ?_⟩
    simp only [ws_seq, ws_if, ws_set, ws_sub, ws_ret, ws_retN, ws_expr, ws_sNx, ws_for, wp_op, wp_var0, wp_varS, wp_c, wp_mB, wp_toB, wp_tr, wp_trB_bl, wp_trB_non, wp_trB_int, wp_not, wp_and, wp_or, wp_if, wp_mBl, wp_nil, wp_cons, wp_tup, wp_lst, wp_lstS, wp_newL_t, wp_newL_f, wp_chain, wp_call, wp_fn, wp_sl, wp_noPart, wp_part, wp_comp, wp_yes, wp_iL, wp_iA, wp_srcL, wp_srcS, wp_srcAL, wp_srcAT, wp_iR1, wp_iR2, wp_rng1, wp_rng2, wp_iRv, wp_srcRL, wp_srcRT, wp_iEA, wp_srcEL, wp_srcET, wp_add, wp_sub, wp_mul, wp_mod, wp_div, wp_divW, wp_pow18, wp_pow17, wp_pow16, wp_pow30, wp_eqI, wp_neI, wp_cmpI, wp_isN, wp_isNotN, wp_lenL, wp_lenT, wp_abs, wp_int, wp_min2, wp_max2, wp_listL, wp_listT, wp_tupleL, wp_tupleT, wp_ixT0, wp_ixT1, wp_ixL0, wp_neg, wp_ok, wp_srcEL, wp_isB, wp_isNotB, wp_eqB, wp_neB, wp_all, wp_any, wp_slT, wp_slL, wp_rev, wp_revT, wp_revL, wp_disp, wp_pair, wp_pair0, wp_dict0, wipeW, List.foldl_cons, List.foldl_nil, wp_run, List.map, List.length, List.replicate, List.cons_append, List.nil_append, List.append_nil, List.set_cons_zero, List.set_cons_succ, if_true, if_false, Bool.not_true, Bool.not_false, Bool.true_eq_false, Bool.false_eq_true, Nat.reduceAdd, Nat.reduceSub, gName']
    refine wp_no (draw1 z7 (by decide) (by decide)) ?_
    rintro _ s ⟨x, rfl, x0, x1, u3, g⟩
    obtain ⟨m, hm, hm1⟩ := pick3 (a := 1) (b := 3) (c := 10000000000000000) x0 x1
    rw [wp_ixLi x0 hm]
    refine wp_no (draw1 g (by omega) (log_of (by omega) (by omega))) ?_
    rintro _ s3 ⟨y, rfl, y0, y1, u4, g⟩
    simp only [ws_seq, ws_if, ws_set, ws_sub, ws_ret, ws_retN, ws_expr, ws_sNx, ws_for, wp_op, wp_var0, wp_varS, wp_c, wp_mB, wp_toB, wp_tr, wp_trB_bl, wp_trB_non, wp_trB_int, wp_not, wp_and, wp_or, wp_if, wp_mBl, wp_nil, wp_cons, wp_tup, wp_lst, wp_lstS, wp_newL_t, wp_newL_f, wp_chain, wp_call, wp_fn, wp_sl, wp_noPart, wp_part, wp_comp, wp_yes, wp_iL, wp_iA, wp_srcL, wp_srcS, wp_srcAL, wp_srcAT, wp_iR1, wp_iR2, wp_rng1, wp_rng2, wp_iRv, wp_srcRL, wp_srcRT, wp_iEA, wp_srcEL, wp_srcET, wp_add, wp_sub, wp_mul, wp_mod, wp_div, wp_divW, wp_pow18, wp_pow17, wp_pow16, wp_pow30, wp_eqI, wp_neI, wp_cmpI, wp_isN, wp_isNotN, wp_lenL, wp_lenT, wp_abs, wp_int, wp_min2, wp_max2, wp_listL, wp_listT, wp_tupleL, wp_tupleT, wp_ixT0, wp_ixT1, wp_ixL0, wp_neg, wp_ok, wp_srcEL, wp_isB, wp_isNotB, wp_eqB, wp_neB, wp_all, wp_any, wp_slT, wp_slL, wp_rev, wp_revT, wp_revL, wp_disp, wp_pair, wp_pair0, wp_dict0, wipeW, List.foldl_cons, List.foldl_nil, wp_run, List.map, List.length, List.replicate, List.cons_append, List.nil_append, List.append_nil, List.set_cons_zero, List.set_cons_succ, if_true, if_false, Bool.not_true, Bool.not_false, Bool.true_eq_false, Bool.false_eq_true, Nat.reduceAdd, Nat.reduceSub, gName']
    have fin : ∀ {s : Sto} (m : Option Int), MarkO m → Up h s3 s → Bg h s → wp (wAdd true (W.lst [W.tup [.int (c + 1 + y), mW m]]) (W.lst (vs.map vW)) s)
        (fun w s => ∃ (vs : List Vn) (c' : Int) (k l : Option W), [some (.ref h), some w, some (.int (c + 1 + y)), some (.int (0 + i)), some (mW m)] = [some (.ref h), some (.lst (vs.map vW)), some (.int c'), k, l] ∧ vs.length = i + 1 ∧ Desc vs ∧ (∀ v ∈ vs, 1 ≤ v.1 ∧ v.1 ≤ c' ∧ MarkO v.2) ∧ 0 ≤ c' ∧ c' ≤ ((i + 1 : Nat) : Int) * 20000000000000000 ∧ Up h st s ∧ Bg h s) (fun _ _ => False) := by
      intro s m hm u5 g
      have e1 : vs.length ≤ 41 := by omega
      rw [wp_addL]
      refine ⟨by simp [sizeLine]; omega, (c + 1 + y, m) :: vs, c + 1 + y, _, _, rfl, by simp [z1], ?_, fun v hv => ?_, by omega, by omega, (((z6.trans u3).trans u4).trans u5), g⟩
      · refine List.Pairwise.cons (fun v hv => ?_) z2
        have := (z3 v hv).2.1
        show v.1 < c + 1 + y
        omega
      · rcases List.mem_cons.mp hv with rfl | hv
        · exact ⟨by show 1 ≤ c + 1 + y; omega, Int.le_refl _, hm⟩
        · obtain ⟨a1, a2, a3⟩ := z3 v hv
          exact ⟨a1, by omega, a3⟩
    refine wp_no (draw1 g (by decide) (by decide)) ?_
    rintro _ s4 ⟨b, rfl, b0, b1, u5, g⟩
    simp only [ws_seq, ws_if, ws_set, ws_sub, ws_ret, ws_retN, ws_expr, ws_sNx, ws_for, wp_op, wp_var0, wp_varS, wp_c, wp_mB, wp_toB, wp_tr, wp_trB_bl, wp_trB_non, wp_trB_int, wp_not, wp_and, wp_or, wp_if, wp_mBl, wp_nil, wp_cons, wp_tup, wp_lst, wp_lstS, wp_newL_t, wp_newL_f, wp_chain, wp_call, wp_fn, wp_sl, wp_noPart, wp_part, wp_comp, wp_yes, wp_iL, wp_iA, wp_srcL, wp_srcS, wp_srcAL, wp_srcAT, wp_iR1, wp_iR2, wp_rng1, wp_rng2, wp_iRv, wp_srcRL, wp_srcRT, wp_iEA, wp_srcEL, wp_srcET, wp_add, wp_sub, wp_mul, wp_mod, wp_div, wp_divW, wp_pow18, wp_pow17, wp_pow16, wp_pow30, wp_eqI, wp_neI, wp_cmpI, wp_isN, wp_isNotN, wp_lenL, wp_lenT, wp_abs, wp_int, wp_min2, wp_max2, wp_listL, wp_listT, wp_tupleL, wp_tupleT, wp_ixT0, wp_ixT1, wp_ixL0, wp_neg, wp_ok, wp_srcEL, wp_isB, wp_isNotB, wp_eqB, wp_neB, wp_all, wp_any, wp_slT, wp_slL, wp_rev, wp_revT, wp_revL, wp_disp, wp_pair, wp_pair0, wp_dict0, wipeW, List.foldl_cons, List.foldl_nil, wp_run, List.map, List.length, List.replicate, List.cons_append, List.nil_append, List.append_nil, List.set_cons_zero, List.set_cons_succ, if_true, if_false, Bool.not_true, Bool.not_false, Bool.true_eq_false, Bool.false_eq_true, Nat.reduceAdd, Nat.reduceSub, gName', decide_eq_true_eq]
    split
    · refine wp_no (draw1 g (by decide) (by decide)) ?_
      rintro _ s5 ⟨d, rfl, d0, d1, u6, g⟩
      simp only [ws_seq, ws_if, ws_set, ws_sub, ws_ret, ws_retN, ws_expr, ws_sNx, ws_for, wp_op, wp_var0, wp_varS, wp_c, wp_mB, wp_toB, wp_tr, wp_trB_bl, wp_trB_non, wp_trB_int, wp_not, wp_and, wp_or, wp_if, wp_mBl, wp_nil, wp_cons, wp_tup, wp_lst, wp_lstS, wp_newL_t, wp_newL_f, wp_chain, wp_call, wp_fn, wp_sl, wp_noPart, wp_part, wp_comp, wp_yes, wp_iL, wp_iA, wp_srcL, wp_srcS, wp_srcAL, wp_srcAT, wp_iR1, wp_iR2, wp_rng1, wp_rng2, wp_iRv, wp_srcRL, wp_srcRT, wp_iEA, wp_srcEL, wp_srcET, wp_add, wp_sub, wp_mul, wp_mod, wp_div, wp_divW, wp_pow18, wp_pow17, wp_pow16, wp_pow30, wp_eqI, wp_neI, wp_cmpI, wp_isN, wp_isNotN, wp_lenL, wp_lenT, wp_abs, wp_int, wp_min2, wp_max2, wp_listL, wp_listT, wp_tupleL, wp_tupleT, wp_ixT0, wp_ixT1, wp_ixL0, wp_neg, wp_ok, wp_srcEL, wp_isB, wp_isNotB, wp_eqB, wp_neB, wp_all, wp_any, wp_slT, wp_slL, wp_rev, wp_revT, wp_revL, wp_disp, wp_pair, wp_pair0, wp_dict0, wipeW, List.foldl_cons, List.foldl_nil, wp_run, List.map, List.length, List.replicate, List.cons_append, List.nil_append, List.append_nil, List.set_cons_zero, List.set_cons_succ, if_true, if_false, Bool.not_true, Bool.not_false, Bool.true_eq_false, Bool.false_eq_true, Nat.reduceAdd, Nat.reduceSub, gName']
      exact wp_mono (fin (some (d - 2)) (fun x e => by cases e; omega) (u5.trans u6) g) (fun _ _ z => z) (fun _ _ z => z.elim)
    · exact wp_mono (fin none (fun x e => by cases e) u5 g) (fun _ _ z => z) (fun _ _ z => z.elim)
  · obtain ⟨vs, c, k, l, rfl, z1, z2, z3, z4, z5, z6, z7⟩ := z
    rw [rng_len] at z1 z5
    have hc : ∀ v ∈ vs, v.1 ≤ 400000000000000000 := fun v hv => by
      have := (z3 v hv).2.1
      omega
    simp only [ws_seq, ws_if, ws_set, ws_sub, ws_ret, ws_retN, ws_expr, ws_sNx, ws_for, wp_op, wp_var0, wp_varS, wp_c, wp_mB, wp_toB, wp_tr, wp_trB_bl, wp_trB_non, wp_trB_int, wp_not, wp_and, wp_or, wp_if, wp_mBl, wp_nil, wp_cons, wp_tup, wp_lst, wp_lstS, wp_newL_t, wp_newL_f, wp_chain, wp_call, wp_fn, wp_sl, wp_noPart, wp_part, wp_comp, wp_yes, wp_iL, wp_iA, wp_srcL, wp_srcS, wp_srcAL, wp_srcAT, wp_iR1, wp_iR2, wp_rng1, wp_rng2, wp_iRv, wp_srcRL, wp_srcRT, wp_iEA, wp_srcEL, wp_srcET, wp_add, wp_sub, wp_mul, wp_mod, wp_div, wp_divW, wp_pow18, wp_pow17, wp_pow16, wp_pow30, wp_eqI, wp_neI, wp_cmpI, wp_isN, wp_isNotN, wp_lenL, wp_lenT, wp_abs, wp_int, wp_min2, wp_max2, wp_listL, wp_listT, wp_tupleL, wp_tupleT, wp_ixT0, wp_ixT1, wp_ixL0, wp_neg, wp_ok, wp_srcEL, wp_isB, wp_isNotB, wp_eqB, wp_neB, wp_all, wp_any, wp_slT, wp_slL, wp_rev, wp_revT, wp_revL, wp_disp, wp_pair, wp_pair0, wp_dict0, wipeW, List.foldl_cons, List.foldl_nil, wp_run, List.map, List.length, List.replicate, List.cons_append, List.nil_append, List.append_nil, List.set_cons_zero, List.set_cons_succ, if_true, if_false, Bool.not_true, Bool.not_false, Bool.true_eq_false, Bool.false_eq_true, Nat.reduceAdd, Nat.reduceSub, gName']
    exact ⟨vs, rfl, ⟨z2, fun v hv => ⟨(z3 v hv).1, by have := hc v hv; omega, (z3 v hv).2.2⟩, by omega⟩, by omega, hc, z6, z7⟩
theorem open_ok {h : Nat} {st : Sto} {vs : List Vn} {last : Int} (gv : Good vs) (l0 : 0 ≤ last) (l1 : last ≤ 1000000000000000000) (g : Bg h st) : wp (r_law_open [.ref h, .lst (vs.map vW), .int last] st) (fun w s => ∃ ns : List Int, w = .tup (ns.map W.int) ∧ Lot ns last ∧ ns.length ≤ 8 ∧ Up h st s ∧ Bg h s) NoE := by
  simp only [r_law_open, m_law_open]
  simp only [ws_seq, ws_if, ws_set, ws_sub, ws_ret, ws_retN, ws_expr, ws_sNx, ws_for, wp_op, wp_var0, wp_varS, wp_c, wp_mB, wp_toB, wp_tr, wp_trB_bl, wp_trB_non, wp_trB_int, wp_not, wp_and, wp_or, wp_if, wp_mBl, wp_nil, wp_cons, wp_tup, wp_lst, wp_lstS, wp_newL_t, wp_newL_f, wp_chain, wp_call, wp_fn, wp_sl, wp_noPart, wp_part, wp_comp, wp_yes, wp_iL, wp_iA, wp_srcL, wp_srcS, wp_srcAL, wp_srcAT, wp_iR1, wp_iR2, wp_rng1, wp_rng2, wp_iRv, wp_srcRL, wp_srcRT, wp_iEA, wp_srcEL, wp_srcET, wp_add, wp_sub, wp_mul, wp_mod, wp_div, wp_divW, wp_pow18, wp_pow17, wp_pow16, wp_pow30, wp_eqI, wp_neI, wp_cmpI, wp_isN, wp_isNotN, wp_lenL, wp_lenT, wp_abs, wp_int, wp_min2, wp_max2, wp_listL, wp_listT, wp_tupleL, wp_tupleT, wp_ixT0, wp_ixT1, wp_ixL0, wp_neg, wp_ok, wp_srcEL, wp_isB, wp_isNotB, wp_eqB, wp_neB, wp_all, wp_any, wp_slT, wp_slL, wp_rev, wp_revT, wp_revL, wp_disp, wp_pair, wp_pair0, wp_dict0, wipeW, List.foldl_cons, List.foldl_nil, wp_run, List.map, List.length, List.replicate, List.cons_append, List.nil_append, List.append_nil, List.set_cons_zero, List.set_cons_succ, if_true, if_false, Bool.not_true, Bool.not_false, Bool.true_eq_false, Bool.false_eq_true, Nat.reduceAdd, Nat.reduceSub, gName']
  have hp : st.length ≠ h := by have := g.lt; omega
  refine wp_no (draw1 g.new (by decide) (by decide)) ?_
  rintro _ s ⟨n, rfl, n0, n1, u, g⟩
  refine (wp_rng1).2 ⟨small62_lit n0 (by omega), ?_⟩
  refine forS_fix (fun i e s => ∃ (ns : List Int) (k y : Option W), e = [some (.ref h), some (.lst (vs.map vW)), some (.int last), some (.ref st.length), k, y] ∧ ns.length ≤ i ∧ ns.Nodup ∧ (∀ n ∈ ns, 0 ≤ n ∧ n ≤ last) ∧ s[st.length]? = some (.lst (ns.map W.int)) ∧ Up h st s ∧ Bg h s)
    ⟨[], none, none, rfl, Nat.le_refl _, List.nodup_nil, by simp, u.2 _ _ hp get_new, (Ext.app.up).trans u, g⟩ (fun i w e env s z => ?_) (fun env s z => ?_)
  · obtain ⟨rfl, hi⟩ := rng_get e
    obtain ⟨ns, k, y, rfl, z1, z2, z3, z4, z5, z6⟩ := z
    refine ⟨_, _, rfl, ?_⟩
    rw [ws_seq]
    refine ws_nx (N := fun e s' => ∃ x : Int, e = [some (.ref h), some (.lst (vs.map vW)), some (.int last), some (.ref st.length), some (.int (0 + i)), some (.int x)] ∧ 0 ≤ x ∧ x ≤ last ∧ Up h s s' ∧ Bg h s') ?_ ?_
    · simp only [ws_seq, ws_if, ws_set, ws_sub, ws_ret, ws_retN, ws_expr, ws_sNx, ws_for, wp_op, wp_var0, wp_varS, wp_c, wp_mB, wp_toB, wp_tr, wp_trB_bl, wp_trB_non, wp_trB_int, wp_not, wp_and, wp_or, wp_if, wp_mBl, wp_nil, wp_cons, wp_tup, wp_lst, wp_lstS, wp_newL_t, wp_newL_f, wp_chain, wp_call, wp_fn, wp_sl, wp_noPart, wp_part, wp_comp, wp_yes, wp_iL, wp_iA, wp_srcL, wp_srcS, wp_srcAL, wp_srcAT, wp_iR1, wp_iR2, wp_rng1, wp_rng2, wp_iRv, wp_srcRL, wp_srcRT, wp_iEA, wp_srcEL, wp_srcET, wp_add, wp_sub, wp_mul, wp_mod, wp_div, wp_divW, wp_pow18, wp_pow17, wp_pow16, wp_pow30, wp_eqI, wp_neI, wp_cmpI, wp_isN, wp_isNotN, wp_lenL, wp_lenT, wp_abs, wp_int, wp_min2, wp_max2, wp_listL, wp_listT, wp_tupleL, wp_tupleT, wp_ixT0, wp_ixT1, wp_ixL0, wp_neg, wp_ok, wp_srcEL, wp_isB, wp_isNotB, wp_eqB, wp_neB, wp_all, wp_any, wp_slT, wp_slL, wp_rev, wp_revT, wp_revL, wp_disp, wp_pair, wp_pair0, wp_dict0, wipeW, List.foldl_cons, List.foldl_nil, wp_run, List.map, List.length, List.replicate, List.cons_append, List.nil_append, List.append_nil, List.set_cons_zero, List.set_cons_succ, if_true, if_false, Bool.not_true, Bool.not_false, Bool.true_eq_false, Bool.false_eq_true, Nat.reduceAdd, Nat.reduceSub, gName']
      refine wp_no (draw1 z6 (by omega) (log_of (by omega) (by omega))) ?_
      rintro _ s2 ⟨x, rfl, x0, x1, u2, g⟩
      exact ⟨x, rfl, x0, by omega, u2, g⟩
    rintro _ s2 ⟨x, rfl, x0, x1, u2, g⟩
    rw [ws_seq]
    refine ws_nx (N := fun e s' => ∃ x : Int, e = [some (.ref h), some (.lst (vs.map vW)), some (.int last), some (.ref st.length), some (.int (0 + i)), some (.int x)] ∧ 0 ≤ x ∧ x ≤ last ∧ Up h s s' ∧ Bg h s') ?_ ?_
    · simp only [ws_seq, ws_if, ws_set, ws_sub, ws_ret, ws_retN, ws_expr, ws_sNx, ws_for, wp_op, wp_var0, wp_varS, wp_c, wp_mB, wp_toB, wp_tr, wp_trB_bl, wp_trB_non, wp_trB_int, wp_not, wp_and, wp_or, wp_if, wp_mBl, wp_nil, wp_cons, wp_tup, wp_lst, wp_lstS, wp_newL_t, wp_newL_f, wp_chain, wp_call, wp_fn, wp_sl, wp_noPart, wp_part, wp_comp, wp_yes, wp_iL, wp_iA, wp_srcL, wp_srcS, wp_srcAL, wp_srcAT, wp_iR1, wp_iR2, wp_rng1, wp_rng2, wp_iRv, wp_srcRL, wp_srcRT, wp_iEA, wp_srcEL, wp_srcET, wp_add, wp_sub, wp_mul, wp_mod, wp_div, wp_divW, wp_pow18, wp_pow17, wp_pow16, wp_pow30, wp_eqI, wp_neI, wp_cmpI, wp_isN, wp_isNotN, wp_lenL, wp_lenT, wp_abs, wp_int, wp_min2, wp_max2, wp_listL, wp_listT, wp_tupleL, wp_tupleT, wp_ixT0, wp_ixT1, wp_ixL0, wp_neg, wp_ok, wp_srcEL, wp_isB, wp_isNotB, wp_eqB, wp_neB, wp_all, wp_any, wp_slT, wp_slL, wp_rev, wp_revT, wp_revL, wp_disp, wp_pair, wp_pair0, wp_dict0, wipeW, List.foldl_cons, List.foldl_nil, wp_run, List.map, List.length, List.replicate, List.cons_append, List.nil_append, List.append_nil, List.set_cons_zero, List.set_cons_succ, if_true, if_false, Bool.not_true, Bool.not_false, Bool.true_eq_false, Bool.false_eq_true, Nat.reduceAdd, Nat.reduceSub, gName', decide_eq_true_eq, List.length_map]
      have keep : ∃ x' : Int, [some (W.ref h), some (.lst (vs.map vW)), some (.int last), some (.ref st.length), some (.int (0 + i)), some (.int x)] = [some (.ref h), some (.lst (vs.map vW)), some (.int last), some (.ref st.length), some (.int (0 + i)), some (.int x')] ∧ 0 ≤ x' ∧ x' ≤ last := ⟨x, rfl, x0, by omega⟩
      have hv := gv.few
      split
      · rename_i hl
        refine wp_no (draw1 g (by decide) (by decide)) ?_
        rintro _ s3 ⟨y, rfl, y0, y1, u3, g⟩
        simp only [ws_seq, ws_if, ws_set, ws_sub, ws_ret, ws_retN, ws_expr, ws_sNx, ws_for, wp_op, wp_var0, wp_varS, wp_c, wp_mB, wp_toB, wp_tr, wp_trB_bl, wp_trB_non, wp_trB_int, wp_not, wp_and, wp_or, wp_if, wp_mBl, wp_nil, wp_cons, wp_tup, wp_lst, wp_lstS, wp_newL_t, wp_newL_f, wp_chain, wp_call, wp_fn, wp_sl, wp_noPart, wp_part, wp_comp, wp_yes, wp_iL, wp_iA, wp_srcL, wp_srcS, wp_srcAL, wp_srcAT, wp_iR1, wp_iR2, wp_rng1, wp_rng2, wp_iRv, wp_srcRL, wp_srcRT, wp_iEA, wp_srcEL, wp_srcET, wp_add, wp_sub, wp_mul, wp_mod, wp_div, wp_divW, wp_pow18, wp_pow17, wp_pow16, wp_pow30, wp_eqI, wp_neI, wp_cmpI, wp_isN, wp_isNotN, wp_lenL, wp_lenT, wp_abs, wp_int, wp_min2, wp_max2, wp_listL, wp_listT, wp_tupleL, wp_tupleT, wp_ixT0, wp_ixT1, wp_ixL0, wp_neg, wp_ok, wp_srcEL, wp_isB, wp_isNotB, wp_eqB, wp_neB, wp_all, wp_any, wp_slT, wp_slL, wp_rev, wp_revT, wp_revL, wp_disp, wp_pair, wp_pair0, wp_dict0, wipeW, List.foldl_cons, List.foldl_nil, wp_run, List.map, List.length, List.replicate, List.cons_append, List.nil_append, List.append_nil, List.set_cons_zero, List.set_cons_succ, if_true, if_false, Bool.not_true, Bool.not_false, Bool.true_eq_false, Bool.false_eq_true, Nat.reduceAdd, Nat.reduceSub, gName', decide_eq_true_eq]
        split
        · refine wp_no (draw1 g (by omega) (log_of (by omega) (by omega))) ?_
          rintro _ s4 ⟨k, rfl, k0, k1, u4, g⟩
          have hk : k.toNat < vs.length := by omega
          have e : vs[k.toNat]? = some vs[k.toNat] := List.getElem?_eq_getElem hk
          rw [wp_ixLi k0 (getv e), wp_vc]
          have hm := gv.ok _ (List.getElem_mem hk)
          refine wp_no (draw1 g (by decide) (by decide)) ?_
          rintro _ s5 ⟨d, rfl, d0, d1, u5, g⟩
          simp only [ws_seq, ws_if, ws_set, ws_sub, ws_ret, ws_retN, ws_expr, ws_sNx, ws_for, wp_op, wp_var0, wp_varS, wp_c, wp_mB, wp_toB, wp_tr, wp_trB_bl, wp_trB_non, wp_trB_int, wp_not, wp_and, wp_or, wp_if, wp_mBl, wp_nil, wp_cons, wp_tup, wp_lst, wp_lstS, wp_newL_t, wp_newL_f, wp_chain, wp_call, wp_fn, wp_sl, wp_noPart, wp_part, wp_comp, wp_yes, wp_iL, wp_iA, wp_srcL, wp_srcS, wp_srcAL, wp_srcAT, wp_iR1, wp_iR2, wp_rng1, wp_rng2, wp_iRv, wp_srcRL, wp_srcRT, wp_iEA, wp_srcEL, wp_srcET, wp_add, wp_sub, wp_mul, wp_mod, wp_div, wp_divW, wp_pow18, wp_pow17, wp_pow16, wp_pow30, wp_eqI, wp_neI, wp_cmpI, wp_isN, wp_isNotN, wp_lenL, wp_lenT, wp_abs, wp_int, wp_min2, wp_max2, wp_listL, wp_listT, wp_tupleL, wp_tupleT, wp_ixT0, wp_ixT1, wp_ixL0, wp_neg, wp_ok, wp_srcEL, wp_isB, wp_isNotB, wp_eqB, wp_neB, wp_all, wp_any, wp_slT, wp_slL, wp_rev, wp_revT, wp_revL, wp_disp, wp_pair, wp_pair0, wp_dict0, wipeW, List.foldl_cons, List.foldl_nil, wp_run, List.map, List.length, List.replicate, List.cons_append, List.nil_append, List.append_nil, List.set_cons_zero, List.set_cons_succ, if_true, if_false, Bool.not_true, Bool.not_false, Bool.true_eq_false, Bool.false_eq_true, Nat.reduceAdd, Nat.reduceSub, gName']
          refine ⟨_, rfl, ?_, ?_, ((u2.trans u3).trans u4).trans u5, g⟩
          · split <;> omega
          · split <;> omega
        · obtain ⟨x', e, q⟩ := keep
          exact ⟨x', e, q.1, q.2, u2.trans u3, g⟩
      · obtain ⟨x', e, q⟩ := keep
        exact ⟨x', e, q.1, q.2, u2, g⟩
    · rintro _ s3 ⟨x, rfl, x0, x1, u2, g⟩
      have e2 := u2.2 _ _ hp z4
      simp only [ws_seq, ws_if, ws_set, ws_sub, ws_ret, ws_retN, ws_expr, ws_sNx, ws_for, wp_op, wp_var0, wp_varS, wp_c, wp_mB, wp_toB, wp_tr, wp_trB_bl, wp_trB_non, wp_trB_int, wp_not, wp_and, wp_or, wp_if, wp_mBl, wp_nil, wp_cons, wp_tup, wp_lst, wp_lstS, wp_newL_t, wp_newL_f, wp_chain, wp_call, wp_fn, wp_sl, wp_noPart, wp_part, wp_comp, wp_yes, wp_iL, wp_iA, wp_srcL, wp_srcS, wp_srcAL, wp_srcAT, wp_iR1, wp_iR2, wp_rng1, wp_rng2, wp_iRv, wp_srcRL, wp_srcRT, wp_iEA, wp_srcEL, wp_srcET, wp_add, wp_sub, wp_mul, wp_mod, wp_div, wp_divW, wp_pow18, wp_pow17, wp_pow16, wp_pow30, wp_eqI, wp_neI, wp_cmpI, wp_isN, wp_isNotN, wp_lenL, wp_lenT, wp_abs, wp_int, wp_min2, wp_max2, wp_listL, wp_listT, wp_tupleL, wp_tupleT, wp_ixT0, wp_ixT1, wp_ixL0, wp_neg, wp_ok, wp_srcEL, wp_isB, wp_isNotB, wp_eqB, wp_neB, wp_all, wp_any, wp_slT, wp_slL, wp_rev, wp_revT, wp_revL, wp_disp, wp_pair, wp_pair0, wp_dict0, wipeW, List.foldl_cons, List.foldl_nil, wp_run, List.map, List.length, List.replicate, List.cons_append, List.nil_append, List.append_nil, List.set_cons_zero, List.set_cons_succ, if_true, if_false, Bool.not_true, Bool.not_false, Bool.true_eq_false, Bool.false_eq_true, Nat.reduceAdd, Nat.reduceSub, gName', wp_inR e2]
      by_cases hx : x ∈ ns
      · simp only [hx, decide_true, Bool.not_true, Bool.false_eq_true, if_false]
        exact ⟨ns, _, _, rfl, by omega, z2, z3, e2, z5.trans u2, g⟩
      · simp only [hx, decide_false, Bool.not_false, if_true]
        have hl : (ns.map W.int).length < sizeLine := by simp [sizeLine]; omega
        rw [wp_lm, wp_varS, wp_varS, wp_varS, wp_var0]
        refine ⟨by simp [seqL, e2], ?_⟩
        simp only [ws_seq, ws_if, ws_set, ws_sub, ws_ret, ws_retN, ws_expr, ws_sNx, ws_for, wp_op, wp_var0, wp_varS, wp_c, wp_mB, wp_toB, wp_tr, wp_trB_bl, wp_trB_non, wp_trB_int, wp_not, wp_and, wp_or, wp_if, wp_mBl, wp_nil, wp_cons, wp_tup, wp_lst, wp_lstS, wp_newL_t, wp_newL_f, wp_chain, wp_call, wp_fn, wp_sl, wp_noPart, wp_part, wp_comp, wp_yes, wp_iL, wp_iA, wp_srcL, wp_srcS, wp_srcAL, wp_srcAT, wp_iR1, wp_iR2, wp_rng1, wp_rng2, wp_iRv, wp_srcRL, wp_srcRT, wp_iEA, wp_srcEL, wp_srcET, wp_add, wp_sub, wp_mul, wp_mod, wp_div, wp_divW, wp_pow18, wp_pow17, wp_pow16, wp_pow30, wp_eqI, wp_neI, wp_cmpI, wp_isN, wp_isNotN, wp_lenL, wp_lenT, wp_abs, wp_int, wp_min2, wp_max2, wp_listL, wp_listT, wp_tupleL, wp_tupleT, wp_ixT0, wp_ixT1, wp_ixL0, wp_neg, wp_ok, wp_srcEL, wp_isB, wp_isNotB, wp_eqB, wp_neB, wp_all, wp_any, wp_slT, wp_slL, wp_rev, wp_revT, wp_revL, wp_disp, wp_pair, wp_pair0, wp_dict0, wipeW, List.foldl_cons, List.foldl_nil, wp_run, List.map, List.length, List.replicate, List.cons_append, List.nil_append, List.append_nil, List.set_cons_zero, List.set_cons_succ, if_true, if_false, Bool.not_true, Bool.not_false, Bool.true_eq_false, Bool.false_eq_true, Nat.reduceAdd, Nat.reduceSub, gName', wp_app e2 hl]
        refine ⟨ns ++ [x], _, _, rfl, by simp; omega, ?_, fun m hm => ?_, ?_, (z5.trans u2).setp (Nat.le_refl _), g.set hp⟩
        · rw [List.nodup_append]
          exact ⟨z2, by simp, fun a ha b hb => by
            rw [List.mem_singleton] at hb
            subst hb
            exact fun q => hx (q ▸ ha)⟩
        · rcases List.mem_append.mp hm with hm | hm
          · exact z3 m hm
          · rw [List.mem_singleton] at hm
            subst hm
            exact ⟨x0, x1⟩
        · rw [get_setp e2]; simp
  · obtain ⟨ns, k, y, rfl, z1, z2, z3, z4, z5, z6⟩ := z
    rw [rng_len] at z1
    simp only [ws_seq, ws_if, ws_set, ws_sub, ws_ret, ws_retN, ws_expr, ws_sNx, ws_for, wp_op, wp_var0, wp_varS, wp_c, wp_mB, wp_toB, wp_tr, wp_trB_bl, wp_trB_non, wp_trB_int, wp_not, wp_and, wp_or, wp_if, wp_mBl, wp_nil, wp_cons, wp_tup, wp_lst, wp_lstS, wp_newL_t, wp_newL_f, wp_chain, wp_call, wp_fn, wp_sl, wp_noPart, wp_part, wp_comp, wp_yes, wp_iL, wp_iA, wp_srcL, wp_srcS, wp_srcAL, wp_srcAT, wp_iR1, wp_iR2, wp_rng1, wp_rng2, wp_iRv, wp_srcRL, wp_srcRT, wp_iEA, wp_srcEL, wp_srcET, wp_add, wp_sub, wp_mul, wp_mod, wp_div, wp_divW, wp_pow18, wp_pow17, wp_pow16, wp_pow30, wp_eqI, wp_neI, wp_cmpI, wp_isN, wp_isNotN, wp_lenL, wp_lenT, wp_abs, wp_int, wp_min2, wp_max2, wp_listL, wp_listT, wp_tupleL, wp_tupleT, wp_ixT0, wp_ixT1, wp_ixL0, wp_neg, wp_ok, wp_srcEL, wp_isB, wp_isNotB, wp_eqB, wp_neB, wp_all, wp_any, wp_slT, wp_slL, wp_rev, wp_revT, wp_revL, wp_disp, wp_pair, wp_pair0, wp_dict0, wipeW, List.foldl_cons, List.foldl_nil, wp_run, List.map, List.length, List.replicate, List.cons_append, List.nil_append, List.append_nil, List.set_cons_zero, List.set_cons_succ, if_true, if_false, Bool.not_true, Bool.not_false, Bool.true_eq_false, Bool.false_eq_true, Nat.reduceAdd, Nat.reduceSub, gName', wp_sortR z4]
    have hpm := sort_perm ns
    exact ⟨sortZ ns, rfl, ⟨sort_asc z2, fun m hm => z3 m (hpm.mem_iff.mp hm), by rw [hpm.length_eq]; omega⟩, by rw [hpm.length_eq]; omega, z5, z6⟩
end Lw
namespace Lw
open PySem L2 Mi
/-- the law's own look -/
theorem ln_ok {vs : List Vn} (g : Good vs) {ns : List Int} (hn : ns.length ≤ 50) {st : Sto} : wp (r_law_needed [.lst (vs.map vW), .tup (ns.map W.int)] st) (fun r s => r = .ref st.length ∧ s[st.length]? = some (.lst ((nd vs ns).map W.int)) ∧ Ext st s) NoE := by
  have hl := g.few
  simp only [r_law_needed, m_law_needed]
  simp only [ws_seq, ws_if, ws_set, ws_sub, ws_ret, ws_retN, ws_expr, ws_sNx, ws_for, wp_op, wp_var0, wp_varS, wp_c, wp_mB, wp_toB, wp_tr, wp_trB_bl, wp_trB_non, wp_trB_int, wp_not, wp_and, wp_or, wp_if, wp_mBl, wp_nil, wp_cons, wp_tup, wp_lst, wp_lstS, wp_newL_t, wp_newL_f, wp_chain, wp_call, wp_fn, wp_sl, wp_noPart, wp_part, wp_comp, wp_yes, wp_iL, wp_iA, wp_srcL, wp_srcS, wp_srcAL, wp_srcAT, wp_iR1, wp_iR2, wp_rng1, wp_rng2, wp_iRv, wp_srcRL, wp_srcRT, wp_iEA, wp_srcEL, wp_srcET, wp_add, wp_sub, wp_mul, wp_mod, wp_div, wp_divW, wp_pow18, wp_pow17, wp_pow16, wp_pow30, wp_eqI, wp_neI, wp_cmpI, wp_isN, wp_isNotN, wp_lenL, wp_lenT, wp_abs, wp_int, wp_min2, wp_max2, wp_listL, wp_listT, wp_tupleL, wp_tupleT, wp_ixT0, wp_ixT1, wp_ixL0, wp_neg, wp_ok, wp_srcEL, wp_isB, wp_isNotB, wp_eqB, wp_neB, wp_all, wp_any, wp_slT, wp_slL, wp_rev, wp_revT, wp_revL, wp_disp, wp_pair, wp_pair0, wp_dict0, wipeW, List.foldl_cons, List.foldl_nil, wp_run, List.map, List.length, List.replicate, List.cons_append, List.nil_append, List.append_nil, List.set_cons_zero, List.set_cons_succ, if_true, if_false, Bool.not_true, Bool.not_false, Bool.true_eq_false, Bool.false_eq_true, Nat.reduceAdd, Nat.reduceSub, gName', List.length_map]
  refine ⟨small62_lit (by omega) (by omega), ?_⟩
  rw [Int.toNat_natCast]
  refine forS_fix (fun i e s => Ext st s ∧ s[st.length]? = some (.lst (((vs.reverse.take i).foldl (kps (lsn vs ns)) []).map W.int)) ∧ ∃ a b d f, e = [some (.lst (vs.map vW)), some (.tup (ns.map W.int)), some (.ref st.length), a, b, d, f]) ⟨Ext.app, get_new, none, none, none, none, rfl⟩ (fun i x e env s z => ?_) (fun env s z => ?_)
  · obtain ⟨rfl, hi⟩ := rng_get e
    obtain ⟨z1, z2, a, b, d, f, rfl⟩ := z
    refine ⟨_, _, rfl, ?_⟩
    obtain ⟨at_, hat⟩ : ∃ k : Nat, k = vs.length - 1 - i := ⟨_, rfl⟩
    have hk : at_ < vs.length := by omega
    have ek : (vs.length : Int) - 1 - (0 + i) = (at_ : Int) := by omega
    obtain ⟨v, ev⟩ : ∃ v, vs[at_]? = some v := ⟨_, List.getElem?_eq_getElem hk⟩
    have erv : vs.reverse[i]? = some v := by rw [List.getElem?_reverse hi, ← hat]; exact ev
    simp only [ws_seq, ws_if, ws_set, ws_sub, ws_ret, ws_retN, ws_expr, ws_sNx, ws_for, wp_op, wp_var0, wp_varS, wp_c, wp_mB, wp_toB, wp_tr, wp_trB_bl, wp_trB_non, wp_trB_int, wp_not, wp_and, wp_or, wp_if, wp_mBl, wp_nil, wp_cons, wp_tup, wp_lst, wp_lstS, wp_newL_t, wp_newL_f, wp_chain, wp_call, wp_fn, wp_sl, wp_noPart, wp_part, wp_comp, wp_yes, wp_iL, wp_iA, wp_srcL, wp_srcS, wp_srcAL, wp_srcAT, wp_iR1, wp_iR2, wp_rng1, wp_rng2, wp_iRv, wp_srcRL, wp_srcRT, wp_iEA, wp_srcEL, wp_srcET, wp_add, wp_sub, wp_mul, wp_mod, wp_div, wp_divW, wp_pow18, wp_pow17, wp_pow16, wp_pow30, wp_eqI, wp_neI, wp_cmpI, wp_isN, wp_isNotN, wp_lenL, wp_lenT, wp_abs, wp_int, wp_min2, wp_max2, wp_listL, wp_listT, wp_tupleL, wp_tupleT, wp_ixT0, wp_ixT1, wp_ixL0, wp_neg, wp_ok, wp_srcEL, wp_isB, wp_isNotB, wp_eqB, wp_neB, wp_all, wp_any, wp_slT, wp_slL, wp_rev, wp_revT, wp_revL, wp_disp, wp_pair, wp_pair0, wp_dict0, wipeW, List.foldl_cons, List.foldl_nil, wp_run, List.map, List.length, List.replicate, List.cons_append, List.nil_append, List.append_nil, List.set_cons_zero, List.set_cons_succ, if_true, if_false, Bool.not_true, Bool.not_false, Bool.true_eq_false, Bool.false_eq_true, Nat.reduceAdd, Nat.reduceSub, gName', List.length_map, ek]
    have e0 : decide ((at_ : Int) = 0) = decide (at_ = 0) := decide_eq_decide.mpr (by omega)
    rw [e0]
    obtain ⟨cc, hcc⟩ : ∃ cc : Int → Bool, ∀ (u : Vn) (b : Nat), at_ = b + 1 → vs[b]? = some u → ∀ s, cc s = decide (s < u.1) := by
      cases at_ with
      | zero => exact ⟨fun _ => true, fun u b h => by omega⟩
      | succ k =>
        obtain ⟨u, eu⟩ : ∃ u, vs[k]? = some u := ⟨_, List.getElem?_eq_getElem (by omega)⟩
        exact ⟨fun s => decide (s < u.1), fun u' b h e' s => by
          have : b = k := by omega
          subst this
          rw [eu] at e'
          cases e'
          rfl⟩
    have hls := lsn_at g.desc ev hcc (op := ns)
    refine forS_fix (fun j e s' => s' = s ∧ ∃ f, e = [some (.lst (vs.map vW)), some (.tup (ns.map W.int)), some (.ref st.length), some (.int (0 + i)), some (.int at_), some (.bl (decide (at_ = 0) || (ns.take j).any fun s => decide (v.1 ≤ s) && (decide (at_ = 0) || cc s))), f]) ⟨rfl, f, by simp⟩ (fun j x e env s' z => ?_) (fun env s' z => ?_)
    · obtain ⟨rfl, f, rfl⟩ := z
      obtain ⟨n, en, rfl⟩ := geti e
      refine ⟨_, _, rfl, ?_⟩
      refine ws_if_to (b := decide (v.1 ≤ n) && (decide (at_ = 0) || cc n)) ?_ ?_
      · simp only [ws_seq, ws_if, ws_set, ws_sub, ws_ret, ws_retN, ws_expr, ws_sNx, ws_for, wp_op, wp_var0, wp_varS, wp_c, wp_mB, wp_toB, wp_tr, wp_trB_bl, wp_trB_non, wp_trB_int, wp_not, wp_and, wp_or, wp_if, wp_mBl, wp_nil, wp_cons, wp_tup, wp_lst, wp_lstS, wp_newL_t, wp_newL_f, wp_chain, wp_call, wp_fn, wp_sl, wp_noPart, wp_part, wp_comp, wp_yes, wp_iL, wp_iA, wp_srcL, wp_srcS, wp_srcAL, wp_srcAT, wp_iR1, wp_iR2, wp_rng1, wp_rng2, wp_iRv, wp_srcRL, wp_srcRT, wp_iEA, wp_srcEL, wp_srcET, wp_add, wp_sub, wp_mul, wp_mod, wp_div, wp_divW, wp_pow18, wp_pow17, wp_pow16, wp_pow30, wp_eqI, wp_neI, wp_cmpI, wp_isN, wp_isNotN, wp_lenL, wp_lenT, wp_abs, wp_int, wp_min2, wp_max2, wp_listL, wp_listT, wp_tupleL, wp_tupleT, wp_ixT0, wp_ixT1, wp_ixL0, wp_neg, wp_ok, wp_srcEL, wp_isB, wp_isNotB, wp_eqB, wp_neB, wp_all, wp_any, wp_slT, wp_slL, wp_rev, wp_revT, wp_revL, wp_disp, wp_pair, wp_pair0, wp_dict0, wipeW, List.foldl_cons, List.foldl_nil, wp_run, List.map, List.length, List.replicate, List.cons_append, List.nil_append, List.append_nil, List.set_cons_zero, List.set_cons_succ, if_true, if_false, Bool.not_true, Bool.not_false, Bool.true_eq_false, Bool.false_eq_true, Nat.reduceAdd, Nat.reduceSub, gName', e0, wp_ixL (getv ev), wp_vc]
        by_cases h1 : v.1 ≤ n
        · by_cases h2 : at_ = 0
          · simp [h1, h2]
          · obtain ⟨k, hk2⟩ : ∃ k, at_ = k + 1 := ⟨at_ - 1, by omega⟩
            obtain ⟨u, eu⟩ : ∃ u, vs[k]? = some u := ⟨_, List.getElem?_eq_getElem (by omega)⟩
            have e1 : (at_ : Int) - 1 = (k : Int) := by omega
            have h3 : ¬ ((at_ : Int) = 0) := by omega
            rw [hcc u k hk2 eu]
            simp only [h1, h2, decide_true, decide_false, if_true, Bool.false_eq_true, if_false, Bool.true_and, Bool.false_or, e1]
            simp only [ws_seq, ws_if, ws_set, ws_sub, ws_ret, ws_retN, ws_expr, ws_sNx, ws_for, wp_op, wp_var0, wp_varS, wp_c, wp_mB, wp_toB, wp_tr, wp_trB_bl, wp_trB_non, wp_trB_int, wp_not, wp_and, wp_or, wp_if, wp_mBl, wp_nil, wp_cons, wp_tup, wp_lst, wp_lstS, wp_newL_t, wp_newL_f, wp_chain, wp_call, wp_fn, wp_sl, wp_noPart, wp_part, wp_comp, wp_yes, wp_iL, wp_iA, wp_srcL, wp_srcS, wp_srcAL, wp_srcAT, wp_iR1, wp_iR2, wp_rng1, wp_rng2, wp_iRv, wp_srcRL, wp_srcRT, wp_iEA, wp_srcEL, wp_srcET, wp_add, wp_sub, wp_mul, wp_mod, wp_div, wp_divW, wp_pow18, wp_pow17, wp_pow16, wp_pow30, wp_eqI, wp_neI, wp_cmpI, wp_isN, wp_isNotN, wp_lenL, wp_lenT, wp_abs, wp_int, wp_min2, wp_max2, wp_listL, wp_listT, wp_tupleL, wp_tupleT, wp_ixT0, wp_ixT1, wp_ixL0, wp_neg, wp_ok, wp_srcEL, wp_isB, wp_isNotB, wp_eqB, wp_neB, wp_all, wp_any, wp_slT, wp_slL, wp_rev, wp_revT, wp_revL, wp_disp, wp_pair, wp_pair0, wp_dict0, wipeW, List.foldl_cons, List.foldl_nil, wp_run, List.map, List.length, List.replicate, List.cons_append, List.nil_append, List.append_nil, List.set_cons_zero, List.set_cons_succ, if_true, if_false, Bool.not_true, Bool.not_false, Bool.true_eq_false, Bool.false_eq_true, Nat.reduceAdd, Nat.reduceSub, gName', wp_ixL (getv eu), wp_vc]
            simp
        · simp [h1]
      · rw [take_get en, List.any_append]
        by_cases h : (decide (v.1 ≤ n) && (decide (at_ = 0) || cc n)) = true
        · rw [if_pos h]
          simp only [ws_seq, ws_if, ws_set, ws_sub, ws_ret, ws_retN, ws_expr, ws_sNx, ws_for, wp_op, wp_var0, wp_varS, wp_c, wp_mB, wp_toB, wp_tr, wp_trB_bl, wp_trB_non, wp_trB_int, wp_not, wp_and, wp_or, wp_if, wp_mBl, wp_nil, wp_cons, wp_tup, wp_lst, wp_lstS, wp_newL_t, wp_newL_f, wp_chain, wp_call, wp_fn, wp_sl, wp_noPart, wp_part, wp_comp, wp_yes, wp_iL, wp_iA, wp_srcL, wp_srcS, wp_srcAL, wp_srcAT, wp_iR1, wp_iR2, wp_rng1, wp_rng2, wp_iRv, wp_srcRL, wp_srcRT, wp_iEA, wp_srcEL, wp_srcET, wp_add, wp_sub, wp_mul, wp_mod, wp_div, wp_divW, wp_pow18, wp_pow17, wp_pow16, wp_pow30, wp_eqI, wp_neI, wp_cmpI, wp_isN, wp_isNotN, wp_lenL, wp_lenT, wp_abs, wp_int, wp_min2, wp_max2, wp_listL, wp_listT, wp_tupleL, wp_tupleT, wp_ixT0, wp_ixT1, wp_ixL0, wp_neg, wp_ok, wp_srcEL, wp_isB, wp_isNotB, wp_eqB, wp_neB, wp_all, wp_any, wp_slT, wp_slL, wp_rev, wp_revT, wp_revL, wp_disp, wp_pair, wp_pair0, wp_dict0, wipeW, List.foldl_cons, List.foldl_nil, wp_run, List.map, List.length, List.replicate, List.cons_append, List.nil_append, List.append_nil, List.set_cons_zero, List.set_cons_succ, if_true, if_false, Bool.not_true, Bool.not_false, Bool.true_eq_false, Bool.false_eq_true, Nat.reduceAdd, Nat.reduceSub, gName']
          refine ⟨trivial, some (.int n), ?_⟩
          simp only [List.any_cons, List.any_nil, Bool.or_false, h, Bool.or_true]
        · rw [if_neg h]
          have h := Bool.eq_false_iff.mpr h
          simp only [ws_seq, ws_if, ws_set, ws_sub, ws_ret, ws_retN, ws_expr, ws_sNx, ws_for, wp_op, wp_var0, wp_varS, wp_c, wp_mB, wp_toB, wp_tr, wp_trB_bl, wp_trB_non, wp_trB_int, wp_not, wp_and, wp_or, wp_if, wp_mBl, wp_nil, wp_cons, wp_tup, wp_lst, wp_lstS, wp_newL_t, wp_newL_f, wp_chain, wp_call, wp_fn, wp_sl, wp_noPart, wp_part, wp_comp, wp_yes, wp_iL, wp_iA, wp_srcL, wp_srcS, wp_srcAL, wp_srcAT, wp_iR1, wp_iR2, wp_rng1, wp_rng2, wp_iRv, wp_srcRL, wp_srcRT, wp_iEA, wp_srcEL, wp_srcET, wp_add, wp_sub, wp_mul, wp_mod, wp_div, wp_divW, wp_pow18, wp_pow17, wp_pow16, wp_pow30, wp_eqI, wp_neI, wp_cmpI, wp_isN, wp_isNotN, wp_lenL, wp_lenT, wp_abs, wp_int, wp_min2, wp_max2, wp_listL, wp_listT, wp_tupleL, wp_tupleT, wp_ixT0, wp_ixT1, wp_ixL0, wp_neg, wp_ok, wp_srcEL, wp_isB, wp_isNotB, wp_eqB, wp_neB, wp_all, wp_any, wp_slT, wp_slL, wp_rev, wp_revT, wp_revL, wp_disp, wp_pair, wp_pair0, wp_dict0, wipeW, List.foldl_cons, List.foldl_nil, wp_run, List.map, List.length, List.replicate, List.cons_append, List.nil_append, List.append_nil, List.set_cons_zero, List.set_cons_succ, if_true, if_false, Bool.not_true, Bool.not_false, Bool.true_eq_false, Bool.false_eq_true, Nat.reduceAdd, Nat.reduceSub, gName']
          refine ⟨trivial, some (.int n), ?_⟩
          simp only [List.any_cons, List.any_nil, Bool.or_false, h]
    · obtain ⟨rfl, f, rfl⟩ := z
      rw [List.length_map, List.take_of_length_le (Nat.le_refl _), hls, fold_step erv]
      have hlen := kps_len (sn := lsn vs ns) (l := vs.reverse.take i) (acc := [])
      generalize (vs.reverse.take i).foldl (kps (lsn vs ns)) [] = acc at z2 hlen ⊢
      have hal : (acc.map W.int).length < sizeLine := by simp [sizeLine] at hlen ⊢; omega
      unfold kps
      simp only [ws_seq, ws_if, ws_set, ws_sub, ws_ret, ws_retN, ws_expr, ws_sNx, ws_for, wp_op, wp_var0, wp_varS, wp_c, wp_mB, wp_toB, wp_tr, wp_trB_bl, wp_trB_non, wp_trB_int, wp_not, wp_and, wp_or, wp_if, wp_mBl, wp_nil, wp_cons, wp_tup, wp_lst, wp_lstS, wp_newL_t, wp_newL_f, wp_chain, wp_call, wp_fn, wp_sl, wp_noPart, wp_part, wp_comp, wp_yes, wp_iL, wp_iA, wp_srcL, wp_srcS, wp_srcAL, wp_srcAT, wp_iR1, wp_iR2, wp_rng1, wp_rng2, wp_iRv, wp_srcRL, wp_srcRT, wp_iEA, wp_srcEL, wp_srcET, wp_add, wp_sub, wp_mul, wp_mod, wp_div, wp_divW, wp_pow18, wp_pow17, wp_pow16, wp_pow30, wp_eqI, wp_neI, wp_cmpI, wp_isN, wp_isNotN, wp_lenL, wp_lenT, wp_abs, wp_int, wp_min2, wp_max2, wp_listL, wp_listT, wp_tupleL, wp_tupleT, wp_ixT0, wp_ixT1, wp_ixL0, wp_neg, wp_ok, wp_srcEL, wp_isB, wp_isNotB, wp_eqB, wp_neB, wp_all, wp_any, wp_slT, wp_slL, wp_rev, wp_revT, wp_revL, wp_disp, wp_pair, wp_pair0, wp_dict0, wipeW, List.foldl_cons, List.foldl_nil, wp_run, List.map, List.length, List.replicate, List.cons_append, List.nil_append, List.append_nil, List.set_cons_zero, List.set_cons_succ, if_true, if_false, Bool.not_true, Bool.not_false, Bool.true_eq_false, Bool.false_eq_true, Nat.reduceAdd, Nat.reduceSub, gName']
      cases lsn vs ns v with
      | false => exact ⟨z1, by simpa using z2, _, _, _, _, rfl⟩
      | true =>
        simp only [ws_seq, ws_if, ws_set, ws_sub, ws_ret, ws_retN, ws_expr, ws_sNx, ws_for, wp_op, wp_var0, wp_varS, wp_c, wp_mB, wp_toB, wp_tr, wp_trB_bl, wp_trB_non, wp_trB_int, wp_not, wp_and, wp_or, wp_if, wp_mBl, wp_nil, wp_cons, wp_tup, wp_lst, wp_lstS, wp_newL_t, wp_newL_f, wp_chain, wp_call, wp_fn, wp_sl, wp_noPart, wp_part, wp_comp, wp_yes, wp_iL, wp_iA, wp_srcL, wp_srcS, wp_srcAL, wp_srcAT, wp_iR1, wp_iR2, wp_rng1, wp_rng2, wp_iRv, wp_srcRL, wp_srcRT, wp_iEA, wp_srcEL, wp_srcET, wp_add, wp_sub, wp_mul, wp_mod, wp_div, wp_divW, wp_pow18, wp_pow17, wp_pow16, wp_pow30, wp_eqI, wp_neI, wp_cmpI, wp_isN, wp_isNotN, wp_lenL, wp_lenT, wp_abs, wp_int, wp_min2, wp_max2, wp_listL, wp_listT, wp_tupleL, wp_tupleT, wp_ixT0, wp_ixT1, wp_ixL0, wp_neg, wp_ok, wp_srcEL, wp_isB, wp_isNotB, wp_eqB, wp_neB, wp_all, wp_any, wp_slT, wp_slL, wp_rev, wp_revT, wp_revL, wp_disp, wp_pair, wp_pair0, wp_dict0, wipeW, List.foldl_cons, List.foldl_nil, wp_run, List.map, List.length, List.replicate, List.cons_append, List.nil_append, List.append_nil, List.set_cons_zero, List.set_cons_succ, if_true, if_false, Bool.not_true, Bool.not_false, Bool.true_eq_false, Bool.false_eq_true, Nat.reduceAdd, Nat.reduceSub, gName', wp_ixL (getv ev), wp_vm, non_m, wp_lenR z2, List.length_map, Bool.true_and]
        by_cases h2 : v.2 = none
        · simp only [h2, decide_true, Bool.not_true, Bool.false_eq_true, if_false, Bool.false_or]
          cases acc with
          | nil => exact ⟨z1, by simpa using z2, _, _, _, _, rfl⟩
          | cons a acc =>
            have h3 : (0 : Int) < ((a :: acc).length : Int) := by simp
            simp only [h3, decide_true, if_true, List.isEmpty_cons, Bool.not_false]
            simp only [ws_seq, ws_if, ws_set, ws_sub, ws_ret, ws_retN, ws_expr, ws_sNx, ws_for, wp_op, wp_var0, wp_varS, wp_c, wp_mB, wp_toB, wp_tr, wp_trB_bl, wp_trB_non, wp_trB_int, wp_not, wp_and, wp_or, wp_if, wp_mBl, wp_nil, wp_cons, wp_tup, wp_lst, wp_lstS, wp_newL_t, wp_newL_f, wp_chain, wp_call, wp_fn, wp_sl, wp_noPart, wp_part, wp_comp, wp_yes, wp_iL, wp_iA, wp_srcL, wp_srcS, wp_srcAL, wp_srcAT, wp_iR1, wp_iR2, wp_rng1, wp_rng2, wp_iRv, wp_srcRL, wp_srcRT, wp_iEA, wp_srcEL, wp_srcET, wp_add, wp_sub, wp_mul, wp_mod, wp_div, wp_divW, wp_pow18, wp_pow17, wp_pow16, wp_pow30, wp_eqI, wp_neI, wp_cmpI, wp_isN, wp_isNotN, wp_lenL, wp_lenT, wp_abs, wp_int, wp_min2, wp_max2, wp_listL, wp_listT, wp_tupleL, wp_tupleT, wp_ixT0, wp_ixT1, wp_ixL0, wp_neg, wp_ok, wp_srcEL, wp_isB, wp_isNotB, wp_eqB, wp_neB, wp_all, wp_any, wp_slT, wp_slL, wp_rev, wp_revT, wp_revL, wp_disp, wp_pair, wp_pair0, wp_dict0, wipeW, List.foldl_cons, List.foldl_nil, wp_run, List.map, List.length, List.replicate, List.cons_append, List.nil_append, List.append_nil, List.set_cons_zero, List.set_cons_succ, if_true, if_false, Bool.not_true, Bool.not_false, Bool.true_eq_false, Bool.false_eq_true, Nat.reduceAdd, Nat.reduceSub, gName', wp_lm]
            refine ⟨by simp [seqL, z2], ?_⟩
            simp only [ws_seq, ws_if, ws_set, ws_sub, ws_ret, ws_retN, ws_expr, ws_sNx, ws_for, wp_op, wp_var0, wp_varS, wp_c, wp_mB, wp_toB, wp_tr, wp_trB_bl, wp_trB_non, wp_trB_int, wp_not, wp_and, wp_or, wp_if, wp_mBl, wp_nil, wp_cons, wp_tup, wp_lst, wp_lstS, wp_newL_t, wp_newL_f, wp_chain, wp_call, wp_fn, wp_sl, wp_noPart, wp_part, wp_comp, wp_yes, wp_iL, wp_iA, wp_srcL, wp_srcS, wp_srcAL, wp_srcAT, wp_iR1, wp_iR2, wp_rng1, wp_rng2, wp_iRv, wp_srcRL, wp_srcRT, wp_iEA, wp_srcEL, wp_srcET, wp_add, wp_sub, wp_mul, wp_mod, wp_div, wp_divW, wp_pow18, wp_pow17, wp_pow16, wp_pow30, wp_eqI, wp_neI, wp_cmpI, wp_isN, wp_isNotN, wp_lenL, wp_lenT, wp_abs, wp_int, wp_min2, wp_max2, wp_listL, wp_listT, wp_tupleL, wp_tupleT, wp_ixT0, wp_ixT1, wp_ixL0, wp_neg, wp_ok, wp_srcEL, wp_isB, wp_isNotB, wp_eqB, wp_neB, wp_all, wp_any, wp_slT, wp_slL, wp_rev, wp_revT, wp_revL, wp_disp, wp_pair, wp_pair0, wp_dict0, wipeW, List.foldl_cons, List.foldl_nil, wp_run, List.map, List.length, List.replicate, List.cons_append, List.nil_append, List.append_nil, List.set_cons_zero, List.set_cons_succ, if_true, if_false, Bool.not_true, Bool.not_false, Bool.true_eq_false, Bool.false_eq_true, Nat.reduceAdd, Nat.reduceSub, gName', wp_ixL (getv ev), wp_vc, wp_app z2 hal]
            refine ⟨z1.set (Nat.le_refl _), ?_, _, _, _, _, rfl⟩
            rw [get_setp z2]; simp
        · simp only [h2, decide_false, Bool.not_false, if_true, Bool.true_or]
          simp only [ws_seq, ws_if, ws_set, ws_sub, ws_ret, ws_retN, ws_expr, ws_sNx, ws_for, wp_op, wp_var0, wp_varS, wp_c, wp_mB, wp_toB, wp_tr, wp_trB_bl, wp_trB_non, wp_trB_int, wp_not, wp_and, wp_or, wp_if, wp_mBl, wp_nil, wp_cons, wp_tup, wp_lst, wp_lstS, wp_newL_t, wp_newL_f, wp_chain, wp_call, wp_fn, wp_sl, wp_noPart, wp_part, wp_comp, wp_yes, wp_iL, wp_iA, wp_srcL, wp_srcS, wp_srcAL, wp_srcAT, wp_iR1, wp_iR2, wp_rng1, wp_rng2, wp_iRv, wp_srcRL, wp_srcRT, wp_iEA, wp_srcEL, wp_srcET, wp_add, wp_sub, wp_mul, wp_mod, wp_div, wp_divW, wp_pow18, wp_pow17, wp_pow16, wp_pow30, wp_eqI, wp_neI, wp_cmpI, wp_isN, wp_isNotN, wp_lenL, wp_lenT, wp_abs, wp_int, wp_min2, wp_max2, wp_listL, wp_listT, wp_tupleL, wp_tupleT, wp_ixT0, wp_ixT1, wp_ixL0, wp_neg, wp_ok, wp_srcEL, wp_isB, wp_isNotB, wp_eqB, wp_neB, wp_all, wp_any, wp_slT, wp_slL, wp_rev, wp_revT, wp_revL, wp_disp, wp_pair, wp_pair0, wp_dict0, wipeW, List.foldl_cons, List.foldl_nil, wp_run, List.map, List.length, List.replicate, List.cons_append, List.nil_append, List.append_nil, List.set_cons_zero, List.set_cons_succ, if_true, if_false, Bool.not_true, Bool.not_false, Bool.true_eq_false, Bool.false_eq_true, Nat.reduceAdd, Nat.reduceSub, gName', wp_lm]
          refine ⟨by simp [seqL, z2], ?_⟩
          simp only [ws_seq, ws_if, ws_set, ws_sub, ws_ret, ws_retN, ws_expr, ws_sNx, ws_for, wp_op, wp_var0, wp_varS, wp_c, wp_mB, wp_toB, wp_tr, wp_trB_bl, wp_trB_non, wp_trB_int, wp_not, wp_and, wp_or, wp_if, wp_mBl, wp_nil, wp_cons, wp_tup, wp_lst, wp_lstS, wp_newL_t, wp_newL_f, wp_chain, wp_call, wp_fn, wp_sl, wp_noPart, wp_part, wp_comp, wp_yes, wp_iL, wp_iA, wp_srcL, wp_srcS, wp_srcAL, wp_srcAT, wp_iR1, wp_iR2, wp_rng1, wp_rng2, wp_iRv, wp_srcRL, wp_srcRT, wp_iEA, wp_srcEL, wp_srcET, wp_add, wp_sub, wp_mul, wp_mod, wp_div, wp_divW, wp_pow18, wp_pow17, wp_pow16, wp_pow30, wp_eqI, wp_neI, wp_cmpI, wp_isN, wp_isNotN, wp_lenL, wp_lenT, wp_abs, wp_int, wp_min2, wp_max2, wp_listL, wp_listT, wp_tupleL, wp_tupleT, wp_ixT0, wp_ixT1, wp_ixL0, wp_neg, wp_ok, wp_srcEL, wp_isB, wp_isNotB, wp_eqB, wp_neB, wp_all, wp_any, wp_slT, wp_slL, wp_rev, wp_revT, wp_revL, wp_disp, wp_pair, wp_pair0, wp_dict0, wipeW, List.foldl_cons, List.foldl_nil, wp_run, List.map, List.length, List.replicate, List.cons_append, List.nil_append, List.append_nil, List.set_cons_zero, List.set_cons_succ, if_true, if_false, Bool.not_true, Bool.not_false, Bool.true_eq_false, Bool.false_eq_true, Nat.reduceAdd, Nat.reduceSub, gName', wp_ixL (getv ev), wp_vc, wp_app z2 hal]
          refine ⟨z1.set (Nat.le_refl _), ?_, _, _, _, _, rfl⟩
          rw [get_setp z2]; simp
  · obtain ⟨z1, z2, a, b, d, f, rfl⟩ := z
    simp only [ws_seq, ws_if, ws_set, ws_sub, ws_ret, ws_retN, ws_expr, ws_sNx, ws_for, wp_op, wp_var0, wp_varS, wp_c, wp_mB, wp_toB, wp_tr, wp_trB_bl, wp_trB_non, wp_trB_int, wp_not, wp_and, wp_or, wp_if, wp_mBl, wp_nil, wp_cons, wp_tup, wp_lst, wp_lstS, wp_newL_t, wp_newL_f, wp_chain, wp_call, wp_fn, wp_sl, wp_noPart, wp_part, wp_comp, wp_yes, wp_iL, wp_iA, wp_srcL, wp_srcS, wp_srcAL, wp_srcAT, wp_iR1, wp_iR2, wp_rng1, wp_rng2, wp_iRv, wp_srcRL, wp_srcRT, wp_iEA, wp_srcEL, wp_srcET, wp_add, wp_sub, wp_mul, wp_mod, wp_div, wp_divW, wp_pow18, wp_pow17, wp_pow16, wp_pow30, wp_eqI, wp_neI, wp_cmpI, wp_isN, wp_isNotN, wp_lenL, wp_lenT, wp_abs, wp_int, wp_min2, wp_max2, wp_listL, wp_listT, wp_tupleL, wp_tupleT, wp_ixT0, wp_ixT1, wp_ixL0, wp_neg, wp_ok, wp_srcEL, wp_isB, wp_isNotB, wp_eqB, wp_neB, wp_all, wp_any, wp_slT, wp_slL, wp_rev, wp_revT, wp_revL, wp_disp, wp_pair, wp_pair0, wp_dict0, wipeW, List.foldl_cons, List.foldl_nil, wp_run, List.map, List.length, List.replicate, List.cons_append, List.nil_append, List.append_nil, List.set_cons_zero, List.set_cons_succ, if_true, if_false, Bool.not_true, Bool.not_false, Bool.true_eq_false, Bool.false_eq_true, Nat.reduceAdd, Nat.reduceSub, gName']
    refine ⟨by trivial, ?_, z1⟩
    rw [rng_len, List.take_of_length_le (by simp)] at z2
    exact z2
/-- some of a row -/
theorem some_ok {h : Nat} {st : Sto} {row : List Int} {k : Int} (hr : row.length ≤ 50) (g : Bg h st) : wp (r_law_some [.ref h, .lst (row.map W.int), .int k] st) (fun w s => ∃ ts : List Int, w = .ref st.length ∧ s[st.length]? = some (.lst (ts.map W.int)) ∧ ts.length ≤ 50 ∧ Up h st s ∧ Bg h s) NoE := by
  simp only [r_law_some, m_law_some]
  simp only [ws_seq, ws_if, ws_set, ws_sub, ws_ret, ws_retN, ws_expr, ws_sNx, ws_for, wp_op, wp_var0, wp_varS, wp_c, wp_mB, wp_toB, wp_tr, wp_trB_bl, wp_trB_non, wp_trB_int, wp_not, wp_and, wp_or, wp_if, wp_mBl, wp_nil, wp_cons, wp_tup, wp_lst, wp_lstS, wp_newL_t, wp_newL_f, wp_chain, wp_call, wp_fn, wp_sl, wp_noPart, wp_part, wp_comp, wp_yes, wp_iL, wp_iA, wp_srcL, wp_srcS, wp_srcAL, wp_srcAT, wp_iR1, wp_iR2, wp_rng1, wp_rng2, wp_iRv, wp_srcRL, wp_srcRT, wp_iEA, wp_srcEL, wp_srcET, wp_add, wp_sub, wp_mul, wp_mod, wp_div, wp_divW, wp_pow18, wp_pow17, wp_pow16, wp_pow30, wp_eqI, wp_neI, wp_cmpI, wp_isN, wp_isNotN, wp_lenL, wp_lenT, wp_abs, wp_int, wp_min2, wp_max2, wp_listL, wp_listT, wp_tupleL, wp_tupleT, wp_ixT0, wp_ixT1, wp_ixL0, wp_neg, wp_ok, wp_srcEL, wp_isB, wp_isNotB, wp_eqB, wp_neB, wp_all, wp_any, wp_slT, wp_slL, wp_rev, wp_revT, wp_revL, wp_disp, wp_pair, wp_pair0, wp_dict0, wipeW, List.foldl_cons, List.foldl_nil, wp_run, List.map, List.length, List.replicate, List.cons_append, List.nil_append, List.append_nil, List.set_cons_zero, List.set_cons_succ, if_true, if_false, Bool.not_true, Bool.not_false, Bool.true_eq_false, Bool.false_eq_true, Nat.reduceAdd, Nat.reduceSub, gName']
  have hp : st.length ≠ h := by have := g.lt; omega
  refine forS_fix (fun i e s => ∃ (ts : List Int) (y : Option W), e = [some (.ref h), some (.lst (row.map W.int)), some (.int k), some (.ref st.length), y] ∧ ts.length ≤ i ∧ s[st.length]? = some (.lst (ts.map W.int)) ∧ Up h st s ∧ Bg h s)
    ⟨[], none, rfl, Nat.le_refl _, get_new, Ext.app.up, g.new⟩ (fun i w e env s z => ?_) (fun env s z => ?_)
  · obtain ⟨n, en, rfl⟩ := geti e
    have hi := (List.getElem?_eq_some_iff.mp en).1
    obtain ⟨ts, y, rfl, z1, z2, z3, z4⟩ := z
    refine ⟨_, _, rfl, ?_⟩
    simp only [ws_seq, ws_if, ws_set, ws_sub, ws_ret, ws_retN, ws_expr, ws_sNx, ws_for, wp_op, wp_var0, wp_varS, wp_c, wp_mB, wp_toB, wp_tr, wp_trB_bl, wp_trB_non, wp_trB_int, wp_not, wp_and, wp_or, wp_if, wp_mBl, wp_nil, wp_cons, wp_tup, wp_lst, wp_lstS, wp_newL_t, wp_newL_f, wp_chain, wp_call, wp_fn, wp_sl, wp_noPart, wp_part, wp_comp, wp_yes, wp_iL, wp_iA, wp_srcL, wp_srcS, wp_srcAL, wp_srcAT, wp_iR1, wp_iR2, wp_rng1, wp_rng2, wp_iRv, wp_srcRL, wp_srcRT, wp_iEA, wp_srcEL, wp_srcET, wp_add, wp_sub, wp_mul, wp_mod, wp_div, wp_divW, wp_pow18, wp_pow17, wp_pow16, wp_pow30, wp_eqI, wp_neI, wp_cmpI, wp_isN, wp_isNotN, wp_lenL, wp_lenT, wp_abs, wp_int, wp_min2, wp_max2, wp_listL, wp_listT, wp_tupleL, wp_tupleT, wp_ixT0, wp_ixT1, wp_ixL0, wp_neg, wp_ok, wp_srcEL, wp_isB, wp_isNotB, wp_eqB, wp_neB, wp_all, wp_any, wp_slT, wp_slL, wp_rev, wp_revT, wp_revL, wp_disp, wp_pair, wp_pair0, wp_dict0, wipeW, List.foldl_cons, List.foldl_nil, wp_run, List.map, List.length, List.replicate, List.cons_append, List.nil_append, List.append_nil, List.set_cons_zero, List.set_cons_succ, if_true, if_false, Bool.not_true, Bool.not_false, Bool.true_eq_false, Bool.false_eq_true, Nat.reduceAdd, Nat.reduceSub, gName']
    refine wp_no (draw1 z4 (by decide) (by decide)) ?_
    rintro _ s2 ⟨x, rfl, x0, x1, u2, g⟩
    have e2 := u2.2 _ _ hp z2
    simp only [ws_seq, ws_if, ws_set, ws_sub, ws_ret, ws_retN, ws_expr, ws_sNx, ws_for, wp_op, wp_var0, wp_varS, wp_c, wp_mB, wp_toB, wp_tr, wp_trB_bl, wp_trB_non, wp_trB_int, wp_not, wp_and, wp_or, wp_if, wp_mBl, wp_nil, wp_cons, wp_tup, wp_lst, wp_lstS, wp_newL_t, wp_newL_f, wp_chain, wp_call, wp_fn, wp_sl, wp_noPart, wp_part, wp_comp, wp_yes, wp_iL, wp_iA, wp_srcL, wp_srcS, wp_srcAL, wp_srcAT, wp_iR1, wp_iR2, wp_rng1, wp_rng2, wp_iRv, wp_srcRL, wp_srcRT, wp_iEA, wp_srcEL, wp_srcET, wp_add, wp_sub, wp_mul, wp_mod, wp_div, wp_divW, wp_pow18, wp_pow17, wp_pow16, wp_pow30, wp_eqI, wp_neI, wp_cmpI, wp_isN, wp_isNotN, wp_lenL, wp_lenT, wp_abs, wp_int, wp_min2, wp_max2, wp_listL, wp_listT, wp_tupleL, wp_tupleT, wp_ixT0, wp_ixT1, wp_ixL0, wp_neg, wp_ok, wp_srcEL, wp_isB, wp_isNotB, wp_eqB, wp_neB, wp_all, wp_any, wp_slT, wp_slL, wp_rev, wp_revT, wp_revL, wp_disp, wp_pair, wp_pair0, wp_dict0, wipeW, List.foldl_cons, List.foldl_nil, wp_run, List.map, List.length, List.replicate, List.cons_append, List.nil_append, List.append_nil, List.set_cons_zero, List.set_cons_succ, if_true, if_false, Bool.not_true, Bool.not_false, Bool.true_eq_false, Bool.false_eq_true, Nat.reduceAdd, Nat.reduceSub, gName', decide_eq_true_eq]
    split
    · have hl : (ts.map W.int).length < sizeLine := by simp [sizeLine]; omega
      rw [wp_lm, wp_varS, wp_varS, wp_varS, wp_var0]
      refine ⟨by simp [seqL, e2], ?_⟩
      simp only [ws_seq, ws_if, ws_set, ws_sub, ws_ret, ws_retN, ws_expr, ws_sNx, ws_for, wp_op, wp_var0, wp_varS, wp_c, wp_mB, wp_toB, wp_tr, wp_trB_bl, wp_trB_non, wp_trB_int, wp_not, wp_and, wp_or, wp_if, wp_mBl, wp_nil, wp_cons, wp_tup, wp_lst, wp_lstS, wp_newL_t, wp_newL_f, wp_chain, wp_call, wp_fn, wp_sl, wp_noPart, wp_part, wp_comp, wp_yes, wp_iL, wp_iA, wp_srcL, wp_srcS, wp_srcAL, wp_srcAT, wp_iR1, wp_iR2, wp_rng1, wp_rng2, wp_iRv, wp_srcRL, wp_srcRT, wp_iEA, wp_srcEL, wp_srcET, wp_add, wp_sub, wp_mul, wp_mod, wp_div, wp_divW, wp_pow18, wp_pow17, wp_pow16, wp_pow30, wp_eqI, wp_neI, wp_cmpI, wp_isN, wp_isNotN, wp_lenL, wp_lenT, wp_abs, wp_int, wp_min2, wp_max2, wp_listL, wp_listT, wp_tupleL, wp_tupleT, wp_ixT0, wp_ixT1, wp_ixL0, wp_neg, wp_ok, wp_srcEL, wp_isB, wp_isNotB, wp_eqB, wp_neB, wp_all, wp_any, wp_slT, wp_slL, wp_rev, wp_revT, wp_revL, wp_disp, wp_pair, wp_pair0, wp_dict0, wipeW, List.foldl_cons, List.foldl_nil, wp_run, List.map, List.length, List.replicate, List.cons_append, List.nil_append, List.append_nil, List.set_cons_zero, List.set_cons_succ, if_true, if_false, Bool.not_true, Bool.not_false, Bool.true_eq_false, Bool.false_eq_true, Nat.reduceAdd, Nat.reduceSub, gName', wp_app e2 hl]
      exact ⟨ts ++ [n], _, rfl, by simp; omega, by rw [get_setp e2]; simp, (z3.trans u2).setp (Nat.le_refl _), g.set hp⟩
    · exact ⟨ts, _, rfl, by omega, e2, z3.trans u2, g⟩
  · obtain ⟨ts, y, rfl, z1, z2, z3, z4⟩ := z
    rw [List.length_map] at z1
    simp only [ws_seq, ws_if, ws_set, ws_sub, ws_ret, ws_retN, ws_expr, ws_sNx, ws_for, wp_op, wp_var0, wp_varS, wp_c, wp_mB, wp_toB, wp_tr, wp_trB_bl, wp_trB_non, wp_trB_int, wp_not, wp_and, wp_or, wp_if, wp_mBl, wp_nil, wp_cons, wp_tup, wp_lst, wp_lstS, wp_newL_t, wp_newL_f, wp_chain, wp_call, wp_fn, wp_sl, wp_noPart, wp_part, wp_comp, wp_yes, wp_iL, wp_iA, wp_srcL, wp_srcS, wp_srcAL, wp_srcAT, wp_iR1, wp_iR2, wp_rng1, wp_rng2, wp_iRv, wp_srcRL, wp_srcRT, wp_iEA, wp_srcEL, wp_srcET, wp_add, wp_sub, wp_mul, wp_mod, wp_div, wp_divW, wp_pow18, wp_pow17, wp_pow16, wp_pow30, wp_eqI, wp_neI, wp_cmpI, wp_isN, wp_isNotN, wp_lenL, wp_lenT, wp_abs, wp_int, wp_min2, wp_max2, wp_listL, wp_listT, wp_tupleL, wp_tupleT, wp_ixT0, wp_ixT1, wp_ixL0, wp_neg, wp_ok, wp_srcEL, wp_isB, wp_isNotB, wp_eqB, wp_neB, wp_all, wp_any, wp_slT, wp_slL, wp_rev, wp_revT, wp_revL, wp_disp, wp_pair, wp_pair0, wp_dict0, wipeW, List.foldl_cons, List.foldl_nil, wp_run, List.map, List.length, List.replicate, List.cons_append, List.nil_append, List.append_nil, List.set_cons_zero, List.set_cons_succ, if_true, if_false, Bool.not_true, Bool.not_false, Bool.true_eq_false, Bool.false_eq_true, Nat.reduceAdd, Nat.reduceSub, gName']
    exact ⟨ts, by trivial, z2, by omega, z3, z4⟩
def cms (vs : List Vn) : List Int := vs.map (·.1)
/-- the commits, as a comprehension tells them -/
theorem comp_cms {w : W} {vs : List Vn} {env : Ev} {i : Nat} {st : Sto} {Q : List W → Sto → Prop} {E : Xc → Sto → Prop} (hl : vs.length ≤ 40) {t : CT} {elt : M W}
    (ht : ∀ v : Vn, ∃ env1, t.put (vW v) env = some env1 ∧ wp (elt env1 st) (fun r s => r = .int v.1 ∧ s = st) NoE) (q : Q ((cms vs).map W.int) st) :
    wp (compS (fixS (vs.map vW)) t mYes elt env (fixS (vs.map vW)).fuel 0 [] st) Q E := by
  refine compS_map (fun _ => true) (fun v : Vn => W.int v.1) (by simp [sizeLine]; omega) (fun v _ => ?_) ?_
  · obtain ⟨env1, e1, e2⟩ := ht v
    exact ⟨env1, e1, by simp only [ws_seq, ws_if, ws_set, ws_sub, ws_ret, ws_retN, ws_expr, ws_sNx, ws_for, wp_op, wp_var0, wp_varS, wp_c, wp_mB, wp_toB, wp_tr, wp_trB_bl, wp_trB_non, wp_trB_int, wp_not, wp_and, wp_or, wp_if, wp_mBl, wp_nil, wp_cons, wp_tup, wp_lst, wp_lstS, wp_newL_t, wp_newL_f, wp_chain, wp_call, wp_fn, wp_sl, wp_noPart, wp_part, wp_comp, wp_yes, wp_iL, wp_iA, wp_srcL, wp_srcS, wp_srcAL, wp_srcAT, wp_iR1, wp_iR2, wp_rng1, wp_rng2, wp_iRv, wp_srcRL, wp_srcRT, wp_iEA, wp_srcEL, wp_srcET, wp_add, wp_sub, wp_mul, wp_mod, wp_div, wp_divW, wp_pow18, wp_pow17, wp_pow16, wp_pow30, wp_eqI, wp_neI, wp_cmpI, wp_isN, wp_isNotN, wp_lenL, wp_lenT, wp_abs, wp_int, wp_min2, wp_max2, wp_listL, wp_listT, wp_tupleL, wp_tupleT, wp_ixT0, wp_ixT1, wp_ixL0, wp_neg, wp_ok, wp_srcEL, wp_isB, wp_isNotB, wp_eqB, wp_neB, wp_all, wp_any, wp_slT, wp_slL, wp_rev, wp_revT, wp_revL, wp_disp, wp_pair, wp_pair0, wp_dict0, wipeW, List.foldl_cons, List.foldl_nil, wp_run, List.map, List.length, List.replicate, List.cons_append, List.nil_append, List.append_nil, List.set_cons_zero, List.set_cons_succ, if_true, if_false, Bool.not_true, Bool.not_false, Bool.true_eq_false, Bool.false_eq_true, Nat.reduceAdd, Nat.reduceSub, gName']; exact ⟨by trivial, by trivial⟩, fun _ => e2⟩
  · have : (List.filter (fun _ => true) vs).map (fun v : Vn => W.int v.1) = (cms vs).map W.int := by rw [List.filter_eq_self.mpr (fun _ _ => rfl)]; simp [cms, Function.comp]
    rw [this]
    exact q
theorem lot_draw {h p : Nat} {st : Sto} {vs : List Vn} {due : List Int} (hl : vs.length ≤ 12) (hd : due.length ≤ 40) (hp : p ≠ h) (e : st[p]? = some (.lst (due.map W.int))) (g : Bg h st) : wp (r_law_lot [.ref h, .lst (vs.map vW), .ref p] st) (fun w s => ∃ ts : List Int, w = .tup (ts.map W.int) ∧ ts.length ≤ 50 ∧ Up h st s ∧ Bg h s) NoE := by
  simp only [r_law_lot, m_law_lot, wp_run, List.map, List.length, List.replicate, List.cons_append, List.nil_append, Nat.reduceAdd, Nat.reduceSub]
  rw [ws_seq]
  refine ws_nx (N := fun e s => ∃ x : Int, e = [some (.ref h), some (.lst (vs.map vW)), some (.ref p), some (.int x), none, none, none, none, none] ∧ Up h st s ∧ Bg h s) ?_ ?_
  · simp only [ws_seq, ws_if, ws_set, ws_sub, ws_ret, ws_retN, ws_expr, ws_sNx, ws_for, wp_op, wp_var0, wp_varS, wp_c, wp_mB, wp_toB, wp_tr, wp_trB_bl, wp_trB_non, wp_trB_int, wp_not, wp_and, wp_or, wp_if, wp_mBl, wp_nil, wp_cons, wp_tup, wp_lst, wp_lstS, wp_newL_t, wp_newL_f, wp_chain, wp_call, wp_fn, wp_sl, wp_noPart, wp_part, wp_comp, wp_yes, wp_iL, wp_iA, wp_srcL, wp_srcS, wp_srcAL, wp_srcAT, wp_iR1, wp_iR2, wp_rng1, wp_rng2, wp_iRv, wp_srcRL, wp_srcRT, wp_iEA, wp_srcEL, wp_srcET, wp_add, wp_sub, wp_mul, wp_mod, wp_div, wp_divW, wp_pow18, wp_pow17, wp_pow16, wp_pow30, wp_eqI, wp_neI, wp_cmpI, wp_isN, wp_isNotN, wp_lenL, wp_lenT, wp_abs, wp_int, wp_min2, wp_max2, wp_listL, wp_listT, wp_tupleL, wp_tupleT, wp_ixT0, wp_ixT1, wp_ixL0, wp_neg, wp_ok, wp_srcEL, wp_isB, wp_isNotB, wp_eqB, wp_neB, wp_all, wp_any, wp_slT, wp_slL, wp_rev, wp_revT, wp_revL, wp_disp, wp_pair, wp_pair0, wp_dict0, wipeW, List.foldl_cons, List.foldl_nil, wp_run, List.map, List.length, List.replicate, List.cons_append, List.nil_append, List.append_nil, List.set_cons_zero, List.set_cons_succ, if_true, if_false, Bool.not_true, Bool.not_false, Bool.true_eq_false, Bool.false_eq_true, Nat.reduceAdd, Nat.reduceSub, gName']
    refine wp_no (draw1 g (by decide) (by decide)) ?_
    rintro _ s ⟨x, rfl, x0, x1, u, g⟩
    exact ⟨x, rfl, u, g⟩
  rintro _ s ⟨x, rfl, u, g⟩
  have e := u.2 _ _ hp e
  rw [ws_seq]
  refine ws_nx (N := fun e s' => ∃ cs : List Int, e = [some (.ref h), some (.lst (vs.map vW)), some (.ref p), some (.int x), some (.lst (cs.map W.int)), none, none, none, none] ∧ cs.length ≤ 12 ∧ s' = s) ?_ ?_
  · simp only [ws_seq, ws_if, ws_set, ws_sub, ws_ret, ws_retN, ws_expr, ws_sNx, ws_for, wp_op, wp_var0, wp_varS, wp_c, wp_mB, wp_toB, wp_tr, wp_trB_bl, wp_trB_non, wp_trB_int, wp_not, wp_and, wp_or, wp_if, wp_mBl, wp_nil, wp_cons, wp_tup, wp_lst, wp_lstS, wp_newL_t, wp_newL_f, wp_chain, wp_call, wp_fn, wp_sl, wp_noPart, wp_part, wp_comp, wp_yes, wp_iL, wp_iA, wp_srcL, wp_srcS, wp_srcAL, wp_srcAT, wp_iR1, wp_iR2, wp_rng1, wp_rng2, wp_iRv, wp_srcRL, wp_srcRT, wp_iEA, wp_srcEL, wp_srcET, wp_add, wp_sub, wp_mul, wp_mod, wp_div, wp_divW, wp_pow18, wp_pow17, wp_pow16, wp_pow30, wp_eqI, wp_neI, wp_cmpI, wp_isN, wp_isNotN, wp_lenL, wp_lenT, wp_abs, wp_int, wp_min2, wp_max2, wp_listL, wp_listT, wp_tupleL, wp_tupleT, wp_ixT0, wp_ixT1, wp_ixL0, wp_neg, wp_ok, wp_srcEL, wp_isB, wp_isNotB, wp_eqB, wp_neB, wp_all, wp_any, wp_slT, wp_slL, wp_rev, wp_revT, wp_revL, wp_disp, wp_pair, wp_pair0, wp_dict0, wipeW, List.foldl_cons, List.foldl_nil, wp_run, List.map, List.length, List.replicate, List.cons_append, List.nil_append, List.append_nil, List.set_cons_zero, List.set_cons_succ, if_true, if_false, Bool.not_true, Bool.not_false, Bool.true_eq_false, Bool.false_eq_true, Nat.reduceAdd, Nat.reduceSub, gName']
    refine comp_cms (w := .non) (i := 0) (by omega) (fun v => ⟨_, rfl, ?_⟩) ?_
    · simp only [ws_seq, ws_if, ws_set, ws_sub, ws_ret, ws_retN, ws_expr, ws_sNx, ws_for, wp_op, wp_var0, wp_varS, wp_c, wp_mB, wp_toB, wp_tr, wp_trB_bl, wp_trB_non, wp_trB_int, wp_not, wp_and, wp_or, wp_if, wp_mBl, wp_nil, wp_cons, wp_tup, wp_lst, wp_lstS, wp_newL_t, wp_newL_f, wp_chain, wp_call, wp_fn, wp_sl, wp_noPart, wp_part, wp_comp, wp_yes, wp_iL, wp_iA, wp_srcL, wp_srcS, wp_srcAL, wp_srcAT, wp_iR1, wp_iR2, wp_rng1, wp_rng2, wp_iRv, wp_srcRL, wp_srcRT, wp_iEA, wp_srcEL, wp_srcET, wp_add, wp_sub, wp_mul, wp_mod, wp_div, wp_divW, wp_pow18, wp_pow17, wp_pow16, wp_pow30, wp_eqI, wp_neI, wp_cmpI, wp_isN, wp_isNotN, wp_lenL, wp_lenT, wp_abs, wp_int, wp_min2, wp_max2, wp_listL, wp_listT, wp_tupleL, wp_tupleT, wp_ixT0, wp_ixT1, wp_ixL0, wp_neg, wp_ok, wp_srcEL, wp_isB, wp_isNotB, wp_eqB, wp_neB, wp_all, wp_any, wp_slT, wp_slL, wp_rev, wp_revT, wp_revL, wp_disp, wp_pair, wp_pair0, wp_dict0, wipeW, List.foldl_cons, List.foldl_nil, wp_run, List.map, List.length, List.replicate, List.cons_append, List.nil_append, List.append_nil, List.set_cons_zero, List.set_cons_succ, if_true, if_false, Bool.not_true, Bool.not_false, Bool.true_eq_false, Bool.false_eq_true, Nat.reduceAdd, Nat.reduceSub, gName', wp_vc]
      exact ⟨by trivial, by trivial⟩
    · simp only [ws_seq, ws_if, ws_set, ws_sub, ws_ret, ws_retN, ws_expr, ws_sNx, ws_for, wp_op, wp_var0, wp_varS, wp_c, wp_mB, wp_toB, wp_tr, wp_trB_bl, wp_trB_non, wp_trB_int, wp_not, wp_and, wp_or, wp_if, wp_mBl, wp_nil, wp_cons, wp_tup, wp_lst, wp_lstS, wp_newL_t, wp_newL_f, wp_chain, wp_call, wp_fn, wp_sl, wp_noPart, wp_part, wp_comp, wp_yes, wp_iL, wp_iA, wp_srcL, wp_srcS, wp_srcAL, wp_srcAT, wp_iR1, wp_iR2, wp_rng1, wp_rng2, wp_iRv, wp_srcRL, wp_srcRT, wp_iEA, wp_srcEL, wp_srcET, wp_add, wp_sub, wp_mul, wp_mod, wp_div, wp_divW, wp_pow18, wp_pow17, wp_pow16, wp_pow30, wp_eqI, wp_neI, wp_cmpI, wp_isN, wp_isNotN, wp_lenL, wp_lenT, wp_abs, wp_int, wp_min2, wp_max2, wp_listL, wp_listT, wp_tupleL, wp_tupleT, wp_ixT0, wp_ixT1, wp_ixL0, wp_neg, wp_ok, wp_srcEL, wp_isB, wp_isNotB, wp_eqB, wp_neB, wp_all, wp_any, wp_slT, wp_slL, wp_rev, wp_revT, wp_revL, wp_disp, wp_pair, wp_pair0, wp_dict0, wipeW, List.foldl_cons, List.foldl_nil, wp_run, List.map, List.length, List.replicate, List.cons_append, List.nil_append, List.append_nil, List.set_cons_zero, List.set_cons_succ, if_true, if_false, Bool.not_true, Bool.not_false, Bool.true_eq_false, Bool.false_eq_true, Nat.reduceAdd, Nat.reduceSub, gName', wp_sortL]
      exact ⟨sortZ (cms vs), rfl, by rw [(sort_perm _).length_eq]; simp [cms]; omega, by trivial⟩
  rintro _ s' ⟨cs, rfl, hc, rfl⟩
  rw [ws_seq, ws_if]
  simp only [ws_seq, ws_if, ws_set, ws_sub, ws_ret, ws_retN, ws_expr, ws_sNx, ws_for, wp_op, wp_var0, wp_varS, wp_c, wp_mB, wp_toB, wp_tr, wp_trB_bl, wp_trB_non, wp_trB_int, wp_not, wp_and, wp_or, wp_if, wp_mBl, wp_nil, wp_cons, wp_tup, wp_lst, wp_lstS, wp_newL_t, wp_newL_f, wp_chain, wp_call, wp_fn, wp_sl, wp_noPart, wp_part, wp_comp, wp_yes, wp_iL, wp_iA, wp_srcL, wp_srcS, wp_srcAL, wp_srcAT, wp_iR1, wp_iR2, wp_rng1, wp_rng2, wp_iRv, wp_srcRL, wp_srcRT, wp_iEA, wp_srcEL, wp_srcET, wp_add, wp_sub, wp_mul, wp_mod, wp_div, wp_divW, wp_pow18, wp_pow17, wp_pow16, wp_pow30, wp_eqI, wp_neI, wp_cmpI, wp_isN, wp_isNotN, wp_lenL, wp_lenT, wp_abs, wp_int, wp_min2, wp_max2, wp_listL, wp_listT, wp_tupleL, wp_tupleT, wp_ixT0, wp_ixT1, wp_ixL0, wp_neg, wp_ok, wp_srcEL, wp_isB, wp_isNotB, wp_eqB, wp_neB, wp_all, wp_any, wp_slT, wp_slL, wp_rev, wp_revT, wp_revL, wp_disp, wp_pair, wp_pair0, wp_dict0, wipeW, List.foldl_cons, List.foldl_nil, wp_run, List.map, List.length, List.replicate, List.cons_append, List.nil_append, List.append_nil, List.set_cons_zero, List.set_cons_succ, if_true, if_false, Bool.not_true, Bool.not_false, Bool.true_eq_false, Bool.false_eq_true, Nat.reduceAdd, Nat.reduceSub, gName', decide_eq_true_eq, List.length_map, wp_tupleR e]
  have any : ∀ {st' : Sto} {ts : List Int}, ts.length ≤ 50 → Up h s' st' → Bg h st' → ∃ us : List Int, W.tup (ts.map W.int) = .tup (us.map W.int) ∧ us.length ≤ 50 ∧ Up h st st' ∧ Bg h st' := fun {st' ts} a b c => ⟨ts, rfl, a, u.trans b, c⟩
  by_cases k0 : x = 0
  · simp only [k0, if_true, decide_true]
    exact any (by omega) Up.refl g
  simp only [k0, if_false, decide_false, Bool.false_eq_true]
  by_cases k1 : (cs.length : Int) = 0
  · simp only [k1, if_true, decide_true]
    exact any (by omega) Up.refl g
  simp only [k1, if_false, decide_false, Bool.false_eq_true]
  by_cases k2 : x = 1
  · simp only [k2, if_true, decide_true]
    refine wp_no (draw1 g (by decide) (by decide)) ?_
    rintro _ s2 ⟨y, rfl, y0, y1, u2, g⟩
    simp only [ws_seq, ws_if, ws_set, ws_sub, ws_ret, ws_retN, ws_expr, ws_sNx, ws_for, wp_op, wp_var0, wp_varS, wp_c, wp_mB, wp_toB, wp_tr, wp_trB_bl, wp_trB_non, wp_trB_int, wp_not, wp_and, wp_or, wp_if, wp_mBl, wp_nil, wp_cons, wp_tup, wp_lst, wp_lstS, wp_newL_t, wp_newL_f, wp_chain, wp_call, wp_fn, wp_sl, wp_noPart, wp_part, wp_comp, wp_yes, wp_iL, wp_iA, wp_srcL, wp_srcS, wp_srcAL, wp_srcAT, wp_iR1, wp_iR2, wp_rng1, wp_rng2, wp_iRv, wp_srcRL, wp_srcRT, wp_iEA, wp_srcEL, wp_srcET, wp_add, wp_sub, wp_mul, wp_mod, wp_div, wp_divW, wp_pow18, wp_pow17, wp_pow16, wp_pow30, wp_eqI, wp_neI, wp_cmpI, wp_isN, wp_isNotN, wp_lenL, wp_lenT, wp_abs, wp_int, wp_min2, wp_max2, wp_listL, wp_listT, wp_tupleL, wp_tupleT, wp_ixT0, wp_ixT1, wp_ixL0, wp_neg, wp_ok, wp_srcEL, wp_isB, wp_isNotB, wp_eqB, wp_neB, wp_all, wp_any, wp_slT, wp_slL, wp_rev, wp_revT, wp_revL, wp_disp, wp_pair, wp_pair0, wp_dict0, wipeW, List.foldl_cons, List.foldl_nil, wp_run, List.map, List.length, List.replicate, List.cons_append, List.nil_append, List.append_nil, List.set_cons_zero, List.set_cons_succ, if_true, if_false, Bool.not_true, Bool.not_false, Bool.true_eq_false, Bool.false_eq_true, Nat.reduceAdd, Nat.reduceSub, gName']
    refine wp_no (some_ok (by omega) g) ?_
    rintro _ s3 ⟨ts, rfl, e3, ht, u3, g⟩
    simp only [ws_seq, ws_if, ws_set, ws_sub, ws_ret, ws_retN, ws_expr, ws_sNx, ws_for, wp_op, wp_var0, wp_varS, wp_c, wp_mB, wp_toB, wp_tr, wp_trB_bl, wp_trB_non, wp_trB_int, wp_not, wp_and, wp_or, wp_if, wp_mBl, wp_nil, wp_cons, wp_tup, wp_lst, wp_lstS, wp_newL_t, wp_newL_f, wp_chain, wp_call, wp_fn, wp_sl, wp_noPart, wp_part, wp_comp, wp_yes, wp_iL, wp_iA, wp_srcL, wp_srcS, wp_srcAL, wp_srcAT, wp_iR1, wp_iR2, wp_rng1, wp_rng2, wp_iRv, wp_srcRL, wp_srcRT, wp_iEA, wp_srcEL, wp_srcET, wp_add, wp_sub, wp_mul, wp_mod, wp_div, wp_divW, wp_pow18, wp_pow17, wp_pow16, wp_pow30, wp_eqI, wp_neI, wp_cmpI, wp_isN, wp_isNotN, wp_lenL, wp_lenT, wp_abs, wp_int, wp_min2, wp_max2, wp_listL, wp_listT, wp_tupleL, wp_tupleT, wp_ixT0, wp_ixT1, wp_ixL0, wp_neg, wp_ok, wp_srcEL, wp_isB, wp_isNotB, wp_eqB, wp_neB, wp_all, wp_any, wp_slT, wp_slL, wp_rev, wp_revT, wp_revL, wp_disp, wp_pair, wp_pair0, wp_dict0, wipeW, List.foldl_cons, List.foldl_nil, wp_run, List.map, List.length, List.replicate, List.cons_append, List.nil_append, List.append_nil, List.set_cons_zero, List.set_cons_succ, if_true, if_false, Bool.not_true, Bool.not_false, Bool.true_eq_false, Bool.false_eq_true, Nat.reduceAdd, Nat.reduceSub, gName', wp_tupleR e3]
    exact any ht (u2.trans u3) g
  simp only [k2, if_false, decide_false, Bool.false_eq_true]
  have pick : ∀ {s2 : Sto} {y : Int}, 0 ≤ y → y < cs.length → ∃ c : Int, ∀ {P : W → Sto → Prop} {E}, wp (wIx (.lst (cs.map W.int)) (.int y) s2) P E ↔ P (.int c) s2 := fun {s2 y} y0 y1 => by
    obtain ⟨c, hc⟩ : ∃ c, cs[y.toNat]? = some c := ⟨_, List.getElem?_eq_getElem (by omega)⟩
    exact ⟨c, fun {P E} => wp_ixLi y0 (by rw [List.getElem?_map, hc]; rfl)⟩
  by_cases k3 : x = 2
  · simp only [k3, if_true, decide_true]
    refine wp_no (draw1 g (by omega) (log_of (by omega) (by omega))) ?_
    rintro _ s2 ⟨y, rfl, y0, y1, u2, g⟩
    obtain ⟨c, hc⟩ := pick (s2 := s2) y0 y1
    have e2 := u2.2 _ _ hp e
    rw [hc]
    refine compS_map (fun i : Int => decide (i ∈ due) || decide (i = c)) (fun i => W.int i) (by simp [sizeLine]; omega) (fun i _ => ⟨_, rfl, ?_, fun _ => ?_⟩) ?_
    · simp only [ws_seq, ws_if, ws_set, ws_sub, ws_ret, ws_retN, ws_expr, ws_sNx, ws_for, wp_op, wp_var0, wp_varS, wp_c, wp_mB, wp_toB, wp_tr, wp_trB_bl, wp_trB_non, wp_trB_int, wp_not, wp_and, wp_or, wp_if, wp_mBl, wp_nil, wp_cons, wp_tup, wp_lst, wp_lstS, wp_newL_t, wp_newL_f, wp_chain, wp_call, wp_fn, wp_sl, wp_noPart, wp_part, wp_comp, wp_yes, wp_iL, wp_iA, wp_srcL, wp_srcS, wp_srcAL, wp_srcAT, wp_iR1, wp_iR2, wp_rng1, wp_rng2, wp_iRv, wp_srcRL, wp_srcRT, wp_iEA, wp_srcEL, wp_srcET, wp_add, wp_sub, wp_mul, wp_mod, wp_div, wp_divW, wp_pow18, wp_pow17, wp_pow16, wp_pow30, wp_eqI, wp_neI, wp_cmpI, wp_isN, wp_isNotN, wp_lenL, wp_lenT, wp_abs, wp_int, wp_min2, wp_max2, wp_listL, wp_listT, wp_tupleL, wp_tupleT, wp_ixT0, wp_ixT1, wp_ixL0, wp_neg, wp_ok, wp_srcEL, wp_isB, wp_isNotB, wp_eqB, wp_neB, wp_all, wp_any, wp_slT, wp_slL, wp_rev, wp_revT, wp_revL, wp_disp, wp_pair, wp_pair0, wp_dict0, wipeW, List.foldl_cons, List.foldl_nil, wp_run, List.map, List.length, List.replicate, List.cons_append, List.nil_append, List.append_nil, List.set_cons_zero, List.set_cons_succ, if_true, if_false, Bool.not_true, Bool.not_false, Bool.true_eq_false, Bool.false_eq_true, Nat.reduceAdd, Nat.reduceSub, gName', wp_inR e2]
      by_cases q : i ∈ due <;> simp [q]
    · simp only [ws_seq, ws_if, ws_set, ws_sub, ws_ret, ws_retN, ws_expr, ws_sNx, ws_for, wp_op, wp_var0, wp_varS, wp_c, wp_mB, wp_toB, wp_tr, wp_trB_bl, wp_trB_non, wp_trB_int, wp_not, wp_and, wp_or, wp_if, wp_mBl, wp_nil, wp_cons, wp_tup, wp_lst, wp_lstS, wp_newL_t, wp_newL_f, wp_chain, wp_call, wp_fn, wp_sl, wp_noPart, wp_part, wp_comp, wp_yes, wp_iL, wp_iA, wp_srcL, wp_srcS, wp_srcAL, wp_srcAT, wp_iR1, wp_iR2, wp_rng1, wp_rng2, wp_iRv, wp_srcRL, wp_srcRT, wp_iEA, wp_srcEL, wp_srcET, wp_add, wp_sub, wp_mul, wp_mod, wp_div, wp_divW, wp_pow18, wp_pow17, wp_pow16, wp_pow30, wp_eqI, wp_neI, wp_cmpI, wp_isN, wp_isNotN, wp_lenL, wp_lenT, wp_abs, wp_int, wp_min2, wp_max2, wp_listL, wp_listT, wp_tupleL, wp_tupleT, wp_ixT0, wp_ixT1, wp_ixL0, wp_neg, wp_ok, wp_srcEL, wp_isB, wp_isNotB, wp_eqB, wp_neB, wp_all, wp_any, wp_slT, wp_slL, wp_rev, wp_revT, wp_revL, wp_disp, wp_pair, wp_pair0, wp_dict0, wipeW, List.foldl_cons, List.foldl_nil, wp_run, List.map, List.length, List.replicate, List.cons_append, List.nil_append, List.append_nil, List.set_cons_zero, List.set_cons_succ, if_true, if_false, Bool.not_true, Bool.not_false, Bool.true_eq_false, Bool.false_eq_true, Nat.reduceAdd, Nat.reduceSub, gName']
      exact ⟨by trivial, by trivial⟩
    · refine any (ts := cs.filter _) ?_ u2 g
      exact Nat.le_trans (List.length_filter_le ..) (by omega)
  simp only [k3, if_false, decide_false, Bool.false_eq_true]
  by_cases k4 : x = 3
  · simp only [k4, if_true, decide_true]
    refine wp_no (draw1 g (by omega) (log_of (by omega) (by omega))) ?_
    rintro _ s2 ⟨y, rfl, y0, y1, u2, g⟩
    obtain ⟨c, hc⟩ := pick (s2 := s2) y0 y1
    have e2 := u2.2 _ _ hp e
    rw [hc, wp_srcAR e2]
    refine compS_nod (fun i : Int => !decide (i = c)) (fun i => W.int i) e2 (by simp [sizeLine]; omega) (fun i _ => ⟨_, rfl, ?_, fun _ => ?_⟩) ?_
    · simp only [ws_seq, ws_if, ws_set, ws_sub, ws_ret, ws_retN, ws_expr, ws_sNx, ws_for, wp_op, wp_var0, wp_varS, wp_c, wp_mB, wp_toB, wp_tr, wp_trB_bl, wp_trB_non, wp_trB_int, wp_not, wp_and, wp_or, wp_if, wp_mBl, wp_nil, wp_cons, wp_tup, wp_lst, wp_lstS, wp_newL_t, wp_newL_f, wp_chain, wp_call, wp_fn, wp_sl, wp_noPart, wp_part, wp_comp, wp_yes, wp_iL, wp_iA, wp_srcL, wp_srcS, wp_srcAL, wp_srcAT, wp_iR1, wp_iR2, wp_rng1, wp_rng2, wp_iRv, wp_srcRL, wp_srcRT, wp_iEA, wp_srcEL, wp_srcET, wp_add, wp_sub, wp_mul, wp_mod, wp_div, wp_divW, wp_pow18, wp_pow17, wp_pow16, wp_pow30, wp_eqI, wp_neI, wp_cmpI, wp_isN, wp_isNotN, wp_lenL, wp_lenT, wp_abs, wp_int, wp_min2, wp_max2, wp_listL, wp_listT, wp_tupleL, wp_tupleT, wp_ixT0, wp_ixT1, wp_ixL0, wp_neg, wp_ok, wp_srcEL, wp_isB, wp_isNotB, wp_eqB, wp_neB, wp_all, wp_any, wp_slT, wp_slL, wp_rev, wp_revT, wp_revL, wp_disp, wp_pair, wp_pair0, wp_dict0, wipeW, List.foldl_cons, List.foldl_nil, wp_run, List.map, List.length, List.replicate, List.cons_append, List.nil_append, List.append_nil, List.set_cons_zero, List.set_cons_succ, if_true, if_false, Bool.not_true, Bool.not_false, Bool.true_eq_false, Bool.false_eq_true, Nat.reduceAdd, Nat.reduceSub, gName']
      exact ⟨by trivial, by trivial⟩
    · simp only [ws_seq, ws_if, ws_set, ws_sub, ws_ret, ws_retN, ws_expr, ws_sNx, ws_for, wp_op, wp_var0, wp_varS, wp_c, wp_mB, wp_toB, wp_tr, wp_trB_bl, wp_trB_non, wp_trB_int, wp_not, wp_and, wp_or, wp_if, wp_mBl, wp_nil, wp_cons, wp_tup, wp_lst, wp_lstS, wp_newL_t, wp_newL_f, wp_chain, wp_call, wp_fn, wp_sl, wp_noPart, wp_part, wp_comp, wp_yes, wp_iL, wp_iA, wp_srcL, wp_srcS, wp_srcAL, wp_srcAT, wp_iR1, wp_iR2, wp_rng1, wp_rng2, wp_iRv, wp_srcRL, wp_srcRT, wp_iEA, wp_srcEL, wp_srcET, wp_add, wp_sub, wp_mul, wp_mod, wp_div, wp_divW, wp_pow18, wp_pow17, wp_pow16, wp_pow30, wp_eqI, wp_neI, wp_cmpI, wp_isN, wp_isNotN, wp_lenL, wp_lenT, wp_abs, wp_int, wp_min2, wp_max2, wp_listL, wp_listT, wp_tupleL, wp_tupleT, wp_ixT0, wp_ixT1, wp_ixL0, wp_neg, wp_ok, wp_srcEL, wp_isB, wp_isNotB, wp_eqB, wp_neB, wp_all, wp_any, wp_slT, wp_slL, wp_rev, wp_revT, wp_revL, wp_disp, wp_pair, wp_pair0, wp_dict0, wipeW, List.foldl_cons, List.foldl_nil, wp_run, List.map, List.length, List.replicate, List.cons_append, List.nil_append, List.append_nil, List.set_cons_zero, List.set_cons_succ, if_true, if_false, Bool.not_true, Bool.not_false, Bool.true_eq_false, Bool.false_eq_true, Nat.reduceAdd, Nat.reduceSub, gName']
      exact ⟨by trivial, by trivial⟩
    · refine any (ts := due.filter _) ?_ u2 g
      exact Nat.le_trans (List.length_filter_le ..) (by omega)
  simp only [k4, if_false, decide_false, Bool.false_eq_true]
  by_cases k5 : x = 4
  · simp only [k5, if_true, decide_true]
    refine compS_map (fun v : Vn => decide (v.2 = none)) (fun v : Vn => W.int v.1) (by simp [sizeLine]; omega) (fun v _ => ⟨_, rfl, ?_, fun _ => ?_⟩) ?_
    · simp only [ws_seq, ws_if, ws_set, ws_sub, ws_ret, ws_retN, ws_expr, ws_sNx, ws_for, wp_op, wp_var0, wp_varS, wp_c, wp_mB, wp_toB, wp_tr, wp_trB_bl, wp_trB_non, wp_trB_int, wp_not, wp_and, wp_or, wp_if, wp_mBl, wp_nil, wp_cons, wp_tup, wp_lst, wp_lstS, wp_newL_t, wp_newL_f, wp_chain, wp_call, wp_fn, wp_sl, wp_noPart, wp_part, wp_comp, wp_yes, wp_iL, wp_iA, wp_srcL, wp_srcS, wp_srcAL, wp_srcAT, wp_iR1, wp_iR2, wp_rng1, wp_rng2, wp_iRv, wp_srcRL, wp_srcRT, wp_iEA, wp_srcEL, wp_srcET, wp_add, wp_sub, wp_mul, wp_mod, wp_div, wp_divW, wp_pow18, wp_pow17, wp_pow16, wp_pow30, wp_eqI, wp_neI, wp_cmpI, wp_isN, wp_isNotN, wp_lenL, wp_lenT, wp_abs, wp_int, wp_min2, wp_max2, wp_listL, wp_listT, wp_tupleL, wp_tupleT, wp_ixT0, wp_ixT1, wp_ixL0, wp_neg, wp_ok, wp_srcEL, wp_isB, wp_isNotB, wp_eqB, wp_neB, wp_all, wp_any, wp_slT, wp_slL, wp_rev, wp_revT, wp_revL, wp_disp, wp_pair, wp_pair0, wp_dict0, wipeW, List.foldl_cons, List.foldl_nil, wp_run, List.map, List.length, List.replicate, List.cons_append, List.nil_append, List.append_nil, List.set_cons_zero, List.set_cons_succ, if_true, if_false, Bool.not_true, Bool.not_false, Bool.true_eq_false, Bool.false_eq_true, Nat.reduceAdd, Nat.reduceSub, gName', wp_vm, non_m]
      exact ⟨by trivial, by trivial⟩
    · simp only [ws_seq, ws_if, ws_set, ws_sub, ws_ret, ws_retN, ws_expr, ws_sNx, ws_for, wp_op, wp_var0, wp_varS, wp_c, wp_mB, wp_toB, wp_tr, wp_trB_bl, wp_trB_non, wp_trB_int, wp_not, wp_and, wp_or, wp_if, wp_mBl, wp_nil, wp_cons, wp_tup, wp_lst, wp_lstS, wp_newL_t, wp_newL_f, wp_chain, wp_call, wp_fn, wp_sl, wp_noPart, wp_part, wp_comp, wp_yes, wp_iL, wp_iA, wp_srcL, wp_srcS, wp_srcAL, wp_srcAT, wp_iR1, wp_iR2, wp_rng1, wp_rng2, wp_iRv, wp_srcRL, wp_srcRT, wp_iEA, wp_srcEL, wp_srcET, wp_add, wp_sub, wp_mul, wp_mod, wp_div, wp_divW, wp_pow18, wp_pow17, wp_pow16, wp_pow30, wp_eqI, wp_neI, wp_cmpI, wp_isN, wp_isNotN, wp_lenL, wp_lenT, wp_abs, wp_int, wp_min2, wp_max2, wp_listL, wp_listT, wp_tupleL, wp_tupleT, wp_ixT0, wp_ixT1, wp_ixL0, wp_neg, wp_ok, wp_srcEL, wp_isB, wp_isNotB, wp_eqB, wp_neB, wp_all, wp_any, wp_slT, wp_slL, wp_rev, wp_revT, wp_revL, wp_disp, wp_pair, wp_pair0, wp_dict0, wipeW, List.foldl_cons, List.foldl_nil, wp_run, List.map, List.length, List.replicate, List.cons_append, List.nil_append, List.append_nil, List.set_cons_zero, List.set_cons_succ, if_true, if_false, Bool.not_true, Bool.not_false, Bool.true_eq_false, Bool.false_eq_true, Nat.reduceAdd, Nat.reduceSub, gName', wp_vc]
      exact ⟨by trivial, by trivial⟩
    · have e1 : (vs.filter fun v : Vn => decide (v.2 = none)).map (fun v : Vn => W.int v.1) = ((vs.filter fun v : Vn => decide (v.2 = none)).map (·.1)).map W.int := by rw [List.map_map]; rfl
      rw [e1]
      refine wp_no (some_ok (by rw [List.length_map]; exact Nat.le_trans (List.length_filter_le ..) (by omega)) g) ?_
      rintro _ s3 ⟨ts, rfl, e3, ht, u3, g⟩
      have e2 := u3.2 _ _ hp e
      refine compS_map (fun i : Int => decide (i ∈ due) || decide (i ∈ ts)) (fun i => W.int i) (by simp [sizeLine]; omega) (fun i _ => ⟨_, rfl, ?_, fun _ => ?_⟩) ?_
      · simp only [ws_seq, ws_if, ws_set, ws_sub, ws_ret, ws_retN, ws_expr, ws_sNx, ws_for, wp_op, wp_var0, wp_varS, wp_c, wp_mB, wp_toB, wp_tr, wp_trB_bl, wp_trB_non, wp_trB_int, wp_not, wp_and, wp_or, wp_if, wp_mBl, wp_nil, wp_cons, wp_tup, wp_lst, wp_lstS, wp_newL_t, wp_newL_f, wp_chain, wp_call, wp_fn, wp_sl, wp_noPart, wp_part, wp_comp, wp_yes, wp_iL, wp_iA, wp_srcL, wp_srcS, wp_srcAL, wp_srcAT, wp_iR1, wp_iR2, wp_rng1, wp_rng2, wp_iRv, wp_srcRL, wp_srcRT, wp_iEA, wp_srcEL, wp_srcET, wp_add, wp_sub, wp_mul, wp_mod, wp_div, wp_divW, wp_pow18, wp_pow17, wp_pow16, wp_pow30, wp_eqI, wp_neI, wp_cmpI, wp_isN, wp_isNotN, wp_lenL, wp_lenT, wp_abs, wp_int, wp_min2, wp_max2, wp_listL, wp_listT, wp_tupleL, wp_tupleT, wp_ixT0, wp_ixT1, wp_ixL0, wp_neg, wp_ok, wp_srcEL, wp_isB, wp_isNotB, wp_eqB, wp_neB, wp_all, wp_any, wp_slT, wp_slL, wp_rev, wp_revT, wp_revL, wp_disp, wp_pair, wp_pair0, wp_dict0, wipeW, List.foldl_cons, List.foldl_nil, wp_run, List.map, List.length, List.replicate, List.cons_append, List.nil_append, List.append_nil, List.set_cons_zero, List.set_cons_succ, if_true, if_false, Bool.not_true, Bool.not_false, Bool.true_eq_false, Bool.false_eq_true, Nat.reduceAdd, Nat.reduceSub, gName', wp_inR e2]
        by_cases q : i ∈ due
        · simp [q]
        · simp only [q, decide_false, Bool.false_eq_true, if_false, wp_inR e3, wp_toB, Bool.false_or, and_self]
      · simp only [ws_seq, ws_if, ws_set, ws_sub, ws_ret, ws_retN, ws_expr, ws_sNx, ws_for, wp_op, wp_var0, wp_varS, wp_c, wp_mB, wp_toB, wp_tr, wp_trB_bl, wp_trB_non, wp_trB_int, wp_not, wp_and, wp_or, wp_if, wp_mBl, wp_nil, wp_cons, wp_tup, wp_lst, wp_lstS, wp_newL_t, wp_newL_f, wp_chain, wp_call, wp_fn, wp_sl, wp_noPart, wp_part, wp_comp, wp_yes, wp_iL, wp_iA, wp_srcL, wp_srcS, wp_srcAL, wp_srcAT, wp_iR1, wp_iR2, wp_rng1, wp_rng2, wp_iRv, wp_srcRL, wp_srcRT, wp_iEA, wp_srcEL, wp_srcET, wp_add, wp_sub, wp_mul, wp_mod, wp_div, wp_divW, wp_pow18, wp_pow17, wp_pow16, wp_pow30, wp_eqI, wp_neI, wp_cmpI, wp_isN, wp_isNotN, wp_lenL, wp_lenT, wp_abs, wp_int, wp_min2, wp_max2, wp_listL, wp_listT, wp_tupleL, wp_tupleT, wp_ixT0, wp_ixT1, wp_ixL0, wp_neg, wp_ok, wp_srcEL, wp_isB, wp_isNotB, wp_eqB, wp_neB, wp_all, wp_any, wp_slT, wp_slL, wp_rev, wp_revT, wp_revL, wp_disp, wp_pair, wp_pair0, wp_dict0, wipeW, List.foldl_cons, List.foldl_nil, wp_run, List.map, List.length, List.replicate, List.cons_append, List.nil_append, List.append_nil, List.set_cons_zero, List.set_cons_succ, if_true, if_false, Bool.not_true, Bool.not_false, Bool.true_eq_false, Bool.false_eq_true, Nat.reduceAdd, Nat.reduceSub, gName']
        exact ⟨by trivial, by trivial⟩
      · refine any (ts := cs.filter _) ?_ u3 g
        exact Nat.le_trans (List.length_filter_le ..) (by omega)
  simp only [k5, if_false, decide_false, Bool.false_eq_true]
  exact any (by omega) Up.refl g
end Lw
namespace Lw
open PySem L2 Mi
/-! things of any kind -/
def isI : W → Bool
  | .int _ => true
  | _ => false
/-- an item: a whole number, or something that is none, whatever the store -/
def It (x : W) : Prop := (∃ i, x = .int i) ∨ (isI x = false ∧ ∀ s, ∃ t, tyOf s x = some t ∧ (kitB t "int" = some false ∨ (kitB t "int" = some true ∧ kitB t "bool" = some true)))
def NT (w : W) (s : Sto) : Prop := ∃ t, tyOf s w = some t ∧ kitB t "tuple" = some false
def Th (w : W) (s : Sto) : Prop := (∃ xs, w = .tup xs ∧ xs.length ≤ 500 ∧ ∀ x ∈ xs, It x) ∨ NT w s
theorem It.int {i : Int} : It (.int i) := .inl ⟨i, rfl⟩
theorem It.bl {b : Bool} : It (.bl b) := .inr ⟨rfl, fun s => ⟨"bool", rfl, .inr (by decide +kernel)⟩⟩
theorem It.non : It .non := .inr ⟨rfl, fun s => ⟨"NoneType", rfl, .inl (by decide +kernel)⟩⟩
theorem It.str {x : Str} : It (.str x) := .inr ⟨rfl, fun s => ⟨"str", rfl, .inl (by decide +kernel)⟩⟩
theorem It.tup {xs : List W} : It (.tup xs) := .inr ⟨rfl, fun s => ⟨"tuple", rfl, .inl (by decide +kernel)⟩⟩
theorem It.lst {xs : List W} : It (.lst xs) := .inr ⟨rfl, fun s => ⟨"list", rfl, .inl (by decide +kernel)⟩⟩
theorem NT.lst {xs : List W} {s : Sto} : NT (.lst xs) s := ⟨"list", rfl, by decide +kernel⟩
theorem NT.non {s : Sto} : NT .non s := ⟨"NoneType", rfl, by decide +kernel⟩
theorem NT.bl {b : Bool} {s : Sto} : NT (.bl b) s := ⟨"bool", rfl, by decide +kernel⟩
theorem NT.int {b : Int} {s : Sto} : NT (.int b) s := ⟨"int", rfl, by decide +kernel⟩
theorem NT.str {b : Str} {s : Sto} : NT (.str b) s := ⟨"str", rfl, by decide +kernel⟩
theorem NT.dk {p : Nat} {kvs : List (Key × W)} {s : Sto} (e : s[p]? = some (.dk kvs)) : NT (.ref p) s := ⟨"dict", by simp [tyOf, e], by decide +kernel⟩
theorem NT.ext {w : W} {s s' : Sto} (x : Ext s s') (h : NT w s) : NT w s' := by
  obtain ⟨t, h1, h2⟩ := h
  refine ⟨t, ?_, h2⟩
  cases w with
  | ref i =>
    simp only [tyOf] at h1 ⊢
    cases e : s[i]? with
    | none => rw [e] at h1; simp at h1
    | some n => rw [e] at h1; rw [x.2 i n e]; exact h1
  | _ => exact h1
theorem Th.ext {w : W} {s s' : Sto} (x : Ext s s') (h : Th w s) : Th w s' := h.imp id (NT.ext x)
theorem ints_it {ts : List Int} : ∀ x ∈ ts.map W.int, It x := fun x hx => by
  obtain ⟨i, _, rfl⟩ := List.mem_map.mp hx
  exact It.int
section
variable {st : Sto} {E : Xc → Sto → Prop}
theorem isint_it {x : W} (h : It x) : wp (r_is_integer [x] st) (fun w s => w = .bl (isI x) ∧ s = st) E := by
  rcases h with ⟨i, rfl⟩ | ⟨h1, h2⟩
  · exact int_ok
  · obtain ⟨t, e, k⟩ := h2 st
    simp only [r_is_integer, m_is_integer]
    rw [h1]
    rcases k with k | ⟨k1, k2⟩
    · simp only [ws_seq, ws_if, ws_set, ws_sub, ws_ret, ws_retN, ws_expr, ws_sNx, ws_for, wp_op, wp_var0, wp_varS, wp_c, wp_mB, wp_toB, wp_tr, wp_trB_bl, wp_trB_non, wp_trB_int, wp_not, wp_and, wp_or, wp_if, wp_mBl, wp_nil, wp_cons, wp_tup, wp_lst, wp_lstS, wp_newL_t, wp_newL_f, wp_chain, wp_call, wp_fn, wp_sl, wp_noPart, wp_part, wp_comp, wp_yes, wp_iL, wp_iA, wp_srcL, wp_srcS, wp_srcAL, wp_srcAT, wp_iR1, wp_iR2, wp_rng1, wp_rng2, wp_iRv, wp_srcRL, wp_srcRT, wp_iEA, wp_srcEL, wp_srcET, wp_add, wp_sub, wp_mul, wp_mod, wp_div, wp_divW, wp_pow18, wp_pow17, wp_pow16, wp_pow30, wp_eqI, wp_neI, wp_cmpI, wp_isN, wp_isNotN, wp_lenL, wp_lenT, wp_abs, wp_int, wp_min2, wp_max2, wp_listL, wp_listT, wp_tupleL, wp_tupleT, wp_ixT0, wp_ixT1, wp_ixL0, wp_neg, wp_ok, wp_srcEL, wp_isB, wp_isNotB, wp_eqB, wp_neB, wp_all, wp_any, wp_slT, wp_slL, wp_rev, wp_revT, wp_revL, wp_disp, wp_pair, wp_pair0, wp_dict0, wipeW, List.foldl_cons, List.foldl_nil, wp_run, List.map, List.length, List.replicate, List.cons_append, List.nil_append, List.append_nil, List.set_cons_zero, List.set_cons_succ, if_true, if_false, Bool.not_true, Bool.not_false, Bool.true_eq_false, Bool.false_eq_true, Nat.reduceAdd, Nat.reduceSub, gName', wp_isi e k]
      simp
    · simp only [ws_seq, ws_if, ws_set, ws_sub, ws_ret, ws_retN, ws_expr, ws_sNx, ws_for, wp_op, wp_var0, wp_varS, wp_c, wp_mB, wp_toB, wp_tr, wp_trB_bl, wp_trB_non, wp_trB_int, wp_not, wp_and, wp_or, wp_if, wp_mBl, wp_nil, wp_cons, wp_tup, wp_lst, wp_lstS, wp_newL_t, wp_newL_f, wp_chain, wp_call, wp_fn, wp_sl, wp_noPart, wp_part, wp_comp, wp_yes, wp_iL, wp_iA, wp_srcL, wp_srcS, wp_srcAL, wp_srcAT, wp_iR1, wp_iR2, wp_rng1, wp_rng2, wp_iRv, wp_srcRL, wp_srcRT, wp_iEA, wp_srcEL, wp_srcET, wp_add, wp_sub, wp_mul, wp_mod, wp_div, wp_divW, wp_pow18, wp_pow17, wp_pow16, wp_pow30, wp_eqI, wp_neI, wp_cmpI, wp_isN, wp_isNotN, wp_lenL, wp_lenT, wp_abs, wp_int, wp_min2, wp_max2, wp_listL, wp_listT, wp_tupleL, wp_tupleT, wp_ixT0, wp_ixT1, wp_ixL0, wp_neg, wp_ok, wp_srcEL, wp_isB, wp_isNotB, wp_eqB, wp_neB, wp_all, wp_any, wp_slT, wp_slL, wp_rev, wp_revT, wp_revL, wp_disp, wp_pair, wp_pair0, wp_dict0, wipeW, List.foldl_cons, List.foldl_nil, wp_run, List.map, List.length, List.replicate, List.cons_append, List.nil_append, List.append_nil, List.set_cons_zero, List.set_cons_succ, if_true, if_false, Bool.not_true, Bool.not_false, Bool.true_eq_false, Bool.false_eq_true, Nat.reduceAdd, Nat.reduceSub, gName', wp_isi e k1, wp_isi e k2]
      simp
def inB (a b : Int) : W → Bool
  | .int i => decide (a ≤ i) && decide (i ≤ b)
  | _ => false
theorem within_it {a b : Int} {x : W} (h : It x) : wp (r_is_within [.int a, .int b, x] st) (fun w s => w = .bl (inB a b x) ∧ s = st) E := by
  rcases h with ⟨i, rfl⟩ | ⟨h1, h2⟩
  · exact within_ok
  · simp only [r_is_within, m_is_within]
    simp only [ws_seq, ws_if, ws_set, ws_sub, ws_ret, ws_retN, ws_expr, ws_sNx, ws_for, wp_op, wp_var0, wp_varS, wp_c, wp_mB, wp_toB, wp_tr, wp_trB_bl, wp_trB_non, wp_trB_int, wp_not, wp_and, wp_or, wp_if, wp_mBl, wp_nil, wp_cons, wp_tup, wp_lst, wp_lstS, wp_newL_t, wp_newL_f, wp_chain, wp_call, wp_fn, wp_sl, wp_noPart, wp_part, wp_comp, wp_yes, wp_iL, wp_iA, wp_srcL, wp_srcS, wp_srcAL, wp_srcAT, wp_iR1, wp_iR2, wp_rng1, wp_rng2, wp_iRv, wp_srcRL, wp_srcRT, wp_iEA, wp_srcEL, wp_srcET, wp_add, wp_sub, wp_mul, wp_mod, wp_div, wp_divW, wp_pow18, wp_pow17, wp_pow16, wp_pow30, wp_eqI, wp_neI, wp_cmpI, wp_isN, wp_isNotN, wp_lenL, wp_lenT, wp_abs, wp_int, wp_min2, wp_max2, wp_listL, wp_listT, wp_tupleL, wp_tupleT, wp_ixT0, wp_ixT1, wp_ixL0, wp_neg, wp_ok, wp_srcEL, wp_isB, wp_isNotB, wp_eqB, wp_neB, wp_all, wp_any, wp_slT, wp_slL, wp_rev, wp_revT, wp_revL, wp_disp, wp_pair, wp_pair0, wp_dict0, wipeW, List.foldl_cons, List.foldl_nil, wp_run, List.map, List.length, List.replicate, List.cons_append, List.nil_append, List.append_nil, List.set_cons_zero, List.set_cons_succ, if_true, if_false, Bool.not_true, Bool.not_false, Bool.true_eq_false, Bool.false_eq_true, Nat.reduceAdd, Nat.reduceSub, gName']
    refine wp_eq (isint_it (.inr ⟨h1, h2⟩)) ?_
    rw [h1]
    simp only [ws_seq, ws_if, ws_set, ws_sub, ws_ret, ws_retN, ws_expr, ws_sNx, ws_for, wp_op, wp_var0, wp_varS, wp_c, wp_mB, wp_toB, wp_tr, wp_trB_bl, wp_trB_non, wp_trB_int, wp_not, wp_and, wp_or, wp_if, wp_mBl, wp_nil, wp_cons, wp_tup, wp_lst, wp_lstS, wp_newL_t, wp_newL_f, wp_chain, wp_call, wp_fn, wp_sl, wp_noPart, wp_part, wp_comp, wp_yes, wp_iL, wp_iA, wp_srcL, wp_srcS, wp_srcAL, wp_srcAT, wp_iR1, wp_iR2, wp_rng1, wp_rng2, wp_iRv, wp_srcRL, wp_srcRT, wp_iEA, wp_srcEL, wp_srcET, wp_add, wp_sub, wp_mul, wp_mod, wp_div, wp_divW, wp_pow18, wp_pow17, wp_pow16, wp_pow30, wp_eqI, wp_neI, wp_cmpI, wp_isN, wp_isNotN, wp_lenL, wp_lenT, wp_abs, wp_int, wp_min2, wp_max2, wp_listL, wp_listT, wp_tupleL, wp_tupleT, wp_ixT0, wp_ixT1, wp_ixL0, wp_neg, wp_ok, wp_srcEL, wp_isB, wp_isNotB, wp_eqB, wp_neB, wp_all, wp_any, wp_slT, wp_slL, wp_rev, wp_revT, wp_revL, wp_disp, wp_pair, wp_pair0, wp_dict0, wipeW, List.foldl_cons, List.foldl_nil, wp_run, List.map, List.length, List.replicate, List.cons_append, List.nil_append, List.append_nil, List.set_cons_zero, List.set_cons_succ, if_true, if_false, Bool.not_true, Bool.not_false, Bool.true_eq_false, Bool.false_eq_true, Nat.reduceAdd, Nat.reduceSub, gName']
    have : inB a b x = false := by cases x <;> simp_all [inB, isI]
    rw [this]
    simp
theorem drop_get {α : Type} {xs : List α} {i : Nat} {x : α} (e : xs[i]? = some x) : xs.drop i = x :: xs.drop (i + 1) := by
  obtain ⟨h, rfl⟩ := List.getElem?_eq_some_iff.mp e
  exact List.drop_eq_getElem_cons h
def lotB (b : Int) : Int → List W → Bool
  | _, [] => true
  | l, x :: r => match x with
    | .int i => if l ≤ i ∧ i ≤ b - 1 then lotB b (i + 1) r else false
    | _ => false
theorem lotB_cons {b l : Int} {x : W} {r : List W} : lotB b l (x :: r) = (inB l (b - 1) x && (match x with | .int i => lotB b (i + 1) r | _ => false)) := by
  cases x with
  | int i =>
    simp only [lotB, inB]
    by_cases h : l ≤ i ∧ i ≤ b - 1
    · rw [if_pos h]; simp [h.1, h.2]
    · rw [if_neg h]
      by_cases h1 : l ≤ i
      · have : ¬ i ≤ b - 1 := fun z => h ⟨h1, z⟩
        simp [h1, this]
      · simp [h1]
  | _ => simp [lotB, inB]
theorem below_ok {b : Int} {xs : List W} (hx : ∀ x ∈ xs, It x) : wp (r_is_lot_below [.int b, .tup xs] st) (fun w s => w = .bl (lotB b 0 xs) ∧ s = st) E := by
  simp only [r_is_lot_below, m_is_lot_below]
  simp only [ws_seq, ws_if, ws_set, ws_sub, ws_ret, ws_retN, ws_expr, ws_sNx, ws_for, wp_op, wp_var0, wp_varS, wp_c, wp_mB, wp_toB, wp_tr, wp_trB_bl, wp_trB_non, wp_trB_int, wp_not, wp_and, wp_or, wp_if, wp_mBl, wp_nil, wp_cons, wp_tup, wp_lst, wp_lstS, wp_newL_t, wp_newL_f, wp_chain, wp_call, wp_fn, wp_sl, wp_noPart, wp_part, wp_comp, wp_yes, wp_iL, wp_iA, wp_srcL, wp_srcS, wp_srcAL, wp_srcAT, wp_iR1, wp_iR2, wp_rng1, wp_rng2, wp_iRv, wp_srcRL, wp_srcRT, wp_iEA, wp_srcEL, wp_srcET, wp_add, wp_sub, wp_mul, wp_mod, wp_div, wp_divW, wp_pow18, wp_pow17, wp_pow16, wp_pow30, wp_eqI, wp_neI, wp_cmpI, wp_isN, wp_isNotN, wp_lenL, wp_lenT, wp_abs, wp_int, wp_min2, wp_max2, wp_listL, wp_listT, wp_tupleL, wp_tupleT, wp_ixT0, wp_ixT1, wp_ixL0, wp_neg, wp_ok, wp_srcEL, wp_isB, wp_isNotB, wp_eqB, wp_neB, wp_all, wp_any, wp_slT, wp_slL, wp_rev, wp_revT, wp_revL, wp_disp, wp_pair, wp_pair0, wp_dict0, wipeW, List.foldl_cons, List.foldl_nil, wp_run, List.map, List.length, List.replicate, List.cons_append, List.nil_append, List.append_nil, List.set_cons_zero, List.set_cons_succ, if_true, if_false, Bool.not_true, Bool.not_false, Bool.true_eq_false, Bool.false_eq_true, Nat.reduceAdd, Nat.reduceSub, gName', wp_isiT]
  refine forS_fix (fun i e s => s = st ∧ ∃ (q : Option W) (l : Int), e = [some (.int b), some (.tup xs), some (.int l), q] ∧ lotB b 0 xs = lotB b l (xs.drop i)) ⟨rfl, none, 0, rfl, rfl⟩ (fun i x e env s z => ?_) (fun env s z => ?_)
  · obtain ⟨rfl, q, l, rfl, z⟩ := z
    refine ⟨_, _, rfl, ?_⟩
    simp only [ws_seq, ws_if, ws_set, ws_sub, ws_ret, ws_retN, ws_expr, ws_sNx, ws_for, wp_op, wp_var0, wp_varS, wp_c, wp_mB, wp_toB, wp_tr, wp_trB_bl, wp_trB_non, wp_trB_int, wp_not, wp_and, wp_or, wp_if, wp_mBl, wp_nil, wp_cons, wp_tup, wp_lst, wp_lstS, wp_newL_t, wp_newL_f, wp_chain, wp_call, wp_fn, wp_sl, wp_noPart, wp_part, wp_comp, wp_yes, wp_iL, wp_iA, wp_srcL, wp_srcS, wp_srcAL, wp_srcAT, wp_iR1, wp_iR2, wp_rng1, wp_rng2, wp_iRv, wp_srcRL, wp_srcRT, wp_iEA, wp_srcEL, wp_srcET, wp_add, wp_sub, wp_mul, wp_mod, wp_div, wp_divW, wp_pow18, wp_pow17, wp_pow16, wp_pow30, wp_eqI, wp_neI, wp_cmpI, wp_isN, wp_isNotN, wp_lenL, wp_lenT, wp_abs, wp_int, wp_min2, wp_max2, wp_listL, wp_listT, wp_tupleL, wp_tupleT, wp_ixT0, wp_ixT1, wp_ixL0, wp_neg, wp_ok, wp_srcEL, wp_isB, wp_isNotB, wp_eqB, wp_neB, wp_all, wp_any, wp_slT, wp_slL, wp_rev, wp_revT, wp_revL, wp_disp, wp_pair, wp_pair0, wp_dict0, wipeW, List.foldl_cons, List.foldl_nil, wp_run, List.map, List.length, List.replicate, List.cons_append, List.nil_append, List.append_nil, List.set_cons_zero, List.set_cons_succ, if_true, if_false, Bool.not_true, Bool.not_false, Bool.true_eq_false, Bool.false_eq_true, Nat.reduceAdd, Nat.reduceSub, gName']
    rw [drop_get e, lotB_cons] at z
    refine wp_eq (within_it (hx x (List.mem_of_getElem? e))) ?_
    cases hb : inB l (b - 1) x with
    | false =>
      rw [hb, Bool.false_and] at z
      simp only [ws_seq, ws_if, ws_set, ws_sub, ws_ret, ws_retN, ws_expr, ws_sNx, ws_for, wp_op, wp_var0, wp_varS, wp_c, wp_mB, wp_toB, wp_tr, wp_trB_bl, wp_trB_non, wp_trB_int, wp_not, wp_and, wp_or, wp_if, wp_mBl, wp_nil, wp_cons, wp_tup, wp_lst, wp_lstS, wp_newL_t, wp_newL_f, wp_chain, wp_call, wp_fn, wp_sl, wp_noPart, wp_part, wp_comp, wp_yes, wp_iL, wp_iA, wp_srcL, wp_srcS, wp_srcAL, wp_srcAT, wp_iR1, wp_iR2, wp_rng1, wp_rng2, wp_iRv, wp_srcRL, wp_srcRT, wp_iEA, wp_srcEL, wp_srcET, wp_add, wp_sub, wp_mul, wp_mod, wp_div, wp_divW, wp_pow18, wp_pow17, wp_pow16, wp_pow30, wp_eqI, wp_neI, wp_cmpI, wp_isN, wp_isNotN, wp_lenL, wp_lenT, wp_abs, wp_int, wp_min2, wp_max2, wp_listL, wp_listT, wp_tupleL, wp_tupleT, wp_ixT0, wp_ixT1, wp_ixL0, wp_neg, wp_ok, wp_srcEL, wp_isB, wp_isNotB, wp_eqB, wp_neB, wp_all, wp_any, wp_slT, wp_slL, wp_rev, wp_revT, wp_revL, wp_disp, wp_pair, wp_pair0, wp_dict0, wipeW, List.foldl_cons, List.foldl_nil, wp_run, List.map, List.length, List.replicate, List.cons_append, List.nil_append, List.append_nil, List.set_cons_zero, List.set_cons_succ, if_true, if_false, Bool.not_true, Bool.not_false, Bool.true_eq_false, Bool.false_eq_true, Nat.reduceAdd, Nat.reduceSub, gName']
      rw [z]
      simp
    | true =>
      rw [hb, Bool.true_and] at z
      cases x with
      | int i =>
        simp only [ws_seq, ws_if, ws_set, ws_sub, ws_ret, ws_retN, ws_expr, ws_sNx, ws_for, wp_op, wp_var0, wp_varS, wp_c, wp_mB, wp_toB, wp_tr, wp_trB_bl, wp_trB_non, wp_trB_int, wp_not, wp_and, wp_or, wp_if, wp_mBl, wp_nil, wp_cons, wp_tup, wp_lst, wp_lstS, wp_newL_t, wp_newL_f, wp_chain, wp_call, wp_fn, wp_sl, wp_noPart, wp_part, wp_comp, wp_yes, wp_iL, wp_iA, wp_srcL, wp_srcS, wp_srcAL, wp_srcAT, wp_iR1, wp_iR2, wp_rng1, wp_rng2, wp_iRv, wp_srcRL, wp_srcRT, wp_iEA, wp_srcEL, wp_srcET, wp_add, wp_sub, wp_mul, wp_mod, wp_div, wp_divW, wp_pow18, wp_pow17, wp_pow16, wp_pow30, wp_eqI, wp_neI, wp_cmpI, wp_isN, wp_isNotN, wp_lenL, wp_lenT, wp_abs, wp_int, wp_min2, wp_max2, wp_listL, wp_listT, wp_tupleL, wp_tupleT, wp_ixT0, wp_ixT1, wp_ixL0, wp_neg, wp_ok, wp_srcEL, wp_isB, wp_isNotB, wp_eqB, wp_neB, wp_all, wp_any, wp_slT, wp_slL, wp_rev, wp_revT, wp_revL, wp_disp, wp_pair, wp_pair0, wp_dict0, wipeW, List.foldl_cons, List.foldl_nil, wp_run, List.map, List.length, List.replicate, List.cons_append, List.nil_append, List.append_nil, List.set_cons_zero, List.set_cons_succ, if_true, if_false, Bool.not_true, Bool.not_false, Bool.true_eq_false, Bool.false_eq_true, Nat.reduceAdd, Nat.reduceSub, gName']
        exact ⟨trivial, _, _, rfl, z⟩
      | _ => simp [inB] at hb
  · obtain ⟨rfl, q, l, rfl, z⟩ := z
    rw [List.drop_of_length_le (Nat.le_refl _)] at z
    simp only [ws_seq, ws_if, ws_set, ws_sub, ws_ret, ws_retN, ws_expr, ws_sNx, ws_for, wp_op, wp_var0, wp_varS, wp_c, wp_mB, wp_toB, wp_tr, wp_trB_bl, wp_trB_non, wp_trB_int, wp_not, wp_and, wp_or, wp_if, wp_mBl, wp_nil, wp_cons, wp_tup, wp_lst, wp_lstS, wp_newL_t, wp_newL_f, wp_chain, wp_call, wp_fn, wp_sl, wp_noPart, wp_part, wp_comp, wp_yes, wp_iL, wp_iA, wp_srcL, wp_srcS, wp_srcAL, wp_srcAT, wp_iR1, wp_iR2, wp_rng1, wp_rng2, wp_iRv, wp_srcRL, wp_srcRT, wp_iEA, wp_srcEL, wp_srcET, wp_add, wp_sub, wp_mul, wp_mod, wp_div, wp_divW, wp_pow18, wp_pow17, wp_pow16, wp_pow30, wp_eqI, wp_neI, wp_cmpI, wp_isN, wp_isNotN, wp_lenL, wp_lenT, wp_abs, wp_int, wp_min2, wp_max2, wp_listL, wp_listT, wp_tupleL, wp_tupleT, wp_ixT0, wp_ixT1, wp_ixL0, wp_neg, wp_ok, wp_srcEL, wp_isB, wp_isNotB, wp_eqB, wp_neB, wp_all, wp_any, wp_slT, wp_slL, wp_rev, wp_revT, wp_revL, wp_disp, wp_pair, wp_pair0, wp_dict0, wipeW, List.foldl_cons, List.foldl_nil, wp_run, List.map, List.length, List.replicate, List.cons_append, List.nil_append, List.append_nil, List.set_cons_zero, List.set_cons_succ, if_true, if_false, Bool.not_true, Bool.not_false, Bool.true_eq_false, Bool.false_eq_true, Nat.reduceAdd, Nat.reduceSub, gName']
    rw [z]
    simp [lotB]
theorem below_nt {b : Int} {w : W} (h : NT w st) : wp (r_is_lot_below [.int b, w] st) (fun w s => w = .bl false ∧ s = st) E := by
  obtain ⟨t, e, k⟩ := h
  simp only [r_is_lot_below, m_is_lot_below]
  simp only [ws_seq, ws_if, ws_set, ws_sub, ws_ret, ws_retN, ws_expr, ws_sNx, ws_for, wp_op, wp_var0, wp_varS, wp_c, wp_mB, wp_toB, wp_tr, wp_trB_bl, wp_trB_non, wp_trB_int, wp_not, wp_and, wp_or, wp_if, wp_mBl, wp_nil, wp_cons, wp_tup, wp_lst, wp_lstS, wp_newL_t, wp_newL_f, wp_chain, wp_call, wp_fn, wp_sl, wp_noPart, wp_part, wp_comp, wp_yes, wp_iL, wp_iA, wp_srcL, wp_srcS, wp_srcAL, wp_srcAT, wp_iR1, wp_iR2, wp_rng1, wp_rng2, wp_iRv, wp_srcRL, wp_srcRT, wp_iEA, wp_srcEL, wp_srcET, wp_add, wp_sub, wp_mul, wp_mod, wp_div, wp_divW, wp_pow18, wp_pow17, wp_pow16, wp_pow30, wp_eqI, wp_neI, wp_cmpI, wp_isN, wp_isNotN, wp_lenL, wp_lenT, wp_abs, wp_int, wp_min2, wp_max2, wp_listL, wp_listT, wp_tupleL, wp_tupleT, wp_ixT0, wp_ixT1, wp_ixL0, wp_neg, wp_ok, wp_srcEL, wp_isB, wp_isNotB, wp_eqB, wp_neB, wp_all, wp_any, wp_slT, wp_slL, wp_rev, wp_revT, wp_revL, wp_disp, wp_pair, wp_pair0, wp_dict0, wipeW, List.foldl_cons, List.foldl_nil, wp_run, List.map, List.length, List.replicate, List.cons_append, List.nil_append, List.append_nil, List.set_cons_zero, List.set_cons_succ, if_true, if_false, Bool.not_true, Bool.not_false, Bool.true_eq_false, Bool.false_eq_true, Nat.reduceAdd, Nat.reduceSub, gName', wp_isi e k]
  simp
def lotL (cs : List Int) : Int → List W → Bool
  | _, [] => true
  | a, x :: r => match x with
    | .int i => if a < i ∧ i ∈ cs then lotL cs i r else false
    | _ => false
def intz (xs : List W) : List Int := xs.filterMap fun x => match x with
  | .int i => some i
  | _ => none
theorem intz_int (ts : List Int) : intz (ts.map W.int) = ts := by
  induction ts with
  | nil => rfl
  | cons t ts ih =>
    unfold intz at ih ⊢
    rw [List.map_cons, List.filterMap_cons]
    simp only [ih]
theorem lotL_intz {cs : List Int} : ∀ {xs : List W} {a : Int}, lotL cs a xs = true → xs = (intz xs).map W.int ∧ ∀ i ∈ intz xs, i ∈ cs
  | [], a, _ => ⟨rfl, by simp [intz]⟩
  | x :: r, a, h => by
    cases x with
    | int i =>
      simp only [lotL] at h
      split at h
      · rename_i q
        obtain ⟨h1, h2⟩ := lotL_intz h
        have e : intz (.int i :: r) = i :: intz r := by simp [intz]
        rw [e]
        refine ⟨by rw [List.map_cons, ← h1], fun j hj => ?_⟩
        rcases List.mem_cons.mp hj with rfl | hj
        · exact q.2
        · exact h2 j hj
      · simp at h
    | _ => simp [lotL] at h
theorem lotB_intz {b : Int} : ∀ {xs : List W} {a : Int}, lotB b a xs = true → xs = (intz xs).map W.int
  | [], a, _ => rfl
  | x :: r, a, h => by
    cases x with
    | int i =>
      simp only [lotB] at h
      split at h
      · rename_i q
        have h1 := lotB_intz h
        have e : intz (.int i :: r) = i :: intz r := by simp [intz]
        rw [e, List.map_cons, ← h1]
      · simp at h
    | _ => simp [lotB] at h
theorem lots_eq {cs : List Int} {last : Int} (hc : ∀ c ∈ cs, 1 ≤ c ∧ c ≤ last) : ∀ (xs : List W) (a l : Int), (l = a + 1 ∨ (l = 0 ∧ a = 0)) → lotL cs a xs = (lotB (last + 1) l xs && (intz xs).all fun i => decide (i ∈ cs))
  | [], a, l, _ => by simp [lotL, lotB, intz]
  | x :: r, a, l, h => by
    cases x with
    | int i =>
      have e : intz (.int i :: r) = i :: intz r := by simp [intz]
      simp only [lotL, lotB, e, List.all_cons]
      by_cases hi : i ∈ cs
      · have h2 := hc i hi
        have ih := lots_eq hc r i (i + 1) (.inl rfl)
        by_cases h3 : a < i
        · have h4 : l ≤ i ∧ i ≤ last + 1 - 1 := by omega
          rw [if_pos ⟨h3, hi⟩, if_pos h4, ih]
          simp [hi]
        · have h4 : ¬ (l ≤ i ∧ i ≤ last + 1 - 1) := by omega
          rw [if_neg (fun z => h3 z.1), if_neg h4]
          simp
      · rw [if_neg (fun z => hi z.2)]
        simp [hi]
    | _ => simp [lotL, lotB]
theorem lot_nt {w : W} {cs : List Int} (h : NT w st) : wp (r_law_is_lot [w, .lst (cs.map W.int)] st) (fun w s => w = .bl false ∧ s = st) E := by
  obtain ⟨t, e, k⟩ := h
  simp only [r_law_is_lot, m_law_is_lot]
  simp only [ws_seq, ws_if, ws_set, ws_sub, ws_ret, ws_retN, ws_expr, ws_sNx, ws_for, wp_op, wp_var0, wp_varS, wp_c, wp_mB, wp_toB, wp_tr, wp_trB_bl, wp_trB_non, wp_trB_int, wp_not, wp_and, wp_or, wp_if, wp_mBl, wp_nil, wp_cons, wp_tup, wp_lst, wp_lstS, wp_newL_t, wp_newL_f, wp_chain, wp_call, wp_fn, wp_sl, wp_noPart, wp_part, wp_comp, wp_yes, wp_iL, wp_iA, wp_srcL, wp_srcS, wp_srcAL, wp_srcAT, wp_iR1, wp_iR2, wp_rng1, wp_rng2, wp_iRv, wp_srcRL, wp_srcRT, wp_iEA, wp_srcEL, wp_srcET, wp_add, wp_sub, wp_mul, wp_mod, wp_div, wp_divW, wp_pow18, wp_pow17, wp_pow16, wp_pow30, wp_eqI, wp_neI, wp_cmpI, wp_isN, wp_isNotN, wp_lenL, wp_lenT, wp_abs, wp_int, wp_min2, wp_max2, wp_listL, wp_listT, wp_tupleL, wp_tupleT, wp_ixT0, wp_ixT1, wp_ixL0, wp_neg, wp_ok, wp_srcEL, wp_isB, wp_isNotB, wp_eqB, wp_neB, wp_all, wp_any, wp_slT, wp_slL, wp_rev, wp_revT, wp_revL, wp_disp, wp_pair, wp_pair0, wp_dict0, wipeW, List.foldl_cons, List.foldl_nil, wp_run, List.map, List.length, List.replicate, List.cons_append, List.nil_append, List.append_nil, List.set_cons_zero, List.set_cons_succ, if_true, if_false, Bool.not_true, Bool.not_false, Bool.true_eq_false, Bool.false_eq_true, Nat.reduceAdd, Nat.reduceSub, gName', wp_isi e k]
  simp
theorem lot_is {xs : List W} {cs : List Int} (hx : ∀ x ∈ xs, It x) : wp (r_law_is_lot [.tup xs, .lst (cs.map W.int)] st) (fun w s => w = .bl (lotL cs 0 xs) ∧ s = st) E := by
  simp only [r_law_is_lot, m_law_is_lot]
  simp only [ws_seq, ws_if, ws_set, ws_sub, ws_ret, ws_retN, ws_expr, ws_sNx, ws_for, wp_op, wp_var0, wp_varS, wp_c, wp_mB, wp_toB, wp_tr, wp_trB_bl, wp_trB_non, wp_trB_int, wp_not, wp_and, wp_or, wp_if, wp_mBl, wp_nil, wp_cons, wp_tup, wp_lst, wp_lstS, wp_newL_t, wp_newL_f, wp_chain, wp_call, wp_fn, wp_sl, wp_noPart, wp_part, wp_comp, wp_yes, wp_iL, wp_iA, wp_srcL, wp_srcS, wp_srcAL, wp_srcAT, wp_iR1, wp_iR2, wp_rng1, wp_rng2, wp_iRv, wp_srcRL, wp_srcRT, wp_iEA, wp_srcEL, wp_srcET, wp_add, wp_sub, wp_mul, wp_mod, wp_div, wp_divW, wp_pow18, wp_pow17, wp_pow16, wp_pow30, wp_eqI, wp_neI, wp_cmpI, wp_isN, wp_isNotN, wp_lenL, wp_lenT, wp_abs, wp_int, wp_min2, wp_max2, wp_listL, wp_listT, wp_tupleL, wp_tupleT, wp_ixT0, wp_ixT1, wp_ixL0, wp_neg, wp_ok, wp_srcEL, wp_isB, wp_isNotB, wp_eqB, wp_neB, wp_all, wp_any, wp_slT, wp_slL, wp_rev, wp_revT, wp_revL, wp_disp, wp_pair, wp_pair0, wp_dict0, wipeW, List.foldl_cons, List.foldl_nil, wp_run, List.map, List.length, List.replicate, List.cons_append, List.nil_append, List.append_nil, List.set_cons_zero, List.set_cons_succ, if_true, if_false, Bool.not_true, Bool.not_false, Bool.true_eq_false, Bool.false_eq_true, Nat.reduceAdd, Nat.reduceSub, gName', wp_isiT]
  refine forS_fix (fun i e s => s = st ∧ ∃ (q : Option W) (l : Int), e = [some (.tup xs), some (.lst (cs.map W.int)), some (.int l), q] ∧ lotL cs 0 xs = lotL cs l (xs.drop i)) ⟨rfl, none, 0, rfl, rfl⟩ (fun i x e env s z => ?_) (fun env s z => ?_)
  · obtain ⟨rfl, q, l, rfl, z⟩ := z
    refine ⟨_, _, rfl, ?_⟩
    rw [drop_get e] at z
    rcases hx x (List.mem_of_getElem? e) with ⟨i, rfl⟩ | ⟨h1, h2⟩
    · simp only [lotL] at z
      simp only [ws_seq, ws_if, ws_set, ws_sub, ws_ret, ws_retN, ws_expr, ws_sNx, ws_for, wp_op, wp_var0, wp_varS, wp_c, wp_mB, wp_toB, wp_tr, wp_trB_bl, wp_trB_non, wp_trB_int, wp_not, wp_and, wp_or, wp_if, wp_mBl, wp_nil, wp_cons, wp_tup, wp_lst, wp_lstS, wp_newL_t, wp_newL_f, wp_chain, wp_call, wp_fn, wp_sl, wp_noPart, wp_part, wp_comp, wp_yes, wp_iL, wp_iA, wp_srcL, wp_srcS, wp_srcAL, wp_srcAT, wp_iR1, wp_iR2, wp_rng1, wp_rng2, wp_iRv, wp_srcRL, wp_srcRT, wp_iEA, wp_srcEL, wp_srcET, wp_add, wp_sub, wp_mul, wp_mod, wp_div, wp_divW, wp_pow18, wp_pow17, wp_pow16, wp_pow30, wp_eqI, wp_neI, wp_cmpI, wp_isN, wp_isNotN, wp_lenL, wp_lenT, wp_abs, wp_int, wp_min2, wp_max2, wp_listL, wp_listT, wp_tupleL, wp_tupleT, wp_ixT0, wp_ixT1, wp_ixL0, wp_neg, wp_ok, wp_srcEL, wp_isB, wp_isNotB, wp_eqB, wp_neB, wp_all, wp_any, wp_slT, wp_slL, wp_rev, wp_revT, wp_revL, wp_disp, wp_pair, wp_pair0, wp_dict0, wipeW, List.foldl_cons, List.foldl_nil, wp_run, List.map, List.length, List.replicate, List.cons_append, List.nil_append, List.append_nil, List.set_cons_zero, List.set_cons_succ, if_true, if_false, Bool.not_true, Bool.not_false, Bool.true_eq_false, Bool.false_eq_true, Nat.reduceAdd, Nat.reduceSub, gName', wp_isiI, wp_isiB]
      by_cases h3 : i ≤ l
      · rw [if_neg (fun y => by omega)] at z
        simp only [h3, decide_true, if_true]
        rw [z]
        simp
      · simp only [h3, decide_false, Bool.false_eq_true, if_false]
        simp only [ws_seq, ws_if, ws_set, ws_sub, ws_ret, ws_retN, ws_expr, ws_sNx, ws_for, wp_op, wp_var0, wp_varS, wp_c, wp_mB, wp_toB, wp_tr, wp_trB_bl, wp_trB_non, wp_trB_int, wp_not, wp_and, wp_or, wp_if, wp_mBl, wp_nil, wp_cons, wp_tup, wp_lst, wp_lstS, wp_newL_t, wp_newL_f, wp_chain, wp_call, wp_fn, wp_sl, wp_noPart, wp_part, wp_comp, wp_yes, wp_iL, wp_iA, wp_srcL, wp_srcS, wp_srcAL, wp_srcAT, wp_iR1, wp_iR2, wp_rng1, wp_rng2, wp_iRv, wp_srcRL, wp_srcRT, wp_iEA, wp_srcEL, wp_srcET, wp_add, wp_sub, wp_mul, wp_mod, wp_div, wp_divW, wp_pow18, wp_pow17, wp_pow16, wp_pow30, wp_eqI, wp_neI, wp_cmpI, wp_isN, wp_isNotN, wp_lenL, wp_lenT, wp_abs, wp_int, wp_min2, wp_max2, wp_listL, wp_listT, wp_tupleL, wp_tupleT, wp_ixT0, wp_ixT1, wp_ixL0, wp_neg, wp_ok, wp_srcEL, wp_isB, wp_isNotB, wp_eqB, wp_neB, wp_all, wp_any, wp_slT, wp_slL, wp_rev, wp_revT, wp_revL, wp_disp, wp_pair, wp_pair0, wp_dict0, wipeW, List.foldl_cons, List.foldl_nil, wp_run, List.map, List.length, List.replicate, List.cons_append, List.nil_append, List.append_nil, List.set_cons_zero, List.set_cons_succ, if_true, if_false, Bool.not_true, Bool.not_false, Bool.true_eq_false, Bool.false_eq_true, Nat.reduceAdd, Nat.reduceSub, gName', wp_inL]
        by_cases h4 : i ∈ cs
        · rw [if_pos ⟨by omega, h4⟩] at z
          simp only [h4, decide_true, Bool.not_true, Bool.false_eq_true, if_false]
          exact ⟨trivial, _, _, rfl, z⟩
        · rw [if_neg (fun y => h4 y.2)] at z
          simp only [h4, decide_false, Bool.not_false, if_true]
          rw [z]
          simp
    · have z : lotL cs 0 xs = false := by
        rw [z]
        cases x <;> simp_all [lotL, isI]
      obtain ⟨t, e, k⟩ := h2 s
      rw [z]
      rcases k with k | ⟨k1, k2⟩
      · simp only [ws_seq, ws_if, ws_set, ws_sub, ws_ret, ws_retN, ws_expr, ws_sNx, ws_for, wp_op, wp_var0, wp_varS, wp_c, wp_mB, wp_toB, wp_tr, wp_trB_bl, wp_trB_non, wp_trB_int, wp_not, wp_and, wp_or, wp_if, wp_mBl, wp_nil, wp_cons, wp_tup, wp_lst, wp_lstS, wp_newL_t, wp_newL_f, wp_chain, wp_call, wp_fn, wp_sl, wp_noPart, wp_part, wp_comp, wp_yes, wp_iL, wp_iA, wp_srcL, wp_srcS, wp_srcAL, wp_srcAT, wp_iR1, wp_iR2, wp_rng1, wp_rng2, wp_iRv, wp_srcRL, wp_srcRT, wp_iEA, wp_srcEL, wp_srcET, wp_add, wp_sub, wp_mul, wp_mod, wp_div, wp_divW, wp_pow18, wp_pow17, wp_pow16, wp_pow30, wp_eqI, wp_neI, wp_cmpI, wp_isN, wp_isNotN, wp_lenL, wp_lenT, wp_abs, wp_int, wp_min2, wp_max2, wp_listL, wp_listT, wp_tupleL, wp_tupleT, wp_ixT0, wp_ixT1, wp_ixL0, wp_neg, wp_ok, wp_srcEL, wp_isB, wp_isNotB, wp_eqB, wp_neB, wp_all, wp_any, wp_slT, wp_slL, wp_rev, wp_revT, wp_revL, wp_disp, wp_pair, wp_pair0, wp_dict0, wipeW, List.foldl_cons, List.foldl_nil, wp_run, List.map, List.length, List.replicate, List.cons_append, List.nil_append, List.append_nil, List.set_cons_zero, List.set_cons_succ, if_true, if_false, Bool.not_true, Bool.not_false, Bool.true_eq_false, Bool.false_eq_true, Nat.reduceAdd, Nat.reduceSub, gName', wp_isi e k]
        simp
      · simp only [ws_seq, ws_if, ws_set, ws_sub, ws_ret, ws_retN, ws_expr, ws_sNx, ws_for, wp_op, wp_var0, wp_varS, wp_c, wp_mB, wp_toB, wp_tr, wp_trB_bl, wp_trB_non, wp_trB_int, wp_not, wp_and, wp_or, wp_if, wp_mBl, wp_nil, wp_cons, wp_tup, wp_lst, wp_lstS, wp_newL_t, wp_newL_f, wp_chain, wp_call, wp_fn, wp_sl, wp_noPart, wp_part, wp_comp, wp_yes, wp_iL, wp_iA, wp_srcL, wp_srcS, wp_srcAL, wp_srcAT, wp_iR1, wp_iR2, wp_rng1, wp_rng2, wp_iRv, wp_srcRL, wp_srcRT, wp_iEA, wp_srcEL, wp_srcET, wp_add, wp_sub, wp_mul, wp_mod, wp_div, wp_divW, wp_pow18, wp_pow17, wp_pow16, wp_pow30, wp_eqI, wp_neI, wp_cmpI, wp_isN, wp_isNotN, wp_lenL, wp_lenT, wp_abs, wp_int, wp_min2, wp_max2, wp_listL, wp_listT, wp_tupleL, wp_tupleT, wp_ixT0, wp_ixT1, wp_ixL0, wp_neg, wp_ok, wp_srcEL, wp_isB, wp_isNotB, wp_eqB, wp_neB, wp_all, wp_any, wp_slT, wp_slL, wp_rev, wp_revT, wp_revL, wp_disp, wp_pair, wp_pair0, wp_dict0, wipeW, List.foldl_cons, List.foldl_nil, wp_run, List.map, List.length, List.replicate, List.cons_append, List.nil_append, List.append_nil, List.set_cons_zero, List.set_cons_succ, if_true, if_false, Bool.not_true, Bool.not_false, Bool.true_eq_false, Bool.false_eq_true, Nat.reduceAdd, Nat.reduceSub, gName', wp_isi e k1, wp_isi e k2]
        simp
  · obtain ⟨rfl, q, l, rfl, z⟩ := z
    rw [List.drop_of_length_le (Nat.le_refl _)] at z
    simp only [ws_seq, ws_if, ws_set, ws_sub, ws_ret, ws_retN, ws_expr, ws_sNx, ws_for, wp_op, wp_var0, wp_varS, wp_c, wp_mB, wp_toB, wp_tr, wp_trB_bl, wp_trB_non, wp_trB_int, wp_not, wp_and, wp_or, wp_if, wp_mBl, wp_nil, wp_cons, wp_tup, wp_lst, wp_lstS, wp_newL_t, wp_newL_f, wp_chain, wp_call, wp_fn, wp_sl, wp_noPart, wp_part, wp_comp, wp_yes, wp_iL, wp_iA, wp_srcL, wp_srcS, wp_srcAL, wp_srcAT, wp_iR1, wp_iR2, wp_rng1, wp_rng2, wp_iRv, wp_srcRL, wp_srcRT, wp_iEA, wp_srcEL, wp_srcET, wp_add, wp_sub, wp_mul, wp_mod, wp_div, wp_divW, wp_pow18, wp_pow17, wp_pow16, wp_pow30, wp_eqI, wp_neI, wp_cmpI, wp_isN, wp_isNotN, wp_lenL, wp_lenT, wp_abs, wp_int, wp_min2, wp_max2, wp_listL, wp_listT, wp_tupleL, wp_tupleT, wp_ixT0, wp_ixT1, wp_ixL0, wp_neg, wp_ok, wp_srcEL, wp_isB, wp_isNotB, wp_eqB, wp_neB, wp_all, wp_any, wp_slT, wp_slL, wp_rev, wp_revT, wp_revL, wp_disp, wp_pair, wp_pair0, wp_dict0, wipeW, List.foldl_cons, List.foldl_nil, wp_run, List.map, List.length, List.replicate, List.cons_append, List.nil_append, List.append_nil, List.set_cons_zero, List.set_cons_succ, if_true, if_false, Bool.not_true, Bool.not_false, Bool.true_eq_false, Bool.false_eq_true, Nat.reduceAdd, Nat.reduceSub, gName']
    rw [z]
    simp [lotL]
end
theorem nolot_draw {h : Nat} {st : Sto} {ts : List Int} (ht : ts.length ≤ 50) (g : Bg h st) : wp (r_law_no_lot [.ref h, .tup (ts.map W.int)] st) (fun w s => Th w s ∧ Up h st s ∧ Bg h s) NoE := by
  simp only [r_law_no_lot, m_law_no_lot, wp_run, List.map, List.length, List.replicate, List.cons_append, List.nil_append, Nat.reduceAdd, Nat.reduceSub]
  rw [ws_seq]
  refine ws_nx (N := fun e s => ∃ x : Int, e = [some (.ref h), some (.tup (ts.map W.int)), some (.int x), none, none] ∧ Up h st s ∧ Bg h s) ?_ ?_
  · simp only [ws_seq, ws_if, ws_set, ws_sub, ws_ret, ws_retN, ws_expr, ws_sNx, ws_for, wp_op, wp_var0, wp_varS, wp_c, wp_mB, wp_toB, wp_tr, wp_trB_bl, wp_trB_non, wp_trB_int, wp_not, wp_and, wp_or, wp_if, wp_mBl, wp_nil, wp_cons, wp_tup, wp_lst, wp_lstS, wp_newL_t, wp_newL_f, wp_chain, wp_call, wp_fn, wp_sl, wp_noPart, wp_part, wp_comp, wp_yes, wp_iL, wp_iA, wp_srcL, wp_srcS, wp_srcAL, wp_srcAT, wp_iR1, wp_iR2, wp_rng1, wp_rng2, wp_iRv, wp_srcRL, wp_srcRT, wp_iEA, wp_srcEL, wp_srcET, wp_add, wp_sub, wp_mul, wp_mod, wp_div, wp_divW, wp_pow18, wp_pow17, wp_pow16, wp_pow30, wp_eqI, wp_neI, wp_cmpI, wp_isN, wp_isNotN, wp_lenL, wp_lenT, wp_abs, wp_int, wp_min2, wp_max2, wp_listL, wp_listT, wp_tupleL, wp_tupleT, wp_ixT0, wp_ixT1, wp_ixL0, wp_neg, wp_ok, wp_srcEL, wp_isB, wp_isNotB, wp_eqB, wp_neB, wp_all, wp_any, wp_slT, wp_slL, wp_rev, wp_revT, wp_revL, wp_disp, wp_pair, wp_pair0, wp_dict0, wipeW, List.foldl_cons, List.foldl_nil, wp_run, List.map, List.length, List.replicate, List.cons_append, List.nil_append, List.append_nil, List.set_cons_zero, List.set_cons_succ, if_true, if_false, Bool.not_true, Bool.not_false, Bool.true_eq_false, Bool.false_eq_true, Nat.reduceAdd, Nat.reduceSub, gName']
    refine wp_no (draw1 g (by decide) (by decide)) ?_
    rintro _ s ⟨x, rfl, x0, x1, u, g⟩
    exact ⟨x, rfl, u, g⟩
  rintro _ s ⟨x, rfl, u, g⟩
  rw [ws_seq]
  refine ws_nx (N := fun e s' => ∃ y : Int, e = [some (.ref h), some (.tup (ts.map W.int)), some (.int x), some (.int y), none] ∧ Up h st s' ∧ Bg h s') ?_ ?_
  · simp only [ws_seq, ws_if, ws_set, ws_sub, ws_ret, ws_retN, ws_expr, ws_sNx, ws_for, wp_op, wp_var0, wp_varS, wp_c, wp_mB, wp_toB, wp_tr, wp_trB_bl, wp_trB_non, wp_trB_int, wp_not, wp_and, wp_or, wp_if, wp_mBl, wp_nil, wp_cons, wp_tup, wp_lst, wp_lstS, wp_newL_t, wp_newL_f, wp_chain, wp_call, wp_fn, wp_sl, wp_noPart, wp_part, wp_comp, wp_yes, wp_iL, wp_iA, wp_srcL, wp_srcS, wp_srcAL, wp_srcAT, wp_iR1, wp_iR2, wp_rng1, wp_rng2, wp_iRv, wp_srcRL, wp_srcRT, wp_iEA, wp_srcEL, wp_srcET, wp_add, wp_sub, wp_mul, wp_mod, wp_div, wp_divW, wp_pow18, wp_pow17, wp_pow16, wp_pow30, wp_eqI, wp_neI, wp_cmpI, wp_isN, wp_isNotN, wp_lenL, wp_lenT, wp_abs, wp_int, wp_min2, wp_max2, wp_listL, wp_listT, wp_tupleL, wp_tupleT, wp_ixT0, wp_ixT1, wp_ixL0, wp_neg, wp_ok, wp_srcEL, wp_isB, wp_isNotB, wp_eqB, wp_neB, wp_all, wp_any, wp_slT, wp_slL, wp_rev, wp_revT, wp_revL, wp_disp, wp_pair, wp_pair0, wp_dict0, wipeW, List.foldl_cons, List.foldl_nil, wp_run, List.map, List.length, List.replicate, List.cons_append, List.nil_append, List.append_nil, List.set_cons_zero, List.set_cons_succ, if_true, if_false, Bool.not_true, Bool.not_false, Bool.true_eq_false, Bool.false_eq_true, Nat.reduceAdd, Nat.reduceSub, gName', List.length_map]
    refine wp_no (draw1 g (by omega) (log_of (by omega) (by omega))) ?_
    rintro _ s' ⟨y, rfl, y0, y1, u', g⟩
    exact ⟨y, rfl, u.trans u', g⟩
  rintro _ s' ⟨y, rfl, u, g⟩
  simp only [ws_seq, ws_if, ws_set, ws_sub, ws_ret, ws_retN, ws_expr, ws_sNx, ws_for, wp_op, wp_var0, wp_varS, wp_c, wp_mB, wp_toB, wp_tr, wp_trB_bl, wp_trB_non, wp_trB_int, wp_not, wp_and, wp_or, wp_if, wp_mBl, wp_nil, wp_cons, wp_tup, wp_lst, wp_lstS, wp_newL_t, wp_newL_f, wp_chain, wp_call, wp_fn, wp_sl, wp_noPart, wp_part, wp_comp, wp_yes, wp_iL, wp_iA, wp_srcL, wp_srcS, wp_srcAL, wp_srcAT, wp_iR1, wp_iR2, wp_rng1, wp_rng2, wp_iRv, wp_srcRL, wp_srcRT, wp_iEA, wp_srcEL, wp_srcET, wp_add, wp_sub, wp_mul, wp_mod, wp_div, wp_divW, wp_pow18, wp_pow17, wp_pow16, wp_pow30, wp_eqI, wp_neI, wp_cmpI, wp_isN, wp_isNotN, wp_lenL, wp_lenT, wp_abs, wp_int, wp_min2, wp_max2, wp_listL, wp_listT, wp_tupleL, wp_tupleT, wp_ixT0, wp_ixT1, wp_ixL0, wp_neg, wp_ok, wp_srcEL, wp_isB, wp_isNotB, wp_eqB, wp_neB, wp_all, wp_any, wp_slT, wp_slL, wp_rev, wp_revT, wp_revL, wp_disp, wp_pair, wp_pair0, wp_dict0, wipeW, List.foldl_cons, List.foldl_nil, wp_run, List.map, List.length, List.replicate, List.cons_append, List.nil_append, List.append_nil, List.set_cons_zero, List.set_cons_succ, if_true, if_false, Bool.not_true, Bool.not_false, Bool.true_eq_false, Bool.false_eq_true, Nat.reduceAdd, Nat.reduceSub, gName', decide_eq_true_eq]
  have cut_it : ∀ {lo hi : Option Int}, (cutW (ts.map W.int) lo hi).length ≤ 50 ∧ ∀ x ∈ cutW (ts.map W.int) lo hi, It x := fun {lo hi} => by
    unfold cutW
    refine ⟨?_, fun x hx => ints_it x (List.mem_of_mem_drop (List.mem_of_mem_take hx))⟩
    rw [List.length_take, List.length_drop, List.length_map]
    omega
  have tup : ∀ {st' : Sto} {xs : List W}, xs.length ≤ 500 → (∀ x ∈ xs, It x) → Up h s' st' → Bg h st' → Th (.tup xs) st' ∧ Up h st st' ∧ Bg h st' := fun a b c d => ⟨.inl ⟨_, rfl, a, b⟩, u.trans c, d⟩
  have app_it : ∀ {xs ys : List W}, (∀ x ∈ xs, It x) → (∀ x ∈ ys, It x) → ∀ x ∈ xs ++ ys, It x := fun a b x hx => (List.mem_append.mp hx).elim (a x) (b x)
  by_cases k : x = 0
  · simp only [k, if_true, decide_true]
    exact ⟨.inr NT.lst, u, g⟩
  simp only [k, if_false, decide_false, Bool.false_eq_true]
  by_cases k : x = 1
  · simp only [k, if_true, decide_true]
    refine tup (by simp; omega) (fun x hx => ints_it x (List.mem_reverse.mp hx)) Up.refl g
  simp only [k, if_false, decide_false, Bool.false_eq_true]
  by_cases k : x = 2
  · simp only [k, if_true, decide_true]
    have c1 := cut_it (lo := none) (hi := some y)
    have c2 := cut_it (lo := some (if y - 1 > 0 then y - 1 else 0)) (hi := none)
    rw [wp_addT]
    exact ⟨by simp only [sizeLine]; omega, tup (by rw [List.length_append]; omega) (app_it c1.2 c2.2) Up.refl g⟩
  simp only [k, if_false, decide_false, Bool.false_eq_true]
  by_cases k : x = 3
  · simp only [k, if_true, decide_true]
    refine wp_no (draw1 g (by decide) (by decide)) ?_
    rintro _ s2 ⟨z, rfl, z0, z1, u2, g⟩
    obtain ⟨c, hc⟩ : ∃ c : Int, [W.int 0, .int (-1), .int 1000000000000000000, .int 1000000000000000000000000000000][z.toNat]? = some (.int c) := by
      have : z = 0 ∨ z = 1 ∨ z = 2 ∨ z = 3 := by omega
      rcases this with rfl | rfl | rfl | rfl <;> exact ⟨_, rfl⟩
    rw [wp_ixLi z0 hc, wp_addL]
    refine ⟨by simp [sizeLine]; omega, ?_⟩
    have e : ts.map W.int ++ [W.int c] = (ts ++ [c]).map W.int := by simp
    rw [e, wp_sortL]
    simp only [ws_seq, ws_if, ws_set, ws_sub, ws_ret, ws_retN, ws_expr, ws_sNx, ws_for, wp_op, wp_var0, wp_varS, wp_c, wp_mB, wp_toB, wp_tr, wp_trB_bl, wp_trB_non, wp_trB_int, wp_not, wp_and, wp_or, wp_if, wp_mBl, wp_nil, wp_cons, wp_tup, wp_lst, wp_lstS, wp_newL_t, wp_newL_f, wp_chain, wp_call, wp_fn, wp_sl, wp_noPart, wp_part, wp_comp, wp_yes, wp_iL, wp_iA, wp_srcL, wp_srcS, wp_srcAL, wp_srcAT, wp_iR1, wp_iR2, wp_rng1, wp_rng2, wp_iRv, wp_srcRL, wp_srcRT, wp_iEA, wp_srcEL, wp_srcET, wp_add, wp_sub, wp_mul, wp_mod, wp_div, wp_divW, wp_pow18, wp_pow17, wp_pow16, wp_pow30, wp_eqI, wp_neI, wp_cmpI, wp_isN, wp_isNotN, wp_lenL, wp_lenT, wp_abs, wp_int, wp_min2, wp_max2, wp_listL, wp_listT, wp_tupleL, wp_tupleT, wp_ixT0, wp_ixT1, wp_ixL0, wp_neg, wp_ok, wp_srcEL, wp_isB, wp_isNotB, wp_eqB, wp_neB, wp_all, wp_any, wp_slT, wp_slL, wp_rev, wp_revT, wp_revL, wp_disp, wp_pair, wp_pair0, wp_dict0, wipeW, List.foldl_cons, List.foldl_nil, wp_run, List.map, List.length, List.replicate, List.cons_append, List.nil_append, List.append_nil, List.set_cons_zero, List.set_cons_succ, if_true, if_false, Bool.not_true, Bool.not_false, Bool.true_eq_false, Bool.false_eq_true, Nat.reduceAdd, Nat.reduceSub, gName']
    exact tup (by rw [List.length_map, (sort_perm _).length_eq]; simp; omega) ints_it u2 g
  simp only [k, if_false, decide_false, Bool.false_eq_true]
  by_cases k : x = 4
  · simp only [k, if_true, decide_true]
    have c1 := cut_it (lo := some 1) (hi := none)
    rw [wp_addT]
    exact ⟨by simp only [sizeLine, List.length_singleton]; omega, tup (by rw [List.length_append, List.length_singleton]; omega) (app_it (by simp [It.bl]) c1.2) Up.refl g⟩
  simp only [k, if_false, decide_false, Bool.false_eq_true]
  by_cases k : x = 5
  · simp only [k, if_true, decide_true]
    refine wp_no (draw1 g (by decide) (by decide)) ?_
    rintro _ s2 ⟨z, rfl, z0, z1, u2, g⟩
    obtain ⟨c, hc, hit⟩ : ∃ c : W, [W.str "1", .non, .tup [.int 1], .lst [.int 1], .tup []][z.toNat]? = some c ∧ It c := by
      have : z = 0 ∨ z = 1 ∨ z = 2 ∨ z = 3 ∨ z = 4 := by omega
      rcases this with rfl | rfl | rfl | rfl | rfl
      · exact ⟨_, rfl, It.str⟩
      · exact ⟨_, rfl, It.non⟩
      · exact ⟨_, rfl, It.tup⟩
      · exact ⟨_, rfl, It.lst⟩
      · exact ⟨_, rfl, It.tup⟩
    have c1 := cut_it (lo := none) (hi := some y)
    have c2 := cut_it (lo := some y) (hi := none)
    rw [wp_ixLi z0 hc, wp_addT]
    refine ⟨by simp only [sizeLine, List.length_singleton]; omega, ?_⟩
    rw [wp_addT]
    exact ⟨by simp only [sizeLine, List.length_append, List.length_singleton]; omega, tup (by rw [List.length_append, List.length_append, List.length_singleton]; omega) (app_it (app_it c1.2 (by simpa using hit)) c2.2) u2 g⟩
  simp only [k, if_false, decide_false, Bool.false_eq_true]
  by_cases k : x = 6
  · simp only [k, if_true, decide_true]
    refine wp_no (draw1 g (by decide) (by decide)) ?_
    rintro _ s2 ⟨z, rfl, z0, z1, u2, g⟩
    have c1 := cut_it (lo := none) (hi := some y)
    have c2 := cut_it (lo := some (y + 1)) (hi := none)
    rw [wp_addT]
    refine ⟨by simp only [sizeLine, List.length_singleton]; omega, ?_⟩
    rw [wp_addT]
    exact ⟨by simp only [sizeLine, List.length_append, List.length_singleton]; omega, tup (by rw [List.length_append, List.length_append, List.length_singleton]; omega) (app_it (app_it c1.2 (by simp [It.int])) c2.2) u2 g⟩
  simp only [k, if_false, decide_false, Bool.false_eq_true]
  by_cases k : x = 7
  · simp only [k, if_true, decide_true]
    exact tup (by simp) (by simp [It.tup]) Up.refl g
  simp only [k, if_false, decide_false, Bool.false_eq_true]
  refine ⟨_, rfl, by decide, ?_⟩
  have x2 : Ext s' (s' ++ [.dk []] ++ [.dk (mergeKW [] [(.inl 1, .int 1)])]) := Ext.app.trans Ext.app
  refine wp_no (draw1 (g.ext x2) (by decide) (by decide)) ?_
  rintro _ s2 ⟨z, rfl, z0, z1, u2, g'⟩
  have hb := g.lt
  have n1 : s2[s'.length]? = some (.dk []) := u2.2 _ _ (by omega) (by simp)
  have n2 : s2[(s' ++ [Nd.dk []]).length]? = some (.dk (mergeKW [] [(.inl 1, .int 1)])) := u2.2 _ _ (by simp; omega) (by simp)
  obtain ⟨c, hc, hit⟩ : ∃ c : W, [W.non, .bl true, .int 1, .str "", .str "(1,)", .ref s'.length, .ref (s' ++ [Nd.dk []]).length][z.toNat]? = some c ∧ NT c s2 := by
    have : z = 0 ∨ z = 1 ∨ z = 2 ∨ z = 3 ∨ z = 4 ∨ z = 5 ∨ z = 6 := by omega
    rcases this with rfl | rfl | rfl | rfl | rfl | rfl | rfl
    · exact ⟨_, rfl, NT.non⟩
    · exact ⟨_, rfl, NT.bl⟩
    · exact ⟨_, rfl, NT.int⟩
    · exact ⟨_, rfl, NT.str⟩
    · exact ⟨_, rfl, NT.str⟩
    · exact ⟨_, rfl, NT.dk n1⟩
    · exact ⟨_, rfl, NT.dk n2⟩
  rw [wp_ixLi z0 hc]
  exact ⟨.inr hit, u.trans (x2.up.trans u2), g'⟩
end Lw
namespace Lw
open PySem L2 Mi
/-! mathematics -/
def rdN (vs : List Vn) (s : Int) : Bool := match vat vs s with
  | none => true
  | some v => decide (v.2 = none)
def told (vs kp : List Vn) (s : Int) : Bool := decide (vat kp s = vat vs s) || (decide (vat kp s = none) && rdN vs s)
def keep (vs : List Vn) (ts : List Int) : List Vn := vs.filter fun v => decide (v.1 ∈ ts)
theorem desc_inj : ∀ {vs : List Vn}, Desc vs → ∀ {p v : Vn}, p ∈ vs → v ∈ vs → p.1 = v.1 → p = v
  | [], _, p, v, hp, _, _ => by simp at hp
  | w :: vs, d, p, v, hp, hv, e => by
    have d' := List.pairwise_cons.mp d
    rcases List.mem_cons.mp hp with rfl | hp'
    · rcases List.mem_cons.mp hv with rfl | hv'
      · rfl
      · have := d'.1 v hv'; omega
    · rcases List.mem_cons.mp hv with rfl | hv'
      · have := d'.1 p hp'; omega
      · exact desc_inj d'.2 hp' hv' e
theorem vat_none_iff {vs : List Vn} {s : Int} : vat vs s = none ↔ ∀ v ∈ vs, ¬ v.1 ≤ s := by
  unfold vat
  rw [List.find?_eq_none]
  simp
theorem told_eq {vs : List Vn} (d : Desc vs) (ts : List Int) (s : Int) : told vs (keep vs ts) s = match vat (keep vs ts) s with
    | none => rdN vs s
    | some p => match vat vs s with
      | none => false
      | some v => decide (v.1 = p.1) := by
  unfold told
  cases e : vat (keep vs ts) s with
  | none =>
    simp only [decide_true, Bool.true_and]
    unfold rdN
    cases e2 : vat vs s with
    | none => simp
    | some v => simp
  | some p =>
    have hp := vat_some e
    have hpm : p ∈ vs := (List.mem_filter.mp hp.1).1
    cases e2 : vat vs s with
    | none => exact absurd hp.2 (vat_none_iff.mp e2 p hpm)
    | some v =>
      have hv := vat_some e2
      have h : (some p = some v) ↔ v.1 = p.1 := ⟨fun z => by cases z; rfl, fun z => by rw [desc_inj d hpm hv.1 z.symm]⟩
      have h3 : decide (some p = some v) = decide (v.1 = p.1) := by
        by_cases q : v.1 = p.1
        · rw [decide_eq_true (h.mpr q), decide_eq_true q]
        · rw [decide_eq_false (fun z => q (h.mp z)), decide_eq_false q]
      rw [h3]
      simp
/-- behind the last one nothing new is seen -/
theorem vat_beyond {vs : List Vn} {last s : Int} (h : ∀ v ∈ vs, v.1 ≤ last) (hs : last ≤ s) : vat vs s = vat vs last := by
  rw [vat_last h, vat_last fun v hv => Int.le_trans (h v hv) hs]
theorem told_beyond {vs : List Vn} {last s : Int} (ts : List Int) (h : ∀ v ∈ vs, v.1 ≤ last) (hs : last ≤ s) : told vs (keep vs ts) s = told vs (keep vs ts) last := by
  have h2 : ∀ v ∈ keep vs ts, v.1 ≤ last := fun v hv => h v (List.mem_filter.mp hv).1
  unfold told rdN
  rw [vat_beyond h hs, vat_beyond h2 hs]
/-- what is seen is an asked one -/
theorem seen_lsn {vs : List Vn} {ns : List Int} {last : Int} (h : ∀ v ∈ vs, v.1 ≤ last) {s : Int} (hs : s ∈ ns ++ [last]) {v : Vn} (e : vat vs s = some v) : lsn vs ns v = true := by
  unfold lsn
  rcases List.mem_append.mp hs with hs | hs
  · rw [Bool.or_eq_true]
    exact .inr (List.any_eq_true.mpr ⟨s, hs, by simpa using e⟩)
  · rw [List.mem_singleton] at hs
    subst hs
    rw [vat_last h] at e
    simp [e]
theorem need_mem {sn : Vn → Bool} {t : Int} : ∀ {vs : List Vn}, t ∈ need sn vs ↔ ∃ v ∈ kept sn vs, v.1 = t := fun {vs} => by
  rw [need_kept, List.mem_reverse, List.mem_map]
theorem kept_mem {sn : Vn → Bool} : ∀ {vs : List Vn}, Desc vs → ∀ {v : Vn}, v ∈ vs → sn v = true → (v.2 ≠ none ∨ ∃ u ∈ kept sn vs, u.1 < v.1) → v ∈ kept sn vs
  | [], _, v, hv, _, _ => by simp at hv
  | w :: vs, d, v, hv, hs, h => by
    have d' := List.pairwise_cons.mp d
    rcases List.mem_cons.mp hv with rfl | hv
    · have : (sn v && (!decide (v.2 = none) || !(need sn vs).isEmpty)) = true := by
        rw [hs, Bool.true_and, Bool.or_eq_true]
        rcases h with h | ⟨u, hu, hl⟩
        · left; simp [h]
        · right
          have hu2 : u ∈ kept sn vs := by
            unfold kept at hu
            split at hu
            · rcases List.mem_cons.mp hu with rfl | hu
              · omega
              · exact hu
            · exact hu
          have : u.1 ∈ need sn vs := need_mem.mpr ⟨u, hu2, rfl⟩
          cases hn : need sn vs with
          | nil => rw [hn] at this; simp at this
          | cons a b => rfl
      unfold kept
      rw [if_pos this]
      exact List.mem_cons_self
    · have ih : v ∈ kept sn vs := kept_mem d'.2 hv hs (h.imp id fun ⟨u, hu, hl⟩ => by
        refine ⟨u, ?_, hl⟩
        unfold kept at hu
        split at hu
        · rcases List.mem_cons.mp hu with e0 | hu
          · have := d'.1 v hv; rw [e0] at hl; omega
          · exact hu
        · exact hu)
      unfold kept
      split
      · exact List.mem_cons_of_mem _ ih
      · exact ih
theorem keep_nd {vs : List Vn} (d : Desc vs) (ns : List Int) : keep vs (nd vs ns) = kept (lsn vs ns) vs := filter_kept d
/-- what is needed is enough -/
theorem nd_enough {vs : List Vn} (d : Desc vs) {ns : List Int} {last : Int} (h : ∀ v ∈ vs, v.1 ≤ last) {s : Int} (hs : s ∈ ns ++ [last]) : told vs (keep vs (nd vs ns)) s = true := by
  unfold told
  cases e : vat vs s with
  | none =>
    have : vat (keep vs (nd vs ns)) s = none := vat_none_iff.mpr fun v hv => vat_none_iff.mp e v (List.mem_filter.mp hv).1
    rw [this]
    simp
  | some v =>
    have hv := vat_some e
    have hl := seen_lsn h hs e
    by_cases hk : v ∈ kept (lsn vs ns) vs
    · have hm : v.1 ∈ nd vs ns := need_mem.mpr ⟨v, hk, rfl⟩
      have : vat (keep vs (nd vs ns)) s = some v := vat_filter (p := fun v => decide (v.1 ∈ nd vs ns)) (by simpa using hm) e
      rw [this]
      simp
    · have hn : v.2 = none := by
        by_cases z : v.2 = none
        · exact z
        · exact absurd (kept_mem d hv.1 hl (.inl z)) hk
      have : vat (keep vs (nd vs ns)) s = none := vat_none_iff.mpr fun u hu hus => by
        rw [keep_nd d] at hu
        have hum : u ∈ vs := kept_sub.subset hu
        have h1 := vat_first d e u hum hus
        by_cases z : u.1 = v.1
        · rw [desc_inj d hum hv.1 z] at hu
          exact hk hu
        · exact hk (kept_mem d hv.1 hl (.inr ⟨u, hu, by omega⟩))
      rw [this]
      unfold rdN
      rw [e]
      simp [hn]
/-- each lot that is enough has all that is needed -/
theorem enough_has {vs : List Vn} (d : Desc vs) {ns : List Int} {last : Int} (h : ∀ v ∈ vs, v.1 ≤ last) {ts : List Int} (ht : ∀ s ∈ ns ++ [last], told vs (keep vs ts) s = true) : ∀ t ∈ nd vs ns, t ∈ ts := by
  suffices H : ∀ (l : List Vn), (∃ pre, vs = pre ++ l) → ∀ v ∈ kept (lsn vs ns) l, v.1 ∈ ts by
    intro t htm
    obtain ⟨v, hv, rfl⟩ := need_mem.mp htm
    exact H vs ⟨[], rfl⟩ v hv
  intro l
  induction l with
  | nil => intro _ v hv; simp [kept] at hv
  | cons w l ih =>
    rintro ⟨pre, e⟩ v hv
    have ih := ih ⟨pre ++ [w], by rw [e]; simp⟩
    have dl : Desc (w :: l) := d.sublist (by rw [e]; exact List.sublist_append_right ..)
    have d' := List.pairwise_cons.mp dl
    unfold kept at hv
    split at hv
    · rename_i q
      rcases List.mem_cons.mp hv with rfl | hv
      · rw [Bool.and_eq_true] at q
        obtain ⟨q1, q2⟩ := q
        have hvm : v ∈ vs := by rw [e]; simp
        -- where it is seen
        obtain ⟨s, hs, es⟩ : ∃ s ∈ ns ++ [last], vat vs s = some v := by
          unfold lsn at q1
          rw [Bool.or_eq_true] at q1
          rcases q1 with q1 | q1
          · exact ⟨last, by simp, by rw [vat_last h]; exact of_decide_eq_true q1⟩
          · obtain ⟨s, h1, h2⟩ := List.any_eq_true.mp q1
            exact ⟨s, by simp [h1], of_decide_eq_true h2⟩
        have t := ht s hs
        unfold told at t
        rw [Bool.or_eq_true, Bool.and_eq_true] at t
        rcases t with t | ⟨t1, t2⟩
        · have t := of_decide_eq_true t
          rw [es] at t
          have := (List.mem_filter.mp (vat_some t).1).2
          exact of_decide_eq_true this
        · have t1 := of_decide_eq_true t1
          unfold rdN at t2
          rw [es] at t2
          have t2 : v.2 = none := of_decide_eq_true t2
          simp only [t2, decide_true, Bool.not_true, Bool.false_or] at q2
          cases hn : need (lsn vs ns) l with
          | nil => rw [hn] at q2; simp at q2
          | cons a b =>
            obtain ⟨u, hu, hua⟩ := need_mem.mp (show a ∈ need (lsn vs ns) l by rw [hn]; simp)
            have hul : u ∈ l := kept_sub.subset hu
            have hut := ih u hu
            have h1 := d'.1 u hul
            have hum : u ∈ keep vs ts := List.mem_filter.mpr ⟨by rw [e]; simp [hul], by simpa using hut⟩
            have h2 := (vat_some es).2
            exact absurd (by omega) (vat_none_iff.mp t1 u hum)
      · exact ih v hv
    · exact ih v hv
/-! the program -/
theorem eqv_o2 (a b : Option Vn) : PyData.eqv (oD a) (oD b) = decide (a = b) := by
  cases b with
  | some v => exact eqv_o a v
  | none =>
    cases a with
    | none => simp [oD, PyData.eqv]
    | some v => simp [oD, vD, PyData.eqv]
theorem sh_o (o : Option Vn) : SeqAt.shaped (oD o) = true := by
  have := dep_o o
  show ((oD o).canLay0 && decide ((oD o).depth ≤ 64)) = true
  rw [lay_o, Bool.true_and]
  exact decide_eq_true (by omega)
section
variable {st : Sto} {P : W → Sto → Prop} {E : Xc → Sto → Prop}
theorem wp_eqO {a b : Option Vn} : wp (wEq (oW a) (oW b) st) P E ↔ P (.bl (decide (a = b))) st := by
  have : wEq (oW a) (oW b) st = .ok (.bl (decide (a = b))) st := by
    cases a with
    | none =>
      cases b with
      | none => rfl
      | some v =>
        have := eqv_o2 none (some v)
        have h1 : scalV (oW (some v)) = none := rfl
        have h2 := toD_o st (some v)
        have h3 : toD st (oW none) = some (oD none) := rfl
        simp only [wEq, eqW, h1, h2, h3, sh_o, Bool.and_self, if_true, this]
        rfl
    | some u =>
      have := eqv_o2 (some u) b
      have h1 : scalV (oW (some u)) = none := rfl
      have h2 := toD_o st (some u)
      have h3 := toD_o st b
      simp only [wEq, eqW, h1, h2, h3, sh_o, Bool.and_self, if_true, this]
  rw [this]; exact Iff.rfl
theorem non_o {o : Option Vn} : Mi.isNon (oW o) = decide (o = none) := by cases o <;> simp [oW, vW, Mi.isNon]
theorem rd_ok {w : W} {vs : List Vn} (hw : Row w vs) {sn : Int} : wp (r_read_at [w, .int sn] st) (fun r s => Mi.isNon r = rdN vs sn ∧ s = st) E := by
  simp only [r_read_at, m_read_at]
  simp only [ws_seq, ws_if, ws_set, ws_sub, ws_ret, ws_retN, ws_expr, ws_sNx, ws_for, wp_op, wp_var0, wp_varS, wp_c, wp_mB, wp_toB, wp_tr, wp_trB_bl, wp_trB_non, wp_trB_int, wp_not, wp_and, wp_or, wp_if, wp_mBl, wp_nil, wp_cons, wp_tup, wp_lst, wp_lstS, wp_newL_t, wp_newL_f, wp_chain, wp_call, wp_fn, wp_sl, wp_noPart, wp_part, wp_comp, wp_yes, wp_iL, wp_iA, wp_srcL, wp_srcS, wp_srcAL, wp_srcAT, wp_iR1, wp_iR2, wp_rng1, wp_rng2, wp_iRv, wp_srcRL, wp_srcRT, wp_iEA, wp_srcEL, wp_srcET, wp_add, wp_sub, wp_mul, wp_mod, wp_div, wp_divW, wp_pow18, wp_pow17, wp_pow16, wp_pow30, wp_eqI, wp_neI, wp_cmpI, wp_isN, wp_isNotN, wp_lenL, wp_lenT, wp_abs, wp_int, wp_min2, wp_max2, wp_listL, wp_listT, wp_tupleL, wp_tupleT, wp_ixT0, wp_ixT1, wp_ixL0, wp_neg, wp_ok, wp_srcEL, wp_isB, wp_isNotB, wp_eqB, wp_neB, wp_all, wp_any, wp_slT, wp_slL, wp_rev, wp_revT, wp_revL, wp_disp, wp_pair, wp_pair0, wp_dict0, wipeW, List.foldl_cons, List.foldl_nil, wp_run, List.map, List.length, List.replicate, List.cons_append, List.nil_append, List.append_nil, List.set_cons_zero, List.set_cons_succ, if_true, if_false, Bool.not_true, Bool.not_false, Bool.true_eq_false, Bool.false_eq_true, Nat.reduceAdd, Nat.reduceSub, gName']
  refine wp_mono (va_ok (E := E) hw) ?_ (fun _ _ z => z)
  rintro _ s ⟨rfl, rfl⟩
  simp only [ws_seq, ws_if, ws_set, ws_sub, ws_ret, ws_retN, ws_expr, ws_sNx, ws_for, wp_op, wp_var0, wp_varS, wp_c, wp_mB, wp_toB, wp_tr, wp_trB_bl, wp_trB_non, wp_trB_int, wp_not, wp_and, wp_or, wp_if, wp_mBl, wp_nil, wp_cons, wp_tup, wp_lst, wp_lstS, wp_newL_t, wp_newL_f, wp_chain, wp_call, wp_fn, wp_sl, wp_noPart, wp_part, wp_comp, wp_yes, wp_iL, wp_iA, wp_srcL, wp_srcS, wp_srcAL, wp_srcAT, wp_iR1, wp_iR2, wp_rng1, wp_rng2, wp_iRv, wp_srcRL, wp_srcRT, wp_iEA, wp_srcEL, wp_srcET, wp_add, wp_sub, wp_mul, wp_mod, wp_div, wp_divW, wp_pow18, wp_pow17, wp_pow16, wp_pow30, wp_eqI, wp_neI, wp_cmpI, wp_isN, wp_isNotN, wp_lenL, wp_lenT, wp_abs, wp_int, wp_min2, wp_max2, wp_listL, wp_listT, wp_tupleL, wp_tupleT, wp_ixT0, wp_ixT1, wp_ixL0, wp_neg, wp_ok, wp_srcEL, wp_isB, wp_isNotB, wp_eqB, wp_neB, wp_all, wp_any, wp_slT, wp_slL, wp_rev, wp_revT, wp_revL, wp_disp, wp_pair, wp_pair0, wp_dict0, wipeW, List.foldl_cons, List.foldl_nil, wp_run, List.map, List.length, List.replicate, List.cons_append, List.nil_append, List.append_nil, List.set_cons_zero, List.set_cons_succ, if_true, if_false, Bool.not_true, Bool.not_false, Bool.true_eq_false, Bool.false_eq_true, Nat.reduceAdd, Nat.reduceSub, gName', non_o]
  unfold rdN
  cases e : vat vs sn with
  | none => simp [Mi.isNon]
  | some v =>
    simp only [reduceCtorEq, decide_false, Bool.false_eq_true, if_false]
    show wp (wIx (vW v) _ _) _ _
    simp only [ws_seq, ws_if, ws_set, ws_sub, ws_ret, ws_retN, ws_expr, ws_sNx, ws_for, wp_op, wp_var0, wp_varS, wp_c, wp_mB, wp_toB, wp_tr, wp_trB_bl, wp_trB_non, wp_trB_int, wp_not, wp_and, wp_or, wp_if, wp_mBl, wp_nil, wp_cons, wp_tup, wp_lst, wp_lstS, wp_newL_t, wp_newL_f, wp_chain, wp_call, wp_fn, wp_sl, wp_noPart, wp_part, wp_comp, wp_yes, wp_iL, wp_iA, wp_srcL, wp_srcS, wp_srcAL, wp_srcAT, wp_iR1, wp_iR2, wp_rng1, wp_rng2, wp_iRv, wp_srcRL, wp_srcRT, wp_iEA, wp_srcEL, wp_srcET, wp_add, wp_sub, wp_mul, wp_mod, wp_div, wp_divW, wp_pow18, wp_pow17, wp_pow16, wp_pow30, wp_eqI, wp_neI, wp_cmpI, wp_isN, wp_isNotN, wp_lenL, wp_lenT, wp_abs, wp_int, wp_min2, wp_max2, wp_listL, wp_listT, wp_tupleL, wp_tupleT, wp_ixT0, wp_ixT1, wp_ixL0, wp_neg, wp_ok, wp_srcEL, wp_isB, wp_isNotB, wp_eqB, wp_neB, wp_all, wp_any, wp_slT, wp_slL, wp_rev, wp_revT, wp_revL, wp_disp, wp_pair, wp_pair0, wp_dict0, wipeW, List.foldl_cons, List.foldl_nil, wp_run, List.map, List.length, List.replicate, List.cons_append, List.nil_append, List.append_nil, List.set_cons_zero, List.set_cons_succ, if_true, if_false, Bool.not_true, Bool.not_false, Bool.true_eq_false, Bool.false_eq_true, Nat.reduceAdd, Nat.reduceSub, gName', wp_vm, non_m]
    by_cases h : v.2 = none
    · simp [h, Mi.isNon]
    · simp [h, oW, vW, Mi.isNon]
theorem told_ok {w k : W} {vs kp : List Vn} (hw : Row w vs) (hk : Row k kp) {sn : Int} : wp (r_is_told_right [w, k, .int sn] st) (fun r s => r = .bl (told vs kp sn) ∧ s = st) NoE := by
  simp only [r_is_told_right, m_is_told_right]
  simp only [ws_seq, ws_if, ws_set, ws_sub, ws_ret, ws_retN, ws_expr, ws_sNx, ws_for, wp_op, wp_var0, wp_varS, wp_c, wp_mB, wp_toB, wp_tr, wp_trB_bl, wp_trB_non, wp_trB_int, wp_not, wp_and, wp_or, wp_if, wp_mBl, wp_nil, wp_cons, wp_tup, wp_lst, wp_lstS, wp_newL_t, wp_newL_f, wp_chain, wp_call, wp_fn, wp_sl, wp_noPart, wp_part, wp_comp, wp_yes, wp_iL, wp_iA, wp_srcL, wp_srcS, wp_srcAL, wp_srcAT, wp_iR1, wp_iR2, wp_rng1, wp_rng2, wp_iRv, wp_srcRL, wp_srcRT, wp_iEA, wp_srcEL, wp_srcET, wp_add, wp_sub, wp_mul, wp_mod, wp_div, wp_divW, wp_pow18, wp_pow17, wp_pow16, wp_pow30, wp_eqI, wp_neI, wp_cmpI, wp_isN, wp_isNotN, wp_lenL, wp_lenT, wp_abs, wp_int, wp_min2, wp_max2, wp_listL, wp_listT, wp_tupleL, wp_tupleT, wp_ixT0, wp_ixT1, wp_ixL0, wp_neg, wp_ok, wp_srcEL, wp_isB, wp_isNotB, wp_eqB, wp_neB, wp_all, wp_any, wp_slT, wp_slL, wp_rev, wp_revT, wp_revL, wp_disp, wp_pair, wp_pair0, wp_dict0, wipeW, List.foldl_cons, List.foldl_nil, wp_run, List.map, List.length, List.replicate, List.cons_append, List.nil_append, List.append_nil, List.set_cons_zero, List.set_cons_succ, if_true, if_false, Bool.not_true, Bool.not_false, Bool.true_eq_false, Bool.false_eq_true, Nat.reduceAdd, Nat.reduceSub, gName']
  refine wp_eq (va_ok hk) ?_
  refine wp_eq (va_ok hw) ?_
  rw [wp_eqO]
  simp only [ws_seq, ws_if, ws_set, ws_sub, ws_ret, ws_retN, ws_expr, ws_sNx, ws_for, wp_op, wp_var0, wp_varS, wp_c, wp_mB, wp_toB, wp_tr, wp_trB_bl, wp_trB_non, wp_trB_int, wp_not, wp_and, wp_or, wp_if, wp_mBl, wp_nil, wp_cons, wp_tup, wp_lst, wp_lstS, wp_newL_t, wp_newL_f, wp_chain, wp_call, wp_fn, wp_sl, wp_noPart, wp_part, wp_comp, wp_yes, wp_iL, wp_iA, wp_srcL, wp_srcS, wp_srcAL, wp_srcAT, wp_iR1, wp_iR2, wp_rng1, wp_rng2, wp_iRv, wp_srcRL, wp_srcRT, wp_iEA, wp_srcEL, wp_srcET, wp_add, wp_sub, wp_mul, wp_mod, wp_div, wp_divW, wp_pow18, wp_pow17, wp_pow16, wp_pow30, wp_eqI, wp_neI, wp_cmpI, wp_isN, wp_isNotN, wp_lenL, wp_lenT, wp_abs, wp_int, wp_min2, wp_max2, wp_listL, wp_listT, wp_tupleL, wp_tupleT, wp_ixT0, wp_ixT1, wp_ixL0, wp_neg, wp_ok, wp_srcEL, wp_isB, wp_isNotB, wp_eqB, wp_neB, wp_all, wp_any, wp_slT, wp_slL, wp_rev, wp_revT, wp_revL, wp_disp, wp_pair, wp_pair0, wp_dict0, wipeW, List.foldl_cons, List.foldl_nil, wp_run, List.map, List.length, List.replicate, List.cons_append, List.nil_append, List.append_nil, List.set_cons_zero, List.set_cons_succ, if_true, if_false, Bool.not_true, Bool.not_false, Bool.true_eq_false, Bool.false_eq_true, Nat.reduceAdd, Nat.reduceSub, gName']
  unfold told
  by_cases h : vat kp sn = vat vs sn
  · simp [h]
  · simp only [h, decide_false, Bool.false_eq_true, if_false, Bool.false_or, non_o]
    by_cases h2 : vat kp sn = none
    · simp only [h2, decide_true, if_true, Bool.true_and]
      refine wp_no (rd_ok hw) ?_
      rintro r s ⟨e, rfl⟩
      simp only [ws_seq, ws_if, ws_set, ws_sub, ws_ret, ws_retN, ws_expr, ws_sNx, ws_for, wp_op, wp_var0, wp_varS, wp_c, wp_mB, wp_toB, wp_tr, wp_trB_bl, wp_trB_non, wp_trB_int, wp_not, wp_and, wp_or, wp_if, wp_mBl, wp_nil, wp_cons, wp_tup, wp_lst, wp_lstS, wp_newL_t, wp_newL_f, wp_chain, wp_call, wp_fn, wp_sl, wp_noPart, wp_part, wp_comp, wp_yes, wp_iL, wp_iA, wp_srcL, wp_srcS, wp_srcAL, wp_srcAT, wp_iR1, wp_iR2, wp_rng1, wp_rng2, wp_iRv, wp_srcRL, wp_srcRT, wp_iEA, wp_srcEL, wp_srcET, wp_add, wp_sub, wp_mul, wp_mod, wp_div, wp_divW, wp_pow18, wp_pow17, wp_pow16, wp_pow30, wp_eqI, wp_neI, wp_cmpI, wp_isN, wp_isNotN, wp_lenL, wp_lenT, wp_abs, wp_int, wp_min2, wp_max2, wp_listL, wp_listT, wp_tupleL, wp_tupleT, wp_ixT0, wp_ixT1, wp_ixL0, wp_neg, wp_ok, wp_srcEL, wp_isB, wp_isNotB, wp_eqB, wp_neB, wp_all, wp_any, wp_slT, wp_slL, wp_rev, wp_revT, wp_revL, wp_disp, wp_pair, wp_pair0, wp_dict0, wipeW, List.foldl_cons, List.foldl_nil, wp_run, List.map, List.length, List.replicate, List.cons_append, List.nil_append, List.append_nil, List.set_cons_zero, List.set_cons_succ, if_true, if_false, Bool.not_true, Bool.not_false, Bool.true_eq_false, Bool.false_eq_true, Nat.reduceAdd, Nat.reduceSub, gName']
      rw [e]
      simp
    · simp [h2]
/-- whether a lot is enough -/
def enough (vs : List Vn) (asked : List Int) (xs : List W) : Bool := lotL (cms vs) 0 xs && asked.all fun s => told vs (keep vs (intz xs)) s
theorem commits_comp {vs : List Vn} {st : Sto} {env : Ev} {i : Nat} {Q : List W → Sto → Prop} {E : Xc → Sto → Prop} (hi : i < env.length) (hl : vs.length ≤ 40) (q : Q ((cms vs).map W.int) st) :
    wp (compS (fixS (vs.map vW)) (.one i) mYes (mOp wIx (mVar i) (mC (.int 0))) env (fixS (vs.map vW)).fuel 0 [] st) Q E := by
  refine comp_cms (w := .non) (i := i) hl (fun v => ⟨_, rfl, ?_⟩) q
  rw [wp_op]
  have : wp (mVar i (env.set i (some (vW v))) st) (fun x s => x = vW v ∧ s = st) NoE := by
    unfold mVar
    rw [List.getElem?_set_self hi]
    exact ⟨rfl, rfl⟩
  refine wp_no this ?_
  rintro x s ⟨rfl, rfl⟩
  simp only [ws_seq, ws_if, ws_set, ws_sub, ws_ret, ws_retN, ws_expr, ws_sNx, ws_for, wp_op, wp_var0, wp_varS, wp_c, wp_mB, wp_toB, wp_tr, wp_trB_bl, wp_trB_non, wp_trB_int, wp_not, wp_and, wp_or, wp_if, wp_mBl, wp_nil, wp_cons, wp_tup, wp_lst, wp_lstS, wp_newL_t, wp_newL_f, wp_chain, wp_call, wp_fn, wp_sl, wp_noPart, wp_part, wp_comp, wp_yes, wp_iL, wp_iA, wp_srcL, wp_srcS, wp_srcAL, wp_srcAT, wp_iR1, wp_iR2, wp_rng1, wp_rng2, wp_iRv, wp_srcRL, wp_srcRT, wp_iEA, wp_srcEL, wp_srcET, wp_add, wp_sub, wp_mul, wp_mod, wp_div, wp_divW, wp_pow18, wp_pow17, wp_pow16, wp_pow30, wp_eqI, wp_neI, wp_cmpI, wp_isN, wp_isNotN, wp_lenL, wp_lenT, wp_abs, wp_int, wp_min2, wp_max2, wp_listL, wp_listT, wp_tupleL, wp_tupleT, wp_ixT0, wp_ixT1, wp_ixL0, wp_neg, wp_ok, wp_srcEL, wp_isB, wp_isNotB, wp_eqB, wp_neB, wp_all, wp_any, wp_slT, wp_slL, wp_rev, wp_revT, wp_revL, wp_disp, wp_pair, wp_pair0, wp_dict0, wipeW, List.foldl_cons, List.foldl_nil, wp_run, List.map, List.length, List.replicate, List.cons_append, List.nil_append, List.append_nil, List.set_cons_zero, List.set_cons_succ, if_true, if_false, Bool.not_true, Bool.not_false, Bool.true_eq_false, Bool.false_eq_true, Nat.reduceAdd, Nat.reduceSub, gName', wp_vc]
  exact ⟨by trivial, by trivial⟩
theorem keep_comp {vs : List Vn} {ts : List Int} {st : Sto} {env : Ev} {i j : Nat} {Q : List W → Sto → Prop} {E : Xc → Sto → Prop} (hi : i < env.length) (hj : env[j]? = some (some (.tup (ts.map W.int)))) (hij : i ≠ j) (hl : vs.length ≤ 40) (q : Q ((keep vs ts).map vW) st) :
    wp (compS (fixS (vs.map vW)) (.one i) (mB (mOp (wIn false) (mOp wIx (mVar i) (mC (.int 0))) (mVar j))) (mVar i) env (fixS (vs.map vW)).fuel 0 [] st) Q E := by
  refine compS_map (fun v : Vn => decide (v.1 ∈ ts)) (fun v => vW v) (by simp [sizeLine]; omega) (fun v _ => ⟨_, rfl, ?_, fun _ => ?_⟩) q
  · have h1 : ∀ {P : W → Sto → Prop}, wp (mVar i (env.set i (some (vW v))) st) P NoE ↔ P (vW v) st := by
      intro P
      unfold mVar
      rw [List.getElem?_set_self hi]
      exact Iff.rfl
    have h2 : ∀ {P : W → Sto → Prop}, wp (mVar j (env.set i (some (vW v))) st) P NoE ↔ P (.tup (ts.map W.int)) st := by
      intro P
      unfold mVar
      rw [List.getElem?_set_ne hij, hj]
      exact Iff.rfl
    simp only [wp_mB, wp_op, h1, wp_c, wp_vc, h2, wp_inT, wp_toB]
    simp
  · unfold mVar
    rw [List.getElem?_set_self hi]
    exact ⟨rfl, rfl⟩
theorem kr_ok {w th : W} {vs : List Vn} {ns : List Int} {last : Int} (hw : Row w vs) (g : Good vs) (gl : Lot ns last) (l0 : 0 ≤ last) (l1 : last ≤ 1000000000000000000) (hn : ∀ v ∈ vs, v.1 ≤ last) :
    (∀ xs, th = .tup xs → xs.length ≤ 500 → (∀ x ∈ xs, It x) → wp (r_is_kept_right [w, .tup (ns.map W.int), .int last, th] st) (fun r s => r = .bl (enough vs (ns ++ [last]) xs) ∧ s = st) NoE) ∧
    (NT th st → wp (r_is_kept_right [w, .tup (ns.map W.int), .int last, th] st) (fun r s => r = .bl false ∧ s = st) NoE) := by
  have hf := g.few
  have hcs : ∀ c ∈ cms vs, 1 ≤ c ∧ c ≤ last := fun c hc => by
    obtain ⟨v, hv, rfl⟩ := List.mem_map.mp hc
    exact ⟨(g.ok v hv).1, hn v hv⟩
  constructor
  · rintro xs rfl hx hit
    simp only [r_is_kept_right, m_is_kept_right, wp_run, List.map, List.length, List.replicate, List.cons_append, List.nil_append, Nat.reduceAdd, Nat.reduceSub]
    rw [ws_seq]
    refine ws_nx (N := fun e s => s = st ∧ e = [some w, some (.tup (ns.map W.int)), some (.int last), some (.tup xs), none, none, none, none, none]) ?_ ?_
    · simp only [ws_seq, ws_if, ws_set, ws_sub, ws_ret, ws_retN, ws_expr, ws_sNx, ws_for, wp_op, wp_var0, wp_varS, wp_c, wp_mB, wp_toB, wp_tr, wp_trB_bl, wp_trB_non, wp_trB_int, wp_not, wp_and, wp_or, wp_if, wp_mBl, wp_nil, wp_cons, wp_tup, wp_lst, wp_lstS, wp_newL_t, wp_newL_f, wp_chain, wp_call, wp_fn, wp_sl, wp_noPart, wp_part, wp_comp, wp_yes, wp_iL, wp_iA, wp_srcL, wp_srcS, wp_srcAL, wp_srcAT, wp_iR1, wp_iR2, wp_rng1, wp_rng2, wp_iRv, wp_srcRL, wp_srcRT, wp_iEA, wp_srcEL, wp_srcET, wp_add, wp_sub, wp_mul, wp_mod, wp_div, wp_divW, wp_pow18, wp_pow17, wp_pow16, wp_pow30, wp_eqI, wp_neI, wp_cmpI, wp_isN, wp_isNotN, wp_lenL, wp_lenT, wp_abs, wp_int, wp_min2, wp_max2, wp_listL, wp_listT, wp_tupleL, wp_tupleT, wp_ixT0, wp_ixT1, wp_ixL0, wp_neg, wp_ok, wp_srcEL, wp_isB, wp_isNotB, wp_eqB, wp_neB, wp_all, wp_any, wp_slT, wp_slL, wp_rev, wp_revT, wp_revL, wp_disp, wp_pair, wp_pair0, wp_dict0, wipeW, List.foldl_cons, List.foldl_nil, wp_run, List.map, List.length, List.replicate, List.cons_append, List.nil_append, List.append_nil, List.set_cons_zero, List.set_cons_succ, if_true, if_false, Bool.not_true, Bool.not_false, Bool.true_eq_false, Bool.false_eq_true, Nat.reduceAdd, Nat.reduceSub, gName']
      refine wp_no (da_ok hw g gl l0 l1 hn) ?_
      rintro _ s rfl
      exact ⟨by trivial, by trivial⟩
    rintro _ s ⟨rfl, rfl⟩
    rw [ws_seq]
    refine ws_nx (N := fun e s' => s' = s ∧ e = [some w, some (.tup (ns.map W.int)), some (.int last), some (.tup xs), some (.lst ((cms vs).map W.int)), none, none, none, none]) ?_ ?_
    · simp only [ws_seq, ws_if, ws_set, ws_sub, ws_ret, ws_retN, ws_expr, ws_sNx, ws_for, wp_op, wp_var0, wp_varS, wp_c, wp_mB, wp_toB, wp_tr, wp_trB_bl, wp_trB_non, wp_trB_int, wp_not, wp_and, wp_or, wp_if, wp_mBl, wp_nil, wp_cons, wp_tup, wp_lst, wp_lstS, wp_newL_t, wp_newL_f, wp_chain, wp_call, wp_fn, wp_sl, wp_noPart, wp_part, wp_comp, wp_yes, wp_iL, wp_iA, wp_srcL, wp_srcS, wp_srcAL, wp_srcAT, wp_iR1, wp_iR2, wp_rng1, wp_rng2, wp_iRv, wp_srcRL, wp_srcRT, wp_iEA, wp_srcEL, wp_srcET, wp_add, wp_sub, wp_mul, wp_mod, wp_div, wp_divW, wp_pow18, wp_pow17, wp_pow16, wp_pow30, wp_eqI, wp_neI, wp_cmpI, wp_isN, wp_isNotN, wp_lenL, wp_lenT, wp_abs, wp_int, wp_min2, wp_max2, wp_listL, wp_listT, wp_tupleL, wp_tupleT, wp_ixT0, wp_ixT1, wp_ixL0, wp_neg, wp_ok, wp_srcEL, wp_isB, wp_isNotB, wp_eqB, wp_neB, wp_all, wp_any, wp_slT, wp_slL, wp_rev, wp_revT, wp_revL, wp_disp, wp_pair, wp_pair0, wp_dict0, wipeW, List.foldl_cons, List.foldl_nil, wp_run, List.map, List.length, List.replicate, List.cons_append, List.nil_append, List.append_nil, List.set_cons_zero, List.set_cons_succ, if_true, if_false, Bool.not_true, Bool.not_false, Bool.true_eq_false, Bool.false_eq_true, Nat.reduceAdd, Nat.reduceSub, gName', src_row hw]
      exact commits_comp (by simp) hf ⟨rfl, rfl⟩
    rintro _ s' ⟨rfl, rfl⟩
    rw [ws_seq]
    have le := lots_eq hcs xs 0 0 (.inr ⟨rfl, rfl⟩)
    unfold enough
    simp only [ws_seq, ws_if, ws_set, ws_sub, ws_ret, ws_retN, ws_expr, ws_sNx, ws_for, wp_op, wp_var0, wp_varS, wp_c, wp_mB, wp_toB, wp_tr, wp_trB_bl, wp_trB_non, wp_trB_int, wp_not, wp_and, wp_or, wp_if, wp_mBl, wp_nil, wp_cons, wp_tup, wp_lst, wp_lstS, wp_newL_t, wp_newL_f, wp_chain, wp_call, wp_fn, wp_sl, wp_noPart, wp_part, wp_comp, wp_yes, wp_iL, wp_iA, wp_srcL, wp_srcS, wp_srcAL, wp_srcAT, wp_iR1, wp_iR2, wp_rng1, wp_rng2, wp_iRv, wp_srcRL, wp_srcRT, wp_iEA, wp_srcEL, wp_srcET, wp_add, wp_sub, wp_mul, wp_mod, wp_div, wp_divW, wp_pow18, wp_pow17, wp_pow16, wp_pow30, wp_eqI, wp_neI, wp_cmpI, wp_isN, wp_isNotN, wp_lenL, wp_lenT, wp_abs, wp_int, wp_min2, wp_max2, wp_listL, wp_listT, wp_tupleL, wp_tupleT, wp_ixT0, wp_ixT1, wp_ixL0, wp_neg, wp_ok, wp_srcEL, wp_isB, wp_isNotB, wp_eqB, wp_neB, wp_all, wp_any, wp_slT, wp_slL, wp_rev, wp_revT, wp_revL, wp_disp, wp_pair, wp_pair0, wp_dict0, wipeW, List.foldl_cons, List.foldl_nil, wp_run, List.map, List.length, List.replicate, List.cons_append, List.nil_append, List.append_nil, List.set_cons_zero, List.set_cons_succ, if_true, if_false, Bool.not_true, Bool.not_false, Bool.true_eq_false, Bool.false_eq_true, Nat.reduceAdd, Nat.reduceSub, gName']
    refine wp_eq (below_ok hit) ?_
    cases hb : lotB (last + 1) 0 xs with
    | false =>
      rw [hb, Bool.false_and] at le
      simp only [ws_seq, ws_if, ws_set, ws_sub, ws_ret, ws_retN, ws_expr, ws_sNx, ws_for, wp_op, wp_var0, wp_varS, wp_c, wp_mB, wp_toB, wp_tr, wp_trB_bl, wp_trB_non, wp_trB_int, wp_not, wp_and, wp_or, wp_if, wp_mBl, wp_nil, wp_cons, wp_tup, wp_lst, wp_lstS, wp_newL_t, wp_newL_f, wp_chain, wp_call, wp_fn, wp_sl, wp_noPart, wp_part, wp_comp, wp_yes, wp_iL, wp_iA, wp_srcL, wp_srcS, wp_srcAL, wp_srcAT, wp_iR1, wp_iR2, wp_rng1, wp_rng2, wp_iRv, wp_srcRL, wp_srcRT, wp_iEA, wp_srcEL, wp_srcET, wp_add, wp_sub, wp_mul, wp_mod, wp_div, wp_divW, wp_pow18, wp_pow17, wp_pow16, wp_pow30, wp_eqI, wp_neI, wp_cmpI, wp_isN, wp_isNotN, wp_lenL, wp_lenT, wp_abs, wp_int, wp_min2, wp_max2, wp_listL, wp_listT, wp_tupleL, wp_tupleT, wp_ixT0, wp_ixT1, wp_ixL0, wp_neg, wp_ok, wp_srcEL, wp_isB, wp_isNotB, wp_eqB, wp_neB, wp_all, wp_any, wp_slT, wp_slL, wp_rev, wp_revT, wp_revL, wp_disp, wp_pair, wp_pair0, wp_dict0, wipeW, List.foldl_cons, List.foldl_nil, wp_run, List.map, List.length, List.replicate, List.cons_append, List.nil_append, List.append_nil, List.set_cons_zero, List.set_cons_succ, if_true, if_false, Bool.not_true, Bool.not_false, Bool.true_eq_false, Bool.false_eq_true, Nat.reduceAdd, Nat.reduceSub, gName', le]
      simp
    | true =>
      rw [hb, Bool.true_and] at le
      have exs := lotB_intz hb
      generalize hts : intz xs = ts at le exs
      subst exs
      simp only [ws_seq, ws_if, ws_set, ws_sub, ws_ret, ws_retN, ws_expr, ws_sNx, ws_for, wp_op, wp_var0, wp_varS, wp_c, wp_mB, wp_toB, wp_tr, wp_trB_bl, wp_trB_non, wp_trB_int, wp_not, wp_and, wp_or, wp_if, wp_mBl, wp_nil, wp_cons, wp_tup, wp_lst, wp_lstS, wp_newL_t, wp_newL_f, wp_chain, wp_call, wp_fn, wp_sl, wp_noPart, wp_part, wp_comp, wp_yes, wp_iL, wp_iA, wp_srcL, wp_srcS, wp_srcAL, wp_srcAT, wp_iR1, wp_iR2, wp_rng1, wp_rng2, wp_iRv, wp_srcRL, wp_srcRT, wp_iEA, wp_srcEL, wp_srcET, wp_add, wp_sub, wp_mul, wp_mod, wp_div, wp_divW, wp_pow18, wp_pow17, wp_pow16, wp_pow30, wp_eqI, wp_neI, wp_cmpI, wp_isN, wp_isNotN, wp_lenL, wp_lenT, wp_abs, wp_int, wp_min2, wp_max2, wp_listL, wp_listT, wp_tupleL, wp_tupleT, wp_ixT0, wp_ixT1, wp_ixL0, wp_neg, wp_ok, wp_srcEL, wp_isB, wp_isNotB, wp_eqB, wp_neB, wp_all, wp_any, wp_slT, wp_slL, wp_rev, wp_revT, wp_revL, wp_disp, wp_pair, wp_pair0, wp_dict0, wipeW, List.foldl_cons, List.foldl_nil, wp_run, List.map, List.length, List.replicate, List.cons_append, List.nil_append, List.append_nil, List.set_cons_zero, List.set_cons_succ, if_true, if_false, Bool.not_true, Bool.not_false, Bool.true_eq_false, Bool.false_eq_true, Nat.reduceAdd, Nat.reduceSub, gName']
      rw [List.length_map] at hx
      refine compS_map (fun _ => true) (fun i : Int => W.bl (decide (i ∈ cms vs))) (by simp [sizeLine]; omega) (fun i _ => ⟨_, rfl, ?_, fun _ => ?_⟩) ?_
      · simp only [ws_seq, ws_if, ws_set, ws_sub, ws_ret, ws_retN, ws_expr, ws_sNx, ws_for, wp_op, wp_var0, wp_varS, wp_c, wp_mB, wp_toB, wp_tr, wp_trB_bl, wp_trB_non, wp_trB_int, wp_not, wp_and, wp_or, wp_if, wp_mBl, wp_nil, wp_cons, wp_tup, wp_lst, wp_lstS, wp_newL_t, wp_newL_f, wp_chain, wp_call, wp_fn, wp_sl, wp_noPart, wp_part, wp_comp, wp_yes, wp_iL, wp_iA, wp_srcL, wp_srcS, wp_srcAL, wp_srcAT, wp_iR1, wp_iR2, wp_rng1, wp_rng2, wp_iRv, wp_srcRL, wp_srcRT, wp_iEA, wp_srcEL, wp_srcET, wp_add, wp_sub, wp_mul, wp_mod, wp_div, wp_divW, wp_pow18, wp_pow17, wp_pow16, wp_pow30, wp_eqI, wp_neI, wp_cmpI, wp_isN, wp_isNotN, wp_lenL, wp_lenT, wp_abs, wp_int, wp_min2, wp_max2, wp_listL, wp_listT, wp_tupleL, wp_tupleT, wp_ixT0, wp_ixT1, wp_ixL0, wp_neg, wp_ok, wp_srcEL, wp_isB, wp_isNotB, wp_eqB, wp_neB, wp_all, wp_any, wp_slT, wp_slL, wp_rev, wp_revT, wp_revL, wp_disp, wp_pair, wp_pair0, wp_dict0, wipeW, List.foldl_cons, List.foldl_nil, wp_run, List.map, List.length, List.replicate, List.cons_append, List.nil_append, List.append_nil, List.set_cons_zero, List.set_cons_succ, if_true, if_false, Bool.not_true, Bool.not_false, Bool.true_eq_false, Bool.false_eq_true, Nat.reduceAdd, Nat.reduceSub, gName']
        simp
      · simp only [ws_seq, ws_if, ws_set, ws_sub, ws_ret, ws_retN, ws_expr, ws_sNx, ws_for, wp_op, wp_var0, wp_varS, wp_c, wp_mB, wp_toB, wp_tr, wp_trB_bl, wp_trB_non, wp_trB_int, wp_not, wp_and, wp_or, wp_if, wp_mBl, wp_nil, wp_cons, wp_tup, wp_lst, wp_lstS, wp_newL_t, wp_newL_f, wp_chain, wp_call, wp_fn, wp_sl, wp_noPart, wp_part, wp_comp, wp_yes, wp_iL, wp_iA, wp_srcL, wp_srcS, wp_srcAL, wp_srcAT, wp_iR1, wp_iR2, wp_rng1, wp_rng2, wp_iRv, wp_srcRL, wp_srcRT, wp_iEA, wp_srcEL, wp_srcET, wp_add, wp_sub, wp_mul, wp_mod, wp_div, wp_divW, wp_pow18, wp_pow17, wp_pow16, wp_pow30, wp_eqI, wp_neI, wp_cmpI, wp_isN, wp_isNotN, wp_lenL, wp_lenT, wp_abs, wp_int, wp_min2, wp_max2, wp_listL, wp_listT, wp_tupleL, wp_tupleT, wp_ixT0, wp_ixT1, wp_ixL0, wp_neg, wp_ok, wp_srcEL, wp_isB, wp_isNotB, wp_eqB, wp_neB, wp_all, wp_any, wp_slT, wp_slL, wp_rev, wp_revT, wp_revL, wp_disp, wp_pair, wp_pair0, wp_dict0, wipeW, List.foldl_cons, List.foldl_nil, wp_run, List.map, List.length, List.replicate, List.cons_append, List.nil_append, List.append_nil, List.set_cons_zero, List.set_cons_succ, if_true, if_false, Bool.not_true, Bool.not_false, Bool.true_eq_false, Bool.false_eq_true, Nat.reduceAdd, Nat.reduceSub, gName', wp_inL]
        simp
      · have e1 : (ts.filter fun _ => true).map (fun i : Int => W.bl (decide (i ∈ cms vs))) = (ts.map fun i => decide (i ∈ cms vs)).map W.bl := by
          rw [List.filter_eq_self.mpr (fun _ _ => rfl), List.map_map]; rfl
        rw [e1]
        simp only [ws_seq, ws_if, ws_set, ws_sub, ws_ret, ws_retN, ws_expr, ws_sNx, ws_for, wp_op, wp_var0, wp_varS, wp_c, wp_mB, wp_toB, wp_tr, wp_trB_bl, wp_trB_non, wp_trB_int, wp_not, wp_and, wp_or, wp_if, wp_mBl, wp_nil, wp_cons, wp_tup, wp_lst, wp_lstS, wp_newL_t, wp_newL_f, wp_chain, wp_call, wp_fn, wp_sl, wp_noPart, wp_part, wp_comp, wp_yes, wp_iL, wp_iA, wp_srcL, wp_srcS, wp_srcAL, wp_srcAT, wp_iR1, wp_iR2, wp_rng1, wp_rng2, wp_iRv, wp_srcRL, wp_srcRT, wp_iEA, wp_srcEL, wp_srcET, wp_add, wp_sub, wp_mul, wp_mod, wp_div, wp_divW, wp_pow18, wp_pow17, wp_pow16, wp_pow30, wp_eqI, wp_neI, wp_cmpI, wp_isN, wp_isNotN, wp_lenL, wp_lenT, wp_abs, wp_int, wp_min2, wp_max2, wp_listL, wp_listT, wp_tupleL, wp_tupleT, wp_ixT0, wp_ixT1, wp_ixL0, wp_neg, wp_ok, wp_srcEL, wp_isB, wp_isNotB, wp_eqB, wp_neB, wp_all, wp_any, wp_slT, wp_slL, wp_rev, wp_revT, wp_revL, wp_disp, wp_pair, wp_pair0, wp_dict0, wipeW, List.foldl_cons, List.foldl_nil, wp_run, List.map, List.length, List.replicate, List.cons_append, List.nil_append, List.append_nil, List.set_cons_zero, List.set_cons_succ, if_true, if_false, Bool.not_true, Bool.not_false, Bool.true_eq_false, Bool.false_eq_true, Nat.reduceAdd, Nat.reduceSub, gName']
        have e2 : (ts.map fun i => decide (i ∈ cms vs)).all id = ts.all fun i => decide (i ∈ cms vs) := by rw [List.all_map]; rfl
        rw [e2, ← le]
        cases hL : lotL (cms vs) 0 (ts.map W.int) with
        | false => simp
        | true =>
          simp only [ws_seq, ws_if, ws_set, ws_sub, ws_ret, ws_retN, ws_expr, ws_sNx, ws_for, wp_op, wp_var0, wp_varS, wp_c, wp_mB, wp_toB, wp_tr, wp_trB_bl, wp_trB_non, wp_trB_int, wp_not, wp_and, wp_or, wp_if, wp_mBl, wp_nil, wp_cons, wp_tup, wp_lst, wp_lstS, wp_newL_t, wp_newL_f, wp_chain, wp_call, wp_fn, wp_sl, wp_noPart, wp_part, wp_comp, wp_yes, wp_iL, wp_iA, wp_srcL, wp_srcS, wp_srcAL, wp_srcAT, wp_iR1, wp_iR2, wp_rng1, wp_rng2, wp_iRv, wp_srcRL, wp_srcRT, wp_iEA, wp_srcEL, wp_srcET, wp_add, wp_sub, wp_mul, wp_mod, wp_div, wp_divW, wp_pow18, wp_pow17, wp_pow16, wp_pow30, wp_eqI, wp_neI, wp_cmpI, wp_isN, wp_isNotN, wp_lenL, wp_lenT, wp_abs, wp_int, wp_min2, wp_max2, wp_listL, wp_listT, wp_tupleL, wp_tupleT, wp_ixT0, wp_ixT1, wp_ixL0, wp_neg, wp_ok, wp_srcEL, wp_isB, wp_isNotB, wp_eqB, wp_neB, wp_all, wp_any, wp_slT, wp_slL, wp_rev, wp_revT, wp_revL, wp_disp, wp_pair, wp_pair0, wp_dict0, wipeW, List.foldl_cons, List.foldl_nil, wp_run, List.map, List.length, List.replicate, List.cons_append, List.nil_append, List.append_nil, List.set_cons_zero, List.set_cons_succ, if_true, if_false, Bool.not_true, Bool.not_false, Bool.true_eq_false, Bool.false_eq_true, Nat.reduceAdd, Nat.reduceSub, gName', src_row hw]
          refine keep_comp (ts := ts) (by simp) rfl (by decide) hf ?_
          simp only [ws_seq, ws_if, ws_set, ws_sub, ws_ret, ws_retN, ws_expr, ws_sNx, ws_for, wp_op, wp_var0, wp_varS, wp_c, wp_mB, wp_toB, wp_tr, wp_trB_bl, wp_trB_non, wp_trB_int, wp_not, wp_and, wp_or, wp_if, wp_mBl, wp_nil, wp_cons, wp_tup, wp_lst, wp_lstS, wp_newL_t, wp_newL_f, wp_chain, wp_call, wp_fn, wp_sl, wp_noPart, wp_part, wp_comp, wp_yes, wp_iL, wp_iA, wp_srcL, wp_srcS, wp_srcAL, wp_srcAT, wp_iR1, wp_iR2, wp_rng1, wp_rng2, wp_iRv, wp_srcRL, wp_srcRT, wp_iEA, wp_srcEL, wp_srcET, wp_add, wp_sub, wp_mul, wp_mod, wp_div, wp_divW, wp_pow18, wp_pow17, wp_pow16, wp_pow30, wp_eqI, wp_neI, wp_cmpI, wp_isN, wp_isNotN, wp_lenL, wp_lenT, wp_abs, wp_int, wp_min2, wp_max2, wp_listL, wp_listT, wp_tupleL, wp_tupleT, wp_ixT0, wp_ixT1, wp_ixL0, wp_neg, wp_ok, wp_srcEL, wp_isB, wp_isNotB, wp_eqB, wp_neB, wp_all, wp_any, wp_slT, wp_slL, wp_rev, wp_revT, wp_revL, wp_disp, wp_pair, wp_pair0, wp_dict0, wipeW, List.foldl_cons, List.foldl_nil, wp_run, List.map, List.length, List.replicate, List.cons_append, List.nil_append, List.append_nil, List.set_cons_zero, List.set_cons_succ, if_true, if_false, Bool.not_true, Bool.not_false, Bool.true_eq_false, Bool.false_eq_true, Nat.reduceAdd, Nat.reduceSub, gName', wp_star, itsW]
          have hlf := gl.few
          refine ⟨by simp [sizeLine]; omega, ?_⟩
          have e : ns.map W.int ++ [W.int last] = (ns ++ [last]).map W.int := by simp
          rw [e]
          refine compS_map (fun _ => true) (fun i : Int => W.bl (told vs (keep vs ts) i)) (by simp [sizeLine]; omega) (fun i _ => ⟨_, rfl, ?_, fun _ => ?_⟩) ?_
          · simp only [ws_seq, ws_if, ws_set, ws_sub, ws_ret, ws_retN, ws_expr, ws_sNx, ws_for, wp_op, wp_var0, wp_varS, wp_c, wp_mB, wp_toB, wp_tr, wp_trB_bl, wp_trB_non, wp_trB_int, wp_not, wp_and, wp_or, wp_if, wp_mBl, wp_nil, wp_cons, wp_tup, wp_lst, wp_lstS, wp_newL_t, wp_newL_f, wp_chain, wp_call, wp_fn, wp_sl, wp_noPart, wp_part, wp_comp, wp_yes, wp_iL, wp_iA, wp_srcL, wp_srcS, wp_srcAL, wp_srcAT, wp_iR1, wp_iR2, wp_rng1, wp_rng2, wp_iRv, wp_srcRL, wp_srcRT, wp_iEA, wp_srcEL, wp_srcET, wp_add, wp_sub, wp_mul, wp_mod, wp_div, wp_divW, wp_pow18, wp_pow17, wp_pow16, wp_pow30, wp_eqI, wp_neI, wp_cmpI, wp_isN, wp_isNotN, wp_lenL, wp_lenT, wp_abs, wp_int, wp_min2, wp_max2, wp_listL, wp_listT, wp_tupleL, wp_tupleT, wp_ixT0, wp_ixT1, wp_ixL0, wp_neg, wp_ok, wp_srcEL, wp_isB, wp_isNotB, wp_eqB, wp_neB, wp_all, wp_any, wp_slT, wp_slL, wp_rev, wp_revT, wp_revL, wp_disp, wp_pair, wp_pair0, wp_dict0, wipeW, List.foldl_cons, List.foldl_nil, wp_run, List.map, List.length, List.replicate, List.cons_append, List.nil_append, List.append_nil, List.set_cons_zero, List.set_cons_succ, if_true, if_false, Bool.not_true, Bool.not_false, Bool.true_eq_false, Bool.false_eq_true, Nat.reduceAdd, Nat.reduceSub, gName']
            simp
          · simp only [ws_seq, ws_if, ws_set, ws_sub, ws_ret, ws_retN, ws_expr, ws_sNx, ws_for, wp_op, wp_var0, wp_varS, wp_c, wp_mB, wp_toB, wp_tr, wp_trB_bl, wp_trB_non, wp_trB_int, wp_not, wp_and, wp_or, wp_if, wp_mBl, wp_nil, wp_cons, wp_tup, wp_lst, wp_lstS, wp_newL_t, wp_newL_f, wp_chain, wp_call, wp_fn, wp_sl, wp_noPart, wp_part, wp_comp, wp_yes, wp_iL, wp_iA, wp_srcL, wp_srcS, wp_srcAL, wp_srcAT, wp_iR1, wp_iR2, wp_rng1, wp_rng2, wp_iRv, wp_srcRL, wp_srcRT, wp_iEA, wp_srcEL, wp_srcET, wp_add, wp_sub, wp_mul, wp_mod, wp_div, wp_divW, wp_pow18, wp_pow17, wp_pow16, wp_pow30, wp_eqI, wp_neI, wp_cmpI, wp_isN, wp_isNotN, wp_lenL, wp_lenT, wp_abs, wp_int, wp_min2, wp_max2, wp_listL, wp_listT, wp_tupleL, wp_tupleT, wp_ixT0, wp_ixT1, wp_ixL0, wp_neg, wp_ok, wp_srcEL, wp_isB, wp_isNotB, wp_eqB, wp_neB, wp_all, wp_any, wp_slT, wp_slL, wp_rev, wp_revT, wp_revL, wp_disp, wp_pair, wp_pair0, wp_dict0, wipeW, List.foldl_cons, List.foldl_nil, wp_run, List.map, List.length, List.replicate, List.cons_append, List.nil_append, List.append_nil, List.set_cons_zero, List.set_cons_succ, if_true, if_false, Bool.not_true, Bool.not_false, Bool.true_eq_false, Bool.false_eq_true, Nat.reduceAdd, Nat.reduceSub, gName']
            refine wp_no (told_ok hw (.inl rfl)) ?_
            rintro _ s ⟨rfl, rfl⟩
            simp
          · have e1 : ((ns ++ [last]).filter fun _ => true).map (fun i : Int => W.bl (told vs (keep vs ts) i)) = ((ns ++ [last]).map fun i => told vs (keep vs ts) i).map W.bl := by
              rw [List.filter_eq_self.mpr (fun _ _ => rfl), List.map_map]; rfl
            rw [e1]
            simp only [ws_seq, ws_if, ws_set, ws_sub, ws_ret, ws_retN, ws_expr, ws_sNx, ws_for, wp_op, wp_var0, wp_varS, wp_c, wp_mB, wp_toB, wp_tr, wp_trB_bl, wp_trB_non, wp_trB_int, wp_not, wp_and, wp_or, wp_if, wp_mBl, wp_nil, wp_cons, wp_tup, wp_lst, wp_lstS, wp_newL_t, wp_newL_f, wp_chain, wp_call, wp_fn, wp_sl, wp_noPart, wp_part, wp_comp, wp_yes, wp_iL, wp_iA, wp_srcL, wp_srcS, wp_srcAL, wp_srcAT, wp_iR1, wp_iR2, wp_rng1, wp_rng2, wp_iRv, wp_srcRL, wp_srcRT, wp_iEA, wp_srcEL, wp_srcET, wp_add, wp_sub, wp_mul, wp_mod, wp_div, wp_divW, wp_pow18, wp_pow17, wp_pow16, wp_pow30, wp_eqI, wp_neI, wp_cmpI, wp_isN, wp_isNotN, wp_lenL, wp_lenT, wp_abs, wp_int, wp_min2, wp_max2, wp_listL, wp_listT, wp_tupleL, wp_tupleT, wp_ixT0, wp_ixT1, wp_ixL0, wp_neg, wp_ok, wp_srcEL, wp_isB, wp_isNotB, wp_eqB, wp_neB, wp_all, wp_any, wp_slT, wp_slL, wp_rev, wp_revT, wp_revL, wp_disp, wp_pair, wp_pair0, wp_dict0, wipeW, List.foldl_cons, List.foldl_nil, wp_run, List.map, List.length, List.replicate, List.cons_append, List.nil_append, List.append_nil, List.set_cons_zero, List.set_cons_succ, if_true, if_false, Bool.not_true, Bool.not_false, Bool.true_eq_false, Bool.false_eq_true, Nat.reduceAdd, Nat.reduceSub, gName']
            have e2 : ((ns ++ [last]).map fun i => told vs (keep vs ts) i).all id = (ns ++ [last]).all fun i => told vs (keep vs ts) i := by rw [List.all_map]; rfl
            rw [e2]
            simp
  · intro hnt
    simp only [r_is_kept_right, m_is_kept_right, wp_run, List.map, List.length, List.replicate, List.cons_append, List.nil_append, Nat.reduceAdd, Nat.reduceSub]
    rw [ws_seq]
    refine ws_nx (N := fun e s => s = st ∧ e = [some w, some (.tup (ns.map W.int)), some (.int last), some th, none, none, none, none, none]) ?_ ?_
    · simp only [ws_seq, ws_if, ws_set, ws_sub, ws_ret, ws_retN, ws_expr, ws_sNx, ws_for, wp_op, wp_var0, wp_varS, wp_c, wp_mB, wp_toB, wp_tr, wp_trB_bl, wp_trB_non, wp_trB_int, wp_not, wp_and, wp_or, wp_if, wp_mBl, wp_nil, wp_cons, wp_tup, wp_lst, wp_lstS, wp_newL_t, wp_newL_f, wp_chain, wp_call, wp_fn, wp_sl, wp_noPart, wp_part, wp_comp, wp_yes, wp_iL, wp_iA, wp_srcL, wp_srcS, wp_srcAL, wp_srcAT, wp_iR1, wp_iR2, wp_rng1, wp_rng2, wp_iRv, wp_srcRL, wp_srcRT, wp_iEA, wp_srcEL, wp_srcET, wp_add, wp_sub, wp_mul, wp_mod, wp_div, wp_divW, wp_pow18, wp_pow17, wp_pow16, wp_pow30, wp_eqI, wp_neI, wp_cmpI, wp_isN, wp_isNotN, wp_lenL, wp_lenT, wp_abs, wp_int, wp_min2, wp_max2, wp_listL, wp_listT, wp_tupleL, wp_tupleT, wp_ixT0, wp_ixT1, wp_ixL0, wp_neg, wp_ok, wp_srcEL, wp_isB, wp_isNotB, wp_eqB, wp_neB, wp_all, wp_any, wp_slT, wp_slL, wp_rev, wp_revT, wp_revL, wp_disp, wp_pair, wp_pair0, wp_dict0, wipeW, List.foldl_cons, List.foldl_nil, wp_run, List.map, List.length, List.replicate, List.cons_append, List.nil_append, List.append_nil, List.set_cons_zero, List.set_cons_succ, if_true, if_false, Bool.not_true, Bool.not_false, Bool.true_eq_false, Bool.false_eq_true, Nat.reduceAdd, Nat.reduceSub, gName']
      refine wp_no (da_ok hw g gl l0 l1 hn) ?_
      rintro _ s rfl
      exact ⟨by trivial, by trivial⟩
    rintro _ s ⟨rfl, rfl⟩
    rw [ws_seq]
    refine ws_nx (N := fun e s' => s' = s ∧ e = [some w, some (.tup (ns.map W.int)), some (.int last), some th, some (.lst ((cms vs).map W.int)), none, none, none, none]) ?_ ?_
    · simp only [ws_seq, ws_if, ws_set, ws_sub, ws_ret, ws_retN, ws_expr, ws_sNx, ws_for, wp_op, wp_var0, wp_varS, wp_c, wp_mB, wp_toB, wp_tr, wp_trB_bl, wp_trB_non, wp_trB_int, wp_not, wp_and, wp_or, wp_if, wp_mBl, wp_nil, wp_cons, wp_tup, wp_lst, wp_lstS, wp_newL_t, wp_newL_f, wp_chain, wp_call, wp_fn, wp_sl, wp_noPart, wp_part, wp_comp, wp_yes, wp_iL, wp_iA, wp_srcL, wp_srcS, wp_srcAL, wp_srcAT, wp_iR1, wp_iR2, wp_rng1, wp_rng2, wp_iRv, wp_srcRL, wp_srcRT, wp_iEA, wp_srcEL, wp_srcET, wp_add, wp_sub, wp_mul, wp_mod, wp_div, wp_divW, wp_pow18, wp_pow17, wp_pow16, wp_pow30, wp_eqI, wp_neI, wp_cmpI, wp_isN, wp_isNotN, wp_lenL, wp_lenT, wp_abs, wp_int, wp_min2, wp_max2, wp_listL, wp_listT, wp_tupleL, wp_tupleT, wp_ixT0, wp_ixT1, wp_ixL0, wp_neg, wp_ok, wp_srcEL, wp_isB, wp_isNotB, wp_eqB, wp_neB, wp_all, wp_any, wp_slT, wp_slL, wp_rev, wp_revT, wp_revL, wp_disp, wp_pair, wp_pair0, wp_dict0, wipeW, List.foldl_cons, List.foldl_nil, wp_run, List.map, List.length, List.replicate, List.cons_append, List.nil_append, List.append_nil, List.set_cons_zero, List.set_cons_succ, if_true, if_false, Bool.not_true, Bool.not_false, Bool.true_eq_false, Bool.false_eq_true, Nat.reduceAdd, Nat.reduceSub, gName', src_row hw]
      exact commits_comp (by simp) hf ⟨rfl, rfl⟩
    rintro _ s' ⟨rfl, rfl⟩
    simp only [ws_seq, ws_if, ws_set, ws_sub, ws_ret, ws_retN, ws_expr, ws_sNx, ws_for, wp_op, wp_var0, wp_varS, wp_c, wp_mB, wp_toB, wp_tr, wp_trB_bl, wp_trB_non, wp_trB_int, wp_not, wp_and, wp_or, wp_if, wp_mBl, wp_nil, wp_cons, wp_tup, wp_lst, wp_lstS, wp_newL_t, wp_newL_f, wp_chain, wp_call, wp_fn, wp_sl, wp_noPart, wp_part, wp_comp, wp_yes, wp_iL, wp_iA, wp_srcL, wp_srcS, wp_srcAL, wp_srcAT, wp_iR1, wp_iR2, wp_rng1, wp_rng2, wp_iRv, wp_srcRL, wp_srcRT, wp_iEA, wp_srcEL, wp_srcET, wp_add, wp_sub, wp_mul, wp_mod, wp_div, wp_divW, wp_pow18, wp_pow17, wp_pow16, wp_pow30, wp_eqI, wp_neI, wp_cmpI, wp_isN, wp_isNotN, wp_lenL, wp_lenT, wp_abs, wp_int, wp_min2, wp_max2, wp_listL, wp_listT, wp_tupleL, wp_tupleT, wp_ixT0, wp_ixT1, wp_ixL0, wp_neg, wp_ok, wp_srcEL, wp_isB, wp_isNotB, wp_eqB, wp_neB, wp_all, wp_any, wp_slT, wp_slL, wp_rev, wp_revT, wp_revL, wp_disp, wp_pair, wp_pair0, wp_dict0, wipeW, List.foldl_cons, List.foldl_nil, wp_run, List.map, List.length, List.replicate, List.cons_append, List.nil_append, List.append_nil, List.set_cons_zero, List.set_cons_succ, if_true, if_false, Bool.not_true, Bool.not_false, Bool.true_eq_false, Bool.false_eq_true, Nat.reduceAdd, Nat.reduceSub, gName']
    refine wp_eq (below_nt hnt) ?_
    simp only [ws_seq, ws_if, ws_set, ws_sub, ws_ret, ws_retN, ws_expr, ws_sNx, ws_for, wp_op, wp_var0, wp_varS, wp_c, wp_mB, wp_toB, wp_tr, wp_trB_bl, wp_trB_non, wp_trB_int, wp_not, wp_and, wp_or, wp_if, wp_mBl, wp_nil, wp_cons, wp_tup, wp_lst, wp_lstS, wp_newL_t, wp_newL_f, wp_chain, wp_call, wp_fn, wp_sl, wp_noPart, wp_part, wp_comp, wp_yes, wp_iL, wp_iA, wp_srcL, wp_srcS, wp_srcAL, wp_srcAT, wp_iR1, wp_iR2, wp_rng1, wp_rng2, wp_iRv, wp_srcRL, wp_srcRT, wp_iEA, wp_srcEL, wp_srcET, wp_add, wp_sub, wp_mul, wp_mod, wp_div, wp_divW, wp_pow18, wp_pow17, wp_pow16, wp_pow30, wp_eqI, wp_neI, wp_cmpI, wp_isN, wp_isNotN, wp_lenL, wp_lenT, wp_abs, wp_int, wp_min2, wp_max2, wp_listL, wp_listT, wp_tupleL, wp_tupleT, wp_ixT0, wp_ixT1, wp_ixL0, wp_neg, wp_ok, wp_srcEL, wp_isB, wp_isNotB, wp_eqB, wp_neB, wp_all, wp_any, wp_slT, wp_slL, wp_rev, wp_revT, wp_revL, wp_disp, wp_pair, wp_pair0, wp_dict0, wipeW, List.foldl_cons, List.foldl_nil, wp_run, List.map, List.length, List.replicate, List.cons_append, List.nil_append, List.append_nil, List.set_cons_zero, List.set_cons_succ, if_true, if_false, Bool.not_true, Bool.not_false, Bool.true_eq_false, Bool.false_eq_true, Nat.reduceAdd, Nat.reduceSub, gName']
    simp
theorem seen_ok {vs : List Vn} {sn : Int} : wp (r_law_seen [.lst (vs.map vW), .int sn] st) (fun r s => r = oW (vat vs sn) ∧ s = st) E := by
  simp only [r_law_seen, m_law_seen]
  simp only [ws_seq, ws_if, ws_set, ws_sub, ws_ret, ws_retN, ws_expr, ws_sNx, ws_for, wp_op, wp_var0, wp_varS, wp_c, wp_mB, wp_toB, wp_tr, wp_trB_bl, wp_trB_non, wp_trB_int, wp_not, wp_and, wp_or, wp_if, wp_mBl, wp_nil, wp_cons, wp_tup, wp_lst, wp_lstS, wp_newL_t, wp_newL_f, wp_chain, wp_call, wp_fn, wp_sl, wp_noPart, wp_part, wp_comp, wp_yes, wp_iL, wp_iA, wp_srcL, wp_srcS, wp_srcAL, wp_srcAT, wp_iR1, wp_iR2, wp_rng1, wp_rng2, wp_iRv, wp_srcRL, wp_srcRT, wp_iEA, wp_srcEL, wp_srcET, wp_add, wp_sub, wp_mul, wp_mod, wp_div, wp_divW, wp_pow18, wp_pow17, wp_pow16, wp_pow30, wp_eqI, wp_neI, wp_cmpI, wp_isN, wp_isNotN, wp_lenL, wp_lenT, wp_abs, wp_int, wp_min2, wp_max2, wp_listL, wp_listT, wp_tupleL, wp_tupleT, wp_ixT0, wp_ixT1, wp_ixL0, wp_neg, wp_ok, wp_srcEL, wp_isB, wp_isNotB, wp_eqB, wp_neB, wp_all, wp_any, wp_slT, wp_slL, wp_rev, wp_revT, wp_revL, wp_disp, wp_pair, wp_pair0, wp_dict0, wipeW, List.foldl_cons, List.foldl_nil, wp_run, List.map, List.length, List.replicate, List.cons_append, List.nil_append, List.append_nil, List.set_cons_zero, List.set_cons_succ, if_true, if_false, Bool.not_true, Bool.not_false, Bool.true_eq_false, Bool.false_eq_true, Nat.reduceAdd, Nat.reduceSub, gName']
  refine forS_fix (fun i e s => s = st ∧ ∃ p, e = [some (.lst (vs.map vW)), some (.int sn), p] ∧ ∀ (j : Nat) (u : Vn), j < i → vs[j]? = some u → ¬ u.1 ≤ sn) ⟨rfl, none, rfl, fun j u h => by omega⟩ (fun i x e env s z => ?_) (fun env s z => ?_)
  · obtain ⟨rfl, p, rfl, z⟩ := z
    obtain ⟨v, ev, rfl⟩ := getv' e
    refine ⟨_, _, rfl, ?_⟩
    simp only [ws_seq, ws_if, ws_set, ws_sub, ws_ret, ws_retN, ws_expr, ws_sNx, ws_for, wp_op, wp_var0, wp_varS, wp_c, wp_mB, wp_toB, wp_tr, wp_trB_bl, wp_trB_non, wp_trB_int, wp_not, wp_and, wp_or, wp_if, wp_mBl, wp_nil, wp_cons, wp_tup, wp_lst, wp_lstS, wp_newL_t, wp_newL_f, wp_chain, wp_call, wp_fn, wp_sl, wp_noPart, wp_part, wp_comp, wp_yes, wp_iL, wp_iA, wp_srcL, wp_srcS, wp_srcAL, wp_srcAT, wp_iR1, wp_iR2, wp_rng1, wp_rng2, wp_iRv, wp_srcRL, wp_srcRT, wp_iEA, wp_srcEL, wp_srcET, wp_add, wp_sub, wp_mul, wp_mod, wp_div, wp_divW, wp_pow18, wp_pow17, wp_pow16, wp_pow30, wp_eqI, wp_neI, wp_cmpI, wp_isN, wp_isNotN, wp_lenL, wp_lenT, wp_abs, wp_int, wp_min2, wp_max2, wp_listL, wp_listT, wp_tupleL, wp_tupleT, wp_ixT0, wp_ixT1, wp_ixL0, wp_neg, wp_ok, wp_srcEL, wp_isB, wp_isNotB, wp_eqB, wp_neB, wp_all, wp_any, wp_slT, wp_slL, wp_rev, wp_revT, wp_revL, wp_disp, wp_pair, wp_pair0, wp_dict0, wipeW, List.foldl_cons, List.foldl_nil, wp_run, List.map, List.length, List.replicate, List.cons_append, List.nil_append, List.append_nil, List.set_cons_zero, List.set_cons_succ, if_true, if_false, Bool.not_true, Bool.not_false, Bool.true_eq_false, Bool.false_eq_true, Nat.reduceAdd, Nat.reduceSub, gName', wp_vc, decide_eq_true_eq]
    split
    · rename_i h
      exact ⟨by rw [vat_at ev h z]; rfl, trivial⟩
    · rename_i h
      refine ⟨trivial, _, rfl, fun j u hj eu => ?_⟩
      by_cases q : j = i
      · subst q
        rw [ev] at eu
        cases eu
        exact h
      · exact z j u (by omega) eu
  · obtain ⟨rfl, p, rfl, z⟩ := z
    simp only [ws_seq, ws_if, ws_set, ws_sub, ws_ret, ws_retN, ws_expr, ws_sNx, ws_for, wp_op, wp_var0, wp_varS, wp_c, wp_mB, wp_toB, wp_tr, wp_trB_bl, wp_trB_non, wp_trB_int, wp_not, wp_and, wp_or, wp_if, wp_mBl, wp_nil, wp_cons, wp_tup, wp_lst, wp_lstS, wp_newL_t, wp_newL_f, wp_chain, wp_call, wp_fn, wp_sl, wp_noPart, wp_part, wp_comp, wp_yes, wp_iL, wp_iA, wp_srcL, wp_srcS, wp_srcAL, wp_srcAT, wp_iR1, wp_iR2, wp_rng1, wp_rng2, wp_iRv, wp_srcRL, wp_srcRT, wp_iEA, wp_srcEL, wp_srcET, wp_add, wp_sub, wp_mul, wp_mod, wp_div, wp_divW, wp_pow18, wp_pow17, wp_pow16, wp_pow30, wp_eqI, wp_neI, wp_cmpI, wp_isN, wp_isNotN, wp_lenL, wp_lenT, wp_abs, wp_int, wp_min2, wp_max2, wp_listL, wp_listT, wp_tupleL, wp_tupleT, wp_ixT0, wp_ixT1, wp_ixL0, wp_neg, wp_ok, wp_srcEL, wp_isB, wp_isNotB, wp_eqB, wp_neB, wp_all, wp_any, wp_slT, wp_slL, wp_rev, wp_revT, wp_revL, wp_disp, wp_pair, wp_pair0, wp_dict0, wipeW, List.foldl_cons, List.foldl_nil, wp_run, List.map, List.length, List.replicate, List.cons_append, List.nil_append, List.append_nil, List.set_cons_zero, List.set_cons_succ, if_true, if_false, Bool.not_true, Bool.not_false, Bool.true_eq_false, Bool.false_eq_true, Nat.reduceAdd, Nat.reduceSub, gName']
    refine ⟨?_, trivial⟩
    rw [vat_none fun j u eu => z j u (by have := (List.getElem?_eq_some_iff.mp eu).1; simpa using this) eu]
    rfl
theorem en_ok {th : W} {vs : List Vn} {asked : List Int} (g : Good vs) (ha : asked.length ≤ 60) :
    (∀ xs, th = .tup xs → xs.length ≤ 500 → (∀ x ∈ xs, It x) → wp (r_law_is_enough [.lst (vs.map vW), .lst (asked.map W.int), th] st) (fun r s => r = .bl (enough vs asked xs) ∧ s = st) NoE) ∧
    (NT th st → wp (r_law_is_enough [.lst (vs.map vW), .lst (asked.map W.int), th] st) (fun r s => r = .bl false ∧ s = st) NoE) := by
  have hf := g.few
  constructor
  · rintro xs rfl hx hit
    simp only [r_law_is_enough, m_law_is_enough]
    unfold enough
    simp only [ws_seq, ws_if, ws_set, ws_sub, ws_ret, ws_retN, ws_expr, ws_sNx, ws_for, wp_op, wp_var0, wp_varS, wp_c, wp_mB, wp_toB, wp_tr, wp_trB_bl, wp_trB_non, wp_trB_int, wp_not, wp_and, wp_or, wp_if, wp_mBl, wp_nil, wp_cons, wp_tup, wp_lst, wp_lstS, wp_newL_t, wp_newL_f, wp_chain, wp_call, wp_fn, wp_sl, wp_noPart, wp_part, wp_comp, wp_yes, wp_iL, wp_iA, wp_srcL, wp_srcS, wp_srcAL, wp_srcAT, wp_iR1, wp_iR2, wp_rng1, wp_rng2, wp_iRv, wp_srcRL, wp_srcRT, wp_iEA, wp_srcEL, wp_srcET, wp_add, wp_sub, wp_mul, wp_mod, wp_div, wp_divW, wp_pow18, wp_pow17, wp_pow16, wp_pow30, wp_eqI, wp_neI, wp_cmpI, wp_isN, wp_isNotN, wp_lenL, wp_lenT, wp_abs, wp_int, wp_min2, wp_max2, wp_listL, wp_listT, wp_tupleL, wp_tupleT, wp_ixT0, wp_ixT1, wp_ixL0, wp_neg, wp_ok, wp_srcEL, wp_isB, wp_isNotB, wp_eqB, wp_neB, wp_all, wp_any, wp_slT, wp_slL, wp_rev, wp_revT, wp_revL, wp_disp, wp_pair, wp_pair0, wp_dict0, wipeW, List.foldl_cons, List.foldl_nil, wp_run, List.map, List.length, List.replicate, List.cons_append, List.nil_append, List.append_nil, List.set_cons_zero, List.set_cons_succ, if_true, if_false, Bool.not_true, Bool.not_false, Bool.true_eq_false, Bool.false_eq_true, Nat.reduceAdd, Nat.reduceSub, gName']
    refine commits_comp (by simp) hf ?_
    refine wp_eq (lot_is hit) ?_
    simp only [ws_seq, ws_if, ws_set, ws_sub, ws_ret, ws_retN, ws_expr, ws_sNx, ws_for, wp_op, wp_var0, wp_varS, wp_c, wp_mB, wp_toB, wp_tr, wp_trB_bl, wp_trB_non, wp_trB_int, wp_not, wp_and, wp_or, wp_if, wp_mBl, wp_nil, wp_cons, wp_tup, wp_lst, wp_lstS, wp_newL_t, wp_newL_f, wp_chain, wp_call, wp_fn, wp_sl, wp_noPart, wp_part, wp_comp, wp_yes, wp_iL, wp_iA, wp_srcL, wp_srcS, wp_srcAL, wp_srcAT, wp_iR1, wp_iR2, wp_rng1, wp_rng2, wp_iRv, wp_srcRL, wp_srcRT, wp_iEA, wp_srcEL, wp_srcET, wp_add, wp_sub, wp_mul, wp_mod, wp_div, wp_divW, wp_pow18, wp_pow17, wp_pow16, wp_pow30, wp_eqI, wp_neI, wp_cmpI, wp_isN, wp_isNotN, wp_lenL, wp_lenT, wp_abs, wp_int, wp_min2, wp_max2, wp_listL, wp_listT, wp_tupleL, wp_tupleT, wp_ixT0, wp_ixT1, wp_ixL0, wp_neg, wp_ok, wp_srcEL, wp_isB, wp_isNotB, wp_eqB, wp_neB, wp_all, wp_any, wp_slT, wp_slL, wp_rev, wp_revT, wp_revL, wp_disp, wp_pair, wp_pair0, wp_dict0, wipeW, List.foldl_cons, List.foldl_nil, wp_run, List.map, List.length, List.replicate, List.cons_append, List.nil_append, List.append_nil, List.set_cons_zero, List.set_cons_succ, if_true, if_false, Bool.not_true, Bool.not_false, Bool.true_eq_false, Bool.false_eq_true, Nat.reduceAdd, Nat.reduceSub, gName']
    cases hL : lotL (cms vs) 0 xs with
    | false => simp
    | true =>
      have exs := (lotL_intz hL).1
      generalize hts : intz xs = ts at exs
      subst exs
      simp only [Bool.not_true, Bool.false_eq_true, if_false, Bool.true_and]
      refine keep_comp (ts := ts) (by simp) rfl (by decide) hf ?_
      refine forS_fix (fun i e s => s = st ∧ (∃ a b c d, e = [some (.lst (vs.map vW)), some (.lst (asked.map W.int)), some (.tup (ts.map W.int)), some (.lst ((keep vs ts).map vW)), a, b, c, d]) ∧ ((asked.take i).all fun s => told vs (keep vs ts) s) = true) ⟨rfl, ⟨_, _, _, _, rfl⟩, by simp⟩ (fun i x e env s z => ?_) (fun env s z => ?_)
      · obtain ⟨rfl, ⟨a, b, c, d, rfl⟩, z⟩ := z
        obtain ⟨sn, en, rfl⟩ := geti e
        refine ⟨_, _, rfl, ?_⟩
        simp only [ws_seq, ws_if, ws_set, ws_sub, ws_ret, ws_retN, ws_expr, ws_sNx, ws_for, wp_op, wp_var0, wp_varS, wp_c, wp_mB, wp_toB, wp_tr, wp_trB_bl, wp_trB_non, wp_trB_int, wp_not, wp_and, wp_or, wp_if, wp_mBl, wp_nil, wp_cons, wp_tup, wp_lst, wp_lstS, wp_newL_t, wp_newL_f, wp_chain, wp_call, wp_fn, wp_sl, wp_noPart, wp_part, wp_comp, wp_yes, wp_iL, wp_iA, wp_srcL, wp_srcS, wp_srcAL, wp_srcAT, wp_iR1, wp_iR2, wp_rng1, wp_rng2, wp_iRv, wp_srcRL, wp_srcRT, wp_iEA, wp_srcEL, wp_srcET, wp_add, wp_sub, wp_mul, wp_mod, wp_div, wp_divW, wp_pow18, wp_pow17, wp_pow16, wp_pow30, wp_eqI, wp_neI, wp_cmpI, wp_isN, wp_isNotN, wp_lenL, wp_lenT, wp_abs, wp_int, wp_min2, wp_max2, wp_listL, wp_listT, wp_tupleL, wp_tupleT, wp_ixT0, wp_ixT1, wp_ixL0, wp_neg, wp_ok, wp_srcEL, wp_isB, wp_isNotB, wp_eqB, wp_neB, wp_all, wp_any, wp_slT, wp_slL, wp_rev, wp_revT, wp_revL, wp_disp, wp_pair, wp_pair0, wp_dict0, wipeW, List.foldl_cons, List.foldl_nil, wp_run, List.map, List.length, List.replicate, List.cons_append, List.nil_append, List.append_nil, List.set_cons_zero, List.set_cons_succ, if_true, if_false, Bool.not_true, Bool.not_false, Bool.true_eq_false, Bool.false_eq_true, Nat.reduceAdd, Nat.reduceSub, gName']
        refine wp_eq seen_ok ?_
        refine wp_eq seen_ok ?_
        simp only [ws_seq, ws_if, ws_set, ws_sub, ws_ret, ws_retN, ws_expr, ws_sNx, ws_for, wp_op, wp_var0, wp_varS, wp_c, wp_mB, wp_toB, wp_tr, wp_trB_bl, wp_trB_non, wp_trB_int, wp_not, wp_and, wp_or, wp_if, wp_mBl, wp_nil, wp_cons, wp_tup, wp_lst, wp_lstS, wp_newL_t, wp_newL_f, wp_chain, wp_call, wp_fn, wp_sl, wp_noPart, wp_part, wp_comp, wp_yes, wp_iL, wp_iA, wp_srcL, wp_srcS, wp_srcAL, wp_srcAT, wp_iR1, wp_iR2, wp_rng1, wp_rng2, wp_iRv, wp_srcRL, wp_srcRT, wp_iEA, wp_srcEL, wp_srcET, wp_add, wp_sub, wp_mul, wp_mod, wp_div, wp_divW, wp_pow18, wp_pow17, wp_pow16, wp_pow30, wp_eqI, wp_neI, wp_cmpI, wp_isN, wp_isNotN, wp_lenL, wp_lenT, wp_abs, wp_int, wp_min2, wp_max2, wp_listL, wp_listT, wp_tupleL, wp_tupleT, wp_ixT0, wp_ixT1, wp_ixL0, wp_neg, wp_ok, wp_srcEL, wp_isB, wp_isNotB, wp_eqB, wp_neB, wp_all, wp_any, wp_slT, wp_slL, wp_rev, wp_revT, wp_revL, wp_disp, wp_pair, wp_pair0, wp_dict0, wipeW, List.foldl_cons, List.foldl_nil, wp_run, List.map, List.length, List.replicate, List.cons_append, List.nil_append, List.append_nil, List.set_cons_zero, List.set_cons_succ, if_true, if_false, Bool.not_true, Bool.not_false, Bool.true_eq_false, Bool.false_eq_true, Nat.reduceAdd, Nat.reduceSub, gName', non_o]
        have te := told_eq g.desc ts sn
        have bad : told vs (keep vs ts) sn = false → (W.bl false = .bl (asked.all fun s => told vs (keep vs ts) s) ∧ s = s) := fun h => by
          refine ⟨?_, rfl⟩
          have : (asked.all fun s => told vs (keep vs ts) s) = false := by
            rw [List.all_eq_false]
            exact ⟨sn, List.mem_of_getElem? en, by simp [h]⟩
          rw [this]
        have good : told vs (keep vs ts) sn = true → ((asked.take (i + 1)).all fun s => told vs (keep vs ts) s) = true := fun h => by
          rw [take_get en, List.all_append, z]
          simp [h]
        cases ep : vat (keep vs ts) sn with
        | none =>
          rw [ep] at te
          simp only [decide_true, if_true]
          unfold rdN at te
          cases ev : vat vs sn with
          | none =>
            rw [ev] at te
            simp only [decide_true, Bool.not_true, Bool.false_eq_true, if_false]
            exact ⟨trivial, ⟨_, _, _, _, rfl⟩, good te⟩
          | some v =>
            rw [ev] at te
            simp only at te
            simp only [reduceCtorEq, decide_false, Bool.not_false, if_true]
            show wp (wIx (vW v) _ _) _ _
            simp only [ws_seq, ws_if, ws_set, ws_sub, ws_ret, ws_retN, ws_expr, ws_sNx, ws_for, wp_op, wp_var0, wp_varS, wp_c, wp_mB, wp_toB, wp_tr, wp_trB_bl, wp_trB_non, wp_trB_int, wp_not, wp_and, wp_or, wp_if, wp_mBl, wp_nil, wp_cons, wp_tup, wp_lst, wp_lstS, wp_newL_t, wp_newL_f, wp_chain, wp_call, wp_fn, wp_sl, wp_noPart, wp_part, wp_comp, wp_yes, wp_iL, wp_iA, wp_srcL, wp_srcS, wp_srcAL, wp_srcAT, wp_iR1, wp_iR2, wp_rng1, wp_rng2, wp_iRv, wp_srcRL, wp_srcRT, wp_iEA, wp_srcEL, wp_srcET, wp_add, wp_sub, wp_mul, wp_mod, wp_div, wp_divW, wp_pow18, wp_pow17, wp_pow16, wp_pow30, wp_eqI, wp_neI, wp_cmpI, wp_isN, wp_isNotN, wp_lenL, wp_lenT, wp_abs, wp_int, wp_min2, wp_max2, wp_listL, wp_listT, wp_tupleL, wp_tupleT, wp_ixT0, wp_ixT1, wp_ixL0, wp_neg, wp_ok, wp_srcEL, wp_isB, wp_isNotB, wp_eqB, wp_neB, wp_all, wp_any, wp_slT, wp_slL, wp_rev, wp_revT, wp_revL, wp_disp, wp_pair, wp_pair0, wp_dict0, wipeW, List.foldl_cons, List.foldl_nil, wp_run, List.map, List.length, List.replicate, List.cons_append, List.nil_append, List.append_nil, List.set_cons_zero, List.set_cons_succ, if_true, if_false, Bool.not_true, Bool.not_false, Bool.true_eq_false, Bool.false_eq_true, Nat.reduceAdd, Nat.reduceSub, gName', wp_vm, non_m]
            by_cases h : v.2 = none
            · simp only [h, decide_true, Bool.not_true, Bool.false_eq_true, if_false]
              exact ⟨trivial, ⟨_, _, _, _, rfl⟩, good (by rw [te, h]; rfl)⟩
            · simp only [h, decide_false, Bool.not_false, if_true]
              exact ⟨(bad (by rw [te]; simp [h])).1, trivial⟩
        | some p =>
          rw [ep] at te
          simp only [reduceCtorEq, decide_false, Bool.false_eq_true, if_false]
          cases ev : vat vs sn with
          | none =>
            have hp := vat_some ep
            exact absurd hp.2 (vat_none_iff.mp ev p (List.mem_filter.mp hp.1).1)
          | some v =>
            rw [ev] at te
            simp only at te
            show wp (wIx (vW v) _ _) _ _
            rw [wp_vc]
            show wp (wIx (vW p) _ _) _ _
            simp only [ws_seq, ws_if, ws_set, ws_sub, ws_ret, ws_retN, ws_expr, ws_sNx, ws_for, wp_op, wp_var0, wp_varS, wp_c, wp_mB, wp_toB, wp_tr, wp_trB_bl, wp_trB_non, wp_trB_int, wp_not, wp_and, wp_or, wp_if, wp_mBl, wp_nil, wp_cons, wp_tup, wp_lst, wp_lstS, wp_newL_t, wp_newL_f, wp_chain, wp_call, wp_fn, wp_sl, wp_noPart, wp_part, wp_comp, wp_yes, wp_iL, wp_iA, wp_srcL, wp_srcS, wp_srcAL, wp_srcAT, wp_iR1, wp_iR2, wp_rng1, wp_rng2, wp_iRv, wp_srcRL, wp_srcRT, wp_iEA, wp_srcEL, wp_srcET, wp_add, wp_sub, wp_mul, wp_mod, wp_div, wp_divW, wp_pow18, wp_pow17, wp_pow16, wp_pow30, wp_eqI, wp_neI, wp_cmpI, wp_isN, wp_isNotN, wp_lenL, wp_lenT, wp_abs, wp_int, wp_min2, wp_max2, wp_listL, wp_listT, wp_tupleL, wp_tupleT, wp_ixT0, wp_ixT1, wp_ixL0, wp_neg, wp_ok, wp_srcEL, wp_isB, wp_isNotB, wp_eqB, wp_neB, wp_all, wp_any, wp_slT, wp_slL, wp_rev, wp_revT, wp_revL, wp_disp, wp_pair, wp_pair0, wp_dict0, wipeW, List.foldl_cons, List.foldl_nil, wp_run, List.map, List.length, List.replicate, List.cons_append, List.nil_append, List.append_nil, List.set_cons_zero, List.set_cons_succ, if_true, if_false, Bool.not_true, Bool.not_false, Bool.true_eq_false, Bool.false_eq_true, Nat.reduceAdd, Nat.reduceSub, gName', wp_vc]
            by_cases h : v.1 = p.1
            · simp only [h, decide_true, Bool.not_true, Bool.false_eq_true, if_false]
              exact ⟨trivial, ⟨_, _, _, _, rfl⟩, good (by rw [te]; simp [h])⟩
            · simp only [h, decide_false, Bool.not_false, if_true]
              exact ⟨(bad (by rw [te]; simp [h])).1, trivial⟩
      · obtain ⟨rfl, ⟨a, b, c, d, rfl⟩, z⟩ := z
        rw [List.length_map, List.take_of_length_le (Nat.le_refl _)] at z
        simp only [ws_seq, ws_if, ws_set, ws_sub, ws_ret, ws_retN, ws_expr, ws_sNx, ws_for, wp_op, wp_var0, wp_varS, wp_c, wp_mB, wp_toB, wp_tr, wp_trB_bl, wp_trB_non, wp_trB_int, wp_not, wp_and, wp_or, wp_if, wp_mBl, wp_nil, wp_cons, wp_tup, wp_lst, wp_lstS, wp_newL_t, wp_newL_f, wp_chain, wp_call, wp_fn, wp_sl, wp_noPart, wp_part, wp_comp, wp_yes, wp_iL, wp_iA, wp_srcL, wp_srcS, wp_srcAL, wp_srcAT, wp_iR1, wp_iR2, wp_rng1, wp_rng2, wp_iRv, wp_srcRL, wp_srcRT, wp_iEA, wp_srcEL, wp_srcET, wp_add, wp_sub, wp_mul, wp_mod, wp_div, wp_divW, wp_pow18, wp_pow17, wp_pow16, wp_pow30, wp_eqI, wp_neI, wp_cmpI, wp_isN, wp_isNotN, wp_lenL, wp_lenT, wp_abs, wp_int, wp_min2, wp_max2, wp_listL, wp_listT, wp_tupleL, wp_tupleT, wp_ixT0, wp_ixT1, wp_ixL0, wp_neg, wp_ok, wp_srcEL, wp_isB, wp_isNotB, wp_eqB, wp_neB, wp_all, wp_any, wp_slT, wp_slL, wp_rev, wp_revT, wp_revL, wp_disp, wp_pair, wp_pair0, wp_dict0, wipeW, List.foldl_cons, List.foldl_nil, wp_run, List.map, List.length, List.replicate, List.cons_append, List.nil_append, List.append_nil, List.set_cons_zero, List.set_cons_succ, if_true, if_false, Bool.not_true, Bool.not_false, Bool.true_eq_false, Bool.false_eq_true, Nat.reduceAdd, Nat.reduceSub, gName']
        rw [z]
        simp
  · intro hnt
    simp only [r_law_is_enough, m_law_is_enough]
    simp only [ws_seq, ws_if, ws_set, ws_sub, ws_ret, ws_retN, ws_expr, ws_sNx, ws_for, wp_op, wp_var0, wp_varS, wp_c, wp_mB, wp_toB, wp_tr, wp_trB_bl, wp_trB_non, wp_trB_int, wp_not, wp_and, wp_or, wp_if, wp_mBl, wp_nil, wp_cons, wp_tup, wp_lst, wp_lstS, wp_newL_t, wp_newL_f, wp_chain, wp_call, wp_fn, wp_sl, wp_noPart, wp_part, wp_comp, wp_yes, wp_iL, wp_iA, wp_srcL, wp_srcS, wp_srcAL, wp_srcAT, wp_iR1, wp_iR2, wp_rng1, wp_rng2, wp_iRv, wp_srcRL, wp_srcRT, wp_iEA, wp_srcEL, wp_srcET, wp_add, wp_sub, wp_mul, wp_mod, wp_div, wp_divW, wp_pow18, wp_pow17, wp_pow16, wp_pow30, wp_eqI, wp_neI, wp_cmpI, wp_isN, wp_isNotN, wp_lenL, wp_lenT, wp_abs, wp_int, wp_min2, wp_max2, wp_listL, wp_listT, wp_tupleL, wp_tupleT, wp_ixT0, wp_ixT1, wp_ixL0, wp_neg, wp_ok, wp_srcEL, wp_isB, wp_isNotB, wp_eqB, wp_neB, wp_all, wp_any, wp_slT, wp_slL, wp_rev, wp_revT, wp_revL, wp_disp, wp_pair, wp_pair0, wp_dict0, wipeW, List.foldl_cons, List.foldl_nil, wp_run, List.map, List.length, List.replicate, List.cons_append, List.nil_append, List.append_nil, List.set_cons_zero, List.set_cons_succ, if_true, if_false, Bool.not_true, Bool.not_false, Bool.true_eq_false, Bool.false_eq_true, Nat.reduceAdd, Nat.reduceSub, gName']
    refine commits_comp (by simp) hf ?_
    refine wp_eq (lot_nt hnt) ?_
    simp only [ws_seq, ws_if, ws_set, ws_sub, ws_ret, ws_retN, ws_expr, ws_sNx, ws_for, wp_op, wp_var0, wp_varS, wp_c, wp_mB, wp_toB, wp_tr, wp_trB_bl, wp_trB_non, wp_trB_int, wp_not, wp_and, wp_or, wp_if, wp_mBl, wp_nil, wp_cons, wp_tup, wp_lst, wp_lstS, wp_newL_t, wp_newL_f, wp_chain, wp_call, wp_fn, wp_sl, wp_noPart, wp_part, wp_comp, wp_yes, wp_iL, wp_iA, wp_srcL, wp_srcS, wp_srcAL, wp_srcAT, wp_iR1, wp_iR2, wp_rng1, wp_rng2, wp_iRv, wp_srcRL, wp_srcRT, wp_iEA, wp_srcEL, wp_srcET, wp_add, wp_sub, wp_mul, wp_mod, wp_div, wp_divW, wp_pow18, wp_pow17, wp_pow16, wp_pow30, wp_eqI, wp_neI, wp_cmpI, wp_isN, wp_isNotN, wp_lenL, wp_lenT, wp_abs, wp_int, wp_min2, wp_max2, wp_listL, wp_listT, wp_tupleL, wp_tupleT, wp_ixT0, wp_ixT1, wp_ixL0, wp_neg, wp_ok, wp_srcEL, wp_isB, wp_isNotB, wp_eqB, wp_neB, wp_all, wp_any, wp_slT, wp_slL, wp_rev, wp_revT, wp_revL, wp_disp, wp_pair, wp_pair0, wp_dict0, wipeW, List.foldl_cons, List.foldl_nil, wp_run, List.map, List.length, List.replicate, List.cons_append, List.nil_append, List.append_nil, List.set_cons_zero, List.set_cons_succ, if_true, if_false, Bool.not_true, Bool.not_false, Bool.true_eq_false, Bool.false_eq_true, Nat.reduceAdd, Nat.reduceSub, gName']
    simp
end
end Lw
namespace Lw
open PySem L2 Mi
theorem law_run (ns : List Int) (hl : ns.length ≤ 63) : wp (r_law [.scr (ns.map W.int)] []) (fun w s => w = .bl true) NoE := by
  simp only [r_law, m_law, wp_run, List.map, List.length, List.replicate, List.cons_append, List.nil_append, Nat.reduceAdd, Nat.reduceSub]
  rw [ws_seq]
  refine ws_nx (N := fun e s => e = [some (.scr (ns.map W.int)), some (.ref 0), none, none, none, none, none, none, none, none, none, none, none] ∧ Bg 0 s) ?_ ?_
  · simp only [ws_seq, ws_if, ws_set, ws_sub, ws_ret, ws_retN, ws_expr, ws_sNx, ws_for, wp_op, wp_var0, wp_varS, wp_c, wp_mB, wp_toB, wp_tr, wp_trB_bl, wp_trB_non, wp_trB_int, wp_not, wp_and, wp_or, wp_if, wp_mBl, wp_nil, wp_cons, wp_tup, wp_lst, wp_lstS, wp_newL_t, wp_newL_f, wp_chain, wp_call, wp_fn, wp_sl, wp_noPart, wp_part, wp_comp, wp_yes, wp_iL, wp_iA, wp_srcL, wp_srcS, wp_srcAL, wp_srcAT, wp_iR1, wp_iR2, wp_rng1, wp_rng2, wp_iRv, wp_srcRL, wp_srcRT, wp_iEA, wp_srcEL, wp_srcET, wp_add, wp_sub, wp_mul, wp_mod, wp_div, wp_divW, wp_pow18, wp_pow17, wp_pow16, wp_pow30, wp_eqI, wp_neI, wp_cmpI, wp_isN, wp_isNotN, wp_lenL, wp_lenT, wp_abs, wp_int, wp_min2, wp_max2, wp_listL, wp_listT, wp_tupleL, wp_tupleT, wp_ixT0, wp_ixT1, wp_ixL0, wp_neg, wp_ok, wp_srcEL, wp_isB, wp_isNotB, wp_eqB, wp_neB, wp_all, wp_any, wp_slT, wp_slL, wp_rev, wp_revT, wp_revL, wp_disp, wp_pair, wp_pair0, wp_dict0, wipeW, List.foldl_cons, List.foldl_nil, wp_run, List.map, List.length, List.replicate, List.cons_append, List.nil_append, List.append_nil, List.set_cons_zero, List.set_cons_succ, if_true, if_false, Bool.not_true, Bool.not_false, Bool.true_eq_false, Bool.false_eq_true, Nat.reduceAdd, Nat.reduceSub, gName']
    refine wp_no (bag_ok ns hl) ?_
    rintro _ s ⟨rfl, g⟩
    exact ⟨rfl, g⟩
  generalize W.scr (ns.map W.int) = scr
  rintro _ s ⟨rfl, g⟩
  rw [ws_seq]
  refine ws_nx (N := fun e s => ∃ vs : List Vn, e = [some scr, some (.ref 0), some (.lst (vs.map vW)), none, none, none, none, none, none, none, none, none, none] ∧ Good vs ∧ vs.length ≤ 12 ∧ (∀ v ∈ vs, v.1 ≤ 400000000000000000) ∧ Bg 0 s) ?_ ?_
  · simp only [ws_seq, ws_if, ws_set, ws_sub, ws_ret, ws_retN, ws_expr, ws_sNx, ws_for, wp_op, wp_var0, wp_varS, wp_c, wp_mB, wp_toB, wp_tr, wp_trB_bl, wp_trB_non, wp_trB_int, wp_not, wp_and, wp_or, wp_if, wp_mBl, wp_nil, wp_cons, wp_tup, wp_lst, wp_lstS, wp_newL_t, wp_newL_f, wp_chain, wp_call, wp_fn, wp_sl, wp_noPart, wp_part, wp_comp, wp_yes, wp_iL, wp_iA, wp_srcL, wp_srcS, wp_srcAL, wp_srcAT, wp_iR1, wp_iR2, wp_rng1, wp_rng2, wp_iRv, wp_srcRL, wp_srcRT, wp_iEA, wp_srcEL, wp_srcET, wp_add, wp_sub, wp_mul, wp_mod, wp_div, wp_divW, wp_pow18, wp_pow17, wp_pow16, wp_pow30, wp_eqI, wp_neI, wp_cmpI, wp_isN, wp_isNotN, wp_lenL, wp_lenT, wp_abs, wp_int, wp_min2, wp_max2, wp_listL, wp_listT, wp_tupleL, wp_tupleT, wp_ixT0, wp_ixT1, wp_ixL0, wp_neg, wp_ok, wp_srcEL, wp_isB, wp_isNotB, wp_eqB, wp_neB, wp_all, wp_any, wp_slT, wp_slL, wp_rev, wp_revT, wp_revL, wp_disp, wp_pair, wp_pair0, wp_dict0, wipeW, List.foldl_cons, List.foldl_nil, wp_run, List.map, List.length, List.replicate, List.cons_append, List.nil_append, List.append_nil, List.set_cons_zero, List.set_cons_succ, if_true, if_false, Bool.not_true, Bool.not_false, Bool.true_eq_false, Bool.false_eq_true, Nat.reduceAdd, Nat.reduceSub, gName']
    refine wp_no (versions_ok g) ?_
    rintro _ s ⟨vs, rfl, gv, hl, hc, u, g⟩
    exact ⟨vs, rfl, gv, hl, hc, g⟩
  rintro _ s ⟨vs, rfl, gv, hl12, hc, g⟩
  rw [ws_seq, ws_set, wp_c, ws_seq]
  refine ws_nx (N := fun e s => ∃ last : Int, e = [some scr, some (.ref 0), some (.lst (vs.map vW)), some (.int last), none, none, none, none, none, none, none, none, none] ∧ 0 ≤ last ∧ last ≤ 400000000000000000 ∧ (∀ v ∈ vs, v.1 ≤ last) ∧ Bg 0 s) ?_ ?_
  · simp only [ws_seq, ws_if, ws_set, ws_sub, ws_ret, ws_retN, ws_expr, ws_sNx, ws_for, wp_op, wp_var0, wp_varS, wp_c, wp_mB, wp_toB, wp_tr, wp_trB_bl, wp_trB_non, wp_trB_int, wp_not, wp_and, wp_or, wp_if, wp_mBl, wp_nil, wp_cons, wp_tup, wp_lst, wp_lstS, wp_newL_t, wp_newL_f, wp_chain, wp_call, wp_fn, wp_sl, wp_noPart, wp_part, wp_comp, wp_yes, wp_iL, wp_iA, wp_srcL, wp_srcS, wp_srcAL, wp_srcAT, wp_iR1, wp_iR2, wp_rng1, wp_rng2, wp_iRv, wp_srcRL, wp_srcRT, wp_iEA, wp_srcEL, wp_srcET, wp_add, wp_sub, wp_mul, wp_mod, wp_div, wp_divW, wp_pow18, wp_pow17, wp_pow16, wp_pow30, wp_eqI, wp_neI, wp_cmpI, wp_isN, wp_isNotN, wp_lenL, wp_lenT, wp_abs, wp_int, wp_min2, wp_max2, wp_listL, wp_listT, wp_tupleL, wp_tupleT, wp_ixT0, wp_ixT1, wp_ixL0, wp_neg, wp_ok, wp_srcEL, wp_isB, wp_isNotB, wp_eqB, wp_neB, wp_all, wp_any, wp_slT, wp_slL, wp_rev, wp_revT, wp_revL, wp_disp, wp_pair, wp_pair0, wp_dict0, wipeW, List.foldl_cons, List.foldl_nil, wp_run, List.map, List.length, List.replicate, List.cons_append, List.nil_append, List.append_nil, List.set_cons_zero, List.set_cons_succ, if_true, if_false, Bool.not_true, Bool.not_false, Bool.true_eq_false, Bool.false_eq_true, Nat.reduceAdd, Nat.reduceSub, gName', List.length_map]
    cases vs with
    | nil => simp; exact g
    | cons v vs =>
      have h0 : (0 : Int) < ((v :: vs).length : Int) := by simp
      have hv := gv.ok v (by simp)
      simp only [h0, decide_true, if_true, List.map_cons]
      simp only [ws_seq, ws_if, ws_set, ws_sub, ws_ret, ws_retN, ws_expr, ws_sNx, ws_for, wp_op, wp_var0, wp_varS, wp_c, wp_mB, wp_toB, wp_tr, wp_trB_bl, wp_trB_non, wp_trB_int, wp_not, wp_and, wp_or, wp_if, wp_mBl, wp_nil, wp_cons, wp_tup, wp_lst, wp_lstS, wp_newL_t, wp_newL_f, wp_chain, wp_call, wp_fn, wp_sl, wp_noPart, wp_part, wp_comp, wp_yes, wp_iL, wp_iA, wp_srcL, wp_srcS, wp_srcAL, wp_srcAT, wp_iR1, wp_iR2, wp_rng1, wp_rng2, wp_iRv, wp_srcRL, wp_srcRT, wp_iEA, wp_srcEL, wp_srcET, wp_add, wp_sub, wp_mul, wp_mod, wp_div, wp_divW, wp_pow18, wp_pow17, wp_pow16, wp_pow30, wp_eqI, wp_neI, wp_cmpI, wp_isN, wp_isNotN, wp_lenL, wp_lenT, wp_abs, wp_int, wp_min2, wp_max2, wp_listL, wp_listT, wp_tupleL, wp_tupleT, wp_ixT0, wp_ixT1, wp_ixL0, wp_neg, wp_ok, wp_srcEL, wp_isB, wp_isNotB, wp_eqB, wp_neB, wp_all, wp_any, wp_slT, wp_slL, wp_rev, wp_revT, wp_revL, wp_disp, wp_pair, wp_pair0, wp_dict0, wipeW, List.foldl_cons, List.foldl_nil, wp_run, List.map, List.length, List.replicate, List.cons_append, List.nil_append, List.append_nil, List.set_cons_zero, List.set_cons_succ, if_true, if_false, Bool.not_true, Bool.not_false, Bool.true_eq_false, Bool.false_eq_true, Nat.reduceAdd, Nat.reduceSub, gName', wp_vc]
      refine ⟨v.1, by trivial, by omega, hc v (by simp), fun u hu => ?_, g⟩
      rcases List.mem_cons.mp hu with rfl | hu
      · exact Int.le_refl _
      · have := (List.pairwise_cons.mp gv.desc).1 u hu; omega
  rintro _ s ⟨l0, rfl, la, lb, hn, g⟩
  rw [ws_seq]
  refine ws_nx (N := fun e s => ∃ last : Int, e = [some scr, some (.ref 0), some (.lst (vs.map vW)), some (.int last), none, none, none, none, none, none, none, none, none] ∧ 0 ≤ last ∧ last ≤ 500000000000000000 ∧ (∀ v ∈ vs, v.1 ≤ last) ∧ Bg 0 s) ?_ ?_
  · simp only [ws_seq, ws_if, ws_set, ws_sub, ws_ret, ws_retN, ws_expr, ws_sNx, ws_for, wp_op, wp_var0, wp_varS, wp_c, wp_mB, wp_toB, wp_tr, wp_trB_bl, wp_trB_non, wp_trB_int, wp_not, wp_and, wp_or, wp_if, wp_mBl, wp_nil, wp_cons, wp_tup, wp_lst, wp_lstS, wp_newL_t, wp_newL_f, wp_chain, wp_call, wp_fn, wp_sl, wp_noPart, wp_part, wp_comp, wp_yes, wp_iL, wp_iA, wp_srcL, wp_srcS, wp_srcAL, wp_srcAT, wp_iR1, wp_iR2, wp_rng1, wp_rng2, wp_iRv, wp_srcRL, wp_srcRT, wp_iEA, wp_srcEL, wp_srcET, wp_add, wp_sub, wp_mul, wp_mod, wp_div, wp_divW, wp_pow18, wp_pow17, wp_pow16, wp_pow30, wp_eqI, wp_neI, wp_cmpI, wp_isN, wp_isNotN, wp_lenL, wp_lenT, wp_abs, wp_int, wp_min2, wp_max2, wp_listL, wp_listT, wp_tupleL, wp_tupleT, wp_ixT0, wp_ixT1, wp_ixL0, wp_neg, wp_ok, wp_srcEL, wp_isB, wp_isNotB, wp_eqB, wp_neB, wp_all, wp_any, wp_slT, wp_slL, wp_rev, wp_revT, wp_revL, wp_disp, wp_pair, wp_pair0, wp_dict0, wipeW, List.foldl_cons, List.foldl_nil, wp_run, List.map, List.length, List.replicate, List.cons_append, List.nil_append, List.append_nil, List.set_cons_zero, List.set_cons_succ, if_true, if_false, Bool.not_true, Bool.not_false, Bool.true_eq_false, Bool.false_eq_true, Nat.reduceAdd, Nat.reduceSub, gName']
    refine wp_no (draw1 g (by decide) (by decide)) ?_
    rintro _ s ⟨x, rfl, x0, x1, u, g⟩
    simp only [ws_seq, ws_if, ws_set, ws_sub, ws_ret, ws_retN, ws_expr, ws_sNx, ws_for, wp_op, wp_var0, wp_varS, wp_c, wp_mB, wp_toB, wp_tr, wp_trB_bl, wp_trB_non, wp_trB_int, wp_not, wp_and, wp_or, wp_if, wp_mBl, wp_nil, wp_cons, wp_tup, wp_lst, wp_lstS, wp_newL_t, wp_newL_f, wp_chain, wp_call, wp_fn, wp_sl, wp_noPart, wp_part, wp_comp, wp_yes, wp_iL, wp_iA, wp_srcL, wp_srcS, wp_srcAL, wp_srcAT, wp_iR1, wp_iR2, wp_rng1, wp_rng2, wp_iRv, wp_srcRL, wp_srcRT, wp_iEA, wp_srcEL, wp_srcET, wp_add, wp_sub, wp_mul, wp_mod, wp_div, wp_divW, wp_pow18, wp_pow17, wp_pow16, wp_pow30, wp_eqI, wp_neI, wp_cmpI, wp_isN, wp_isNotN, wp_lenL, wp_lenT, wp_abs, wp_int, wp_min2, wp_max2, wp_listL, wp_listT, wp_tupleL, wp_tupleT, wp_ixT0, wp_ixT1, wp_ixL0, wp_neg, wp_ok, wp_srcEL, wp_isB, wp_isNotB, wp_eqB, wp_neB, wp_all, wp_any, wp_slT, wp_slL, wp_rev, wp_revT, wp_revL, wp_disp, wp_pair, wp_pair0, wp_dict0, wipeW, List.foldl_cons, List.foldl_nil, wp_run, List.map, List.length, List.replicate, List.cons_append, List.nil_append, List.append_nil, List.set_cons_zero, List.set_cons_succ, if_true, if_false, Bool.not_true, Bool.not_false, Bool.true_eq_false, Bool.false_eq_true, Nat.reduceAdd, Nat.reduceSub, gName']
    exact ⟨_, rfl, by omega, by omega, fun v hv => by have := hn v hv; omega, g⟩
  clear hn la lb l0
  rintro _ s ⟨last, rfl, l0, l1, hn, g⟩
  have l1' : last ≤ 1000000000000000000 := by omega
  rw [ws_seq]
  refine ws_nx (N := fun e s => ∃ op : List Int, e = [some scr, some (.ref 0), some (.lst (vs.map vW)), some (.int last), some (.tup (op.map W.int)), none, none, none, none, none, none, none, none] ∧ Lot op last ∧ Bg 0 s) ?_ ?_
  · simp only [ws_seq, ws_if, ws_set, ws_sub, ws_ret, ws_retN, ws_expr, ws_sNx, ws_for, wp_op, wp_var0, wp_varS, wp_c, wp_mB, wp_toB, wp_tr, wp_trB_bl, wp_trB_non, wp_trB_int, wp_not, wp_and, wp_or, wp_if, wp_mBl, wp_nil, wp_cons, wp_tup, wp_lst, wp_lstS, wp_newL_t, wp_newL_f, wp_chain, wp_call, wp_fn, wp_sl, wp_noPart, wp_part, wp_comp, wp_yes, wp_iL, wp_iA, wp_srcL, wp_srcS, wp_srcAL, wp_srcAT, wp_iR1, wp_iR2, wp_rng1, wp_rng2, wp_iRv, wp_srcRL, wp_srcRT, wp_iEA, wp_srcEL, wp_srcET, wp_add, wp_sub, wp_mul, wp_mod, wp_div, wp_divW, wp_pow18, wp_pow17, wp_pow16, wp_pow30, wp_eqI, wp_neI, wp_cmpI, wp_isN, wp_isNotN, wp_lenL, wp_lenT, wp_abs, wp_int, wp_min2, wp_max2, wp_listL, wp_listT, wp_tupleL, wp_tupleT, wp_ixT0, wp_ixT1, wp_ixL0, wp_neg, wp_ok, wp_srcEL, wp_isB, wp_isNotB, wp_eqB, wp_neB, wp_all, wp_any, wp_slT, wp_slL, wp_rev, wp_revT, wp_revL, wp_disp, wp_pair, wp_pair0, wp_dict0, wipeW, List.foldl_cons, List.foldl_nil, wp_run, List.map, List.length, List.replicate, List.cons_append, List.nil_append, List.append_nil, List.set_cons_zero, List.set_cons_succ, if_true, if_false, Bool.not_true, Bool.not_false, Bool.true_eq_false, Bool.false_eq_true, Nat.reduceAdd, Nat.reduceSub, gName']
    refine wp_no (open_ok gv l0 l1' g) ?_
    rintro _ s ⟨op, rfl, gl, _, u, g⟩
    exact ⟨op, rfl, gl, g⟩
  rintro _ s ⟨op, rfl, gl, g⟩
  have hopl := gl.few
  rw [ws_seq]
  refine ws_nx (N := fun e s => ∃ p : Nat, e = [some scr, some (.ref 0), some (.lst (vs.map vW)), some (.int last), some (.tup (op.map W.int)), some (.ref p), none, none, none, none, none, none, none] ∧ p ≠ 0 ∧ s[p]? = some (.lst ((nd vs op).map W.int)) ∧ Bg 0 s) ?_ ?_
  · simp only [ws_seq, ws_if, ws_set, ws_sub, ws_ret, ws_retN, ws_expr, ws_sNx, ws_for, wp_op, wp_var0, wp_varS, wp_c, wp_mB, wp_toB, wp_tr, wp_trB_bl, wp_trB_non, wp_trB_int, wp_not, wp_and, wp_or, wp_if, wp_mBl, wp_nil, wp_cons, wp_tup, wp_lst, wp_lstS, wp_newL_t, wp_newL_f, wp_chain, wp_call, wp_fn, wp_sl, wp_noPart, wp_part, wp_comp, wp_yes, wp_iL, wp_iA, wp_srcL, wp_srcS, wp_srcAL, wp_srcAT, wp_iR1, wp_iR2, wp_rng1, wp_rng2, wp_iRv, wp_srcRL, wp_srcRT, wp_iEA, wp_srcEL, wp_srcET, wp_add, wp_sub, wp_mul, wp_mod, wp_div, wp_divW, wp_pow18, wp_pow17, wp_pow16, wp_pow30, wp_eqI, wp_neI, wp_cmpI, wp_isN, wp_isNotN, wp_lenL, wp_lenT, wp_abs, wp_int, wp_min2, wp_max2, wp_listL, wp_listT, wp_tupleL, wp_tupleT, wp_ixT0, wp_ixT1, wp_ixL0, wp_neg, wp_ok, wp_srcEL, wp_isB, wp_isNotB, wp_eqB, wp_neB, wp_all, wp_any, wp_slT, wp_slL, wp_rev, wp_revT, wp_revL, wp_disp, wp_pair, wp_pair0, wp_dict0, wipeW, List.foldl_cons, List.foldl_nil, wp_run, List.map, List.length, List.replicate, List.cons_append, List.nil_append, List.append_nil, List.set_cons_zero, List.set_cons_succ, if_true, if_false, Bool.not_true, Bool.not_false, Bool.true_eq_false, Bool.false_eq_true, Nat.reduceAdd, Nat.reduceSub, gName']
    refine wp_no (ln_ok gv (by omega)) ?_
    rintro _ s' ⟨rfl, e, x⟩
    exact ⟨_, rfl, by have := g.lt; omega, e, g.ext x⟩
  rintro _ s ⟨p, rfl, p0, ep, g⟩
  have hnl := nd_len (ns := op) gv
  rw [ws_seq]
  refine ws_nx (N := fun e s => ∃ d : Int, e = [some scr, some (.ref 0), some (.lst (vs.map vW)), some (.int last), some (.tup (op.map W.int)), some (.ref p), some (.lst ((op ++ [last, last + 1 + d]).map W.int)), none, none, none, none, none, none] ∧ 0 ≤ d ∧ s[p]? = some (.lst ((nd vs op).map W.int)) ∧ Bg 0 s) ?_ ?_
  · simp only [ws_seq, ws_if, ws_set, ws_sub, ws_ret, ws_retN, ws_expr, ws_sNx, ws_for, wp_op, wp_var0, wp_varS, wp_c, wp_mB, wp_toB, wp_tr, wp_trB_bl, wp_trB_non, wp_trB_int, wp_not, wp_and, wp_or, wp_if, wp_mBl, wp_nil, wp_cons, wp_tup, wp_lst, wp_lstS, wp_newL_t, wp_newL_f, wp_chain, wp_call, wp_fn, wp_sl, wp_noPart, wp_part, wp_comp, wp_yes, wp_iL, wp_iA, wp_srcL, wp_srcS, wp_srcAL, wp_srcAT, wp_iR1, wp_iR2, wp_rng1, wp_rng2, wp_iRv, wp_srcRL, wp_srcRT, wp_iEA, wp_srcEL, wp_srcET, wp_add, wp_sub, wp_mul, wp_mod, wp_div, wp_divW, wp_pow18, wp_pow17, wp_pow16, wp_pow30, wp_eqI, wp_neI, wp_cmpI, wp_isN, wp_isNotN, wp_lenL, wp_lenT, wp_abs, wp_int, wp_min2, wp_max2, wp_listL, wp_listT, wp_tupleL, wp_tupleT, wp_ixT0, wp_ixT1, wp_ixL0, wp_neg, wp_ok, wp_srcEL, wp_isB, wp_isNotB, wp_eqB, wp_neB, wp_all, wp_any, wp_slT, wp_slL, wp_rev, wp_revT, wp_revL, wp_disp, wp_pair, wp_pair0, wp_dict0, wipeW, List.foldl_cons, List.foldl_nil, wp_run, List.map, List.length, List.replicate, List.cons_append, List.nil_append, List.append_nil, List.set_cons_zero, List.set_cons_succ, if_true, if_false, Bool.not_true, Bool.not_false, Bool.true_eq_false, Bool.false_eq_true, Nat.reduceAdd, Nat.reduceSub, gName']
    refine wp_no (draw1 g (by decide) (by decide)) ?_
    rintro _ s' ⟨d, rfl, d0, d1, u, g⟩
    rw [wp_add, wp_addL]
    refine ⟨by simp [sizeLine]; omega, d, by simp, d0, u.2 _ _ p0 ep, g⟩
  rintro _ s ⟨d, rfl, d0, ep, g⟩
  have hask : ∀ xs : List W, enough vs (op ++ [last, last + 1 + d]) xs = enough vs (op ++ [last]) xs := fun xs => by
    unfold enough
    congr 1
    have := told_beyond (intz xs) hn (show last ≤ last + 1 + d by omega)
    simp only [List.all_append, List.all_cons, List.all_nil, Bool.and_true, this, Bool.and_self]
  rw [ws_seq]
  refine ws_nx (N := fun e s => e = [some scr, some (.ref 0), some (.lst (vs.map vW)), some (.int last), some (.tup (op.map W.int)), some (.ref p), some (.lst ((op ++ [last, last + 1 + d]).map W.int)), some (.tup ((nd vs op).map W.int)), none, none, none, none, none] ∧ s[p]? = some (.lst ((nd vs op).map W.int)) ∧ Bg 0 s) ?_ ?_
  · simp only [ws_seq, ws_if, ws_set, ws_sub, ws_ret, ws_retN, ws_expr, ws_sNx, ws_for, wp_op, wp_var0, wp_varS, wp_c, wp_mB, wp_toB, wp_tr, wp_trB_bl, wp_trB_non, wp_trB_int, wp_not, wp_and, wp_or, wp_if, wp_mBl, wp_nil, wp_cons, wp_tup, wp_lst, wp_lstS, wp_newL_t, wp_newL_f, wp_chain, wp_call, wp_fn, wp_sl, wp_noPart, wp_part, wp_comp, wp_yes, wp_iL, wp_iA, wp_srcL, wp_srcS, wp_srcAL, wp_srcAT, wp_iR1, wp_iR2, wp_rng1, wp_rng2, wp_iRv, wp_srcRL, wp_srcRT, wp_iEA, wp_srcEL, wp_srcET, wp_add, wp_sub, wp_mul, wp_mod, wp_div, wp_divW, wp_pow18, wp_pow17, wp_pow16, wp_pow30, wp_eqI, wp_neI, wp_cmpI, wp_isN, wp_isNotN, wp_lenL, wp_lenT, wp_abs, wp_int, wp_min2, wp_max2, wp_listL, wp_listT, wp_tupleL, wp_tupleT, wp_ixT0, wp_ixT1, wp_ixL0, wp_neg, wp_ok, wp_srcEL, wp_isB, wp_isNotB, wp_eqB, wp_neB, wp_all, wp_any, wp_slT, wp_slL, wp_rev, wp_revT, wp_revL, wp_disp, wp_pair, wp_pair0, wp_dict0, wipeW, List.foldl_cons, List.foldl_nil, wp_run, List.map, List.length, List.replicate, List.cons_append, List.nil_append, List.append_nil, List.set_cons_zero, List.set_cons_succ, if_true, if_false, Bool.not_true, Bool.not_false, Bool.true_eq_false, Bool.false_eq_true, Nat.reduceAdd, Nat.reduceSub, gName']
    refine wp_no (needed_ok (.inl rfl) gv gl l0 l1' hn) ?_
    rintro _ s' ⟨rfl, x⟩
    exact ⟨rfl, x.2 _ _ ep, g.ext x⟩
  rintro _ s ⟨rfl, ep, g⟩
  have hlen60 : (op ++ [last, last + 1 + d]).length ≤ 60 := by simp; omega
  have hcs : ∀ c ∈ cms vs, 1 ≤ c ∧ c ≤ last := fun c hc => by
    obtain ⟨v, hv, rfl⟩ := List.mem_map.mp hc
    exact ⟨(gv.ok v hv).1, hn v hv⟩
  have hnd : enough vs (op ++ [last]) ((nd vs op).map W.int) = true := by
    unfold enough
    rw [intz_int, Bool.and_eq_true]
    refine ⟨?_, ?_⟩
    · have hk : ∀ t ∈ nd vs op, t ∈ cms vs := fun t ht => by
        obtain ⟨v, hv, rfl⟩ := need_mem.mp ht
        exact List.mem_map.mpr ⟨v, kept_sub.subset hv, rfl⟩
      have ha : (nd vs op).Pairwise (· < ·) := by
        unfold nd
        rw [need_kept, List.pairwise_reverse, List.pairwise_map]
        exact gv.desc.sublist kept_sub
      have : ∀ (ts : List Int) (a : Int), (∀ t ∈ ts, a < t ∧ t ∈ cms vs) → ts.Pairwise (· < ·) → lotL (cms vs) a (ts.map W.int) = true := by
        intro ts
        induction ts with
        | nil => intro a _ _; rfl
        | cons t ts ih =>
          intro a h1 h2
          have h3 := List.pairwise_cons.mp h2
          simp only [List.map_cons, lotL]
          rw [if_pos (h1 t (by simp))]
          exact ih t (fun u hu => ⟨h3.1 u hu, (h1 u (by simp [hu])).2⟩) h3.2
      exact this _ 0 (fun t ht => ⟨by have := (hcs t (hk t ht)).1; omega, hk t ht⟩) ha
    · rw [List.all_eq_true]
      exact fun s hs => nd_enough gv.desc hn hs
  rw [ws_seq]
  refine ws_nx (N := fun e s => e = [some scr, some (.ref 0), some (.lst (vs.map vW)), some (.int last), some (.tup (op.map W.int)), some (.ref p), some (.lst ((op ++ [last, last + 1 + d]).map W.int)), some (.tup ((nd vs op).map W.int)), none, none, none, none, none] ∧ s[p]? = some (.lst ((nd vs op).map W.int)) ∧ Bg 0 s) ?_ ?_
  · simp only [ws_seq, ws_if, ws_set, ws_sub, ws_ret, ws_retN, ws_expr, ws_sNx, ws_for, wp_op, wp_var0, wp_varS, wp_c, wp_mB, wp_toB, wp_tr, wp_trB_bl, wp_trB_non, wp_trB_int, wp_not, wp_and, wp_or, wp_if, wp_mBl, wp_nil, wp_cons, wp_tup, wp_lst, wp_lstS, wp_newL_t, wp_newL_f, wp_chain, wp_call, wp_fn, wp_sl, wp_noPart, wp_part, wp_comp, wp_yes, wp_iL, wp_iA, wp_srcL, wp_srcS, wp_srcAL, wp_srcAT, wp_iR1, wp_iR2, wp_rng1, wp_rng2, wp_iRv, wp_srcRL, wp_srcRT, wp_iEA, wp_srcEL, wp_srcET, wp_add, wp_sub, wp_mul, wp_mod, wp_div, wp_divW, wp_pow18, wp_pow17, wp_pow16, wp_pow30, wp_eqI, wp_neI, wp_cmpI, wp_isN, wp_isNotN, wp_lenL, wp_lenT, wp_abs, wp_int, wp_min2, wp_max2, wp_listL, wp_listT, wp_tupleL, wp_tupleT, wp_ixT0, wp_ixT1, wp_ixL0, wp_neg, wp_ok, wp_srcEL, wp_isB, wp_isNotB, wp_eqB, wp_neB, wp_all, wp_any, wp_slT, wp_slL, wp_rev, wp_revT, wp_revL, wp_disp, wp_pair, wp_pair0, wp_dict0, wipeW, List.foldl_cons, List.foldl_nil, wp_run, List.map, List.length, List.replicate, List.cons_append, List.nil_append, List.append_nil, List.set_cons_zero, List.set_cons_succ, if_true, if_false, Bool.not_true, Bool.not_false, Bool.true_eq_false, Bool.false_eq_true, Nat.reduceAdd, Nat.reduceSub, gName']
    refine wp_eq ((en_ok gv hlen60).1 _ rfl (by simp; omega) ints_it) ?_
    rw [hask, hnd]
    simp only [ws_seq, ws_if, ws_set, ws_sub, ws_ret, ws_retN, ws_expr, ws_sNx, ws_for, wp_op, wp_var0, wp_varS, wp_c, wp_mB, wp_toB, wp_tr, wp_trB_bl, wp_trB_non, wp_trB_int, wp_not, wp_and, wp_or, wp_if, wp_mBl, wp_nil, wp_cons, wp_tup, wp_lst, wp_lstS, wp_newL_t, wp_newL_f, wp_chain, wp_call, wp_fn, wp_sl, wp_noPart, wp_part, wp_comp, wp_yes, wp_iL, wp_iA, wp_srcL, wp_srcS, wp_srcAL, wp_srcAT, wp_iR1, wp_iR2, wp_rng1, wp_rng2, wp_iRv, wp_srcRL, wp_srcRT, wp_iEA, wp_srcEL, wp_srcET, wp_add, wp_sub, wp_mul, wp_mod, wp_div, wp_divW, wp_pow18, wp_pow17, wp_pow16, wp_pow30, wp_eqI, wp_neI, wp_cmpI, wp_isN, wp_isNotN, wp_lenL, wp_lenT, wp_abs, wp_int, wp_min2, wp_max2, wp_listL, wp_listT, wp_tupleL, wp_tupleT, wp_ixT0, wp_ixT1, wp_ixL0, wp_neg, wp_ok, wp_srcEL, wp_isB, wp_isNotB, wp_eqB, wp_neB, wp_all, wp_any, wp_slT, wp_slL, wp_rev, wp_revT, wp_revL, wp_disp, wp_pair, wp_pair0, wp_dict0, wipeW, List.foldl_cons, List.foldl_nil, wp_run, List.map, List.length, List.replicate, List.cons_append, List.nil_append, List.append_nil, List.set_cons_zero, List.set_cons_succ, if_true, if_false, Bool.not_true, Bool.not_false, Bool.true_eq_false, Bool.false_eq_true, Nat.reduceAdd, Nat.reduceSub, gName']
    refine wp_eq ((kr_ok (.inr rfl) gv gl l0 l1' hn).1 _ rfl (by simp; omega) ints_it) ?_
    rw [hnd]
    simp [isBl, ep, g, wp_toB]
  rintro _ s ⟨rfl, ep, g⟩
  rw [ws_seq]
  simp only [ws_seq, ws_if, ws_set, ws_sub, ws_ret, ws_retN, ws_expr, ws_sNx, ws_for, wp_op, wp_var0, wp_varS, wp_c, wp_mB, wp_toB, wp_tr, wp_trB_bl, wp_trB_non, wp_trB_int, wp_not, wp_and, wp_or, wp_if, wp_mBl, wp_nil, wp_cons, wp_tup, wp_lst, wp_lstS, wp_newL_t, wp_newL_f, wp_chain, wp_call, wp_fn, wp_sl, wp_noPart, wp_part, wp_comp, wp_yes, wp_iL, wp_iA, wp_srcL, wp_srcS, wp_srcAL, wp_srcAT, wp_iR1, wp_iR2, wp_rng1, wp_rng2, wp_iRv, wp_srcRL, wp_srcRT, wp_iEA, wp_srcEL, wp_srcET, wp_add, wp_sub, wp_mul, wp_mod, wp_div, wp_divW, wp_pow18, wp_pow17, wp_pow16, wp_pow30, wp_eqI, wp_neI, wp_cmpI, wp_isN, wp_isNotN, wp_lenL, wp_lenT, wp_abs, wp_int, wp_min2, wp_max2, wp_listL, wp_listT, wp_tupleL, wp_tupleT, wp_ixT0, wp_ixT1, wp_ixL0, wp_neg, wp_ok, wp_srcEL, wp_isB, wp_isNotB, wp_eqB, wp_neB, wp_all, wp_any, wp_slT, wp_slL, wp_rev, wp_revT, wp_revL, wp_disp, wp_pair, wp_pair0, wp_dict0, wipeW, List.foldl_cons, List.foldl_nil, wp_run, List.map, List.length, List.replicate, List.cons_append, List.nil_append, List.append_nil, List.set_cons_zero, List.set_cons_succ, if_true, if_false, Bool.not_true, Bool.not_false, Bool.true_eq_false, Bool.false_eq_true, Nat.reduceAdd, Nat.reduceSub, gName']
  refine ⟨by decide, ?_⟩
  refine forS_fix (fun i e s => (∃ a b c f h, e = [some scr, some (.ref 0), some (.lst (vs.map vW)), some (.int last), some (.tup (op.map W.int)), some (.ref p), some (.lst ((op ++ [last, last + 1 + d]).map W.int)), some (.tup ((nd vs op).map W.int)), a, b, c, f, h]) ∧ s[p]? = some (.lst ((nd vs op).map W.int)) ∧ Bg 0 s) ⟨⟨_, _, _, _, _, rfl⟩, ep, g⟩ (fun i x e env s z => ?_) (fun env s z => ?_)
  · obtain ⟨rfl, hi⟩ := rng_get e
    obtain ⟨⟨a, b, c, f, h, rfl⟩, ep, g⟩ := z
    refine ⟨_, _, rfl, ?_⟩
    rw [ws_seq]
    refine ws_nx (N := fun e s => ∃ ts : List Int, e = [some scr, some (.ref 0), some (.lst (vs.map vW)), some (.int last), some (.tup (op.map W.int)), some (.ref p), some (.lst ((op ++ [last, last + 1 + d]).map W.int)), some (.tup ((nd vs op).map W.int)), some (.int (0 + i)), some (.tup (ts.map W.int)), c, f, h] ∧ ts.length ≤ 50 ∧ s[p]? = some (.lst ((nd vs op).map W.int)) ∧ Bg 0 s) ?_ ?_
    · simp only [ws_seq, ws_if, ws_set, ws_sub, ws_ret, ws_retN, ws_expr, ws_sNx, ws_for, wp_op, wp_var0, wp_varS, wp_c, wp_mB, wp_toB, wp_tr, wp_trB_bl, wp_trB_non, wp_trB_int, wp_not, wp_and, wp_or, wp_if, wp_mBl, wp_nil, wp_cons, wp_tup, wp_lst, wp_lstS, wp_newL_t, wp_newL_f, wp_chain, wp_call, wp_fn, wp_sl, wp_noPart, wp_part, wp_comp, wp_yes, wp_iL, wp_iA, wp_srcL, wp_srcS, wp_srcAL, wp_srcAT, wp_iR1, wp_iR2, wp_rng1, wp_rng2, wp_iRv, wp_srcRL, wp_srcRT, wp_iEA, wp_srcEL, wp_srcET, wp_add, wp_sub, wp_mul, wp_mod, wp_div, wp_divW, wp_pow18, wp_pow17, wp_pow16, wp_pow30, wp_eqI, wp_neI, wp_cmpI, wp_isN, wp_isNotN, wp_lenL, wp_lenT, wp_abs, wp_int, wp_min2, wp_max2, wp_listL, wp_listT, wp_tupleL, wp_tupleT, wp_ixT0, wp_ixT1, wp_ixL0, wp_neg, wp_ok, wp_srcEL, wp_isB, wp_isNotB, wp_eqB, wp_neB, wp_all, wp_any, wp_slT, wp_slL, wp_rev, wp_revT, wp_revL, wp_disp, wp_pair, wp_pair0, wp_dict0, wipeW, List.foldl_cons, List.foldl_nil, wp_run, List.map, List.length, List.replicate, List.cons_append, List.nil_append, List.append_nil, List.set_cons_zero, List.set_cons_succ, if_true, if_false, Bool.not_true, Bool.not_false, Bool.true_eq_false, Bool.false_eq_true, Nat.reduceAdd, Nat.reduceSub, gName']
      refine wp_no (lot_draw hl12 hnl p0 ep g) ?_
      rintro _ s' ⟨ts, rfl, ht, u, g⟩
      exact ⟨ts, rfl, ht, u.2 _ _ p0 ep, g⟩
    rintro _ s ⟨ts, rfl, hts, ep, g⟩
    rw [ws_seq]
    refine ws_nx (N := fun e s => ∃ th : W, e = [some scr, some (.ref 0), some (.lst (vs.map vW)), some (.int last), some (.tup (op.map W.int)), some (.ref p), some (.lst ((op ++ [last, last + 1 + d]).map W.int)), some (.tup ((nd vs op).map W.int)), some (.int (0 + i)), some th, c, f, h] ∧ Th th s ∧ s[p]? = some (.lst ((nd vs op).map W.int)) ∧ Bg 0 s) ?_ ?_
    · simp only [ws_seq, ws_if, ws_set, ws_sub, ws_ret, ws_retN, ws_expr, ws_sNx, ws_for, wp_op, wp_var0, wp_varS, wp_c, wp_mB, wp_toB, wp_tr, wp_trB_bl, wp_trB_non, wp_trB_int, wp_not, wp_and, wp_or, wp_if, wp_mBl, wp_nil, wp_cons, wp_tup, wp_lst, wp_lstS, wp_newL_t, wp_newL_f, wp_chain, wp_call, wp_fn, wp_sl, wp_noPart, wp_part, wp_comp, wp_yes, wp_iL, wp_iA, wp_srcL, wp_srcS, wp_srcAL, wp_srcAT, wp_iR1, wp_iR2, wp_rng1, wp_rng2, wp_iRv, wp_srcRL, wp_srcRT, wp_iEA, wp_srcEL, wp_srcET, wp_add, wp_sub, wp_mul, wp_mod, wp_div, wp_divW, wp_pow18, wp_pow17, wp_pow16, wp_pow30, wp_eqI, wp_neI, wp_cmpI, wp_isN, wp_isNotN, wp_lenL, wp_lenT, wp_abs, wp_int, wp_min2, wp_max2, wp_listL, wp_listT, wp_tupleL, wp_tupleT, wp_ixT0, wp_ixT1, wp_ixL0, wp_neg, wp_ok, wp_srcEL, wp_isB, wp_isNotB, wp_eqB, wp_neB, wp_all, wp_any, wp_slT, wp_slL, wp_rev, wp_revT, wp_revL, wp_disp, wp_pair, wp_pair0, wp_dict0, wipeW, List.foldl_cons, List.foldl_nil, wp_run, List.map, List.length, List.replicate, List.cons_append, List.nil_append, List.append_nil, List.set_cons_zero, List.set_cons_succ, if_true, if_false, Bool.not_true, Bool.not_false, Bool.true_eq_false, Bool.false_eq_true, Nat.reduceAdd, Nat.reduceSub, gName']
      refine wp_no (draw1 g (by decide) (by decide)) ?_
      rintro _ s' ⟨y, rfl, y0, y1, u, g⟩
      simp only [ws_seq, ws_if, ws_set, ws_sub, ws_ret, ws_retN, ws_expr, ws_sNx, ws_for, wp_op, wp_var0, wp_varS, wp_c, wp_mB, wp_toB, wp_tr, wp_trB_bl, wp_trB_non, wp_trB_int, wp_not, wp_and, wp_or, wp_if, wp_mBl, wp_nil, wp_cons, wp_tup, wp_lst, wp_lstS, wp_newL_t, wp_newL_f, wp_chain, wp_call, wp_fn, wp_sl, wp_noPart, wp_part, wp_comp, wp_yes, wp_iL, wp_iA, wp_srcL, wp_srcS, wp_srcAL, wp_srcAT, wp_iR1, wp_iR2, wp_rng1, wp_rng2, wp_iRv, wp_srcRL, wp_srcRT, wp_iEA, wp_srcEL, wp_srcET, wp_add, wp_sub, wp_mul, wp_mod, wp_div, wp_divW, wp_pow18, wp_pow17, wp_pow16, wp_pow30, wp_eqI, wp_neI, wp_cmpI, wp_isN, wp_isNotN, wp_lenL, wp_lenT, wp_abs, wp_int, wp_min2, wp_max2, wp_listL, wp_listT, wp_tupleL, wp_tupleT, wp_ixT0, wp_ixT1, wp_ixL0, wp_neg, wp_ok, wp_srcEL, wp_isB, wp_isNotB, wp_eqB, wp_neB, wp_all, wp_any, wp_slT, wp_slL, wp_rev, wp_revT, wp_revL, wp_disp, wp_pair, wp_pair0, wp_dict0, wipeW, List.foldl_cons, List.foldl_nil, wp_run, List.map, List.length, List.replicate, List.cons_append, List.nil_append, List.append_nil, List.set_cons_zero, List.set_cons_succ, if_true, if_false, Bool.not_true, Bool.not_false, Bool.true_eq_false, Bool.false_eq_true, Nat.reduceAdd, Nat.reduceSub, gName', decide_eq_true_eq]
      have ep := u.2 _ _ p0 ep
      split
      · refine wp_no (nolot_draw hts g) ?_
        rintro th s2 ⟨ht, u2, g⟩
        exact ⟨th, rfl, ht, u2.2 _ _ p0 ep, g⟩
      · exact ⟨_, rfl, .inl ⟨_, rfl, by simp; omega, ints_it⟩, ep, g⟩
    rintro _ s ⟨th, rfl, ht, ep, g⟩
    rw [ws_seq]
    refine ws_nx (N := fun e s' => e = [some scr, some (.ref 0), some (.lst (vs.map vW)), some (.int last), some (.tup (op.map W.int)), some (.ref p), some (.lst ((op ++ [last, last + 1 + d]).map W.int)), some (.tup ((nd vs op).map W.int)), some (.int (0 + i)), some th, some (.lst (vs.map vW)), f, h] ∧ s' = s) ?_ ?_
    · simp only [ws_seq, ws_if, ws_set, ws_sub, ws_ret, ws_retN, ws_expr, ws_sNx, ws_for, wp_op, wp_var0, wp_varS, wp_c, wp_mB, wp_toB, wp_tr, wp_trB_bl, wp_trB_non, wp_trB_int, wp_not, wp_and, wp_or, wp_if, wp_mBl, wp_nil, wp_cons, wp_tup, wp_lst, wp_lstS, wp_newL_t, wp_newL_f, wp_chain, wp_call, wp_fn, wp_sl, wp_noPart, wp_part, wp_comp, wp_yes, wp_iL, wp_iA, wp_srcL, wp_srcS, wp_srcAL, wp_srcAT, wp_iR1, wp_iR2, wp_rng1, wp_rng2, wp_iRv, wp_srcRL, wp_srcRT, wp_iEA, wp_srcEL, wp_srcET, wp_add, wp_sub, wp_mul, wp_mod, wp_div, wp_divW, wp_pow18, wp_pow17, wp_pow16, wp_pow30, wp_eqI, wp_neI, wp_cmpI, wp_isN, wp_isNotN, wp_lenL, wp_lenT, wp_abs, wp_int, wp_min2, wp_max2, wp_listL, wp_listT, wp_tupleL, wp_tupleT, wp_ixT0, wp_ixT1, wp_ixL0, wp_neg, wp_ok, wp_srcEL, wp_isB, wp_isNotB, wp_eqB, wp_neB, wp_all, wp_any, wp_slT, wp_slL, wp_rev, wp_revT, wp_revL, wp_disp, wp_pair, wp_pair0, wp_dict0, wipeW, List.foldl_cons, List.foldl_nil, wp_run, List.map, List.length, List.replicate, List.cons_append, List.nil_append, List.append_nil, List.set_cons_zero, List.set_cons_succ, if_true, if_false, Bool.not_true, Bool.not_false, Bool.true_eq_false, Bool.false_eq_true, Nat.reduceAdd, Nat.reduceSub, gName']
      exact ⟨by trivial, by trivial⟩
    rintro _ s' ⟨rfl, rfl⟩
    have isiB : ∀ {b : Bool} {s : Sto} {P : W → Sto → Prop} {E : Xc → Sto → Prop}, wp (fIsi x_own [.bl b, .ty "bool"] s) P E ↔ P (.bl true) s := fun {b s P E} => wp_isi rfl (by decide +kernel)
    rcases ht with ⟨xs, rfl, hx, hit⟩ | hnt
    · simp only [ws_seq, ws_if, ws_set, ws_sub, ws_ret, ws_retN, ws_expr, ws_sNx, ws_for, wp_op, wp_var0, wp_varS, wp_c, wp_mB, wp_toB, wp_tr, wp_trB_bl, wp_trB_non, wp_trB_int, wp_not, wp_and, wp_or, wp_if, wp_mBl, wp_nil, wp_cons, wp_tup, wp_lst, wp_lstS, wp_newL_t, wp_newL_f, wp_chain, wp_call, wp_fn, wp_sl, wp_noPart, wp_part, wp_comp, wp_yes, wp_iL, wp_iA, wp_srcL, wp_srcS, wp_srcAL, wp_srcAT, wp_iR1, wp_iR2, wp_rng1, wp_rng2, wp_iRv, wp_srcRL, wp_srcRT, wp_iEA, wp_srcEL, wp_srcET, wp_add, wp_sub, wp_mul, wp_mod, wp_div, wp_divW, wp_pow18, wp_pow17, wp_pow16, wp_pow30, wp_eqI, wp_neI, wp_cmpI, wp_isN, wp_isNotN, wp_lenL, wp_lenT, wp_abs, wp_int, wp_min2, wp_max2, wp_listL, wp_listT, wp_tupleL, wp_tupleT, wp_ixT0, wp_ixT1, wp_ixL0, wp_neg, wp_ok, wp_srcEL, wp_isB, wp_isNotB, wp_eqB, wp_neB, wp_all, wp_any, wp_slT, wp_slL, wp_rev, wp_revT, wp_revL, wp_disp, wp_pair, wp_pair0, wp_dict0, wipeW, List.foldl_cons, List.foldl_nil, wp_run, List.map, List.length, List.replicate, List.cons_append, List.nil_append, List.append_nil, List.set_cons_zero, List.set_cons_succ, if_true, if_false, Bool.not_true, Bool.not_false, Bool.true_eq_false, Bool.false_eq_true, Nat.reduceAdd, Nat.reduceSub, gName']
      refine wp_eq ((kr_ok (.inl rfl) gv gl l0 l1' hn).1 _ rfl hx hit) ?_
      simp only [ws_seq, ws_if, ws_set, ws_sub, ws_ret, ws_retN, ws_expr, ws_sNx, ws_for, wp_op, wp_var0, wp_varS, wp_c, wp_mB, wp_toB, wp_tr, wp_trB_bl, wp_trB_non, wp_trB_int, wp_not, wp_and, wp_or, wp_if, wp_mBl, wp_nil, wp_cons, wp_tup, wp_lst, wp_lstS, wp_newL_t, wp_newL_f, wp_chain, wp_call, wp_fn, wp_sl, wp_noPart, wp_part, wp_comp, wp_yes, wp_iL, wp_iA, wp_srcL, wp_srcS, wp_srcAL, wp_srcAT, wp_iR1, wp_iR2, wp_rng1, wp_rng2, wp_iRv, wp_srcRL, wp_srcRT, wp_iEA, wp_srcEL, wp_srcET, wp_add, wp_sub, wp_mul, wp_mod, wp_div, wp_divW, wp_pow18, wp_pow17, wp_pow16, wp_pow30, wp_eqI, wp_neI, wp_cmpI, wp_isN, wp_isNotN, wp_lenL, wp_lenT, wp_abs, wp_int, wp_min2, wp_max2, wp_listL, wp_listT, wp_tupleL, wp_tupleT, wp_ixT0, wp_ixT1, wp_ixL0, wp_neg, wp_ok, wp_srcEL, wp_isB, wp_isNotB, wp_eqB, wp_neB, wp_all, wp_any, wp_slT, wp_slL, wp_rev, wp_revT, wp_revL, wp_disp, wp_pair, wp_pair0, wp_dict0, wipeW, List.foldl_cons, List.foldl_nil, wp_run, List.map, List.length, List.replicate, List.cons_append, List.nil_append, List.append_nil, List.set_cons_zero, List.set_cons_succ, if_true, if_false, Bool.not_true, Bool.not_false, Bool.true_eq_false, Bool.false_eq_true, Nat.reduceAdd, Nat.reduceSub, gName', wp_neV, isiB]
      simp only [decide_true, Bool.not_true, Bool.false_eq_true, if_false]
      refine wp_eq ((en_ok gv hlen60).1 _ rfl hx hit) ?_
      rw [hask]
      simp only [ws_seq, ws_if, ws_set, ws_sub, ws_ret, ws_retN, ws_expr, ws_sNx, ws_for, wp_op, wp_var0, wp_varS, wp_c, wp_mB, wp_toB, wp_tr, wp_trB_bl, wp_trB_non, wp_trB_int, wp_not, wp_and, wp_or, wp_if, wp_mBl, wp_nil, wp_cons, wp_tup, wp_lst, wp_lstS, wp_newL_t, wp_newL_f, wp_chain, wp_call, wp_fn, wp_sl, wp_noPart, wp_part, wp_comp, wp_yes, wp_iL, wp_iA, wp_srcL, wp_srcS, wp_srcAL, wp_srcAT, wp_iR1, wp_iR2, wp_rng1, wp_rng2, wp_iRv, wp_srcRL, wp_srcRT, wp_iEA, wp_srcEL, wp_srcET, wp_add, wp_sub, wp_mul, wp_mod, wp_div, wp_divW, wp_pow18, wp_pow17, wp_pow16, wp_pow30, wp_eqI, wp_neI, wp_cmpI, wp_isN, wp_isNotN, wp_lenL, wp_lenT, wp_abs, wp_int, wp_min2, wp_max2, wp_listL, wp_listT, wp_tupleL, wp_tupleT, wp_ixT0, wp_ixT1, wp_ixL0, wp_neg, wp_ok, wp_srcEL, wp_isB, wp_isNotB, wp_eqB, wp_neB, wp_all, wp_any, wp_slT, wp_slL, wp_rev, wp_revT, wp_revL, wp_disp, wp_pair, wp_pair0, wp_dict0, wipeW, List.foldl_cons, List.foldl_nil, wp_run, List.map, List.length, List.replicate, List.cons_append, List.nil_append, List.append_nil, List.set_cons_zero, List.set_cons_succ, if_true, if_false, Bool.not_true, Bool.not_false, Bool.true_eq_false, Bool.false_eq_true, Nat.reduceAdd, Nat.reduceSub, gName']
      simp only [decide_true, Bool.not_true, Bool.false_eq_true, if_false]
      cases he : enough vs (op ++ [last]) xs with
      | false => exact ⟨⟨_, _, _, _, _, rfl⟩, ep, g⟩
      | true =>
        simp only [if_true]
        unfold enough at he
        rw [Bool.and_eq_true] at he
        obtain ⟨he1, he2⟩ := he
        have exs := (lotL_intz he1).1
        have hall : ∀ t ∈ nd vs op, t ∈ intz xs := enough_has gv.desc hn fun s hs => List.all_eq_true.mp he2 s hs
        generalize intz xs = us at exs hall
        subst exs
        refine forS_fix (fun j e s9 => s9 = s' ∧ (∃ h, e = [some scr, some (.ref 0), some (.lst (vs.map vW)), some (.int last), some (.tup (op.map W.int)), some (.ref p), some (.lst ((op ++ [last, last + 1 + d]).map W.int)), some (.tup ((nd vs op).map W.int)), some (.int (0 + i)), some (.tup (us.map W.int)), some (.lst (vs.map vW)), some (.bl true), h])) ⟨rfl, _, rfl⟩ (fun j x e env s9 z => ?_) (fun env s9 z => ?_)
        · obtain ⟨rfl, h, rfl⟩ := z
          obtain ⟨t, et, rfl⟩ := geti e
          refine ⟨_, _, rfl, ?_⟩
          have hm := hall t (List.mem_of_getElem? et)
          simp only [ws_seq, ws_if, ws_set, ws_sub, ws_ret, ws_retN, ws_expr, ws_sNx, ws_for, wp_op, wp_var0, wp_varS, wp_c, wp_mB, wp_toB, wp_tr, wp_trB_bl, wp_trB_non, wp_trB_int, wp_not, wp_and, wp_or, wp_if, wp_mBl, wp_nil, wp_cons, wp_tup, wp_lst, wp_lstS, wp_newL_t, wp_newL_f, wp_chain, wp_call, wp_fn, wp_sl, wp_noPart, wp_part, wp_comp, wp_yes, wp_iL, wp_iA, wp_srcL, wp_srcS, wp_srcAL, wp_srcAT, wp_iR1, wp_iR2, wp_rng1, wp_rng2, wp_iRv, wp_srcRL, wp_srcRT, wp_iEA, wp_srcEL, wp_srcET, wp_add, wp_sub, wp_mul, wp_mod, wp_div, wp_divW, wp_pow18, wp_pow17, wp_pow16, wp_pow30, wp_eqI, wp_neI, wp_cmpI, wp_isN, wp_isNotN, wp_lenL, wp_lenT, wp_abs, wp_int, wp_min2, wp_max2, wp_listL, wp_listT, wp_tupleL, wp_tupleT, wp_ixT0, wp_ixT1, wp_ixL0, wp_neg, wp_ok, wp_srcEL, wp_isB, wp_isNotB, wp_eqB, wp_neB, wp_all, wp_any, wp_slT, wp_slL, wp_rev, wp_revT, wp_revL, wp_disp, wp_pair, wp_pair0, wp_dict0, wipeW, List.foldl_cons, List.foldl_nil, wp_run, List.map, List.length, List.replicate, List.cons_append, List.nil_append, List.append_nil, List.set_cons_zero, List.set_cons_succ, if_true, if_false, Bool.not_true, Bool.not_false, Bool.true_eq_false, Bool.false_eq_true, Nat.reduceAdd, Nat.reduceSub, gName', wp_inT, hm, decide_true]
          exact ⟨by trivial, _, rfl⟩
        · obtain ⟨rfl, h, rfl⟩ := z
          exact ⟨⟨_, _, _, _, _, rfl⟩, ep, g⟩
    · simp only [ws_seq, ws_if, ws_set, ws_sub, ws_ret, ws_retN, ws_expr, ws_sNx, ws_for, wp_op, wp_var0, wp_varS, wp_c, wp_mB, wp_toB, wp_tr, wp_trB_bl, wp_trB_non, wp_trB_int, wp_not, wp_and, wp_or, wp_if, wp_mBl, wp_nil, wp_cons, wp_tup, wp_lst, wp_lstS, wp_newL_t, wp_newL_f, wp_chain, wp_call, wp_fn, wp_sl, wp_noPart, wp_part, wp_comp, wp_yes, wp_iL, wp_iA, wp_srcL, wp_srcS, wp_srcAL, wp_srcAT, wp_iR1, wp_iR2, wp_rng1, wp_rng2, wp_iRv, wp_srcRL, wp_srcRT, wp_iEA, wp_srcEL, wp_srcET, wp_add, wp_sub, wp_mul, wp_mod, wp_div, wp_divW, wp_pow18, wp_pow17, wp_pow16, wp_pow30, wp_eqI, wp_neI, wp_cmpI, wp_isN, wp_isNotN, wp_lenL, wp_lenT, wp_abs, wp_int, wp_min2, wp_max2, wp_listL, wp_listT, wp_tupleL, wp_tupleT, wp_ixT0, wp_ixT1, wp_ixL0, wp_neg, wp_ok, wp_srcEL, wp_isB, wp_isNotB, wp_eqB, wp_neB, wp_all, wp_any, wp_slT, wp_slL, wp_rev, wp_revT, wp_revL, wp_disp, wp_pair, wp_pair0, wp_dict0, wipeW, List.foldl_cons, List.foldl_nil, wp_run, List.map, List.length, List.replicate, List.cons_append, List.nil_append, List.append_nil, List.set_cons_zero, List.set_cons_succ, if_true, if_false, Bool.not_true, Bool.not_false, Bool.true_eq_false, Bool.false_eq_true, Nat.reduceAdd, Nat.reduceSub, gName']
      refine wp_eq ((kr_ok (.inl rfl) gv gl l0 l1' hn).2 hnt) ?_
      simp only [ws_seq, ws_if, ws_set, ws_sub, ws_ret, ws_retN, ws_expr, ws_sNx, ws_for, wp_op, wp_var0, wp_varS, wp_c, wp_mB, wp_toB, wp_tr, wp_trB_bl, wp_trB_non, wp_trB_int, wp_not, wp_and, wp_or, wp_if, wp_mBl, wp_nil, wp_cons, wp_tup, wp_lst, wp_lstS, wp_newL_t, wp_newL_f, wp_chain, wp_call, wp_fn, wp_sl, wp_noPart, wp_part, wp_comp, wp_yes, wp_iL, wp_iA, wp_srcL, wp_srcS, wp_srcAL, wp_srcAT, wp_iR1, wp_iR2, wp_rng1, wp_rng2, wp_iRv, wp_srcRL, wp_srcRT, wp_iEA, wp_srcEL, wp_srcET, wp_add, wp_sub, wp_mul, wp_mod, wp_div, wp_divW, wp_pow18, wp_pow17, wp_pow16, wp_pow30, wp_eqI, wp_neI, wp_cmpI, wp_isN, wp_isNotN, wp_lenL, wp_lenT, wp_abs, wp_int, wp_min2, wp_max2, wp_listL, wp_listT, wp_tupleL, wp_tupleT, wp_ixT0, wp_ixT1, wp_ixL0, wp_neg, wp_ok, wp_srcEL, wp_isB, wp_isNotB, wp_eqB, wp_neB, wp_all, wp_any, wp_slT, wp_slL, wp_rev, wp_revT, wp_revL, wp_disp, wp_pair, wp_pair0, wp_dict0, wipeW, List.foldl_cons, List.foldl_nil, wp_run, List.map, List.length, List.replicate, List.cons_append, List.nil_append, List.append_nil, List.set_cons_zero, List.set_cons_succ, if_true, if_false, Bool.not_true, Bool.not_false, Bool.true_eq_false, Bool.false_eq_true, Nat.reduceAdd, Nat.reduceSub, gName', wp_neV, isiB]
      simp only [decide_true, Bool.not_true, Bool.false_eq_true, if_false]
      refine wp_eq ((en_ok gv hlen60).2 hnt) ?_
      simp only [ws_seq, ws_if, ws_set, ws_sub, ws_ret, ws_retN, ws_expr, ws_sNx, ws_for, wp_op, wp_var0, wp_varS, wp_c, wp_mB, wp_toB, wp_tr, wp_trB_bl, wp_trB_non, wp_trB_int, wp_not, wp_and, wp_or, wp_if, wp_mBl, wp_nil, wp_cons, wp_tup, wp_lst, wp_lstS, wp_newL_t, wp_newL_f, wp_chain, wp_call, wp_fn, wp_sl, wp_noPart, wp_part, wp_comp, wp_yes, wp_iL, wp_iA, wp_srcL, wp_srcS, wp_srcAL, wp_srcAT, wp_iR1, wp_iR2, wp_rng1, wp_rng2, wp_iRv, wp_srcRL, wp_srcRT, wp_iEA, wp_srcEL, wp_srcET, wp_add, wp_sub, wp_mul, wp_mod, wp_div, wp_divW, wp_pow18, wp_pow17, wp_pow16, wp_pow30, wp_eqI, wp_neI, wp_cmpI, wp_isN, wp_isNotN, wp_lenL, wp_lenT, wp_abs, wp_int, wp_min2, wp_max2, wp_listL, wp_listT, wp_tupleL, wp_tupleT, wp_ixT0, wp_ixT1, wp_ixL0, wp_neg, wp_ok, wp_srcEL, wp_isB, wp_isNotB, wp_eqB, wp_neB, wp_all, wp_any, wp_slT, wp_slL, wp_rev, wp_revT, wp_revL, wp_disp, wp_pair, wp_pair0, wp_dict0, wipeW, List.foldl_cons, List.foldl_nil, wp_run, List.map, List.length, List.replicate, List.cons_append, List.nil_append, List.append_nil, List.set_cons_zero, List.set_cons_succ, if_true, if_false, Bool.not_true, Bool.not_false, Bool.true_eq_false, Bool.false_eq_true, Nat.reduceAdd, Nat.reduceSub, gName']
      simp only [decide_true, Bool.not_true, Bool.false_eq_true, if_false]
      exact ⟨⟨_, _, _, _, _, rfl⟩, ep, g⟩
  · obtain ⟨⟨a, b, c, f, h, rfl⟩, ep, g⟩ := z
    simp only [ws_seq, ws_if, ws_set, ws_sub, ws_ret, ws_retN, ws_expr, ws_sNx, ws_for, wp_op, wp_var0, wp_varS, wp_c, wp_mB, wp_toB, wp_tr, wp_trB_bl, wp_trB_non, wp_trB_int, wp_not, wp_and, wp_or, wp_if, wp_mBl, wp_nil, wp_cons, wp_tup, wp_lst, wp_lstS, wp_newL_t, wp_newL_f, wp_chain, wp_call, wp_fn, wp_sl, wp_noPart, wp_part, wp_comp, wp_yes, wp_iL, wp_iA, wp_srcL, wp_srcS, wp_srcAL, wp_srcAT, wp_iR1, wp_iR2, wp_rng1, wp_rng2, wp_iRv, wp_srcRL, wp_srcRT, wp_iEA, wp_srcEL, wp_srcET, wp_add, wp_sub, wp_mul, wp_mod, wp_div, wp_divW, wp_pow18, wp_pow17, wp_pow16, wp_pow30, wp_eqI, wp_neI, wp_cmpI, wp_isN, wp_isNotN, wp_lenL, wp_lenT, wp_abs, wp_int, wp_min2, wp_max2, wp_listL, wp_listT, wp_tupleL, wp_tupleT, wp_ixT0, wp_ixT1, wp_ixL0, wp_neg, wp_ok, wp_srcEL, wp_isB, wp_isNotB, wp_eqB, wp_neB, wp_all, wp_any, wp_slT, wp_slL, wp_rev, wp_revT, wp_revL, wp_disp, wp_pair, wp_pair0, wp_dict0, wipeW, List.foldl_cons, List.foldl_nil, wp_run, List.map, List.length, List.replicate, List.cons_append, List.nil_append, List.append_nil, List.set_cons_zero, List.set_cons_succ, if_true, if_false, Bool.not_true, Bool.not_false, Bool.true_eq_false, Bool.false_eq_true, Nat.reduceAdd, Nat.reduceSub, gName']
theorem law_true (ns : List Int) (hl : ns.length ≤ 63) : ∃ st, r_law [.scr (ns.map W.int)] [] = .ok (.bl true) st := by
  obtain ⟨w, s, e, rfl⟩ := wp_get (law_run ns hl)
  exact ⟨s, e⟩
end Lw
namespace Lw
open PySem PySem.Spec PyProof.Rows L2 Mi
theorem law_fn {P : Program} {w : World} {K : PySem.W.Frag} {mg : Str → Option Value} {base : Heap} (x : Tx K mg) (H0 : ∀ ns : List Int, ns.length ≤ 63 → ∃ st, r_law [.scr (ns.map W.int)] [] = .ok (.bl true) st) : FnOk P w K mg base (L2.CX P w) 9 x.a_law x.d_law ["script"] (spLaw K) := by
  refine (fn_law x).imp fun vs H Q E h => ?_
  obtain ⟨a, ns, e, hs, hl, q⟩ := h
  subst e
  obtain ⟨st, hr⟩ := H0 ns hl
  refine ⟨[], [], [], [.scr (ns.map W.int)], ⟨List.nodup_nil, rfl, by simp, by simp, by simp⟩, VRs.cons ?_ VRs.nil, rfl, ?_⟩
  · simp only [VR]
    exact ⟨a, _, rfl, hs.imp (fun h => ⟨by simp, by simp, h⟩) id, vints⟩
  · rw [hr]
    intro ρ' H' v g s r
    simp only [VR] at r
    rw [r]
    exact q H'
theorem walk {l : PySem.W.OpenLaw} {q : Program} {loose : List Str} {XP : (Str → Option Value) → Heap → Prop} {YP : World → Heap → Prop} {d : DefRec} {K : Params → PySem.W.Frag} (hn : l.most = some 63) (hdf : d.params.defaults = [])
    (hY : ∀ (w : World) (h : Heap), YP w h → (K w.params).In h) (H0 : ∀ ns : List Int, ns.length ≤ 63 → ∃ st, r_law [.scr (ns.map W.int)] [] = .ok (.bl true) st)
    (F : ∀ (w : World) (mg : Str → Option Value) (fa : Addr) (h : Heap), (K w.params).In h → h.Ns mainGlobals mg → mg d.name = some (.ref fa) → ∃ x : Tx (K w.params) mg, x.a_law = fa) :
    PySem.W.WalkO q loose XP YP l.row.toRowW d [] (fun f vs => PySem.call f vs) := by
  refine L2.walk_of (n := 63) (k := 9) (x := "script") (CX := fun w => L2.CX l.prog w) (sp := fun w => spLaw (K w.params)) hn (by decide) hdf ⟨rfl, by decide, by decide⟩ hY (fun w mg fa h hK hG hm => ?_) (fun _ _ a ns hl _ hS => ⟨a, ns, rfl, hS, hl, fun _ => rfl⟩) (fun w H s e s' z => ?_)
  · obtain ⟨x, e⟩ := F w mg fa h hK hG hm
    subst e
    exact ⟨x.d_law, x.bl, fun base _ _ => law_fn x H0⟩
  · obtain ⟨_, _, _, _, _, _, _, _, _, _, _, _, z⟩ := z
    exact z.elim
end Lw
open PySem PySem.W PyProof.Rows in
set_option maxRecDepth 100000 in
set_option maxHeartbeats 0 in
theorem PySem.Challenge.cw_wholecommits_k73_whole_lots_that_are_eno_holds : PySem.Challenge.rw_wholecommits_k73_whole_lots_that_are_eno.Holds := by
  w_on; o_law; k_head; (case hw => w_witness2)
  k_fill
  refine Lw.walk (l := PySem.Challenge.rw_wholecommits_k73_whole_lots_that_are_eno) rfl rfl (fun w h Y => PySem.W.kIn_of Y) Lw.law_true ?F
  case F =>
    intro w mg fa h KX G hmg
    refine' Lw.all_mk (w := w) KX G hmg ?a0 ?l0 ?c0 ?k0 ?a1 ?l1 ?c1 ?k1 ?a2 ?l2 ?c2 ?k2 ?a3 ?l3 ?c3 ?k3 ?a4 ?l4 ?c4 ?k4 ?a5 ?l5 ?c5 ?k5 ?a6 ?l6 ?c6 ?k6 ?a7 ?l7 ?c7 ?k7 ?a8 ?l8 ?c8 ?k8 ?a9 ?l9 ?c9 ?k9 ?a10 ?l10 ?c10 ?k10 ?a11 ?l11 ?c11 ?k11 ?a12 ?l12 ?c12 ?k12 ?a13 ?l13 ?c13 ?k13 ?a14 ?l14 ?c14 ?k14 ?a15 ?l15 ?c15 ?k15 ?a16 ?l16 ?c16 ?k16 ?a17 ?l17 ?c17 ?k17 ?a18 ?l18 ?c18 ?k18 ?a19 ?l19 ?c19 ?k19 ?a20 ?l20 ?c20 ?k20 ?a21 ?l21 ?c21 ?k21 ?a22 ?l22 ?c22 ?k22 ?a23 ?l23 ?c23 ?k23 ?a24 ?l24 ?c24 ?k24 ?a25 ?l25 ?c25 ?k25 ?a26 ?l26 ?c26 ?k26 ?a27 ?l27 ?c27 ?k27 ?a28 ?l28 ?c28 ?k28 ?a29 ?l29 ?c29 ?k29 ?a30 ?l30 ?c30 ?k30 ?co_GREATEST ?zb_abs ?zb_all ?zb_bool ?zb_enumerate ?zb_int ?zb_isinstance ?zb_len ?zb_list ?zb_max ?zb_min ?zb_range ?zb_reversed ?zb_sorted ?zb_tuple
    (case a0 => k_is)
    (case l0 => k_is)
    (case c0 => k_is)
    (case k0 => k_is)
    (case a1 => k_is)
    (case l1 => k_is)
    (case c1 => k_is)
    (case k1 => k_is)
    (case a2 => k_is)
    (case l2 => k_is)
    (case c2 => k_is)
    (case k2 => k_is)
    (case a3 => k_is)
    (case l3 => k_is)
    (case c3 => k_is)
    (case k3 => k_is)
    (case a4 => k_is)
    (case l4 => k_is)
    (case c4 => k_is)
    (case k4 => k_is)
    (case a5 => k_is)
    (case l5 => k_is)
    (case c5 => k_is)
    (case k5 => k_is)
    (case a6 => k_is)
    (case l6 => k_is)
    (case c6 => k_is)
    (case k6 => k_is)
    (case a7 => k_is)
    (case l7 => k_is)
    (case c7 => k_is)
    (case k7 => k_is)
    (case a8 => k_is)
    (case l8 => k_is)
    (case c8 => k_is)
    (case k8 => k_is)
    (case a9 => k_is)
    (case l9 => k_is)
    (case c9 => k_is)
    (case k9 => k_is)
    (case a10 => k_is)
    (case l10 => k_is)
    (case c10 => k_is)
    (case k10 => k_is)
    (case a11 => k_is)
    (case l11 => k_is)
    (case c11 => k_is)
    (case k11 => k_is)
    (case a12 => k_is)
    (case l12 => k_is)
    (case c12 => k_is)
    (case k12 => k_is)
    (case a13 => k_is)
    (case l13 => k_is)
    (case c13 => k_is)
    (case k13 => k_is)
    (case a14 => k_is)
    (case l14 => k_is)
    (case c14 => k_is)
    (case k14 => k_is)
    (case a15 => k_is)
    (case l15 => k_is)
    (case c15 => k_is)
    (case k15 => k_is)
    (case a16 => k_is)
    (case l16 => k_is)
    (case c16 => k_is)
    (case k16 => k_is)
    (case a17 => k_is)
    (case l17 => k_is)
    (case c17 => k_is)
    (case k17 => k_is)
    (case a18 => k_is)
    (case l18 => k_is)
    (case c18 => k_is)
    (case k18 => k_is)
    (case a19 => k_is)
    (case l19 => k_is)
    (case c19 => k_is)
    (case k19 => k_is)
    (case a20 => k_is)
    (case l20 => k_is)
    (case c20 => k_is)
    (case k20 => k_is)
    (case a21 => k_is)
    (case l21 => k_is)
    (case c21 => k_is)
    (case k21 => k_is)
    (case a22 => k_is)
    (case l22 => k_is)
    (case c22 => k_is)
    (case k22 => k_is)
    (case a23 => k_is)
    (case l23 => k_is)
    (case c23 => k_is)
    (case k23 => k_is)
    (case a24 => k_is)
    (case l24 => k_is)
    (case c24 => k_is)
    (case k24 => k_is)
    (case a25 => k_is)
    (case l25 => k_is)
    (case c25 => k_is)
    (case k25 => k_is)
    (case a26 => k_is)
    (case l26 => k_is)
    (case c26 => k_is)
    (case k26 => k_is)
    (case a27 => k_is)
    (case l27 => k_is)
    (case c27 => k_is)
    (case k27 => k_is)
    (case a28 => k_is)
    (case l28 => k_is)
    (case c28 => k_is)
    (case k28 => k_is)
    (case a29 => k_is)
    (case l29 => k_is)
    (case c29 => k_is)
    (case k29 => k_is)
    (case a30 => k_is)
    (case l30 => k_is)
    (case c30 => k_is)
    (case k30 => k_is)
    (case co_GREATEST => k_is)
    (case zb_abs => k_is)
    (case zb_all => k_is)
    (case zb_bool => k_is)
    (case zb_enumerate => k_is)
    (case zb_int => k_is)
    (case zb_isinstance => k_is)
    (case zb_len => k_is)
    (case zb_list => k_is)
    (case zb_max => k_is)
    (case zb_min => k_is)
    (case zb_range => k_is)
    (case zb_reversed => k_is)
    (case zb_sorted => k_is)
    (case zb_tuple => k_is)
