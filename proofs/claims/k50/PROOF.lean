import PyProof.Rows.All
import Wide.All
import OpenK.AllK
import Wide.FinOn
import PyProof.ReprRoads
import HandS.ForMost
import HandS.Exc
import HandS.TryOnly
import HandS.ExcOwn
import HandS.WordsExc
import HandS.Wide
import HandS.EndBits
import HandS.Defaults
import HandS.ExcInit
import HandS.ExcIs
import HandS.ExcField
import HandS.IsInst
import HandS.Property
import HandS.OwnEq
import HandS.DictComp
import HandS.DeepEq
import HandS.Strs
import HandS.Head0
import HandS.Head1
import HandS.Head2
import HandS.HeadEnd
import HandS.HeadHook1
import HandS.HeadHook2
import HandS.HeadHook4
import HandS.Walk
import HandS.MakeKw
import KE.KExcIs
import PyProof.InstEq
import PyProof.InstNe
import HandS.Conv
import HandS.TupSets
import HandS.Finally
import HandS.Style
import HandS.Head3
import KE.KDictKeyed
import KE.KDictLaw
import HandS.RepeatKit
import PyProof.TupleOfSeq
import PyProof.CodeObj
import PyProof.MakeMany
import PyProof.Seq
import HandS.Iter
import PyProof.EnumMake
import PyProof.TupleIter
import PyProof.Draws
import HandS.Deep
import HandS.SortInts
import KE.KDictDisplayH
import HandS.TryMany
import HandS.More
import HandS.Gcd
import KE.KDictPairs
import HandS.TupLen
import KE.KDictCopyH
import KE.KDictOf
import KE.GoesEnumKw
import KE.KDictWalk
import PyProof.FitsInt
import PySem.Challenge.RW_dugdays_k50_texts_of_menus
set_option Elab.async false
set_option linter.all false
set_option maxRecDepth 100000
set_option maxHeartbeats 0
/-! Own rules, laid over the hand layer: powers of great ints, repr of data, defs that may call repr. -/
namespace Gx
open PySem PySem.Spec PyProof.Rows L2
/-! ### great powers -/
theorem bits_of_lt {a : Int} {k : Nat} (h : a.natAbs < 2 ^ k) : Builtin.Int.intBits a ≤ k := by
  unfold Builtin.Int.intBits
  split
  · omega
  · rename_i hz
    have hne : a.natAbs ≠ 0 := by
      intro z
      apply hz
      have : a = 0 := Int.natAbs_eq_zero.mp z
      rw [this]; rfl
    have := (Nat.log2_lt hne).mpr h
    omega
theorem lt_of_bits {a : Int} {k : Nat} (h : Builtin.Int.intBits a ≤ k) : a.natAbs < 2 ^ k := by
  unfold Builtin.Int.intBits at h
  split at h
  · rename_i hz
    have : a = 0 := by simpa using hz
    rw [this]
    exact Nat.two_pow_pos k
  · have h2 : a.natAbs < 2 ^ (a.natAbs.log2 + 1) := Nat.lt_log2_self
    exact Nat.lt_of_lt_of_le h2 (Nat.pow_le_pow_right (by decide) h)
def PowFits (i j : Int) : Prop := 0 ≤ j ∧ (Builtin.Int.intBits i : Int) * j ≤ 2 ^ 27
theorem op_powW {X : Cx} : OpR X (binaryOp .Pow) (rI PowFits fun i j => .int (i ^ j.toNat)) := opI fun _ _ _ _ _ _ _ hc q => pow_int hc.1 hc.2 q
/-! ### defs that may run into repr: no guard runs ahead of them -/
structure FnG (P : Program) (w : World) (K : PySem.W.Frag) (mg : Str → Option Value) (base : Heap) (CX : CXT) (k : Nat) (f : Addr) (fd : FuncData) (ps : List Str) (sp : Sp) : Prop where
  len : ∀ vs H Q E, sp vs H Q E → vs.length = ps.length
  go : ∀ (A : Around) (fr : List Env) (s : Shared) (H : Hp) (gs : Args) (us : List Value) (vs : List V) (Q : VK) (E : XK), A.guards = some [] → Room k A → Env0 P w K mg base A fr s H → BindsTo s fd gs (ps.zip us) → Vals vs us →
    sp vs H Q E → codeAny (model P w) A (.call (.ref f) gs) (CR CX fr P w H s Q E) s
section
variable {P : Program} {w : World} {K : PySem.W.Frag} {mg : Str → Option Value} {base : Heap} {CX : CXT}
theorem FnG.of {k : Nat} {f : Addr} {fd : FuncData} {ps : List Str} {sp : Sp} (F : FnOk P w K mg base CX k f fd ps sp) : FnG P w K mg base CX k f fd ps sp :=
  ⟨F.len, fun A fr s H gs us vs Q E _ => F.run A fr s H gs us vs Q E⟩
/-- such a def's body, walked in its frame -/
theorem FnG.body {x qual : Str} {params : Arguments} {body : List Stmt} {scope : Scope} {dvs : List V} {kws : List (Str × V)} {f : Addr} {fd : FuncData} {N ps : List Str} {k : Nat} {sp : Sp} (F : FunD K x qual params body scope dvs kws f fd) (S : FnScope N ps scope)
    (ln : ∀ vs H Q E, sp vs H Q E → vs.length = ps.length)
    (hb : ∀ (cdv : Value) (A : Around) (fr : List Env) (s : Shared) (H : Hp) (vs : List V) (Q : VK) (E : XK), (A.deeper (envOfC qual scope s.heap.objs.size f cdv)).guards = some [] → Room k (A.deeper (envOfC qual scope s.heap.objs.size f cdv)) → sp vs H Q E →
      ∃ t, PSs (cxOf CX P w K mg base N qual scope f cdv A fr s H E) body t ∧ t { nx := fun _ H' => Q .non H', rt := Q } (start N vs) H) : FnG P w K mg base CX (k + 1) f fd ps sp := by
  refine ⟨ln, fun A fr s H gs us vs Q E hg hr e0 bt rv hs => ?_⟩
  obtain ⟨oc, od, dV, kV, doc, pm, an, cdv, ct, sl, rfl, lk, cc, _, _⟩ := F.ex
  have lv := ln _ _ _ _ hs
  have KX : K.In s.heap := e0.mod.kin.keeps fun b o e => (e0.bs b o e).1
  have nl : s.heap.NoLimit := e0.mod.nolimit.keeps fun b o e => (e0.bs b o e).1
  have kd : ∀ y ∈ ps.zip us, scope.names.lookup y.1 = some .local ∨ (scope.names.lookup y.1 = some .cell ∧ ((cellsFrom (s.heap.objs.size + 1) scope.names []).lookup y.1).isSome = true) := by
    rintro ⟨n, v⟩ hy
    have := S.par n (List.of_mem_zip hy).1
    exact this.imp id fun q => ⟨q, PySem.W.cellsFrom_some _ _ _ (.inl q)⟩
  apply codeAny_call_function hr.depth (KX _ _ lk) rfl S.co S.gen rfl (PySem.W.codeRec_of KX cc) (bt _ _ _ _ _)
  apply wpAny_newFunctionEnv_cells S.kind kd
  intro env he s1 x
  cases he
  refine ⟨nl.keeps x.toInCall.keep, codeAny_func ?_⟩
  obtain ⟨t, ht, q⟩ := hb cdv A fr s H vs Q E hg (hr.deeper _) hs
  refine wpAny_mono (ht.run [] s1 (start N vs) H _ (inv_start S hr.hd e0 lv rv x) q) ?_ fun e s' z => z
  rintro (_ | _ | _ | u) s' z
  · obtain ⟨σ', H', J, q⟩ := z
    exact ⟨V.non, H', J.os, J.bare, J.base, J.hok, rfl, q⟩
  · obtain ⟨_, _, _, q⟩ := z
    exact False.elim q
  · obtain ⟨_, _, _, q⟩ := z
    exact False.elim q
  · obtain ⟨v, σ', H', J, r, q⟩ := z
    exact ⟨v, H', J.os, J.bare, J.base, J.hok, r, q⟩
end
/-! ### calls of such defs -/
/-! ### the end of a law whose def may call repr; the script's bits are told -/
/-- the script: an object that is known and never written -/
def ScrAt (K : PySem.W.Frag) (H : Hp) (a : Addr) (ns : List Int) : Prop := (∃ o, H a = some (.frz o (.lst (ns.map V.int)))) ∨
  ∃ (o : Obj) (its : Array Value) (n : Nat), K.lookup a = some o ∧ o.cls = .type "list" ∧ o.dict = none ∧ o.data = .seq its n ∧ its.size ≤ sizeLine ∧ Vals (ns.map V.int) its.toList
theorem ScrAt.sq {K : PySem.W.Frag} {H : Hp} {a : Addr} {ns : List Int} (h : ScrAt K H a ns) : SqL K H a (ns.map V.int) := h.elim (fun h => .inl (.inr h)) .inr
theorem ScrAt.mono {K : PySem.W.Frag} {H H' : Hp} {a : Addr} {ns : List Int} (k : ∀ b o u, H b = some (.frz o u) → H' b = some (.frz o u)) (h : ScrAt K H a ns) : ScrAt K H' a ns := h.imp (fun ⟨o, e⟩ => ⟨o, k _ _ _ e⟩) id
section
variable {P : Program} {w : World} {K : PySem.W.Frag} {mg mb : Str → Option Value} {CX : CXT} {k : Nat} {fa a : Addr} {fd : FuncData} {x : Str} {sp : Sp} {s₁ : Shared} {vs : List Value} {ns : List Int}
/-- the entry over an abstract heap that holds the script alone, or nothing -/
theorem enter_at (H : Hp) (KX : K.In s₁.heap) (n1 : s₁.heap.Ns mainGlobals mg) (n2 : s₁.heap.Ns builtinsNs mb) (bb : ∀ x : Str, x ≠ "__name__" → mb x = bootBuiltins x) (nl : s₁.heap.NoLimit) (hg : s₁.gens = #[]) (hr : Room k callerA)
    (obj : s₁.heap.get? a = some { cls := .type "list", data := .seq vs.toArray }) (hok : HOk P w H s₁.heap) (hA : ∀ b u, H b = some u → b = a ∧ K.lookup a = none ∧ ∃ o xs, u = .frz o (.lst xs))
    (F : ∀ base : Heap, K.In base → base.Ns mainGlobals mg → FnG P w K mg base CX k fa fd [x] sp) (hb : ∀ (s : Shared) (u : Value), BindsTo s fd ⟨[u], []⟩ [(x, u)]) (q : sp [.ref a] H (fun v _ => v = .bl true) fun _ _ _ => False)
    (hCX : ∀ H e s', CX [] H s₁ (fun _ _ _ => False) e s' → False) :
    codeAny (model P w) callerA (.call (.ref fa) ⟨[.ref a], []⟩) (fun r s' => r = .ok (.ret (.bool true)) ∧ OldK s₁.heap s'.heap ∧ s'.os = s₁.os ∧ AllBare s'.gens) s₁ := by
  have non : ∀ {b : Addr} {o : Obj}, s₁.heap.get? b = some o → (∀ vs' n, o.data ≠ .seq vs' n) → H b = none := fun {b o} e d => by
    rcases hq : H b with _ | u
    · rfl
    · have z := (hA b u hq).1
      subst z
      rw [obj] at e
      cases e
      exact absurd rfl (d _ _)
  have ns' : ∀ {b : Addr} {m : Str → Option Value}, s₁.heap.Ns b m → (hidT s₁.heap H).Ns b m := by
    rintro b m ⟨o, es, ep, e, d, r⟩
    exact ⟨o, es, ep, hidT_get e (non e fun v n z => by rw [d] at z; cases z), d, r⟩
  have kb : K.In (hidT s₁.heap H) := fun b o e => hidT_get (KX b o e) <| by
    rcases hq : H b with _ | u
    · rfl
    · obtain ⟨z, z2, _⟩ := hA b u hq
      rw [z, z2] at e
      cases e
  have M : Mod K mg (hidT s₁.heap H) := ⟨kb, ns' n1, ⟨mb, ns' n2, bb⟩, nl.elim fun mc h => ⟨mc, ns' h.1, h.2⟩⟩
  have e0 : Env0 P w K mg (hidT s₁.heap H) callerA [] s₁ H := ⟨rfl, M, fun b o e => of_hidT e, by rw [hidT_size]; exact Nat.le_refl _, trivial, fun b z => absurd z (by simp [frs]), hok, .of_eq hg⟩
  refine codeAny_mono ((F _ kb (ns' n1)).go callerA [] s₁ H ⟨[.ref a], []⟩ [.ref a] [.ref a] _ _ rfl hr e0 (hb s₁ _) (.cons rfl .nil) q) ?_
  rintro (er | (_ | _ | _ | u)) s' h
  · exact (hCX H er s' h).elim
  · exact False.elim h
  · exact False.elim h
  · exact False.elim h
  · obtain ⟨v, H', os, bare, un, hok', r, ev⟩ := h
    subst ev
    cases (show u = Value.bool true from r)
    refine ⟨rfl, OldK.of_keep fun b o e => ?_, os, bare⟩
    rcases hq : H b with _ | u
    · exact un.keep b o e hq (by simp [frs]) (by simp)
    · obtain ⟨_, _, ob, xs, rfl⟩ := hA b u hq
      have h1 := (hok b _ hq).1
      have h2 := (hok' b _ (un.frzs b ob _ hq)).1
      rw [e] at h1
      cases h1
      exact h2
theorem enter_law (KX : K.In s₁.heap) (n1 : s₁.heap.Ns mainGlobals mg) (n2 : s₁.heap.Ns builtinsNs mb) (bb : ∀ x : Str, x ≠ "__name__" → mb x = bootBuiltins x) (nl : s₁.heap.NoLimit) (hg : s₁.gens = #[]) (hr : Room k callerA)
    (obj : s₁.heap.get? a = some { cls := .type "list", data := .seq vs.toArray }) (hi : IntsAre vs ns) (hl : ns.length ≤ sizeLine)
    (F : ∀ base : Heap, K.In base → base.Ns mainGlobals mg → FnG P w K mg base CX k fa fd [x] sp) (hb : ∀ (s : Shared) (u : Value), BindsTo s fd ⟨[u], []⟩ [(x, u)])
    (q : ∀ H : Hp, ScrAt K H a ns → sp [.ref a] H (fun v _ => v = .bl true) fun _ _ _ => False) (hCX : ∀ H e s', CX [] H s₁ (fun _ _ _ => False) e s' → False) :
    codeAny (model P w) callerA (.call (.ref fa) ⟨[.ref a], []⟩) (fun r s' => r = .ok (.ret (.bool true)) ∧ OldK s₁.heap s'.heap ∧ s'.os = s₁.os ∧ AllBare s'.gens) s₁ := by
  have rv := vals_ints hi
  rcases hk : K.lookup a with _ | o
  · have at_a : (if a = a then some (HO.frz { cls := .type "list", data := .seq vs.toArray } (.lst (ns.map V.int))) else none) = some (HO.frz { cls := .type "list", data := .seq vs.toArray } (.lst (ns.map V.int))) := if_pos rfl
    refine enter_at (fun b => if b = a then some (.frz { cls := .type "list", data := .seq vs.toArray } (.lst (ns.map V.int))) else none) KX n1 n2 bb nl hg hr obj (fun b u z => ?_) (fun b u z => ?_) F hb (q _ (.inl ⟨_, at_a⟩)) hCX
    · by_cases hb' : b = a
      · subst hb'
        cases at_a.symm.trans z
        exact ⟨obj, by rw [List.length_map]; exact hl, vs, 0, rv, obj⟩
      · cases (if_neg hb').symm.trans z
    · by_cases hb' : b = a
      · subst hb'
        cases at_a.symm.trans z
        exact ⟨rfl, hk, _, _, rfl⟩
      · cases (if_neg hb').symm.trans z
  · have e := KX a o hk
    rw [obj] at e
    cases e
    refine enter_at (fun _ => none) KX n1 n2 bb nl hg hr obj (fun b u z => by cases z) (fun b u z => by cases z) F hb (q _ (.inr ⟨_, vs.toArray, _, hk, rfl, rfl, rfl, ?_, by simpa using rv⟩)) hCX
    rw [List.size_toArray, hi.length]
    exact hl
end
theorem walk_G {l : PySem.W.OpenLaw} {k : Nat} {q : Program} {loose : List Str} {XP : (Str → Option Value) → Heap → Prop} {YP : World → Heap → Prop} {d : DefRec} {CX : World → CXT} {x : Str} (hn : l.most = some 63) (hdf : d.params.defaults = []) (hr : Room k callerA)
    (F : ∀ (w : World) (mg : Str → Option Value) (fa : Addr) (h : Heap), YP w h → h.Ns mainGlobals mg → mg d.name = some (.ref fa) → ∃ (K : PySem.W.Frag) (fd : FuncData) (sp : Sp), K.In h ∧ (∀ (s : Shared) (u : Value), BindsTo s fd ⟨[u], []⟩ [(x, u)]) ∧
      (∀ (H : Hp) (a : Addr) (ns : List Int), ns.length ≤ 63 → (∀ z ∈ ns, Builtin.Int.intBits z ≤ 1048576) → ScrAt K H a ns → sp [.ref a] H (fun v _ => v = .bl true) fun _ _ _ => False) ∧
        ∀ base : Heap, K.In base → base.Ns mainGlobals mg → FnG l.prog w K mg base (CX w) k fa fd [x] sp)
    (hCX : ∀ (w : World) (H : Hp) (s : Shared) (e : Value) (s' : Shared), CX w [] H s (fun _ _ _ => False) e s' → False) : PySem.W.WalkO q loose XP YP l.row.toRowW d [] (fun f vs => PySem.call f vs) := by
  refine Att.attach_callB hn hdf ?_
  intro w s₀ s₁ mg mb fa o pm cd doc a vs ns G Y ho hd hcd hmg hobj hints hlen hbits hg
  obtain ⟨K, fd, sp, KX, hb, hsp, hF⟩ := F w mg fa _ Y G.T.g hmg
  exact enter_law KX G.T.g G.T.b G.T.builtins G.T.nolimit hg hr hobj hints (Nat.le_trans hlen (by decide)) hF hb (fun H hS => hsp H a ns hlen hbits hS) fun H => hCX w H s₁
/-! ### the head's look: the facts of defs and classes, one more Bool, and that sys.modules stands where it stands -/
def frY (g : Addr → Option Obj) (n : Nat) : PySem.W.Frag := He.frG g (sysModules :: He.asD g n)
/-- sys.modules is written, and is no list -/
def SysOk (K : PySem.W.Frag) : Prop := ∃ o, K.lookup sysModules = some o ∧ o.cls ≠ .type "list"
def sysB (K : PySem.W.Frag) : Bool := match K.lookup sysModules with
  | some o => !decide (o.cls = .type "list")
  | none => false
theorem sysB_ok {K : PySem.W.Frag} (h : sysB K = true) : SysOk K := by
  unfold sysB at h
  rcases e : K.lookup sysModules with _ | o
  · rw [e] at h
    cases h
  · rw [e] at h
    exact ⟨o, e, of_decide_eq_false (by simpa using h)⟩
def obY (n : Nat) (fa : List He.Fa) (fn : List He.DefD) (ex : PySem.W.Frag → Bool) (g : Addr → Option Obj) : He.AlD × Bool := (He.obsD fa fn (frY g n), ex (frY g n) && sysB (frY g n))
structure SaysY (fa : List He.Fa) (fn : List He.DefD) (ex : PySem.W.Frag → Bool) (K : PySem.W.Frag) : Prop where
  d : He.SaysD fa fn K
  e : ex K = true
  m : SysOk K
def hookY (n : Nat) (fa : List He.Fa) (fn : List He.DefD) (ex : PySem.W.Frag → Bool) : PySem.W.Hook where
  α := He.AlD × Bool
  obs := fun s => obY n fa fn ex s.heap.get?
  val := fun _ => (He.valD fn, true)
  says := fun _ h => ∃ K : PySem.W.Frag, K.In h ∧ SaysY fa fn ex K
  of := fun _ _ e => ⟨_, He.frG_in, congrArg Prod.fst e, (He.ba (congrArg Prod.snd e)).1, sysB_ok (He.ba (congrArg Prod.snd e)).2⟩
  keeps := fun _ _ _ ⟨K, hK, c⟩ k => ⟨K, PySem.W.Frag.In.keeps hK k, c⟩
theorem obY_eq {n : Nat} {fa : List He.Fa} {fn : List He.DefD} {ex : PySem.W.Frag → Bool} {g : Addr → Option Obj} {s : Shared} (h : ∀ a, g a = s.heap.get? a) : obY n fa fn ex g = (hookY n fa fn ex).obs s := by
  have e : g = s.heap.get? := funext h
  rw [e]
  rfl
end Gx
namespace Gx
open PySem PySem.Spec PyProof.Rows L2
/-! ### data of any depth, dicts too -/
def kD : Key → PyData
  | .inl i => .int i
  | .inr x => .str x
mutual
inductive Dq (K : PySem.W.Frag) (H : Hp) : V → PyData → Prop
  | non : Dq K H .non .none
  | bl (b : Bool) : Dq K H (.bl b) (.bool b)
  | int (i : Int) : Dq K H (.int i) (.int i)
  | str (x : Str) : Dq K H (.str x) (.str x)
  | lst {a : Addr} {xs : List V} {ds : List PyData} : SqL K H a xs → DqAll K H xs ds → Dq K H (.ref a) (.list ds)
  | tup {a : Addr} {xs : List V} {ds : List PyData} : SqT K H a xs → DqAll K H xs ds → Dq K H (.ref a) (.tuple ds)
  | dic {a : Addr} {kvs : List (Key × V)} {ds : List PyData} : H a = some (.dK kvs) → DqAll K H (kvs.map (·.2)) ds → Dq K H (.ref a) (.dict ((kvs.map fun p => kD p.1).zip ds))
inductive DqAll (K : PySem.W.Frag) (H : Hp) : List V → List PyData → Prop
  | nil : DqAll K H [] []
  | cons {v : V} {vs : List V} {d : PyData} {ds : List PyData} : Dq K H v d → DqAll K H vs ds → DqAll K H (v :: vs) (d :: ds)
end
theorem DqAll.length {K : PySem.W.Frag} {H : Hp} : ∀ {vs : List V} {ds : List PyData}, DqAll K H vs ds → vs.length = ds.length
  | [], _, h => by cases h; rfl
  | _ :: _, _, h => by
    cases h with
    | cons _ h2 => simp [DqAll.length h2]
theorem zip_fst {α β : Type} : ∀ {xs : List α} {ys : List β}, xs.length = ys.length → (xs.zip ys).map (·.1) = xs
  | [], _, _ => rfl
  | x :: xs, [], h => by simp at h
  | x :: xs, y :: ys, h => by simp [zip_fst (xs := xs) (ys := ys) (by simpa using h)]
theorem zip_snd {α β : Type} : ∀ {xs : List α} {ys : List β}, xs.length = ys.length → (xs.zip ys).map (·.2) = ys
  | [], ys, h => by cases ys <;> simp at h ⊢
  | x :: xs, [], h => by simp at h
  | x :: xs, y :: ys, h => by simp [zip_snd (xs := xs) (ys := ys) (by simpa using h)]
theorem reads_key {h : Heap} {k : Key} {v : Value} (e : keyIs k v = true) : Reads h v (kD k) [] := by
  rcases keyIs_shape e with ⟨i, t, rfl, rfl⟩ | ⟨x, t, rfl, rfl⟩
  · exact .int i t
  · exact .str x t
theorem reads_keys {P : Program} {w : World} {h : Heap} : ∀ {es : List DictEntry} {kvs : List (Key × Value)}, PySem.Pairs (mixKind P w) es kvs → ReadsAll h (es.map (·.key)) (kvs.map fun p => kD p.1) []
  | _, _, .nil => .nil
  | _, _, .cons e _ t => .cons (as := []) (bs := []) (reads_key e) (reads_keys t)
theorem pairs_vals {P : Program} {w : World} : ∀ {es : List DictEntry} {kvs : List (Key × Value)}, PySem.Pairs (mixKind P w) es kvs → es.map (·.val) = kvs.map (·.2)
  | _, _, .nil => rfl
  | _, _, .cons _ e t => by simp [e, pairs_vals t]
theorem kv_snd {kvs : List (Key × V)} {vs : List (Key × Value)} (r : KV kvs vs) : Vals (kvs.map (·.2)) (vs.map (·.2)) := by
  unfold KV at r
  induction r with
  | nil => exact .nil
  | cons h _ ih => exact .cons h.2 ih
theorem kv_fst {kvs : List (Key × V)} {vs : List (Key × Value)} (r : KV kvs vs) : kvs.map (fun p => kD p.1) = vs.map (fun p => kD p.1) := by
  unfold KV at r
  induction r with
  | nil => rfl
  | cons h _ ih => simp only [List.map_cons, h.1, ih]
section
variable {X : Cx} {pins : List (Addr × Obj)} {σ : L2.St} {H : Hp} {s : Shared}
theorem sys_free (I : Inv X pins σ H s) (hS : SysOk X.K) : H sysModules = none := by
  obtain ⟨o, ho, _⟩ := hS
  exact (I.bs _ o (I.ok.mod.kin _ _ ho)).2
theorem ne_sys (I : Inv X pins σ H s) (hS : SysOk X.K) {a : Addr} {o : HO} (h : H a = some o) : a ≠ sysModules := fun z => by
  rw [z, sys_free I hS] at h
  cases h
mutual
theorem Dq.reads (I : Inv X pins σ H s) (hS : SysOk X.K) : ∀ {v : V} {d : PyData} {u : Value}, Dq X.K H v d → RelV v u → ∃ as, sysModules ∉ as ∧ Reads s.heap u d as
  | _, _, _, .non, r => by cases r; exact ⟨_, by simp, .none⟩
  | _, _, _, .bl b, r => by cases r; exact ⟨_, by simp, .bool b⟩
  | _, _, _, .int i, r => by obtain ⟨t, rfl⟩ := r; exact ⟨_, by simp, .int i t⟩
  | _, _, _, .str x, r => by obtain ⟨t, rfl⟩ := r; exact ⟨_, by simp, .str x t⟩
  | _, _, _, .lst (a := a) hs ha, r => by
    cases r
    obtain ⟨its, rv, ⟨o, n, ho, hc, _, hd⟩, _⟩ := I.list hs
    obtain ⟨as, h0, hr⟩ := DqAll.reads I hS ha rv
    refine ⟨_, ?_, Reads.list ho hc hd hr⟩
    rw [List.mem_cons]
    rintro (z | z)
    · rcases hs with (q | ⟨_, q⟩) | ⟨o', _, _, q, qc, _⟩
      · exact ne_sys I hS q z.symm
      · exact ne_sys I hS q z.symm
      · rw [← z] at q
        obtain ⟨o2, q2, nl⟩ := hS
        rw [q] at q2
        cases q2
        exact nl qc
    · exact h0 z
  | _, _, _, .tup hs ha, r => by
    cases r
    obtain ⟨its, rv, ⟨o, ho, hc, n, hd⟩, _⟩ := I.tuple hs
    obtain ⟨as, h0, hr⟩ := DqAll.reads I hS ha rv
    exact ⟨_, h0, Reads.tuple ho hc hd hr⟩
  | _, _, _, .dic (a := a) (kvs := kvs) e ha, r => by
    cases r
    obtain ⟨_, hm, vs, rv, o, es, ep, ho, hx, hd, _, hp, _⟩ := (show ObjOk X.prog X.w H s.heap a (.dK kvs) from I.hok a _ e)
    obtain ⟨as, h0, hr⟩ := DqAll.reads I hS ha (kv_snd rv)
    have hl := ha.length
    rw [List.length_map] at hl
    replace hl := (List.length_map (as := kvs) (f := fun p => kD p.1)).trans hl
    refine ⟨a :: [] ++ as, ?_, Reads.dict ho hx.1 hd ?_ ?_⟩
    · intro z
      rcases List.mem_cons.mp z with z | z
      · rw [← z] at hm
        exact absurd hm (by decide)
      · exact h0 z
    · rw [zip_fst hl, kv_fst rv]
      exact reads_keys hp
    · rw [zip_snd hl, pairs_vals hp]
      exact hr
theorem DqAll.reads (I : Inv X pins σ H s) (hS : SysOk X.K) : ∀ {vs : List V} {ds : List PyData} {us : List Value}, DqAll X.K H vs ds → Vals vs us → ∃ as, sysModules ∉ as ∧ ReadsAll s.heap us ds as
  | _, _, _, .nil, r => by cases r; exact ⟨_, by simp, .nil⟩
  | _, _, _, .cons h1 h2, r => by
    cases r with
    | cons r1 r2 =>
      obtain ⟨as, n1, q1⟩ := Dq.reads I hS h1 r1
      obtain ⟨bs, n2, q2⟩ := DqAll.reads I hS h2 r2
      refine ⟨_, ?_, .cons q1 q2⟩
      rw [List.mem_append]
      exact fun z => z.elim n1 n2
end
end
end Gx
namespace Gx
open PySem PySem.Spec PyProof.Rows L2
/-! ### repr -/
/-! ### an exception of an own class as a value: made, by place and by name; asked for its class; its field read -/
/-- at a: an exception of the class at C whose one field f holds v; d is its dict -/
def ExV (H : Hp) (a C : Addr) (f : Str) (v : V) : Prop := ∃ d, H a = some (exo a C (some d)) ∧ H d = some (exd d [(f, v)])
theorem ExV.mono {H H' : Hp} {a C : Addr} {f : Str} {v : V} (k : ∀ b o, H b = some o → H' b = some o) (h : ExV H a C f v) : ExV H' a C f v := by
  obtain ⟨d, h1, h2⟩ := h
  exact ⟨d, k _ _ h1, k _ _ h2⟩
/-- the promise of such an __init__(self, f): self.f = f -/
def spExI (C : Addr) (f : Str) : Sp := fun vs H Q _ => ∃ (a : Addr) (v : V), vs = [.ref a, v] ∧ H a = some (exo a C none) ∧ ∀ d, H d = none → d ≠ a → Q .non (upd (upd H d (exd d [(f, v)])) a (exo a C (some d)))
end Gx
namespace Gx
open PySem PySem.Spec PyProof.Rows L2
/-- what is known of such a class -/
structure ExK (P : Program) (w : World) (K : PySem.W.Frag) (mg : Str → Option Value) (base : Heap) (x : Str) (C : Addr) (f : Str) (fI : Addr) (fd : FuncData) : Prop where
  T : OexC K C
  i : PySem.W.findIn K (.ref C) "__init__" = some (some (.ref fI))
  t : PySem.W.typeIn K (.ref fI) = some (.type "function")
  F : FnOk P w K mg base CX0 1 fI fd ["self", f] (spExI C f)
  b : Binds K fd ["self", f] []
  kb : KBn K fd ["self", f] 1 [f] (fun us ws => us ++ ws) (fun vs zs => vs ++ zs)
  g : mg x = some (.ref C)
theorem kb_one {K : PySem.W.Frag} {x qual : Str} {params : Arguments} {body : List Stmt} {scope : Scope} {kws : List (Str × V)} {f : Addr} {fd : FuncData} {ps : List Str} {n : Str} (D : FunD K x qual params body scope [] kws f fd)
    (h : ∀ (kV doc pm : Value) (an : Option Addr) (cdv ct u v : Value), bindArgs (PySem.W.fnOf x qual params body scope .none kV doc pm an cdv ct) ⟨[u], [(n, v)]⟩ = pure (ps.zip [u, v])) : KBn K fd ps 1 [n] (fun us ws => us ++ ws) (fun vs zs => vs ++ zs) := by
  obtain ⟨oc, od, dV, kV, doc, pm, an, cdv, ct, osl, rfl, lk, hcd, hD, hK⟩ := D.ex
  rcases hD with ⟨_, rfl⟩ | ⟨e, _⟩
  · refine ⟨fun s us ws _ h1 h2 => ?_, fun a b => a.append b⟩
    match us, h1 with
    | [u], _ =>
      match ws, h2 with
      | [v], _ => exact .of_eq (h kV doc pm an cdv ct u v)
  · exact absurd rfl e
/-! ### isinstance of such a value; its field -/

/-! ### isinstance of such a value; its field -/
end Gx
namespace Gx
open PySem PySem.Spec PyProof.Rows L2
theorem add_lt_pow {a b : Int} {k : Nat} (ha : a.natAbs < 2 ^ k) (hb : b.natAbs < 2 ^ k) : (a + b).natAbs < 2 ^ (k + 1) := by
  have h := Int.natAbs_add_le a b
  rw [Nat.pow_succ]
  omega
theorem bits_add {a b : Int} {k : Nat} (ha : Builtin.Int.intBits a ≤ k) (hb : Builtin.Int.intBits b ≤ k) : Builtin.Int.intBits (a + b) ≤ k + 1 := bits_of_lt (add_lt_pow (lt_of_bits ha) (lt_of_bits hb))
theorem bits_mono {a : Int} {j k : Nat} (h : Builtin.Int.intBits a ≤ j) (l : j ≤ k) : Builtin.Int.intBits a ≤ k := Nat.le_trans h l
/-! ### a def by its name, ready to be called -/
structure Ca (P : Program) (w : World) (K : PySem.W.Frag) (mg : Str → Option Value) (base : Heap) (CX : CXT) (k : Nat) (x : Str) (sp : Sp) : Prop where
  ex : ∃ f fd ps, FnOk P w K mg base CX k f fd ps sp ∧ Binds K fd ps [] ∧ mg x = some (.ref f) ∧ PySem.W.keepIn K (.ref f) = true
section
variable {X : Cx} {CX : CXT} {k : Nat} {sp : Sp} {E : XK} {x : Str} {p pos : Pos} {e : Expr} {es : List Expr} {t : TA}
theorem pe_ca (c : Ca X.prog X.w X.K X.mg X.base CX k x sp) (hr : Room k X.A) (hg : Gl X x) (hx : Passes CX X E) (ha : PA X (e :: es) t) (hdb : (x == ("__debug__" : Str)) = false := by decide) (he : starEach (e :: es) X.env = (false, eval e X.env) :: starEach es X.env := by rfl)
    (hpl : (backTo pos (starEach es X.env)).any (·.1) = false := by rfl) : PE X (.Call (.Name x p) (e :: es) [] pos) (tCall sp [] E t) := by
  obtain ⟨f, fd, ps, F, hb, hm, hk⟩ := c.ex
  exact pe_call F hr hg hm hk hb .nil hx ha hdb he hpl
end
/-! ### an own exception class over ValueError, by one Bool -/
def oexB (K : PySem.W.Frag) (C : Addr) : Bool := match K.lookup C with
  | some ⟨.type "type", _, .cls cd, sl⟩ => (match cd.mro, sl.toList with
    | .ref D :: bm, [_, _, _, _, some (.builtin n), _] => decide (D = C) && (decide (n = "ValueError.__new__") && (!cd.hasDel && (cd.hasDict && PySem.HandSPX.refsVE bm)))
    | _, _ => false)
  | _ => false
theorem oexB_ok {K : PySem.W.Frag} {C : Addr} (h : oexB K C = true) :
    ∃ nm q N bs bm sn sub ab col dd k0 k1 k2 k3 k5, K.lookup C = some (excClassObj nm q C N bs bm true sn sub ab col dd k0 k1 k2 k3 k5 "ValueError.__new__") ∧ PySem.HandSPX.refsVE bm = true := by
  unfold oexB at h
  split at h
  · rename_i dd cd sl ho
    split at h
    · rename_i D bm k0 k1 k2 k3 n k5 hm hs
      simp only [Bool.and_eq_true, decide_eq_true_eq, Bool.not_eq_true'] at h
      obtain ⟨rfl, rfl, hdel, hdct, hb⟩ := h
      obtain ⟨nm, bs, mro, ns, qn, hd, sn, sub, ab, col, del⟩ := cd
      obtain ⟨l⟩ := sl
      dsimp only at hm hdel hdct hs
      subst hm hdel hdct hs
      exact ⟨nm, qn, ns, bs, bm, sn, sub, ab, col, dd, k0, k1, k2, k3, k5, ho, hb⟩
    · cases h
  · cases h
/-- all that is asked of such a class x with its one field f -/
def exB (K : PySem.W.Frag) (x f : Str) : Bool :=
  oexB K (He.ga K x) && (decide (PySem.W.findIn K (.ref (He.ga K x)) "__setattr__" = some (some (.builtin "object.__setattr__"))) && (decide (PySem.W.subIn K (.ref (He.ga K x)) (.type "BaseException") = some true) && (decide (PySem.W.typeIn K (.ref (He.ga K x)) = some (.type "type")) &&
  (PySem.W.keepIn K (.ref (He.ga K x)) && (decide (PySem.W.findIn K (.ref (He.ga K x)) "__init__" = some (some (.ref (He.ma K (He.ga K x) "__init__")))) && (decide (PySem.W.typeIn K (.ref (He.ma K (He.ga K x) "__init__")) = some (.type "function")) &&
  (decide (PySem.W.findIn K (.ref (He.ga K x)) "__getattribute__" = some (some (.builtin "BaseException.__getattribute__"))) && (decide (PySem.W.findIn K (.ref (He.ga K x)) "__getattr__" = some none) && (PySem.W.hasDictIn K (He.ga K x) &&
  (decide (PySem.W.findIn K (.ref (He.ga K x)) "__class__" = some (some (.builtin "object.__class__"))) && (decide (PySem.W.specialIn K (.builtin "object.__class__") "__get__" = some (some (.builtin "getset_descriptor.__get__"))) && (decide (PySem.W.takesIn K (.builtin "object.__class__") = some true) &&
  (decide (PySem.W.mroIn K (He.ga K x) (.type "object") = some true) && decide (PySem.W.findIn K (.ref (He.ga K x)) f = some none))))))))))))))
structure ExB (K : PySem.W.Frag) (x f : Str) : Prop where
  T : OexC K (He.ga K x)
  i : PySem.W.findIn K (.ref (He.ga K x)) "__init__" = some (some (.ref (He.ma K (He.ga K x) "__init__")))
  t : PySem.W.typeIn K (.ref (He.ma K (He.ga K x) "__init__")) = some (.type "function")
  C : ExcC K (He.ga K x)
  X : XfC K (He.ga K x)
  no : PySem.W.findIn K (.ref (He.ga K x)) f = some none
theorem exB_ok {K : PySem.W.Frag} {x f : Str} (h : exB K x f = true) : ExB K x f := by
  simp only [exB, Bool.and_eq_true, decide_eq_true_eq] at h
  obtain ⟨h1, h2, h3, h4, h5, h6, h7, h8, h9, h10, h11, h12, h13, h14, h15⟩ := h
  exact ⟨⟨oexB_ok h1, h2, h3, h4, h5⟩, h6, h7, ⟨h8, h9, h3, h10, h11, h12, h13, h14⟩, ⟨h8, h9, h3, h10⟩, h15⟩
end Gx
namespace Gx
open PySem PySem.Spec PyProof.Rows L2
theorem upd_old {H : Hp} {a p : Addr} {o u : HO} (h : H a = some o) (hp : H p = none) : upd H p u a = some o := by rw [upd_ne (ne_of_none h hp)]; exact h
theorem Same.new {H : Hp} {p : Addr} {o : HO} (hp : H p = none) : Same H (upd H p o) := fun _ _ h => upd_old h hp
/-- a new object: the heap is from then on a letter -/
theorem laid {H H1 : Hp} {p : Addr} {o : HO} (g : upd H p o = H1) (h : H p = none) : Same H H1 ∧ H1 p = some o ∧ ∀ b, b ≠ p → H1 b = H b := by
  subst g
  exact ⟨Same.new h, upd_same, fun _ hb => upd_ne hb⟩
theorem Same.over {H H' : Hp} {p : Addr} {o : HO} (k : Same H H') (h : H p = none) : Same H (upd H' p o) := fun b o' e => by
  rw [upd_ne (ne_of_none e h)]
  exact k _ _ e
theorem SqL.same {K : PySem.W.Frag} {H H' : Hp} {a : Addr} {xs : List V} (h : SqL K H a xs) (k : Same H H') : SqL K H' a xs := k.seq h
theorem SqT.same {K : PySem.W.Frag} {H H' : Hp} {a : Addr} {xs : List V} (h : SqT K H a xs) (k : Same H H') : SqT K H' a xs := by
  rcases h with (h | ⟨o, h⟩) | h
  · exact .inl (.inl (k _ _ h))
  · exact .inl (.inr ⟨o, k _ _ h⟩)
  · exact .inr h
mutual
theorem Dq.same {K : PySem.W.Frag} {H H' : Hp} (k : Same H H') : ∀ {v : V} {d : PyData}, Dq K H v d → Dq K H' v d
  | _, _, .non => .non
  | _, _, .bl b => .bl b
  | _, _, .int i => .int i
  | _, _, .str x => .str x
  | _, _, .lst h1 h2 => .lst (SqL.same h1 k) (DqAll.same k h2)
  | _, _, .tup h1 h2 => .tup (SqT.same h1 k) (DqAll.same k h2)
  | _, _, .dic h1 h2 => .dic (k _ _ h1) (DqAll.same k h2)
theorem DqAll.same {K : PySem.W.Frag} {H H' : Hp} (k : Same H H') : ∀ {vs : List V} {ds : List PyData}, DqAll K H vs ds → DqAll K H' vs ds
  | _, _, .nil => .nil
  | _, _, .cons h1 h2 => .cons (Dq.same k h1) (DqAll.same k h2)
end
theorem none_old {H H' : Hp} {p : Addr} (s : Same H H') (h : H' p = none) : H p = none := Same.free s h
end Gx
/-! an own ==, and != by it; == of dicts of data, both answers; dict comprehensions over any walk; a written tuple of texts -/
namespace Gx
open PySem PySem.Spec PyProof.Rows L2
theorem ne_slot : Slot "object" "__ne__" "object.__ne__" :=
  Slot.of (T := "object") (name := "__ne__") (owner := "object") (n := "__ne__") (by rw [typeLookup_type, builtinLookup_eq_fast]; kernel_rfl) (by decide +kernel) (by decide +kernel) (by decide +kernel) (.inl (by decide +kernel)) (by rw [isSubtype_type]; kernel_rfl)
section
variable {P : Program} {w : World} {A : Around} {E : Value → Shared → Prop} {s : Shared} {K : PySem.W.Frag} {x C f : Addr} {ox : Obj} {od : Option Obj} {b tb : Value}
theorem ifBound_ne {M : Model} {Q : Option Value → Shared → Prop} (X : K.In s.heap) (I : PySem.W.InstAt s.heap x ox C od) (hs : PySem.W.findIn K (.ref C) "__ne__" = some (some (.builtin "object.__ne__")))
    (h : wpAny M A (call (.builtin "object.__ne__") [.ref x, b]) (fun v => Q (some v)) E s) : wpAny M A (callSpecialIfBound? (.ref x) "__ne__" [b]) Q E s := by
  have bd := ne_slot.bind (.ref x)
  have fin : wpAny M A (call (.builtin "object.__ne__") ([.ref x] ++ [b]) >>= fun v => pure (some v)) Q E s := wpAny_bind (wpAny_mono h (fun v _ z => wpAny_pure z) fun _ _ z => z)
  simp only [callSpecialIfBound?, bindSpecialIfBound?]
  refine wpAny_holding (wpAny_bind (wpAny_bind (wpAny_bind (I.type.here ((PySem.W.looks_findIn X hs).here ?_)))))
  refine wpAny_bind (wpAny_askSetting (wpAny_ite ?_))
  rw [bd]
  split
  · exact wpAny_bind (wpAny_pure (wpAny_pure (by exact fin)))
  · exact wpAny_tryCatch (wpAny_bind (wpAny_pure (wpAny_pure (by exact fin))))
theorem call_ne {Q : Value → Shared → Prop} (hu : A.units + 1 < cLine) (X : K.In s.heap) (I : PySem.W.InstAt s.heap x ox C od) (ho : PySem.W.subIn K (.ref C) (.type "object") = some true) (hs : PySem.W.findIn K (.ref C) "__eq__" = some (some (.ref f))) (hf : PySem.W.isFn K (.ref f) = true)
    (h : wpAny (model P w) A.in1 (call (.ref f) [.ref x, b]) (fun r s' => ∃ k, r = .bool k ∧ Q (.bool (!k)) s') E s) : wpAny (model P w) A (call (.builtin "object.__ne__") [.ref x, b]) Q E s := by
  have is : PySem.W.Looks (model P w) s.heap (isInstance (.ref x) (.type "object")) true := by
    unfold isInstance
    exact PySem.W.Looks.andThen I.type (PySem.W.looks_subIn X ho)
  refine wpAny_call (codeAny_call_builtin ne_slot.plain PySem.F.cmpEntry_ne (PySem.W.check_slot PySem.F.cmpKind_ne PySem.F.cmpSplit_ne is (PySem.F.cmpArgs_ne _ _) ?_))
  have hu2 : A.in1.units < cLine := hu
  unfold Builtin.«object.__ne__»
  refine wpAny_bind (wpAny_pure ?_)
  dsimp only
  refine wpAny_bind (wpAny_cRoomFor hu2 ?_)
  refine wpAny_bind (PySem.W.ifBound_K X I hs hf (wpAny_mono h (fun r s' hr => ?_) fun _ _ e => e))
  obtain ⟨k, rfl, hq⟩ := hr
  refine wpAny_bind (wpAny_truthy_bool ?_)
  exact wpAny_pure hq
theorem rich_ne {Q : Value → Shared → Prop} (hu : A.units + 1 < cLine) (X : K.In s.heap) (I : PySem.W.InstAt s.heap x ox C od) (hb : PySem.W.Looks (model P w) s.heap (typeOf b) tb) (hn : PySem.W.notFirst K C tb = true) (ho : PySem.W.subIn K (.ref C) (.type "object") = some true)
    (hd : PySem.W.findIn K (.ref C) "__ne__" = some (some (.builtin "object.__ne__"))) (hs : PySem.W.findIn K (.ref C) "__eq__" = some (some (.ref f))) (hf : PySem.W.isFn K (.ref f) = true)
    (h : wpAny (model P w) A.in1 (call (.ref f) [.ref x, b]) (fun r s' => ∃ k, r = .bool k ∧ Q (.bool (!k)) s') E s) : wpAny (model P w) A (richCompare .NotEq (.ref x) b) Q E s := by
  have one : wpAny (model P w) A (tryCompare (.ref x) "__ne__" b) (fun r s' => ∃ k, r = some (.bool k) ∧ Q (.bool k) s') E s := by
    unfold tryCompare
    refine wpAny_bind (ifBound_ne X I hd (call_ne hu X I ho hs hf (wpAny_mono h (fun r s' z => ?_) fun _ _ e => e)))
    obtain ⟨k, rfl, q⟩ := z
    exact ⟨k, rfl, wpAny_pure ⟨_, rfl, q⟩⟩
  have last : wpAny (model P w) A (tryCompare (.ref x) "__ne__" b >>= fun r => match r with | some v => pure v | none => pure .none) Q E s := by
    refine wpAny_bind (wpAny_mono one (fun r s' z => ?_) fun _ _ e => e)
    obtain ⟨k, rfl, q⟩ := z
    exact wpAny_pure q
  unfold richCompare
  simp only [oneThing_ref]
  refine wpAny_holding (wpAny_bind (wpAny_cRoomFor (by omega) ?_))
  refine wpAny_bind (I.type.here (wpAny_bind (hb.here ?_)))
  have go : wpAny (model P w) A (tryCompare (.ref x) (cmpInfo .NotEq).2.1 b) (fun r s' => ∃ k, r = some (.bool k) ∧ Q (.bool k) s') E s := one
  split
  · rename_i q
    have e : PySem.W.subIn K tb (.ref C) = some false := by
      rcases Bool.or_eq_true_iff.mp hn with e | e
      · rw [beq_iff_eq.mp e] at q
        simp at q
      · exact beq_iff_eq.mp e
    refine wpAny_bind ((PySem.W.looks_subIn X e).here ?_)
    simp only [Bool.false_eq_true, if_false]
    refine wpAny_bind (wpAny_mono go (fun r s' z => ?_) fun _ _ e => e)
    obtain ⟨k, rfl, q⟩ := z
    exact wpAny_pure q
  · refine wpAny_bind (wpAny_pure ?_)
    simp only [Bool.false_eq_true, if_false]
    refine wpAny_bind (wpAny_mono go (fun r s' z => ?_) fun _ _ e => e)
    obtain ⟨k, rfl, q⟩ := z
    exact wpAny_pure q
end
/-- x == y, x != y where x is an instance of the class at C with an == of its own, y of a type that doesn't go first: the promise of __eq__ at both, its answer a bool -/
def rOwn (K : PySem.W.Frag) (C : Addr) (sp : Sp) (E : XK) (neg : Bool) : R2 := fun x y H Q => ∃ a dx fs T, x = .ref a ∧ H a = some (.ins C dx fs) ∧ TyX K H y T ∧ PySem.W.notFirst K C T = true ∧ sp [x, y] H (fun v H' => ∃ k, v = .bl k ∧ Q (.bl (neg != k)) H') E
section
variable {X : Cx} {CX : CXT} {n : Nat} {C f : Addr} {fd : FuncData} {ps : List Str} {sp : Sp} {E : XK}
theorem op_eqO (F : FnOk X.prog X.w X.K X.mg X.base CX n f fd ps sp) (hs : PySem.W.findIn X.K (.ref C) "__eq__" = some (some (.ref f))) (hf : PySem.W.isFn X.K (.ref f) = true) (hb : Binds X.K fd ps []) (hx : Passes CX X E) (hr : Room n X.A) : OpR X (compareOp .Eq) (rOwn X.K C sp E false) := by
  intro pins s σ H x y v u Q I rx ry h
  obtain ⟨a, dx, fs, T, rfl, ea, ty, nf, q⟩ := h
  cases rx
  obtain ⟨mA, J, _⟩ := ins_get I.hok ea
  obtain ⟨od, J, _⟩ := J.look
  obtain ⟨Pz, Z, pz, _⟩ := kit_of I ry ty
  obtain ⟨m, hF⟩ := I.fr
  have lk : PySem.W.Looks (model X.prog X.w) s.heap (typeOf u) T := Z.ty _ _ I.kIn pz
  show wpAny _ _ (richCompare .Eq (.ref a) u) _ _ _
  refine PySem.W.cmp_K (op := .Eq) (tb := T) hr.units0 hF I.ok.mod.kin J lk nf hs hf ?_
  refine wpAny_mono (run_fn (us := [.ref a, u]) (vs := [.ref a, y]) F hr hb .nil hx I (.cons rfl (.cons ry .nil)) q) (fun r s' z => ?_) fun _ _ e => e
  obtain ⟨w, H', I', rw_, k, rfl, q⟩ := z
  cases rw_
  have e : (false != k) = k := by cases k <;> rfl
  rw [e] at q
  exact ⟨.bl k, H', I', rfl, q⟩
theorem op_neO (F : FnOk X.prog X.w X.K X.mg X.base CX n f fd ps sp) (hs : PySem.W.findIn X.K (.ref C) "__eq__" = some (some (.ref f))) (hf : PySem.W.isFn X.K (.ref f) = true) (ho : PySem.W.subIn X.K (.ref C) (.type "object") = some true)
    (hd : PySem.W.findIn X.K (.ref C) "__ne__" = some (some (.builtin "object.__ne__"))) (hb : Binds X.K fd ps []) (hx : Passes CX X E) (hr : Room (n + 1) X.A) (hu : X.A.units + 1 < cLine) : OpR X (compareOp .NotEq) (rOwn X.K C sp E true) := by
  intro pins s σ H x y v u Q I rx ry h
  obtain ⟨a, dx, fs, T, rfl, ea, ty, nf, q⟩ := h
  cases rx
  obtain ⟨mA, J, _⟩ := ins_get I.hok ea
  obtain ⟨od, J, _⟩ := J.look
  obtain ⟨Pz, Z, pz, _⟩ := kit_of I ry ty
  have lk : PySem.W.Looks (model X.prog X.w) s.heap (typeOf u) T := Z.ty _ _ I.kIn pz
  show wpAny _ _ (richCompare .NotEq (.ref a) u) _ _ _
  refine rich_ne hu I.kIn J lk nf ho hd hs hf ?_
  have hl := F.len _ _ _ _ q
  refine wpAny_call (codeAny_mono (F.run X.A.in1 X.stack s H ⟨[.ref a, u], []⟩ [.ref a, u] [.ref a, y] _ E hr.in1 I.env0.in1 (by
    have := hb s [.ref a, u] I.kIn (by simpa using hl)
    simpa using this) (.cons rfl (.cons ry .nil)) q) fun r s' z => ?_)
  rcases r with e | (_ | _ | _ | u2)
  · exact hx pins σ H s e s' I z
  · exact False.elim z
  · exact False.elim z
  · exact False.elim z
  · obtain ⟨v2, H', I', rv, k, rfl, q⟩ := I.after z
    cases rv
    refine ⟨k, rfl, .bl (!k), H', I', rfl, ?_⟩
    have e : (true != k) = !k := by cases k <;> rfl
    rw [e] at q
    exact q
end
end Gx
/-! == of dicts of data, both answers; dict comprehensions over any walk; a written tuple of texts -/
namespace Gx
open PySem PySem.Spec PyProof.Rows L2
theorem valV_at {κ : Type} [DecidableEq κ] : ∀ {ls : List (κ × V)} {i : Nat} {k : κ} {u : V}, (ls.map (·.1)).Nodup → ls[i]? = some (k, u) → valV ls k = some u
  | [], i, k, u, _, h => by simp at h
  | p :: r, 0, k, u, _, h => by
    simp at h
    subst h
    exact valV_pos rfl
  | p :: r, i + 1, k, u, nd, h => by
    simp only [List.getElem?_cons_succ] at h
    simp only [List.map_cons, List.nodup_cons] at nd
    have hk : k ∈ r.map (·.1) := List.mem_map.mpr ⟨(k, u), List.mem_of_getElem? h, rfl⟩
    rw [valV_neg (fun e => nd.1 (e ▸ hk))]
    exact valV_at nd.2 h
section
variable {X : Cx} {pins : List (Addr × Obj)} {σ : L2.St} {H : Hp} {s : Shared}
theorem hits_dd (I : Inv X pins σ H s) {A : Around} (hu : A.units + 64 < cLine) {ls : List (Key × V)} {vb : List (Key × Value)} (rb : KV ls vb) : ∀ {ks : List (Key × V)} {va : List (Key × Value)} {xs : List V} {ds es : List PyData}, KV ks va → DpAll X.K H (ks.map (·.2)) ds → DpAll X.K H xs es →
    Paired (fun (p : Key × V) u => valV ls p.1 = some u) ks xs → (∀ d ∈ ds, SeqAt.shaped d = true) → (∀ d ∈ es, SeqAt.shaped d = true) → PySem.W.KeqHitsP X.prog X.w A s vb va (PyData.eqvAll ds es)
  | [], va, xs, ds, es, ra, hd, he, hp, sd, se => by
    cases ra
    cases hp
    cases hd
    cases he
    exact .nil
  | p :: ks, va, xs, ds, es, ra, hd, he, hp, sd, se => by
    cases ra with
    | @cons _ q _ qs r1 r2 =>
    cases hp with
    | @cons _ u _ us p1 p2 =>
    cases hd with
    | @cons _ _ d ds d1 d2 =>
    cases he with
    | @cons _ _ e es e1 e2 =>
    have rr : RelO (some u) (valueAt vb p.1) := by rw [← p1]; exact rb.val p.1
    obtain ⟨y, hy, ry⟩ := rr.some_of
    obtain ⟨key, v⟩ := q
    obtain ⟨h1, h2⟩ := r1
    rw [show p.1 = key from h1] at hy
    obtain ⟨as, a1⟩ := Dp.reads I d _ _ d1 h2
    obtain ⟨bs, b1⟩ := Dp.reads I e _ _ e1 ry
    have z1 := sd d List.mem_cons_self
    have z2 := se e List.mem_cons_self
    have eq : SeqAt.EqP X.prog X.w A s v y (PyData.eqv d e) := (SeqAt.eqAt_reads d e A s v y as bs a1 b1 (SeqAt.canLay_of_shaped z1) (SeqAt.canLay_of_shaped z2) (SeqAt.room_of_shaped z1 hu)).eqP
    rw [show PyData.eqvAll (d :: ds) (e :: es) = (PyData.eqv d e && PyData.eqvAll ds es) from by simp only [PyData.eqvAll]]
    exact .hit hy eq (hits_dd I hu rb r2 d2 e2 p2 (fun x hx => sd x (List.mem_cons_of_mem _ hx)) (fun x hx => se x (List.mem_cons_of_mem _ hx)))
end
/-- a == b, two dicts whose keys are the same in the same sequence, their values data -/
def rEqDD (K : PySem.W.Frag) : R2 := fun x y H Q => ∃ (a b : Addr) (ks ls : List (Key × V)) (ds es : List PyData), x = .ref a ∧ y = .ref b ∧ H a = some (.dK ks) ∧ H b = some (.dK ls) ∧ ks.map (·.1) = ls.map (·.1) ∧ (ls.map (·.1)).Nodup ∧ DpAll K H (ks.map (·.2)) ds ∧ DpAll K H (ls.map (·.2)) es ∧
  (∀ d ∈ ds, SeqAt.shaped d = true) ∧ (∀ d ∈ es, SeqAt.shaped d = true) ∧ Q (.bl (PyData.eqvAll ds es)) H
theorem vals_at {ls : List (Key × V)} : ∀ {ks rs : List (Key × V)}, ks.map (·.1) = rs.map (·.1) → (∀ r ∈ rs, valV ls r.1 = some r.2) → Paired (fun (p : Key × V) u => valV ls p.1 = some u) ks (rs.map (·.2))
  | [], [], _, _ => .nil
  | [], _ :: _, h, _ => by simp at h
  | _ :: _, [], h, _ => by simp at h
  | k :: ks, r :: rs, h, w => by
    simp only [List.map_cons, List.cons.injEq] at h
    exact .cons (by rw [h.1]; exact w r List.mem_cons_self) (vals_at h.2 fun x hx => w x (List.mem_cons_of_mem _ hx))
section
variable {X : Cx}
theorem op_eqDD (hu : X.A.units + 65 < cLine) : OpR X (compareOp .Eq) (rEqDD X.K) := by
  intro pins s σ H x y v u Q I rx ry h
  obtain ⟨a, b, ks, ls, ds, es, rfl, rfl, ea, eb, hk, nd, d1, d2, s1, s2, q⟩ := h
  cases rx
  cases ry
  obtain ⟨_, ya, va, ra, da⟩ := (show ObjOk X.prog X.w H s.heap a (.dK ks) from I.hok a _ ea)
  obtain ⟨_, yb, vb, rb, db⟩ := (show ObjOk X.prog X.w H s.heap b (.dK ls) from I.hok b _ eb)
  have hl : ks.length = ls.length := by simpa using congrArg List.length hk
  have hp : Paired (fun (p : Key × V) u => valV ls p.1 = some u) ks (ls.map (·.2)) := vals_at hk fun r hr => by
    obtain ⟨i, hi, e⟩ := List.mem_iff_getElem.mp hr
    exact valV_at (i := i) nd (by rw [List.getElem?_eq_getElem hi, e])
  refine PySem.W.rcP_dicts (knd := mixKind X.prog X.w) (r := PyData.eqvAll ds es) ya yb da db (by omega) (fun _ => hits_dd I (A := X.A.in1) (by show X.A.units + 1 + 64 < cLine; omega) rb ra d1 d2 hp s1 s2) _ _ ?_
  have e : va.length = vb.length := by rw [← ra.length, ← rb.length]; exact hl
  rw [show (va.length == vb.length && PyData.eqvAll ds es) = PyData.eqvAll ds es from by rw [e]; simp]
  exact ⟨.bl _, H, I, rfl, q⟩
end
/-- a dict comprehension over any walk -/
theorem dc_it {J : It} {n : Nat} {G : Hp → Prop} {Y : Nat → Hp → V → Hp → Prop} (w : Walk J n G Y) {g : TG} {tt : TT} {tk tv : TE} {vs : List Nat} {σ : L2.St} {H1 : Hp} {D : Addr} {Qd : Hp → Prop} (Pv : Nat → Hp → Prop) (h0 : Pv 0 (upd H1 D (.dK []))) (hG : ∀ i H, i ≤ n → Pv i H → G H)
    (hs : ∀ i x H H', i < n → Pv i H → Y i H x H' → g x (wipe σ vs) H' fun σ2 H2 => wipe σ2 vs = wipe σ vs ∧ tt σ2 H2 fun b H3 =>
      if b = true then tk σ2 H3 fun y H4 => tv σ2 H4 fun z H5 => ∃ kvs k, y = kV k ∧ H5 D = some (.dK kvs) ∧ kvs.length < sizeLine ∧ Pv (i + 1) (upd H5 D (.dK (putK kvs k z))) else Pv (i + 1) H3) (hd : ∀ H, Pv n H → Qd H) :
    ∃ W : Nat → Nat → Hp → Prop, (∃ m, W 0 m (upd H1 D (.dK []))) ∧ ∀ i m H, W i m H →
      (J.stop i H ∧ Qd H) ∨ (J.go i H ∧ ∃ Nx : Hp → Prop, (∀ H', Nx H' → ∃ m', m' < m ∧ W (i + 1) m' H') ∧ ∀ x H', J.yld i H x H' → g x (wipe σ vs) H' fun σ2 H2 => wipe σ2 vs = wipe σ vs ∧ tt σ2 H2 fun b H3 =>
        if b = true then tk σ2 H3 fun y H4 => tv σ2 H4 fun z H5 => ∃ kvs k, y = kV k ∧ H5 D = some (.dK kvs) ∧ kvs.length < sizeLine ∧ Nx (upd H5 D (.dK (putK kvs k z))) else Nx H3) := by
  refine ⟨fun i m H => m = n - i ∧ i ≤ n ∧ Pv i H, ⟨n, by omega, Nat.zero_le _, h0⟩, fun i m H ⟨em, hi, p⟩ => ?_⟩
  subst em
  rcases Nat.lt_or_ge i n with lt | ge
  · exact .inr ⟨w.goes i H lt (hG i H hi p), Pv (i + 1), fun H' p' => ⟨n - (i + 1), by omega, rfl, lt, p'⟩, fun x H' y => hs i x H H' lt p (w.yields i H x H' lt (hG i H hi p) y)⟩
  · obtain rfl : i = n := by omega
    exact .inl ⟨w.stops H (hG i H hi p), hd H p⟩
/-- the object at a is a written tuple of these texts -/
def tupB (K : PySem.W.Frag) (a : Addr) (ss : List Str) : Bool := match K.lookup a with
  | some ⟨.type "tuple", _, .seq its _, _⟩ => (decide (its.size ≤ sizeLine)) && (its.toList.map fun v => match v with | .str x _ => some x | _ => none) == ss.map some
  | _ => false
theorem tupB_ok {K : PySem.W.Frag} {a : Addr} {ss : List Str} (h : tupB K a ss = true) (H : Hp) : SqT K H a (ss.map V.str) := by
  unfold tupB at h
  split at h
  · rename_i dd its n sl e
    obtain ⟨h1, h2⟩ := Bool.and_eq_true_iff.mp h
    refine .inr ⟨_, its, n, e, rfl, rfl, of_decide_eq_true h1, ?_⟩
    replace h2 := beq_iff_eq.mp h2
    clear h h1 e
    generalize its.toList = l at h2
    induction l generalizing ss with
    | nil =>
      cases ss with
      | nil => exact .nil
      | cons _ _ => simp at h2
    | cons v l ih =>
      cases ss with
      | nil => simp at h2
      | cons x ss =>
        simp only [List.map_cons, List.cons.injEq] at h2
        refine .cons ?_ (ih h2.2)
        obtain ⟨h3, _⟩ := h2
        split at h3
        · rename_i y t
          cases h3
          exact ⟨t, rfl⟩
        · cases h3
  · cases h
end Gx
/-! a value's place in a tuple of texts, any data as the value -/
namespace Gx
open PySem PySem.Spec PyProof.Rows PySem.SeqAt L2
theorem str_eq_dict (b : Str) (u : Tok) (l : Addr) (od : Option Addr) (es : Array DictEntry) (ep : Nat) (sl : Array (Option Value)) :
    Meets (Builtin.«str.__eq__» ⟨[.str b u, .ref l], []⟩) (fun _ R s => s.heap.get? l = some ⟨.type "dict", od, .dict es ep, sl⟩ ∧ R (.ok (.ret .notImplemented)) s) :=
  .of_wp fun prog w A R s h => by
    obtain ⟨hp, g, d, tk, os⟩ := s
    obtain ⟨hl, h⟩ := h
    have f1 := PySem.F.sub_dict_str
    wp_walk using wpAny_loadPart' hl, wpAny_load hl
    exact ⟨_, rfl, h⟩
/-- a dict stands there -/
def DictAt (h : Heap) (l : Addr) : Prop := ∃ od es ep sl, h.get? l = some ⟨.type "dict", od, .dict es ep, sl⟩
theorem dictAt_of {K : Type} [DecidableEq K] {P : Program} {w : World} {knd : KeyKind P w K} {h : Heap} {l : Addr} {kvs : List (K × Value)} (d : h.DictOf knd l kvs) : DictAt h l := by
  obtain ⟨⟨c, od, dt, sl⟩, es, ep, ho, hx, hd, _⟩ := d
  obtain ⟨h1, _⟩ := hx
  simp only at h1 hd
  subst h1 hd
  exact ⟨od, es, ep, sl, ho⟩
section
variable {A : Around} {s : Shared}
theorem eqAt_str_dict {l : Addr} (b : Str) (u : Tok) (dd : DictAt s.heap l) (hu : A.units < cLine) : EqAt A s (.str b u) (.ref l) false := fun prog w E Q h => by
  obtain ⟨od, es, ep, sl, ho⟩ := dd
  have ty : s.TypeIs (.ref l) "dict" := ⟨_, ho, rfl⟩
  have back : ∀ Q' : Value → Shared → Prop, Q' .notImplemented s → wpAny (model prog w) A (call (.builtin "dict.__eq__") [.ref l, .str b u]) Q' E s := by
    intro Q' hq
    refine wpAny_call_entry PySem.F.slot_dict_eq_refl ty PySem.F.entry_dict_eq ?_ (PySem.F.args_dict_eq_2 _ _)
    show wpAny _ _ (Builtin.Dict.dictSlotArgs "__eq__" ⟨[.ref l, .str b u], []⟩ >>= _) _ _ s
    refine wpAny_bind ?_
    unfold Builtin.Dict.dictSlotArgs
    refine wpAny_bind (wpAny_notOrdered_dict ty ?_)
    show wpAny _ _ (pure (Value.ref l, Value.str b u)) _ _ s
    refine wpAny_pure ?_
    refine wpAny_bind (wpAny_isInstance (T := "str") (typeIs_str s b u) PySem.F.sub_str_dict ?_)
    simp only [Bool.not_false, if_true]
    exact wpAny_bind (wpAny_rule (wpAny_pure ⟨_, rfl, hq⟩))
  unfold eqBool
  refine wpAny_holding ?_
  refine wpAny_ite_split (fun hab => absurd (eq_of_beq hab) nofun) (fun _ => ?_)
  exact wpAny_bind (rc_eq_decline_or (k := false) (typeIs_str s b u) ty (by decide) PySem.F.sub_dict_str PySem.F.slot_str_eq PySem.F.slot_dict_eq_refl
    (fun _ hq => call_meets PySem.F.slot_str_eq (typeIs_str s b u) PySem.F.entry_str_eq (PySem.F.args_str_eq_2 _ _) (str_eq_dict b u l od es ep sl) ⟨ho, hq⟩)
    back (fun _ hq => wpAny_of_eq (rfl : isSame (.str b u) (.ref l) = pure false) hq) (.inr hu) (wpAny_truthy_bool h))
end
end Gx
namespace Gx
open PySem PySem.Spec PyProof.Rows L2
/-- data that is no text -/
inductive NoStr (K : PySem.W.Frag) (H : Hp) : V → Prop
  | flat {x : V} : flatV x = true → (∀ z, x ≠ .str z) → NoStr K H x
  | lst {a : Addr} {xs : List V} : SqL K H a xs → NoStr K H (.ref a)
  | tup {a : Addr} {xs : List V} : SqT K H a xs → NoStr K H (.ref a)
  | dic {a : Addr} {kvs : List (Key × V)} : H a = some (.dK kvs) → NoStr K H (.ref a)
section
variable {X : Cx} {pins : List (Addr × Obj)} {σ : L2.St} {H : Hp} {s : Shared}
theorem eqV_no {z : Str} {x : V} (h : ∀ y, x ≠ .str y) : eqV (.str z) x = false := by
  cases x <;> first | rfl | exact absurd rfl (h _)
theorem NoStr.eq (I : Inv X pins σ H s) {A : Around} (hu : A.units < cLine) {x : V} {v : Value} (h : NoStr X.K H x) (rx : RelV x v) (z : Str) (t : Tok) : SeqAt.EqAt A s (.str z t) v false := by
  cases h with
  | flat f n =>
    have e := eqAt_V (A := A) (s := s) (show RelV (.str z) (.str z t) from ⟨t, rfl⟩) rx rfl f
    rwa [eqV_no n] at e
  | lst q =>
    cases rx
    obtain ⟨_, _, pl, _⟩ := I.list q
    exact SeqAt.EqAt.str_list z t pl.isList hu
  | tup q =>
    cases rx
    obtain ⟨_, _, pl, _⟩ := I.tuple q
    exact SeqAt.EqAt.str_tuple z t pl hu
  | @dic a kvs e =>
    cases rx
    obtain ⟨_, _, _, _, dd⟩ := (show ObjOk X.prog X.w H s.heap a (.dK kvs) from I.hok a _ e)
    exact eqAt_str_dict z t (dictAt_of dd) hu
theorem no_items (I : Inv X pins σ H s) {A : Around} (hu : A.units < cLine) {x : V} {v : Value} (h : NoStr X.K H x) (rx : RelV x v) : ∀ {ss : List Str} {us : List Value}, Vals (ss.map V.str) us → ∀ u ∈ us, SeqAt.EqAt A s u v false
  | [], _, .nil => fun u hu => by cases hu
  | z :: ss, _, .cons r t => fun u hm => by
    rcases List.mem_cons.mp hm with rfl | hm
    · obtain ⟨k, rfl⟩ := r
      exact h.eq I hu rx z k
    · exact no_items I hu h rx t u hm
/-- x not in t, t a tuple of texts, x any data -/
def rNotInT (K : PySem.W.Frag) : R2 := fun x y H Q => ∃ (p : Addr) (ss : List Str), y = .ref p ∧ SqT K H p (ss.map V.str) ∧ ((∃ z, x = .str z ∧ Q (.bl (!decide (z ∈ ss))) H) ∨ (NoStr K H x ∧ Q (.bl true) H))
theorem in_texts {z : Str} : ∀ ss : List Str, inV (.str z) (ss.map V.str) = decide (z ∈ ss)
  | [] => rfl
  | y :: ss => by
    have ih := in_texts (z := z) ss
    unfold inV at ih ⊢
    rw [List.map_cons, List.any_cons, ih]
    show ((y == z) || _) = _
    by_cases e : y = z
    · subst e
      simp
    · have h1 : (y == z) = false := beq_eq_false_iff_ne.mpr e
      have h2 : z ≠ y := fun q => e q.symm
      rw [h1]
      simp [h2]
theorem flat_texts (ss : List Str) : (ss.map V.str).all flatV = true := by
  induction ss with
  | nil => rfl
  | cons y ss ih => rw [List.map_cons, List.all_cons, ih]; rfl
theorem op_notInT (hu : X.A.units + 1 < cLine) : OpR X (compareOp .NotIn) (rNotInT X.K) := by
  intro pins s σ H x y v u Q I rx ry h
  obtain ⟨p, ss, rfl, hp, h⟩ := h
  rcases h with ⟨z, rfl, q⟩ | ⟨n, q⟩
  · refine op_notIn_seq pins s σ H _ _ v u Q I rx ry ⟨p, _, rfl, .inr hp, rfl, flat_texts ss, ?_⟩
    rw [in_texts]
    exact q
  · cases ry
    obtain ⟨us, r, pl, _⟩ := I.tuple hp
    refine SeqAt.notIn_tupleAt (fun _ => false) pl (fun w hw => no_items I (A := X.A.in1) hu n rx r w (by simpa using hw)) ⟨.bl _, H, I, rfl, ?_⟩
    rw [show (us.toArray.any fun _ => false) = false by simp]
    exact q
end
end Gx
/-! tuple(d), d a dict -/
namespace Gx
open PySem PySem.Spec PyProof.Rows L2
section
variable {P : Program} {w : World} {A : Around} {E : Value → Shared → Prop} {s : Shared} {T : String} {r d : Addr} {n : Nat} {Pv : Nat → Value → Prop} {OK : Heap → Prop}
theorem collect_src {Q : List Value → Shared → Prop} (S : PySem.W.KdlSrc P w T r d n Pv OK) (hh : A.handled = none) (ok : OK s.heap) (hn : n ≤ sizeLine)
    (hQ : ∀ (g : Heap) (tk : Nat) (acc : Array Value), (∀ b o, s.heap.get? b = some o → g.get? b = some o) → ItemsOf Pv acc n → Q acc.toList { s with heap := g, toks := tk }) : wpAny (model P w) A (collect (.ref r)) Q E s := by
  let L : Obj := { cls := .type "list", data := .seq ([] : List Value).toArray }
  have at_ : (s.heap.push L).get? s.heap.objs.size = some { cls := .type "list", data := .seq #[] 0 } := Heap.get?_push_size _ rfl
  have old : ∀ b o, s.heap.get? b = some o → (s.heap.push L).get? b = some o := fun b o e => Heap.get?_push_of_some _ e
  have lt := S.there _ ok
  unfold collect
  refine wpAny_bind (wpAny_runValue (codeAny_builtin F.entry_proto_collect ?_))
  rw [Around.under_plainId F.plain_proto_collect _]
  show wpAny _ A.in1 (newList [] >>= fun l => again (.builtin "list.__iadd__" ⟨[l, .ref r], []⟩)) _ _ s
  refine wpAny_bind (wpAny_newObj_type (wpAny_pure ⟨plainId_quiet F.plain_list_iadd _, codeAny_builtin F.entry_list_iadd ?_⟩))
  rw [Around.under_plainId F.plain_list_iadd _]
  show wpAny _ A.in1 (Builtin.List.listExtendWith (.ref s.heap.objs.size) (.ref r) (.ref s.heap.objs.size)) _ _ _
  have run := PySem.W.kdl_extend (A := A) (s := { s with heap := s.heap.push L }) (R := fun x t => x = .ok (.ret (.ref s.heap.objs.size)) ∧ ∃ (g : Heap) (tk : Nat) (acc : Array Value) (c : Nat), t = { s with heap := g, toks := tk } ∧ (∀ b o, s.heap.get? b = some o → g.get? b = some o) ∧
      g.get? s.heap.objs.size = some { cls := .type "list", dict := none, data := .seq acc c, slots := #[] } ∧ ItemsOf Pv acc n) S hh (S.keep _ _ ok fun b _ o e => old b o e) s.heap.objs.size (Nat.ne_of_gt lt.1) (Nat.ne_of_gt lt.2) (.ref s.heap.objs.size) 0 at_
    (fun g tk acc c k e i => ⟨rfl, g, tk, acc, c, rfl, fun b o q => k b o (Nat.ne_of_lt (Heap.lt_size q)) (old b o q), e, i⟩) hn
  have fin : ∀ t, (∃ (g : Heap) (tk : Nat) (acc : Array Value) (c : Nat), t = { s with heap := g, toks := tk } ∧ (∀ b o, s.heap.get? b = some o → g.get? b = some o) ∧ g.get? s.heap.objs.size = some { cls := .type "list", dict := none, data := .seq acc c, slots := #[] } ∧ ItemsOf Pv acc n) →
      wpAny (model P w) A (load s.heap.objs.size >>= fun o => match o.data with | .seq v _ => pure v.toList | _ => pure []) Q E t := by
    rintro t ⟨g, tk, acc, c, rfl, k, e, i⟩
    exact wpAny_bind (wpAny_load e (wpAny_pure (hQ g tk acc k i)))
  refine wpAny_mono run (fun x t z => ?_) (fun e t z => ?_)
  · cases x with
    | done f =>
      obtain ⟨e, g, tk, acc, c, rfl, k, q, i⟩ := z
      cases e
      show wpAny _ A (load s.heap.objs.size >>= _) _ _ _
      exact wpAny_bind (wpAny_load q (wpAny_pure (hQ g tk acc k i)))
    | again c =>
      refine ⟨z.1, codeAny_mono z.2 fun x t z => ?_⟩
      obtain ⟨rfl, g, tk, acc, c, rfl, k, q, i⟩ := z
      show wpAny _ A (load s.heap.objs.size >>= _) _ _ _
      exact wpAny_bind (wpAny_load q (wpAny_pure (hQ g tk acc k i)))
  · exact absurd z.1 (by simp)
theorem tuple_src {Q : Value → Shared → Prop} (S : PySem.W.KdlSrc P w T r d n Pv OK) (hh : A.handled = none) (ok : OK s.heap) (hn : n ≤ sizeLine) (nt : (Value.type T == Value.type "tuple") = false)
    (hQ : ∀ (g : Heap) (tk : Nat) (acc : Array Value), (∀ b o, s.heap.get? b = some o → g.get? b = some o) → ItemsOf Pv acc n → Q (.ref g.objs.size) { s with heap := g.push { cls := .type "tuple", data := .seq acc }, toks := tk }) :
    wpAny (model P w) A (call (.type "tuple") [.ref r]) Q E s := by
  refine callType_codes (Q₁ := fun obj t => t.TypeIs obj "tuple" ∧ Q obj t) F.called_tuple (F.typeCall_tuple_1 _) F.entry_object_init ?_ fun obj t z => ⟨z.1, F.args_object_init_2 obj _, object_init_meets F.called_tuple.init.lookup F.called_tuple.made (by decide) P w A.in1 _ t ⟨z.1, rfl, z.2⟩⟩
  refine codeAny_of_tree ?_
  show wpAny _ _ (do checkBuiltinCall "tuple.__new__" ⟨[.type "tuple", .ref r], []⟩; again (.builtin "tuple.__new__" ⟨[.type "tuple", .ref r], []⟩)) _ _ s
  refine wpAny_bind (wpAny_of_eq (F.newCall_tuple_1 _) (wpAny_pure ⟨plainId_quiet F.plain_tuple_new _, codeAny_builtin F.entry_tuple_new ?_⟩))
  rw [Around.under_plainId F.plain_tuple_new _]
  have f1 := sub_tuple_self
  have f2 := init_tuple_lookup
  have f3 := madeHere_tuple
  have ty : s.TypeIs (.ref r) T := S.type s ok
  have hh1 : A.in1.in1.handled = none := hh
  wp_walk using wpAny_typeOf ty, collect_src S hh1 ok hn
  intro g tk acc k i
  show wpAny _ _ (Builtin.Tuple.tupleExact acc.toList.toArray >>= fun v => ret v) _ _ _
  have e : acc.toList.toArray = acc := by simp
  rw [e]
  unfold Builtin.Tuple.tupleExact
  refine wpAny_bind (wpAny_newObj_type ?_ (by show acc.size ≤ sizeLine; rw [i.1]; exact hn))
  exact wpAny_pure ⟨⟨_, Heap.get?_push_size _ rfl, rfl⟩, hQ g tk acc k i⟩
end
/-- tuple(d): its keys -/
def rTupD : List V → Hp → VK → Prop := fun xs H Q => ∃ (p : Addr) (kvs : List (Key × V)), xs = [.ref p] ∧ H p = some (.dK kvs) ∧ ∀ q, H q = none → Q (.ref q) (upd H q (.tup (kvs.map fun kv => kV kv.1)))
theorem call_tupleD {X : Cx} (hc : X.calm = true) : CallR X (.type "tuple") rTupD := by
  intro pins s σ H xs us Q I r h
  obtain ⟨p, kvs, rfl, hk, q⟩ := h
  obtain ⟨u, rfl, rx⟩ := vals1 r
  cases rx
  obtain ⟨z, lo, vs, rk, hd⟩ := (show ObjOk X.prog X.w H s.heap p (.dK kvs) from I.hok p _ hk)
  obtain ⟨ep, hat⟩ := hd.dictAt
  have hl : kvs.length = vs.length := Paired.length rk
  refine tuple_src (PySem.W.kdl_dict (knd := mixKind X.prog X.w) (kvs := vs) (ep := ep) lo) (I.ok.hd hc) hat (by rw [← hl]; exact z) (by decide) fun g tk acc k i => ?_
  have hv : Vals (kvs.map fun kv => kV kv.1) acc.toList := by
    refine vals_of_at (by rw [List.length_map, hl, ← i.1]; simp) fun j x u h1 h2 => ?_
    obtain ⟨key, y, hky, hi⟩ := i.2 j u (by rw [← Array.getElem?_toList]; exact h2)
    have e1 : (kvs.map (·.1))[j]? = some key := by
      rw [KV.keys rk, List.getElem?_map, hky]
      rfl
    rw [List.getElem?_map] at h1 e1
    obtain ⟨kv, hkv, rfl⟩ := Option.map_eq_some_iff.mp h1
    rw [hkv] at e1
    cases e1
    exact keyIs_rel hi
  have I1 : Inv X pins σ H { s with heap := g, toks := tk } := I.kept (t' := tk) k
  have hn : (kvs.map fun kv => kV kv.1).length ≤ sizeLine := by rw [List.length_map]; exact z
  have e : acc = acc.toList.toArray := by simp
  have I2 : Inv X pins σ (upd H g.objs.size (.tup (kvs.map fun kv => kV kv.1))) { s with heap := g.push { cls := .type "tuple", data := .seq acc }, toks := tk } :=
    I1.laid (t' := tk) (fun b o e => Heap.get?_push_of_some _ e) (Nat.le_refl _) (show ObjOk X.prog X.w _ _ _ (.tup _) from ⟨hn, acc.toList, hv, by rw [e]; exact IsTup.new _ _⟩)
  exact ⟨.ref g.objs.size, _, I2, rfl, q _ (I1.hok.fresh (Nat.le_refl _))⟩
end Gx
/-! len(set(texts)), any number of texts -/
namespace Gx
open PySem PySem.Spec PyProof.Rows
/-- a set object at a: the texts of xs, n of them -/
def Some1 (P : Program) (w : World) (h : Heap) (a : Addr) (xs : List Str) (n : Nat) : Prop := h.SetOf (PySem.strKind P w) a (fun k => decide (k ∈ xs)) n ∧ n ≤ xs.length ∧ (n = xs.length ↔ xs.Nodup)
theorem Some1.keep {P : Program} {w : World} {h g : Heap} {a : Addr} {xs : List Str} {n : Nat} (x : Some1 P w h a xs n) (k : ∀ o, h.get? a = some o → g.get? a = some o) : Some1 P w g a xs n := by
  obtain ⟨⟨o, es, ep, t, ho, rest⟩, r⟩ := x
  exact ⟨⟨o, es, ep, t, k o ho, rest⟩, r⟩
theorem Some1.put {P : Program} {w : World} {h g : Heap} {a : Addr} {xs : List Str} {x : Str} {n : Nat} (d : Some1 P w h a xs n) (e : g.SetOf (PySem.strKind P w) a (fun k => decide (k ∈ xs) || decide (k = x)) (if decide (x ∈ xs) = true then n else n + 1)) :
    ∃ m, Some1 P w g a (xs ++ [x]) m := by
  obtain ⟨_, h1, h2⟩ := d
  refine ⟨_, SetOf_congr e (fun k => by simp [List.mem_append]) rfl, ?_, ?_⟩
  · simp only [decide_eq_true_eq, List.length_append, List.length_singleton]
    split <;> omega
  · simp only [decide_eq_true_eq, List.length_append, List.length_singleton, List.nodup_append]
    by_cases hx : x ∈ xs
    · rw [if_pos hx]
      constructor
      · intro z; omega
      · intro z
        exact absurd rfl (z.2.2 x hx x (by simp))
    · rw [if_neg hx]
      constructor
      · intro z
        exact ⟨h2.mp (by omega), by simp, fun u hu v hv => by simp at hv; subst hv; exact fun q => hx (q ▸ hu)⟩
      · intro z
        have := h2.mpr z.1
        omega
theorem txt_at : ∀ {us : List Value} {xs : List Str}, StrsAre us xs → ∀ (i : Nat) (v : Value), us[i]? = some v → ∃ t x, v = .str x t ∧ xs[i]? = some x
  | _, _, .nil, i, v, h => by simp at h
  | _, _, .cons y t _, 0, v, h => by
    simp at h
    exact ⟨t, y, h.symm, rfl⟩
  | _, _, .cons _ _ r, i + 1, v, h => by
    simp only [List.getElem?_cons_succ] at h ⊢
    exact txt_at r i v h
section
variable {P : Program} {w : World} {A : Around} {R : Result → Shared → Prop} {I : Addr} {fp wr : List Addr} {G : Array GenState → Array GenState → Prop} {n : Nat} {Pv : Nat → Value → Prop} {St : Nat → Shared → Prop}
theorem texts_loop (W : WalksS P w A.in1 I fp wr G n Pv St) (S : Addr) (out : S ∉ fp) (xs : List Str) (hl : xs.length = n) (hb : xs.length + 1 < scanBound) (hv : ∀ i v, Pv i v → ∃ t x, v = .str x t ∧ xs[i]? = some x) :
    ∀ (k i m : Nat) (s : Shared), n - i = k → i ≤ n → St i s → Some1 P w s.heap S (xs.take i) m → (∀ s' m', Moved (S :: wr) G s s' → Some1 P w s'.heap S (xs.take n) m' → R (.ok (.ret .none)) s') →
      codeAny (model P w) A (.builtin "set.update.loop" ⟨[.ref S, .ref I], []⟩) R s := by
  have nw : S ∉ wr := fun z => out (W.sub _ z)
  have up : ∀ b ∈ wr, b ∈ S :: wr := fun b z => List.mem_cons_of_mem _ z
  intro k
  induction k with
  | zero =>
    intro i m s hk hi hst d last
    obtain rfl : i = n := by omega
    refine codeAny_builtin F.entry_set_update_loop ?_
    rw [Around.under_plainId F.plain_set_update_loop _]
    show wpAny _ A.in1 (pyNext (.ref I) >>= _) _ _ s
    refine wpAny_bind (W.done s _ _ hst fun s2 mv => ?_)
    show wpAny _ A.in1 (ret Value.none) _ _ s2
    exact wpAny_pure (last s2 m (mv.mono up) (d.keep fun o e => mv.heap S o nw e))
  | succ k ih =>
    intro i m s hk hi hst d last
    have lt : i < n := by omega
    refine codeAny_builtin F.entry_set_update_loop ?_
    rw [Around.under_plainId F.plain_set_update_loop _]
    show wpAny _ A.in1 (pyNext (.ref I) >>= _) _ _ s
    refine wpAny_bind (W.item i s _ _ lt hst fun v s2 hP st2 mv => ?_)
    obtain ⟨t, x, rfl, hx⟩ := hv i v hP
    have d2 := d.keep (g := s2.heap) fun o e => mv.heap S o nw e
    show wpAny _ A.in1 (holding [Value.str x t] (setAdd S (.str x t)) >>= _) _ _ s2
    refine wpAny_bind (wpAny_holding ?_)
    unfold setAdd
    refine wpAny_holding (wpAny_bind ((PySem.strKind P w).pyHash (k := x) (strKind_is _ _ _ _) ?_))
    have room : m + 1 < scanBound := by
      have a1 := d.2.1
      have a2 := List.length_take_le i xs
      have a3 : (xs.take i).length ≤ xs.length := by rw [List.length_take]; omega
      omega
    refine wpAny_setAddHashed_of (knd := PySem.strKind P w) (s := { s2 with toks := s2.toks + 1 }) (strKind_is _ _ _ _) rfl d2.1 room fun g sb e => ?_
    obtain ⟨m2, d3⟩ := d2.put e
    have tk : xs.take i ++ [x] = xs.take (i + 1) := by
      rw [List.take_succ, hx]
      rfl
    rw [tk] at d3
    refine wpAny_pure ⟨plainId_quiet F.plain_set_update_loop _, ih (i + 1) m2 _ (by omega) lt (W.frame _ s2 _ _ st2 (Nat.le_succ _) fun b hb o e => ?_) d3 fun s3 m3 mv2 d4 => ?_⟩
    · rw [sb.2 b (fun z => out (z ▸ hb))]
      exact e
    · refine last s3 m3 (Moved.trans W.gtrans ((mv.mono up).then_heap (Nat.le_succ _) fun b o hb e => ?_) mv2) d4
      rw [sb.2 b (fun z => hb (z ▸ List.mem_cons_self))]
      exact e
end
section
variable {P : Program} {w : World} {A : Around} {E : Value → Shared → Prop} {s : Shared}
set_option maxHeartbeats 3200000 in
/-- set(l), l a list of texts -/
theorem set_texts_list {l : Addr} {its : Array Value} {xs : List Str} {Q : Value → Shared → Prop} (hh : A.handled = none) (hl : s.heap.IsList l its) (hi : StrsAre its.toList xs) (hb : xs.length + 1 < scanBound)
    (h : ∀ (g : Heap) (tk n : Nat), Some1 P w g s.heap.objs.size xs n → (∀ b o, b < s.heap.objs.size → s.heap.get? b = some o → g.get? b = some o) → Q (.ref s.heap.objs.size) { s with heap := g, toks := tk }) :
    wpAny (model P w) A (call (.type "set") [.ref l]) Q E s := by
  obtain ⟨c, tl, hmro⟩ := PySem.F.called_set.mro
  have f1 := PySem.F.called_set.made
  have f2 := PySem.F.called_set.sub
  have f3 := PySem.F.called_set.notType
  have f4 := PySem.F.called_set.canCreate
  have f5 := PySem.F.typeCall_set_1 (.ref l)
  have nxs : xs.length = its.size := by rw [← StrsAre.len_eq hi, Array.length_toList]
  refine wpAny_call (codeAny_of_tree ?_)
  show wpAny _ _ (callAny (.type "set") _) _ _ _
  refine wpAny_pure ⟨Code.quiet_builtin _ (by decide +kernel), codeAny_builtin PySem.F.entry_type_call ?_⟩
  rw [Around.under_plain (weight_type_call_type "set" [.ref l] []) rfl]
  repeat (any_goals (first | assumption | wp_step))
  let N (b : Bool) : Obj := { cls := .type "set", dict := none, data := .set #[] 0 (.fresh 0 0 b) }
  refine codeAny_mono (code_set_new_1 (.ref l) (E := E) (Q₁ := fun u t => ∃ b : Bool, u = .ref s.heap.objs.size ∧ t = { s with heap := s.heap.push (N b) }) fun b => ⟨b, rfl, rfl⟩) fun r t hr => ?_
  rcases r with _ | (_ | _ | _ | u)
  · exact hr
  · exact hr.elim
  · exact hr.elim
  · exact hr.elim
  obtain ⟨b, rfl, rfl⟩ := hr
  have hN : (s.heap.push (N b)).get? s.heap.objs.size = some (N b) := Heap.get?_push_size _ rfl
  have hT : Shared.TypeIs { s with heap := s.heap.push (N b) } (.ref s.heap.objs.size) "set" := ⟨_, hN, rfl⟩
  have f6 := PySem.F.called_set.init.lookup
  have f7 := PySem.F.called_set.init.bind (.ref s.heap.objs.size)
  repeat (any_goals (first | assumption | wp_step))
  refine codeAny_mono (codeAny_call_builtin (R := wants (fun r t => r = .none ∧ ∃ g tk n, t = { s with heap := g, toks := tk } ∧ Some1 P w g s.heap.objs.size xs n ∧ (∀ b o, b < s.heap.objs.size → s.heap.get? b = some o → g.get? b = some o)) E)
    PySem.F.called_set.init.plain PySem.F.entry_set_init (check_set_init_1 hT ?_)) fun r t hr => ?_
  · obtain ⟨ol, hol, hcl, nl, hdl⟩ := hl
    obtain ⟨oc, od, odt, osl⟩ := ol
    simp only at hcl hdl
    subst hcl; subst hdl
    have hol2 : (s.heap.push (N b)).get? l = some { cls := .type "list", dict := od, data := .seq its nl, slots := osl } := Heap.get?_push_of_some _ hol
    have g1 := PySem.F.sub_list_set
    have g2 := PySem.F.sub_list_frozenset
    have g3 : (Value.type "list" == Value.type "dict") = false := by decide
    have hl1 : (s.heap.push (N b)).IsList l its := ⟨_, hol2, rfl, nl, rfl⟩
    unfold Builtin.«set.__init__» noKeywords Builtin.Frozenset.updateFrom
    generalize hPI : pyIter = PI
    wp_walk
    subst hPI
    refine wpAny_pyIter_list hl1 ?_
    refine wpAny_bind (wpAny_runValue ?_)
    have ll : l < s.heap.objs.size := Heap.lt_size hol
    have zz : (s.heap.push (N b)).objs.size = s.heap.objs.size + 1 := Heap.size_push ..
    refine texts_loop ((Walks.list (by simp [hh]) _ l (by rw [zz]; exact Nat.ne_of_lt (Nat.lt_succ_of_lt ll)) its).toS) s.heap.objs.size (by rw [zz]; simp only [List.mem_cons, List.not_mem_nil, or_false, not_or]; exact ⟨Nat.ne_of_lt (Nat.lt_succ_self _), Nat.ne_of_gt ll⟩) xs nxs hb (fun i v hv => txt_at hi i v (by rw [Array.getElem?_toList]; exact hv)) (its.size - 0) 0 0 _ (by omega) (Nat.zero_le _) ⟨⟨_, Heap.get?_push_size _ rfl, rfl, rfl⟩, hl1.push _⟩ ?_ ?_
    · have hg : ((s.heap.push (N b)).push { cls := .type "list_iterator", data := .fields #[.ref l, .int 0 0] }).get? s.heap.objs.size = some (N b) := Heap.get?_push_of_some _ hN
      refine ⟨?_, by simp, by simp⟩
      exact SetOf_congr ((setObjOf_fresh (knd := PySem.strKind P w) b).setOf hg (by unfold scanBound; omega)) (fun k => by simp) rfl
    · rintro ⟨g, gs, dr, tk, os⟩ n hm hS
      obtain rfl : gs = s.gens := hm.gens
      obtain rfl : dr = s.drawn := hm.drawn
      obtain rfl : os = s.os := hm.os
      show wpAny _ _ _ _ _ _
      refine wpAny_pure ?_
      show wpAny _ _ (ret Value.none) _ _ _
      refine wpAny_pure ⟨rfl, g, tk, n, rfl, by rwa [← nxs, List.take_length] at hS, fun c o hc e => ?_⟩
      exact hm.heap c o (by rw [zz]; simp only [List.mem_cons, List.not_mem_nil, or_false, not_or]; exact ⟨Nat.ne_of_lt hc, Nat.ne_of_lt (Nat.lt_succ_of_lt hc)⟩) (Heap.get?_push_of_some _ (Heap.get?_push_of_some _ e))
  · rcases r with _ | (_ | _ | _ | u)
    · exact hr
    · exact hr.elim
    · exact hr.elim
    · exact hr.elim
    obtain ⟨rfl, g, tk, n, rfl, hS, hk⟩ := hr
    repeat (any_goals (first | assumption | wp_step))
    exact h _ _ _ hS hk
set_option maxHeartbeats 3200000 in
/-- set(l), l a tuple of texts -/
theorem set_texts_tuple {l : Addr} {its : Array Value} {xs : List Str} {Q : Value → Shared → Prop} (hh : A.handled = none) (hl : s.heap.IsTuple l its) (hi : StrsAre its.toList xs) (hb : xs.length + 1 < scanBound)
    (h : ∀ (g : Heap) (tk n : Nat), Some1 P w g s.heap.objs.size xs n → (∀ b o, b < s.heap.objs.size → s.heap.get? b = some o → g.get? b = some o) → Q (.ref s.heap.objs.size) { s with heap := g, toks := tk }) :
    wpAny (model P w) A (call (.type "set") [.ref l]) Q E s := by
  obtain ⟨c, tl, hmro⟩ := PySem.F.called_set.mro
  have f1 := PySem.F.called_set.made
  have f2 := PySem.F.called_set.sub
  have f3 := PySem.F.called_set.notType
  have f4 := PySem.F.called_set.canCreate
  have f5 := PySem.F.typeCall_set_1 (.ref l)
  have nxs : xs.length = its.size := by rw [← StrsAre.len_eq hi, Array.length_toList]
  refine wpAny_call (codeAny_of_tree ?_)
  show wpAny _ _ (callAny (.type "set") _) _ _ _
  refine wpAny_pure ⟨Code.quiet_builtin _ (by decide +kernel), codeAny_builtin PySem.F.entry_type_call ?_⟩
  rw [Around.under_plain (weight_type_call_type "set" [.ref l] []) rfl]
  repeat (any_goals (first | assumption | wp_step))
  let N (b : Bool) : Obj := { cls := .type "set", dict := none, data := .set #[] 0 (.fresh 0 0 b) }
  refine codeAny_mono (code_set_new_1 (.ref l) (E := E) (Q₁ := fun u t => ∃ b : Bool, u = .ref s.heap.objs.size ∧ t = { s with heap := s.heap.push (N b) }) fun b => ⟨b, rfl, rfl⟩) fun r t hr => ?_
  rcases r with _ | (_ | _ | _ | u)
  · exact hr
  · exact hr.elim
  · exact hr.elim
  · exact hr.elim
  obtain ⟨b, rfl, rfl⟩ := hr
  have hN : (s.heap.push (N b)).get? s.heap.objs.size = some (N b) := Heap.get?_push_size _ rfl
  have hT : Shared.TypeIs { s with heap := s.heap.push (N b) } (.ref s.heap.objs.size) "set" := ⟨_, hN, rfl⟩
  have f6 := PySem.F.called_set.init.lookup
  have f7 := PySem.F.called_set.init.bind (.ref s.heap.objs.size)
  repeat (any_goals (first | assumption | wp_step))
  refine codeAny_mono (codeAny_call_builtin (R := wants (fun r t => r = .none ∧ ∃ g tk n, t = { s with heap := g, toks := tk } ∧ Some1 P w g s.heap.objs.size xs n ∧ (∀ b o, b < s.heap.objs.size → s.heap.get? b = some o → g.get? b = some o)) E)
    PySem.F.called_set.init.plain PySem.F.entry_set_init (check_set_init_1 hT ?_)) fun r t hr => ?_
  · obtain ⟨ol, hol, hcl, nl, hdl⟩ := hl
    obtain ⟨oc, od, odt, osl⟩ := ol
    simp only at hcl hdl
    subst hcl; subst hdl
    have hol2 : (s.heap.push (N b)).get? l = some { cls := .type "tuple", dict := od, data := .seq its nl, slots := osl } := Heap.get?_push_of_some _ hol
    have g1 := PySem.F.sub_tuple_set
    have g2 := PySem.F.sub_tuple_frozenset
    have g3 : (Value.type "tuple" == Value.type "dict") = false := by decide
    have hl1 : (s.heap.push (N b)).IsTuple l its := ⟨_, hol2, rfl, nl, rfl⟩
    unfold Builtin.«set.__init__» noKeywords Builtin.Frozenset.updateFrom
    generalize hPI : pyIter = PI
    wp_walk
    subst hPI
    refine wpAny_pyIter_tuple hl1 ?_
    refine wpAny_bind (wpAny_runValue ?_)
    have ll : l < s.heap.objs.size := Heap.lt_size hol
    have zz : (s.heap.push (N b)).objs.size = s.heap.objs.size + 1 := Heap.size_push ..
    refine texts_loop ((Walks.tuple (by simp [hh]) _ l (by rw [zz]; exact Nat.ne_of_lt (Nat.lt_succ_of_lt ll)) its).toS) s.heap.objs.size (by rw [zz]; simp only [List.mem_cons, List.not_mem_nil, or_false, not_or]; exact ⟨Nat.ne_of_lt (Nat.lt_succ_self _), Nat.ne_of_gt ll⟩) xs nxs hb (fun i v hv => txt_at hi i v (by rw [Array.getElem?_toList]; exact hv)) (its.size - 0) 0 0 _ (by omega) (Nat.zero_le _) ⟨⟨_, Heap.get?_push_size _ rfl, rfl, rfl⟩, hl1.push _⟩ ?_ ?_
    · have hg : ((s.heap.push (N b)).push { cls := .type "tuple_iterator", data := .fields #[.ref l, .int 0 0] }).get? s.heap.objs.size = some (N b) := Heap.get?_push_of_some _ hN
      refine ⟨?_, by simp, by simp⟩
      exact SetOf_congr ((setObjOf_fresh (knd := PySem.strKind P w) b).setOf hg (by unfold scanBound; omega)) (fun k => by simp) rfl
    · rintro ⟨g, gs, dr, tk, os⟩ n hm hS
      obtain rfl : gs = s.gens := hm.gens
      obtain rfl : dr = s.drawn := hm.drawn
      obtain rfl : os = s.os := hm.os
      show wpAny _ _ _ _ _ _
      refine wpAny_pure ?_
      show wpAny _ _ (ret Value.none) _ _ _
      refine wpAny_pure ⟨rfl, g, tk, n, rfl, by rwa [← nxs, List.take_length] at hS, fun c o hc e => ?_⟩
      exact hm.heap c o (by rw [zz]; simp only [List.mem_cons, List.not_mem_nil, or_false, not_or]; exact ⟨Nat.ne_of_lt hc, Nat.ne_of_lt (Nat.lt_succ_of_lt hc)⟩) (Heap.get?_push_of_some _ (Heap.get?_push_of_some _ e))
  · rcases r with _ | (_ | _ | _ | u)
    · exact hr
    · exact hr.elim
    · exact hr.elim
    · exact hr.elim
    obtain ⟨rfl, g, tk, n, rfl, hS, hk⟩ := hr
    repeat (any_goals (first | assumption | wp_step))
    exact h _ _ _ hS hk
end
end Gx
namespace Gx
open PySem PySem.Spec PyProof.Rows L2
/-- len(set(xs)), xs a list or a tuple of texts: as many as xs exactly if they are different -/
def tLenSetT (K : PySem.W.Frag) (ta : TE) : TE := fun σ H Q => ta σ H fun x H1 => ∃ (l : Addr) (xs : List Str), x = .ref l ∧ (SqL K H1 l (xs.map V.str) ∨ SqT K H1 l (xs.map V.str)) ∧ xs.length < 1000 ∧ ∀ n : Nat, n ≤ xs.length → (n = xs.length ↔ xs.Nodup) → Q (.int n) H1
theorem txts_of : ∀ {ys : List Str} {us : List Value}, Vals (ys.map V.str) us → StrsAre us ys
  | [], _, .nil => .nil
  | y :: ys, _, .cons r t => by
    obtain ⟨k, rfl⟩ := r
    exact .cons y k (txts_of t)
section
variable {X : Cx}
theorem pe_lenSetT {a : Expr} {ta : TE} {p p2 q pos : Pos} (hc : X.calm = true) (hg : Gl X "len") (hm : X.mg "len" = none) (hg2 : Gl X "set") (hm2 : X.mg "set" = none) (ha : PE X a ta)
    (na : starEach [a] X.env = (false, eval a X.env) :: starEach [] X.env := by rfl) : PE X (.Call (.Name "len" p) [.Call (.Name "set" p2) [a] [] q] [] pos) (tLenSetT X.K ta) := by
  refine ⟨fun pins s σ H Q I h => ?_⟩
  refine Call_ (ld_blt I hg hm boot_len ?_)
  refine callWith_builtin1 (args_cons ?_ rfl) rfl rfl
  refine Call_ (ld_blt I hg2 hm2 boot_set ?_)
  refine callWith_type1 (args_cons (thn (ha.run pins s σ H _ I h) fun v s1 ⟨x, H1, I1, r1, z⟩ => args_nil ?_) na) na rfl
  obtain ⟨l, xs, rfl, hq, few, out⟩ := z
  cases r1
  have fin : ∀ (g : Heap) (tk n : Nat), Some1 X.prog X.w g s1.heap.objs.size xs n → (∀ b o, b < s1.heap.objs.size → s1.heap.get? b = some o → g.get? b = some o) →
      wpAny (model X.prog X.w) X.A (spliced (backTo pos (starEach [] X.env))) (fun vs t => wpAny (model X.prog X.w) X.A (call (.builtin "len") (Value.ref s1.heap.objs.size :: vs)) (EP X pins σ Q) X.xe t) X.xe { s1 with heap := g, toks := tk } := by
    intro g tk n d hk
    obtain ⟨⟨o, es, ep, t, ho, hex, hd, _, _, _, hf, hn⟩, d1, d2⟩ := d
    have I2 : Inv X pins σ H1 { s1 with heap := g, toks := tk } := I1.kept fun b o e => hk b o (Heap.lt_size e) e
    exact args_nil (call_len_set ho hex hd hf (by rw [hn]; omega) ⟨.int n, H1, I2.tok _, ⟨_, by rw [hn]⟩, out n d1 d2⟩)
  have few2 : xs.length + 1 < scanBound := Nat.lt_trans (by omega : xs.length + 1 < 1001) (by decide)
  rcases hq with hq | hq
  · obtain ⟨us, r, pl, _⟩ := I1.list hq
    exact set_texts_list (I1.ok.hd hc) pl.isList (by simpa using txts_of r) few2 fin
  · obtain ⟨us, r, pl, _⟩ := I1.tuple hq
    exact set_texts_tuple (I1.ok.hd hc) pl (by simpa using txts_of r) few2 fin
end
end Gx
/-! methods, instances and constants by name -/
namespace Gx
open PySem PySem.Spec PyProof.Rows L2
section
variable {X : Cx} {x : Str} {pos : Pos}
theorem pe_globI {i : Int} (hg : Gl X x) (h : ∃ t, X.mg x = some (.int i t)) (hd : (x == ("__debug__" : Str)) = false := by decide) : PE X (.Name x pos) (tC (.int i)) := h.elim fun t e => pe_glob (v := .int i) hg e ⟨t, rfl⟩ hd
theorem pe_globS {z : Str} (hg : Gl X x) (h : ∃ t, X.mg x = some (.str z t)) (hd : (x == ("__debug__" : Str)) = false := by decide) : PE X (.Name x pos) (tC (.str z)) := h.elim fun t e => pe_glob (v := .str z) hg e ⟨t, rfl⟩ hd
end
/-! rules whose K is told, for comprehensions -/
section
variable {X : Cx} {K : PySem.W.Frag}
theorem op_in_seqK (h : X.K = K) : OpR X (compareOp .In) (rIn K false) := h ▸ op_in_seq
theorem op_notIn_seqK (h : X.K = K) : OpR X (compareOp .NotIn) (rIn K true) := h ▸ op_notIn_seq
theorem ix_tupK (h : X.K = K) : IxR X (rIxT K) := h ▸ ix_tup
theorem ix_listK (h : X.K = K) : IxR X (rIxL K) := h ▸ ix_list
/-- tuple(x) of a list or a tuple -/
def rTupK (K : PySem.W.Frag) : List V → Hp → VK → Prop := fun xs H Q => ∃ p ys, xs = [.ref p] ∧ ((SqL K H p ys ∧ ∀ l, H l = none → Q (.ref l) (upd H l (.tup ys))) ∨ (SqT K H p ys ∧ Q (.ref p) H))
theorem call_tuple_ofK (h : X.K = K) : CallR X (.type "tuple") (rTupK K) := h ▸ call_tuple_of
end
/-- a method of the class at C, ready to be called -/
structure CaM (P : Program) (w : World) (K : PySem.W.Frag) (mg : Str → Option Value) (base : Heap) (CX : CXT) (k : Nat) (C : Addr) (m : Str) (sp : Sp) : Prop where
  ex : ∃ f fd ps, FnOk P w K mg base CX k f fd ps sp ∧ Binds K fd ps [] ∧ Meth K C m f ∧ Cls K C
/-- a class by its name, its instances made by __init__ -/
structure CaI (P : Program) (w : World) (K : PySem.W.Frag) (mg : Str → Option Value) (base : Heap) (CX : CXT) (k : Nat) (x : Str) (C : Addr) (sp : Sp) : Prop where
  ex : ∃ f fd ps, FnOk P w K mg base CX k f fd ps sp ∧ Binds K fd ps [] ∧ Mk K C f ∧ mg x = some (.ref C)
section
variable {X : Cx} {CX : CXT} {k : Nat} {C : Addr} {m x : Str} {sp : Sp} {E : XK} {o e : Expr} {es : List Expr} {ta : TE} {t : TA} {apos pos p : Pos} {pl : Sem Bool}
theorem pe_cm (c : CaM X.prog X.w X.K X.mg X.base CX k C m sp) (hr : Room k X.A) (hx : Passes CX X E) (ho : PE X o ta) (ha : PA X (e :: es) t)
    (hst : starEach (e :: es) X.env = (false, eval e X.env) :: starEach es X.env := by rfl) (hpl : (backTo pos (starEach es X.env)).any (·.1) = false := by rfl)
    (ht : eval (.Call (.Attribute o m apos) (e :: es) [] pos) X.env = (do
      let ov ← eval o X.env
      standAt apos.atName
      let (f, first) ← holding [ov] (getMethod ov m pl)
      callWith pos f first (backTo pos (starEach (e :: es) X.env)) (backToKw pos (keywordEach [] X.env))) := by rfl) : PE X (.Call (.Attribute o m apos) (e :: es) [] pos) (tMeth C m sp [] E ta t) := by
  obtain ⟨f, fd, ps, F, hb, hm, cl⟩ := c.ex
  exact pe_meth ho cl hm F hr hb .nil hx ha hst hpl ht
theorem pe_mk (c : CaI X.prog X.w X.K X.mg X.base CX k x C sp) (hr : Room (k + 1) X.A) (hg : Gl X x) (hx : Passes CX X E) (ha : PA X (e :: es) t) (hdb : (x == ("__debug__" : Str)) = false := by decide) (he : starEach (e :: es) X.env = (false, eval e X.env) :: starEach es X.env := by rfl)
    (hpl : (backTo pos (starEach es X.env)).any (·.1) = false := by rfl) : PE X (.Call (.Name x p) (e :: es) [] pos) (tMake C sp [] E t) := by
  obtain ⟨f, fd, ps, F, hb, M, hm⟩ := c.ex
  exact pe_make M F hr hg hm hb .nil hx ha hdb he hpl
end
end Gx
/-! menus as the document has them, and how they lie in the heap -/
namespace Gx
open PySem PySem.Spec PyProof.Rows L2
section
variable {X : Cx} {tg e : Expr}
theorem pi_or {w1 w2 : TI} (h1 : PI X tg e w1) (h2 : PI X tg e w2) : PI X tg e (fun σ H R => w1 σ H R ∨ w2 σ H R) := ⟨fun pins s σ H R I h => h.elim (h1.run pins s σ H R I) (h2.run pins s σ H R I)⟩
end
/-- a comprehension whose turns all give True and leave what was -/
theorem lc_yes {J : It} {xs : List V} {G : Hp → Prop} (w : Walk J xs.length G (YAt xs)) {g : TG} {te : TE} {vs : List Nat} {σ : L2.St} {H1 : Hp} {D : Addr} {Qd : Hp → Prop} (hD : H1 D = none) (hl : xs.length ≤ sizeLine) (hG : ∀ H', Same H1 H' → G H')
    (turn : ∀ x ∈ xs, ∀ (H' : Hp) (R : VK), Same H1 H' → (∀ H3, Same H' H3 → R (.bl true) H3) → g x (wipe σ vs) H' fun σ2 H2 => wipe σ2 vs = wipe σ vs ∧ te σ2 H2 R)
    (done : ∀ H', Same H1 H' → H' D = some (.lst (List.replicate xs.length (.bl true))) → Qd H') :
    ∃ W : Nat → Nat → Hp → Prop, (∃ m, W 0 m (upd H1 D (.lst []))) ∧ ∀ i m H, W i m H →
      (J.stop i H ∧ Qd H) ∨ (J.go i H ∧ ∃ Nx : Hp → Prop, (∀ H', Nx H' → ∃ m', m' < m ∧ W (i + 1) m' H') ∧ ∀ x H', J.yld i H x H' → g x (wipe σ vs) H' fun σ2 H2 => wipe σ2 vs = wipe σ vs ∧ tYes σ2 H2 fun b H3 =>
        if b = true then te σ2 H3 fun y H4 => ∃ acc, H4 D = some (.lst acc) ∧ acc.length < sizeLine ∧ Nx (upd H4 D (.lst (acc ++ [y]))) else Nx H3) := by
  refine lc_it w (tt := tYes) (fun i H' => Same H1 H' ∧ H' D = some (.lst (List.replicate i (.bl true)))) ⟨Same.new hD, upd_same⟩ (fun i H' _ z => hG _ z.1) (fun i x H2 H' hi z y => ?_) (fun H' z => done H' z.1 z.2)
  obtain ⟨rfl, hx⟩ := y
  exact turn x (List.mem_of_getElem? hx) _ _ z.1 fun H3 k => ⟨_, k _ _ z.2, by rw [List.length_replicate]; omega, Same.over (z.1.trans k) hD, by rw [upd_same, List.replicate_succ']⟩
theorem Room.u65 {k : Nat} {A : Around} (r : Room k A) : A.units + 65 < cLine := by have := r.un; omega
theorem Room.u1 {k : Nat} {A : Around} (r : Room k A) : A.units + 1 < cLine := by have := r.un; omega
/-- a list or a tuple of these texts -/
def Sq (K : PySem.W.Frag) (H : Hp) (v : V) (xs : List Str) : Prop := ∃ a, v = .ref a ∧ (SqL K H a (xs.map V.str) ∨ SqT K H a (xs.map V.str))
theorem Sq.same {K : PySem.W.Frag} {H H' : Hp} {v : V} {xs : List Str} (h : Sq K H v xs) (k : Same H H') : Sq K H' v xs := by
  obtain ⟨a, e, h⟩ := h
  exact ⟨a, e, h.imp (SqL.same · k) (SqT.same · k)⟩
theorem tyx_list {K : PySem.W.Frag} {H : Hp} {a : Addr} {xs : List V} (h : SqL K H a xs) : TyX K H (.ref a) (.type "list") := by
  rcases h with (h | ⟨o, h⟩) | ⟨o, _, _, h, c, _⟩
  · exact .base (.lst h)
  · exact .base (.frz h)
  · exact .kList h c
theorem tyx_tup {K : PySem.W.Frag} {H : Hp} {a : Addr} {xs : List V} (h : SqT K H a xs) : TyX K H (.ref a) (.type "tuple") := by
  rcases h with (h | ⟨o, h⟩) | ⟨o, _, _, h, c, _⟩
  · exact .base (.tup h)
  · exact .fTuple h
  · exact .kTuple h c
theorem Sq.ty {K : PySem.W.Frag} {H : Hp} {v : V} {xs : List Str} (h : Sq K H v xs) : ∃ T, TyX K H v T ∧ PySem.W.kitAny K T [.type "list", .type "tuple"] = some true := by
  obtain ⟨a, rfl, h | h⟩ := h
  · exact ⟨_, tyx_list h, kitAny_cons (b := true) (kit_ty (by decide +kernel)) (fun z => nomatch z) (fun _ => rfl)⟩
  · exact ⟨_, tyx_tup h, kitAny_cons (b := false) (kit_ty (by decide +kernel)) (fun _ => kitAny_cons (b := true) (kit_ty (by decide +kernel)) (fun z => nomatch z) (fun _ => rfl)) (fun z => nomatch z)⟩
/-- a plain name -/
def NM (x : Str) : Prop := 1 ≤ x.length ∧ x.length ≤ 8 ∧ ∀ c ∈ x.cps.toList, 97 ≤ c ∧ c ≤ 122
structure Ent where
  name : Str
  wishes : List Str
  back : Str
  later : List Str
  deriving DecidableEq
structure Bs where
  things : List Str
  ws : List Ent
  deriving DecidableEq
def Bs.names (b : Bs) : List Str := b.ws.map Ent.name
structure WE (things names : List Str) (e : Ent) : Prop where
  w : ∀ x ∈ e.wishes, x ∈ things
  wd : e.wishes.Nodup
  l : ∀ x ∈ e.later, x ∈ names
  ld : e.later.Nodup
  l0 : e.later ≠ []
  b : e.back = "top" ∨ e.back = "place"
structure WF (b : Bs) : Prop where
  t1 : 1 ≤ b.things.length
  t5 : b.things.length ≤ 5
  tn : ∀ x ∈ b.things, NM x
  td : b.things.Nodup
  w1 : 1 ≤ b.ws.length
  w4 : b.ws.length ≤ 4
  wn : ∀ x ∈ b.names, NM x
  wd : b.names.Nodup
  we : ∀ e ∈ b.ws, WE b.things b.names e
theorem nodup_len {α : Type} [DecidableEq α] : ∀ {xs ys : List α}, xs.Nodup → (∀ x ∈ xs, x ∈ ys) → xs.length ≤ ys.length
  | [], ys, _, _ => Nat.zero_le _
  | x :: xs, ys, nd, h => by
    rw [List.nodup_cons] at nd
    have hx : x ∈ ys := h x List.mem_cons_self
    have ih := nodup_len (xs := xs) (ys := ys.erase x) nd.2 (fun y hy => by
      have ne : y ≠ x := fun e => nd.1 (by rw [← e]; exact hy)
      exact (List.mem_erase_of_ne ne).mpr (h y (List.mem_cons_of_mem _ hy)))
    rw [List.length_erase_of_mem hx] at ih
    have := List.length_pos_of_mem hx
    simp only [List.length_cons]
    omega
/-- a weather's entry as it is handed in: (wishes, back, later) -/
def EntAt (K : PySem.W.Frag) (H : Hp) (v : V) (e : Ent) : Prop := ∃ (t : Addr) (w l : V), v = .ref t ∧ SqT K H t [w, .str e.back, l] ∧ Sq K H w e.wishes ∧ Sq K H l e.later
theorem EntAt.same {K : PySem.W.Frag} {H H' : Hp} {v : V} {e : Ent} (h : EntAt K H v e) (k : Same H H') : EntAt K H' v e := by
  obtain ⟨t, w, l, rfl, h1, h2, h3⟩ := h
  exact ⟨t, w, l, rfl, SqT.same h1 k, h2.same k, h3.same k⟩
/-- a dict's pairs: names to entries -/
def EntsAt (K : PySem.W.Frag) (H : Hp) (kvs : List (Key × V)) (ws : List Ent) : Prop := Paired (fun (p : Key × V) (e : Ent) => p.1 = .inr e.name ∧ EntAt K H p.2 e) kvs ws
theorem Paired.imp2 {α β : Type} {R S : α → β → Prop} (f : ∀ a b, R a b → S a b) : ∀ {xs : List α} {ys : List β}, Paired R xs ys → Paired S xs ys
  | _, _, .nil => .nil
  | _, _, .cons h t => .cons (f _ _ h) (Paired.imp2 f t)
theorem EntsAt.same {K : PySem.W.Frag} {H H' : Hp} {kvs : List (Key × V)} {ws : List Ent} (h : EntsAt K H kvs ws) (k : Same H H') : EntsAt K H' kvs ws := Paired.imp2 (fun _ _ q => ⟨q.1, q.2.same k⟩) h
theorem Paired.at2 {α β : Type} {R : α → β → Prop} : ∀ {xs : List α} {ys : List β}, Paired R xs ys → ∀ {i : Nat} {x : α}, xs[i]? = some x → ∃ y, ys[i]? = some y ∧ R x y
  | _, _, .nil, i, x, h => by simp at h
  | _, _, .cons h t, 0, x, e => by
    simp at e
    subst e
    exact ⟨_, rfl, h⟩
  | _, _, .cons h t, i + 1, x, e => by
    simp only [List.getElem?_cons_succ] at e ⊢
    exact Paired.at2 t e
theorem EntsAt.keys {K : PySem.W.Frag} {H : Hp} : ∀ {kvs : List (Key × V)} {ws : List Ent}, EntsAt K H kvs ws → kvs.map (·.1) = ws.map (fun e => Sum.inr e.name)
  | _, _, .nil => rfl
  | _, _, .cons h t => by simp [h.1, EntsAt.keys t]
/-- wishes or later ones, told: names to tuples of texts -/
def TupsAt (K : PySem.W.Frag) (H : Hp) (kvs : List (Key × V)) (ps : List (Str × List Str)) : Prop := Paired (fun (p : Key × V) (e : Str × List Str) => p.1 = .inr e.1 ∧ ∃ a, p.2 = .ref a ∧ SqT K H a (e.2.map V.str)) kvs ps
theorem TupsAt.same {K : PySem.W.Frag} {H H' : Hp} {kvs : List (Key × V)} {ps : List (Str × List Str)} (h : TupsAt K H kvs ps) (k : Same H H') : TupsAt K H' kvs ps := Paired.imp2 (fun _ _ ⟨q, a, e, z⟩ => ⟨q, a, e, SqT.same z k⟩) h
/-- the menu at m is b -/
def IsM (K : PySem.W.Frag) (H : Hp) (m : Addr) (b : Bs) : Prop := ∃ (dx t1 t2 d1 d2 d3 : Addr) (k1 k3 : List (Key × V)),
  H m = some (.ins (He.ga K "Menu") dx [("_things", .ref t1), ("_weathers", .ref t2), ("_wishes", .ref d1), ("_back", .ref d2), ("_later", .ref d3)]) ∧ H dx = some (.own m) ∧ SqT K H t1 (b.things.map V.str) ∧ SqT K H t2 (b.names.map V.str) ∧
  H d1 = some (.dK k1) ∧ TupsAt K H k1 (b.ws.map fun e => (e.name, e.wishes)) ∧ H d2 = some (.dK (b.ws.map fun e => (.inr e.name, .str e.back))) ∧ H d3 = some (.dK k3) ∧ TupsAt K H k3 (b.ws.map fun e => (e.name, e.later))
theorem IsM.same {K : PySem.W.Frag} {H H' : Hp} {m : Addr} {b : Bs} (h : IsM K H m b) (k : Same H H') : IsM K H' m b := by
  obtain ⟨dx, t1, t2, d1, d2, d3, k1, k3, h1, h0, h2, h3, h4, h5, h6, h7, h8⟩ := h
  exact ⟨dx, t1, t2, d1, d2, d3, k1, k3, k _ _ h1, k _ _ h0, SqT.same h2 k, SqT.same h3 k, k _ _ h4, h5.same k, k _ _ h6, k _ _ h7, h8.same k⟩
/-! the promises of the program's defs, for what is right -/
def spIsName : Sp := fun vs H Q _ => ∃ x, vs = [.str x] ∧ NM x ∧ ∀ H', Same H H' → Q (.bl true) H'
def spDiff (K : PySem.W.Frag) : Sp := fun vs H Q _ => ∃ v xs, vs = [v] ∧ Sq K H v xs ∧ xs.length < 1000 ∧ xs.Nodup ∧ Q (.bl true) H
def spThings (K : PySem.W.Frag) : Sp := fun vs H Q _ => ∃ v xs, vs = [v] ∧ Sq K H v xs ∧ 1 ≤ xs.length ∧ xs.length ≤ 5 ∧ (∀ x ∈ xs, NM x) ∧ xs.Nodup ∧ ∀ H', Same H H' → Q (.bl true) H'
def spRow (K : PySem.W.Frag) : Sp := fun vs H Q _ => ∃ v ns xs ys, vs = [v, ns] ∧ Sq K H v xs ∧ Sq K H ns ys ∧ ys.length < 1000 ∧ (∀ x ∈ xs, x ∈ ys) ∧ xs.Nodup ∧ ∀ H', Same H H' → Q (.bl true) H'
def spEntry (K : PySem.W.Frag) : Sp := fun vs H Q _ => ∃ v tv wv e ts ns, vs = [v, tv, wv] ∧ EntAt K H v e ∧ Sq K H tv ts ∧ Sq K H wv ns ∧ ts.length < 1000 ∧ ns.length < 1000 ∧ WE ts ns e ∧ ∀ H', Same H H' → Q (.bl true) H'
def spWeathers (K : PySem.W.Frag) : Sp := fun vs H Q _ => ∃ d tv b kvs, vs = [.ref d, tv] ∧ H d = some (.dK kvs) ∧ EntsAt K H kvs b.ws ∧ Sq K H tv b.things ∧ WF b ∧ ∀ H', Same H H' → Q (.bl true) H'
end Gx
/-! what stays when one object is written; dict comprehensions over a dict of names; how a menu is made -/
namespace Gx
open PySem PySem.Spec PyProof.Rows L2
/-- all but m stays -/
def Kp (m : Addr) (H H' : Hp) : Prop := ∀ a o, a ≠ m → H a = some o → H' a = some o
theorem Same.kp {m : Addr} {H H' : Hp} (k : Same H H') : Kp m H H' := fun a o _ e => k a o e
theorem Kp.put {m : Addr} {H : Hp} {o : HO} : Kp m H (upd H m o) := fun a u n e => by rw [upd_ne n]; exact e
theorem Kp.trans {m : Addr} {H H' H'' : Hp} (k : Kp m H H') (k' : Kp m H' H'') : Kp m H H'' := fun a o n e => k' a o n (k a o n e)
/-- no list and no tuple at m -/
def NoSq (H : Hp) (m : Addr) : Prop := ∀ xs, ¬ Rd H m (.lst xs) ∧ ¬ Rd H m (.tup xs)
theorem NoSq.ins {H : Hp} {m C dx : Addr} {fs : List (Str × V)} (e : H m = some (.ins C dx fs)) : NoSq H m := fun xs => by
  refine ⟨fun z => ?_, fun z => ?_⟩ <;> (rcases z with z | ⟨o2, z⟩ <;> (rw [e] at z; cases z))
theorem NoSq.dK {H : Hp} {m : Addr} {kvs : List (Key × V)} (e : H m = some (.dK kvs)) : NoSq H m := fun xs => by
  refine ⟨fun z => ?_, fun z => ?_⟩ <;> (rcases z with z | ⟨o2, z⟩ <;> (rw [e] at z; cases z))
theorem NoSq.fdK {H : Hp} {m : Addr} {o : Obj} {kvs : List (Key × V)} (e : H m = some (.frz o (.dK kvs))) : NoSq H m := fun xs => by
  refine ⟨fun z => ?_, fun z => ?_⟩ <;> (rcases z with z | ⟨o2, z⟩ <;> (rw [e] at z; cases z))
section
variable {K : PySem.W.Frag} {m : Addr} {H H' : Hp}
theorem SqT.kp {a : Addr} {xs : List V} (h : SqT K H a xs) (k : Kp m H H') (n : NoSq H m) : SqT K H' a xs := by
  rcases h with h | h
  · have ne : a ≠ m := fun e => (n xs).2 (e ▸ h)
    rcases h with h | ⟨o, h⟩
    · exact .inl (.inl (k _ _ ne h))
    · exact .inl (.inr ⟨o, k _ _ ne h⟩)
  · exact .inr h
theorem SqL.kp {a : Addr} {xs : List V} (h : SqL K H a xs) (k : Kp m H H') (n : NoSq H m) : SqL K H' a xs := by
  rcases h with h | h
  · have ne : a ≠ m := fun e => (n xs).1 (e ▸ h)
    rcases h with h | ⟨o, h⟩
    · exact .inl (.inl (k _ _ ne h))
    · exact .inl (.inr ⟨o, k _ _ ne h⟩)
  · exact .inr h
theorem Sq.kp {v : V} {xs : List Str} (h : Sq K H v xs) (k : Kp m H H') (n : NoSq H m) : Sq K H' v xs := by
  obtain ⟨a, e, h⟩ := h
  exact ⟨a, e, h.imp (SqL.kp · k n) (SqT.kp · k n)⟩
theorem EntAt.kp {v : V} {e : Ent} (h : EntAt K H v e) (k : Kp m H H') (n : NoSq H m) : EntAt K H' v e := by
  obtain ⟨t, w, l, rfl, h1, h2, h3⟩ := h
  exact ⟨t, w, l, rfl, SqT.kp h1 k n, h2.kp k n, h3.kp k n⟩
theorem EntsAt.kp {kvs : List (Key × V)} {ws : List Ent} (h : EntsAt K H kvs ws) (k : Kp m H H') (n : NoSq H m) : EntsAt K H' kvs ws := Paired.imp2 (fun _ _ q => ⟨q.1, q.2.kp k n⟩) h
theorem TupsAt.kp {kvs : List (Key × V)} {ps : List (Str × List Str)} (h : TupsAt K H kvs ps) (k : Kp m H H') (n : NoSq H m) : TupsAt K H' kvs ps := Paired.imp2 (fun _ _ ⟨q, a, e, z⟩ => ⟨q, a, e, SqT.kp z k n⟩) h
/-- tuple(v), v a list or a tuple of texts -/
theorem tupOf {v : V} {xs : List Str} {R : VK} (h : Sq K H v xs) (r : ∀ t H3, Same H H3 → SqT K H3 t (xs.map V.str) → R (.ref t) H3) :
    rTupK K [v] H R := by
  obtain ⟨a, rfl, h | h⟩ := h
  · exact ⟨a, _, rfl, .inl ⟨h, fun l hl => r l _ (Same.new hl) (.inl (.inl upd_same))⟩⟩
  · exact ⟨a, _, rfl, .inr ⟨h, r a _ (Same.refl _) h⟩⟩
theorem unlock {d : Addr} {od : Obj} {u : HO} (k : Same (upd H d (.frz od u)) H') (e : H d = some u) : Same H (upd H' d u) := fun b o h => by
  by_cases hb : b = d
  · subst hb
    rw [upd_same, ← e, h]
  · rw [upd_ne hb]
    exact k b o (by rw [upd_ne hb]; exact h)
end
theorem nodup_inj {α : Type} : ∀ {xs : List α} {i j : Nat} {x : α}, xs.Nodup → xs[i]? = some x → xs[j]? = some x → i = j
  | [], i, j, x, _, h, _ => by simp at h
  | a :: xs, 0, 0, x, _, _, _ => rfl
  | a :: xs, 0, j + 1, x, nd, h1, h2 => by
    simp at h1 h2
    subst h1
    exact absurd (List.mem_of_getElem? h2) (List.nodup_cons.mp nd).1
  | a :: xs, i + 1, 0, x, nd, h1, h2 => by
    simp at h1 h2
    subst h2
    exact absurd (List.mem_of_getElem? h1) (List.nodup_cons.mp nd).1
  | a :: xs, i + 1, j + 1, x, nd, h1, h2 => by
    simp only [List.getElem?_cons_succ] at h1 h2
    rw [nodup_inj (List.nodup_cons.mp nd).2 h1 h2]
theorem putK_new {ks : List (Key × V)} {k : Key} {v : V} (h : k ∉ ks.map (·.1)) : putK ks k v = ks ++ [(k, v)] := by
  unfold putK
  rw [if_neg]
  rw [List.any_eq_true]
  rintro ⟨p, hp, e⟩
  exact h (List.mem_map.mpr ⟨p, hp, of_decide_eq_true e⟩)
theorem Paired.map1 {R : Key × V → Ent → Prop} (h : ∀ p e, R p e → p.1 = .inr e.name) : ∀ {xs : List (Key × V)} {ys : List Ent}, Paired R xs ys → xs.map (·.1) = (ys.map Ent.name).map Sum.inr
  | _, _, .nil => rfl
  | _, _, .cons q t => by simp [h _ _ q, Paired.map1 h t]
/-- a dict comprehension over a locked dict of entries -/
theorem dc_ents {kvs : List (Key × V)} {ws : List Ent} (hk : kvs.map (·.1) = ws.map (fun e => Sum.inr e.name)) (nd : (ws.map Ent.name).Nodup) (few : ws.length < 1000) {d D : Addr} {od : Obj} {H1 : Hp} (hl : H1 d = some (.frz od (.dK kvs))) (hD : H1 D = none)
    {g : TG} {tk tv : TE} {vs : List Nat} {σ : L2.St} {Qd : Hp → Prop} (Pz : Hp → V → Ent → Prop) (mono : ∀ H H' z e, Kp D H H' → (∃ acc, H D = some (.dK acc)) → Pz H z e → Pz H' z e)
    (turn : ∀ e ∈ ws, ∀ (H' : Hp) (R : V → VK), Same H1 H' → (∀ z H3, Same H' H3 → Pz H3 z e → R (.str e.name) z H3) → g (.str e.name) (wipe σ vs) H' fun σ2 H2 => wipe σ2 vs = wipe σ vs ∧ tk σ2 H2 fun y H4 => tv σ2 H4 (R y))
    (done : ∀ H' acc, Same H1 H' → H' D = some (.dK acc) → Paired (fun (p : Key × V) (e : Ent) => p.1 = .inr e.name ∧ Pz H' p.2 e) acc ws → Qd H') :
    ∃ W : Nat → Nat → Hp → Prop, (∃ m, W 0 m (upd H1 D (.dK []))) ∧ ∀ i m H, W i m H →
      ((Itk d od kvs).stop i H ∧ Qd H) ∨ ((Itk d od kvs).go i H ∧ ∃ Nx : Hp → Prop, (∀ H', Nx H' → ∃ m', m' < m ∧ W (i + 1) m' H') ∧ ∀ x H', (Itk d od kvs).yld i H x H' → g x (wipe σ vs) H' fun σ2 H2 => wipe σ2 vs = wipe σ vs ∧ tYes σ2 H2 fun b H3 =>
        if b = true then tk σ2 H3 fun y H4 => tv σ2 H4 fun z H5 => ∃ kvs k, y = kV k ∧ H5 D = some (.dK kvs) ∧ kvs.length < sizeLine ∧ Nx (upd H5 D (.dK (putK kvs k z))) else Nx H3) := by
  have hlen : kvs.length = ws.length := by simpa using congrArg List.length hk
  refine dc_it walk_keys (tt := tYes) (fun i H' => Same H1 H' ∧ ∃ acc, H' D = some (.dK acc) ∧ Paired (fun (p : Key × V) (e : Ent) => p.1 = .inr e.name ∧ Pz H' p.2 e) acc (ws.take i)) ⟨Same.new hD, [], upd_same, by rw [List.take_zero]; exact .nil⟩ (fun i H' _ z => z.1 _ _ hl) (fun i x H2 H' hi z y => ?_)
    (fun H' z => by
      obtain ⟨s, acc, e, p⟩ := z
      rw [hlen, List.take_length] at p
      exact done H' acc s e p)
  obtain ⟨rfl, k, v, hkv, rfl⟩ := y
  obtain ⟨s, acc, e, p⟩ := z
  have hi2 : i < ws.length := by omega
  have ei : ws[i]? = some ws[i] := List.getElem?_eq_getElem hi2
  have ek : k = .inr ws[i].name := by
    have h1 : (kvs.map (·.1))[i]? = some k := by rw [List.getElem?_map, hkv]; rfl
    rw [hk, List.getElem?_map, ei] at h1
    exact (Option.some.inj h1).symm
  subst ek
  have R := turn ws[i] (List.getElem_mem hi2) H' (fun y z H5 => ∃ kvs k, y = kV k ∧ H5 D = some (.dK kvs) ∧ kvs.length < sizeLine ∧ (Same H1 (upd H5 D (.dK (putK kvs k z))) ∧ ∃ acc, (upd H5 D (.dK (putK kvs k z))) D = some (.dK acc) ∧ Paired (fun (p : Key × V) (e : Ent) => p.1 = .inr e.name ∧ Pz (upd H5 D (.dK (putK kvs k z))) p.2 e) acc (ws.take (i + 1)))) s (fun z H3 k3 pz => ?_)
  · exact R
  · have la : acc.length = i := by rw [Paired.length p, List.length_take]; omega
    have fresh : (Sum.inr ws[i].name : Key) ∉ acc.map (·.1) := by
      rw [Paired.map1 (fun _ _ q => q.1) p]
      intro hm
      obtain ⟨nm, h1, h2⟩ := List.mem_map.mp hm
      cases h2
      rw [List.map_take] at h1
      obtain ⟨j, hj, ej⟩ := List.mem_iff_getElem.mp h1
      have lj : j < i := by
        rw [List.length_take] at hj
        omega
      rw [List.getElem_take] at ej
      have e1 : (ws.map Ent.name)[j]? = some ws[i].name := by
        rw [List.getElem?_eq_getElem (by rw [List.length_map]; omega), ej]
      have e2 : (ws.map Ent.name)[i]? = some ws[i].name := by rw [List.getElem?_map, ei]; rfl
      have := nodup_inj nd e1 e2
      omega
    refine ⟨acc, .inr ws[i].name, rfl, k3 _ _ e, by rw [la]; exact Nat.lt_of_lt_of_le (by omega : i < 1000) (by decide), Same.over (s.trans k3) hD, _, upd_same, ?_⟩
    rw [putK_new fresh, List.take_succ, ei]
    have st : ∀ z e, Pz H3 z e → Pz (upd H3 D (.dK (acc ++ [(Sum.inr ws[i].name, z)]))) z e := fun z e h => mono _ _ _ _ Kp.put ⟨acc, k3 _ _ ‹_›⟩ h
    have hd3 : H3 D = some (.dK acc) := k3 _ _ e
    refine Paired.snoc (Paired.imp2 (fun a b q => ⟨q.1, mono _ _ _ _ Kp.put ⟨acc, hd3⟩ (mono _ _ _ _ (Same.kp k3) ⟨acc, e⟩ q.2)⟩) p) ⟨rfl, mono _ _ _ _ Kp.put ⟨acc, hd3⟩ pz⟩
end Gx
/-! an error of the program raised; what the menu's methods promise -/
namespace Gx
open PySem PySem.Spec PyProof.Rows L2
section
variable {X : Cx} {x f : Str} {C : Addr} {p pos : Pos} {e : Expr} {t : TA}
theorem pmk_exV (Z' : ∃ fI fd, ExK X.prog X.w X.K X.mg X.base x C f fI fd) (hr : Room 2 X.A) (hg : Gl X x) (ha : PA X [e] t) (hdb : (x == ("__debug__" : Str)) = false := by decide) (he : starEach [e] X.env = (false, eval e X.env) :: starEach [] X.env := by rfl)
    (hpl : (backTo pos (starEach [] X.env)).any (·.1) = false := by rfl) : PMk X (.Call (.Name x p) [e] [] pos) (tMkO C (spExI C f) [] t) := by
  obtain ⟨fI, fd, Z⟩ := Z'
  exact pmk_oex Z.T Z.i Z.t Z.F hr Z.b .nil pass0 hg Z.g ha hdb he hpl
end
/-- no weather of the menu b -/
def BadX (K : PySem.W.Frag) (H : Hp) (b : Bs) (x : V) : Prop := NoStr K H x ∨ ∃ z, x = .str z ∧ z ∉ b.names
/-- the way out by BadWeather -/
def OutW (K : PySem.W.Frag) (H : Hp) (x : V) (E : XK) : Prop := ∀ d H', H d = none → Same H H' → H' d = some (.xd [("value", x)]) → E (.ref (He.ga K "BadWeather")) (some d) H'
/-- the heap behind a raised error, laid out -/
theorem raised {H : Hp} {a d C : Addr} {v : V} (na : H a = none) (nd : H d = none) (ne : d ≠ a) {E : XK} (h : ∀ H', Same H H' → H' d = some (.xd [("value", v)]) → E (.ref C) (some d) H') :
    E (.ref C) (some d) (upd (del (upd (upd (upd H a (exo a C none)) d (exd d [("value", v)])) a (exo a C (some d))) a) d (.xd [("value", v)])) := by
  refine h _ (fun b o e => ?_) upd_same
  have b1 : b ≠ d := ne_of_none e nd
  have b2 : b ≠ a := ne_of_none e na
  rw [upd_ne b1, del_ne b2, upd_ne b2, upd_ne b1, upd_ne b2]
  exact e
def spCheck (K : PySem.W.Frag) : Sp := fun vs H Q E => ∃ m b x, vs = [.ref m, x] ∧ IsM K H m b ∧ ((∃ z, x = .str z ∧ z ∈ b.names ∧ Q .non H) ∨ (BadX K H b x ∧ OutW K H x E))
def spWishes (K : PySem.W.Frag) : Sp := fun vs H Q E => ∃ m b x, vs = [.ref m, x] ∧ IsM K H m b ∧ b.names.Nodup ∧ ((∃ e ∈ b.ws, x = .str e.name ∧ ∀ p, H p = none → Q (.ref p) (upd H p (.lst (e.wishes.map V.str)))) ∨ (BadX K H b x ∧ OutW K H x E))
def spLater (K : PySem.W.Frag) : Sp := fun vs H Q E => ∃ m b x, vs = [.ref m, x] ∧ IsM K H m b ∧ b.names.Nodup ∧ ((∃ e ∈ b.ws, x = .str e.name ∧ ∀ p, H p = none → Q (.ref p) (upd H p (.lst (e.later.map V.str)))) ∨ (BadX K H b x ∧ OutW K H x E))
def spBack (K : PySem.W.Frag) : Sp := fun vs H Q E => ∃ m b x, vs = [.ref m, x] ∧ IsM K H m b ∧ b.names.Nodup ∧ ((∃ e ∈ b.ws, x = .str e.name ∧ Q (.str e.back) H) ∨ (BadX K H b x ∧ OutW K H x E))
theorem TupsAt.keys {K : PySem.W.Frag} {H : Hp} : ∀ {kvs : List (Key × V)} {ps : List (Str × List Str)}, TupsAt K H kvs ps → kvs.map (·.1) = (ps.map (·.1)).map Sum.inr
  | _, _, .nil => rfl
  | _, _, .cons h t => by simp [h.1, TupsAt.keys t]
theorem nodup_inr {xs : List Str} (h : xs.Nodup) : (xs.map (Sum.inr : Str → Key)).Nodup := List.Pairwise.map _ (fun a b n e => n (Sum.inr.inj e)) h
/-- what such a dict holds at a name -/
theorem TupsAt.get {K : PySem.W.Frag} {H : Hp} {kvs : List (Key × V)} {ws : List Ent} {f : Ent → List Str} (h : TupsAt K H kvs (ws.map fun e => (e.name, f e))) (nd : (ws.map Ent.name).Nodup) {e : Ent} (he : e ∈ ws) :
    ∃ a, valV kvs (.inr e.name) = some (.ref a) ∧ SqT K H a ((f e).map V.str) := by
  obtain ⟨i, hi, ei⟩ := List.mem_iff_getElem.mp he
  have hl : kvs.length = ws.length := by
    have := Paired.length h
    simpa using this
  have eki : kvs[i]? = some (kvs[i]'(by omega)) := List.getElem?_eq_getElem (by omega)
  obtain ⟨y, f1, f2, a, f3, f4⟩ := Paired.at2 h eki
  rw [List.getElem?_map, List.getElem?_eq_getElem hi, ei] at f1
  cases f1
  refine ⟨a, ?_, f4⟩
  have ndk : (kvs.map (·.1)).Nodup := by
    have e2 : (ws.map fun e => (e.name, f e)).map (·.1) = ws.map Ent.name := by rw [List.map_map]; rfl
    rw [h.keys, e2]
    exact nodup_inr nd
  rw [← f3]
  exact valV_at (i := i) ndk (by rw [eki, ← f2])
theorem back_get {ws : List Ent} (nd : (ws.map Ent.name).Nodup) {e : Ent} (he : e ∈ ws) : valV (ws.map fun e => ((Sum.inr e.name : Key), V.str e.back)) (.inr e.name) = some (.str e.back) := by
  obtain ⟨i, hi, ei⟩ := List.mem_iff_getElem.mp he
  refine valV_at (i := i) ?_ ?_
  · rw [List.map_map]
    have := nodup_inr nd
    rwa [List.map_map] at this
  · rw [List.getElem?_map, List.getElem?_eq_getElem hi, ei]
    rfl
end Gx
/-! equality of menus -/
namespace Gx
open PySem PySem.Spec PyProof.Rows L2
/-- what is asked of an own class by its name, its instances compared and looked at -/
def instB (K : PySem.W.Frag) (x : Str) : Bool :=
  decide (PySem.W.findIn K (.ref (He.ga K x)) "__class__" = some (some (.builtin "object.__class__"))) && (decide (PySem.W.specialIn K (.builtin "object.__class__") "__get__" = some (some (.builtin "getset_descriptor.__get__"))) && (decide (PySem.W.takesIn K (.builtin "object.__class__") = some true) &&
  (decide (PySem.W.mroIn K (He.ga K x) (.type "object") = some true) && (decide (PySem.W.kitOne K (.ref (He.ga K x)) (.ref (He.ga K x)) = some true) && (PySem.W.notFirst K (He.ga K x) (.ref (He.ga K x)) &&
  (decide (PySem.W.findIn K (.ref (He.ga K x)) "__ne__" = some (some (.builtin "object.__ne__"))) && decide (PySem.W.subIn K (.ref (He.ga K x)) (.type "object") = some true)))))))
structure InstB (K : PySem.W.Frag) (x : Str) : Prop where
  ha : PySem.W.findIn K (.ref (He.ga K x)) "__class__" = some (some (.builtin "object.__class__"))
  hn : PySem.W.specialIn K (.builtin "object.__class__") "__get__" = some (some (.builtin "getset_descriptor.__get__"))
  ht : PySem.W.takesIn K (.builtin "object.__class__") = some true
  hm : PySem.W.mroIn K (He.ga K x) (.type "object") = some true
  kit : PySem.W.kitOne K (.ref (He.ga K x)) (.ref (He.ga K x)) = some true
  first : PySem.W.notFirst K (He.ga K x) (.ref (He.ga K x)) = true
  ne : PySem.W.findIn K (.ref (He.ga K x)) "__ne__" = some (some (.builtin "object.__ne__"))
  obj : PySem.W.subIn K (.ref (He.ga K x)) (.type "object") = some true
theorem instB_ok {K : PySem.W.Frag} {x : Str} (h : instB K x = true) : InstB K x := by
  simp only [instB, Bool.and_eq_true, decide_eq_true_eq] at h
  obtain ⟨h1, h2, h3, h4, h5, h6, h7, h8⟩ := h
  exact ⟨h1, h2, h3, h4, h5, h6, h7, h8⟩
theorem InstB.ty {K : PySem.W.Frag} {x : Str} (B : InstB K x) (c : Cls K (He.ga K x)) {H : Hp} {a dx : Addr} {fs : List (Str × V)} (e : H a = some (.ins (He.ga K x) dx fs)) : TyX K H (.ref a) (.ref (He.ga K x)) := .base (.ins e c B.ha B.hn B.ht B.hm)
def okS (x : Str) : Prop := PyData.strOk x = true
theorem NM.ok {x : Str} (h : NM x) : okS x := by
  unfold okS PyData.strOk
  rw [Array.all_eq_true]
  intro i hi
  have := h.2.2 (x.cps[i]) (by simp)
  simp only [decide_eq_true_eq]
  omega
def dT (xs : List Str) : PyData := .tuple (xs.map .str)
theorem lay_str : ∀ {xs : List Str}, (∀ x ∈ xs, okS x) → PyData.canLayAll0 (xs.map .str) = true
  | [], _ => by simp [PyData.canLayAll0]
  | x :: xs, h => by
    simp only [List.map_cons, PyData.canLayAll0, PyData.canLay0, Bool.and_eq_true]
    exact ⟨h x List.mem_cons_self, lay_str fun y hy => h y (List.mem_cons_of_mem _ hy)⟩
theorem depth_str : ∀ xs : List Str, PyData.depthAll (xs.map .str) = 0
  | [] => by simp [PyData.depthAll]
  | x :: xs => by simp [PyData.depthAll, PyData.depth, depth_str xs]
theorem shape_t {xs : List Str} (h : ∀ x ∈ xs, okS x) : SeqAt.shaped (dT xs) = true := by
  unfold SeqAt.shaped dT
  rw [Bool.and_eq_true]
  refine ⟨by simp only [PyData.canLay0]; exact lay_str h, decide_eq_true ?_⟩
  simp only [PyData.depth, depth_str]
  omega
theorem shape_s {x : Str} (h : okS x) : SeqAt.shaped (.str x) = true := by
  unfold SeqAt.shaped
  rw [Bool.and_eq_true]
  refine ⟨by simp only [PyData.canLay0]; exact h, decide_eq_true ?_⟩
  simp only [PyData.depth]
  omega
theorem beq_str (x y : Str) : (x == y) = decide (x = y) := by
  by_cases h : x = y
  · subst h; simp
  · rw [decide_eq_false h]; exact beq_eq_false_iff_ne.mpr h
theorem eqv_strs : ∀ xs ys : List Str, PyData.eqvAll (xs.map .str) (ys.map .str) = decide (xs = ys)
  | [], [] => by simp [PyData.eqvAll]
  | [], _ :: _ => by simp [PyData.eqvAll]
  | _ :: _, [] => by simp [PyData.eqvAll]
  | x :: xs, y :: ys => by
    have e : PyData.eqvAll ((x :: xs).map .str) ((y :: ys).map .str) = ((x == y) && PyData.eqvAll (xs.map .str) (ys.map .str)) := by simp only [List.map_cons, PyData.eqvAll, PyData.eqv]
    rw [e, eqv_strs xs ys, beq_str]
    simp
theorem eqv_t (xs ys : List Str) : PyData.eqv (dT xs) (dT ys) = decide (xs = ys) := by
  unfold dT
  simp only [PyData.eqv]
  exact eqv_strs xs ys
theorem eqv_ts : ∀ xs ys : List (List Str), PyData.eqvAll (xs.map dT) (ys.map dT) = decide (xs = ys)
  | [], [] => by simp [PyData.eqvAll]
  | [], _ :: _ => by simp [PyData.eqvAll]
  | _ :: _, [] => by simp [PyData.eqvAll]
  | x :: xs, y :: ys => by
    have e : PyData.eqvAll ((x :: xs).map dT) ((y :: ys).map dT) = (PyData.eqv (dT x) (dT y) && PyData.eqvAll (xs.map dT) (ys.map dT)) := by simp only [List.map_cons, PyData.eqvAll]
    rw [e, eqv_ts xs ys, eqv_t]
    simp
section
variable {K : PySem.W.Frag} {H : Hp}
theorem dp_strs : ∀ xs : List Str, DpAll K H (xs.map V.str) (xs.map .str)
  | [] => .nil
  | x :: xs => .cons (.str x) (dp_strs xs)
theorem dp_t {a : Addr} {xs : List Str} (h : SqT K H a (xs.map V.str)) : Dp K H (.ref a) (dT xs) := .tup h (dp_strs xs)
theorem TupsAt.dp : ∀ {kvs : List (Key × V)} {ps : List (Str × List Str)}, TupsAt K H kvs ps → DpAll K H (kvs.map (·.2)) (ps.map fun p => dT p.2)
  | _, _, .nil => .nil
  | (_, _) :: _, _, .cons ⟨_, a, e, h⟩ t => by
    simp only at e
    subst e
    exact .cons (dp_t h) (TupsAt.dp t)
end
/-- the menus' own equality, part by part -/
def eqB (b c : Bs) : Bool := decide (b.things = c.things) && (decide (b.names = c.names) && (decide (b.ws.map Ent.wishes = c.ws.map Ent.wishes) && (decide (b.ws.map Ent.back = c.ws.map Ent.back) && decide (b.ws.map Ent.later = c.ws.map Ent.later))))
theorem ents_eq : ∀ {ws vs : List Ent}, ws.map Ent.name = vs.map Ent.name → ws.map Ent.wishes = vs.map Ent.wishes → ws.map Ent.back = vs.map Ent.back → ws.map Ent.later = vs.map Ent.later → ws = vs
  | [], [], _, _, _, _ => rfl
  | [], _ :: _, h, _, _, _ => by simp at h
  | _ :: _, [], h, _, _, _ => by simp at h
  | ⟨n, w, k, l⟩ :: ws, ⟨n2, w2, k2, l2⟩ :: vs, h1, h2, h3, h4 => by
    simp only [List.map_cons, List.cons.injEq] at h1 h2 h3 h4
    rw [ents_eq h1.2 h2.2 h3.2 h4.2, h1.1, h2.1, h3.1, h4.1]
theorem eqB_eq (b c : Bs) : eqB b c = decide (b = c) := by
  rw [Bool.eq_iff_iff]
  unfold eqB Bs.names
  simp only [Bool.and_eq_true, decide_eq_true_eq]
  constructor
  · rintro ⟨h1, h2, h3, h4, h5⟩
    obtain ⟨t, ws⟩ := b
    obtain ⟨t2, ws2⟩ := c
    simp only at h1 h2 h3 h4 h5
    rw [h1, ents_eq h2 h3 h4 h5]
  · rintro rfl
    exact ⟨rfl, rfl, rfl, rfl, rfl⟩
theorem WF.okT {b : Bs} (wf : WF b) : ∀ x ∈ b.things, okS x := fun x h => (wf.tn x h).ok
theorem WF.okN {b : Bs} (wf : WF b) : ∀ x ∈ b.names, okS x := fun x h => (wf.wn x h).ok
theorem WF.okW {b : Bs} (wf : WF b) {e : Ent} (he : e ∈ b.ws) : (∀ x ∈ e.wishes, okS x) ∧ okS e.back ∧ ∀ x ∈ e.later, okS x := by
  have h := wf.we e he
  refine ⟨fun x hx => wf.okT x (h.w x hx), ?_, fun x hx => wf.okN x (h.l x hx)⟩
  rcases h.b with q | q <;> rw [q] <;> (unfold okS; decide +kernel)
/-- == at two menus, or at a menu and something else -/
def spEqM (K : PySem.W.Frag) : Sp := fun vs H Q _ => ∃ m y b, vs = [.ref m, y] ∧ IsM K H m b ∧ ((∃ m2 c, y = .ref m2 ∧ IsM K H m2 c ∧ WF b ∧ WF c ∧ Q (.bl (decide (b = c))) H) ∨ ((∃ T, TyX K H y (.type T) ∧ T ∈ ["NoneType", "bool", "int", "str", "list", "tuple", "dict"]) ∧ Q (.bl false) H))
end Gx
/-! the laws' draws: what they promise -/
namespace Gx
open PySem PySem.Spec PyProof.Rows L2
def SrcO (o : HO) : Prop := ∃ x y : Int, o = .lst [.int x, .int y] ∧ 0 ≤ x ∧ 0 ≤ y ∧ y < 2147483648
def SrcAt (H : Hp) (p : Addr) : Prop := ∃ x y : Int, H p = some (.lst [.int x, .int y]) ∧ 0 ≤ x ∧ 0 ≤ y ∧ y < 2147483648
theorem SrcAt.put {H : Hp} {p : Addr} {o : HO} (h : SrcO o) : SrcAt (upd H p o) p := by
  obtain ⟨x, y, rfl, h⟩ := h
  exact ⟨x, y, upd_same, h⟩
theorem SrcAt.same {H H' : Hp} {p : Addr} (h : SrcAt H p) (k : Same H H') : SrcAt H' p := by
  obtain ⟨x, y, e, h⟩ := h
  exact ⟨x, y, k _ _ e, h⟩
theorem SrcAt.old {H : Hp} {p : Addr} (h : SrcAt H p) {a : Addr} (n : H a = none) : a ≠ p := fun z => by
  obtain ⟨x, y, e, _⟩ := h
  rw [z, e] at n
  cases n
section
variable {K : PySem.W.Frag} {p : Addr} {H H' : Hp}
theorem SqT.src {a : Addr} {xs : List V} (h : SqT K H a xs) (k : Kp p H H') (s : SrcAt H p) : SqT K H' a xs := by
  obtain ⟨x, y, e, _⟩ := s
  rcases h with h | h
  · have ne : a ≠ p := fun z => by
      subst z
      rcases h with h | ⟨o, h⟩ <;> rw [e] at h <;> cases h
    rcases h with h | ⟨o, h⟩
    · exact .inl (.inl (k _ _ ne h))
    · exact .inl (.inr ⟨o, k _ _ ne h⟩)
  · exact .inr h
theorem Kp.none {a : Addr} (k : Kp p H H') (s : SrcAt H p) (h : H' a = Option.none) (hs : SrcAt H' p) : H a = Option.none := by
  rcases q : H a with _ | o
  · rfl
  · have ne : a ≠ p := hs.old h
    rw [k _ _ ne q] at h
    cases h
end
def spDraw : Sp := fun vs H Q _ => ∃ (p : Addr) (k : Int), vs = [.ref p, .int k] ∧ SrcAt H p ∧ 0 < k ∧ k < 1073741824 ∧ ∀ (r : Int) (o : HO), 0 ≤ r → r < k → SrcO o → Q (.int r) (upd H p o)
def spSource (K : PySem.W.Frag) : Sp := fun vs H Q _ => ∃ (a : Addr) (ns : List Int) (st : Int), vs = [.ref a, .int st] ∧ SqL K H a (ns.map V.int) ∧ ns.length ≤ 63 ∧ (∀ z ∈ ns, Builtin.Int.intBits z ≤ 1048576) ∧ 0 ≤ st ∧ st < 1000000 ∧
  ∀ (p : Addr) (o : HO), H p = none → SrcO o → Q (.ref p) (upd H p o)
/-- one of a list, or a sign of a text -/
def spPick (K : PySem.W.Frag) : Sp := fun vs H Q _ => ∃ (p : Addr) (w : V), vs = [.ref p, w] ∧ SrcAt H p ∧
  ((∃ (b : Addr) (xs : List V), w = .ref b ∧ SqL K H b xs ∧ 0 < xs.length ∧ xs.length < 1000000 ∧ b ≠ p ∧ ∀ (v : V) (o : HO), v ∈ xs → SrcO o → Q v (upd H p o)) ∨
   (∃ z : Str, w = .str z ∧ 0 < z.length ∧ z.length < 1000000 ∧ ∀ (c : Nat) (o : HO), c ∈ z.cps.toList → SrcO o → Q (.str ⟨#[c]⟩) (upd H p o)))
/-- the things in a drawn sequence -/
def spMixed (K : PySem.W.Frag) : Sp := fun vs H Q _ => ∃ (p a : Addr) (xs : List Str), vs = [.ref p, .ref a] ∧ SrcAt H p ∧ a ≠ p ∧ (SqL K H a (xs.map V.str) ∨ SqT K H a (xs.map V.str)) ∧ xs.length < 1000 ∧ (∀ x ∈ xs, okS x) ∧
  ∀ (H' : Hp) (q : Addr) (ys : List Str), Kp p H H' → SrcAt H' p → H' q = some (.lst (ys.map V.str)) → ys.Perm xs → H q = none → Q (.ref q) H'
def spWord : Sp := fun vs H Q _ => ∃ p, vs = [.ref p] ∧ SrcAt H p ∧ ∀ H' x, Kp p H H' → SrcAt H' p → NM x → Q (.str x) H'
def spNames (K : PySem.W.Frag) : Sp := fun vs H Q _ => ∃ (p : Addr) (many : Int), vs = [.ref p, .int many] ∧ SrcAt H p ∧ 1 ≤ many ∧ many ≤ 5 ∧
  ∀ (H' : Hp) (q : Addr) (ys : List Str), Kp p H H' → SrcAt H' p → H' q = some (.lst (ys.map V.str)) → (ys.length : Int) = many → ys.Nodup → (∀ y ∈ ys, NM y) → H q = none → Q (.ref q) H'
def spSome (K : PySem.W.Frag) : Sp := fun vs H Q _ => ∃ (p a : Addr) (xs : List Str) (least : Int), vs = [.ref p, .ref a, .int least] ∧ SrcAt H p ∧ a ≠ p ∧ (SqL K H a (xs.map V.str) ∨ SqT K H a (xs.map V.str)) ∧ xs.Nodup ∧ (∀ x ∈ xs, okS x) ∧ 0 ≤ least ∧ least ≤ xs.length ∧ xs.length ≤ 5 ∧
  ∀ (H' : Hp) (t : Addr) (ys : List Str), Kp p H H' → SrcAt H' p → SqT K H' t (ys.map V.str) → ys.Nodup → (∀ y ∈ ys, y ∈ xs) → least ≤ (ys.length : Int) → Q (.ref t) H'
/-- an entry as the laws hold it: (name, wishes, back, later), tuples throughout -/
def EAt (K : PySem.W.Frag) (H : Hp) (v : V) (e : Ent) : Prop := ∃ a w l, v = .ref a ∧ SqT K H a [.str e.name, .ref w, .str e.back, .ref l] ∧ SqT K H w (e.wishes.map V.str) ∧ SqT K H l (e.later.map V.str)
/-- a menu as the laws hold it -/
def BaseAt (K : PySem.W.Frag) (H : Hp) (t : Addr) (b : Bs) : Prop := ∃ th wt es, SqT K H t [.ref th, .ref wt] ∧ SqT K H th (b.things.map V.str) ∧ SqT K H wt es ∧ Paired (EAt K H) es b.ws
section
variable {K : PySem.W.Frag} {p : Addr} {H H' : Hp}
theorem EAt.src {v : V} {e : Ent} (h : EAt K H v e) (k : Kp p H H') (s : SrcAt H p) : EAt K H' v e := by
  obtain ⟨a, w, l, rfl, h1, h2, h3⟩ := h
  exact ⟨a, w, l, rfl, SqT.src h1 k s, SqT.src h2 k s, SqT.src h3 k s⟩
theorem EAt.same {v : V} {e : Ent} (h : EAt K H v e) (k : Same H H') : EAt K H' v e := by
  obtain ⟨a, w, l, rfl, h1, h2, h3⟩ := h
  exact ⟨a, w, l, rfl, SqT.same h1 k, SqT.same h2 k, SqT.same h3 k⟩
theorem BaseAt.src {t : Addr} {b : Bs} (h : BaseAt K H t b) (k : Kp p H H') (s : SrcAt H p) : BaseAt K H' t b := by
  obtain ⟨a, w, es, h1, h2, h3, h4⟩ := h
  exact ⟨a, w, es, SqT.src h1 k s, SqT.src h2 k s, SqT.src h3 k s, Paired.imp2 (fun _ _ q => q.src k s) h4⟩
theorem BaseAt.same {t : Addr} {b : Bs} (h : BaseAt K H t b) (k : Same H H') : BaseAt K H' t b := by
  obtain ⟨a, w, es, h1, h2, h3, h4⟩ := h
  exact ⟨a, w, es, SqT.same h1 k, SqT.same h2 k, SqT.same h3 k, Paired.imp2 (fun _ _ q => q.same k) h4⟩
end
def spBase (K : PySem.W.Frag) : Sp := fun vs H Q _ => ∃ (p : Addr) (most : Int), vs = [.ref p, .int most] ∧ SrcAt H p ∧ 1 ≤ most ∧ most ≤ 5 ∧ ∀ H' t b, Kp p H H' → SrcAt H' p → BaseAt K H' t b → WF b → Q (.ref t) H'
end Gx
/-! a menu whose makings are changed behind -/
namespace Gx
open PySem PySem.Spec PyProof.Rows L2
/-- the menu at m is b, its dicts not there in H0 -/
def IsMF (K : PySem.W.Frag) (H0 H : Hp) (m : Addr) (b : Bs) : Prop := ∃ (dx t1 t2 d1 d2 d3 : Addr) (k1 k3 : List (Key × V)),
  H m = some (.ins (He.ga K "Menu") dx [("_things", .ref t1), ("_weathers", .ref t2), ("_wishes", .ref d1), ("_back", .ref d2), ("_later", .ref d3)]) ∧ H dx = some (.own m) ∧ SqT K H t1 (b.things.map V.str) ∧ SqT K H t2 (b.names.map V.str) ∧
  H d1 = some (.dK k1) ∧ TupsAt K H k1 (b.ws.map fun e => (e.name, e.wishes)) ∧ H d2 = some (.dK (b.ws.map fun e => (.inr e.name, .str e.back))) ∧ H d3 = some (.dK k3) ∧ TupsAt K H k3 (b.ws.map fun e => (e.name, e.later)) ∧ H0 d1 = none ∧ H0 d2 = none ∧ H0 d3 = none
section
variable {K : PySem.W.Frag} {H0 H H' : Hp} {m : Addr} {b : Bs}
theorem IsMF.is (h : IsMF K H0 H m b) : IsM K H m b := by
  obtain ⟨dx, t1, t2, d1, d2, d3, k1, k3, h1, h0, h2, h3, h4, h5, h6, h7, h8, _⟩ := h
  exact ⟨dx, t1, t2, d1, d2, d3, k1, k3, h1, h0, h2, h3, h4, h5, h6, h7, h8⟩
theorem IsMF.same (h : IsMF K H0 H m b) (k : Same H H') : IsMF K H0 H' m b := by
  obtain ⟨dx, t1, t2, d1, d2, d3, k1, k3, h1, h0, h2, h3, h4, h5, h6, h7, h8, h9⟩ := h
  exact ⟨dx, t1, t2, d1, d2, d3, k1, k3, k _ _ h1, k _ _ h0, SqT.same h2 k, SqT.same h3 k, k _ _ h4, h5.same k, k _ _ h6, k _ _ h7, h8.same k, h9⟩
theorem SqT.lstK {w a : Addr} {xs ys : List V} (h : SqT K H a xs) (k : Kp w H H') (e : H w = some (.lst ys)) : SqT K H' a xs := by
  rcases h with h | h
  · have ne : a ≠ w := fun z => by
      subst z
      rcases h with h | ⟨o, h⟩ <;> rw [e] at h <;> cases h
    rcases h with h | ⟨o, h⟩
    · exact .inl (.inl (k _ _ ne h))
    · exact .inl (.inr ⟨o, k _ _ ne h⟩)
  · exact .inr h
/-- a list is written -/
theorem IsMF.lst {w : Addr} {ys : List V} (h : IsMF K H0 H m b) (k : Kp w H H') (e : H w = some (.lst ys)) : IsMF K H0 H' m b := by
  obtain ⟨dx, t1, t2, d1, d2, d3, k1, k3, h1, h0, h2, h3, h4, h5, h6, h7, h8, h9⟩ := h
  have f : ∀ {a o}, H a = some o → (∀ xs, o ≠ .lst xs) → H' a = some o := fun {a o} q n => k _ _ (fun z => by rw [z, e] at q; cases q; exact n _ rfl) q
  exact ⟨dx, t1, t2, d1, d2, d3, k1, k3, f h1 (by intros; simp), f h0 (by intros; simp), SqT.lstK h2 k e, SqT.lstK h3 k e, f h4 (by intros; simp), Paired.imp2 (fun _ _ ⟨q, a, r, z⟩ => ⟨q, a, r, SqT.lstK z k e⟩) h5, f h6 (by intros; simp), f h7 (by intros; simp),
    Paired.imp2 (fun _ _ ⟨q, a, r, z⟩ => ⟨q, a, r, SqT.lstK z k e⟩) h8, h9⟩
/-- a dict that was there is written -/
theorem IsMF.dic {d : Addr} {kvs : List (Key × V)} {u : HO} (h : IsMF K H0 H m b) (k : Kp d H H') (e : H d = some (.dK kvs)) (old : H0 d = some u) : IsMF K H0 H' m b := by
  obtain ⟨dx, t1, t2, d1, d2, d3, k1, k3, h1, h0, h2, h3, h4, h5, h6, h7, h8, n1, n2, n3⟩ := h
  have f : ∀ {a o}, H a = some o → (∀ xs, o ≠ .dK xs) → H' a = some o := fun {a o} q n => k _ _ (fun z => by rw [z, e] at q; cases q; exact n _ rfl) q
  have g : ∀ {a o}, H a = some o → H0 a = none → H' a = some o := fun {a o} q n => k _ _ (fun z => by rw [z, old] at n; cases n) q
  have nd := NoSq.dK e
  exact ⟨dx, t1, t2, d1, d2, d3, k1, k3, f h1 (by intros; simp), f h0 (by intros; simp), SqT.kp h2 k nd, SqT.kp h3 k nd, g h4 n1, h5.kp k nd, g h6 n2, g h7 n3, h8.kp k nd, n1, n2, n3⟩
end
/-- Menu's own __init__ at a new instance, its dicts new -/
def spInitF (K : PySem.W.Frag) : Sp := fun vs H Q _ => ∃ m dx tv d b kvs, vs = [.ref m, tv, .ref d] ∧ H m = some (.ins (He.ga K "Menu") dx []) ∧ H dx = some (.own m) ∧ H d = some (.dK kvs) ∧ EntsAt K H kvs b.ws ∧ Sq K H tv b.things ∧ WF b ∧
  ∀ H', Kp m H H' → IsMF K H H' m b → Q .non H'
/-- the menu made, whatever it was made of -/
def spMade (K : PySem.W.Frag) : Sp := fun vs H Q _ => ∃ t b, vs = [.ref t] ∧ BaseAt K H t b ∧ WF b ∧ ∀ H' m, Same H H' → IsM K H' m b → H m = none → Q (.ref m) H'
/-- an entry whose lists are of Fr, of at most N items -/
def LAt (K : PySem.W.Frag) (Fr : Addr → Prop) (H : Hp) (N : Nat) (p : Key × V) (e : Ent) : Prop := p.1 = .inr e.name ∧ ∃ t w l, p.2 = .ref t ∧ SqT K H t [.ref w, .str e.back, .ref l] ∧ Fr w ∧ Fr l ∧ (∃ ys, H w = some (.lst ys) ∧ ys.length ≤ N) ∧ ∃ ys, H l = some (.lst ys) ∧ ys.length ≤ N
/-- .. just as they were handed in -/
def XAt (K : PySem.W.Frag) (H0 H : Hp) (p : Key × V) (e : Ent) : Prop := p.1 = .inr e.name ∧ ∃ t w l, p.2 = .ref t ∧ SqT K H t [.ref w, .str e.back, .ref l] ∧ H0 w = none ∧ H0 l = none ∧ H w = some (.lst (e.wishes.map V.str)) ∧ H l = some (.lst (e.later.map V.str))
section
variable {K : PySem.W.Frag} {H0 H H' : Hp} {N : Nat} {p : Key × V} {e : Ent}
theorem XAt.same (h : XAt K H0 H p e) (k : Same H H') : XAt K H0 H' p e := by
  obtain ⟨a, t, w, l, b, c, n1, n2, d, f⟩ := h
  exact ⟨a, t, w, l, b, SqT.same c k, n1, n2, k _ _ d, k _ _ f⟩
theorem XAt.dic {d : Addr} {kvs : List (Key × V)} (h : XAt K H0 H p e) (k : Kp d H H') (ed : H d = some (.dK kvs)) : XAt K H0 H' p e := by
  obtain ⟨a, t, w, l, b, c, n1, n2, q, r⟩ := h
  exact ⟨a, t, w, l, b, SqT.kp c k (NoSq.dK ed), n1, n2, k _ _ (fun z => by rw [z, ed] at q; cases q) q, k _ _ (fun z => by rw [z, ed] at r; cases r) r⟩
theorem XAt.l {q : Addr} (h : XAt K H0 H p e) (n : H q = none) (lw : e.wishes.length ≤ N) (ll : e.later.length ≤ N) : LAt K (fun a => H0 a = none ∧ a ≠ q) H N p e := by
  obtain ⟨a, t, w, l, b, c, n1, n2, d, f⟩ := h
  exact ⟨a, t, w, l, b, c, ⟨n1, fun z => by rw [z, n] at d; cases d⟩, ⟨n2, fun z => by rw [z, n] at f; cases f⟩, ⟨_, d, by rw [List.length_map]; exact lw⟩, _, f, by rw [List.length_map]; exact ll⟩
theorem XAt.ent (h : XAt K H0 H p e) : p.1 = .inr e.name ∧ EntAt K H p.2 e := by
  obtain ⟨a, t, w, l, b, c, n1, n2, d, f⟩ := h
  exact ⟨a, t, .ref w, .ref l, b, c, ⟨w, rfl, .inl (SqL.of d)⟩, ⟨l, rfl, .inl (SqL.of f)⟩⟩
variable {Fr : Addr → Prop}
theorem LAt.mono {M : Nat} (h : LAt K Fr H N p e) (le : N ≤ M) : LAt K Fr H M p e := by
  obtain ⟨a, t, w, l, b, c, n1, n2, ⟨y, d, d2⟩, z, f, f2⟩ := h
  exact ⟨a, t, w, l, b, c, n1, n2, ⟨y, d, by omega⟩, z, f, by omega⟩
theorem LAt.same (h : LAt K Fr H N p e) (k : Same H H') : LAt K Fr H' N p e := by
  obtain ⟨a, t, w, l, b, c, n1, n2, ⟨y, d, d2⟩, z, f, f2⟩ := h
  exact ⟨a, t, w, l, b, SqT.same c k, n1, n2, ⟨y, k _ _ d, d2⟩, z, k _ _ f, f2⟩
/-- one list grows by one -/
theorem LAt.app {q : Addr} {xs : List V} {v : V} (h : LAt K Fr H N p e) (eq : H q = some (.lst xs)) (lx : xs.length ≤ N) : LAt K Fr (upd H q (.lst (xs ++ [v]))) (N + 1) p e := by
  obtain ⟨a, t, w, l, b, c, n1, n2, ⟨y, d, d2⟩, z, f, f2⟩ := h
  have one : ∀ {r : Addr} {ys : List V}, H r = some (.lst ys) → ys.length ≤ N → ∃ zs, (upd H q (.lst (xs ++ [v]))) r = some (.lst zs) ∧ zs.length ≤ N + 1 := fun {r ys} hr hy => by
    by_cases c : r = q
    · subst c
      exact ⟨_, upd_same, by rw [List.length_append]; simp; exact lx⟩
    · exact ⟨ys, by rw [upd_ne c]; exact hr, by omega⟩
  exact ⟨a, t, w, l, b, SqT.lstK c Kp.put eq, n1, n2, one d d2, one f f2⟩
end
end Gx
/-! tuples cut, put together and turned round, whatever their length -/
namespace Gx
open PySem PySem.Spec PyProof.Rows L2
open PySem.SeqAt PySem.MeetsSeq PySem.MeetsSeq2 PySem.MeetsSeq3
theorem add_empty (l b : Addr) (items items2 : Array Value) (n n2 : Nat) (dd dd2 : Option Addr) (sl sl2 : Array (Option Value)) (hc0 : items.isEmpty = true) :
    Meets (Builtin.«tuple.__add__» ⟨[.ref l, .ref b], []⟩) (fun _ R s => s.heap.get? l = some { cls := .type "tuple", dict := dd, data := .seq items n, slots := sl } ∧ s.heap.get? b = some { cls := .type "tuple", dict := dd2, data := .seq items2 n2, slots := sl2 } ∧ R (.ok (.ret (Value.ref b))) s) :=
  .of_wp fun prog w A R s h => by
    obtain ⟨hp, g, d, tk, os⟩ := s
    obtain ⟨hl, hb, h⟩ := h
    have f1 := AutoSeq1.idx_int
    have f2 := AutoSeq1.sub_tuple_tuple
    have f3 := AutoSeq1.sub_list_list
    have f4 := AutoSeq1.sub_tuple_list
    have f5 := AutoSeq1.sub_list_tuple
    wp_walk using AutoSeq1.wpAny_loadPart' hl, AutoSeq1.wpAny_loadPart' hb
    exact ⟨_, rfl, h⟩
end Gx
/-! tuples turned round -/
namespace Gx
open PySem PySem.Spec PyProof.Rows L2
open PySem.SeqAt PySem.MeetsSeq PySem.MeetsSeq2 PySem.MeetsSeq3
end Gx
/-! properties that hand a field out, by one Bool -/
namespace Gx
open PySem PySem.Spec PyProof.Rows L2
/-- the function of the property f of C -/
def pgg (K : PySem.W.Frag) (C : Addr) (f : Str) : Addr := match PySem.W.recIn K (He.ma K C f) "property" with
  | some (.ref g :: _) => g
  | _ => 0
def propB (K : PySem.W.Frag) (C : Addr) (f : Str) : Bool :=
  decide (PySem.W.findIn K (.ref C) f = some (some (.ref (He.ma K C f)))) && (decide (PySem.W.specialIn K (.ref (He.ma K C f)) "__get__" = some (some (.builtin "property.__get__"))) && (decide (PySem.W.takesIn K (.ref (He.ma K C f)) = some true) &&
  (match PySem.W.recIn K (He.ma K C f) "property" with | some (.ref _ :: _) => true | _ => false)))
theorem prop_ok {K : PySem.W.Frag} {C : Addr} {f : Str} (h : propB K C f = true) : PropOf K C f (He.ma K C f) (pgg K C f) := by
  unfold propB at h
  simp only [Bool.and_eq_true, decide_eq_true_eq] at h
  obtain ⟨h1, h2, h3, h4⟩ := h
  refine ⟨h1, h2, h3, ?_⟩
  unfold pgg
  split at h4
  · rename_i g rest e
    exact ⟨rest, by rw [e]⟩
  · cases h4
def scopeB (sc : Scope) : Bool := (match sc.kind with | .function => true | _ => false) && (!sc.isCoroutine && (!sc.isGenerator && ((match sc.names.lookup (Str.ofString "self") with | some .local => true | _ => false) && sc.names.all (fun y => match y.2 with | .free => false | _ => true))))
theorem scope_ok {sc : Scope} (h : scopeB sc = true) : FnScope ["self"] ["self"] sc := by
  unfold scopeB at h
  simp only [Bool.and_eq_true, Bool.not_eq_true', List.all_eq_true] at h
  obtain ⟨h1, h2, h3, h4, h5⟩ := h
  refine ⟨?_, h2, h3, by decide, rfl, fun x hx => ?_, fun y hy => ?_⟩
  · split at h1
    · assumption
    · cases h1
  · rw [List.mem_singleton] at hx
    subst hx
    split at h4
    · rename_i e
      exact .inl e
    · cases h4
  · have := h5 y hy
    intro e
    rw [e] at this
    cases this
def getB (K : PySem.W.Frag) (C : Addr) (f u : Str) : Bool := match K.lookup (pgg K C f) with
  | some ⟨_, _, .func ⟨_, q, ⟨[], [⟨s, _, _⟩], none, [], [], none, []⟩, .stmts [.Return (some (.Attribute (.Name s2 _) u' _)) _], sc, gl, [], .none, _, _, _, _, cd, _, bn⟩, _⟩ =>
    decide (s = "self") && (decide (s2 = "self") && (decide (u' = u) && (scopeB sc && (decide (gl = mainGlobals) && (decide (bn = builtinsNs) && (PySem.W.codeIn K cd q && PySem.W.keepIn K (.ref (pgg K C f))))))))
  | _ => false
theorem get_ok {P : Program} {w : World} {K : PySem.W.Frag} {mg : Str → Option Value} {base : Heap} {CX : CXT} {k : Nat} {C : Addr} {f u : Str} (h : getB K C f u = true) (c : Cls K C) (n : NoAttr K C u) :
    ∃ fd, FnOk P w K mg base CX (k + 1) (pgg K C f) fd ["self"] (getSp C u) ∧ Binds K fd ["self"] [] := by
  unfold getB at h
  split at h
  · rename_i o1 o2 nm q s an1 an2 s2 p1 u' p2 p3 sc gl kV doc pm an cd ct bn sl e
    simp only [Bool.and_eq_true, decide_eq_true_eq] at h
    obtain ⟨rfl, rfl, rfl, h4, rfl, rfl, h7, h8⟩ := h
    refine ⟨_, fn_getter (name := nm) (qual := q) (params := ⟨[], [⟨"self", an1, an2⟩], none, [], [], none, []⟩) (dV := .none) (kV := kV) (doc := doc) (pm := pm) (cdv := cd) (ct := ct) (an := an) e h7 (scope_ok h4) rfl rfl c n, ?_⟩
    have D : FunD K nm q ⟨[], [⟨"self", an1, an2⟩], none, [], [], none, []⟩ _ sc [] [] (pgg K C f) (PySem.W.fnOf nm q ⟨[], [⟨"self", an1, an2⟩], none, [], [], none, []⟩ _ sc .none kV doc pm an cd ct) := ⟨⟨_, _, _, _, _, _, _, _, _, _, rfl, e, h7, .inl ⟨rfl, rfl⟩, .inl rfl⟩, h8⟩
    exact D.bindsN fun _ _ _ _ _ _ us hl => match us, hl with | [_], _ => rfl
  · cases h
section
variable {X : Cx} {C : Addr} {f u : Str} {e : Expr} {pos : Pos} {ta : TE}
/-- a property that hands the field u out -/
theorem pe_get (hp : propB X.K C f = true) (hg : getB X.K C f u = true) (c : Cls X.K C) (n : NoAttr X.K C u) (hr : Room 2 X.A) (he : PE X e ta) (hab : attributeBase e f X.env (eval e X.env) = eval e X.env := by rfl) :
    PE X (.Attribute e f pos) (tProp C (getSp C u) [] (fun _ _ _ => False) ta) := by
  obtain ⟨fd, F, B⟩ := get_ok (P := X.prog) (w := X.w) (mg := X.mg) (base := X.base) (CX := CX0) (k := 0) hg c n
  exact pe_prop he c (prop_ok hp) F hr B .nil pass0 hab
end
end Gx
namespace K50
open PySem PySem.Spec PyProof.Rows L2 Gx
def top (i : Nat) : Stmt := PySem.Challenge.pw_dugdays_k50_texts_of_menus.main.body.getD i (.Pass ⟨0, 0, 0, 0⟩)
abbrev s_is_name : Stmt := top 12
abbrev s_are_different : Stmt := top 13
abbrev s_are_names : Stmt := top 14
abbrev s_are_things : Stmt := top 15
abbrev s_is_row_of : Stmt := top 16
abbrev s_is_weather_entry : Stmt := top 17
abbrev s_are_weathers : Stmt := top 18
abbrev s_menu_text : Stmt := top 21
abbrev s_things_in : Stmt := top 22
abbrev s_entry_in : Stmt := top 23
abbrev s_read_lines : Stmt := top 24
abbrev s_read_menu : Stmt := top 25
abbrev s_law_source : Stmt := top 27
abbrev s_law_draw : Stmt := top 28
abbrev s_law_pick : Stmt := top 29
abbrev s_law_mixed : Stmt := top 30
abbrev s_law_word : Stmt := top 31
abbrev s_law_names : Stmt := top 32
abbrev s_law_some : Stmt := top 33
abbrev s_law_base : Stmt := top 34
abbrev s_law_made : Stmt := top 35
abbrev s_law_tuples : Stmt := top 36
abbrev s_law_is_name : Stmt := top 37
abbrev s_law_lines : Stmt := top 38
abbrev s_law_weather : Stmt := top 39
abbrev s_law_due : Stmt := top 40
abbrev s_law_told : Stmt := top 41
abbrev s_law_bent : Stmt := top 42
abbrev s_law : Stmt := top 43
abbrev s_BadWeather_init : Stmt := inClass (top 4) 0
abbrev s_BadText_init : Stmt := inClass (top 5) 0
abbrev s_Menu_init : Stmt := inClass (top 19) 0
abbrev s_Menu_wishes : Stmt := inClass (top 19) 3
abbrev s_Menu_back : Stmt := inClass (top 19) 4
abbrev s_Menu_later : Stmt := inClass (top 19) 5
abbrev s_Menu_eq : Stmt := inClass (top 19) 6
abbrev s_Menu_check_weather : Stmt := inClass (top 19) 7
theorem sc_is_name : FnScope ["value", "letter"] ["value"] (defScope s_is_name) := ⟨rfl, rfl, rfl, by decide +kernel, rfl, by decide +kernel, by decide +kernel⟩
theorem sc_are_different : FnScope ["names"] ["names"] (defScope s_are_different) := ⟨rfl, rfl, rfl, by decide +kernel, rfl, by decide +kernel, by decide +kernel⟩
theorem sc_are_names : FnScope ["row", "entry"] ["row"] (defScope s_are_names) := ⟨rfl, rfl, rfl, by decide +kernel, rfl, by decide +kernel, by decide +kernel⟩
theorem sc_are_things : FnScope ["value"] ["value"] (defScope s_are_things) := ⟨rfl, rfl, rfl, by decide +kernel, rfl, by decide +kernel, by decide +kernel⟩
theorem sc_is_row_of : FnScope ["value", "names", "entry"] ["value", "names"] (defScope s_is_row_of) := ⟨rfl, rfl, rfl, by decide +kernel, rfl, by decide +kernel, by decide +kernel⟩
theorem sc_is_weather_entry : FnScope ["value", "things", "weathers", "wishes", "back", "later"] ["value", "things", "weathers"] (defScope s_is_weather_entry) := ⟨rfl, rfl, rfl, by decide +kernel, rfl, by decide +kernel, by decide +kernel⟩
theorem sc_are_weathers : FnScope ["value", "things", "names", "name"] ["value", "things"] (defScope s_are_weathers) := ⟨rfl, rfl, rfl, by decide +kernel, rfl, by decide +kernel, by decide +kernel⟩
theorem sc_menu_text : FnScope ["menu", "lines", "name", "words"] ["menu"] (defScope s_menu_text) := ⟨rfl, rfl, rfl, by decide +kernel, rfl, by decide +kernel, by decide +kernel⟩
theorem sc_things_in : FnScope ["words", "things"] ["words"] (defScope s_things_in) := ⟨rfl, rfl, rfl, by decide +kernel, rfl, by decide +kernel, by decide +kernel⟩
theorem sc_entry_in : FnScope ["words", "things", "rows", "middle", "wishes", "later"] ["words", "things"] (defScope s_entry_in) := ⟨rfl, rfl, rfl, by decide +kernel, rfl, by decide +kernel, by decide +kernel⟩
theorem sc_read_lines : FnScope ["lines", "things", "weathers", "number", "words", "entry"] ["lines"] (defScope s_read_lines) := ⟨rfl, rfl, rfl, by decide +kernel, rfl, by decide +kernel, by decide +kernel⟩
theorem sc_read_menu : FnScope ["text", "things", "weathers", "number", "name", "line", "weather"] ["text"] (defScope s_read_menu) := ⟨rfl, rfl, rfl, by decide +kernel, rfl, by decide +kernel, by decide +kernel⟩
theorem sc_law_source : FnScope ["script", "start", "mixed", "cell", "own"] ["script", "start"] (defScope s_law_source) := ⟨rfl, rfl, rfl, by decide +kernel, rfl, by decide +kernel, by decide +kernel⟩
theorem sc_law_draw : FnScope ["source", "span", "found"] ["source", "span"] (defScope s_law_draw) := ⟨rfl, rfl, rfl, by decide +kernel, rfl, by decide +kernel, by decide +kernel⟩
theorem sc_law_pick : FnScope ["source", "some"] ["source", "some"] (defScope s_law_pick) := ⟨rfl, rfl, rfl, by decide +kernel, rfl, by decide +kernel, by decide +kernel⟩
theorem sc_law_mixed : FnScope ["source", "some", "lot", "found"] ["source", "some"] (defScope s_law_mixed) := ⟨rfl, rfl, rfl, by decide +kernel, rfl, by decide +kernel, by decide +kernel⟩
theorem sc_law_word : FnScope ["source", "word", "turn"] ["source"] (defScope s_law_word) := ⟨rfl, rfl, rfl, by decide +kernel, rfl, by decide +kernel, by decide +kernel⟩
theorem sc_law_names : FnScope ["source", "many", "some", "word"] ["source", "many"] (defScope s_law_names) := ⟨rfl, rfl, rfl, by decide +kernel, rfl, by decide +kernel, by decide +kernel⟩
theorem sc_law_some : FnScope ["source", "names", "least"] ["source", "names", "least"] (defScope s_law_some) := ⟨rfl, rfl, rfl, by decide +kernel, rfl, by decide +kernel, by decide +kernel⟩
theorem sc_law_base : FnScope ["source", "most", "things", "name", "names", "weathers", "back"] ["source", "most"] (defScope s_law_base) := ⟨rfl, rfl, rfl, by decide +kernel, rfl, by decide +kernel, by decide +kernel⟩
theorem sc_law_made : FnScope ["base", "menu", "name", "things", "weathers", "wishes", "back", "later"] ["base"] (defScope s_law_made) := ⟨rfl, rfl, rfl, by decide +kernel, rfl, by decide +kernel, by decide +kernel⟩
theorem sc_law_tuples : FnScope ["base", "name", "wishes", "back", "later"] ["base"] (defScope s_law_tuples) := ⟨rfl, rfl, rfl, by decide +kernel, rfl, by decide +kernel, by decide +kernel⟩
theorem sc_law_is_name : FnScope ["word", "sign"] ["word"] (defScope s_law_is_name) := ⟨rfl, rfl, rfl, by decide +kernel, rfl, by decide +kernel, by decide +kernel⟩
theorem sc_law_lines : FnScope ["base", "found", "name", "wishes", "back", "later"] ["base"] (defScope s_law_lines) := ⟨rfl, rfl, rfl, by decide +kernel, rfl, by decide +kernel, by decide +kernel⟩
theorem sc_law_weather : FnScope ["line", "things", "words", "at", "wishes", "later", "word"] ["line", "things"] (defScope s_law_weather) := ⟨rfl, rfl, rfl, by decide +kernel, rfl, by decide +kernel, by decide +kernel⟩
theorem sc_law_due : FnScope ["text", "lines", "things", "rows", "at", "told", "row", "word", "one"] ["text"] (defScope s_law_due) := ⟨rfl, rfl, rfl, by decide +kernel, rfl, by decide +kernel, by decide +kernel⟩
theorem sc_law_told : FnScope ["text", "error"] ["text"] (defScope s_law_told) := ⟨rfl, rfl, rfl, by decide +kernel, rfl, by decide +kernel, by decide +kernel⟩
theorem sc_law_bent : FnScope ["source", "text", "lines", "spot", "words", "place", "word", "rows", "some", "at", "sign", "row"] ["source", "text"] (defScope s_law_bent) := ⟨rfl, rfl, rfl, by decide +kernel, rfl, by decide +kernel, by decide +kernel⟩
theorem sc_law : FnScope ["script", "typed", "start", "source", "some", "turn", "thing", "base", "text", "bent", "menu", "told", "due", "name"] ["script"] (defScope s_law) := ⟨rfl, rfl, rfl, by decide +kernel, rfl, by decide +kernel, by decide +kernel⟩
theorem sc_BadWeather_init : FnScope ["self", "value"] ["self", "value"] (defScope s_BadWeather_init) := ⟨rfl, rfl, rfl, by decide +kernel, rfl, by decide +kernel, by decide +kernel⟩
theorem sc_BadText_init : FnScope ["self", "line"] ["self", "line"] (defScope s_BadText_init) := ⟨rfl, rfl, rfl, by decide +kernel, rfl, by decide +kernel, by decide +kernel⟩
theorem sc_Menu_init : FnScope ["self", "things", "weathers", "name"] ["self", "things", "weathers"] (defScope s_Menu_init) := ⟨rfl, rfl, rfl, by decide +kernel, rfl, by decide +kernel, by decide +kernel⟩
theorem sc_Menu_wishes : FnScope ["self", "weather"] ["self", "weather"] (defScope s_Menu_wishes) := ⟨rfl, rfl, rfl, by decide +kernel, rfl, by decide +kernel, by decide +kernel⟩
theorem sc_Menu_back : FnScope ["self", "weather"] ["self", "weather"] (defScope s_Menu_back) := ⟨rfl, rfl, rfl, by decide +kernel, rfl, by decide +kernel, by decide +kernel⟩
theorem sc_Menu_later : FnScope ["self", "weather"] ["self", "weather"] (defScope s_Menu_later) := ⟨rfl, rfl, rfl, by decide +kernel, rfl, by decide +kernel, by decide +kernel⟩
theorem sc_Menu_eq : FnScope ["self", "other"] ["self", "other"] (defScope s_Menu_eq) := ⟨rfl, rfl, rfl, by decide +kernel, rfl, by decide +kernel, by decide +kernel⟩
theorem sc_Menu_check_weather : FnScope ["self", "value"] ["self", "value"] (defScope s_Menu_check_weather) := ⟨rfl, rfl, rfl, by decide +kernel, rfl, by decide +kernel, by decide +kernel⟩
def fn : List He.DefD := [⟨("is_name", none), "is_name", "is_name", defArgs s_is_name, defBody s_is_name, defScope s_is_name, [], []⟩,
  ⟨("are_different", none), "are_different", "are_different", defArgs s_are_different, defBody s_are_different, defScope s_are_different, [], []⟩,
  ⟨("are_names", none), "are_names", "are_names", defArgs s_are_names, defBody s_are_names, defScope s_are_names, [], []⟩,
  ⟨("are_things", none), "are_things", "are_things", defArgs s_are_things, defBody s_are_things, defScope s_are_things, [], []⟩,
  ⟨("is_row_of", none), "is_row_of", "is_row_of", defArgs s_is_row_of, defBody s_is_row_of, defScope s_is_row_of, [], []⟩,
  ⟨("is_weather_entry", none), "is_weather_entry", "is_weather_entry", defArgs s_is_weather_entry, defBody s_is_weather_entry, defScope s_is_weather_entry, [], []⟩,
  ⟨("are_weathers", none), "are_weathers", "are_weathers", defArgs s_are_weathers, defBody s_are_weathers, defScope s_are_weathers, [], []⟩,
  ⟨("menu_text", none), "menu_text", "menu_text", defArgs s_menu_text, defBody s_menu_text, defScope s_menu_text, [], []⟩,
  ⟨("things_in", none), "things_in", "things_in", defArgs s_things_in, defBody s_things_in, defScope s_things_in, [], []⟩,
  ⟨("entry_in", none), "entry_in", "entry_in", defArgs s_entry_in, defBody s_entry_in, defScope s_entry_in, [], []⟩,
  ⟨("read_lines", none), "read_lines", "read_lines", defArgs s_read_lines, defBody s_read_lines, defScope s_read_lines, [], []⟩,
  ⟨("read_menu", none), "read_menu", "read_menu", defArgs s_read_menu, defBody s_read_menu, defScope s_read_menu, [], []⟩,
  ⟨("_law_source", none), "_law_source", "_law_source", defArgs s_law_source, defBody s_law_source, defScope s_law_source, [], []⟩,
  ⟨("_law_draw", none), "_law_draw", "_law_draw", defArgs s_law_draw, defBody s_law_draw, defScope s_law_draw, [], []⟩,
  ⟨("_law_pick", none), "_law_pick", "_law_pick", defArgs s_law_pick, defBody s_law_pick, defScope s_law_pick, [], []⟩,
  ⟨("_law_mixed", none), "_law_mixed", "_law_mixed", defArgs s_law_mixed, defBody s_law_mixed, defScope s_law_mixed, [], []⟩,
  ⟨("_law_word", none), "_law_word", "_law_word", defArgs s_law_word, defBody s_law_word, defScope s_law_word, [], []⟩,
  ⟨("_law_names", none), "_law_names", "_law_names", defArgs s_law_names, defBody s_law_names, defScope s_law_names, [], []⟩,
  ⟨("_law_some", none), "_law_some", "_law_some", defArgs s_law_some, defBody s_law_some, defScope s_law_some, [], []⟩,
  ⟨("_law_base", none), "_law_base", "_law_base", defArgs s_law_base, defBody s_law_base, defScope s_law_base, [], []⟩,
  ⟨("_law_made", none), "_law_made", "_law_made", defArgs s_law_made, defBody s_law_made, defScope s_law_made, [], []⟩,
  ⟨("_law_tuples", none), "_law_tuples", "_law_tuples", defArgs s_law_tuples, defBody s_law_tuples, defScope s_law_tuples, [], []⟩,
  ⟨("_law_is_name", none), "_law_is_name", "_law_is_name", defArgs s_law_is_name, defBody s_law_is_name, defScope s_law_is_name, [], []⟩,
  ⟨("_law_lines", none), "_law_lines", "_law_lines", defArgs s_law_lines, defBody s_law_lines, defScope s_law_lines, [], []⟩,
  ⟨("_law_weather", none), "_law_weather", "_law_weather", defArgs s_law_weather, defBody s_law_weather, defScope s_law_weather, [], []⟩,
  ⟨("_law_due", none), "_law_due", "_law_due", defArgs s_law_due, defBody s_law_due, defScope s_law_due, [], []⟩,
  ⟨("_law_told", none), "_law_told", "_law_told", defArgs s_law_told, defBody s_law_told, defScope s_law_told, [], []⟩,
  ⟨("_law_bent", none), "_law_bent", "_law_bent", defArgs s_law_bent, defBody s_law_bent, defScope s_law_bent, [], []⟩,
  ⟨("law", none), "law", "law", defArgs s_law, defBody s_law, defScope s_law, [], []⟩,
  ⟨("BadWeather", some "__init__"), "__init__", "BadWeather.__init__", defArgs s_BadWeather_init, defBody s_BadWeather_init, defScope s_BadWeather_init, [], []⟩,
  ⟨("BadText", some "__init__"), "__init__", "BadText.__init__", defArgs s_BadText_init, defBody s_BadText_init, defScope s_BadText_init, [], []⟩,
  ⟨("Menu", some "__init__"), "__init__", "Menu.__init__", defArgs s_Menu_init, defBody s_Menu_init, defScope s_Menu_init, [], []⟩,
  ⟨("Menu", some "wishes"), "wishes", "Menu.wishes", defArgs s_Menu_wishes, defBody s_Menu_wishes, defScope s_Menu_wishes, [], []⟩,
  ⟨("Menu", some "back"), "back", "Menu.back", defArgs s_Menu_back, defBody s_Menu_back, defScope s_Menu_back, [], []⟩,
  ⟨("Menu", some "later"), "later", "Menu.later", defArgs s_Menu_later, defBody s_Menu_later, defScope s_Menu_later, [], []⟩,
  ⟨("Menu", some "__eq__"), "__eq__", "Menu.__eq__", defArgs s_Menu_eq, defBody s_Menu_eq, defScope s_Menu_eq, [], []⟩,
  ⟨("Menu", some "_check_weather"), "_check_weather", "Menu._check_weather", defArgs s_Menu_check_weather, defBody s_Menu_check_weather, defScope s_Menu_check_weather, [], []⟩]
def fa : List He.Fa := [.glo "is_name", .glo "are_different", .glo "are_names", .glo "are_things", .glo "is_row_of", .glo "is_weather_entry", .glo "are_weathers", .glo "menu_text", .glo "things_in", .glo "entry_in", .glo "read_lines", .glo "read_menu", .glo "_law_source", .glo "_law_draw", .glo "_law_pick", .glo "_law_mixed", .glo "_law_word", .glo "_law_names", .glo "_law_some", .glo "_law_base", .glo "_law_made", .glo "_law_tuples", .glo "_law_is_name", .glo "_law_lines", .glo "_law_weather", .glo "_law_due", .glo "_law_told", .glo "_law_bent", .glo "law", .glo "BadWeather", .glo "BadText", .glo "Menu", .glo "WAYS_BACK", .free "len", .free "int", .free "isinstance", .free "range", .free "max", .free "min", .free "repr", .free "list", .free "dict", .free "tuple", .free "set", .free "all", .free "str", .free "enumerate", .free "sum", .free "sorted", .free "zip", .free "bool", .int "MOST_LETTERS" 8, .int "MOST_THINGS" 5, .int "MOST_WEATHERS" 4, .str "LETTERS" "abcdefghijklmnopqrstuvwxyz", .cls "Menu", .noat "Menu" "_things", .noat "Menu" "_weathers", .noat "Menu" "_wishes", .noat "Menu" "_back", .noat "Menu" "_later", .meth "Menu" "wishes", .meth "Menu" "back", .meth "Menu" "later", .meth "Menu" "_check_weather", .meth "Menu" "__eq__", .mkr "Menu"]
def ex : PySem.W.Frag → Bool := fun K => (exB K "BadWeather" "value" && (decide (PySem.W.exmOne K (.ref (He.ga K "BadWeather")) (.ref (He.ga K "BadWeather")) = some true) && (tupB K (He.ga K "WAYS_BACK") ["top", "place"] && ((["NoneType", "bool", "int", "str", "list", "tuple", "dict"]).all (fun T => decide (PySem.W.kitOne K (.type T) (.ref (He.ga K "Menu")) = some false) && PySem.W.notFirst K (He.ga K "Menu") (.type T)) &&
  instB K "Menu")))) && ((propB K (He.ga K "Menu") "things" && (getB K (He.ga K "Menu") "things" "_things" && (propB K (He.ga K "Menu") "weathers" && getB K (He.ga K "Menu") "weathers" "_weathers"))) && (((exB K "BadText" "line" && decide (PySem.W.exmOne K (.ref (He.ga K "BadText")) (.ref (He.ga K "BadText")) = some true)) && (true)) && (decide (PySem.W.kitOne K (.ref (He.ga K "Menu")) (.type "list") = some false))))
structure Facts (K : PySem.W.Frag) (mg : Str → Option Value) : Prop where
  c : SaysY fa fn ex K
  h : ∃ h : Heap, K.In h ∧ h.Ns mainGlobals mg
section
variable {K : PySem.W.Frag} {mg : Str → Option Value}
theorem g_is_name (F : Facts K mg) : mg "is_name" = some (.ref (He.ga K "is_name")) := F.h.elim fun _ h => He.glo_ok h.1 h.2 (F.c.d.fact 0 rfl)
theorem g_are_different (F : Facts K mg) : mg "are_different" = some (.ref (He.ga K "are_different")) := F.h.elim fun _ h => He.glo_ok h.1 h.2 (F.c.d.fact 1 rfl)
theorem g_are_names (F : Facts K mg) : mg "are_names" = some (.ref (He.ga K "are_names")) := F.h.elim fun _ h => He.glo_ok h.1 h.2 (F.c.d.fact 2 rfl)
theorem g_are_things (F : Facts K mg) : mg "are_things" = some (.ref (He.ga K "are_things")) := F.h.elim fun _ h => He.glo_ok h.1 h.2 (F.c.d.fact 3 rfl)
theorem g_is_row_of (F : Facts K mg) : mg "is_row_of" = some (.ref (He.ga K "is_row_of")) := F.h.elim fun _ h => He.glo_ok h.1 h.2 (F.c.d.fact 4 rfl)
theorem g_is_weather_entry (F : Facts K mg) : mg "is_weather_entry" = some (.ref (He.ga K "is_weather_entry")) := F.h.elim fun _ h => He.glo_ok h.1 h.2 (F.c.d.fact 5 rfl)
theorem g_are_weathers (F : Facts K mg) : mg "are_weathers" = some (.ref (He.ga K "are_weathers")) := F.h.elim fun _ h => He.glo_ok h.1 h.2 (F.c.d.fact 6 rfl)
theorem g_menu_text (F : Facts K mg) : mg "menu_text" = some (.ref (He.ga K "menu_text")) := F.h.elim fun _ h => He.glo_ok h.1 h.2 (F.c.d.fact 7 rfl)
theorem g_things_in (F : Facts K mg) : mg "things_in" = some (.ref (He.ga K "things_in")) := F.h.elim fun _ h => He.glo_ok h.1 h.2 (F.c.d.fact 8 rfl)
theorem g_entry_in (F : Facts K mg) : mg "entry_in" = some (.ref (He.ga K "entry_in")) := F.h.elim fun _ h => He.glo_ok h.1 h.2 (F.c.d.fact 9 rfl)
theorem g_read_lines (F : Facts K mg) : mg "read_lines" = some (.ref (He.ga K "read_lines")) := F.h.elim fun _ h => He.glo_ok h.1 h.2 (F.c.d.fact 10 rfl)
theorem g_read_menu (F : Facts K mg) : mg "read_menu" = some (.ref (He.ga K "read_menu")) := F.h.elim fun _ h => He.glo_ok h.1 h.2 (F.c.d.fact 11 rfl)
theorem g__law_source (F : Facts K mg) : mg "_law_source" = some (.ref (He.ga K "_law_source")) := F.h.elim fun _ h => He.glo_ok h.1 h.2 (F.c.d.fact 12 rfl)
theorem g__law_draw (F : Facts K mg) : mg "_law_draw" = some (.ref (He.ga K "_law_draw")) := F.h.elim fun _ h => He.glo_ok h.1 h.2 (F.c.d.fact 13 rfl)
theorem g__law_pick (F : Facts K mg) : mg "_law_pick" = some (.ref (He.ga K "_law_pick")) := F.h.elim fun _ h => He.glo_ok h.1 h.2 (F.c.d.fact 14 rfl)
theorem g__law_mixed (F : Facts K mg) : mg "_law_mixed" = some (.ref (He.ga K "_law_mixed")) := F.h.elim fun _ h => He.glo_ok h.1 h.2 (F.c.d.fact 15 rfl)
theorem g__law_word (F : Facts K mg) : mg "_law_word" = some (.ref (He.ga K "_law_word")) := F.h.elim fun _ h => He.glo_ok h.1 h.2 (F.c.d.fact 16 rfl)
theorem g__law_names (F : Facts K mg) : mg "_law_names" = some (.ref (He.ga K "_law_names")) := F.h.elim fun _ h => He.glo_ok h.1 h.2 (F.c.d.fact 17 rfl)
theorem g__law_some (F : Facts K mg) : mg "_law_some" = some (.ref (He.ga K "_law_some")) := F.h.elim fun _ h => He.glo_ok h.1 h.2 (F.c.d.fact 18 rfl)
theorem g__law_base (F : Facts K mg) : mg "_law_base" = some (.ref (He.ga K "_law_base")) := F.h.elim fun _ h => He.glo_ok h.1 h.2 (F.c.d.fact 19 rfl)
theorem g__law_made (F : Facts K mg) : mg "_law_made" = some (.ref (He.ga K "_law_made")) := F.h.elim fun _ h => He.glo_ok h.1 h.2 (F.c.d.fact 20 rfl)
theorem g__law_tuples (F : Facts K mg) : mg "_law_tuples" = some (.ref (He.ga K "_law_tuples")) := F.h.elim fun _ h => He.glo_ok h.1 h.2 (F.c.d.fact 21 rfl)
theorem g__law_is_name (F : Facts K mg) : mg "_law_is_name" = some (.ref (He.ga K "_law_is_name")) := F.h.elim fun _ h => He.glo_ok h.1 h.2 (F.c.d.fact 22 rfl)
theorem g__law_lines (F : Facts K mg) : mg "_law_lines" = some (.ref (He.ga K "_law_lines")) := F.h.elim fun _ h => He.glo_ok h.1 h.2 (F.c.d.fact 23 rfl)
theorem g__law_weather (F : Facts K mg) : mg "_law_weather" = some (.ref (He.ga K "_law_weather")) := F.h.elim fun _ h => He.glo_ok h.1 h.2 (F.c.d.fact 24 rfl)
theorem g__law_due (F : Facts K mg) : mg "_law_due" = some (.ref (He.ga K "_law_due")) := F.h.elim fun _ h => He.glo_ok h.1 h.2 (F.c.d.fact 25 rfl)
theorem g__law_told (F : Facts K mg) : mg "_law_told" = some (.ref (He.ga K "_law_told")) := F.h.elim fun _ h => He.glo_ok h.1 h.2 (F.c.d.fact 26 rfl)
theorem g__law_bent (F : Facts K mg) : mg "_law_bent" = some (.ref (He.ga K "_law_bent")) := F.h.elim fun _ h => He.glo_ok h.1 h.2 (F.c.d.fact 27 rfl)
theorem g_law (F : Facts K mg) : mg "law" = some (.ref (He.ga K "law")) := F.h.elim fun _ h => He.glo_ok h.1 h.2 (F.c.d.fact 28 rfl)
theorem g_BadWeather (F : Facts K mg) : mg "BadWeather" = some (.ref (He.ga K "BadWeather")) := F.h.elim fun _ h => He.glo_ok h.1 h.2 (F.c.d.fact 29 rfl)
theorem g_BadText (F : Facts K mg) : mg "BadText" = some (.ref (He.ga K "BadText")) := F.h.elim fun _ h => He.glo_ok h.1 h.2 (F.c.d.fact 30 rfl)
theorem g_Menu (F : Facts K mg) : mg "Menu" = some (.ref (He.ga K "Menu")) := F.h.elim fun _ h => He.glo_ok h.1 h.2 (F.c.d.fact 31 rfl)
theorem g_WAYS_BACK (F : Facts K mg) : mg "WAYS_BACK" = some (.ref (He.ga K "WAYS_BACK")) := F.h.elim fun _ h => He.glo_ok h.1 h.2 (F.c.d.fact 32 rfl)
theorem z_len (F : Facts K mg) : mg "len" = none := F.h.elim fun _ h => He.free_ok h.1 h.2 (F.c.d.fact 33 rfl)
theorem z_int (F : Facts K mg) : mg "int" = none := F.h.elim fun _ h => He.free_ok h.1 h.2 (F.c.d.fact 34 rfl)
theorem z_isinstance (F : Facts K mg) : mg "isinstance" = none := F.h.elim fun _ h => He.free_ok h.1 h.2 (F.c.d.fact 35 rfl)
theorem z_range (F : Facts K mg) : mg "range" = none := F.h.elim fun _ h => He.free_ok h.1 h.2 (F.c.d.fact 36 rfl)
theorem z_max (F : Facts K mg) : mg "max" = none := F.h.elim fun _ h => He.free_ok h.1 h.2 (F.c.d.fact 37 rfl)
theorem z_min (F : Facts K mg) : mg "min" = none := F.h.elim fun _ h => He.free_ok h.1 h.2 (F.c.d.fact 38 rfl)
theorem z_list (F : Facts K mg) : mg "list" = none := F.h.elim fun _ h => He.free_ok h.1 h.2 (F.c.d.fact 40 rfl)
theorem z_dict (F : Facts K mg) : mg "dict" = none := F.h.elim fun _ h => He.free_ok h.1 h.2 (F.c.d.fact 41 rfl)
theorem z_tuple (F : Facts K mg) : mg "tuple" = none := F.h.elim fun _ h => He.free_ok h.1 h.2 (F.c.d.fact 42 rfl)
theorem z_set (F : Facts K mg) : mg "set" = none := F.h.elim fun _ h => He.free_ok h.1 h.2 (F.c.d.fact 43 rfl)
theorem z_all (F : Facts K mg) : mg "all" = none := F.h.elim fun _ h => He.free_ok h.1 h.2 (F.c.d.fact 44 rfl)
theorem z_str (F : Facts K mg) : mg "str" = none := F.h.elim fun _ h => He.free_ok h.1 h.2 (F.c.d.fact 45 rfl)
theorem z_enumerate (F : Facts K mg) : mg "enumerate" = none := F.h.elim fun _ h => He.free_ok h.1 h.2 (F.c.d.fact 46 rfl)
theorem gi_MOST_LETTERS (F : Facts K mg) : ∃ t, mg "MOST_LETTERS" = some (.int 8 t) := F.h.elim fun _ h => He.int_ok h.1 h.2 (F.c.d.fact 51 rfl)
theorem gi_MOST_THINGS (F : Facts K mg) : ∃ t, mg "MOST_THINGS" = some (.int 5 t) := F.h.elim fun _ h => He.int_ok h.1 h.2 (F.c.d.fact 52 rfl)
theorem gi_MOST_WEATHERS (F : Facts K mg) : ∃ t, mg "MOST_WEATHERS" = some (.int 4 t) := F.h.elim fun _ h => He.int_ok h.1 h.2 (F.c.d.fact 53 rfl)
theorem gi_LETTERS (F : Facts K mg) : ∃ t, mg "LETTERS" = some (.str "abcdefghijklmnopqrstuvwxyz" t) := F.h.elim fun _ h => He.str_ok h.1 h.2 (F.c.d.fact 54 rfl)
theorem cls_Menu (F : Facts K mg) : Cls K (He.ga K "Menu") := He.cls_ok (F.c.d.fact 55 rfl)
theorem no_Menu_things (F : Facts K mg) : NoAttr K (He.ga K "Menu") "_things" := He.noat_ok (F.c.d.fact 56 rfl)
theorem no_Menu_weathers (F : Facts K mg) : NoAttr K (He.ga K "Menu") "_weathers" := He.noat_ok (F.c.d.fact 57 rfl)
theorem no_Menu_wishes (F : Facts K mg) : NoAttr K (He.ga K "Menu") "_wishes" := He.noat_ok (F.c.d.fact 58 rfl)
theorem no_Menu_back (F : Facts K mg) : NoAttr K (He.ga K "Menu") "_back" := He.noat_ok (F.c.d.fact 59 rfl)
theorem no_Menu_later (F : Facts K mg) : NoAttr K (He.ga K "Menu") "_later" := He.noat_ok (F.c.d.fact 60 rfl)
theorem me_Menu_wishes (F : Facts K mg) : Meth K (He.ga K "Menu") "wishes" (He.ma K (He.ga K "Menu") "wishes") := He.meth_ok (F.c.d.fact 61 rfl)
theorem me_Menu_back (F : Facts K mg) : Meth K (He.ga K "Menu") "back" (He.ma K (He.ga K "Menu") "back") := He.meth_ok (F.c.d.fact 62 rfl)
theorem me_Menu_later (F : Facts K mg) : Meth K (He.ga K "Menu") "later" (He.ma K (He.ga K "Menu") "later") := He.meth_ok (F.c.d.fact 63 rfl)
theorem me_Menu_check_weather (F : Facts K mg) : Meth K (He.ga K "Menu") "_check_weather" (He.ma K (He.ga K "Menu") "_check_weather") := He.meth_ok (F.c.d.fact 64 rfl)
theorem me_Menu_eq (F : Facts K mg) : Meth K (He.ga K "Menu") "__eq__" (He.ma K (He.ga K "Menu") "__eq__") := He.meth_ok (F.c.d.fact 65 rfl)
theorem mkr_Menu (F : Facts K mg) : Mk K (He.ga K "Menu") (He.ma K (He.ga K "Menu") "__init__") := He.mkr_ok (F.c.d.fact 66 rfl)
theorem Facts.e0 (F : Facts K mg) : (exB K "BadWeather" "value" && (decide (PySem.W.exmOne K (.ref (He.ga K "BadWeather")) (.ref (He.ga K "BadWeather")) = some true) && (tupB K (He.ga K "WAYS_BACK") ["top", "place"] && ((["NoneType", "bool", "int", "str", "list", "tuple", "dict"]).all (fun T => decide (PySem.W.kitOne K (.type T) (.ref (He.ga K "Menu")) = some false) && PySem.W.notFirst K (He.ga K "Menu") (.type T)) &&
  instB K "Menu")))) = true := (He.ba F.c.e).1
theorem Facts.e1 (F : Facts K mg) : (propB K (He.ga K "Menu") "things" && (getB K (He.ga K "Menu") "things" "_things" && (propB K (He.ga K "Menu") "weathers" && getB K (He.ga K "Menu") "weathers" "_weathers"))) = true := (He.ba (He.ba F.c.e).2).1
theorem Facts.e2 (F : Facts K mg) : ((exB K "BadText" "line" && decide (PySem.W.exmOne K (.ref (He.ga K "BadText")) (.ref (He.ga K "BadText")) = some true)) && (true)) = true := (He.ba (He.ba (He.ba F.c.e).2).2).1
theorem exb_BadText (F : Facts K mg) : ExB K "BadText" "line" := exB_ok (He.ba (He.ba F.e2).1).1
theorem exm_BadText (F : Facts K mg) : PySem.W.exmOne K (.ref (He.ga K "BadText")) (.ref (He.ga K "BadText")) = some true := of_decide_eq_true (He.ba (He.ba F.e2).1).2
theorem kit_Menu_list (F : Facts K mg) : PySem.W.kitOne K (.ref (He.ga K "Menu")) (.type "list") = some false := of_decide_eq_true (He.ba (He.ba (He.ba F.c.e).2).2).2
theorem p_things (F : Facts K mg) : propB K (He.ga K "Menu") "things" = true := (He.ba F.e1).1
theorem q_things (F : Facts K mg) : getB K (He.ga K "Menu") "things" "_things" = true := (He.ba (He.ba F.e1).2).1
theorem p_weathers (F : Facts K mg) : propB K (He.ga K "Menu") "weathers" = true := (He.ba (He.ba (He.ba F.e1).2).2).1
theorem q_weathers (F : Facts K mg) : getB K (He.ga K "Menu") "weathers" "_weathers" = true := (He.ba (He.ba (He.ba F.e1).2).2).2
theorem fun_is_name (F : Facts K mg) : ∃ fd, FunD K "is_name" "is_name" (defArgs s_is_name) (defBody s_is_name) (defScope s_is_name) [] [] (He.ga K "is_name") fd := F.c.d.def_ 0 rfl
theorem fun_are_different (F : Facts K mg) : ∃ fd, FunD K "are_different" "are_different" (defArgs s_are_different) (defBody s_are_different) (defScope s_are_different) [] [] (He.ga K "are_different") fd := F.c.d.def_ 1 rfl
theorem fun_are_names (F : Facts K mg) : ∃ fd, FunD K "are_names" "are_names" (defArgs s_are_names) (defBody s_are_names) (defScope s_are_names) [] [] (He.ga K "are_names") fd := F.c.d.def_ 2 rfl
theorem fun_are_things (F : Facts K mg) : ∃ fd, FunD K "are_things" "are_things" (defArgs s_are_things) (defBody s_are_things) (defScope s_are_things) [] [] (He.ga K "are_things") fd := F.c.d.def_ 3 rfl
theorem fun_is_row_of (F : Facts K mg) : ∃ fd, FunD K "is_row_of" "is_row_of" (defArgs s_is_row_of) (defBody s_is_row_of) (defScope s_is_row_of) [] [] (He.ga K "is_row_of") fd := F.c.d.def_ 4 rfl
theorem fun_is_weather_entry (F : Facts K mg) : ∃ fd, FunD K "is_weather_entry" "is_weather_entry" (defArgs s_is_weather_entry) (defBody s_is_weather_entry) (defScope s_is_weather_entry) [] [] (He.ga K "is_weather_entry") fd := F.c.d.def_ 5 rfl
theorem fun_are_weathers (F : Facts K mg) : ∃ fd, FunD K "are_weathers" "are_weathers" (defArgs s_are_weathers) (defBody s_are_weathers) (defScope s_are_weathers) [] [] (He.ga K "are_weathers") fd := F.c.d.def_ 6 rfl
theorem fun_menu_text (F : Facts K mg) : ∃ fd, FunD K "menu_text" "menu_text" (defArgs s_menu_text) (defBody s_menu_text) (defScope s_menu_text) [] [] (He.ga K "menu_text") fd := F.c.d.def_ 7 rfl
theorem fun_things_in (F : Facts K mg) : ∃ fd, FunD K "things_in" "things_in" (defArgs s_things_in) (defBody s_things_in) (defScope s_things_in) [] [] (He.ga K "things_in") fd := F.c.d.def_ 8 rfl
theorem fun_entry_in (F : Facts K mg) : ∃ fd, FunD K "entry_in" "entry_in" (defArgs s_entry_in) (defBody s_entry_in) (defScope s_entry_in) [] [] (He.ga K "entry_in") fd := F.c.d.def_ 9 rfl
theorem fun_read_lines (F : Facts K mg) : ∃ fd, FunD K "read_lines" "read_lines" (defArgs s_read_lines) (defBody s_read_lines) (defScope s_read_lines) [] [] (He.ga K "read_lines") fd := F.c.d.def_ 10 rfl
theorem fun_read_menu (F : Facts K mg) : ∃ fd, FunD K "read_menu" "read_menu" (defArgs s_read_menu) (defBody s_read_menu) (defScope s_read_menu) [] [] (He.ga K "read_menu") fd := F.c.d.def_ 11 rfl
theorem fun_law_source (F : Facts K mg) : ∃ fd, FunD K "_law_source" "_law_source" (defArgs s_law_source) (defBody s_law_source) (defScope s_law_source) [] [] (He.ga K "_law_source") fd := F.c.d.def_ 12 rfl
theorem fun_law_draw (F : Facts K mg) : ∃ fd, FunD K "_law_draw" "_law_draw" (defArgs s_law_draw) (defBody s_law_draw) (defScope s_law_draw) [] [] (He.ga K "_law_draw") fd := F.c.d.def_ 13 rfl
theorem fun_law_pick (F : Facts K mg) : ∃ fd, FunD K "_law_pick" "_law_pick" (defArgs s_law_pick) (defBody s_law_pick) (defScope s_law_pick) [] [] (He.ga K "_law_pick") fd := F.c.d.def_ 14 rfl
theorem fun_law_mixed (F : Facts K mg) : ∃ fd, FunD K "_law_mixed" "_law_mixed" (defArgs s_law_mixed) (defBody s_law_mixed) (defScope s_law_mixed) [] [] (He.ga K "_law_mixed") fd := F.c.d.def_ 15 rfl
theorem fun_law_word (F : Facts K mg) : ∃ fd, FunD K "_law_word" "_law_word" (defArgs s_law_word) (defBody s_law_word) (defScope s_law_word) [] [] (He.ga K "_law_word") fd := F.c.d.def_ 16 rfl
theorem fun_law_names (F : Facts K mg) : ∃ fd, FunD K "_law_names" "_law_names" (defArgs s_law_names) (defBody s_law_names) (defScope s_law_names) [] [] (He.ga K "_law_names") fd := F.c.d.def_ 17 rfl
theorem fun_law_some (F : Facts K mg) : ∃ fd, FunD K "_law_some" "_law_some" (defArgs s_law_some) (defBody s_law_some) (defScope s_law_some) [] [] (He.ga K "_law_some") fd := F.c.d.def_ 18 rfl
theorem fun_law_base (F : Facts K mg) : ∃ fd, FunD K "_law_base" "_law_base" (defArgs s_law_base) (defBody s_law_base) (defScope s_law_base) [] [] (He.ga K "_law_base") fd := F.c.d.def_ 19 rfl
theorem fun_law_made (F : Facts K mg) : ∃ fd, FunD K "_law_made" "_law_made" (defArgs s_law_made) (defBody s_law_made) (defScope s_law_made) [] [] (He.ga K "_law_made") fd := F.c.d.def_ 20 rfl
theorem fun_law_tuples (F : Facts K mg) : ∃ fd, FunD K "_law_tuples" "_law_tuples" (defArgs s_law_tuples) (defBody s_law_tuples) (defScope s_law_tuples) [] [] (He.ga K "_law_tuples") fd := F.c.d.def_ 21 rfl
theorem fun_law_is_name (F : Facts K mg) : ∃ fd, FunD K "_law_is_name" "_law_is_name" (defArgs s_law_is_name) (defBody s_law_is_name) (defScope s_law_is_name) [] [] (He.ga K "_law_is_name") fd := F.c.d.def_ 22 rfl
theorem fun_law_lines (F : Facts K mg) : ∃ fd, FunD K "_law_lines" "_law_lines" (defArgs s_law_lines) (defBody s_law_lines) (defScope s_law_lines) [] [] (He.ga K "_law_lines") fd := F.c.d.def_ 23 rfl
theorem fun_law_weather (F : Facts K mg) : ∃ fd, FunD K "_law_weather" "_law_weather" (defArgs s_law_weather) (defBody s_law_weather) (defScope s_law_weather) [] [] (He.ga K "_law_weather") fd := F.c.d.def_ 24 rfl
theorem fun_law_due (F : Facts K mg) : ∃ fd, FunD K "_law_due" "_law_due" (defArgs s_law_due) (defBody s_law_due) (defScope s_law_due) [] [] (He.ga K "_law_due") fd := F.c.d.def_ 25 rfl
theorem fun_law_told (F : Facts K mg) : ∃ fd, FunD K "_law_told" "_law_told" (defArgs s_law_told) (defBody s_law_told) (defScope s_law_told) [] [] (He.ga K "_law_told") fd := F.c.d.def_ 26 rfl
theorem fun_law_bent (F : Facts K mg) : ∃ fd, FunD K "_law_bent" "_law_bent" (defArgs s_law_bent) (defBody s_law_bent) (defScope s_law_bent) [] [] (He.ga K "_law_bent") fd := F.c.d.def_ 27 rfl
theorem fun_law (F : Facts K mg) : ∃ fd, FunD K "law" "law" (defArgs s_law) (defBody s_law) (defScope s_law) [] [] (He.ga K "law") fd := F.c.d.def_ 28 rfl
theorem fun_BadWeather_init (F : Facts K mg) : ∃ fd, FunD K "__init__" "BadWeather.__init__" (defArgs s_BadWeather_init) (defBody s_BadWeather_init) (defScope s_BadWeather_init) [] [] (He.ma K (He.ga K "BadWeather") "__init__") fd := F.c.d.def_ 29 rfl
theorem fun_BadText_init (F : Facts K mg) : ∃ fd, FunD K "__init__" "BadText.__init__" (defArgs s_BadText_init) (defBody s_BadText_init) (defScope s_BadText_init) [] [] (He.ma K (He.ga K "BadText") "__init__") fd := F.c.d.def_ 30 rfl
theorem fun_Menu_init (F : Facts K mg) : ∃ fd, FunD K "__init__" "Menu.__init__" (defArgs s_Menu_init) (defBody s_Menu_init) (defScope s_Menu_init) [] [] (He.ma K (He.ga K "Menu") "__init__") fd := F.c.d.def_ 31 rfl
theorem fun_Menu_wishes (F : Facts K mg) : ∃ fd, FunD K "wishes" "Menu.wishes" (defArgs s_Menu_wishes) (defBody s_Menu_wishes) (defScope s_Menu_wishes) [] [] (He.ma K (He.ga K "Menu") "wishes") fd := F.c.d.def_ 32 rfl
theorem fun_Menu_back (F : Facts K mg) : ∃ fd, FunD K "back" "Menu.back" (defArgs s_Menu_back) (defBody s_Menu_back) (defScope s_Menu_back) [] [] (He.ma K (He.ga K "Menu") "back") fd := F.c.d.def_ 33 rfl
theorem fun_Menu_later (F : Facts K mg) : ∃ fd, FunD K "later" "Menu.later" (defArgs s_Menu_later) (defBody s_Menu_later) (defScope s_Menu_later) [] [] (He.ma K (He.ga K "Menu") "later") fd := F.c.d.def_ 34 rfl
theorem fun_Menu_eq (F : Facts K mg) : ∃ fd, FunD K "__eq__" "Menu.__eq__" (defArgs s_Menu_eq) (defBody s_Menu_eq) (defScope s_Menu_eq) [] [] (He.ma K (He.ga K "Menu") "__eq__") fd := F.c.d.def_ 35 rfl
theorem fun_Menu_check_weather (F : Facts K mg) : ∃ fd, FunD K "_check_weather" "Menu._check_weather" (defArgs s_Menu_check_weather) (defBody s_Menu_check_weather) (defScope s_Menu_check_weather) [] [] (He.ma K (He.ga K "Menu") "_check_weather") fd := F.c.d.def_ 36 rfl
end
end K50
namespace K50
open PySem PySem.Spec PyProof.Rows L2 Gx
abbrev R : PySem.W.OpenRow := PySem.W.OpenLaw.row PySem.Challenge.rw_dugdays_k50_texts_of_menus
abbrev hk : PySem.W.Hook := hookY 6 fa fn ex
def ob (s : PySem.W.SharedT) : He.AlD × Bool := obY 6 fa fn ex (HandSHeadRun.getT s)
theorem ob_eq (s : PySem.W.SharedT) : ob s = hk.obs s.abs := obY_eq (HandSHeadRun.getT_eq s)
def loose : List Str := (["__name__", "DigError", "BadThings", "BadWeathers", "BadWeather", "BadText", "__name__", "LETTERS", "MOST_LETTERS", "MOST_THINGS", "MOST_WEATHERS", "WAYS_BACK", "is_name", "are_different", "are_names", "are_things", "is_row_of", "is_weather_entry", "are_weathers", "Menu"] : List Str) ++ (["__name__", "menu_text", "things_in", "entry_in", "read_lines", "read_menu", "__name__", "_law_source", "_law_draw", "_law_pick", "_law_mixed", "_law_word", "_law_names", "_law_some", "_law_base", "_law_made", "_law_tuples", "_law_is_name", "_law_lines", "_law_weather"] : List Str) ++ (["_law_due", "_law_told", "_law_bent", "__name__"] : List Str)
set_option maxHeartbeats 0 in
theorem run (w : World) : HandSHeadRun.RunEq R (PySem.W.view R.prog [43]) hk ob 20000 loose w := by
  intro os
  kernel_rfl
end K50
/-! typed judgements: what a piece of syntax gives, over plain values; the heap is dealt with once -/
namespace Tx
open PySem PySem.Spec PyProof.Rows L2 Gx
abbrev WS := Addr → Prop
/-- what can be owned: a list, or an object of one's own kind -/
def XoO (o : HO) : Prop := (∃ φ, o = .ext φ) ∨ ∃ ob φ, o = .frz ob (.ext φ)
def OwO (o : Option HO) : Prop := (∃ us : List V, o = some (.lst us)) ∨ ∃ x, o = some x ∧ XoO x
theorem OwO.some {o : Option HO} (h : OwO o) : ∃ x, o = Option.some x := by
  rcases h with ⟨us, h⟩ | ⟨x, h, _⟩
  · exact ⟨_, h⟩
  · exact ⟨_, h⟩
theorem OwO.st {o o' : Option HO} (h : OwO o) (k : ∀ x, o = Option.some x → o' = Option.some x) : OwO o' := by
  rcases h with ⟨us, h⟩ | ⟨x, h, y⟩
  · exact .inl ⟨_, k _ h⟩
  · exact .inr ⟨_, k _ h, y⟩
theorem OwO.lst {o : Option HO} {us : List V} (h : o = Option.some (.lst us)) : OwO o := .inl ⟨_, h⟩
/-- what is not owned stays, and stays not owned -/
def Ge (W : WS) (H : Hp) (W' : WS) (H' : Hp) : Prop := ∀ a o, ¬ W a → H a = some o → ¬ W' a ∧ H' a = some o
theorem Ge.refl {W : WS} {H : Hp} : Ge W H W H := fun _ _ n e => ⟨n, e⟩
theorem Ge.trans {W W' W'' : WS} {H H' H'' : Hp} (h : Ge W H W' H') (k : Ge W' H' W'' H'') : Ge W H W'' H'' := fun a o n e => let ⟨n', e'⟩ := h a o n e; k a o n' e'
theorem Ge.same {W : WS} {H H' : Hp} (k : Same H H') : Ge W H W H' := fun a o n e => ⟨n, k a o e⟩
theorem Ge.less {W W' : WS} {H : Hp} (k : ∀ a, W' a → W a) : Ge W H W' H := fun a o n e => ⟨fun z => n (k a z), e⟩
/-- how a value stands for a datum -/
structure Rp (α : Type) where
  r : PySem.W.Frag → WS → Hp → V → α → Prop
  mono : ∀ {K : PySem.W.Frag} {W W' : WS} {H H' : Hp} {v : V} {x : α}, Ge W H W' H' → r K W H v x → r K W' H' v x
theorem Rp.pmono {α : Type} (S : Rp α) {K : PySem.W.Frag} {W W' : WS} {H H' : Hp} (g : Ge W H W' H') {vs : List V} {xs : List α} (h : Paired (S.r K W H) vs xs) : Paired (S.r K W' H') vs xs := Paired.imp2 (fun _ _ => S.mono g) h
/-- no part of it lies in the heap -/
def Flat {α : Type} (S : Rp α) : Prop := ∀ {K : PySem.W.Frag} {W W' : WS} {H H' : Hp} {v : V} {x : α}, S.r K W H v x → S.r K W' H' v x
theorem Flat.p {α : Type} {S : Rp α} (f : Flat S) {K : PySem.W.Frag} {W W' : WS} {H H' : Hp} {vs : List V} {xs : List α} (h : Paired (S.r K W H) vs xs) : Paired (S.r K W' H') vs xs := Paired.imp2 (fun _ _ z => f z) h
def intR : Rp Int := ⟨fun _ _ _ v x => v = .int x, fun _ h => h⟩
def strR : Rp Str := ⟨fun _ _ _ v x => v = .str x, fun _ h => h⟩
def boolR : Rp Bool := ⟨fun _ _ _ v x => v = .bl x, fun _ h => h⟩
def nonR : Rp Unit := ⟨fun _ _ _ v _ => v = .non, fun _ h => h⟩
/-- the very value -/
def vR : Rp V := ⟨fun _ _ _ v x => v = x, fun _ h => h⟩
theorem intR.flat : Flat intR := fun h => h
theorem strR.flat : Flat strR := fun h => h
/-- a tuple that is there -/
def TW (K : PySem.W.Frag) (W : WS) (H : Hp) (a : Addr) (xs : List V) : Prop := (¬ W a ∧ Rd H a (.tup xs)) ∨ ∀ G, SqT K G a xs
theorem TW.sq {K : PySem.W.Frag} {W : WS} {H : Hp} {a : Addr} {xs : List V} (h : TW K W H a xs) : SqT K H a xs := h.elim (fun h => .inl h.2) (fun h => h H)
theorem TW.mono {K : PySem.W.Frag} {W W' : WS} {H H' : Hp} {a : Addr} {xs : List V} (g : Ge W H W' H') (h : TW K W H a xs) : TW K W' H' a xs := by
  rcases h with ⟨n, h | ⟨o, h⟩⟩ | h
  · exact .inl ⟨(g _ _ n h).1, .inl (g _ _ n h).2⟩
  · exact .inl ⟨(g _ _ n h).1, .inr ⟨o, (g _ _ n h).2⟩⟩
  · exact .inr h
theorem TW.of {K : PySem.W.Frag} {W : WS} {H : Hp} {a : Addr} {xs : List V} (n : ¬ W a) (h : H a = some (.tup xs)) : TW K W H a xs := .inl ⟨n, .inl h⟩
def lstR {α : Type} (S : Rp α) : Rp (List α) := ⟨fun K W H v xs => ∃ a vs, v = .ref a ∧ ¬ W a ∧ H a = some (.lst vs) ∧ Paired (S.r K W H) vs xs,
  fun g ⟨a, vs, e, n, h, p⟩ => ⟨a, vs, e, (g _ _ n h).1, (g _ _ n h).2, S.pmono g p⟩⟩
def tupR {α : Type} (S : Rp α) : Rp (List α) := ⟨fun K W H v xs => ∃ a vs, v = .ref a ∧ TW K W H a vs ∧ Paired (S.r K W H) vs xs,
  fun g ⟨a, vs, e, h, p⟩ => ⟨a, vs, e, h.mono g, S.pmono g p⟩⟩
def prR {α β : Type} (S : Rp α) (T : Rp β) : Rp (α × β) := ⟨fun K W H v x => ∃ a v1 v2, v = .ref a ∧ TW K W H a [v1, v2] ∧ S.r K W H v1 x.1 ∧ T.r K W H v2 x.2,
  fun g ⟨a, v1, v2, e, h, p, q⟩ => ⟨a, v1, v2, e, h.mono g, S.mono g p, T.mono g q⟩⟩
def triR {α β γ : Type} (S : Rp α) (T : Rp β) (U : Rp γ) : Rp (α × β × γ) := ⟨fun K W H v x => ∃ a v1 v2 v3, v = .ref a ∧ TW K W H a [v1, v2, v3] ∧ S.r K W H v1 x.1 ∧ T.r K W H v2 x.2.1 ∧ U.r K W H v3 x.2.2,
  fun g ⟨a, v1, v2, v3, e, h, p, q, s⟩ => ⟨a, v1, v2, v3, e, h.mono g, S.mono g p, T.mono g q, U.mono g s⟩⟩
/-- an entry as the laws hold it -/
def entR : Rp Ent := ⟨fun K W H v e => ∃ a w l, v = .ref a ∧ TW K W H a [.str e.name, w, .str e.back, l] ∧ (tupR strR).r K W H w e.wishes ∧ (tupR strR).r K W H l e.later,
  fun g ⟨a, w, l, e, h, p, q⟩ => ⟨a, w, l, e, h.mono g, (tupR strR).mono g p, (tupR strR).mono g q⟩⟩
/-- a menu as the laws hold it -/
def baseR : Rp Bs := ⟨fun K W H v b => ∃ a t w, v = .ref a ∧ TW K W H a [t, w] ∧ (tupR strR).r K W H t b.things ∧ (tupR entR).r K W H w b.ws,
  fun g ⟨a, t, w, e, h, p, q⟩ => ⟨a, t, w, e, h.mono g, (tupR strR).mono g p, (tupR entR).mono g q⟩⟩
/-- an own object that is no list -/
structure Ro (β : Type) where
  r : PySem.W.Frag → WS → Hp → Addr → HO → β → Prop
  mono : ∀ {K : PySem.W.Frag} {W W' : WS} {H H' : Hp} {a : Addr} {o : HO} {x : β}, Ge W H W' H' → r K W H a o x → r K W' H' a o x
  ow : ∀ {K : PySem.W.Frag} {W : WS} {H : Hp} {a : Addr} {o : HO} {x : β}, r K W H a o x → OwO (some o)
  /-- the value that a name of it has -/
  vl : β → Addr → V
/-! ### slots -/
inductive Sl (E : Type) : Type 1 where
  | any : Sl E
  | im {α : Type} (S : Rp α) (g : E → α) : Sl E
  | ow {α : Type} (S : Rp α) (g : E → List α) : Sl E
  | ox {β : Type} (R : Ro β) (g : E → β) : Sl E
  | sr : Sl E
/-- a def's entry: the heap, what its callers own, what of it is lent -/
structure Bc where
  H0 : Hp
  W : WS
  B : WS
abbrev Own := Nat → Option Addr
def Wb (c : Bc) (own : Own) : WS := fun a => c.W a ∨ ∃ i, own i = some a
def SlOk {E : Type} (K : PySem.W.Frag) (c : Bc) (W : WS) (H : Hp) (e : E) : Sl E → Option (Option V) → Option Addr → Prop
  | .any, _, oi => oi = none
  | .im S g, ov, oi => oi = none ∧ ∃ v, ov = some (some v) ∧ S.r K W H v (g e)
  | .ow S g, ov, oi => ∃ a vs, oi = some a ∧ ov = some (some (.ref a)) ∧ (c.H0 a = none ∧ ¬ c.W a) ∧ H a = some (.lst vs) ∧ Paired (S.r K W H) vs (g e)
  | .ox R g, ov, oi => ∃ a o, oi = some a ∧ ov = some (some (R.vl (g e) a)) ∧ (c.H0 a = none ∧ ¬ c.W a) ∧ H a = some o ∧ R.r K W H a o (g e)
  | .sr, ov, oi => ∃ p, oi = some p ∧ ov = some (some (.ref p)) ∧ (c.B p ∨ c.H0 p = none) ∧ SrcAt H p
structure St {E : Type} (K : PySem.W.Frag) (c : Bc) (L : List (Sl E)) (σ : L2.St) (H : Hp) (e : E) (own : Own) : Prop where
  len : σ.length = L.length
  stay : ∀ a o, ¬ c.B a → c.H0 a = some o → H a = some o
  dom : ∀ a, c.W a → OwO (H a)
  bw : ∀ a, c.B a → c.W a
  bs : ∀ a, c.B a → ∃ i, L[i]? = some .sr ∧ own i = some a
  inj : ∀ i j a, own i = some a → own j = some a → i = j
  out : ∀ i, L[i]? = none → own i = none
  slot : ∀ i s, L[i]? = some s → SlOk K c (Wb c own) H e s σ[i]? (own i)
/-- the places of the drawn numbers' sources -/
def Sr {E : Type} (L : List (Sl E)) (own : Own) : WS := fun a => ∃ i, L[i]? = some .sr ∧ own i = some a
/-- what an expression may do to the heap -/
structure Ex {E : Type} (L : List (Sl E)) (own : Own) (H H' : Hp) : Prop where
  st : ∀ a o, ¬ Sr L own a → H a = some o → H' a = some o
  sr : ∀ a, Sr L own a → SrcAt H' a
section
variable {E : Type} {K : PySem.W.Frag} {c : Bc} {L : List (Sl E)} {σ : L2.St} {H H' H'' : Hp} {e : E} {own : Own}
theorem Sr.wb {a : Addr} (h : Sr L own a) : Wb c own a := let ⟨i, _, e⟩ := h; .inr ⟨i, e⟩
theorem Ex.ge (x : Ex L own H H') : Ge (Wb c own) H (Wb c own) H' := fun a o n h => ⟨n, x.st a o (fun z => n z.wb) h⟩
theorem Ex.trans (x : Ex L own H H') (y : Ex L own H' H'') : Ex L own H H'' := ⟨fun a o n h => y.st a o n (x.st a o n h), y.sr⟩
theorem St.sr (s : St K c L σ H e own) {a : Addr} (h : Sr L own a) : SrcAt H a := by
  obtain ⟨i, hL, ho⟩ := h
  obtain ⟨p, h1, _, _, h2⟩ := s.slot i _ hL
  rw [ho] at h1
  cases h1
  exact h2
theorem St.exSame (s : St K c L σ H e own) (k : Same H H') : Ex L own H H' := ⟨fun a o _ h => k a o h, fun a h => (s.sr h).same k⟩
theorem St.exRefl (s : St K c L σ H e own) : Ex L own H H := s.exSame (Same.refl _)
/-- what is owned is there -/
theorem St.has (s : St K c L σ H e own) {i : Nat} {a : Addr} (h : own i = some a) : OwO (H a) := by
  cases hL : L[i]? with
  | none =>
    rw [s.out i hL] at h
    cases h
  | some sl =>
    have q := s.slot i sl hL
    cases sl with
    | any =>
      rw [show own i = none from q] at h
      cases h
    | im S g =>
      rw [q.1] at h
      cases h
    | ow S g =>
      obtain ⟨b, vs, h1, _, _, h2, _⟩ := q
      rw [h] at h1
      cases h1
      exact .lst h2
    | ox R g =>
      obtain ⟨b, o, h1, _, _, h2, r⟩ := q
      rw [h] at h1
      cases h1
      rw [h2]
      exact R.ow r
    | sr =>
      obtain ⟨p, h1, _, _, x, y, h2, _⟩ := q
      rw [h] at h1
      cases h1
      exact .lst h2
theorem St.hasW (s : St K c L σ H e own) {a : Addr} (h : Wb c own a) : OwO (H a) := by
  rcases h with h | ⟨i, h⟩
  · exact s.dom a h
  · exact s.has h
theorem St.fresh (s : St K c L σ H e own) {l : Addr} (h : H l = none) : ¬ Wb c own l := fun z => by
  obtain ⟨o, ho⟩ := (s.hasW z).some
  rw [h] at ho
  cases ho
theorem Ex.none (s : St K c L σ H e own) (x : Ex L own H H') {l : Addr} (h : H' l = Option.none) : H l = Option.none := by
  rcases q : H l with _ | o
  · rfl
  · by_cases hs : Sr L own l
    · obtain ⟨_, _, h2, _⟩ := x.sr l hs
      rw [h] at h2
      cases h2
    · have := x.st l o hs q
      rw [h] at this
      cases this
/-- behind an expression all stands as it stood -/
theorem St.ex (s : St K c L σ H e own) (x : Ex L own H H') : St K c L σ H' e own := by
  have nsr : ∀ a o, ¬ c.B a → c.H0 a = some o → ¬ Sr L own a := fun a o nb h0 ⟨i, hL, ho⟩ => by
    obtain ⟨p, h1, _, h2, _⟩ := s.slot i _ hL
    rw [ho] at h1
    cases h1
    rcases h2 with h2 | h2
    · exact nb h2
    · rw [h0] at h2
      cases h2
  have dom : ∀ a, c.W a → OwO (H' a) := fun a z => by
    by_cases hs : Sr L own a
    · obtain ⟨_, _, h, _⟩ := x.sr a hs
      exact .lst h
    · exact (s.dom a z).st fun o ho => x.st a _ hs ho
  refine ⟨s.len, fun a o nb h0 => x.st a o (nsr a o nb h0) (s.stay a o nb h0), dom, s.bw, s.bs, s.inj, s.out, fun i sl hL => ?_⟩
  have q := s.slot i sl hL
  cases sl with
  | any => exact q
  | im S g =>
    obtain ⟨h1, v, h2, h3⟩ := q
    exact ⟨h1, v, h2, S.mono x.ge h3⟩
  | ow S g =>
    obtain ⟨a, vs, h1, h2, h3, h4, h5⟩ := q
    refine ⟨a, vs, h1, h2, h3, x.st _ _ (fun ⟨j, hj, ho⟩ => ?_) h4, S.pmono x.ge h5⟩
    have := s.inj i j a h1 ho
    subst this
    rw [hL] at hj
    cases hj
  | ox R g =>
    obtain ⟨a, o, h1, h2, h3, h4, h5⟩ := q
    refine ⟨a, o, h1, h2, h3, x.st _ _ (fun ⟨j, hj, ho⟩ => ?_) h4, R.mono x.ge h5⟩
    have := s.inj i j a h1 ho
    subst this
    rw [hL] at hj
    cases hj
  | sr =>
    obtain ⟨p, h1, h2, h3, h4⟩ := q
    exact ⟨p, h1, h2, h3, x.sr p ⟨i, hL, h1⟩⟩
end
/-! ### expressions -/
def Mono {E α : Type} (w : E → (α → Prop) → Prop) : Prop := ∀ e k k', (∀ x, k x → k' x) → w e k → w e k'
/-- e gives a value that stands for what w says -/
structure TX {E α : Type} {ι : Type} (X : ι → Cx) (K : PySem.W.Frag) (L : List (Sl E)) (S : Rp α) (e : Expr) (w : E → (α → Prop) → Prop) : Prop where
  mono : Mono w
  ex : ∃ t, (∀ i, PE (X i) e t) ∧ ∀ (c : Bc) (σ : L2.St) (H : Hp) (env : E) (own : Own) (Q : VK), St K c L σ H env own → w env (fun x => ∀ v H', Ex L own H H' → S.r K (Wb c own) H' v x → Q v H') → t σ H Q
/-- e gives a new list -/
structure TN {E α : Type} {ι : Type} (X : ι → Cx) (K : PySem.W.Frag) (L : List (Sl E)) (S : Rp α) (e : Expr) (w : E → (List α → Prop) → Prop) : Prop where
  mono : Mono w
  ex : ∃ t, (∀ i, PE (X i) e t) ∧ ∀ (c : Bc) (σ : L2.St) (H : Hp) (env : E) (own : Own) (Q : VK), St K c L σ H env own →
    w env (fun xs => ∀ l vs H', H l = none → Ex L own H H' → H' l = some (.lst vs) → Paired (S.r K (fun a => Wb c own a ∨ a = l) H') vs xs → Q (.ref l) H') → t σ H Q
/-- e as a test -/
structure TT {E : Type} {ι : Type} (X : ι → Cx) (K : PySem.W.Frag) (L : List (Sl E)) (e : Expr) (w : E → (Bool → Prop) → Prop) : Prop where
  mono : Mono w
  ex : ∃ t, (∀ i, PT (X i) e t) ∧ ∀ (c : Bc) (σ : L2.St) (H : Hp) (env : E) (own : Own) (Q : Bool → Hp → Prop), St K c L σ H env own → w env (fun b => ∀ H', Ex L own H H' → Q b H') → t σ H Q
structure TTW {E : Type} {ι : Type} (X : ι → Cx) (K : PySem.W.Frag) (L : List (Sl E)) (e : Expr) (w : E → (Bool → Prop) → Prop) : Prop where
  mono : Mono w
  ex : ∃ t, (∀ i, PW (X i) e t) ∧ ∀ (c : Bc) (σ : L2.St) (H : Hp) (env : E) (own : Own) (Q : Bool → Hp → Prop), St K c L σ H env own → w env (fun b => ∀ H', Ex L own H H' → Q b H') → t σ H Q
section
variable {E α β γ : Type} {ι : Type} {X : ι → Cx} {K : PySem.W.Frag} {L : List (Sl E)} {S : Rp α} {T : Rp β} {U : Rp γ} {e a b : Expr} {pos : Pos}
theorem TN.tx {w : E → (List α → Prop) → Prop} (h : TN X K L S e w) : TX X K L (lstR S) e w := by
  obtain ⟨t, ht, f⟩ := h.ex
  refine ⟨h.mono, t, ht, fun c σ H env own Q s hw => f c σ H env own Q s (h.mono _ _ _ (fun xs k l vs H' n x e p => k _ _ x ⟨l, vs, rfl, ?_, e, S.pmono (Ge.less fun a z => .inl z) p⟩) hw)⟩
  exact s.fresh n
theorem TX.val {w : E → (Bool → Prop) → Prop} (h : TX X K L boolR e w) (he : ∀ i whole, isTrue e (X i).env whole = (do let v ← whole; standAt e.pos; holding [v] (truthy v)) := by intro _ _; rfl) : TT X K L e w := by
  obtain ⟨t, ht, f⟩ := h.ex
  exact ⟨h.mono, _, fun i => pt_val (ht i) (he i), fun c σ H env own Q s hw => f c σ H env own _ s (h.mono _ _ _ (fun b k v H' x r => ⟨b, r, k H' x⟩) hw)⟩
theorem TTW.tt {w : E → (Bool → Prop) → Prop} (h : TTW X K L e w) : TT X K L e w := by
  obtain ⟨t, ht, f⟩ := h.ex
  exact ⟨h.mono, t, fun i => (ht i).pt, f⟩
/-- a name -/
theorem tx_im {g : E → α} {i : Nat} {x : Str} (hL : L[i]? = some (.im S g)) (hN : ∀ j, (X j).N[i]? = some x) (hv : ∀ j, Vis (X j).env.scope x) (hd : (x == ("__debug__" : Str)) = false := by decide) (hcd : (x == ("__classdict__" : Str)) = false := by decide) : TX X K L S (.Name x pos) fun env k => k (g env) := by
  refine ⟨fun _ _ _ h => h _, _, fun j => pe_var (hN j) (hv j) hd hcd, fun c σ H env own Q s hw => ?_⟩
  obtain ⟨_, v, h1, h2⟩ := s.slot i _ hL
  exact ⟨v, h1, hw v H s.exRefl h2⟩
theorem tx_int {i j} : TX X K L intR (.Constant (.int i) j pos) fun _ k => k i := ⟨fun _ _ _ h => h _, _, fun _ => pe_int, fun c σ H env own Q s hw => hw _ _ s.exRefl rfl⟩
theorem tx_str {x j} : TX X K L strR (.Constant (.str x) j pos) fun _ k => k x := ⟨fun _ _ _ h => h _, _, fun _ => pe_str, fun c σ H env own Q s hw => hw _ _ s.exRefl rfl⟩
theorem tx_bl {x j} : TX X K L boolR (.Constant (.bool x) j pos) fun _ k => k x := ⟨fun _ _ _ h => h _, _, fun _ => pe_bl, fun c σ H env own Q s hw => hw _ _ s.exRefl rfl⟩
theorem tx_non {j} : TX X K L nonR (.Constant .none j pos) fun _ k => k () := ⟨fun _ _ _ h => h _, _, fun _ => pe_non, fun c σ H env own Q s hw => hw _ _ s.exRefl rfl⟩
/-- a rule by values, of two places -/
structure VR2 (K : PySem.W.Frag) (S : Rp α) (T : Rp β) (U : Rp γ) (r : R2) (w : α → β → (γ → Prop) → Prop) : Prop where
  mono : ∀ x y k k', (∀ z, k z → k' z) → w x y k → w x y k'
  run : ∀ (W : WS) (H : Hp) (x : α) (y : β) (v u : V) (Q : VK), (∀ l, H l = none → ¬ W l) → S.r K W H v x → T.r K W H u y → w x y (fun z => ∀ v' H', Same H H' → U.r K W H' v' z → Q v' H') → r v u H Q
structure VN2 (K : PySem.W.Frag) (S : Rp α) (T : Rp β) (U : Rp γ) (r : R2) (w : α → β → (List γ → Prop) → Prop) : Prop where
  mono : ∀ x y k k', (∀ z, k z → k' z) → w x y k → w x y k'
  run : ∀ (W : WS) (H : Hp) (x : α) (y : β) (v u : V) (Q : VK), (∀ l, H l = none → ¬ W l) → S.r K W H v x → T.r K W H u y →
    w x y (fun zs => ∀ l vs H', H l = none → Same H H' → H' l = some (.lst vs) → Paired (U.r K (fun a => W a ∨ a = l) H') vs zs → Q (.ref l) H') → r v u H Q
variable {wa : E → (α → Prop) → Prop} {wb : E → (β → Prop) → Prop}
theorem two {t1 t2 : TE} {r : R2} {w : α → β → (γ → Prop) → Prop} (ma : Mono wa) (mb : Mono wb)
    (fa : ∀ (c : Bc) (σ : L2.St) (H : Hp) (env : E) (own : Own) (Q : VK), St K c L σ H env own → wa env (fun x => ∀ v H', Ex L own H H' → S.r K (Wb c own) H' v x → Q v H') → t1 σ H Q)
    (fb : ∀ (c : Bc) (σ : L2.St) (H : Hp) (env : E) (own : Own) (Q : VK), St K c L σ H env own → wb env (fun x => ∀ v H', Ex L own H H' → T.r K (Wb c own) H' v x → Q v H') → t2 σ H Q)
    (v : VR2 K S T U r w) : (Mono fun e k => wa e fun x => wb e fun y => w x y k) ∧ ∀ (c : Bc) (σ : L2.St) (H : Hp) (env : E) (own : Own) (Q : VK), St K c L σ H env own → (wa env fun x => wb env fun y => w x y (fun x => ∀ v H', Ex L own H H' → U.r K (Wb c own) H' v x → Q v H')) → tOp r t1 t2 σ H Q := by
  refine ⟨fun e k k' h hw => ma _ _ _ (fun x hx => mb _ _ _ (fun y hy => v.mono _ _ _ _ h hy) hx) hw, fun c σ H env own Q s hw => ?_⟩
  refine fa c σ H env own _ s (ma _ _ _ (fun x hx v1 H1 x1 r1 => ?_) hw)
  refine fb c σ H1 env own _ (s.ex x1) (mb _ _ _ (fun y hy v2 H2 x2 r2 => ?_) hx)
  have s2 := (s.ex x1).ex x2
  exact v.run _ _ _ _ _ _ _ (fun l hl => s2.fresh hl) (S.mono x2.ge r1) r2 (v.mono _ _ _ _ (fun z hz v' H' k' r' => hz v' H' (x1.trans (x2.trans (s2.exSame k'))) r') hy)
theorem tx_op {op : Operator} {r : R2} {w : α → β → (γ → Prop) → Prop} (ho : ∀ i, OpR (X i) (binaryOp op) r) (v : VR2 K S T U r w) (ha : TX X K L S a wa) (hb : TX X K L T b wb) : TX X K L U (.BinOp a op b pos) (fun e k => wa e fun x => wb e fun y => w x y k) := by
  obtain ⟨t1, p1, f1⟩ := ha.ex
  obtain ⟨t2, p2, f2⟩ := hb.ex
  obtain ⟨m, f⟩ := two ha.mono hb.mono f1 f2 v
  exact ⟨m, _, fun i => pe_op (ho i) (p1 i) (p2 i), f⟩
theorem tx_cmp {op : CmpOp} {r : R2} {w : α → β → (Bool → Prop) → Prop} (ho : ∀ i, OpR (X i) (compareOp op) r) (v : VR2 K S T boolR r w) (ha : TX X K L S a wa) (hb : TX X K L T b wb) (hm : behindInMarks op b = false) : TX X K L boolR (.Compare a [op] [b] pos) (fun e k => wa e fun x => wb e fun y => w x y k) := by
  obtain ⟨t1, p1, f1⟩ := ha.ex
  obtain ⟨t2, p2, f2⟩ := hb.ex
  obtain ⟨m, f⟩ := two ha.mono hb.mono f1 f2 v
  exact ⟨m, _, fun i => pe_cmpR (ho i) (p1 i) (p2 i) hm, f⟩
theorem tt_cmp {op : CmpOp} {r : R2} {w : α → β → (Bool → Prop) → Prop} (ho : ∀ i, OpR (X i) (compareOp op) r) (v : VR2 K S T boolR r w) (ha : TX X K L S a wa) (hb : TX X K L T b wb) (hm : behindInMarks op b = false) : TT X K L (.Compare a [op] [b] pos) (fun e k => wa e fun x => wb e fun y => w x y k) := by
  obtain ⟨t1, p1, f1⟩ := ha.ex
  obtain ⟨t2, p2, f2⟩ := hb.ex
  obtain ⟨m, f⟩ := two ha.mono hb.mono f1 f2 v
  refine ⟨m, _, fun i => pt_cmpR (ho i) (p1 i) (p2 i) hm, fun c σ H env own Q s hw => f c σ H env own (fun x H' => ∃ k, x = .bl k ∧ Q k H') s (m env (fun b => ∀ H', Ex L own H H' → Q b H') _ (fun b hb v H' x r => ⟨b, r, hb H' x⟩) hw)⟩
theorem tx_ix {r : R2} {w : α → β → (γ → Prop) → Prop} (ho : ∀ i, IxR (X i) r) (v : VR2 K S T U r w) (ha : TX X K L S a wa) (hb : TX X K L T b wb) (hs : PlainIx b) : TX X K L U (.Subscript a b pos) (fun e k => wa e fun x => wb e fun y => w x y k) := by
  obtain ⟨t1, p1, f1⟩ := ha.ex
  obtain ⟨t2, p2, f2⟩ := hb.ex
  obtain ⟨m, f⟩ := two ha.mono hb.mono f1 f2 v
  exact ⟨m, _, fun i => pe_ix (ho i) (p1 i) (p2 i) hs, f⟩
theorem tn_op {op : Operator} {r : R2} {w : α → β → (List γ → Prop) → Prop} (ho : ∀ i, OpR (X i) (binaryOp op) r) (v : VN2 K S T U r w) (ha : TX X K L S a wa) (hb : TX X K L T b wb) : TN X K L U (.BinOp a op b pos) (fun e k => wa e fun x => wb e fun y => w x y k) := by
  obtain ⟨t1, p1, f1⟩ := ha.ex
  obtain ⟨t2, p2, f2⟩ := hb.ex
  refine ⟨fun e k k' h hw => ha.mono _ _ _ (fun x hx => hb.mono _ _ _ (fun y hy => v.mono _ _ _ _ h hy) hx) hw, _, fun i => pe_op (ho i) (p1 i) (p2 i), fun c σ H env own Q s hw => ?_⟩
  refine f1 c σ H env own _ s (ha.mono _ _ _ (fun x hx v1 H1 x1 r1 => ?_) hw)
  refine f2 c σ H1 env own _ (s.ex x1) (hb.mono _ _ _ (fun y hy v2 H2 x2 r2 => ?_) hx)
  have s2 := (s.ex x1).ex x2
  exact v.run _ _ _ _ _ _ _ (fun l hl => s2.fresh hl) (S.mono x2.ge r1) r2 (v.mono _ _ _ _ (fun z hz l vs H' n k' e' p' => hz l vs H' (Ex.none s (x1.trans x2) n) (x1.trans (x2.trans (s2.exSame k'))) e' p') hy)
/-! ### and, or, not, if -/
variable {wt wu : E → (Bool → Prop) → Prop} {rest : List Expr}
theorem tt_not (h : TT X K L a wt) : TT X K L (.UnaryOp .Not a pos) (fun e k => wt e fun b => k (!b)) := by
  obtain ⟨t, p, f⟩ := h.ex
  exact ⟨fun e k k' h' hw => h.mono _ _ _ (fun b hb => h' _ hb) hw, _, fun i => pt_not (p i), fun c σ H env own Q s hw => f c σ H env own _ s (h.mono _ _ _ (fun b hb H' x => hb H' x) hw)⟩
theorem tw_one_and (h : TT X K L a wt) : TTW X K L (.BoolOp .And [a] pos) wt := by
  obtain ⟨t, p, f⟩ := h.ex
  exact ⟨h.mono, _, fun i => pw_and1 (p i), f⟩
theorem tw_one_or (h : TT X K L a wt) : TTW X K L (.BoolOp .Or [a] pos) wt := by
  obtain ⟨t, p, f⟩ := h.ex
  exact ⟨h.mono, _, fun i => pw_or1 (p i), f⟩
theorem tw_and (ha : TT X K L a wt) (hb : TTW X K L (.BoolOp .And (b :: rest) pos) wu) : TTW X K L (.BoolOp .And (a :: b :: rest) pos) (fun e k => wt e fun x => if x = true then wu e k else k false) := by
  obtain ⟨t1, p1, f1⟩ := ha.ex
  obtain ⟨t2, p2, f2⟩ := hb.ex
  refine ⟨fun e k k' h hw => ha.mono _ _ _ (fun x hx => ?_) hw, _, fun i => pw_and (p1 i) (p2 i), fun c σ H env own Q s hw => f1 c σ H env own _ s (ha.mono _ _ _ (fun x hx H1 x1 => ?_) hw)⟩
  · cases x
    · exact h _ hx
    · exact hb.mono _ _ _ h hx
  · cases x
    · exact hx H1 x1
    · exact f2 c σ H1 env own _ (s.ex x1) (hb.mono _ _ _ (fun y hy H2 x2 => hy H2 (x1.trans x2)) hx)
theorem tw_or (ha : TT X K L a wt) (hb : TTW X K L (.BoolOp .Or (b :: rest) pos) wu) : TTW X K L (.BoolOp .Or (a :: b :: rest) pos) (fun e k => wt e fun x => if x = true then k true else wu e k) := by
  obtain ⟨t1, p1, f1⟩ := ha.ex
  obtain ⟨t2, p2, f2⟩ := hb.ex
  refine ⟨fun e k k' h hw => ha.mono _ _ _ (fun x hx => ?_) hw, _, fun i => pw_or (p1 i) (p2 i), fun c σ H env own Q s hw => f1 c σ H env own _ s (ha.mono _ _ _ (fun x hx H1 x1 => ?_) hw)⟩
  · cases x
    · exact hb.mono _ _ _ h hx
    · exact h _ hx
  · cases x
    · exact f2 c σ H1 env own _ (s.ex x1) (hb.mono _ _ _ (fun y hy H2 x2 => hy H2 (x1.trans x2)) hx)
    · exact hx H1 x1
end
end Tx
/-! arguments, calls, what a def promises; statements -/
namespace Tx
open PySem PySem.Spec PyProof.Rows L2 Gx
/-! ### arguments -/
inductive Ar : Type → Type 1 where
  | nil : Ar Unit
  | cons {α τ : Type} (S : Rp α) (A : Ar τ) : Ar (α × τ)
  | src {τ : Type} (A : Ar τ) : Ar τ
def srB : {τ : Type} → Ar τ → Nat → Bool
  | _, .nil, _ => false
  | _, .cons S A, 0 => false
  | _, .cons S A, i + 1 => srB A i
  | _, .src A, 0 => true
  | _, .src A, i + 1 => srB A i
def srAt {τ : Type} (A : Ar τ) (i : Nat) : Prop := srB A i = true
def srs : {τ : Type} → Ar τ → Nat
  | _, .nil => 0
  | _, .cons S A => srs A
  | _, .src A => srs A + 1
def arn : {τ : Type} → Ar τ → Nat
  | _, .nil => 0
  | _, .cons S A => arn A + 1
  | _, .src A => arn A + 1
def ArOk (K : PySem.W.Frag) (W : WS) (H : Hp) (P : WS) : {τ : Type} → Ar τ → List V → τ → Prop
  | _, .nil, vs, _ => vs = []
  | _, .cons S A, vs, x => ∃ v us, vs = v :: us ∧ S.r K W H v x.1 ∧ ArOk K W H P A us x.2
  | _, .src A, vs, x => ∃ p us, vs = .ref p :: us ∧ P p ∧ ArOk K W H P A us x
theorem ArOk.imp {K : PySem.W.Frag} {W W' : WS} {H H' : Hp} {P P' : WS} (g : Ge W H W' H') (f : ∀ a, P a → P' a) : ∀ {τ : Type} {A : Ar τ} {vs : List V} {x : τ}, ArOk K W H P A vs x → ArOk K W' H' P' A vs x := by
  intro τ A
  induction A with
  | nil => exact fun h => h
  | cons S A ih =>
    rintro vs x ⟨v, us, e, h1, h2⟩
    exact ⟨v, us, e, S.mono g h1, ih h2⟩
  | src A ih =>
    rintro vs x ⟨v, us, e, h1, h2⟩
    exact ⟨v, us, e, f _ h1, ih h2⟩
theorem ArOk.len {K : PySem.W.Frag} {W : WS} {H : Hp} {P : WS} : ∀ {τ : Type} {A : Ar τ} {vs : List V} {x : τ}, ArOk K W H P A vs x → vs.length = arn A := by
  intro τ A
  induction A with
  | nil =>
    intro vs x h
    rw [show vs = [] from h]
    rfl
  | cons S A ih =>
    rintro vs x ⟨v, us, rfl, h1, h2⟩
    simp [arn, ih h2]
  | src A ih =>
    rintro vs x ⟨v, us, rfl, h1, h2⟩
    simp [arn, ih h2]
theorem ArOk.at {K : PySem.W.Frag} {W : WS} {H : Hp} {P : WS} : ∀ {τ : Type} {A : Ar τ} {vs : List V} {x : τ} {i : Nat}, ArOk K W H P A vs x → srAt A i → ∃ p, vs[i]? = some (.ref p) ∧ P p := by
  intro τ A
  induction A with
  | nil => exact fun _ h => absurd h (by simp [srAt, srB])
  | cons S A ih =>
    rintro vs x i ⟨v, us, rfl, h1, h2⟩ h
    cases i with
    | zero => exact absurd h (by simp [srAt, srB])
    | succ i => exact ih (i := i) h2 h
  | src A ih =>
    rintro vs x i ⟨v, us, rfl, h1, h2⟩ h
    cases i with
    | zero => exact ⟨v, rfl, h1⟩
    | succ i => exact ih (i := i) h2 h
/-- the sources among the arguments -/
def Bof {τ : Type} (A : Ar τ) (vs : List V) : WS := fun a => ∃ i, srAt A i ∧ vs[i]? = some (.ref a)
structure TA {E τ : Type} {ι : Type} (X : ι → Cx) (K : PySem.W.Frag) (L : List (Sl E)) (A : Ar τ) (es : List Expr) (w : E → (τ → Prop) → Prop) : Prop where
  mono : Mono w
  ex : ∃ t, (∀ i, PA (X i) es t) ∧ ∀ (c : Bc) (σ : L2.St) (H : Hp) (env : E) (own : Own) (Q : List V → Hp → Prop), St K c L σ H env own → w env (fun x => ∀ vs H', Ex L own H H' → ArOk K (Wb c own) H' (Sr L own) A vs x → Q vs H') → t σ H Q
section
variable {E α τ : Type} {ι : Type} {X : ι → Cx} {K : PySem.W.Frag} {L : List (Sl E)} {S : Rp α} {A : Ar τ} {e : Expr} {es : List Expr} {pos : Pos}
theorem ta_nil : TA X K L .nil [] (fun _ k => k ()) := ⟨fun _ _ _ h => h _, _, fun _ => pa_nil, fun c σ H env own Q s hw => hw _ _ s.exRefl rfl⟩
theorem ta_cons {wa : E → (α → Prop) → Prop} {wb : E → (τ → Prop) → Prop} (ha : TX X K L S e wa) (hb : TA X K L A es wb) (hs : ∀ i, starEach (e :: es) (X i).env = (false, eval e (X i).env) :: starEach es (X i).env := by intro _; rfl) : TA X K L (.cons S A) (e :: es) (fun env k => wa env fun x => wb env fun y => k (x, y)) := by
  obtain ⟨t1, p1, f1⟩ := ha.ex
  obtain ⟨t2, p2, f2⟩ := hb.ex
  refine ⟨fun e k k' h hw => ha.mono _ _ _ (fun x hx => hb.mono _ _ _ (fun y hy => h _ hy) hx) hw, _, fun i => pa_cons (p1 i) (p2 i) (hs i), fun c σ H env own Q s hw => ?_⟩
  refine f1 c σ H env own _ s (ha.mono _ _ _ (fun x hx v1 H1 x1 r1 => ?_) hw)
  refine f2 c σ H1 env own _ (s.ex x1) (hb.mono _ _ _ (fun y hy us H2 x2 r2 => ?_) hx)
  exact hy _ H2 (x1.trans x2) ⟨v1, us, rfl, S.mono x2.ge r1, r2⟩
theorem ta_src {i : Nat} {x : Str} {p : Pos} {wb : E → (τ → Prop) → Prop} (hL : L[i]? = some .sr) (hN : ∀ j, (X j).N[i]? = some x) (hv : ∀ j, Vis (X j).env.scope x) (hb : TA X K L A es wb) (hs : ∀ j, starEach (.Name x p :: es) (X j).env = (false, eval (.Name x p) (X j).env) :: starEach es (X j).env := by intro _; rfl)
    (hd : (x == ("__debug__" : Str)) = false := by decide) (hcd : (x == ("__classdict__" : Str)) = false := by decide) : TA X K L (.src A) (.Name x p :: es) wb := by
  obtain ⟨t2, p2, f2⟩ := hb.ex
  refine ⟨hb.mono, _, fun j => pa_cons (pe_var (hN j) (hv j) hd hcd) (p2 j) (hs j), fun c σ H env own Q s hw => ?_⟩
  obtain ⟨q, h1, h2, _, _⟩ := s.slot i _ hL
  refine ⟨.ref q, h2, f2 c σ H env own _ s (hb.mono _ _ _ (fun y hy us H2 x2 r2 => hy _ H2 x2 ⟨q, us, rfl, ⟨i, hL, h1⟩, r2⟩) hw)⟩
end
/-! ### what a def hands back -/
/-- more is known to stay -/
structure Pin (c c' : Bc) : Prop where
  W : c'.W = c.W
  B : c'.B = c.B
  st : ∀ a o, ¬ c.B a → c.H0 a = some o → c'.H0 a = some o
theorem Pin.none {c c' : Bc} (p : Pin c c') {l : Addr} (nb : ¬ c'.B l) (n : c'.H0 l = Option.none) : c.H0 l = Option.none := by
  rw [p.B] at nb
  rcases z : c.H0 l with _ | o
  · rfl
  · rw [p.st l o nb z] at n
    cases n
def Bk (c : Bc) (H' : Hp) : Prop := (∀ a o, ¬ c.B a → c.H0 a = some o → H' a = some o) ∧ ∀ a, c.B a → SrcAt H' a
theorem Bk.pin {c c' : Bc} {H' : Hp} (p : Pin c c') (h : Bk c' H') : Bk c H' := ⟨fun a o n e => h.1 a o (by rw [p.B]; exact n) (p.st a o n e), fun a z => h.2 a (by rw [p.B]; exact z)⟩
structure RetR (ρ : Type) where
  to : PySem.W.Frag → Bc → VK → ρ → Prop
  pin : ∀ {K : PySem.W.Frag} {c c' : Bc} {Q : VK} {x : ρ}, Pin c c' → to K c Q x → to K c' Q x
def retI {ρ : Type} (S : Rp ρ) : RetR ρ := ⟨fun K c Q r => ∀ v H', (Bk c H' ∧ S.r K c.W H' v r) → Q v H', fun p q v H' ⟨h1, h2⟩ => q v H' ⟨h1.pin p, by rw [← p.W]; exact h2⟩⟩
def retN {α : Type} (S : Rp α) : RetR (List α) := ⟨fun K c Q r => ∀ v H', (Bk c H' ∧ ∃ l vs, v = .ref l ∧ c.H0 l = none ∧ ¬ c.B l ∧ H' l = some (.lst vs) ∧ Paired (S.r K (fun a => c.W a ∨ a = l) H') vs r) → Q v H',
  by
    rintro K c c' Q x p k v H' ⟨h1, l, vs, e, n, nb, h, q⟩
    exact k v H' ⟨h1.pin p, l, vs, e, p.none nb n, fun z => nb (by rw [p.B]; exact z), h, by rw [← p.W]; exact q⟩⟩
/-- a promise over plain values -/
def spT (K : PySem.W.Frag) {τ ρ : Type} (A : Ar τ) (R : RetR ρ) (w : τ → (ρ → Prop) → Prop) : Sp := fun vs H Q _ => ∃ (W : WS) (x : τ), (∀ a, W a → OwO (H a)) ∧ ArOk K W H (fun p => W p ∧ SrcAt H p) A vs x ∧ w x (fun r => R.to K ⟨H, W, Bof A vs⟩ Q r)
section
variable {E α τ ρ : Type} {ι : Type} {X : ι → Cx} {K : PySem.W.Frag} {L : List (Sl E)} {S : Rp α} {A : Ar τ} {e : Expr} {es : List Expr} {pos p : Pos}
theorem called {R : RetR ρ} {w : τ → (ρ → Prop) → Prop} {c : Bc} {σ : L2.St} {H : Hp} {env : E} {own : Own} {vs : List V} {x : τ} {Q : VK} {E0 : XK} (s : St K c L σ H env own) (ok : ArOk K (Wb c own) H (Sr L own) A vs x) (h : w x (fun r => R.to K ⟨H, Wb c own, Bof A vs⟩ Q r)) : spT K A R w vs H Q E0 :=
  ⟨Wb c own, x, fun a z => s.hasW z, ok.imp Ge.refl fun a z => ⟨z.wb, s.sr z⟩, h⟩
theorem Bk.ex {c : Bc} {σ : L2.St} {H H' : Hp} {env : E} {own : Own} {vs : List V} {x : τ} (s : St K c L σ H env own) (ok : ArOk K (Wb c own) H (Sr L own) A vs x) (h : Bk ⟨H, Wb c own, Bof A vs⟩ H') : Ex L own H H' := by
  have sub : ∀ a, Bof A vs a → Sr L own a := fun a ⟨i, h1, h2⟩ => by
    obtain ⟨p, h3, h4⟩ := ok.at h1
    rw [h2] at h3
    cases h3
    exact h4
  refine ⟨fun a o n e => h.1 a o (fun z => n (sub a z)) e, fun a z => ?_⟩
  by_cases hb : Bof A vs a
  · exact h.2 a hb
  · obtain ⟨x, y, e, q⟩ := s.sr z
    exact ⟨x, y, h.1 a _ hb e, q⟩
theorem tx_call {k : Nat} {f : Str} {w : τ → (α → Prop) → Prop} {wa : E → (τ → Prop) → Prop} (cl : ∀ i, Ca (X i).prog (X i).w (X i).K (X i).mg (X i).base CX0 k f (spT K A (retI S) w)) (mw : ∀ x k k', (∀ y, k y → k' y) → w x k → w x k') (hr : ∀ i, Room k (X i).A) (hg : ∀ i, Gl (X i) f) (ha : TA X K L A (e :: es) wa)
    (hdb : (f == ("__debug__" : Str)) = false := by decide) (he : ∀ i, starEach (e :: es) (X i).env = (false, eval e (X i).env) :: starEach es (X i).env := by intro _; rfl) (hpl : ∀ i, (backTo pos (starEach es (X i).env)).any (·.1) = false := by intro _; rfl) : TX X K L S (.Call (.Name f p) (e :: es) [] pos) (fun env k => wa env fun x => w x k) := by
  obtain ⟨t, pt, ft⟩ := ha.ex
  refine ⟨fun e k k' h hw => ha.mono _ _ _ (fun x hx => mw _ _ _ h hx) hw, _, fun i => pe_ca (E := fun _ _ _ => False) (cl i) (hr i) (hg i) pass0 (pt i) hdb (he i) (hpl i), fun c σ H env own Q s hw => ?_⟩
  refine ft c σ H env own _ s (ha.mono _ _ _ (fun x hx vs H1 x1 ok => ?_) hw)
  rw [List.append_nil]
  have s1 := s.ex x1
  refine called s1 ok (mw _ _ _ (fun y hy => ?_) hx)
  intro v H' r
  exact hy v H' (x1.trans (Bk.ex s1 ok r.1)) r.2
theorem tn_call {k : Nat} {f : Str} {w : τ → (List α → Prop) → Prop} {wa : E → (τ → Prop) → Prop} (cl : ∀ i, Ca (X i).prog (X i).w (X i).K (X i).mg (X i).base CX0 k f (spT K A (retN S) w)) (mw : ∀ x k k', (∀ y, k y → k' y) → w x k → w x k') (hr : ∀ i, Room k (X i).A) (hg : ∀ i, Gl (X i) f) (ha : TA X K L A (e :: es) wa)
    (hdb : (f == ("__debug__" : Str)) = false := by decide) (he : ∀ i, starEach (e :: es) (X i).env = (false, eval e (X i).env) :: starEach es (X i).env := by intro _; rfl) (hpl : ∀ i, (backTo pos (starEach es (X i).env)).any (·.1) = false := by intro _; rfl) : TN X K L S (.Call (.Name f p) (e :: es) [] pos) (fun env k => wa env fun x => w x k) := by
  obtain ⟨t, pt, ft⟩ := ha.ex
  refine ⟨fun e k k' h hw => ha.mono _ _ _ (fun x hx => mw _ _ _ h hx) hw, _, fun i => pe_ca (E := fun _ _ _ => False) (cl i) (hr i) (hg i) pass0 (pt i) hdb (he i) (hpl i), fun c σ H env own Q s hw => ?_⟩
  refine ft c σ H env own _ s (ha.mono _ _ _ (fun x hx vs H1 x1 ok => ?_) hw)
  rw [List.append_nil]
  have s1 := s.ex x1
  refine called s1 ok (mw _ _ _ (fun y hy => ?_) hx)
  intro v H' r
  obtain ⟨b, l, us, rfl, n, _, e, p⟩ := r
  exact hy l us H' (Ex.none s x1 n) (x1.trans (Bk.ex s1 ok b)) e p
end
/-! ### statements -/
structure Kn (E ρ : Type) where
  nx : E → Prop
  rt : ρ → Prop
def MonoS {E ρ : Type} (w : E → Kn E ρ → Prop) : Prop := ∀ e (k k' : Kn E ρ), (∀ x, k.nx x → k'.nx x) → (∀ x, k.rt x → k'.rt x) → w e k → w e k'
def kon {E ρ : Type} (K : PySem.W.Frag) (R : RetR ρ) (L' : List (Sl E)) (c : Bc) (D : Ends) : Kn E ρ := ⟨fun e' => ∀ σ' H' own', St K c L' σ' H' e' own' → D.nx σ' H', fun r => R.to K c D.rt r⟩
structure TS1 {E ρ : Type} {ι : Type} (X : ι → Cx) (K : PySem.W.Frag) (R : RetR ρ) (L L' : List (Sl E)) (s : Stmt) (w : E → Kn E ρ → Prop) : Prop where
  mono : MonoS w
  ex : ∃ t, (∀ i, PS (X i) s t) ∧ ∀ (c : Bc) (σ : L2.St) (H : Hp) (env : E) (own : Own) (D : Ends), St K c L σ H env own → w env (kon K R L' c D) → t D σ H
structure TS {E ρ : Type} {ι : Type} (X : ι → Cx) (K : PySem.W.Frag) (R : RetR ρ) (L L' : List (Sl E)) (ss : List Stmt) (w : E → Kn E ρ → Prop) : Prop where
  mono : MonoS w
  ex : ∃ t, (∀ i, PSs (X i) ss t) ∧ ∀ (c : Bc) (σ : L2.St) (H : Hp) (env : E) (own : Own) (D : Ends), St K c L σ H env own → w env (kon K R L' c D) → t D σ H
def nsr {E : Type} : Sl E → Bool
  | .sr => false
  | _ => true
/-- from the end of one def's body to another layout -/
inductive Sub {E E' : Type} (f : E → E') : List (Sl E) → List (Sl E') → Prop where
  | nil : Sub f [] []
  | any {s : Sl E} {L : List (Sl E)} {L' : List (Sl E')} : nsr s = true → Sub f L L' → Sub f (s :: L) (.any :: L')
  | im {α : Type} {S : Rp α} {g : E → α} {g' : E' → α} {L : List (Sl E)} {L' : List (Sl E')} : (∀ e, g' (f e) = g e) → Sub f L L' → Sub f (.im S g :: L) (.im S g' :: L')
  | ow {α : Type} {S : Rp α} {g : E → List α} {g' : E' → List α} {L : List (Sl E)} {L' : List (Sl E')} : (∀ e, g' (f e) = g e) → Sub f L L' → Sub f (.ow S g :: L) (.ow S g' :: L')
  | fr {α : Type} {S : Rp α} {g : E → List α} {g' : E' → List α} {L : List (Sl E)} {L' : List (Sl E')} : (∀ e, g' (f e) = g e) → Sub f L L' → Sub f (.ow S g :: L) (.im (lstR S) g' :: L')
  | ox {β : Type} {R : Ro β} {g : E → β} {g' : E' → β} {L : List (Sl E)} {L' : List (Sl E')} : (∀ e, g' (f e) = g e) → Sub f L L' → Sub f (.ox R g :: L) (.ox R g' :: L')
  | sr {L : List (Sl E)} {L' : List (Sl E')} : Sub f L L' → Sub f (.sr :: L) (.sr :: L')
  | fx {β γ : Type} {R : Ro β} {S : Rp γ} {g : E → β} {g' : E' → γ} {L : List (Sl E)} {L' : List (Sl E')} (q : β → γ) : (∀ e, g' (f e) = q (g e)) → (∀ {K : PySem.W.Frag} {W : WS} {H : Hp} {a : Addr} {o : HO} {x : β}, R.r K W H a o x → ¬ W a → H a = some o → S.r K W H (R.vl x a) (q x)) → Sub f L L' → Sub f (.ox R g :: L) (.im S g' :: L')
theorem Sub.at {E E' : Type} {f : E → E'} : ∀ {L : List (Sl E)} {L' : List (Sl E')} {i : Nat}, Sub f L L' → (L[i]? = none ∧ L'[i]? = none) ∨ ∃ s s', L[i]? = some s ∧ L'[i]? = some s' ∧ Sub f [s] [s']
  | _, _, i, .nil => .inl ⟨by simp, by simp⟩
  | _, _, 0, .any n h => .inr ⟨_, _, rfl, rfl, .any n .nil⟩
  | _, _, 0, .im n h => .inr ⟨_, _, rfl, rfl, .im n .nil⟩
  | _, _, 0, .ow n h => .inr ⟨_, _, rfl, rfl, .ow n .nil⟩
  | _, _, 0, .fr n h => .inr ⟨_, _, rfl, rfl, .fr n .nil⟩
  | _, _, 0, .ox n h => .inr ⟨_, _, rfl, rfl, .ox n .nil⟩
  | _, _, 0, .sr h => .inr ⟨_, _, rfl, rfl, .sr .nil⟩
  | _, _, 0, .fx q n r h => .inr ⟨_, _, rfl, rfl, .fx q n r .nil⟩
  | _, _, i + 1, .any n h => h.at (i := i)
  | _, _, i + 1, .im n h => h.at (i := i)
  | _, _, i + 1, .ow n h => h.at (i := i)
  | _, _, i + 1, .fr n h => h.at (i := i)
  | _, _, i + 1, .ox n h => h.at (i := i)
  | _, _, i + 1, .sr h => h.at (i := i)
  | _, _, i + 1, .fx q n r h => h.at (i := i)
theorem Sub.len {E E' : Type} {f : E → E'} {L : List (Sl E)} {L' : List (Sl E')} (h : Sub f L L') : L.length = L'.length := by
  induction h with
  | nil => rfl
  | any _ _ ih => simp [ih]
  | im _ _ ih => simp [ih]
  | ow _ _ ih => simp [ih]
  | fr _ _ ih => simp [ih]
  | ox _ _ ih => simp [ih]
  | sr _ ih => simp [ih]
  | fx _ _ _ _ ih => simp [ih]
/-- which slots own behind it -/
def keepO {E' : Type} : Option (Sl E') → Option Addr → Option Addr
  | some (.ow _ _), a => a
  | some (.ox _ _), a => a
  | some .sr, a => a
  | _, _ => none
theorem keepO_some {E' : Type} {s : Option (Sl E')} {o : Option Addr} {a : Addr} (h : keepO s o = some a) : o = some a := by
  unfold keepO at h
  split at h
  · exact h
  · exact h
  · exact h
  · cases h
section
variable {E E' : Type} {K : PySem.W.Frag} {c : Bc} {L : List (Sl E)} {L' : List (Sl E')} {σ : L2.St} {H : Hp} {e : E} {own : Own} {f : E → E'}
theorem St.sub (s : St K c L σ H e own) (h : Sub f L L') : St K c L' σ H (f e) (fun i => keepO L'[i]? (own i)) := by
  have less : ∀ a, Wb c (fun i => keepO L'[i]? (own i)) a → Wb c own a := fun a z => z.imp id fun ⟨i, q⟩ => ⟨i, keepO_some q⟩
  refine ⟨s.len.trans h.len, s.stay, s.dom, s.bw, fun a hb => ?_, fun i j a h1 h2 => s.inj i j a (keepO_some h1) (keepO_some h2), fun i hi => ?_, fun i sl hL => ?_⟩
  · obtain ⟨i, h1, h2⟩ := s.bs a hb
    rcases h.at (i := i) with ⟨z, _⟩ | ⟨s1, s2, z1, z2, z3⟩
    · rw [h1] at z
      cases z
    · rw [h1] at z1
      cases z1
      cases z3 with
      | any n _ => cases n
      | sr _ => exact ⟨i, z2, by show keepO L'[i]? (own i) = _; rw [z2]; exact h2⟩
  · rw [hi]
    rfl
  · rcases h.at (i := i) with ⟨_, z⟩ | ⟨s1, s2, z1, z2, z3⟩
    · rw [hL] at z
      cases z
    · rw [hL] at z2
      cases z2
      have q := s.slot i s1 z1
      show SlOk K c _ H (f e) sl σ[i]? (keepO L'[i]? (own i))
      rw [hL]
      cases z3 with
      | any n _ => exact rfl
      | im n _ =>
        obtain ⟨h1, v, h2, h3⟩ := q
        exact ⟨rfl, v, h2, by rw [n]; exact Rp.mono _ (Ge.less less) h3⟩
      | ow n _ =>
        obtain ⟨a, vs, h1, h2, h3, h4, h5⟩ := q
        exact ⟨a, vs, h1, h2, h3, h4, by rw [n]; exact Rp.pmono _ (Ge.less less) h5⟩
      | ox n _ =>
        obtain ⟨a, o, h1, h2, h3, h4, h5⟩ := q
        exact ⟨a, o, h1, by rw [n]; exact h2, h3, h4, by rw [n]; exact Ro.mono _ (Ge.less less) h5⟩
      | fr n _ =>
        obtain ⟨a, vs, h1, h2, h3, h4, h5⟩ := q
        refine ⟨rfl, .ref a, h2, a, vs, rfl, ?_, h4, by rw [n]; exact Rp.pmono _ (Ge.less less) h5⟩
        rintro (z | ⟨j, z⟩)
        · exact h3.2 z
        · have := s.inj i j a h1 (keepO_some z)
          subst this
          have z2 : keepO L'[i]? (own i) = some a := z
          rw [hL] at z2
          cases z2
      | fx qq n r _ =>
        obtain ⟨a, o, h1, h2, h3, h4, h5⟩ := q
        refine ⟨rfl, _, h2, ?_⟩
        rw [n]
        refine r (Ro.mono _ (Ge.less less) h5) ?_ h4
        rintro (z | ⟨j, z⟩)
        · exact h3.2 z
        · have := s.inj i j a h1 (keepO_some z)
          subst this
          have z2 : keepO L'[i]? (own i) = some a := z
          rw [hL] at z2
          cases z2
      | sr _ => exact q
theorem Ex.sub {own : Own} {H' : Hp} (h : Sub f L L') (x : Ex L' (fun i => keepO L'[i]? (own i)) H H') : Ex L own H H' := by
  have e : ∀ a, Sr L own a ↔ Sr L' (fun i => keepO L'[i]? (own i)) a := fun a => by
    constructor
    · rintro ⟨i, h1, h2⟩
      rcases h.at (i := i) with ⟨z, _⟩ | ⟨s1, s2, z1, z2, z3⟩
      · rw [h1] at z
        cases z
      · rw [h1] at z1
        cases z1
        cases z3 with
        | any n _ => cases n
        | sr _ => exact ⟨i, z2, by show keepO L'[i]? (own i) = _; rw [z2]; exact h2⟩
    · rintro ⟨i, h1, h2⟩
      rcases h.at (i := i) with ⟨_, z⟩ | ⟨s1, s2, z1, z2, z3⟩
      · rw [h1] at z
        cases z
      · rw [h1] at z2
        cases z2
        cases z3 with
        | sr _ => exact ⟨i, z1, keepO_some h2⟩
  exact ⟨fun a o n q => x.st a o (fun z => n ((e a).mpr z)) q, fun a z => x.sr a ((e a).mp z)⟩
end
theorem tt_view {E : Type} {ι : Type} {X : ι → Cx} {K : PySem.W.Frag} {L L2 : List (Sl E)} {e : Expr} {w : E → (Bool → Prop) → Prop} (h : Sub id L L2) (ht : TT X K L2 e w) : TT X K L e w := by
  obtain ⟨t, p, f⟩ := ht.ex
  exact ⟨ht.mono, t, p, fun c σ H env own Q s hw => f c σ H env _ Q (s.sub h) (ht.mono _ _ _ (fun x k H' x' => k H' (Ex.sub h x')) hw)⟩
theorem tn_view {E α : Type} {ι : Type} {X : ι → Cx} {K : PySem.W.Frag} {L L2 : List (Sl E)} {S : Rp α} {e : Expr} {w : E → (List α → Prop) → Prop} (hf : Flat S) (h : Sub id L L2) (ht : TN X K L2 S e w) : TN X K L S e w := by
  obtain ⟨t, p, f⟩ := ht.ex
  exact ⟨ht.mono, t, p, fun c σ H env own Q s hw => f c σ H env _ Q (s.sub h) (ht.mono _ _ _ (fun x k l vs H' n x' e r => k l vs H' n (Ex.sub h x') e (hf.p r)) hw)⟩
end Tx
/-! statements, loops, comprehensions, a def's body -/
namespace Tx
open PySem PySem.Spec PyProof.Rows L2 Gx
def Sl.fst {E α : Type} : Sl E → Sl (E × α)
  | .any => .any
  | .im S g => .im S fun e => g e.1
  | .ow S g => .ow S fun e => g e.1
  | .ox R g => .ox R fun e => g e.1
  | .sr => .sr
theorem Sl.fst_sr {E α : Type} {s : Sl E} : (s.fst : Sl (E × α)) = .sr ↔ s = .sr := by cases s <;> simp [Sl.fst]
def lift {E : Type} (α : Type) (L : List (Sl E)) : List (Sl (E × α)) := L.map Sl.fst
def putO (own : Own) (i : Nat) (o : Option Addr) : Own := fun j => if j = i then o else own j
theorem putO_self {own : Own} {i : Nat} {o : Option Addr} : putO own i o i = o := if_pos rfl
theorem putO_ne {own : Own} {i j : Nat} {o : Option Addr} (h : j ≠ i) : putO own i o j = own j := if_neg h
section
variable {E α ρ : Type} {K : PySem.W.Frag} {c c' : Bc} {L : List (Sl E)} {σ : L2.St} {H H' : Hp} {e : E} {own : Own}
theorem lift_at {i : Nat} {s' : Sl (E × α)} (h : (lift α L)[i]? = some s') : ∃ s, L[i]? = some s ∧ s' = s.fst := by
  unfold lift at h
  rw [List.getElem?_map] at h
  obtain ⟨s, h1, h2⟩ := Option.map_eq_some_iff.mp h
  exact ⟨s, h1, h2.symm⟩
theorem lift_of {i : Nat} {s : Sl E} (h : L[i]? = some s) : (lift α L)[i]? = some s.fst := by
  unfold lift
  rw [List.getElem?_map, h]
  rfl
theorem Sr.lift {a : Addr} : Sr (Tx.lift α L) own a ↔ Sr L own a := by
  constructor
  · rintro ⟨i, h1, h2⟩
    obtain ⟨s, h3, h4⟩ := lift_at h1
    exact ⟨i, by rw [h3, Sl.fst_sr.mp h4.symm], h2⟩
  · rintro ⟨i, h1, h2⟩
    exact ⟨i, lift_of h1, h2⟩
theorem St.lift (s : St K c L σ H e own) (x : α) : St K c (lift α L) σ H (e, x) own := by
  refine ⟨by rw [s.len]; simp [Tx.lift], s.stay, s.dom, s.bw, fun a h => ?_, s.inj, fun i h => s.out i ?_, fun i sl h => ?_⟩
  · obtain ⟨i, h1, h2⟩ := s.bs a h
    exact ⟨i, lift_of h1, h2⟩
  · unfold Tx.lift at h
    rw [List.getElem?_map] at h
    simpa using h
  · obtain ⟨s0, h1, rfl⟩ := lift_at h
    have q := s.slot i s0 h1
    cases s0 <;> exact q
/-- a name is bound to a value that stays -/
theorem St.setI (s : St K c L σ H e own) {i : Nat} (hi : ∃ s0, L[i]? = some s0 ∧ s0 ≠ .sr) (S : Rp α) (g : E → α) {v : V} (r : S.r K (Wb c own) H v (g e)) : St K c (L.set i (.im S g)) (σ.set i (some v)) H e (putO own i none) := by
  obtain ⟨s0, hi0, ns⟩ := hi
  have il : i < L.length := (List.getElem?_eq_some_iff.mp hi0).1
  have less : ∀ a, Wb c (putO own i none) a → Wb c own a := fun a z => z.imp id fun ⟨j, q⟩ => by
    by_cases h : j = i
    · subst h
      rw [putO_self] at q
      cases q
    · rw [putO_ne h] at q
      exact ⟨j, q⟩
  have old : ∀ j a, putO own i none j = some a → j ≠ i ∧ own j = some a := fun j a q => by
    by_cases h : j = i
    · subst h
      rw [putO_self] at q
      cases q
    · rw [putO_ne h] at q
      exact ⟨h, q⟩
  refine ⟨by simp [s.len], s.stay, s.dom, s.bw, fun a hb => ?_, fun j k a h1 h2 => s.inj j k a (old j a h1).2 (old k a h2).2, fun j hj => ?_, fun j sl hL => ?_⟩
  · obtain ⟨j, h1, h2⟩ := s.bs a hb
    have ne : j ≠ i := fun z => by
      subst z
      rw [hi0] at h1
      exact ns (Option.some.inj h1)
    exact ⟨j, by rw [List.getElem?_set_ne (Ne.symm ne)]; exact h1, by rw [putO_ne ne]; exact h2⟩
  · have ne : j ≠ i := fun z => by
      subst z
      rw [List.getElem?_eq_none_iff, List.length_set] at hj
      omega
    rw [putO_ne ne]
    refine s.out j ?_
    rwa [List.getElem?_set_ne (Ne.symm ne)] at hj
  · by_cases h : j = i
    · subst h
      rw [List.getElem?_set_self il] at hL
      cases hL
      exact ⟨putO_self, v, by rw [List.getElem?_set_self (by rw [s.len]; exact il)], S.mono (Ge.less less) r⟩
    · rw [List.getElem?_set_ne (Ne.symm h)] at hL
      have q := s.slot j sl hL
      rw [List.getElem?_set_ne (Ne.symm h), putO_ne h]
      cases sl with
      | any => exact q
      | im S' g' =>
        obtain ⟨h1, v', h2, h3⟩ := q
        exact ⟨h1, v', h2, S'.mono (Ge.less less) h3⟩
      | ow S' g' =>
        obtain ⟨a, vs, h1, h2, h3, h4, h5⟩ := q
        exact ⟨a, vs, h1, h2, h3, h4, S'.pmono (Ge.less less) h5⟩
      | ox R' g' =>
        obtain ⟨a, o, h1, h2, h3, h4, h5⟩ := q
        exact ⟨a, o, h1, h2, h3, h4, R'.mono (Ge.less less) h5⟩
      | sr => exact q
theorem St.fresh0 (s : St K c L σ H e own) {l : Addr} (h : H l = none) : c.H0 l = none ∧ ¬ c.B l := by
  have nb : ¬ c.B l := fun z => by
    obtain ⟨i, h1, h2⟩ := s.bs l z
    obtain ⟨o, ho⟩ := (s.has h2).some
    rw [h] at ho
    cases ho
  refine ⟨?_, nb⟩
  rcases q : c.H0 l with _ | o
  · rfl
  · rw [s.stay l o nb q] at h
    cases h
/-- a name is bound to a new list -/
theorem St.setO (s : St K c L σ H e own) (x : Ex L own H H') {i : Nat} (hi : ∃ s0, L[i]? = some s0 ∧ s0 ≠ .sr) (S : Rp α) (g : E → List α) {l : Addr} {vs : List V} (n : H l = none) (hl : H' l = some (.lst vs)) (r : Paired (S.r K (fun a => Wb c own a ∨ a = l) H') vs (g e)) :
    St K c (L.set i (.ow S g)) (σ.set i (some (.ref l))) H' e (putO own i (some l)) := by
  obtain ⟨s0, hi0, ns⟩ := hi
  have il : i < L.length := (List.getElem?_eq_some_iff.mp hi0).1
  have s' := s.ex x
  have nl : ∀ j, own j ≠ some l := fun j q => by
    obtain ⟨o, ho⟩ := (s.has q).some
    rw [n] at ho
    cases ho
  have less : ∀ a, Wb c (putO own i (some l)) a → Wb c own a ∨ a = l := fun a z => by
    rcases z with z | ⟨j, q⟩
    · exact .inl (.inl z)
    · by_cases h : j = i
      · subst h
        rw [putO_self] at q
        exact .inr (Option.some.inj q).symm
      · rw [putO_ne h] at q
        exact .inl (.inr ⟨j, q⟩)
  have ge : Ge (Wb c own) H (Wb c (putO own i (some l))) H' := fun a o na ha => by
    refine ⟨fun z => ?_, (x.ge (c := c) a o na ha).2⟩
    rcases less a z with z | z
    · exact na z
    · rw [z, n] at ha
      cases ha
  refine ⟨by simp [s.len], s'.stay, s'.dom, s.bw, fun a hb => ?_, fun j k a h1 h2 => ?_, fun j hj => ?_, fun j sl hL => ?_⟩
  · obtain ⟨j, h1, h2⟩ := s.bs a hb
    have ne : j ≠ i := fun z => by
      subst z
      rw [hi0] at h1
      exact ns (Option.some.inj h1)
    exact ⟨j, by rw [List.getElem?_set_ne (Ne.symm ne)]; exact h1, by rw [putO_ne ne]; exact h2⟩
  · by_cases hj : j = i
    · by_cases hk : k = i
      · rw [hj, hk]
      · subst hj
        rw [putO_self] at h1
        rw [putO_ne hk] at h2
        cases h1
        exact absurd h2 (nl k)
    · by_cases hk : k = i
      · subst hk
        rw [putO_self] at h2
        rw [putO_ne hj] at h1
        cases h2
        exact absurd h1 (nl j)
      · rw [putO_ne hj] at h1
        rw [putO_ne hk] at h2
        exact s.inj j k a h1 h2
  · have ne : j ≠ i := fun z => by
      subst z
      rw [List.getElem?_eq_none_iff, List.length_set] at hj
      omega
    rw [putO_ne ne]
    refine s.out j ?_
    rwa [List.getElem?_set_ne (Ne.symm ne)] at hj
  · by_cases h : j = i
    · subst h
      rw [List.getElem?_set_self il] at hL
      cases hL
      exact ⟨l, vs, putO_self, by rw [List.getElem?_set_self (by rw [s.len]; exact il)], ⟨(s.fresh0 n).1, fun z => s.fresh n (.inl z)⟩, hl, S.pmono (Ge.less less) r⟩
    · rw [List.getElem?_set_ne (Ne.symm h)] at hL
      have q := s.slot j sl hL
      have q' := s'.slot j sl hL
      rw [List.getElem?_set_ne (Ne.symm h), putO_ne h]
      cases sl with
      | any => exact q
      | im S' g' =>
        obtain ⟨h1, v', h2, h3⟩ := q
        exact ⟨h1, v', h2, S'.mono ge h3⟩
      | ow S' g' =>
        obtain ⟨a, us, h1, h2, h3, h4, h5⟩ := q
        obtain ⟨a', us', h1', _, _, h4', _⟩ := q'
        rw [h1] at h1'
        cases h1'
        refine ⟨a, us, h1, h2, h3, ?_, S'.pmono ge h5⟩
        refine x.st _ _ (fun ⟨k, hk, ok⟩ => ?_) h4
        have := s.inj j k a h1 ok
        subst this
        rw [hL] at hk
        cases hk
      | ox R' g' =>
        obtain ⟨a, o, h1, h2, h3, h4, h5⟩ := q
        obtain ⟨a', o', h1', _, _, h4', _⟩ := q'
        rw [h1] at h1'
        cases h1'
        refine ⟨a, o, h1, h2, h3, ?_, R'.mono ge h5⟩
        refine x.st _ _ (fun ⟨k, hk, ok⟩ => ?_) h4
        have := s.inj j k a h1 ok
        subst this
        rw [hL] at hk
        cases hk
      | sr => exact q'
/-- a name is bound to a new object of one's own kind -/
theorem St.setXv (s : St K c L σ H e own) (x : Ex L own H H') {i : Nat} (hi : ∃ s0, L[i]? = some s0 ∧ s0 ≠ .sr) {β : Type} (R : Ro β) (g : E → β) {l : Addr} {o : HO} (n : H l = none) (hl : H' l = some o) (r : R.r K (fun a => Wb c own a ∨ a = l) H' l o (g e)) {v : V} (hv : v = R.vl (g e) l) :
    St K c (L.set i (.ox R g)) (σ.set i (some v)) H' e (putO own i (some l)) := by
  obtain ⟨s0, hi0, ns⟩ := hi
  have il : i < L.length := (List.getElem?_eq_some_iff.mp hi0).1
  have s' := s.ex x
  have nl : ∀ j, own j ≠ some l := fun j q => by
    obtain ⟨u, ho⟩ := (s.has q).some
    rw [n] at ho
    cases ho
  have less : ∀ a, Wb c (putO own i (some l)) a → Wb c own a ∨ a = l := fun a z => by
    rcases z with z | ⟨j, q⟩
    · exact .inl (.inl z)
    · by_cases h : j = i
      · subst h
        rw [putO_self] at q
        exact .inr (Option.some.inj q).symm
      · rw [putO_ne h] at q
        exact .inl (.inr ⟨j, q⟩)
  have ge : Ge (Wb c own) H (Wb c (putO own i (some l))) H' := fun a o na ha => by
    refine ⟨fun z => ?_, (x.ge (c := c) a o na ha).2⟩
    rcases less a z with z | z
    · exact na z
    · rw [z, n] at ha
      cases ha
  refine ⟨by simp [s.len], s'.stay, s'.dom, s.bw, fun a hb => ?_, fun j k a h1 h2 => ?_, fun j hj => ?_, fun j sl hL => ?_⟩
  · obtain ⟨j, h1, h2⟩ := s.bs a hb
    have ne : j ≠ i := fun z => by
      subst z
      rw [hi0] at h1
      exact ns (Option.some.inj h1)
    exact ⟨j, by rw [List.getElem?_set_ne (Ne.symm ne)]; exact h1, by rw [putO_ne ne]; exact h2⟩
  · by_cases hj : j = i
    · by_cases hk : k = i
      · rw [hj, hk]
      · subst hj
        rw [putO_self] at h1
        rw [putO_ne hk] at h2
        cases h1
        exact absurd h2 (nl k)
    · by_cases hk : k = i
      · subst hk
        rw [putO_self] at h2
        rw [putO_ne hj] at h1
        cases h2
        exact absurd h1 (nl j)
      · rw [putO_ne hj] at h1
        rw [putO_ne hk] at h2
        exact s.inj j k a h1 h2
  · have ne : j ≠ i := fun z => by
      subst z
      rw [List.getElem?_eq_none_iff, List.length_set] at hj
      omega
    rw [putO_ne ne]
    refine s.out j ?_
    rwa [List.getElem?_set_ne (Ne.symm ne)] at hj
  · by_cases h : j = i
    · subst h
      rw [List.getElem?_set_self il] at hL
      cases hL
      exact ⟨l, o, putO_self, by rw [List.getElem?_set_self (by rw [s.len]; exact il), hv], ⟨(s.fresh0 n).1, fun z => s.fresh n (.inl z)⟩, hl, R.mono (Ge.less less) r⟩
    · rw [List.getElem?_set_ne (Ne.symm h)] at hL
      have q := s.slot j sl hL
      have q' := s'.slot j sl hL
      rw [List.getElem?_set_ne (Ne.symm h), putO_ne h]
      cases sl with
      | any => exact q
      | im S' g' =>
        obtain ⟨h1, v', h2, h3⟩ := q
        exact ⟨h1, v', h2, S'.mono ge h3⟩
      | ow S' g' =>
        obtain ⟨a, us, h1, h2, h3, h4, h5⟩ := q
        obtain ⟨a', us', h1', _, _, h4', _⟩ := q'
        rw [h1] at h1'
        cases h1'
        refine ⟨a, us, h1, h2, h3, ?_, S'.pmono ge h5⟩
        refine x.st _ _ (fun ⟨k, hk, ok⟩ => ?_) h4
        have := s.inj j k a h1 ok
        subst this
        rw [hL] at hk
        cases hk
      | ox R' g' =>
        obtain ⟨a, o, h1, h2, h3, h4, h5⟩ := q
        obtain ⟨a', o', h1', _, _, h4', _⟩ := q'
        rw [h1] at h1'
        cases h1'
        refine ⟨a, o, h1, h2, h3, ?_, R'.mono ge h5⟩
        refine x.st _ _ (fun ⟨k, hk, ok⟩ => ?_) h4
        have := s.inj j k a h1 ok
        subst this
        rw [hL] at hk
        cases hk
      | sr => exact q'
theorem St.setX (s : St K c L σ H e own) (x : Ex L own H H') {i : Nat} (hi : ∃ s0, L[i]? = some s0 ∧ s0 ≠ .sr) {β : Type} (R : Ro β) (g : E → β) {l : Addr} {o : HO} (n : H l = none) (hl : H' l = some o) (r : R.r K (fun a => Wb c own a ∨ a = l) H' l o (g e)) (hv : V.ref l = R.vl (g e) l := by rfl) :
    St K c (L.set i (.ox R g)) (σ.set i (some (.ref l))) H' e (putO own i (some l)) := s.setXv x hi R g n hl r hv
/-- an own list is written -/
theorem St.putL (s : St K c L σ H e own) {i : Nat} {S : Rp α} {g : E → List α} (hL : L[i]? = some (.ow S g)) {a : Addr} (ho : own i = some a) {vs : List V} {xs : List α} (r : Paired (S.r K (Wb c own) H) vs xs) :
    St K c ((Tx.lift (List α) L).set i (.ow S Prod.snd)) σ (upd H a (.lst vs)) (e, xs) own := by
  have sl := s.lift xs
  have il : i < (Tx.lift (List α) L).length := by simp [Tx.lift]; exact (List.getElem?_eq_some_iff.mp hL).1
  obtain ⟨a0, us, h1, h2, h3, h4, h5⟩ := s.slot i _ hL
  rw [ho] at h1
  cases h1
  have wa : Wb c own a := .inr ⟨i, ho⟩
  have ge : Ge (Wb c own) H (Wb c own) (upd H a (.lst vs)) := fun b o nb hb => ⟨nb, by rw [upd_ne (fun z => nb (by rw [z]; exact wa))]; exact hb⟩
  refine ⟨by simp [sl.len], fun b o nb hb => ?_, fun b hb => ?_, s.bw, fun b hb => ?_, s.inj, fun j hj => sl.out j ?_, fun j sl' hj => ?_⟩
  · rw [upd_ne (fun z => by rw [z, h3.1] at hb; cases hb)]
    exact s.stay b o nb hb
  · by_cases z : b = a
    · exact .lst (by rw [z]; exact upd_same)
    · rw [upd_ne z]
      exact s.dom b hb
  · obtain ⟨j, q1, q2⟩ := sl.bs b hb
    have ne : j ≠ i := fun z => by
      subst z
      obtain ⟨s0, q3, q4⟩ := lift_at q1
      rw [hL] at q3
      cases q3
      cases q4
    exact ⟨j, by rw [List.getElem?_set_ne (Ne.symm ne)]; exact q1, q2⟩
  · have ne : j ≠ i := fun z => by
      subst z
      rw [List.getElem?_eq_none_iff, List.length_set] at hj
      omega
    rwa [List.getElem?_set_ne (Ne.symm ne)] at hj
  · by_cases h : j = i
    · subst h
      rw [List.getElem?_set_self il] at hj
      cases hj
      exact ⟨a, vs, ho, h2, h3, upd_same, S.pmono ge r⟩
    · rw [List.getElem?_set_ne (Ne.symm h)] at hj
      have q := sl.slot j sl' hj
      cases sl' with
      | any => exact q
      | im S' g' =>
        obtain ⟨q1, v', q2, q3⟩ := q
        exact ⟨q1, v', q2, S'.mono ge q3⟩
      | ow S' g' =>
        obtain ⟨b, ws, q1, q2, q3, q4, q5⟩ := q
        exact ⟨b, ws, q1, q2, q3, by rw [upd_ne (fun z => h (s.inj j i a (by rw [← z]; exact q1) ho))]; exact q4, S'.pmono ge q5⟩
      | ox R' g' =>
        obtain ⟨b, ws, q1, q2, q3, q4, q5⟩ := q
        exact ⟨b, ws, q1, q2, q3, by rw [upd_ne (fun z => h (s.inj j i a (by rw [← z]; exact q1) ho))]; exact q4, R'.mono ge q5⟩
      | sr =>
        obtain ⟨p, q1, q2, q3, x, y, q4, q5⟩ := q
        exact ⟨p, q1, q2, q3, x, y, by rw [upd_ne (fun z => h (s.inj j i a (by rw [← z]; exact q1) ho))]; exact q4, q5⟩
/-- an own object of another kind is written -/
theorem St.putXv (s : St K c L σ H e own) {i : Nat} {β : Type} {R : Ro β} {g : E → β} (hL : L[i]? = some (.ox R g)) {a : Addr} (ho : own i = some a) {o : HO} {x : β} (r : R.r K (Wb c own) H a o x) (hv : R.vl x a = R.vl (g e) a) :
    St K c ((Tx.lift β L).set i (.ox R Prod.snd)) σ (upd H a o) (e, x) own := by
  have sl := s.lift x
  have il : i < (Tx.lift β L).length := by simp [Tx.lift]; exact (List.getElem?_eq_some_iff.mp hL).1
  obtain ⟨a0, us, h1, h2, h3, h4, h5⟩ := s.slot i _ hL
  rw [ho] at h1
  cases h1
  have wa : Wb c own a := .inr ⟨i, ho⟩
  have ge : Ge (Wb c own) H (Wb c own) (upd H a o) := fun b u nb hb => ⟨nb, by rw [upd_ne (fun z => nb (by rw [z]; exact wa))]; exact hb⟩
  refine ⟨by simp [sl.len], fun b u nb hb => ?_, fun b hb => ?_, s.bw, fun b hb => ?_, s.inj, fun j hj => sl.out j ?_, fun j sl' hj => ?_⟩
  · rw [upd_ne (fun z => by rw [z, h3.1] at hb; cases hb)]
    exact s.stay b u nb hb
  · by_cases z : b = a
    · exact z ▸ (show OwO (upd H b o b) from by rw [upd_same]; exact R.ow r)
    · rw [upd_ne z]
      exact s.dom b hb
  · obtain ⟨j, q1, q2⟩ := sl.bs b hb
    have ne : j ≠ i := fun z => by
      subst z
      obtain ⟨s0, q3, q4⟩ := lift_at q1
      rw [hL] at q3
      cases q3
      cases q4
    exact ⟨j, by rw [List.getElem?_set_ne (Ne.symm ne)]; exact q1, q2⟩
  · have ne : j ≠ i := fun z => by
      subst z
      rw [List.getElem?_eq_none_iff, List.length_set] at hj
      omega
    rwa [List.getElem?_set_ne (Ne.symm ne)] at hj
  · by_cases h : j = i
    · subst h
      rw [List.getElem?_set_self il] at hj
      cases hj
      exact ⟨a, o, ho, by rw [h2]; exact congrArg (fun z => some (some z)) hv.symm, h3, upd_same, R.mono ge r⟩
    · rw [List.getElem?_set_ne (Ne.symm h)] at hj
      have q := sl.slot j sl' hj
      cases sl' with
      | any => exact q
      | im S' g' =>
        obtain ⟨q1, v', q2, q3⟩ := q
        exact ⟨q1, v', q2, S'.mono ge q3⟩
      | ow S' g' =>
        obtain ⟨b, ws, q1, q2, q3, q4, q5⟩ := q
        exact ⟨b, ws, q1, q2, q3, by rw [upd_ne (fun z => h (s.inj j i a (by rw [← z]; exact q1) ho))]; exact q4, S'.pmono ge q5⟩
      | ox R' g' =>
        obtain ⟨b, ws, q1, q2, q3, q4, q5⟩ := q
        exact ⟨b, ws, q1, q2, q3, by rw [upd_ne (fun z => h (s.inj j i a (by rw [← z]; exact q1) ho))]; exact q4, R'.mono ge q5⟩
      | sr =>
        obtain ⟨p, q1, q2, q3, x, y, q4, q5⟩ := q
        exact ⟨p, q1, q2, q3, x, y, by rw [upd_ne (fun z => h (s.inj j i a (by rw [← z]; exact q1) ho))]; exact q4, q5⟩
theorem St.putX (s : St K c L σ H e own) {i : Nat} {β : Type} {R : Ro β} {g : E → β} (hL : L[i]? = some (.ox R g)) {a : Addr} (ho : own i = some a) {o : HO} {x : β} (r : R.r K (Wb c own) H a o x) (hv : R.vl x a = R.vl (g e) a := by rfl) :
    St K c ((Tx.lift β L).set i (.ox R Prod.snd)) σ (upd H a o) (e, x) own := s.putXv hL ho r hv
end
/-! ### blocks -/
section
variable {E α β ρ : Type} {ι : Type} {X : ι → Cx} {K : PySem.W.Frag} {R : RetR ρ} {L L1 L2' L' : List (Sl E)} {S : Rp α} {T : Rp β} {s : Stmt} {ss : List Stmt} {e : Expr} {pos : Pos} {w w1 w2 : E → Kn E ρ → Prop}
theorem ts_nil : TS X K R L L [] (fun e k => k.nx e) := ⟨fun e k k' h _ hw => h _ hw, _, fun _ => pss_nil, fun c σ H env own D s hw => hw σ H own s⟩
theorem ts_cons (h : TS1 X K R L L1 s w1) (h2 : TS X K R L1 L' ss w2) : TS X K R L L' (s :: ss) (fun e k => w1 e ⟨fun e' => w2 e' k, k.rt⟩) := by
  obtain ⟨t1, p1, f1⟩ := h.ex
  obtain ⟨t2, p2, f2⟩ := h2.ex
  refine ⟨fun e k k' hn hr hw => h.mono e ⟨fun e' => w2 e' k, k.rt⟩ ⟨fun e' => w2 e' k', k'.rt⟩ (fun x hx => h2.mono _ _ _ hn hr hx) hr hw, _, fun i => pss_cons (p1 i) (p2 i), fun c σ H env own D s hw => ?_⟩
  refine f1 c σ H env own _ s (h.mono env ⟨fun e' => w2 e' (kon K R L' c D), (kon K R L' c D).rt⟩ _ (fun x hx σ' H' own' s' => ?_) (fun r hr => hr) hw)
  exact f2 c σ' H' x own' D s' hx
/-- .. with less known at the end -/
theorem TS.sub {L2 : List (Sl E)} (h : TS X K R L L1 ss w) (hs : Sub id L1 L2) : TS X K R L L2 ss w := by
  obtain ⟨t, p, f⟩ := h.ex
  exact ⟨h.mono, t, p, fun c σ H env own D s hw => f c σ H env own D s (h.mono env (kon K R L2 c D) (kon K R L1 c D) (fun x hx σ' H' own' s' => hx σ' H' _ (s'.sub hs)) (fun r hr => hr) hw)⟩
theorem TS1.sub {L2 : List (Sl E)} (h : TS1 X K R L L1 s w) (hs : Sub id L1 L2) : TS1 X K R L L2 s w := by
  obtain ⟨t, p, f⟩ := h.ex
  exact ⟨h.mono, t, p, fun c σ H env own D s hw => f c σ H env own D s (h.mono env (kon K R L2 c D) (kon K R L1 c D) (fun x hx σ' H' own' s' => hx σ' H' _ (s'.sub hs)) (fun r hr => hr) hw)⟩
theorem ts_ret {we : E → (α → Prop) → Prop} (h : TX X K L S e we) : TS1 X K (retI S) L L' (.Return (some e) pos) (fun env k => we env k.rt) := by
  obtain ⟨t, p, f⟩ := h.ex
  refine ⟨fun e k k' _ hr hw => h.mono _ _ _ hr hw, _, fun i => ps_ret (p i), fun c σ H env own D s hw => f c σ H env own _ s (h.mono _ _ _ (fun x hx v H' x' r => ?_) hw)⟩
  have s' := s.ex x'
  refine hx v H' ⟨⟨s'.stay, fun a hb => ?_⟩, S.mono (Ge.less fun a z => .inl z) r⟩
  obtain ⟨i, h1, h2⟩ := s.bs a hb
  exact x'.sr a ⟨i, h1, h2⟩
/-- return an own list -/
theorem ts_retO {g : E → List α} {i : Nat} {x : Str} {p : Pos} (hL : L[i]? = some (.ow S g)) (hN : ∀ j, (X j).N[i]? = some x) (hv : ∀ j, Vis (X j).env.scope x) (hd : (x == ("__debug__" : Str)) = false := by decide) (hcd : (x == ("__classdict__" : Str)) = false := by decide) :
    TS1 X K (retN S) L L' (.Return (some (.Name x p)) pos) (fun env k => k.rt (g env)) := by
  refine ⟨fun e k k' _ hr hw => hr _ hw, _, fun j => ps_ret (pe_var (hN j) (hv j) hd hcd), fun c σ H env own D s hw => ?_⟩
  obtain ⟨a, vs, h1, h2, h3, h4, h5⟩ := s.slot i _ hL
  refine ⟨.ref a, h2, hw (.ref a) H ⟨⟨s.stay, fun b hb => ?_⟩, a, vs, rfl, h3.1, fun z => ?_, h4, S.pmono (Ge.less fun b z => ?_) h5⟩⟩
  · obtain ⟨j, q1, q2⟩ := s.bs b hb
    exact s.sr ⟨j, q1, q2⟩
  · obtain ⟨j, q1, q2⟩ := s.bs a z
    have := s.inj i j a h1 q2
    subst this
    rw [hL] at q1
    cases q1
  · rcases z with z | z
    · exact .inl z
    · exact .inr ⟨i, by rw [z]; exact h1⟩
/-- x = e -/
theorem ts_set {we : E → (α → Prop) → Prop} {i : Nat} {x : Str} {pos' : Pos} {set : E → α → E} (hN : ∀ j, (X j).N.Nodup) (hi : ∀ j, (X j).N[i]? = some x) (hx : ∀ j, Loc (X j).env.scope x) (h : TX X K L S e we) (hl : ∃ s0, (lift α L)[i]? = some s0 ∧ s0 ≠ .sr) (hsub : Sub (fun e : E × α => set e.1 e.2) ((lift α L).set i (.im S Prod.snd)) L')
    (hs : ∀ j, swapsWith e (some (.Name x pos')) pos.line (X j).env = pure false := by intro _; rfl) (hf : ∀ j, (X j).fn x = true ∨ (X j).env.scope.names.lookup x = some .local := by intro _; first | exact .inl rfl | exact .inr rfl | assumption) : TS1 X K R L L' (.Assign [.Name x pos'] e pos) (fun env k => we env fun y => k.nx (set env y)) := by
  obtain ⟨t, p, f⟩ := h.ex
  refine ⟨fun e k k' hn _ hw => h.mono _ _ _ (fun _ hx => hn _ hx) hw, _, fun j => ps_set (hN j) (hi j) (hx j) (p j) (hs j) (hf j), fun c σ H env own D s hw => f c σ H env own _ s (h.mono _ _ _ (fun y hy v H' x' r => ?_) hw)⟩
  exact hy _ H' _ ((((s.ex x').lift y).setI hl S Prod.snd r).sub hsub)
theorem ts_own {we : E → (List α → Prop) → Prop} {i : Nat} {x : Str} {pos' : Pos} {set : E → List α → E} (hN : ∀ j, (X j).N.Nodup) (hi : ∀ j, (X j).N[i]? = some x) (hx : ∀ j, Loc (X j).env.scope x) (h : TN X K L S e we) (hl : ∃ s0, (lift (List α) L)[i]? = some s0 ∧ s0 ≠ .sr) (hsub : Sub (fun e : E × List α => set e.1 e.2) ((lift (List α) L).set i (.ow S Prod.snd)) L')
    (hs : ∀ j, swapsWith e (some (.Name x pos')) pos.line (X j).env = pure false := by intro _; rfl) (hf : ∀ j, (X j).fn x = true ∨ (X j).env.scope.names.lookup x = some .local := by intro _; first | exact .inl rfl | exact .inr rfl | assumption) : TS1 X K R L L' (.Assign [.Name x pos'] e pos) (fun env k => we env fun y => k.nx (set env y)) := by
  obtain ⟨t, p, f⟩ := h.ex
  refine ⟨fun e k k' hn _ hw => h.mono _ _ _ (fun _ hx => hn _ hx) hw, _, fun j => ps_set (hN j) (hi j) (hx j) (p j) (hs j) (hf j), fun c σ H env own D s hw => f c σ H env own _ s (h.mono _ _ _ (fun y hy l vs H' n x' e' r => ?_) hw)⟩
  refine hy _ H' _ (((s.lift y).setO ⟨fun a o na => x'.st a o fun z => na (Sr.lift.mpr z), fun a z => x'.sr a (Sr.lift.mp z)⟩ hl S Prod.snd n e' r).sub hsub)
theorem ts_if {c0 : Expr} {a b : List Stmt} {wc : E → (Bool → Prop) → Prop} (hc : TT X K L c0 wc) (ha : TS X K R L L' a w1) (hb : TS X K R L L' b w2) : TS1 X K R L L' (.If c0 a b pos) (fun env k => wc env fun x => if x = true then w1 env k else w2 env k) := by
  obtain ⟨t0, p0, f0⟩ := hc.ex
  obtain ⟨t1, p1, f1⟩ := ha.ex
  obtain ⟨t2, p2, f2⟩ := hb.ex
  refine ⟨fun e k k' hn hr hw => hc.mono _ _ _ (fun x hx => ?_) hw, _, fun i => ps_if (p0 i) (p1 i) (p2 i), fun c σ H env own D s hw => f0 c σ H env own _ s (hc.mono _ _ _ (fun x hx H' x' => ?_) hw)⟩
  · cases x
    · exact hb.mono _ _ _ hn hr hx
    · exact ha.mono _ _ _ hn hr hx
  · cases x
    · exact f2 c σ H' env own D (s.ex x') hx
    · exact f1 c σ H' env own D (s.ex x') hx
/-- xs.append(e) -/
theorem ts_append {i : Nat} {x : Str} {g : E → List α} {set : E → List α → E} {we : E → (α → Prop) → Prop} {p apos cpos : Pos} (hL : L[i]? = some (.ow S g)) (hN : ∀ j, (X j).N[i]? = some x) (hv : ∀ j, Vis (X j).env.scope x) (h : TX X K L S e we) (hsub : Sub (fun e : E × List α => set e.1 e.2) ((lift (List α) L).set i (.ow S Prod.snd)) L')
    (hline : (apos.endLine == cpos.line) = true := by rfl) (hK : ∀ j, (X j).K = K := by intro _; rfl) (hse : ∀ j, starEach [e] (X j).env = (false, eval e (X j).env) :: starEach [] (X j).env := by intro _; rfl) (hbase : ∀ j, attributeBase (.Name x p) "append" (X j).env (eval (.Name x p) (X j).env) = eval (.Name x p) (X j).env := by intro _; rfl)
    (hfew : ∀ j, ((backTo cpos (starEach [e] (X j).env)).all (fun x => !x.1) && (backToKw cpos (keywordEach [] (X j).env)).all (fun x => x.1.isSome) && decide (([e] : List Expr).length + ([] : List Keyword).length + (if ([] : List Keyword).isEmpty then 0 else 1) < 30)) = true := by intro _; rfl)
    (hs : ∀ j, swapsWith (.Call (.Attribute (.Name x p) "append" apos) [e] [] cpos) none pos.line (X j).env = pure false := by intro _; rfl) (hd : (x == ("__debug__" : Str)) = false := by decide) (hcd : (x == ("__classdict__" : Str)) = false := by decide) :
    TS1 X K R L L' (.Expr (.Call (.Attribute (.Name x p) "append" apos) [e] [] cpos) pos) (fun env k => we env fun y => (g env).length < sizeLine ∧ k.nx (set env (g env ++ [y]))) := by
  obtain ⟨t, pe, f⟩ := h.ex
  refine ⟨fun e k k' hn _ hw => h.mono _ _ _ (fun _ hx => ⟨hx.1, hn _ hx.2⟩) hw, _, fun j => by
    have z := ps_expr (pe_bm PySem.F.plainAttrs_list PySem.F.slot_list_append PySem.F.type_list_append mt_append (pe_var (hN j) (hv j) hd hcd) (pa_cons (pe j) pa_nil (hse j)) (hbase j) (hfew j) hline (hse j)) (hs j)
    rw [hK j] at z
    exact z, fun c σ H env own D s hw => ?_⟩
  obtain ⟨a, vs, h1, h2, h3, h4, h5⟩ := s.slot i _ hL
  refine ⟨.ref a, h2, .inl ⟨rfl, _, SqL.of h4⟩, f c σ H env own _ s (h.mono _ _ _ (fun y hy v H' x' r => ?_) hw)⟩
  have s' := s.ex x'
  obtain ⟨a', vs', h1', h2', h3', h4', h5'⟩ := s'.slot i _ hL
  rw [h1] at h1'
  cases h1'
  have ll : vs'.length = (g env).length := Paired.length h5'
  refine ⟨a, vs', v, rfl, rfl, h4', by rw [ll]; exact hy.1, ?_⟩
  exact hy.2 _ _ _ ((s'.putL hL h1 (xs := g env ++ [y]) (Paired.snoc h5' r)).sub hsub)
end
end Tx
/-! targets, loops, comprehensions, a def's body -/
namespace Tx
open PySem PySem.Spec PyProof.Rows L2 Gx
/-! ### the parts of a tuple -/
inductive Pt (α : Type) : Type 1 where
  | nil : Pt α
  | cons {β : Type} (S : Rp β) (f : α → β) (ps : Pt α) : Pt α
def PtOk {α : Type} (K : PySem.W.Frag) (W : WS) (H : Hp) (x : α) : Pt α → List V → Prop
  | .nil, vs => vs = []
  | .cons S f ps, vs => ∃ v us, vs = v :: us ∧ S.r K W H v (f x) ∧ PtOk K W H x ps us
theorem PtOk.mono {α : Type} {K : PySem.W.Frag} {W W' : WS} {H H' : Hp} {x : α} (g : Ge W H W' H') : ∀ {ps : Pt α} {vs : List V}, PtOk K W H x ps vs → PtOk K W' H' x ps vs := by
  intro ps
  induction ps with
  | nil => exact fun h => h
  | cons S f ps ih =>
    rintro vs ⟨v, us, e, h1, h2⟩
    exact ⟨v, us, e, S.mono g h1, ih h2⟩
def Pt.len {α : Type} : Pt α → Nat
  | .nil => 0
  | .cons _ _ ps => ps.len + 1
theorem PtOk.len {α : Type} {K : PySem.W.Frag} {W : WS} {H : Hp} {x : α} : ∀ {ps : Pt α} {vs : List V}, PtOk K W H x ps vs → vs.length = ps.len := by
  intro ps
  induction ps with
  | nil =>
    intro vs h
    rw [show vs = [] from h]
    rfl
  | cons S f ps ih =>
    rintro vs ⟨v, us, rfl, h1, h2⟩
    simp [Pt.len, ih h2]
/-- a datum that is a tuple of those parts -/
structure Unp {α : Type} (S : Rp α) (ps : Pt α) : Prop where
  at_ : ∀ {K : PySem.W.Frag} {W : WS} {H : Hp} {v : V} {x : α}, S.r K W H v x → ∃ a vs, v = .ref a ∧ TW K W H a vs ∧ PtOk K W H x ps vs
theorem unp_pr {α β : Type} {S : Rp α} {T : Rp β} : Unp (prR S T) (.cons S Prod.fst (.cons T Prod.snd .nil)) := ⟨fun ⟨a, v1, v2, e, h, p, q⟩ => ⟨a, _, e, h, v1, _, rfl, p, v2, _, rfl, q, rfl⟩⟩
theorem unp_tri {α β γ : Type} {S : Rp α} {T : Rp β} {U : Rp γ} : Unp (triR S T U) (.cons S Prod.fst (.cons T (fun x => x.2.1) (.cons U (fun x => x.2.2) .nil))) := ⟨fun ⟨a, v1, v2, v3, e, h, p, q, r⟩ => ⟨a, _, e, h, v1, _, rfl, p, v2, _, rfl, q, v3, _, rfl, r, rfl⟩⟩
theorem unp_ent : Unp entR (.cons strR Ent.name (.cons (tupR strR) Ent.wishes (.cons strR Ent.back (.cons (tupR strR) Ent.later .nil)))) := ⟨fun ⟨a, w, l, e, h, p, q⟩ => ⟨a, _, e, h, _, _, rfl, rfl, w, _, rfl, p, _, _, rfl, rfl, l, _, rfl, q, rfl⟩⟩
theorem unp_base : Unp baseR (.cons (tupR strR) Bs.things (.cons (tupR entR) Bs.ws .nil)) := ⟨fun ⟨a, t, w, e, h, p, q⟩ => ⟨a, _, e, h, t, _, rfl, p, w, _, rfl, q, rfl⟩⟩
/-! ### targets -/
/-- only the slots of is are another's -/
def Ag (is : List Nat) (σ σ' : L2.St) : Prop := ∀ vs : List Nat, (∀ i ∈ is, i ∈ vs) → wipe σ' vs = wipe σ vs
theorem wipe_at {σ : L2.St} {i : Nat} : ∀ {vs : List Nat}, (wipe σ vs)[i]? = if i ∈ vs then (σ[i]?).map (fun _ => none) else σ[i]?
  | [] => by simp [wipe]
  | v :: vs => by
    show ((wipe σ vs).set v none)[i]? = _
    by_cases h : i = v
    · subst h
      rw [if_pos List.mem_cons_self]
      by_cases l : i < σ.length
      · rw [List.getElem?_set_self (by rw [wipe_length]; exact l), List.getElem?_eq_getElem l]
        rfl
      · rw [List.getElem?_eq_none (by rw [List.length_set, wipe_length]; omega), List.getElem?_eq_none (by omega)]
        rfl
    · rw [List.getElem?_set_ne (Ne.symm h), wipe_at (vs := vs)]
      by_cases m : i ∈ vs
      · rw [if_pos m, if_pos (List.mem_cons_of_mem _ m)]
      · rw [if_neg m, if_neg (fun z => (List.mem_cons.mp z).elim h m)]
theorem Ag.refl {is : List Nat} {σ : L2.St} : Ag is σ σ := fun _ _ => rfl
theorem Ag.set {is : List Nat} {σ σ' : L2.St} {i : Nat} {v : Option V} (h : Ag is σ σ') (hi : i ∈ is) : Ag is σ (σ'.set i v) := fun vs hv => by
  rw [← h vs hv]
  apply List.ext_getElem?
  intro j
  rw [wipe_at, wipe_at]
  by_cases m : j ∈ vs
  · rw [if_pos m, if_pos m]
    by_cases z : j = i
    · subst z
      by_cases l : j < σ'.length
      · rw [List.getElem?_set_self l, List.getElem?_eq_getElem l]
        rfl
      · rw [List.getElem?_eq_none (by rw [List.length_set]; omega), List.getElem?_eq_none (by omega)]
    · rw [List.getElem?_set_ne (Ne.symm z)]
  · rw [if_neg m, if_neg m]
    rw [List.getElem?_set_ne (fun z => m (by rw [← z]; exact hv i hi))]
theorem Ag.wiped {is vs : List Nat} {σ σ' : L2.St} (h : Ag is (wipe σ vs) σ') (hv : ∀ i ∈ is, i ∈ vs) : wipe σ' vs = wipe σ vs := by
  rw [h vs hv]
  apply List.ext_getElem?
  intro j
  rw [wipe_at, wipe_at]
  by_cases m : j ∈ vs
  · rw [if_pos m, if_pos m]
    cases σ[j]? <;> rfl
  · rw [if_neg m]
theorem Sr.setI {E β : Type} {L : List (Sl E)} {own : Own} {i : Nat} (h : ∃ s0, L[i]? = some s0 ∧ s0 ≠ .sr) {S : Rp β} {g : E → β} (a : Addr) : Sr (L.set i (.im S g)) (putO own i none) a ↔ Sr L own a := by
  obtain ⟨s0, h0, n0⟩ := h
  have il := (List.getElem?_eq_some_iff.mp h0).1
  constructor
  · rintro ⟨j, h1, h2⟩
    by_cases z : j = i
    · subst z
      rw [List.getElem?_set_self il] at h1
      cases h1
    · rw [List.getElem?_set_ne (Ne.symm z)] at h1
      rw [putO_ne z] at h2
      exact ⟨j, h1, h2⟩
  · rintro ⟨j, h1, h2⟩
    have z : j ≠ i := fun z => by
      subst z
      rw [h0] at h1
      exact n0 (Option.some.inj h1)
    exact ⟨j, by rw [List.getElem?_set_ne (Ne.symm z)]; exact h1, by rw [putO_ne z]; exact h2⟩
/-- what binding leaves -/
structure Bd {E E' : Type} (is : List Nat) (L : List (Sl E)) (own : Own) (σ : L2.St) (L' : List (Sl E')) (own' : Own) (σ' : L2.St) : Prop where
  ag : Ag is σ σ'
  sr : ∀ a, Sr L' own' a ↔ Sr L own a
  so : ∀ i, i ∉ is → own' i = own i
  no : ∀ i, i ∈ is → own' i = none
/-- a value is bound to a target -/
structure TGt {E α : Type} {ι : Type} (X : ι → Cx) (K : PySem.W.Frag) (L : List (Sl E)) (S : Rp α) (tg : Expr) (is : List Nat) (L' : List (Sl (E × α))) : Prop where
  ex : ∃ g, (∀ i, PG (X i) tg g) ∧ ∀ (c : Bc) (σ : L2.St) (H : Hp) (env : E) (own : Own) (x : α) (v : V) (Q : L2.St → Hp → Prop), St K c L σ H env own → S.r K (Wb c own) H v x → (∀ σ' own', St K c L' σ' H (env, x) own' → Bd is L own σ L' own' σ' → Q σ' H) → g v σ H Q
def okI {E : Type} (L : List (Sl E)) (i : Nat) : Bool := match L[i]? with
  | some s => nsr s
  | none => false
theorem okI_ok {E : Type} {L : List (Sl E)} {i : Nat} (h : okI L i = true) : ∃ s0, L[i]? = some s0 ∧ s0 ≠ .sr := by
  unfold okI at h
  split at h
  · rename_i s e
    refine ⟨s, e, fun z => ?_⟩
    rw [z] at h
    cases h
  · cases h
theorem okI_lift {E α : Type} {L : List (Sl E)} {i : Nat} (h : okI L i = true) : ∃ s0, (lift α L)[i]? = some s0 ∧ s0 ≠ .sr := by
  obtain ⟨s, e, n⟩ := okI_ok h
  exact ⟨s.fst, lift_of e, fun z => n (Sl.fst_sr.mp z)⟩
def setAll {E α : Type} : List (Sl (E × α)) → List Nat → Pt α → List (Sl (E × α))
  | L, i :: is, .cons S f ps => setAll (L.set i (.im S fun e => f e.2)) is ps
  | L, _, _ => L
def gAll : List Nat → TGs
  | [] => gNil
  | i :: is => gCons (gName i) (gAll is)
section
variable {E α β ρ ι : Type} {X : ι → Cx} {K : PySem.W.Frag} {R : RetR ρ} {L L' : List (Sl E)} {S : Rp α} {T : Rp β} {e : Expr} {pos : Pos}
theorem tgt_name {i : Nat} {x : Str} (hN : ∀ j, (X j).N.Nodup) (hi : ∀ j, (X j).N[i]? = some x) (hx : ∀ j, Loc (X j).env.scope x) (ok : okI L i = true) (hf : ∀ j, (X j).fn x = true ∨ (X j).env.scope.names.lookup x = some .local := by intro _; first | exact .inl rfl | exact .inr rfl | assumption) :
    TGt X K L S (.Name x pos) [i] ((lift α L).set i (.im S Prod.snd)) :=
  ⟨_, fun j => pg_name (hN j) (hi j) (hx j) (hf j), fun c σ H env own x v Q s r q => q _ _ ((s.lift x).setI (okI_lift ok) S Prod.snd r) ⟨Ag.refl.set List.mem_cons_self, fun a => (Sr.setI (okI_lift ok) a).trans Sr.lift, fun j hj => putO_ne (fun z => hj (by rw [z]; exact List.mem_cons_self)), fun j hj => by rw [List.mem_singleton.mp hj]; exact putO_self⟩⟩
theorem setAll_ok {c : Bc} {js : List Nat} {σ0 : L2.St} {E0 : Type} {L00 : List (Sl E0)} {own0 : Own} {H : Hp} {env : E} {x : α} {Q : L2.St → Hp → Prop} : ∀ {ps : Pt α} {is : List Nat} {L0 : List (Sl (E × α))} {vs : List V} {σ : L2.St} {own : Own}, is.length = ps.len → (∀ i ∈ is, okI L0 i = true) → (∀ i ∈ is, i ∈ js) → Ag js σ0 σ → (∀ a, Sr L0 own a ↔ Sr L00 own0 a) → (∀ i, i ∉ js → own i = own0 i) → (∀ i, i ∈ js → i ∉ is → own i = none) → St K c L0 σ H (env, x) own → PtOk K (Wb c own) H x ps vs → (∀ σ' own', St K c (setAll L0 is ps) σ' H (env, x) own' → Bd js L00 own0 σ0 (setAll L0 is ps) own' σ' → Q σ' H) → gAll is vs σ H Q := by
  intro ps
  induction ps with
  | nil =>
    intro is L0 vs σ own hl ok hj ag sp so no s p q
    cases is with
    | nil => exact ⟨p, q σ own s ⟨ag, sp, so, fun i hi => no i hi (by simp)⟩⟩
    | cons i is => simp [Pt.len] at hl
  | cons S f ps ih =>
    intro is L0 vs σ own hl ok hj ag sp so no s p q
    cases is with
    | nil => simp [Pt.len] at hl
    | cons i is =>
      obtain ⟨v, us, rfl, h1, h2⟩ := p
      refine ⟨v, us, rfl, ?_⟩
      have s2 := s.setI (okI_ok (ok i List.mem_cons_self)) S (fun e => f e.2) h1
      have less : ∀ a, Wb c (putO own i none) a → Wb c own a := fun a z => z.imp id fun ⟨j, q⟩ => by
        by_cases h : j = i
        · subst h
          rw [putO_self] at q
          cases q
        · rw [putO_ne h] at q
          exact ⟨j, q⟩
      refine ih (is := is) (by simpa [Pt.len] using hl) (fun j hjj => ?_) (fun j z => hj j (List.mem_cons_of_mem _ z)) (ag.set (hj i List.mem_cons_self)) (fun a => (Sr.setI (okI_ok (ok i List.mem_cons_self)) a).trans (sp a)) (fun j hjj => (putO_ne (fun z => hjj (by rw [z]; exact hj i List.mem_cons_self))).trans (so j hjj)) (fun j hjj nj => by
        by_cases z : j = i
        · rw [z]
          exact putO_self
        · rw [putO_ne z]
          exact no j hjj (fun w => (List.mem_cons.mp w).elim z nj)) s2 (h2.mono (Ge.less less)) q
      have := ok j (List.mem_cons_of_mem _ hjj)
      unfold okI at this ⊢
      by_cases z : j = i
      · subst z
        obtain ⟨s0, h0, _⟩ := okI_ok (ok j List.mem_cons_self)
        rw [List.getElem?_set_self (List.getElem?_eq_some_iff.mp h0).1]
        rfl
      · rw [List.getElem?_set_ne (Ne.symm z)]
        exact this
theorem tgt_tup {es : List Expr} {k : Nat} {ps : Pt α} {is : List Nat} (u : Unp S ps) (hp : ∀ j, PGs (X j) es (gAll is)) (hc : ∀ j, (X j).calm = true) (hl : is.length = ps.len) (ok : ∀ i ∈ is, okI L i = true)
    (hK : ∀ j, (X j).K = K := by intro _; rfl) (hn : ∀ j, (assignEach es (X j).env).length = is.length := by intro _; rfl) (hst : ∀ j, (assignEach es (X j).env).findIdx? (·.1) = none := by intro _; rfl) : TGt X K L S (.Tuple es k pos) is (setAll (lift α L) is ps) := by
  refine ⟨_, fun j => by
    have z := pg_tup (k := k) (pos := pos) (hc j) (hp j) (hn j) (hst j)
    rw [hK j] at z
    exact z, fun c σ H env own x v Q s r q => ?_⟩
  obtain ⟨a, vs, rfl, h1, h2⟩ := u.at_ r
  refine ⟨a, vs, rfl, h1.sq, by rw [h2.len, hl], setAll_ok (js := is) (σ0 := σ) (L00 := L) hl (fun i hi => ?_) (fun _ z => z) Ag.refl (own0 := own) (fun a => Sr.lift) (fun _ _ => rfl) (fun i h n => absurd h n) (s.lift x) h2 q⟩
  obtain ⟨s0, h0, n0⟩ := okI_lift (α := α) (ok i hi)
  unfold okI
  rw [h0]
  cases s0 <;> first | rfl | exact absurd rfl n0
end
/-! ### what is walked -/
structure ItOk {α : Type} (K : PySem.W.Frag) (W : WS) (H1 : Hp) (S : Rp α) (xs : List α) (G : Hp → Prop) (Y : Nat → Hp → V → Hp → Prop) : Prop where
  g : ∀ W' H2, Ge W H1 W' H2 → G H2
  y : ∀ W' H2 H3 i v, Ge W H1 W' H2 → (∀ l, H2 l = none → ¬ W' l) → i < xs.length → Y i H2 v H3 → Same H2 H3 ∧ ∃ x, xs[i]? = some x ∧ S.r K W' H3 v x
structure TIt {E α : Type} {ι : Type} (X : ι → Cx) (K : PySem.W.Frag) (L : List (Sl E)) (S : Rp α) (tg iter : Expr) (w : E → (List α → Prop) → Prop) : Prop where
  mono : Mono w
  ex : ∃ wi, (∀ i, PI (X i) tg iter wi) ∧ ∀ (c : Bc) (σ : L2.St) (H : Hp) (env : E) (own : Own) (Q : It → Hp → Prop), St K c L σ H env own → w env (fun xs => ∀ J H1 G Y, Ex L own H H1 → Walk J xs.length G Y → ItOk K (Wb c own) H1 S xs G Y → Q J H1) → wi σ H Q
section
variable {E α ι : Type} {X : ι → Cx} {K : PySem.W.Frag} {L : List (Sl E)} {S : Rp α} {e tg : Expr} {pos p : Pos}
theorem it_list {we : E → (List α → Prop) → Prop} (h : TX X K L (lstR S) e we) (hK : ∀ j, (X j).K = K := by intro _; rfl) : TIt X K L S tg e we := by
  obtain ⟨t, pe, f⟩ := h.ex
  refine ⟨h.mono, _, fun j => by
    have z := pi_list (tg := tg) (pe j)
    rw [hK j] at z
    exact z, fun c σ H env own Q s hw => f c σ H env own _ s (h.mono _ _ _ (fun xs hx v H1 x1 r => ?_) hw)⟩
  obtain ⟨a, vs, rfl, n, e1, p1⟩ := r
  have ll := Paired.length p1
  refine ⟨a, rfl, ⟨_, SqL.of e1⟩, hx _ H1 (fun H => SqL K H a vs) (YAt vs) x1 (by rw [← ll]; exact walk_list) ⟨fun W' H2 g => SqL.of (g _ _ n e1).2, fun W' H2 H3 i v g fr hi y => ?_⟩⟩
  obtain ⟨rfl, hv⟩ := y
  obtain ⟨x, hx, rx⟩ := Paired.at2 p1 hv
  exact ⟨Same.refl _, x, hx, S.mono g rx⟩
theorem it_tup {we : E → (List α → Prop) → Prop} (h : TX X K L (tupR S) e we) (hK : ∀ j, (X j).K = K := by intro _; rfl) : TIt X K L S tg e we := by
  obtain ⟨t, pe, f⟩ := h.ex
  refine ⟨h.mono, _, fun j => by
    have z := pi_tup (tg := tg) (pe j)
    rw [hK j] at z
    exact z, fun c σ H env own Q s hw => f c σ H env own _ s (h.mono _ _ _ (fun xs hx v H1 x1 r => ?_) hw)⟩
  obtain ⟨a, vs, rfl, e1, p1⟩ := r
  have ll := Paired.length p1
  refine ⟨a, rfl, ⟨_, e1.sq⟩, hx _ H1 (fun H => SqT K H a vs) (YAt vs) x1 (by rw [← ll]; exact walk_tup) ⟨fun W' H2 g => (e1.mono g).sq, fun W' H2 H3 i v g fr hi y => ?_⟩⟩
  obtain ⟨rfl, hv⟩ := y
  obtain ⟨x, hx, rx⟩ := Paired.at2 p1 hv
  exact ⟨Same.refl _, x, hx, S.mono g rx⟩
/-- range(n) -/
def rangeL (n : Int) : List Int := (List.range n.toNat).map (fun (i : Nat) => (i : Int))
theorem it_range1 {a : Expr} {we : E → (Int → Prop) → Prop} (hg : ∀ j, Gl (X j) "range") (hm : ∀ j, (X j).mg "range" = none) (h : TX X K L intR a we) (hs : ∀ j, starEach [a] (X j).env = [(false, eval a (X j).env)] := by intro _; rfl) : TIt X K L intR tg (.Call (.Name "range" p) [a] [] pos) (fun env k => we env fun n => (-(2 ^ 62) ≤ n ∧ n < 2 ^ 62) ∧ k (rangeL n)) := by
  obtain ⟨t, pe, f⟩ := h.ex
  refine ⟨fun e k k' hk hw => h.mono _ _ _ (fun n hn => ⟨hn.1, hk _ hn.2⟩) hw, _, fun j => pi_range1 (tg := tg) (hg j) (hm j) (pa_cons (pe j) pa_nil (hs j)) (hs j), fun c σ H env own Q s hw => f c σ H env own _ s (h.mono _ _ _ (fun n hx v H1 x1 r => ?_) hw)⟩
  cases r
  refine ⟨n, rfl, hx.1.1, hx.1.2, hx.2 _ H1 (fun _ => True) (YFn fun i => .int ((0 : Int) + i)) x1 (by unfold rangeL; rw [List.length_map, List.length_range]; exact walk_range) ⟨fun _ _ _ => trivial, fun W' H2 H3 i v g fr hi y => ?_⟩⟩
  obtain ⟨rfl, rfl⟩ := y
  unfold rangeL at hi ⊢
  rw [List.length_map, List.length_range] at hi
  refine ⟨Same.refl _, (i : Int), ?_, by show V.int (0 + (i : Int)) = V.int i; rw [Int.zero_add]⟩
  rw [List.getElem?_map, List.getElem?_range hi]
  rfl
theorem it_str {we : E → (Str → Prop) → Prop} (h : TX X K L strR e we) : TIt X K L strR tg e (fun env k => we env fun z => k (z.cps.toList.map fun c => (⟨#[c]⟩ : Str))) := by
  obtain ⟨t, pe, f⟩ := h.ex
  refine ⟨fun e k k' hk hw => h.mono _ _ _ (fun n hn => hk _ hn) hw, _, fun j => pi_str (tg := tg) (pe j), fun c σ H env own Q s hw => f c σ H env own _ s (h.mono _ _ _ (fun z hx v H1 x1 r => ?_) hw)⟩
  cases r
  refine ⟨z, rfl, hx _ H1 (fun _ => True) _ x1 (by rw [List.length_map, Array.length_toList]; exact walk_str) ⟨fun _ _ _ => trivial, fun W' H2 H3 i v g fr hi y => ?_⟩⟩
  obtain ⟨rfl, ch, h1, rfl⟩ := y
  refine ⟨Same.refl _, ⟨#[ch]⟩, ?_, rfl⟩
  rw [List.getElem?_map, Array.getElem?_toList, h1]
  rfl
theorem it_enum {es : List Expr} {kk : Nat} {tpos : Pos} {we : E → (List α → Prop) → Prop} (hg : ∀ j, Gl (X j) "enumerate") (hm : ∀ j, (X j).mg "enumerate" = none) (h : TX X K L (lstR S) e we) (hK : ∀ j, (X j).K = K := by intro _; rfl) (hs : ∀ j, starEach [e] (X j).env = [(false, eval e (X j).env)] := by intro _; rfl) :
    TIt X K L (prR intR S) (.Tuple es kk tpos) (.Call (.Name "enumerate" p) [e] [] pos) (fun env k => we env fun xs => k (xs.zipIdx.map fun q => ((q.2 : Int), q.1))) := by
  obtain ⟨t, pe, f⟩ := h.ex
  refine ⟨fun e k k' hk hw => h.mono _ _ _ (fun n hn => hk _ hn) hw, _, fun j => by
    have z := pi_enum (elts := es) (kk := kk) (tpos := tpos) (pos := pos) (p := p) (hg j) (hm j) (pa_cons (pe j) pa_nil (hs j)) (hs j)
    rw [hK j] at z
    exact z, fun c σ H env own Q s hw => f c σ H env own _ s (h.mono _ _ _ (fun xs hx v H1 x1 r => ?_) hw)⟩
  obtain ⟨a, vs, rfl, n, e1, p1⟩ := r
  have ll := Paired.length p1
  refine ⟨a, vs, rfl, SqL.of e1, hx _ H1 _ _ x1 (by rw [List.length_map, List.length_zipIdx, ← ll]; exact walk_enum) ⟨fun W' H2 g => SqL.of (g _ _ n e1).2, fun W' H2 H3 i v g fr hi y => ?_⟩⟩
  obtain ⟨T, u, w, rfl, hT, rfl, hu, hw'⟩ := y
  cases hu
  obtain ⟨x, hx2, rx⟩ := Paired.at2 p1 hw'
  refine ⟨Same.new hT, ((i : Int), x), ?_, T, .int (i : Nat), w, rfl, TW.of (fr T hT) upd_same, rfl, S.mono (g.trans (Ge.same (Same.new hT))) rx⟩
  rw [List.getElem?_map, List.getElem?_zipIdx, hx2]
  simp
end
/-! ### for -/
def wFor {E α ρ : Type} (wb : E × α → Kn (E × α) ρ → Prop) : List α → E → Kn E ρ → Prop
  | [], e, k => k.nx e
  | x :: xs, e, k => wb (e, x) ⟨fun e' => wFor wb xs e'.1 k, k.rt⟩
theorem wFor.mono {E α ρ : Type} {wb : E × α → Kn (E × α) ρ → Prop} (h : MonoS wb) : ∀ (xs : List α), MonoS (wFor wb xs)
  | [], e, k, k', hn, hr, hw => hn _ hw
  | x :: xs, e, k, k', hn, hr, hw => h (e, x) ⟨fun e' => wFor wb xs e'.1 k, k.rt⟩ ⟨fun e' => wFor wb xs e'.1 k', k'.rt⟩ (fun e' he => wFor.mono h xs e'.1 k k' hn hr he) hr hw
open Classical in
/-- all that is not owned is known to stay -/
noncomputable def pinB (c : Bc) (own : Own) (H1 : Hp) : Bc := ⟨fun a => if ∃ i, own i = some a then none else H1 a, c.W, c.B⟩
section
variable {E E' α ρ : Type} {K : PySem.W.Frag} {c c' : Bc} {L : List (Sl E)} {L' : List (Sl E')} {σ σ' : L2.St} {H H' H1 : Hp} {e : E} {e' : E'} {own own' : Own}
theorem pinB_own {i : Nat} {a : Addr} (h : own i = some a) : (pinB c own H1).H0 a = none := if_pos ⟨i, h⟩
theorem pinB_not {a : Addr} (h : ¬ ∃ i, own i = some a) : (pinB c own H1).H0 a = H1 a := if_neg h
theorem St.notOwn (s : St K c L σ H e own) {a : Addr} {o : HO} (nb : ¬ c.B a) (h : c.H0 a = some o) : ¬ ∃ i, own i = some a := fun ⟨i, hi⟩ => by
  cases hL : L[i]? with
  | none =>
    rw [s.out i hL] at hi
    cases hi
  | some sl =>
    have q := s.slot i sl hL
    cases sl with
    | any =>
      rw [show own i = none from q] at hi
      cases hi
    | im S g =>
      rw [q.1] at hi
      cases hi
    | ow S g =>
      obtain ⟨b, vs, h1, _, h2, _⟩ := q
      rw [hi] at h1
      cases h1
      rw [h] at h2
      cases h2.1
    | ox R g =>
      obtain ⟨b, vs, h1, _, h2, _⟩ := q
      rw [hi] at h1
      cases h1
      rw [h] at h2
      cases h2.1
    | sr =>
      obtain ⟨p, h1, _, h2, _⟩ := q
      rw [hi] at h1
      cases h1
      rcases h2 with h2 | h2
      · exact nb h2
      · rw [h] at h2
        cases h2
theorem St.pin (s : St K c L σ H e own) : Pin c (pinB c own H) := ⟨rfl, rfl, fun a o nb h => by
  rw [pinB_not (s.notOwn nb h)]
  exact s.stay a o nb h⟩
theorem St.pinned (s : St K c L σ H e own) : St K (pinB c own H) L σ H e own := by
  refine ⟨s.len, fun a o nb h => ?_, s.dom, s.bw, s.bs, s.inj, s.out, fun i sl hL => ?_⟩
  · by_cases z : ∃ i, own i = some a
    · obtain ⟨i, hi⟩ := z
      rw [pinB_own hi] at h
      cases h
    · rwa [pinB_not z] at h
  · have q := s.slot i sl hL
    cases sl with
    | any => exact q
    | im S g => exact q
    | ow S g =>
      obtain ⟨b, vs, h1, h2, h3, h4⟩ := q
      exact ⟨b, vs, h1, h2, ⟨pinB_own h1, h3.2⟩, h4⟩
    | ox R g =>
      obtain ⟨b, vs, h1, h2, h3, h4⟩ := q
      exact ⟨b, vs, h1, h2, ⟨pinB_own h1, h3.2⟩, h4⟩
    | sr =>
      obtain ⟨p, h1, h2, h3, h4⟩ := q
      exact ⟨p, h1, h2, .inr (pinB_own h1), h4⟩
theorem St.unpin (p : Pin c c') (s : St K c' L σ H e own) : St K c L σ H e own := by
  have hW : c.W = c'.W := p.W.symm
  have hB : c.B = c'.B := p.B.symm
  have wb : Wb c own = Wb c' own := by unfold Wb; rw [hW]
  refine ⟨s.len, fun a o nb h => s.stay a o (by rw [← hB]; exact nb) (p.st a o nb h), by rw [hW]; exact s.dom, by rw [hW, hB]; exact s.bw, by rw [hB]; exact s.bs, s.inj, s.out, fun i sl hL => ?_⟩
  rw [wb]
  have q := s.slot i sl hL
  cases sl with
  | any => exact q
  | im S g => exact q
  | ow S g =>
    obtain ⟨b, vs, h1, h2, h3, h4⟩ := q
    refine ⟨b, vs, h1, h2, ⟨p.none (fun z => ?_) h3.1, by rw [hW]; exact h3.2⟩, h4⟩
    obtain ⟨j, q1, q2⟩ := s.bs b z
    have := s.inj i j b h1 q2
    subst this
    rw [hL] at q1
    cases q1
  | ox R g =>
    obtain ⟨b, vs, h1, h2, h3, h4⟩ := q
    refine ⟨b, vs, h1, h2, ⟨p.none (fun z => ?_) h3.1, by rw [hW]; exact h3.2⟩, h4⟩
    obtain ⟨j, q1, q2⟩ := s.bs b z
    have := s.inj i j b h1 q2
    subst this
    rw [hL] at q1
    cases q1
  | sr =>
    obtain ⟨b, h1, h2, h3, h4⟩ := q
    refine ⟨b, h1, h2, ?_, h4⟩
    by_cases z : c.B b
    · exact .inl z
    · rcases h3 with h3 | h3
      · exact .inl (by rw [hB]; exact h3)
      · exact .inr (p.none (by rw [← hB]; exact z) h3)
/-- what was not owned then stays, and is not owned -/
theorem St.geP (s1 : St K c L σ H1 e own) (s : St K (pinB c own H1) L' σ' H' e' own') : Ge (Wb c own) H1 (Wb (pinB c own H1) own') H' := fun a o n h => by
  have no : ¬ ∃ i, own i = some a := fun z => n (.inr z)
  have h0 : (pinB c own H1).H0 a = some o := by rw [pinB_not no]; exact h
  have nb : ¬ c.B a := fun z => n (.inl (s1.bw a z))
  refine ⟨?_, s.stay a o nb h0⟩
  rintro (z | z)
  · exact n (.inl z)
  · exact s.notOwn nb h0 z
end
section
variable {E α ρ ι : Type} {X : ι → Cx} {K : PySem.W.Frag} {R : RetR ρ} {L : List (Sl E)} {Lin Lout : List (Sl (E × α))} {S : Rp α} {iter tg : Expr} {body : List Stmt} {pos : Pos} {wi : E → (List α → Prop) → Prop} {wb : E × α → Kn (E × α) ρ → Prop}
theorem ts_for (hp : ∀ j, PassesOwn (model (X j).prog (X j).w) (X j).A (X j).env (X j).xe) (hc : ∀ j, (X j).calm = true) {is : List Nat} (hi : TIt X K L S tg iter wi) (ht : TGt X K L S tg is Lin) (hb : TS X K R Lin Lout body wb) (hsub : Sub Prod.fst Lout L)
    (hs : ∀ j x, foldedSetIterable iter (X j).env x = pure x := by intro _ _; rfl) : TS1 X K R L L (.For tg iter body [] pos) (fun env k => wi env fun xs => wFor wb xs env k) := by
  obtain ⟨wi', pi, fi⟩ := hi.ex
  obtain ⟨g, pg, fg⟩ := ht.ex
  obtain ⟨t, pb, fb⟩ := hb.ex
  refine ⟨fun e k k' hn hr hw => hi.mono _ _ _ (fun xs hx => wFor.mono hb.mono xs e k k' hn hr hx) hw, _, fun j => ps_for (hp j) (hc j) (pi j) (pg j) (pb j) (hs j), fun c σ H env own D s hw => ?_⟩
  refine fi c σ H env own _ s (hi.mono _ _ _ (fun xs hx J H1 G Y x1 wk ok => ?_) hw)
  have s1 := s.ex x1
  have P := s1.pin
  refine for_it wk (fun i σ' H' => ∃ e' own', St K (pinB c own H1) L σ' H' e' own' ∧ wFor wb (xs.drop i) e' (kon K R L c D)) ⟨env, own, s1.pinned, hx⟩ (fun i σ' H' _ ⟨e', own', s', _⟩ => ok.g _ _ (s1.geP s')) (fun i v σ' H2 H3 hi z y => ?_) (fun σ' H' ⟨e', own', s', hw'⟩ => ?_)
  · obtain ⟨e', own', s', hw'⟩ := z
    obtain ⟨k, x, hx', rx⟩ := ok.y _ H2 H3 i v (s1.geP s') (fun l hl => s'.fresh hl) hi y
    have ed : xs.drop i = x :: xs.drop (i + 1) := by
      obtain ⟨h1, h2⟩ := List.getElem?_eq_some_iff.mp hx'
      rw [← h2]
      exact List.drop_eq_getElem_cons h1
    rw [ed] at hw'
    have s3 := s'.ex (s'.exSame k)
    refine fg _ σ' H3 e' own' x v _ s3 rx fun σ2 own2 s2 _ => ?_
    refine fb _ σ2 H3 (e', x) own2 _ s2 (hb.mono _ ⟨fun e2 => wFor wb (xs.drop (i + 1)) e2.1 (kon K R L c D), (kon K R L c D).rt⟩ _ (fun e2 h2 σ4 H4 own4 s4 => ?_) (fun r hr => R.pin P hr) hw')
    exact ⟨e2.1, _, s4.sub hsub, h2⟩
  · rw [List.drop_length] at hw'
    exact hw' σ' H' own' (St.unpin P s')
/-! ### while -/
def wWhile {E ρ : Type} (wt : E → (Bool → Prop) → Prop) (wb : E → Kn E ρ → Prop) : Nat → E → Kn E ρ → Prop
  | 0, _, _ => False
  | n + 1, e, k => wt e fun b => if b = true then wb e ⟨fun e' => wWhile wt wb n e' k, k.rt⟩ else k.nx e
theorem wWhile.mono {E ρ : Type} {wt : E → (Bool → Prop) → Prop} {wb : E → Kn E ρ → Prop} (ht : Mono wt) (h : MonoS wb) : ∀ n, MonoS (wWhile wt wb n)
  | 0, _, _, _, _, _, hw => hw
  | n + 1, e, k, k', hn, hr, hw => ht _ _ _ (fun b hb => by
      cases b
      · exact hn _ hb
      · exact h e ⟨fun e' => wWhile wt wb n e' k, k.rt⟩ ⟨fun e' => wWhile wt wb n e' k', k'.rt⟩ (fun e' he => wWhile.mono ht h n e' k k' hn hr he) hr hb) hw
end
/-! ### a def's body -/
def layA {E : Type} : {τ : Type} → Ar τ → (E → τ) → List (Sl E)
  | _, .nil, _ => []
  | _, .cons S A, f => .im S (fun e => (f e).1) :: layA A fun e => (f e).2
  | _, .src A, f => .sr :: layA A f
def ownA {τ : Type} (A : Ar τ) (vs : List V) : Own := fun i => if srB A i = true then (match vs[i]? with | some (.ref a) => some a | _ => none) else none
theorem layA_len {E : Type} : ∀ {τ : Type} {A : Ar τ} {f : E → τ}, (layA A f).length = arn A := by
  intro τ A
  induction A with
  | nil => intros; rfl
  | cons S A ih => intro f; simp [layA, arn, ih]
  | src A ih => intro f; simp [layA, arn, ih]
theorem layA_at {E : Type} {K : PySem.W.Frag} {W : WS} {H : Hp} {P : WS} {env : E} : ∀ {τ : Type} {A : Ar τ} {f : E → τ} {vs : List V} {i : Nat} {s : Sl E}, ArOk K W H P A vs (f env) → (layA A f)[i]? = some s →
    (srB A i = false ∧ ∃ (α : Type) (S : Rp α) (g : E → α) (v : V), s = .im S g ∧ vs[i]? = some v ∧ S.r K W H v (g env)) ∨ (srB A i = true ∧ s = .sr ∧ ∃ p, vs[i]? = some (.ref p) ∧ P p) := by
  intro τ A
  induction A with
  | nil => intro f vs i s _ h; simp [layA] at h
  | cons S A ih =>
    rintro f vs i s ⟨v, us, rfl, h1, h2⟩ h
    cases i with
    | zero =>
      simp only [layA, List.getElem?_cons_zero, Option.some.injEq] at h
      subst h
      exact .inl ⟨rfl, _, S, _, v, rfl, rfl, h1⟩
    | succ i => exact ih (f := fun e => (f e).2) (i := i) h2 h
  | src A ih =>
    rintro f vs i s ⟨v, us, rfl, h1, h2⟩ h
    cases i with
    | zero =>
      simp only [layA, List.getElem?_cons_zero, Option.some.injEq] at h
      subst h
      exact .inr ⟨rfl, rfl, v, rfl, h1⟩
    | succ i => exact ih (i := i) h2 h
theorem srB_lt : ∀ {τ : Type} {A : Ar τ} {i : Nat}, srB A i = true → i < arn A := by
  intro τ A
  induction A with
  | nil => intro i h; simp [srB] at h
  | cons S A ih =>
    intro i h
    cases i with
    | zero => simp [srB] at h
    | succ i => simpa [arn] using ih (i := i) h
  | src A ih =>
    intro i h
    cases i with
    | zero => simp [arn]
    | succ i => simpa [arn] using ih (i := i) h
theorem srB_none : ∀ {τ : Type} {A : Ar τ} {i : Nat}, srs A = 0 → srB A i = false := by
  intro τ A
  induction A with
  | nil => intros; rfl
  | cons S A ih =>
    intro i h
    cases i with
    | zero => rfl
    | succ i => exact ih (i := i) h
  | src A ih => intro i h; simp [srs] at h
theorem srB_one : ∀ {τ : Type} {A : Ar τ} {i j : Nat}, srs A ≤ 1 → srB A i = true → srB A j = true → i = j := by
  intro τ A
  induction A with
  | nil => intro i j _ h; simp [srB] at h
  | cons S A ih =>
    intro i j h hi hj
    cases i with
    | zero => simp [srB] at hi
    | succ i =>
      cases j with
      | zero => simp [srB] at hj
      | succ j => rw [ih (i := i) (j := j) h hi hj]
  | src A ih =>
    intro i j h hi hj
    have z : srs A = 0 := by simp only [srs] at h; omega
    cases i with
    | zero =>
      cases j with
      | zero => rfl
      | succ j =>
        have := srB_none (i := j) z
        rw [show srB A j = true from hj] at this
        cases this
    | succ i =>
      have := srB_none (i := i) z
      rw [show srB A i = true from hi] at this
      cases this
theorem ownA_some {τ : Type} {A : Ar τ} {vs : List V} {i : Nat} {a : Addr} (h : ownA A vs i = some a) : srB A i = true ∧ vs[i]? = some (.ref a) := by
  unfold ownA at h
  split at h
  · rename_i hs
    refine ⟨hs, ?_⟩
    split at h
    · rename_i b e
      rw [e, Option.some.inj h]
    · cases h
  · cases h
theorem start_St {E τ : Type} {K : PySem.W.Frag} {W : WS} {H : Hp} {A : Ar τ} {vs : List V} {n : Nat} {N : List Str} {env : E} {f : E → τ} (one : srs A ≤ 1) (hN : N.length = arn A + n) (dom : ∀ a, W a → OwO (H a)) (ok : ArOk K W H (fun p => W p ∧ SrcAt H p) A vs (f env)) :
    St K ⟨H, W, Bof A vs⟩ (layA A f ++ List.replicate n .any) (start N vs) H env (ownA A vs) := by
  have lv := ok.len
  have ll : (layA A f : List (Sl E)).length = arn A := layA_len
  have less : ∀ a, Wb ⟨H, W, Bof A vs⟩ (ownA A vs) a → W a := fun a z => by
    rcases z with z | ⟨i, z⟩
    · exact z
    · obtain ⟨h1, h2⟩ := ownA_some z
      obtain ⟨p, h3, h4⟩ := ok.at h1
      rw [h2] at h3
      cases h3
      exact h4.1
  refine ⟨?_, fun a o _ h => h, dom, fun a ⟨i, h1, h2⟩ => ?_, fun a ⟨i, h1, h2⟩ => ?_, fun i j a h1 h2 => srB_one one (ownA_some h1).1 (ownA_some h2).1, fun i hi => ?_, fun i s hs => ?_⟩
  · unfold L2.start
    simp [lv, ll, hN]
  · obtain ⟨p, h3, h4⟩ := ok.at h1
    rw [h2] at h3
    cases h3
    exact h4.1
  · have il : i < arn A := srB_lt h1
    have hl : (layA A f : List (Sl E))[i]? = some (layA A f)[i] := List.getElem?_eq_getElem (by rw [ll]; exact il)
    refine ⟨i, ?_, ?_⟩
    · rw [List.getElem?_append_left (by rw [ll]; exact il), hl]
      rcases layA_at ok hl with ⟨z, _⟩ | ⟨_, z, _⟩
      · rw [show srB A i = true from h1] at z
        cases z
      · rw [z]
    · unfold ownA
      rw [if_pos (show srB A i = true from h1), h2]
  · unfold ownA
    rw [if_neg]
    intro z
    have il := srB_lt z
    rw [List.getElem?_eq_none_iff, List.length_append, ll] at hi
    omega
  · by_cases il : i < arn A
    · rw [List.getElem?_append_left (by rw [ll]; exact il)] at hs
      have hσ : (start N vs)[i]? = (vs[i]?).map some := by
        unfold L2.start
        rw [List.getElem?_append_left (by rw [List.length_map, lv]; exact il), List.getElem?_map]
      rcases layA_at ok hs with ⟨z, α, S, g, v, rfl, h2, h3⟩ | ⟨z, rfl, p, h2, h3⟩
      · refine ⟨?_, v, by rw [hσ, h2]; rfl, S.mono (Ge.less less) h3⟩
        unfold ownA
        rw [z, if_neg (by decide)]
      · refine ⟨p, ?_, by rw [hσ, h2]; rfl, .inl ⟨i, z, h2⟩, h3.2⟩
        unfold ownA
        rw [if_pos z, h2]
    · rw [List.getElem?_append_right (by rw [ll]; omega), List.getElem?_replicate] at hs
      split at hs
      · cases hs
        show ownA A vs i = none
        unfold ownA
        rw [if_neg (fun z => il (srB_lt z))]
      · cases hs
/-- a def that hands a value back -/
theorem body_T {τ Λ ρ : Type} {X : Cx} {K : PySem.W.Frag} {A : Ar τ} {R : RetR ρ} {n : Nat} {N : List Str} {L' : List (Sl (τ × Λ))} {body : List Stmt} {wb : τ × Λ → Kn (τ × Λ) ρ → Prop} {vs : List V} {H : Hp} {Q : VK} {E : XK} (l0 : Λ) (hb : TS (fun _ : Unit => X) K R (layA A Prod.fst ++ List.replicate n .any) L' body wb) (one : srs A ≤ 1) (hN : N.length = arn A + n)
    (h : spT K A R (fun x k => wb (x, l0) ⟨fun _ => False, k⟩) vs H Q E) : ∃ t, PSs X body t ∧ t { nx := fun _ H' => Q .non H', rt := Q } (start N vs) H := by
  obtain ⟨W, x, dom, ok, hw⟩ := h
  obtain ⟨t, p, f⟩ := hb.ex
  exact ⟨t, p (), f _ _ _ (x, l0) _ _ (start_St (f := Prod.fst) one hN dom ok) (hb.mono (x, l0) ⟨fun _ => False, fun r => R.to K ⟨H, W, Bof A vs⟩ Q r⟩ _ (fun _ z => z.elim) (fun r z => z) hw)⟩
theorem spT_len {τ ρ : Type} {K : PySem.W.Frag} {A : Ar τ} {R : RetR ρ} {w : τ → (ρ → Prop) → Prop} {vs : List V} {H : Hp} {Q : VK} {E : XK} (h : spT K A R w vs H Q E) : vs.length = arn A := by
  obtain ⟨W, x, dom, ok, hw⟩ := h
  exact ok.len
end Tx
/-! comprehensions -/
namespace Tx
open PySem PySem.Spec PyProof.Rows L2 Gx
def plainS {E : Type} : Sl E → Bool
  | .any => true
  | .im _ _ => true
  | _ => false
def okW {E : Type} (L : List (Sl E)) (v : Nat) : Bool := match L[v]? with
  | some s => plainS s
  | none => false
def wipeL {E : Type} (L : List (Sl E)) : List Nat → List (Sl E)
  | [] => L
  | v :: vs => (wipeL L vs).set v .any
theorem wipeL_at {E : Type} {L : List (Sl E)} {i : Nat} : ∀ {vs : List Nat}, (wipeL L vs)[i]? = if i ∈ vs then (L[i]?).map (fun _ => .any) else L[i]?
  | [] => by simp [wipeL]
  | v :: vs => by
    show ((wipeL L vs).set v .any)[i]? = _
    have len : ∀ vs : List Nat, (wipeL L vs).length = L.length := by
      intro vs
      induction vs with
      | nil => rfl
      | cons v vs ih => simp [wipeL, ih]
    by_cases h : i = v
    · subst h
      rw [if_pos List.mem_cons_self]
      by_cases l : i < L.length
      · rw [List.getElem?_set_self (by rw [len]; exact l), List.getElem?_eq_getElem l]
        rfl
      · rw [List.getElem?_eq_none (by rw [List.length_set, len]; omega), List.getElem?_eq_none (by omega)]
        rfl
    · rw [List.getElem?_set_ne (Ne.symm h), wipeL_at (vs := vs)]
      by_cases m : i ∈ vs
      · rw [if_pos m, if_pos (List.mem_cons_of_mem _ m)]
      · rw [if_neg m, if_neg (fun z => (List.mem_cons.mp z).elim h m)]
theorem wipeL_len {E : Type} {L : List (Sl E)} : ∀ vs : List Nat, (wipeL L vs).length = L.length := by
  intro vs
  induction vs with
  | nil => rfl
  | cons v vs ih => simp [wipeL, ih]
section
variable {E : Type} {K : PySem.W.Frag} {c : Bc} {L : List (Sl E)} {σ : L2.St} {H H' : Hp} {e : E} {own : Own} {vs : List Nat} {D : Addr}
theorem Sr.wipe (ok : ∀ v ∈ vs, okW L v = true) (a : Addr) : Sr (wipeL L vs) own a ↔ Sr L own a := by
  constructor
  · rintro ⟨i, h1, h2⟩
    rw [wipeL_at] at h1
    split at h1
    · cases q : L[i]? <;> rw [q] at h1 <;> cases h1
    · exact ⟨i, h1, h2⟩
  · rintro ⟨i, h1, h2⟩
    refine ⟨i, ?_, h2⟩
    rw [wipeL_at, if_neg]
    · exact h1
    · intro z
      have := ok i z
      unfold okW at this
      rw [h1] at this
      cases this
theorem St.wipe (s : St K c L σ H e own) (ok : ∀ v ∈ vs, okW L v = true) : St K c (wipeL L vs) (L2.wipe σ vs) H e own := by
  refine ⟨by rw [wipe_length, wipeL_len, s.len], s.stay, s.dom, s.bw, fun a h => ?_, s.inj, fun i h => s.out i ?_, fun i sl h => ?_⟩
  · obtain ⟨i, h1, h2⟩ := (Sr.wipe ok a).mpr (let ⟨i, h1, h2⟩ := s.bs a h; ⟨i, h1, h2⟩)
    exact ⟨i, h1, h2⟩
  · rw [List.getElem?_eq_none_iff, wipeL_len] at h
    exact List.getElem?_eq_none h
  · rw [wipeL_at] at h
    rw [wipe_at]
    split at h
    · rename_i m
      rw [if_pos m]
      have o := ok i m
      unfold okW at o
      cases q : L[i]? with
      | none =>
        rw [q] at h
        cases h
      | some s0 =>
        rw [q] at h o
        cases h
        have q0 := s.slot i s0 q
        cases s0 with
        | any => exact q0
        | im S g => exact q0.1
        | ow S g => cases o
        | ox R g => cases o
        | sr => cases o
    · rename_i m
      rw [if_neg m]
      exact s.slot i sl h
/-- a list D of one's own that no slot knows -/
def withD (c : Bc) (D : Addr) : Bc := ⟨c.H0, fun a => c.W a ∨ a = D, c.B⟩
theorem St.notD (s : St K c L σ H e own) (hD : H D = none) : ∀ i, own i ≠ some D := fun i z => by
  obtain ⟨o, ho⟩ := (s.has z).some
  rw [hD] at ho
  cases ho
theorem geD (hD : H D = none) (k : ∀ a o, ¬ Wb c own a → H a = some o → H' a = some o) : Ge (Wb c own) H (Wb (withD c D) own) H' := fun a o n h => ⟨fun z => by
  rcases z with (z | z) | z
  · exact n (.inl z)
  · rw [z, hD] at h
    cases h
  · exact n (.inr z), k a o n h⟩
theorem St.withD (s : St K c L σ H e own) (hD : H D = none) {o : HO} (lo : OwO (some o) := by exact .inl ⟨_, rfl⟩) : St K (Tx.withD c D) L σ (upd H D o) e own := by
  have s' := s.ex (s.exSame (Same.new (p := D) (o := o) hD))
  have ge : Ge (Wb c own) H (Wb (Tx.withD c D) own) (upd H D o) := geD hD fun a u _ h => upd_old h hD
  refine ⟨s.len, s'.stay, fun a z => ?_, fun a z => .inl (s.bw a z), s.bs, s.inj, s.out, fun i sl h => ?_⟩
  · rcases z with z | z
    · exact s'.dom a z
    · rw [z, upd_same]; exact lo
  · have q := s.slot i sl h
    have q' := s'.slot i sl h
    cases sl with
    | any => exact q
    | im S g =>
      obtain ⟨h1, v, h2, h3⟩ := q
      exact ⟨h1, v, h2, S.mono ge h3⟩
    | ow S g =>
      obtain ⟨a, us, h1, h2, h3, h4, h5⟩ := q
      refine ⟨a, us, h1, h2, ⟨h3.1, fun z => ?_⟩, upd_old h4 hD, S.pmono ge h5⟩
      rcases z with z | z
      · exact h3.2 z
      · exact s.notD hD i (by rw [h1, z])
    | ox R g =>
      obtain ⟨a, us, h1, h2, h3, h4, h5⟩ := q
      refine ⟨a, us, h1, h2, ⟨h3.1, fun z => ?_⟩, upd_old h4 hD, R.mono ge h5⟩
      rcases z with z | z
      · exact h3.2 z
      · exact s.notD hD i (by rw [h1, z])
    | sr => exact q'
theorem St.putD (s : St K (Tx.withD c D) L σ H e own) (nD : ∀ i, own i ≠ some D) (n0 : c.H0 D = none) {o : HO} (lo : OwO (some o) := by exact .inl ⟨_, rfl⟩) : St K (Tx.withD c D) L σ (upd H D o) e own := by
  have ge : Ge (Wb (Tx.withD c D) own) H (Wb (Tx.withD c D) own) (upd H D o) := fun a u n h => ⟨n, by rw [upd_ne (fun z => n (.inl (.inr z)))]; exact h⟩
  refine ⟨s.len, fun a u nb h => ?_, fun a z => ?_, s.bw, s.bs, s.inj, s.out, fun i sl h => ?_⟩
  · rw [upd_ne (fun z => by rw [z] at h; rw [show (Tx.withD c D).H0 D = none from n0] at h; cases h)]
    exact s.stay a u nb h
  · by_cases z2 : a = D
    · rw [z2, upd_same]; exact lo
    · rw [upd_ne z2]
      exact s.dom a z
  · have q := s.slot i sl h
    cases sl with
    | any => exact q
    | im S g =>
      obtain ⟨h1, v, h2, h3⟩ := q
      exact ⟨h1, v, h2, S.mono ge h3⟩
    | ow S g =>
      obtain ⟨a, us, h1, h2, h3, h4, h5⟩ := q
      exact ⟨a, us, h1, h2, h3, by rw [upd_ne (fun z => nD i (by rw [h1, z]))]; exact h4, S.pmono ge h5⟩
    | ox R g =>
      obtain ⟨a, us, h1, h2, h3, h4, h5⟩ := q
      exact ⟨a, us, h1, h2, h3, by rw [upd_ne (fun z => nD i (by rw [h1, z]))]; exact h4, R.mono ge h5⟩
    | sr =>
      obtain ⟨p, h1, h2, h3, x, y, h4, h5⟩ := q
      exact ⟨p, h1, h2, h3, x, y, by rw [upd_ne (fun z => nD i (by rw [h1, z]))]; exact h4, h5⟩
end
def wComp {E α β : Type} (wt : E × α → (Bool → Prop) → Prop) (we : E × α → (β → Prop) → Prop) : List α → List β → E → (List β → Prop) → Prop
  | [], acc, _, k => k acc
  | x :: xs, acc, e, k => wt (e, x) fun b => if b = true then we (e, x) fun y => wComp wt we xs (acc ++ [y]) e k else wComp wt we xs acc e k
theorem wComp.mono {E α β : Type} {wt : E × α → (Bool → Prop) → Prop} {we : E × α → (β → Prop) → Prop} (ht : Mono wt) (hw : Mono we) : ∀ (xs : List α) (acc : List β) (e : E) (k k' : List β → Prop), (∀ x, k x → k' x) → wComp wt we xs acc e k → wComp wt we xs acc e k'
  | [], acc, e, k, k', h, z => h _ z
  | x :: xs, acc, e, k, k', h, z => ht _ _ _ (fun b hb => by
      cases b
      · exact wComp.mono ht hw xs acc e k k' h hb
      · exact hw _ _ _ (fun y hy => wComp.mono ht hw xs _ e k k' h hy) hb) z
section
variable {E α β ι : Type} {X : ι → Cx} {K : PySem.W.Frag} {L : List (Sl E)} {Lin : List (Sl (E × α))} {S : Rp α} {T : Rp β} {elt tg iter : Expr} {ifs : List Expr} {scope : Scope} {bown : List (Str × Nat)} {pos : Pos} {wi : E → (List α → Prop) → Prop}
abbrev BlkI (ι : Type) := ι × Shared × Hp × Addr × List (Str × Addr) × List Addr
abbrev blkF (X : ι → Cx) (scope : Scope) : BlkI ι → Cx := fun p => (X p.1).blk p.2.1 p.2.2.1 scope (compEnvC scope p.2.2.2.2.1 p.2.2.2.1 (X p.1).env) p.2.2.2.2.2
theorem lc_both {is : List Nat} {wt : E × α → (Bool → Prop) → Prop} {we : E × α → (β → Prop) → Prop} (hc : ∀ j, (X j).calm = true) (hN : ∀ j, (X j).N.Nodup) (hi : TIt X K L S tg iter wi) (ok : ∀ j, BlkOk (X j).N (X j).env.scope scope bown)
    (okv : ∀ v ∈ bown.map (·.2), okW L v = true) (his : ∀ i ∈ is, i ∈ bown.map (·.2)) (ht : TGt (blkF X scope) K (wipeL L (bown.map (·.2))) S tg is Lin)
    (htt : ∃ tt, (∀ p, PTs (blkF X scope p) ifs tt) ∧ ∀ (c : Bc) (σ : L2.St) (H : Hp) (env : E × α) (own : Own) (Q : Bool → Hp → Prop), St K c Lin σ H env own → wt env (fun b => ∀ H', Ex Lin own H H' → Q b H') → tt σ H Q) (mt : Mono wt) (he : TX (blkF X scope) K Lin T elt we)
    (hs : ∀ j x, foldedSetIterable iter (X j).env x = pure x := by intro _ _; rfl) : (Mono fun env k => wi env fun xs => xs.length ≤ sizeLine ∧ wComp wt we xs [] env k) ∧ ∃ t, (∀ j, PE (X j) (.ListComp elt [⟨tg, iter, ifs, 0⟩] scope pos) t) ∧
    (∀ (y : Str) (py spos : Pos) (i : Nat), (∀ j, (X j).N[i]? = some y) → (∀ j, (X j).env.scope.names.lookup y = some .local) → (∀ j, swapsWith (.ListComp elt [⟨tg, iter, ifs, 0⟩] scope pos) (some (.Name y py)) spos.line (X j).env = pure true) → ∀ j, PS (X j) (.Assign [.Name y py] (.ListComp elt [⟨tg, iter, ifs, 0⟩] scope pos) spos) (tAsg t (gName i))) ∧
    ∀ (c : Bc) (σ : L2.St) (H : Hp) (env : E) (own : Own) (Q : VK), St K c L σ H env own →
      (wi env fun xs => xs.length ≤ sizeLine ∧ wComp wt we xs [] env fun xs => ∀ l vs H', H l = none → Ex L own H H' → H' l = some (.lst vs) → Paired (T.r K (fun a => Wb c own a ∨ a = l) H') vs xs → Q (.ref l) H') → t σ H Q := by
  obtain ⟨wi', pi, fi⟩ := hi.ex
  obtain ⟨g, pg, fg⟩ := ht.ex
  obtain ⟨tt, pt, ft⟩ := htt
  obtain ⟨te, pe, fe⟩ := he.ex
  refine ⟨fun e k k' h hw => hi.mono _ _ _ (fun xs hx => ⟨hx.1, wComp.mono mt he.mono xs [] e k k' h hx.2⟩) hw, _, fun j => pe_lc (hc j) (hN j) (pi j) (ok j) (fun s H C cl fp => pg (j, s, H, C, cl, fp)) (fun s H C cl fp => pt (j, s, H, C, cl, fp)) (fun s H C cl fp => pe (j, s, H, C, cl, fp)) (hs j), fun y py spos i hi hy hsw j => ps_setLc (hc j) (hN j) (hi j) (hy j) (hsw j) (pi j) (ok j) (fun s H C cl fp => pg (j, s, H, C, cl, fp)) (fun s H C cl fp => pt (j, s, H, C, cl, fp)) (fun s H C cl fp => pe (j, s, H, C, cl, fp)) (hs j), fun c σ H env own Q s hw => ?_⟩
  refine fi c σ H env own _ s (hi.mono _ _ _ (fun xs hx J H1 G Y x1 wk iok D hD => ?_) hw)
  have s1 := s.ex x1
  have nD := s1.notD hD
  have n0 : c.H0 D = none := (s1.fresh0 hD).1
  have nsD : ¬ Sr L own D := fun ⟨i, _, z⟩ => nD i z
  have nWD : ¬ Wb c own D := s1.fresh hD
  have upE : ∀ {H' : Hp} {o : HO}, Ex L own H1 H' → Ex L own H1 (upd H' D o) := fun {H' o} x => by
    refine ⟨fun a u n h => ?_, fun a z => ?_⟩
    · rw [upd_ne (ne_of_none h hD)]
      exact x.st a u n h
    · obtain ⟨p, q, e, r⟩ := x.sr a z
      refine ⟨p, q, ?_, r⟩
      rw [upd_ne (fun w => nsD (by rw [← w]; exact z))]
      exact e
  refine lc_it wk (fun i H' => ∃ accv acc, H' D = some (.lst accv) ∧ Paired (T.r K (Wb (withD c D) own) H') accv acc ∧ acc.length ≤ i ∧ Ex L own H1 H' ∧ St K (withD c D) L σ H' env own ∧
    wComp wt we (xs.drop i) acc env (fun zs => ∀ l vs H', H l = none → Ex L own H H' → H' l = some (.lst vs) → Paired (T.r K (fun a => Wb c own a ∨ a = l) H') vs zs → Q (.ref l) H'))
    ⟨[], [], upd_same, .nil, Nat.le_refl _, upE s1.exRefl, s1.withD hD, hx.2⟩ (fun i H' hi z => iok.g (Wb (withD c D) own) H' (geD hD fun a o n h => by
      obtain ⟨accv, acc, eD, pa, la, x', s', hw'⟩ := z
      exact x'.st a o (fun z => n z.wb) h)) (fun i v H2 H3 hi z y => ?_) (fun H' z => ?_)
  · obtain ⟨accv, acc, eD, pa, la, x', s', hw'⟩ := z
    obtain ⟨k, x, hx', rx⟩ := iok.y _ H2 H3 i v (geD hD fun a o n h => x'.st a o (fun z => n z.wb) h) (fun l hl => s'.fresh hl) hi y
    have ed : xs.drop i = x :: xs.drop (i + 1) := by
      obtain ⟨h1, h2⟩ := List.getElem?_eq_some_iff.mp hx'
      rw [← h2]
      exact List.drop_eq_getElem_cons h1
    rw [ed] at hw'
    have s3 := s'.ex (s'.exSame k)
    have x3 : Ex L own H1 H3 := x'.trans (s'.exSame k)
    have eD3 := k _ _ eD
    refine fg _ (wipe σ (bown.map (·.2))) H3 env own x v _ (s3.wipe okv) rx ?_
    intro σ2 own2 s2 bd
    refine ⟨bd.ag.wiped his, ?_⟩
    have sr2' : ∀ a, Sr Lin own2 a ↔ Sr L own a := fun a => (bd.sr a).trans (Sr.wipe okv a)
    have back : ∀ {G G' : Hp}, Ex Lin own2 G G' → Ex L own G G' := fun {G G'} z => ⟨fun a o n h => z.st a o (fun w => n ((sr2' a).mp w)) h, fun a w => z.sr a ((sr2' a).mpr w)⟩
    refine ft _ σ2 H3 (env, x) own2 _ s2 (mt _ _ _ (fun b hb H4 x4 => ?_) hw')
    have s4 := s3.ex (back x4)
    have eD4 : H4 D = some (.lst accv) := (back x4).st _ _ nsD eD3
    have g4 : Ge (Wb (withD c D) own) H2 (Wb (withD c D) own) H4 := (Ge.same k).trans (back x4).ge
    cases b with
    | false =>
      rw [if_neg Bool.false_ne_true] at hb ⊢
      exact ⟨accv, acc, eD4, T.pmono g4 pa, by omega, x3.trans (back x4), s4, hb⟩
    | true =>
      rw [if_pos rfl] at hb ⊢
      refine fe _ σ2 H4 (env, x) own2 _ (s2.ex x4) (he.mono _ _ _ (fun y hy u H5 x5 r5 => ?_) hb)
      have s5 := s4.ex (back x5)
      have eD5 : H5 D = some (.lst accv) := (back x5).st _ _ nsD eD4
      have lv : accv.length = acc.length := Paired.length pa
      have lx := hx.1
      refine ⟨accv, eD5, by omega, accv ++ [u], acc ++ [y], upd_same, ?_, by simp only [List.length_append, List.length_singleton]; omega, upE (x3.trans ((back x4).trans (back x5))), s5.putD nD n0, hy⟩
      have eqo : ∀ i, own2 i = own i := fun i => by
        by_cases h : i ∈ is
        · have ow : own i = none := by
            have hv := his i h
            have o := okv i hv
            unfold okW at o
            cases q : L[i]? with
            | none => exact s1.out i q
            | some s0 =>
              rw [q] at o
              have q0 := s1.slot i s0 q
              cases s0 with
              | any => exact q0
              | im S g => exact q0.1
              | ow S g => cases o
              | ox R g => cases o
              | sr => cases o
          rw [ow]
          exact bd.no i h
        · exact bd.so i h
      have gD : Ge (Wb (withD c D) own) H5 (Wb (withD c D) own) (upd H5 D (.lst (accv ++ [u]))) := fun a o n h => ⟨n, by rw [upd_ne (fun z => n (.inl (.inr z)))]; exact h⟩
      refine Paired.snoc (T.pmono ((g4.trans (back x5).ge).trans gD) pa) ?_
      refine T.mono ((Ge.less fun a z => ?_).trans gD) r5
      rcases z with z | ⟨i, z⟩
      · exact .inl z
      · exact .inr ⟨i, by rw [eqo]; exact z⟩
  · obtain ⟨accv, acc, eD, pa, la, x', s', hw'⟩ := z
    rw [List.drop_length] at hw'
    refine hw' D accv H' (Ex.none s x1 hD) (x1.trans x') eD (T.pmono (Ge.less fun a z => ?_) pa)
    rcases z with (z | z) | z
    · exact .inl (.inl z)
    · exact .inr z
    · exact .inl (.inr z)
theorem tn_lc {is : List Nat} {wt : E × α → (Bool → Prop) → Prop} {we : E × α → (β → Prop) → Prop} (hc : ∀ j, (X j).calm = true) (hN : ∀ j, (X j).N.Nodup) (hi : TIt X K L S tg iter wi) (ok : ∀ j, BlkOk (X j).N (X j).env.scope scope bown)
    (okv : ∀ v ∈ bown.map (·.2), okW L v = true) (his : ∀ i ∈ is, i ∈ bown.map (·.2)) (ht : TGt (blkF X scope) K (wipeL L (bown.map (·.2))) S tg is Lin)
    (htt : ∃ tt, (∀ p, PTs (blkF X scope p) ifs tt) ∧ ∀ (c : Bc) (σ : L2.St) (H : Hp) (env : E × α) (own : Own) (Q : Bool → Hp → Prop), St K c Lin σ H env own → wt env (fun b => ∀ H', Ex Lin own H H' → Q b H') → tt σ H Q) (mt : Mono wt) (he : TX (blkF X scope) K Lin T elt we)
    (hs : ∀ j x, foldedSetIterable iter (X j).env x = pure x := by intro _ _; rfl) : TN X K L T (.ListComp elt [⟨tg, iter, ifs, 0⟩] scope pos) (fun env k => wi env fun xs => xs.length ≤ sizeLine ∧ wComp wt we xs [] env k) := by
  obtain ⟨m, t, p, _, f⟩ := lc_both hc hN hi ok okv his ht htt mt he hs
  exact ⟨m, t, p, f⟩
end
end Tx
/-! rules by values: numbers, texts, lists, tuples -/
namespace Tx
open PySem PySem.Spec PyProof.Rows L2 Gx
section
variable {X : Cx} {K : PySem.W.Frag}
def rCatB (K : PySem.W.Frag) : R2 := fun x y H Q => ∃ a b xs ys, x = .ref a ∧ y = .ref b ∧ SqT K H a xs ∧ SqT K H b ys ∧ xs.length + ys.length ≤ sizeLine ∧ (xs = [] → Q (.ref b) H) ∧ (ys = [] → Q (.ref a) H) ∧ ∀ p, H p = none → Q (.ref p) (upd H p (.tup (xs ++ ys)))
theorem op_catB : OpR X (binaryOp .Add) (rCatB X.K) := by
  intro pins s σ H x y v u Q I rx ry h
  obtain ⟨a, b, xs, ys, rfl, rfl, ha, hb, hz, q1, q2, q3⟩ := h
  by_cases hx : xs = []
  · subst hx
    cases rx
    cases ry
    obtain ⟨its, r1, p1, _⟩ := I.tuple ha
    obtain ⟨its2, r2, p2, _⟩ := I.tuple hb
    have he : its = [] := r1.nil_iff.mpr rfl
    obtain ⟨⟨c1, dd, dt, sl⟩, ho, hc, n, hd⟩ := id p1
    obtain ⟨⟨c2, dd2, dt2, sl2⟩, ho2, hc2, n2, hd2⟩ := id p2
    simp only at hc hd hc2 hd2
    subst hc hd hc2 hd2
    exact concat_meets ⟨_, ho, rfl⟩ ⟨_, ho2, rfl⟩ noFill_tuple_add seq_tuple_add PySem.F.slot_tuple_add PySem.F.entry_tuple_add (PySem.F.args_tuple_add_2 _ _) (add_empty a b its.toArray its2.toArray n n2 dd dd2 sl sl2 (by simp [he])) ⟨ho, ho2, ⟨.ref b, H, I, rfl, q1 rfl⟩⟩
  · exact op_catT pins s σ H (.ref a) (.ref b) v u Q I rx ry ⟨a, b, xs, ys, rfl, rfl, ha, hb, hx, hz, q2, fun _ p hp => q3 p hp⟩
theorem op_catBK (h : X.K = K) : OpR X (binaryOp .Add) (rCatB K) := h ▸ op_catB
theorem sl_listK (h : X.K = K) : SlR X (rSlL K) := h ▸ sl_list
end
theorem geNew {W : WS} {H : Hp} {l : Addr} {o : HO} (hl : H l = none) : Ge W H (fun a => W a ∨ a = l) (upd H l o) := fun c u nc hc => by
  refine ⟨fun z => ?_, upd_old hc hl⟩
  rcases z with z | z
  · exact nc z
  · rw [z, hl] at hc
    cases hc
theorem p_str {K : PySem.W.Frag} {W : WS} {H : Hp} : ∀ {vs : List V} {xs : List Str}, Paired (strR.r K W H) vs xs → vs = xs.map V.str
  | _, _, .nil => rfl
  | _, _, .cons h t => by rw [show _ = V.str _ from h, p_str t]; rfl
theorem atI_p {α : Type} {R : V → α → Prop} {vs : List V} {xs : List α} {i : Int} {x : α} (p : Paired R vs xs) (h : atI xs i = some x) : ∃ v, atI vs i = some v ∧ R v x := by
  unfold atI at h ⊢
  rw [Paired.length p]
  obtain ⟨j, h1, h2⟩ := Option.bind_eq_some_iff.mp h
  rw [h1]
  have go : ∀ {vs : List V} {xs : List α} {j : Nat}, Paired R vs xs → xs[j]? = some x → ∃ v, vs[j]? = some v ∧ R v x := by
    intro vs xs j p
    induction p generalizing j with
    | nil => intro h; simp at h
    | cons hh t ih =>
      intro hj
      cases j with
      | zero =>
        simp at hj
        subst hj
        exact ⟨_, rfl, hh⟩
      | succ j => exact ih (j := j) (by simpa using hj)
  exact go p h2
def cutL {α : Type} (xs : List α) (lo hi : Option Int) : List α := (xs.drop (HT.sIx xs.length 0 lo)).take (HT.sIx xs.length xs.length hi - HT.sIx xs.length 0 lo)
theorem Paired.tk' {α β : Type} {R : α → β → Prop} : ∀ {xs : List α} {ys : List β} (n : Nat), Paired R xs ys → Paired R (xs.take n) (ys.take n)
  | _, _, 0, _ => .nil
  | _, _, _ + 1, .nil => .nil
  | _, _, n + 1, .cons h t => .cons h (Paired.tk' n t)
theorem Paired.dr' {α β : Type} {R : α → β → Prop} : ∀ {xs : List α} {ys : List β} (n : Nat), Paired R xs ys → Paired R (xs.drop n) (ys.drop n)
  | _, _, 0, h => h
  | _, _, _ + 1, .nil => .nil
  | _, _, n + 1, .cons h t => Paired.dr' n t
theorem Paired.ap' {α β : Type} {R : α → β → Prop} : ∀ {xs as : List α} {ys bs : List β}, Paired R xs ys → Paired R as bs → Paired R (xs ++ as) (ys ++ bs)
  | _, _, _, _, .nil, k => k
  | _, _, _, _, .cons h t, k => .cons h (Paired.ap' t k)
theorem Paired.rv' {α β : Type} {R : α → β → Prop} {xs : List α} {ys : List β} (h : Paired R xs ys) : Paired R xs.reverse ys.reverse := by
  induction h with
  | nil => exact .nil
  | cons h t ih => rw [List.reverse_cons, List.reverse_cons]; exact Paired.ap' ih (.cons h .nil)
theorem cut_p {α : Type} {R : V → α → Prop} {vs : List V} {xs : List α} {lo hi : Option Int} (p : Paired R vs xs) : Paired R (cutV vs lo hi) (cutL xs lo hi) := by
  unfold cutV cutL
  rw [Paired.length p]
  exact Paired.tk' _ (Paired.dr' _ p)
section
variable {α β : Type} {K : PySem.W.Frag} {S : Rp α}
theorem v_ixL : VR2 K (lstR S) intR S (rIxL K) (fun xs i k => ∃ x, atI xs i = some x ∧ k x) := ⟨fun x y k k' h ⟨z, h1, h2⟩ => ⟨z, h1, h _ h2⟩, fun W H xs i v u Q fr r1 r2 ⟨x, hx, q⟩ => by
  obtain ⟨a, vs, rfl, n, e, p⟩ := r1
  cases r2
  obtain ⟨w, hw, rw'⟩ := atI_p p hx
  exact ⟨a, vs, i, w, rfl, rfl, SqL.of e, hw, q w H (Same.refl _) rw'⟩⟩
theorem v_I0 {f : Int → Int → Int} : VR2 K intR intR intR (rI0 fun i j => .int (f i j)) (fun i j k => k (f i j)) := ⟨fun x y k k' h h2 => h _ h2, fun W H i j v u Q fr r1 r2 q => by
  cases r1
  cases r2
  exact ⟨i, j, rfl, rfl, q _ H (Same.refl _) rfl⟩⟩
theorem v_B0 {f : Int → Int → Bool} : VR2 K intR intR boolR (rI0 fun i j => .bl (f i j)) (fun i j k => k (f i j)) := ⟨fun x y k k' h h2 => h _ h2, fun W H i j v u Q fr r1 r2 q => by
  cases r1
  cases r2
  exact ⟨i, j, rfl, rfl, q _ H (Same.refl _) rfl⟩⟩
theorem v_eqS : VR2 K strR strR boolR rEq (fun x y k => k (decide (x = y))) := ⟨fun x y k k' h h2 => h _ h2, fun W H i j v u Q fr r1 r2 q => by
  cases r1
  cases r2
  exact ⟨rfl, q _ H (Same.refl _) (by show V.bl _ = V.bl _; simp)⟩⟩
theorem v_neS : VR2 K strR strR boolR rNe (fun x y k => k (!decide (x = y))) := ⟨fun x y k k' h h2 => h _ h2, fun W H i j v u Q fr r1 r2 q => by
  cases r1
  cases r2
  exact ⟨rfl, q _ H (Same.refl _) (by show V.bl _ = V.bl _; simp)⟩⟩
theorem v_eqI : VR2 K intR intR boolR rEq (fun x y k => k (decide (x = y))) := ⟨fun x y k k' h h2 => h _ h2, fun W H i j v u Q fr r1 r2 q => by
  cases r1
  cases r2
  exact ⟨rfl, q _ H (Same.refl _) (by show V.bl _ = V.bl _; simp)⟩⟩
theorem v_neI : VR2 K intR intR boolR rNe (fun x y k => k (!decide (x = y))) := ⟨fun x y k k' h h2 => h _ h2, fun W H i j v u Q fr r1 r2 q => by
  cases r1
  cases r2
  exact ⟨rfl, q _ H (Same.refl _) (by show V.bl _ = V.bl _; simp)⟩⟩
theorem v_ninT : VR2 K strR (tupR strR) boolR (rIn K true) (fun x ys k => k (!decide (x ∈ ys))) := ⟨fun x y k k' h h2 => h _ h2, fun W H z ys v u Q fr r1 r2 q => by
  cases r1
  obtain ⟨a, vs, rfl, e, p⟩ := r2
  rw [p_str p] at e
  refine ⟨a, _, rfl, .inr e.sq, rfl, flat_texts ys, q _ H (Same.refl _) ?_⟩
  show V.bl _ = V.bl _
  rw [if_pos rfl, in_texts]⟩
theorem v_inL : VR2 K strR (lstR strR) boolR (rIn K false) (fun x ys k => k (decide (x ∈ ys))) := ⟨fun x y k k' h h2 => h _ h2, fun W H z ys v u Q fr r1 r2 q => by
  cases r1
  obtain ⟨a, vs, rfl, n, e, p⟩ := r2
  rw [p_str p] at e
  refine ⟨a, _, rfl, .inl (SqL.of e), rfl, flat_texts ys, q _ H (Same.refl _) ?_⟩
  show V.bl _ = V.bl _
  rw [if_neg Bool.false_ne_true, in_texts]⟩
theorem v_ninL : VR2 K strR (lstR strR) boolR (rIn K true) (fun x ys k => k (!decide (x ∈ ys))) := ⟨fun x y k k' h h2 => h _ h2, fun W H z ys v u Q fr r1 r2 q => by
  cases r1
  obtain ⟨a, vs, rfl, n, e, p⟩ := r2
  rw [p_str p] at e
  refine ⟨a, _, rfl, .inl (SqL.of e), rfl, flat_texts ys, q _ H (Same.refl _) ?_⟩
  show V.bl _ = V.bl _
  rw [if_pos rfl, in_texts]⟩
/-- lists put together -/
theorem v_cat : VN2 K (lstR S) (lstR S) S rCat (fun xs ys k => xs.length + ys.length ≤ sizeLine ∧ k (xs ++ ys)) := ⟨fun x y k k' h h2 => ⟨h2.1, h _ h2.2⟩, fun W H xs ys v u Q fr r1 r2 ⟨hz, q⟩ => by
  obtain ⟨a, vs, rfl, n, e, p⟩ := r1
  obtain ⟨b, us, rfl, n', e', p'⟩ := r2
  refine ⟨a, b, vs, us, rfl, rfl, e, e', by rw [Paired.length p, Paired.length p']; exact hz, fun l hl => q l _ _ hl (Same.new hl) upd_same (S.pmono (geNew hl) (Paired.ap' p p'))⟩⟩
theorem v_catT : VR2 K (tupR S) (tupR S) (tupR S) (rCatB K) (fun xs ys k => xs.length + ys.length ≤ sizeLine ∧ k (xs ++ ys)) := ⟨fun x y k k' h h2 => ⟨h2.1, h _ h2.2⟩, fun W H xs ys v u Q fr r1 r2 ⟨hz, q⟩ => by
  obtain ⟨a, vs, rfl, e, p⟩ := r1
  obtain ⟨b, us, rfl, e', p'⟩ := r2
  refine ⟨a, b, vs, us, rfl, rfl, e.sq, e'.sq, by rw [Paired.length p, Paired.length p']; exact hz, fun z => ?_, fun z => ?_, fun l hl => ?_⟩
  · subst z
    cases p
    exact q _ H (Same.refl _) ⟨b, us, rfl, e', p'⟩
  · subst z
    cases p'
    rw [List.append_nil] at q
    exact q _ H (Same.refl _) ⟨a, vs, rfl, e, p⟩
  · exact q _ _ (Same.new hl) ⟨l, _, rfl, TW.of (fr l hl) upd_same, S.pmono (Ge.same (Same.new hl)) (Paired.ap' p p')⟩⟩
end
/-! ### slices -/
section
variable {E α ι : Type} {X : ι → Cx} {K : PySem.W.Frag} {L : List (Sl E)} {S : Rp α} {e : Expr} {lo hi : Option Expr} {p2 pos : Pos}
structure TO {E ι : Type} (X : ι → Cx) (K : PySem.W.Frag) (L : List (Sl E)) (o : Option Expr) (w : E → (Option Int → Prop) → Prop) : Prop where
  mono : Mono w
  ex : ∃ t, (∀ i, PO (X i) o t) ∧ ∀ (c : Bc) (σ : L2.St) (H : Hp) (env : E) (own : Own) (Q : Option Int → Hp → Prop), St K c L σ H env own → w env (fun x => ∀ H', Ex L own H H' → Q x H') → t σ H Q
theorem to_none : TO X K L none (fun _ k => k none) := ⟨fun _ _ _ h => h _, _, fun _ => po_none, fun c σ H env own Q s hw => hw H s.exRefl⟩
theorem to_some {we : E → (Int → Prop) → Prop} (h : TX X K L intR e we) : TO X K L (some e) (fun env k => we env fun i => k (some i)) := by
  obtain ⟨t, p, f⟩ := h.ex
  exact ⟨fun e k k' hk hw => h.mono _ _ _ (fun x hx => hk _ hx) hw, _, fun i => po_some (p i), fun c σ H env own Q s hw => f c σ H env own _ s (h.mono _ _ _ (fun x hx v H' x' r => ⟨x, r, hx H' x'⟩) hw)⟩
variable {wa : E → (List α → Prop) → Prop} {wl wh : E → (Option Int → Prop) → Prop}
theorem tn_slice (ha : TX X K L (lstR S) e wa) (hl : TO X K L lo wl) (hh : TO X K L hi wh) (hK : ∀ j, (X j).K = K := by intro _; rfl) : TN X K L S (.Subscript e (.Slice lo hi none p2) pos) (fun env k => wa env fun xs => wl env fun l => wh env fun h => k (cutL xs l h)) := by
  obtain ⟨t, p, f⟩ := ha.ex
  obtain ⟨t1, p1, f1⟩ := hl.ex
  obtain ⟨t3, p3, f3⟩ := hh.ex
  refine ⟨fun e k k' hk hw => ha.mono _ _ _ (fun x hx => hl.mono _ _ _ (fun l hll => hh.mono _ _ _ (fun h hhh => hk _ hhh) hll) hx) hw, _, fun i => pe_slice (sl_listK (hK i)) (p i) (p1 i) (p3 i), fun c σ H env own Q s hw => ?_⟩
  refine f c σ H env own _ s (ha.mono _ _ _ (fun xs hx v H1 x1 r => ?_) hw)
  refine f1 c σ H1 env own _ (s.ex x1) (hl.mono _ _ _ (fun l hll H2 x2 => ?_) hx)
  have s2 := (s.ex x1).ex x2
  refine f3 c σ H2 env own _ s2 (hh.mono _ _ _ (fun h hhh H3 x3 => ?_) hll)
  have s3 := s2.ex x3
  obtain ⟨a, vs, rfl, n, e', q⟩ := (lstR S).mono (x2.ge.trans x3.ge) r
  refine ⟨a, vs, rfl, SqL.of e', fun l hl => hhh l _ _ (Ex.none s (x1.trans (x2.trans x3)) hl) (x1.trans (x2.trans (x3.trans (s3.exSame (Same.new hl))))) upd_same (S.pmono (geNew hl) (cut_p q))⟩
end
/-! ### displays -/
structure LstOf {α τ : Type} (A : Ar τ) (S : Rp α) (f : τ → List α) : Prop where
  p : ∀ {K : PySem.W.Frag} {W : WS} {H : Hp} {P : WS} {vs : List V} {x : τ}, ArOk K W H P A vs x → Paired (S.r K W H) vs (f x)
theorem lo_nil {α : Type} {S : Rp α} : LstOf .nil S (fun _ => []) := ⟨fun h => by rw [show _ = [] from h]; exact .nil⟩
theorem lo_cons {α τ : Type} {S : Rp α} {A : Ar τ} {f : τ → List α} (h : LstOf A S f) : LstOf (.cons S A) S (fun x => x.1 :: f x.2) := ⟨fun ⟨v, us, e, h1, h2⟩ => by rw [e]; exact .cons h1 (h.p h2)⟩
structure TupOf {α τ : Type} (A : Ar τ) (U : Rp α) (f : τ → α) : Prop where
  p : ∀ {K : PySem.W.Frag} {W : WS} {H : Hp} {P : WS} {vs : List V} {x : τ} {a : Addr}, ArOk K W H P A vs x → TW K W H a vs → U.r K W H (.ref a) (f x)
theorem tu_of {α τ : Type} {A : Ar τ} {S : Rp α} {f : τ → List α} (h : LstOf A S f) : TupOf A (tupR S) f := ⟨fun ok e => ⟨_, _, rfl, e, h.p ok⟩⟩
theorem tu_pr {α β : Type} {S : Rp α} {T : Rp β} : TupOf (.cons S (.cons T .nil)) (prR S T) (fun x => (x.1, x.2.1)) := ⟨fun ⟨v, us, e, h1, w, ws, e2, h2, e3⟩ t => by
  subst e e2
  rw [show ws = [] from e3] at t
  exact ⟨_, v, w, rfl, t, h1, h2⟩⟩
theorem tu_tri {α β γ : Type} {S : Rp α} {T : Rp β} {U : Rp γ} : TupOf (.cons S (.cons T (.cons U .nil))) (triR S T U) (fun x => (x.1, x.2.1, x.2.2.1)) := ⟨fun ⟨v, us, e, h1, w, ws, e2, h2, z, zs, e3, h3, e4⟩ t => by
  subst e e2 e3
  rw [show zs = [] from e4] at t
  exact ⟨_, v, w, z, rfl, t, h1, h2, h3⟩⟩
theorem tu_ent : TupOf (.cons strR (.cons (tupR strR) (.cons strR (.cons (tupR strR) .nil)))) entR (fun x => ⟨x.1, x.2.1, x.2.2.1, x.2.2.2.1⟩) := ⟨fun ⟨v, us, e, h1, w, ws, e2, h2, z, zs, e3, h3, y, ys, e4, h4, e5⟩ t => by
  subst e e2 e3 e4
  rw [show ys = [] from e5, show v = V.str _ from h1, show z = V.str _ from h3] at t
  exact ⟨_, w, y, rfl, t, h2, h4⟩⟩
theorem tu_base : TupOf (.cons (tupR strR) (.cons (tupR entR) .nil)) baseR (fun x => ⟨x.1, x.2.1⟩) := ⟨fun ⟨v, us, e, h1, w, ws, e2, h2, e3⟩ t => by
  subst e e2
  rw [show ws = [] from e3] at t
  exact ⟨_, v, w, rfl, t, h1, h2⟩⟩
section
variable {E α τ ι : Type} {X : ι → Cx} {K : PySem.W.Frag} {L : List (Sl E)} {S : Rp α} {A : Ar τ} {es : List Expr} {pos : Pos} {wa : E → (τ → Prop) → Prop} {f : τ → List α} {g : τ → α}
theorem tx_tup {x1 : Nat} (ha : TA X K L A es wa) (hu : TupOf A S g) (hn : arn A ≤ 1000 := by decide) : TX X K L S (.Tuple es x1 pos) (fun env k => wa env fun x => k (g x)) := by
  obtain ⟨t, p, h⟩ := ha.ex
  refine ⟨fun e k k' hk hw => ha.mono _ _ _ (fun x hx => hk _ hx) hw, _, fun i => pe_tup (p i), fun c σ H env own Q s hw => h c σ H env own _ s (ha.mono _ _ _ (fun x hx vs H1 x1 ok => ?_) hw)⟩
  have s1 := s.ex x1
  refine ⟨by rw [ok.len]; exact Nat.le_trans hn (by decide), fun t ht => hx _ _ (x1.trans (s1.exSame (Same.new ht))) (hu.p (P := fun _ => True) (ok.imp (Ge.same (Same.new ht)) fun _ _ => trivial) (TW.of (s1.fresh ht) upd_same))⟩
theorem tn_lst (ha : TA X K L A es wa) (hu : LstOf A S f) (hn : arn A ≤ 1000 := by decide) : TN X K L S (.List es pos) (fun env k => wa env fun x => k (f x)) := by
  obtain ⟨t, p, h⟩ := ha.ex
  refine ⟨fun e k k' hk hw => ha.mono _ _ _ (fun x hx => hk _ hx) hw, _, fun i => pe_lst (p i), fun c σ H env own Q s hw => h c σ H env own _ s (ha.mono _ _ _ (fun x hx vs H1 x1 ok => ?_) hw)⟩
  have s1 := s.ex x1
  refine ⟨by rw [ok.len]; exact Nat.le_trans hn (by decide), fun l hl => hx l _ _ (Ex.none s x1 hl) (x1.trans (s1.exSame (Same.new hl))) upd_same (S.pmono (geNew hl) (hu.p ok))⟩
/-! ### built-in functions -/
structure VC {β τ : Type} (K : PySem.W.Frag) (A : Ar τ) (U : Rp β) (r : List V → Hp → VK → Prop) (w : τ → (β → Prop) → Prop) : Prop where
  mono : ∀ x k k', (∀ z, k z → k' z) → w x k → w x k'
  run : ∀ (W : WS) (H : Hp) (x : τ) (vs : List V) (Q : VK), (∀ l, H l = none → ¬ W l) → ArOk K W H (fun _ => True) A vs x → w x (fun z => ∀ v' H', Same H H' → U.r K W H' v' z → Q v' H') → r vs H Q
structure VCN {β τ : Type} (K : PySem.W.Frag) (A : Ar τ) (U : Rp β) (r : List V → Hp → VK → Prop) (w : τ → (List β → Prop) → Prop) : Prop where
  mono : ∀ x k k', (∀ z, k z → k' z) → w x k → w x k'
  run : ∀ (W : WS) (H : Hp) (x : τ) (vs : List V) (Q : VK), (∀ l, H l = none → ¬ W l) → ArOk K W H (fun _ => True) A vs x → w x (fun zs => ∀ l us H', H l = none → Same H H' → H' l = some (.lst us) → Paired (U.r K (fun a => W a ∨ a = l) H') us zs → Q (.ref l) H') → r vs H Q
variable {β : Type} {U : Rp β} {r : List V → Hp → VK → Prop} {e : Expr} {x : Str} {p : Pos}
theorem tx_callB {id : String} {w : τ → (β → Prop) → Prop} (hc : ∀ i, CallR (X i) (.builtin id) r) (hv : VC K A U r w) (hg : ∀ i, Gl (X i) x) (hm : ∀ i, (X i).mg x = none) (hb : bootBuiltins x = some (.builtin id)) (ha : TA X K L A (e :: es) wa) (hn : x ≠ "__name__" := by decide) (hdb : (x == ("__debug__" : Str)) = false := by decide)
    (he : ∀ i, starEach (e :: es) (X i).env = (false, eval e (X i).env) :: starEach es (X i).env := by intro _; rfl) (hpl : ∀ i, (backTo pos (starEach es (X i).env)).any (·.1) = false := by intro _; rfl) : TX X K L U (.Call (.Name x p) (e :: es) [] pos) (fun env k => wa env fun y => w y k) := by
  obtain ⟨t, pt, h⟩ := ha.ex
  refine ⟨fun e k k' hk hw => ha.mono _ _ _ (fun x hx => hv.mono _ _ _ hk hx) hw, _, fun i => pe_callB (hc i) (hg i) (hm i) hb (pt i) hn hdb (he i) (hpl i), fun c σ H env own Q s hw => h c σ H env own _ s (ha.mono _ _ _ (fun y hy vs H1 x1 ok => ?_) hw)⟩
  have s1 := s.ex x1
  exact hv.run _ H1 y vs Q (fun l hl => s1.fresh hl) (ok.imp Ge.refl fun _ _ => trivial) (hv.mono _ _ _ (fun z hz v' H' k' r' => hz v' H' (x1.trans (s1.exSame k')) r') hy)
theorem tx_callTy {T : String} {w : τ → (β → Prop) → Prop} (hc : ∀ i, CallR (X i) (.type T) r) (hv : VC K A U r w) (hg : ∀ i, Gl (X i) x) (hm : ∀ i, (X i).mg x = none) (hb : bootBuiltins x = some (.type T)) (ha : TA X K L A (e :: es) wa) (hn : x ≠ "__name__" := by decide) (hdb : (x == ("__debug__" : Str)) = false := by decide)
    (he : ∀ i, starEach (e :: es) (X i).env = (false, eval e (X i).env) :: starEach es (X i).env := by intro _; rfl) (hpl : ∀ i, (backTo pos (starEach es (X i).env)).any (·.1) = false := by intro _; rfl) : TX X K L U (.Call (.Name x p) (e :: es) [] pos) (fun env k => wa env fun y => w y k) := by
  obtain ⟨t, pt, h⟩ := ha.ex
  refine ⟨fun e k k' hk hw => ha.mono _ _ _ (fun x hx => hv.mono _ _ _ hk hx) hw, _, fun i => pe_callTy (hc i) (hg i) (hm i) hb (pt i) hn hdb (he i) (hpl i), fun c σ H env own Q s hw => h c σ H env own _ s (ha.mono _ _ _ (fun y hy vs H1 x1 ok => ?_) hw)⟩
  have s1 := s.ex x1
  exact hv.run _ H1 y vs Q (fun l hl => s1.fresh hl) (ok.imp Ge.refl fun _ _ => trivial) (hv.mono _ _ _ (fun z hz v' H' k' r' => hz v' H' (x1.trans (s1.exSame k')) r') hy)
theorem tn_callTy {T : String} {w : τ → (List β → Prop) → Prop} (hc : ∀ i, CallR (X i) (.type T) r) (hv : VCN K A U r w) (hg : ∀ i, Gl (X i) x) (hm : ∀ i, (X i).mg x = none) (hb : bootBuiltins x = some (.type T)) (ha : TA X K L A (e :: es) wa) (hn : x ≠ "__name__" := by decide) (hdb : (x == ("__debug__" : Str)) = false := by decide)
    (he : ∀ i, starEach (e :: es) (X i).env = (false, eval e (X i).env) :: starEach es (X i).env := by intro _; rfl) (hpl : ∀ i, (backTo pos (starEach es (X i).env)).any (·.1) = false := by intro _; rfl) : TN X K L U (.Call (.Name x p) (e :: es) [] pos) (fun env k => wa env fun y => w y k) := by
  obtain ⟨t, pt, h⟩ := ha.ex
  refine ⟨fun e k k' hk hw => ha.mono _ _ _ (fun x hx => hv.mono _ _ _ hk hx) hw, _, fun i => pe_callTy (hc i) (hg i) (hm i) hb (pt i) hn hdb (he i) (hpl i), fun c σ H env own Q s hw => h c σ H env own _ s (ha.mono _ _ _ (fun y hy vs H1 x1 ok => ?_) hw)⟩
  have s1 := s.ex x1
  exact hv.run _ H1 y vs Q (fun l hl => s1.fresh hl) (ok.imp Ge.refl fun _ _ => trivial) (hv.mono _ _ _ (fun z hz l us H' n k' e' p' => hz l us H' (Ex.none s x1 n) (x1.trans (s1.exSame k')) e' p') hy)
end
section
variable {α : Type} {K : PySem.W.Frag} {S : Rp α}
def rLenK (K : PySem.W.Frag) : List V → Hp → VK → Prop := fun xs H Q => ∃ x n, xs = [x] ∧ LenV K x H n ∧ Q (.int n) H
theorem call_lenK {X : Cx} (h : X.K = K) : CallR X (.builtin "len") (rLenK K) := h ▸ call_len
theorem vc_lenL : VC K (.cons (lstR S) .nil) intR (rLenK K) (fun x k => k (x.1.length : Int)) := ⟨fun x k k' h h2 => h _ h2, fun W H x vs Q fr ⟨v, us, e, ⟨a, ws, e2, n, h, p⟩, e3⟩ q => by
  subst e e2
  rw [show us = [] from e3]
  exact ⟨_, _, rfl, .inl ⟨ws, SqL.of h, rfl⟩, q _ H (Same.refl _) (by rw [Paired.length p]; rfl)⟩⟩
theorem vc_lenS : VC K (.cons strR .nil) intR (rLenK K) (fun x k => x.1.length ≤ sizeLine ∧ k (x.1.length : Int)) := ⟨fun x k k' h h2 => ⟨h2.1, h _ h2.2⟩, fun W H x vs Q fr ⟨v, us, e, e2, e3⟩ q => by
  subst e
  rw [show us = [] from e3, show v = V.str _ from e2]
  exact ⟨_, _, rfl, ⟨q.1, rfl⟩, q.2 _ H (Same.refl _) rfl⟩⟩
def rListK (K : PySem.W.Frag) : List V → Hp → VK → Prop := fun xs H Q => ∃ p ys, xs = [.ref p] ∧ (SqL K H p ys ∨ SqT K H p ys) ∧ ∀ l, H l = none → Q (.ref l) (upd H l (.lst ys))
theorem call_listK {X : Cx} (h : X.K = K) : CallR X (.type "list") (rListK K) := h ▸ call_list_of
theorem newL {W : WS} {H : Hp} {l : Addr} {vs us : List V} {xs : List α} (hl : H l = none) (p : Paired (S.r K W H) vs xs) : Paired (S.r K (fun a => W a ∨ a = l) (upd H l (.lst us))) vs xs :=
  S.pmono (geNew hl) p
theorem vc_listL : VCN K (.cons (lstR S) .nil) S (rListK K) (fun x k => k x.1) := ⟨fun x k k' h h2 => h _ h2, fun W H x vs Q fr ⟨v, us, e, ⟨a, ws, e2, n, h, p⟩, e3⟩ q => by
  subst e e2
  rw [show us = [] from e3]
  exact ⟨a, ws, rfl, .inl (SqL.of h), fun l hl => q l _ _ hl (Same.new hl) upd_same (newL hl p)⟩⟩
theorem vc_listT : VCN K (.cons (tupR S) .nil) S (rListK K) (fun x k => k x.1) := ⟨fun x k k' h h2 => h _ h2, fun W H x vs Q fr ⟨v, us, e, ⟨a, ws, e2, h, p⟩, e3⟩ q => by
  subst e e2
  rw [show us = [] from e3]
  exact ⟨a, ws, rfl, .inr h.sq, fun l hl => q l _ _ hl (Same.new hl) upd_same (newL hl p)⟩⟩
theorem vc_tupL : VC K (.cons (lstR S) .nil) (tupR S) (rTupK K) (fun x k => k x.1) := ⟨fun x k k' h h2 => h _ h2, fun W H x vs Q fr ⟨v, us, e, ⟨a, ws, e2, n, h, p⟩, e3⟩ q => by
  subst e e2
  rw [show us = [] from e3]
  exact ⟨a, ws, rfl, .inl ⟨SqL.of h, fun l hl => q _ _ (Same.new hl) ⟨l, ws, rfl, TW.of (fr l hl) upd_same, S.pmono (Ge.same (Same.new hl)) p⟩⟩⟩⟩
end
end Tx
/-! items at written places; tests of comprehensions; sources, menus -/
namespace Tx
open PySem PySem.Spec PyProof.Rows L2 Gx
inductive PtAt {α : Type} : {β : Type} → Pt α → Nat → Rp β → (α → β) → Prop where
  | zero {β : Type} {S : Rp β} {f : α → β} {ps : Pt α} : PtAt (.cons S f ps) 0 S f
  | succ {β γ : Type} {S : Rp β} {f : α → β} {ps : Pt α} {U : Rp γ} {g : α → γ} {n : Nat} : PtAt ps n U g → PtAt (.cons S f ps) (n + 1) U g
theorem PtAt.at_ {α β : Type} {K : PySem.W.Frag} {W : WS} {H : Hp} {x : α} {ps : Pt α} {n : Nat} {U : Rp β} {g : α → β} (h : PtAt ps n U g) : ∀ {vs : List V}, PtOk K W H x ps vs → ∃ v, vs[n]? = some v ∧ U.r K W H v (g x) := by
  induction h with
  | zero =>
    rintro vs ⟨v, us, rfl, h1, h2⟩
    exact ⟨v, rfl, h1⟩
  | succ h ih =>
    rintro vs ⟨v, us, rfl, h1, h2⟩
    exact ih h2
section
variable {E α β ι : Type} {X : ι → Cx} {K : PySem.W.Frag} {L : List (Sl E)} {S : Rp α} {U : Rp β} {a e : Expr} {pos p : Pos} {wa : E → (α → Prop) → Prop}
theorem tx_prj {n j : Nat} {ps : Pt α} {f : α → β} (u : Unp S ps) (hp : PtAt ps n U f) (ha : TX X K L S a wa) (hK : ∀ j, (X j).K = K := by intro _; rfl) : TX X K L U (.Subscript a (.Constant (.int (n : Int)) j p) pos) (fun env k => wa env fun x => k (f x)) := by
  obtain ⟨t, pe, h⟩ := ha.ex
  refine ⟨fun e k k' hk hw => ha.mono _ _ _ (fun x hx => hk _ hx) hw, _, fun i => pe_ix (ix_tupK (hK i)) (pe i) pe_int (fun _ _ => rfl), fun c σ H env own Q s hw => h c σ H env own _ s (ha.mono _ _ _ (fun x hx v H1 x1 r => ?_) hw)⟩
  obtain ⟨b, vs, rfl, h1, h2⟩ := u.at_ r
  obtain ⟨w, h3, h4⟩ := hp.at_ h2
  exact ⟨b, vs, (n : Int), w, rfl, rfl, h1.sq, atI_nat h3, hx w H1 x1 h4⟩
/-- no test, one test, in a comprehension -/
theorem tc_no : (Mono fun (_ : E) (k : Bool → Prop) => k true) ∧ ∃ tt, (∀ p, PTs (X p) [] tt) ∧ ∀ (c : Bc) (σ : L2.St) (H : Hp) (env : E) (own : Own) (Q : Bool → Hp → Prop), St K c L σ H env own → (fun (_ : E) (k : Bool → Prop) => k true) env (fun b => ∀ H', Ex L own H H' → Q b H') → tt σ H Q :=
  ⟨fun _ _ _ h hw => h _ hw, tYes, fun _ => pts_nil, fun c σ H env own Q s hw => hw H s.exRefl⟩
theorem tc_one {wt : E → (Bool → Prop) → Prop} (h : TT X K L e wt) : Mono wt ∧ ∃ tt, (∀ p, PTs (X p) [e] tt) ∧ ∀ (c : Bc) (σ : L2.St) (H : Hp) (env : E) (own : Own) (Q : Bool → Hp → Prop), St K c L σ H env own → wt env (fun b => ∀ H', Ex L own H H' → Q b H') → tt σ H Q := by
  obtain ⟨t, p, f⟩ := h.ex
  exact ⟨h.mono, t, fun j => pts_one (p j), f⟩
end
section
variable {E α β ι : Type} {X : ι → Cx} {K : PySem.W.Frag} {L : List (Sl E)} {Lin : List (Sl (E × α))} {S : Rp α} {T : Rp β} {elt tg iter : Expr} {ifs : List Expr} {scope : Scope} {bown : List (Str × Nat)} {pos : Pos} {wi : E → (List α → Prop) → Prop}
theorem tn_comp {is : List Nat} {wt : E × α → (Bool → Prop) → Prop} {we : E × α → (β → Prop) → Prop} (hc : ∀ j, (X j).calm = true) (hN : ∀ j, (X j).N.Nodup) (hi : TIt X K L S tg iter wi) (ok : ∀ j, BlkOk (X j).N (X j).env.scope scope bown)
    (okv : ∀ v ∈ bown.map (·.2), okW L v = true) (his : ∀ i ∈ is, i ∈ bown.map (·.2)) (ht : TGt (blkF X scope) K (wipeL L (bown.map (·.2))) S tg is Lin)
    (htt : Mono wt ∧ ∃ tt, (∀ p, PTs (blkF X scope p) ifs tt) ∧ ∀ (c : Bc) (σ : L2.St) (H : Hp) (env : E × α) (own : Own) (Q : Bool → Hp → Prop), St K c Lin σ H env own → wt env (fun b => ∀ H', Ex Lin own H H' → Q b H') → tt σ H Q) (he : TX (blkF X scope) K Lin T elt we)
    (hs : ∀ j x, foldedSetIterable iter (X j).env x = pure x := by intro _ _; rfl) : TN X K L T (.ListComp elt [⟨tg, iter, ifs, 0⟩] scope pos) (fun env k => wi env fun xs => xs.length ≤ sizeLine ∧ wComp wt we xs [] env k) := tn_lc hc hN hi ok okv his ht htt.2 htt.1 he hs
end
end Tx
namespace Tx
open PySem PySem.Spec PyProof.Rows L2 Gx
/-- closed upwards -/
def up {τ ρ : Type} (w : τ → (ρ → Prop) → Prop) : τ → (ρ → Prop) → Prop := fun x k => ∀ k', (∀ y, k y → k' y) → w x k'
theorem up_mono {τ ρ : Type} {w : τ → (ρ → Prop) → Prop} (x : τ) (k k' : ρ → Prop) (h : ∀ y, k y → k' y) (hw : up w x k) : up w x k' := fun k'' h' => hw k'' fun y hy => h' y (h y hy)
theorem up_self {τ ρ : Type} {w : τ → (ρ → Prop) → Prop} {x : τ} {k : ρ → Prop} (hw : up w x k) : w x k := hw k fun _ h => h
/-- w of a def's body -/
def wT {τ Λ ρ : Type} (l0 : Λ) (wb : τ × Λ → Kn (τ × Λ) ρ → Prop) : τ → (ρ → Prop) → Prop := up fun x k => wb (x, l0) ⟨fun _ => False, k⟩
theorem body_wT {τ Λ ρ : Type} {X : Cx} {K : PySem.W.Frag} {A : Ar τ} {R : RetR ρ} {n : Nat} {N : List Str} {L' : List (Sl (τ × Λ))} {body : List Stmt} {wb : τ × Λ → Kn (τ × Λ) ρ → Prop} {vs : List V} {H : Hp} {Q : VK} {E : XK} {l0 : Λ} (hb : TS (fun _ : Unit => X.nox) K R (layA A Prod.fst ++ List.replicate n .any) L' body wb) (one : srs A ≤ 1) (hN : N.length = arn A + n)
    (h : spT K A R (wT l0 wb) vs H Q E) : ∃ t, PSs X body t ∧ t { nx := fun _ H' => Q .non H', rt := Q } (start N vs) H := by
  obtain ⟨W, x, dom, ok, hw⟩ := h
  obtain ⟨t, p, q⟩ := body_T l0 hb one hN (show spT K A R (fun x k => wb (x, l0) ⟨fun _ => False, k⟩) vs H Q E from ⟨W, x, dom, ok, up_self hw⟩)
  exact ⟨t, PSs.nox p, q⟩
end Tx
/-! more statements and values -/
namespace Tx
open PySem PySem.Spec PyProof.Rows L2 Gx
theorem Sr.setO {E β : Type} {L : List (Sl E)} {own : Own} {i : Nat} (h : ∃ s0, L[i]? = some s0 ∧ s0 ≠ .sr) {S : Rp β} {g : E → List β} {o : Option Addr} (a : Addr) : Sr (L.set i (.ow S g)) (putO own i o) a ↔ Sr L own a := by
  obtain ⟨s0, h0, n0⟩ := h
  have il := (List.getElem?_eq_some_iff.mp h0).1
  constructor
  · rintro ⟨j, h1, h2⟩
    by_cases z : j = i
    · subst z
      rw [List.getElem?_set_self il] at h1
      cases h1
    · rw [List.getElem?_set_ne (Ne.symm z)] at h1
      rw [putO_ne z] at h2
      exact ⟨j, h1, h2⟩
  · rintro ⟨j, h1, h2⟩
    have z : j ≠ i := fun z => by
      subst z
      rw [h0] at h1
      exact n0 (Option.some.inj h1)
    exact ⟨j, by rw [List.getElem?_set_ne (Ne.symm z)]; exact h1, by rw [putO_ne z]; exact h2⟩
theorem okI_set {E : Type} {L : List (Sl E)} {i j : Nat} {s : Sl E} (hs : nsr s = true) (h : ∃ s0, L[j]? = some s0 ∧ s0 ≠ .sr) : ∃ s0, (L.set i s)[j]? = some s0 ∧ s0 ≠ .sr := by
  obtain ⟨s0, h0, n0⟩ := h
  by_cases z : j = i
  · subst z
    exact ⟨s, List.getElem?_set_self (List.getElem?_eq_some_iff.mp h0).1, fun z => by rw [z] at hs; cases hs⟩
  · exact ⟨s0, by rw [List.getElem?_set_ne (Ne.symm z)]; exact h0, n0⟩
section
variable {E α β ρ ι : Type} {X : ι → Cx} {K : PySem.W.Frag} {R : RetR ρ} {L L' : List (Sl E)} {S : Rp α} {T : Rp β} {a b e : Expr} {pos : Pos} {wa : E → (α → Prop) → Prop} {wb : E → (β → Prop) → Prop}
theorem TS1.pre {L0 : List (Sl E)} {s : Stmt} {w : E → Kn E ρ → Prop} (hs : Sub id L0 L) (h : TS1 X K R L L' s w) : TS1 X K R L0 L' s w := by
  obtain ⟨t, p, f⟩ := h.ex
  exact ⟨h.mono, t, p, fun c σ H env own D s hw => f c σ H env _ D (s.sub hs) hw⟩
/-- x, y = a, b -/
theorem ts_parII {i j : Nat} {x y : Str} {px py pt : Pos} {kt k2 pt2} {set : E → α × β → E} (hc : ∀ k, (X k).calm = true) (hN : ∀ k, (X k).N.Nodup) (hi : ∀ k, (X k).N[i]? = some x) (hj : ∀ k, (X k).N[j]? = some y) (hij : i ≠ j)
    (hx : ∀ k, (X k).env.scope.names.lookup x = some .local) (hy : ∀ k, (X k).env.scope.names.lookup y = some .local) (ha : TX X K L S a wa) (hb : TX X K L T b wb) (ok1 : okI L i = true) (ok2 : okI L j = true)
    (hsub : Sub (fun e : E × (α × β) => set e.1 e.2) (((lift (α × β) L).set i (.im S fun e => e.2.1)).set j (.im T fun e => e.2.2)) L')
    (hw : ∀ k, swappedStores [.Tuple [.Name x px, .Name y py] kt pt] (.Tuple [a, b] k2 pt2) (X k).env = pure (some [x, y]))
    (hs : ∀ k, swapsWithSole [.Tuple [.Name x px, .Name y py] kt pt] (.Tuple [a, b] k2 pt2) pos.line (X k).env = pure false := by intro _; rfl)
    (h1 : ∀ k, starEach [a, b] (X k).env = (false, eval a (X k).env) :: starEach [b] (X k).env := by intro _; rfl) (h2 : ∀ k, starEach [b] (X k).env = (false, eval b (X k).env) :: starEach [] (X k).env := by intro _; rfl) :
    TS1 X K R L L' (.Assign [.Tuple [.Name x px, .Name y py] kt pt] (.Tuple [a, b] k2 pt2) pos) (fun env k => wa env fun u => wb env fun v => k.nx (set env (u, v))) := by
  obtain ⟨t1, p1, f1⟩ := ha.ex
  obtain ⟨t2, p2, f2⟩ := hb.ex
  refine ⟨fun e k k' hn _ hw => ha.mono _ _ _ (fun x hx => hb.mono _ _ _ (fun y hy => hn _ hy) hx) hw, _, fun k => ps_par (hc k) (hN k) (hi k) (hj k) hij (hx k) (hy k) (pa_cons (p1 k) (pa_cons (p2 k) pa_nil (h2 k)) (h1 k)) (hw k) (hs k), fun c σ H env own D s hw => ?_⟩
  refine f1 c σ H env own _ s (ha.mono _ _ _ (fun u hu v1 H1 x1 r1 => ?_) hw)
  refine f2 c σ H1 env own _ (s.ex x1) (hb.mono _ _ _ (fun v hv v2 H2 x2 r2 => ?_) hu)
  refine ⟨v1, v2, rfl, ?_⟩
  have s2 := ((s.ex x1).ex x2).lift (u, v)
  have s3 := s2.setI (okI_lift ok1) S (fun e => e.2.1) (S.mono x2.ge r1)
  have s4 := s3.setI (okI_set rfl (okI_lift ok2)) T (fun e => e.2.2) (T.mono (Ge.less fun a z => z.imp id fun ⟨k, q⟩ => by
    by_cases h : k = i
    · subst h
      rw [putO_self] at q
      cases q
    · rw [putO_ne h] at q
      exact ⟨k, q⟩) r2)
  exact hv _ _ _ (s4.sub hsub)
/-- the first place of a text in a list -/
def idxS (xs : List Str) (x : Str) : Nat := xs.findIdx fun z => decide (z = x)
theorem tx_index {o x : Expr} {cpos apos : Pos} {wo : E → (List Str → Prop) → Prop} {wx : E → (Str → Prop) → Prop} (ho : TX X K L (lstR strR) o wo) (hx : TX X K L strR x wx) (hK : ∀ j, (X j).K = K := by intro _; rfl)
    (hbase : ∀ j, attributeBase o "index" (X j).env (eval o (X j).env) = eval o (X j).env := by intro _; rfl)
    (hfew : ∀ j, ((backTo cpos (starEach [x] (X j).env)).all (fun x => !x.1) && (backToKw cpos (keywordEach [] (X j).env)).all (fun x => x.1.isSome) && decide (([x] : List Expr).length + ([] : List Keyword).length + (if ([] : List Keyword).isEmpty then 0 else 1) < 30)) = true := by intro _; rfl)
    (hline : (apos.endLine == cpos.line) = true := by rfl) (hse : ∀ j, starEach [x] (X j).env = (false, eval x (X j).env) :: starEach [] (X j).env := by intro _; rfl) :
    TX X K L intR (.Call (.Attribute o "index" apos) [x] [] cpos) (fun env k => wo env fun xs => wx env fun y => y ∈ xs ∧ k (idxS xs y : Int)) := by
  obtain ⟨t1, p1, f1⟩ := ho.ex
  obtain ⟨t2, p2, f2⟩ := hx.ex
  refine ⟨fun e k k' hk hw => ho.mono _ _ _ (fun xs h1 => hx.mono _ _ _ (fun y hy => ⟨hy.1, hk _ hy.2⟩) h1) hw, _, fun j => by
    have z := pe_bm PySem.F.plainAttrs_list PySem.F.slot_list_index PySem.F.type_list_index mt_index (p1 j) (pa_cons (p2 j) pa_nil (hse j)) (hbase j) (hfew j) hline (hse j)
    rw [hK j] at z
    exact z, fun c σ H env own Q s hw => ?_⟩
  refine f1 c σ H env own _ s (ho.mono _ _ _ (fun xs hxs v1 H1 x1 r1 => ?_) hw)
  obtain ⟨a, vs, rfl, n, e1, q1⟩ := r1
  refine ⟨.inl ⟨rfl, _, SqL.of e1⟩, ?_⟩
  refine f2 c σ H1 env own _ (s.ex x1) (hx.mono _ _ _ (fun y hy v2 H2 x2 r2 => ?_) hxs)
  cases r2
  obtain ⟨_, _, e2, n2, e3, q3⟩ := (lstR strR).mono x2.ge (show (lstR strR).r K (Wb c own) H1 (.ref a) xs from ⟨a, vs, rfl, n, e1, q1⟩)
  cases e2
  have ev := p_str q3
  subst ev
  have lt : idxS xs y < xs.length := List.findIdx_lt_length_of_exists ⟨y, hy.1, decide_eq_true rfl⟩
  have at1 : xs[idxS xs y] = y := of_decide_eq_true (List.findIdx_getElem (p := fun z => decide (z = y)) (w := lt))
  refine ⟨a, _, .str y, idxS xs y, .str y, rfl, rfl, SqL.of e3, rfl, ?_, ?_, ?_, fun m z' hm hz => ?_, hy.2 _ H2 (x1.trans x2) rfl⟩
  · rw [List.all_eq_true]
    intro u hu
    obtain ⟨z, _, rfl⟩ := List.mem_map.mp hu
    rfl
  · rw [List.getElem?_map, List.getElem?_eq_getElem lt, at1]
    rfl
  · show eqV (.str y) (.str y) = true
    simp [eqV]
  · rw [List.getElem?_map] at hz
    obtain ⟨z, hz1, rfl⟩ := Option.map_eq_some_iff.mp hz
    obtain ⟨hml, hz2⟩ := List.getElem?_eq_some_iff.mp hz1
    have := List.not_of_lt_findIdx (p := fun z => decide (z = y)) (xs := xs) (i := m) hm
    rw [hz2] at this
    show eqV (.str z) (.str y) = false
    simpa [eqV] using this
/-- xs[::-1] of a list -/
theorem pe_revLK {X : Cx} {K : PySem.W.Frag} (h : X.K = K) {e : Expr} {te : TE} {k : Nat} {p1 p2 p3 pos : Pos} (he : PE X e te) : PE X (.Subscript e (.Slice none none (some (.UnaryOp .USub (.Constant (.int 1) k p1) p2)) p3) pos) (tRevL K te) := h ▸ pe_revL he
theorem tn_revL {k0 : Nat} {q1 q2 q3 : Pos} {wl : E → (List α → Prop) → Prop} (ha : TX X K L (lstR S) e wl) (hK : ∀ j, (X j).K = K := by intro _; rfl) : TN X K L S (.Subscript e (.Slice none none (some (.UnaryOp .USub (.Constant (.int 1) k0 q1) q2)) q3) pos) (fun env k => wl env fun xs => k xs.reverse) := by
  obtain ⟨t, p, f⟩ := ha.ex
  refine ⟨fun e k k' hk hw => ha.mono _ _ _ (fun x hx => hk _ hx) hw, _, fun i => pe_revLK (hK i) (p i), fun c σ H env own Q s hw => f c σ H env own _ s (ha.mono _ _ _ (fun xs hx v H1 x1 r => ?_) hw)⟩
  obtain ⟨a, vs, rfl, n, e', q⟩ := r
  have s1 := s.ex x1
  exact ⟨a, vs, rfl, SqL.of e', fun l hl => hx l _ _ (Ex.none s x1 hl) (x1.trans (s1.exSame (Same.new hl))) upd_same (S.pmono (geNew hl) (Paired.rv' q))⟩
theorem v_addS : VR2 K strR strR strR (fun x y H Q => ∃ i j, x = .str i ∧ y = .str j ∧ i.length + j.length ≤ sizeLine ∧ Q (.str (i ++ j)) H) (fun x y k => x.length + y.length ≤ sizeLine ∧ k (x ++ y)) := ⟨fun x y k k' h h2 => ⟨h2.1, h _ h2.2⟩, fun W H i j v u Q fr r1 r2 ⟨hz, q⟩ => by
  cases r1
  cases r2
  exact ⟨i, j, rfl, rfl, hz, q _ H (Same.refl _) rfl⟩⟩
/-! ### equality of data -/
structure Dat (S : Rp α) (d : α → PyData) (ok : α → Prop) : Prop where
  dp : ∀ {K : PySem.W.Frag} {W : WS} {H : Hp} {v : V} {x : α}, S.r K W H v x → Dp K H v (d x)
  sh : ∀ x, ok x → SeqAt.shaped (d x) = true
theorem v_neD {d : α → PyData} {ok : α → Prop} (D : Dat S d ok) : VR2 K S S boolR (rNeD K) (fun x y k => ok x ∧ ok y ∧ k (!PyData.eqv (d x) (d y))) := ⟨fun x y k k' h h2 => ⟨h2.1, h2.2.1, h _ h2.2.2⟩, fun W H x y v u Q fr r1 r2 ⟨h1, h2, q⟩ =>
  ⟨d x, d y, D.dp r1, D.dp r2, D.sh x h1, D.sh y h2, q _ H (Same.refl _) rfl⟩⟩
theorem tx_neg {we : E → (Int → Prop) → Prop} (h : TX X K L intR e we) : TX X K L intR (.UnaryOp .USub e pos) (fun env k => we env fun i => k (-i)) := by
  obtain ⟨t, p, f⟩ := h.ex
  refine ⟨fun e k k' hk hw => h.mono _ _ _ (fun x hx => hk _ hx) hw, _, fun i => pe_un un_neg (p i), fun c σ H env own Q s hw => f c σ H env own _ s (h.mono _ _ _ (fun i hi v H1 x1 r => ?_) hw)⟩
  cases r
  exact ⟨i, rfl, hi _ H1 x1 rfl⟩
theorem dp_all {K : PySem.W.Frag} {W : WS} {H : Hp} {S : Rp α} {d : α → PyData} (h : ∀ {v x}, S.r K W H v x → Dp K H v (d x)) : ∀ {vs : List V} {xs : List α}, Paired (S.r K W H) vs xs → DpAll K H vs (xs.map d)
  | _, _, .nil => .nil
  | _, _, .cons r t => .cons (h r) (dp_all h t)
theorem dat_s : Dat strR .str okS := ⟨fun h => by rw [show _ = V.str _ from h]; exact .str _, fun x h => by
  unfold SeqAt.shaped
  rw [Bool.and_eq_true]
  exact ⟨by simp only [PyData.canLay0]; exact h, decide_eq_true (by simp only [PyData.depth]; omega)⟩⟩
theorem dat_ls : Dat (lstR strR) (fun xs => .list (xs.map .str)) (fun xs => ∀ x ∈ xs, okS x) := ⟨fun ⟨a, vs, e, n, h, p⟩ => by
  subst e
  exact .lst (SqL.of h) (dp_all (S := strR) (fun h => dat_s.dp h) p), fun xs h => by
  unfold SeqAt.shaped
  rw [Bool.and_eq_true]
  refine ⟨by simp only [PyData.canLay0]; exact lay_str h, decide_eq_true ?_⟩
  simp only [PyData.depth, depth_str]
  omega⟩
end
end Tx
/-! menus in the typed layer; what raises, where nothing is raised -/
namespace Tx
open PySem PySem.Spec PyProof.Rows L2 Gx
/-- a menu that is there, and stays -/
def menuR : Rp Bs := ⟨fun K W H v b => ∃ m, v = .ref m ∧ ∀ W' H', Ge W H W' H' → IsM K H' m b, fun g ⟨m, e, h⟩ => ⟨m, e, fun W'' H'' g' => h _ _ (g.trans g')⟩⟩
theorem menuR.is {K : PySem.W.Frag} {W : WS} {H : Hp} {v : V} {b : Bs} (h : menuR.r K W H v b) : ∃ m, v = .ref m ∧ IsM K H m b := let ⟨m, e, h⟩ := h; ⟨m, e, h _ _ Ge.refl⟩
/-- what is no list is not owned -/
theorem nl {W W' : WS} {H H' : Hp} (l : ∀ a, W a → OwO (H a)) (g : Ge W H W' H') {a : Addr} {o : HO} (h : H a = some o) (n : ¬ OwO (some o)) : H' a = some o := (g a o (fun z => n (by rw [← h]; exact l a z)) h).2
theorem SqT.ge {K : PySem.W.Frag} {W W' : WS} {H H' : Hp} (l : ∀ a, W a → OwO (H a)) (g : Ge W H W' H') {a : Addr} {xs : List V} (h : SqT K H a xs) : SqT K H' a xs := by
  rcases h with (h | ⟨o, h⟩) | h
  · exact .inl (.inl (nl l g h (by simp [OwO, XoO])))
  · exact .inl (.inr ⟨o, nl l g h (by simp [OwO, XoO])⟩)
  · exact .inr h
theorem SqT.tw {K : PySem.W.Frag} {W : WS} {H : Hp} (l : ∀ a, W a → OwO (H a)) {a : Addr} {xs : List V} (h : SqT K H a xs) : TW K W H a xs := by
  have out : ∀ {o : HO}, H a = some o → ¬ OwO (some o) → ¬ W a := fun {o} e n z => n (by rw [← e]; exact l a z)
  rcases h with (h | ⟨o, h⟩) | h
  · exact .inl ⟨out h (by simp [OwO, XoO]), .inl h⟩
  · exact .inl ⟨out h (by simp [OwO, XoO]), .inr ⟨o, h⟩⟩
  · exact .inr fun G => .inr h
theorem IsM.ge {K : PySem.W.Frag} {W W' : WS} {H H' : Hp} {m : Addr} {b : Bs} (l : ∀ a, W a → OwO (H a)) (g : Ge W H W' H') (h : IsM K H m b) : IsM K H' m b := by
  obtain ⟨dx, t1, t2, d1, d2, d3, k1, k3, h1, h0, h2, h3, h4, h5, h6, h7, h8⟩ := h
  have f : ∀ {kvs : List (Key × V)} {ps : List (Str × List Str)}, TupsAt K H kvs ps → TupsAt K H' kvs ps := fun q => Paired.imp2 (fun _ _ ⟨q, a, e, z⟩ => ⟨q, a, e, SqT.ge l g z⟩) q
  exact ⟨dx, t1, t2, d1, d2, d3, k1, k3, nl l g h1 (by simp [OwO, XoO]), nl l g h0 (by simp [OwO, XoO]), SqT.ge l g h2, SqT.ge l g h3, nl l g h4 (by simp [OwO, XoO]), f h5, nl l g h6 (by simp [OwO, XoO]), nl l g h7 (by simp [OwO, XoO]), f h8⟩
theorem menuR.of {K : PySem.W.Frag} {W : WS} {H : Hp} {m : Addr} {b : Bs} (l : ∀ a, W a → OwO (H a)) (h : IsM K H m b) : menuR.r K W H (.ref m) b := ⟨m, rfl, fun _ _ g => IsM.ge l g h⟩
theorem strsP {K : PySem.W.Frag} {W : WS} {H : Hp} : ∀ {xs : List Str}, Paired (strR.r K W H) (xs.map V.str) xs
  | [] => .nil
  | _ :: xs => .cons rfl (strsP (xs := xs))
section
variable {E α τ ρ : Type} {ι : Type} {X : ι → Cx} {K : PySem.W.Frag} {L L' : List (Sl E)} {S : Rp α} {A : Ar τ} {R : RetR ρ} {e o : Expr} {es : List Expr} {pos p apos : Pos} {w : E → (Bs → Prop) → Prop}
theorem tx_mget {f u : Str} {g : Bs → List Str} (hp : propB K (He.ga K "Menu") f = true) (hg : getB K (He.ga K "Menu") f u = true) (c : Cls K (He.ga K "Menu")) (n : NoAttr K (He.ga K "Menu") u) (hr : ∀ i, Room 2 (X i).A) (hK : ∀ i, (X i).K = K)
    (hf : ∀ {H : Hp} {m : Addr} {b : Bs}, IsM K H m b → ∃ dx fs t, H m = some (.ins (He.ga K "Menu") dx fs) ∧ fs.lookup u = some (.ref t) ∧ SqT K H t ((g b).map V.str))
    (h : TX X K L menuR e w) (hab : ∀ i, attributeBase e f (X i).env (eval e (X i).env) = eval e (X i).env := by intro _; rfl) : TX X K L (tupR strR) (.Attribute e f pos) (fun env k => w env fun b => k (g b)) := by
  obtain ⟨t, p, ft⟩ := h.ex
  refine ⟨fun e k k' hk hw => h.mono _ _ _ (fun x hx => hk _ hx) hw, tProp (He.ga K "Menu") (getSp (He.ga K "Menu") u) [] (fun _ _ _ => False) t, fun i => ?_, fun c0 σ H env own Q s hw => ft c0 σ H env own _ s (h.mono _ _ _ (fun b hb v H1 x1 r => ?_) hw)⟩
  · have z := hK i
    have := @pe_get (X i) (He.ga K "Menu") f u e pos t
    rw [z] at this
    exact this hp hg c n (hr i) (p i) (hab i)
  · have s1 := s.ex x1
    obtain ⟨m, rfl, hM⟩ := menuR.is r
    obtain ⟨dx, fs, t, h1, h2, h3⟩ := hf hM
    exact ⟨m, dx, fs, rfl, h1, m, dx, fs, _, rfl, h1, h2, hb _ H1 x1 ⟨t, _, rfl, SqT.tw (fun a z => s1.hasW z) h3, strsP⟩⟩
theorem m_things {K : PySem.W.Frag} {H : Hp} {m : Addr} {b : Bs} (h : IsM K H m b) : ∃ dx fs t, H m = some (.ins (He.ga K "Menu") dx fs) ∧ fs.lookup ("_things" : Str) = some (.ref t) ∧ SqT K H t (b.things.map V.str) := by
  obtain ⟨dx, t1, t2, d1, d2, d3, k1, k3, h1, h0, h2, h3, h4⟩ := h
  exact ⟨dx, _, t1, h1, rfl, h2⟩
theorem m_weathers {K : PySem.W.Frag} {H : Hp} {m : Addr} {b : Bs} (h : IsM K H m b) : ∃ dx fs t, H m = some (.ins (He.ga K "Menu") dx fs) ∧ fs.lookup ("_weathers" : Str) = some (.ref t) ∧ SqT K H t (b.names.map V.str) := by
  obtain ⟨dx, t1, t2, d1, d2, d3, k1, k3, h1, h0, h2, h3, h4⟩ := h
  exact ⟨dx, _, t2, h1, rfl, h3⟩
end
theorem passNx {X : Cx} : Passes (L2.CX X.prog X.w) X (fun _ _ _ => False) := fun _ _ _ _ _ _ _ h => by
  obtain ⟨_, _, _, _, _, _, _, _, _, _, _, _, h⟩ := h
  exact h.elim
/-- no field of a menu is called so -/
def NoFld (m : Str) : Prop := ∀ t1 t2 d1 d2 d3 : V, List.lookup m [(("_things" : Str), t1), ("_weathers", t2), ("_wishes", d1), ("_back", d2), ("_later", d3)] = none
section
variable {E : Type} {ι : Type} {X : ι → Cx} {K : PySem.W.Frag} {L : List (Sl E)} {e o : Expr} {pos apos : Pos} {wo : E → (Bs → Prop) → Prop} {we : E → (Str → Prop) → Prop} {n : Nat} {m : Str} {sp : Sp} {pl : ι → Sem Bool}
theorem tn_mlist {g : Ent → List Str} (cm : ∀ i, CaM (X i).prog (X i).w (X i).K (X i).mg (X i).base (L2.CX (X i).prog (X i).w) n (He.ga K "Menu") m sp) (hl : NoFld m) (hr : ∀ i, Room n (X i).A)
    (hsp : ∀ (M : Addr) (b : Bs) (en : Ent) (H : Hp) (Q : VK) (E : XK), IsM K H M b → b.names.Nodup → en ∈ b.ws → (∀ p, H p = none → Q (.ref p) (upd H p (.lst ((g en).map V.str)))) → sp [.ref M, .str en.name] H Q E)
    (ho : TX X K L menuR o wo) (ha : TX X K L strR e we)
    (hst : ∀ i, starEach [e] (X i).env = (false, eval e (X i).env) :: starEach [] (X i).env := by intro _; rfl) (hpl : ∀ i, (backTo pos (starEach [] (X i).env)).any (·.1) = false := by intro _; rfl)
    (ht : ∀ i, eval (.Call (.Attribute o m apos) [e] [] pos) (X i).env = (do
      let ov ← eval o (X i).env
      standAt apos.atName
      let (f, first) ← holding [ov] (getMethod ov m (pl i))
      callWith pos f first (backTo pos (starEach [e] (X i).env)) (backToKw pos (keywordEach [] (X i).env))) := by intro _; rfl) :
    TN X K L strR (.Call (.Attribute o m apos) [e] [] pos) (fun env k => wo env fun b => we env fun z => b.names.Nodup ∧ ∃ en ∈ b.ws, en.name = z ∧ k (g en)) := by
  obtain ⟨t1, p1, f1⟩ := ho.ex
  obtain ⟨t2, p2, f2⟩ := ha.ex
  refine ⟨fun e k k' h hw => ho.mono _ _ _ (fun x hx => ha.mono _ _ _ (fun y ⟨nd, en, he, hn, hk⟩ => ⟨nd, en, he, hn, h _ hk⟩) hx) hw, _, fun i => pe_cm (pl := pl i) (cm i) (hr i) passNx (p1 i) (pa_cons (p2 i) pa_nil (hst i)) (hst i) (hpl i) (ht i), fun c σ H env own Q s hw => ?_⟩
  refine f1 c σ H env own _ s (ho.mono _ _ _ (fun b hb v H1 x1 r1 => ?_) hw)
  have s1 := s.ex x1
  obtain ⟨M, rfl, hM⟩ := menuR.is r1
  obtain ⟨dx, q1, q2, d1, d2, d3, k1, k3, h1, _⟩ := hM
  refine ⟨M, dx, _, rfl, h1, hl _ _ _ _ _, ?_⟩
  refine f2 c σ H1 env own _ s1 (ha.mono _ _ _ (fun z hz u H2 x2 r2 => ?_) hb)
  have s2 := s1.ex x2
  obtain ⟨nd, en, he, rfl, hk⟩ := hz
  rw [show u = V.str _ from r2]
  obtain ⟨M', e', hM2⟩ := menuR.is (menuR.mono x2.ge r1)
  cases e'
  refine hsp _ b en _ _ _ hM2 nd he fun p np => hk p _ _ (Ex.none s (x1.trans x2) np) (x1.trans (x2.trans (s2.exSame (Same.new np)))) upd_same strsP
theorem tx_mback (cm : ∀ i, CaM (X i).prog (X i).w (X i).K (X i).mg (X i).base (L2.CX (X i).prog (X i).w) n (He.ga K "Menu") m (spBack K)) (hl : NoFld m) (hr : ∀ i, Room n (X i).A)
    (ho : TX X K L menuR o wo) (ha : TX X K L strR e we)
    (hst : ∀ i, starEach [e] (X i).env = (false, eval e (X i).env) :: starEach [] (X i).env := by intro _; rfl) (hpl : ∀ i, (backTo pos (starEach [] (X i).env)).any (·.1) = false := by intro _; rfl)
    (ht : ∀ i, eval (.Call (.Attribute o m apos) [e] [] pos) (X i).env = (do
      let ov ← eval o (X i).env
      standAt apos.atName
      let (f, first) ← holding [ov] (getMethod ov m (pl i))
      callWith pos f first (backTo pos (starEach [e] (X i).env)) (backToKw pos (keywordEach [] (X i).env))) := by intro _; rfl) :
    TX X K L strR (.Call (.Attribute o m apos) [e] [] pos) (fun env k => wo env fun b => we env fun z => b.names.Nodup ∧ ∃ en ∈ b.ws, en.name = z ∧ k en.back) := by
  obtain ⟨t1, p1, f1⟩ := ho.ex
  obtain ⟨t2, p2, f2⟩ := ha.ex
  refine ⟨fun e k k' h hw => ho.mono _ _ _ (fun x hx => ha.mono _ _ _ (fun y ⟨nd, en, he, hn, hk⟩ => ⟨nd, en, he, hn, h _ hk⟩) hx) hw, _, fun i => pe_cm (pl := pl i) (cm i) (hr i) passNx (p1 i) (pa_cons (p2 i) pa_nil (hst i)) (hst i) (hpl i) (ht i), fun c σ H env own Q s hw => ?_⟩
  refine f1 c σ H env own _ s (ho.mono _ _ _ (fun b hb v H1 x1 r1 => ?_) hw)
  have s1 := s.ex x1
  obtain ⟨M, rfl, hM⟩ := menuR.is r1
  obtain ⟨dx, q1, q2, d1, d2, d3, k1, k3, h1, _⟩ := hM
  refine ⟨M, dx, _, rfl, h1, hl _ _ _ _ _, ?_⟩
  refine f2 c σ H1 env own _ s1 (ha.mono _ _ _ (fun z hz u H2 x2 r2 => ?_) hb)
  obtain ⟨nd, en, he, rfl, hk⟩ := hz
  rw [show u = V.str _ from r2]
  obtain ⟨M', e', hM2⟩ := menuR.is (menuR.mono x2.ge r1)
  cases e'
  exact ⟨_, b, _, rfl, hM2, nd, .inl ⟨en, he, rfl, hk _ H2 (x1.trans x2) rfl⟩⟩
end
/-! ### all, isinstance -/
def rAllK (K : PySem.W.Frag) : List V → Hp → VK → Prop := fun vs H Q => ∃ a bs, vs = [V.ref a] ∧ SqL K H a (List.map V.bl bs) ∧ Q (V.bl (bs.all id)) H
theorem cr_allK {X : Cx} {K : PySem.W.Frag} (h : X.K = K) (hc : X.calm = true) : CallR X (.builtin "all") (rAllK K) := h ▸ cr_all hc
theorem blsP {K : PySem.W.Frag} {W : WS} {H : Hp} : ∀ {vs : List V} {xs : List Bool}, Paired (boolR.r K W H) vs xs → vs = xs.map V.bl
  | _, _, .nil => rfl
  | _, _, .cons h t => by rw [List.map_cons, ← blsP t, show _ = _ from h]
theorem vc_all {K : PySem.W.Frag} : VC K (.cons (lstR boolR) .nil) boolR (rAllK K) (fun x k => k (x.1.all id)) := ⟨fun x k k' h h2 => h _ h2, fun W H x vs Q fr ⟨v, us, e, ⟨a, ws, e2, n, h, p⟩, e3⟩ q => by
  subst e e2
  rw [show us = [] from e3]
  exact ⟨a, x.1, rfl, by rw [← blsP p]; exact SqL.of h, q _ H (Same.refl _) rfl⟩⟩
section
variable {E α : Type} {ι : Type} {X : ι → Cx} {K : PySem.W.Frag} {L : List (Sl E)} {S : Rp α} {e : Expr} {pos p p2 : Pos} {wa : E → (α → Prop) → Prop}
/-- what isinstance says of such values -/
structure IsI (K : PySem.W.Frag) (S : Rp α) (T : String) (g : α → Bool) : Prop where
  run : ∀ {W : WS} {H : Hp} {v : V} {x : α}, S.r K W H v x → ∃ T', TyX K H v T' ∧ PySem.W.kitOne K T' (.type T) = some (g x)
theorem isi_LL : IsI K (lstR S) "list" (fun _ => true) := ⟨fun {W H v x} h => by
  obtain ⟨a, vs, rfl, n, h, p⟩ := h
  exact ⟨_, TyX.base (.lst h), kit_ty (by decide +kernel)⟩⟩
theorem isi_SS : IsI K strR "str" (fun _ => true) := ⟨fun {W H v x} h => by
  obtain rfl := h
  exact ⟨_, TyX.base (.str _), kit_ty (by decide +kernel)⟩⟩
def rIsiK (K : PySem.W.Frag) : List V → Hp → VK → Prop := rIsi K
theorem call_isiK {X : Cx} {K : PySem.W.Frag} (h : X.K = K) : CallR X (.builtin "isinstance") (rIsiK K) := h ▸ call_isi
theorem tx_isi {T : String} {ct : Str} {g : α → Bool} (hv : IsI K S T g) (hK : ∀ i, (X i).K = K) (hg : ∀ i, Gl (X i) "isinstance") (hm : ∀ i, (X i).mg "isinstance" = none) (hg2 : ∀ i, Gl (X i) ct) (hm2 : ∀ i, (X i).mg ct = none) (hb : bootBuiltins "isinstance" = some (.builtin "isinstance")) (hb2 : bootBuiltins ct = some (.type T)) (h : TX X K L S e wa) (hn : ct ≠ "__name__" := by decide) (hd : (ct == ("__debug__" : Str)) = false := by decide)
    (he : ∀ i, starEach [e, .Name ct p2] (X i).env = (false, eval e (X i).env) :: starEach [.Name ct p2] (X i).env := by intro _; rfl) (he2 : ∀ i, starEach [.Name ct p2] (X i).env = (false, eval (.Name ct p2) (X i).env) :: starEach [] (X i).env := by intro _; rfl)
    (hpl : ∀ i, (backTo pos (starEach [.Name ct p2] (X i).env)).any (·.1) = false := by intro _; rfl) :
    TX X K L boolR (.Call (.Name "isinstance" p) [e, .Name ct p2] [] pos) (fun env k => wa env fun x => k (g x)) := by
  obtain ⟨t, pt, f⟩ := h.ex
  refine ⟨fun e k k' hk hw => h.mono _ _ _ (fun x hx => hk _ hx) hw, _, fun i => pe_callB (call_isiK (hK i)) (hg i) (hm i) hb (pa_cons (pt i) (pa_cons (pe_bltn (v := .ty T) (hg2 i) (hm2 i) hb2 rfl hn hd) pa_nil (he2 i)) (he i)) (by decide) (by decide) (he i) (hpl i), fun c σ H env own Q s hw => ?_⟩
  refine f c σ H env own _ s (h.mono _ _ _ (fun x hx v H1 x1 r => ?_) hw)
  obtain ⟨T', h1, h2⟩ := hv.run r
  exact ⟨v, .ty T, T', _, _, rfl, .ty _, h1, h2, hx _ H1 x1 rfl⟩
end
/-! ### what may be None -/
def optR {α : Type} (S : Rp α) : Rp (Option α) := ⟨fun K W H v x => match x with | none => v = .non | some y => S.r K W H v y ∧ v ≠ .non, fun {K W W' H H' v x} g h => match x, h with | none, h => h | some _, h => ⟨S.mono g h.1, h.2⟩⟩
def NN {α : Type} (S : Rp α) : Prop := ∀ {K : PySem.W.Frag} {W : WS} {H : Hp} {v : V} {x : α}, S.r K W H v x → v ≠ .non
theorem lstR.nn {α : Type} {S : Rp α} : NN (lstR S) := fun ⟨a, vs, h, _⟩ e => by
  rw [h] at e
  cases e
section
variable {E α : Type} {ι : Type} {X : ι → Cx} {K : PySem.W.Frag} {L : List (Sl E)} {S : Rp α} {e : Expr} {pos : Pos} {wa : E → (α → Prop) → Prop}
theorem tx_noneO {j} : TX X K L (optR S) (.Constant .none j pos) (fun _ k => k none) := ⟨fun _ _ _ h => h _, _, fun _ => pe_non, fun c σ H env own Q s hw => hw _ _ s.exRefl rfl⟩
theorem tx_someO (nn : NN S) (h : TX X K L S e wa) : TX X K L (optR S) e (fun env k => wa env fun x => k (some x)) := by
  obtain ⟨t, p, f⟩ := h.ex
  exact ⟨fun e k k' hk hw => h.mono _ _ _ (fun x hx => hk _ hx) hw, t, p, fun c σ H env own Q s hw => f c σ H env own _ s (h.mono _ _ _ (fun x hx v H1 x1 r => hx v H1 x1 ⟨r, nn r⟩) hw)⟩
theorem v_isN : VR2 K (optR S) nonR boolR (fun x y H Q => y = .non ∧ Q (.bl (decide (x = .non))) H) (fun x _ k => k x.isNone) := ⟨fun x y k k' h h2 => h _ h2, fun W H x y v u Q fr h1 h2 q => ⟨h2, by
  cases x with
  | none =>
    rw [show v = V.non from h1]
    exact q _ H (Same.refl _) rfl
  | some z =>
    rw [decide_eq_false h1.2]
    exact q _ H (Same.refl _) rfl⟩⟩
end
end Tx
/-! the laws' draws, as promises over plain values -/
namespace Tx
open PySem PySem.Spec PyProof.Rows L2 Gx
theorem FnOk.imp {P : Program} {w : World} {K : PySem.W.Frag} {mg : Str → Option Value} {base : Heap} {CX : CXT} {k : Nat} {f : Addr} {fd : FuncData} {ps : List Str} {sp sp' : Sp} (h : FnOk P w K mg base CX k f fd ps sp) (i : ∀ vs H Q E, sp' vs H Q E → sp vs H Q E) : FnOk P w K mg base CX k f fd ps sp' :=
  ⟨fun vs H Q E z => h.len vs H Q E (i _ _ _ _ z), fun A outer s H args us vs Q E r e b v z => h.run A outer s H args us vs Q E r e b v (i _ _ _ _ z)⟩
theorem ca_imp {P : Program} {w : World} {K : PySem.W.Frag} {mg : Str → Option Value} {base : Heap} {CX : CXT} {k : Nat} {x : Str} {sp sp' : Sp} (h : Ca P w K mg base CX k x sp) (i : ∀ vs H Q E, sp' vs H Q E → sp vs H Q E) : Ca P w K mg base CX k x sp' := by
  obtain ⟨f, fd, ps, F, b, m, kp⟩ := h.ex
  exact ⟨f, fd, ps, FnOk.imp F i, b, m, kp⟩
section
variable {K : PySem.W.Frag} {α τ : Type} {S : Rp α} {W : WS} {H H' : Hp} {p : Addr} {vs : List V}
/-- the one source stands first -/
theorem bof1 {A : Ar τ} (no : ∀ i, srAt A i → False) {a : Addr} : Bof (.src A) (.ref p :: vs) a ↔ a = p := by
  constructor
  · rintro ⟨i, h1, h2⟩
    cases i with
    | zero =>
      simp at h2
      exact h2.symm
    | succ i => exact (no i h1).elim
  · rintro rfl
    exact ⟨0, rfl, rfl⟩
theorem bof0 {A : Ar τ} (no : ∀ i, srAt A i → False) {a : Addr} : ¬ Bof A vs a := fun ⟨i, h, _⟩ => no i h
theorem bk1 {B : WS} (hB : ∀ a, B a ↔ a = p) (k : Kp p H H') (s : SrcAt H' p) : Bk ⟨H, W, B⟩ H' := ⟨fun a o n h => k a o (fun z => n ((hB a).mpr z)) h, fun a z => by
  rw [(hB a).mp z]
  exact s⟩
theorem bk0 {B : WS} (hB : ∀ a, ¬ B a) (k : Same H H') : Bk ⟨H, W, B⟩ H' := ⟨fun a o _ h => k a o h, fun a z => (hB a z).elim⟩
theorem ge1 (wp : W p) (k : Kp p H H') : Ge W H W H' := fun a o n h => ⟨n, k a o (fun z => n (by rw [z]; exact wp)) h⟩
theorem dom1 (d : ∀ a, W a → OwO (H a)) (k : Kp p H H') (s : SrcAt H' p) : ∀ a, W a → OwO (H' a) := fun a z => by
  by_cases e : a = p
  · obtain ⟨x, y, h, _⟩ := s
    rw [e]
    exact .lst h
  · exact (d a z).st fun o h => k _ _ e h
theorem dom0 (d : ∀ a, W a → OwO (H a)) (k : Same H H') : ∀ a, W a → OwO (H' a) := fun a z => (d a z).st fun o h => k _ _ h
theorem nos0 : ∀ i, srAt (Ar.nil) i → False := fun i h => by cases h
theorem nos1 {A : Ar τ} (no : ∀ i, srAt A i → False) : ∀ i, srAt (Ar.cons S A) i → False := fun i h => by
  cases i with
  | zero => cases h
  | succ i => exact no i h
theorem strsE {vs : List V} {xs : List Str} (h : Paired (strR.r K W H) vs xs) : vs = xs.map V.str := by
  induction h with
  | nil => rfl
  | cons a t ih => rw [List.map_cons, ← ih, show _ = _ from a]
end
/-! ### draw, pick -/
def wDraw : Int × Unit → (Int → Prop) → Prop := fun x k => 0 < x.1 ∧ x.1 < 1073741824 ∧ ∀ r, 0 ≤ r → r < x.1 → k r
theorem wDraw_mono : ∀ x k k', (∀ y, k y → k' y) → wDraw x k → wDraw x k' := fun _ _ _ h ⟨a, b, c⟩ => ⟨a, b, fun r h1 h2 => h _ (c r h1 h2)⟩
theorem b_draw {K : PySem.W.Frag} : ∀ vs H Q E, spT K (.src (.cons intR .nil)) (retI intR) wDraw vs H Q E → spDraw vs H Q E := fun vs H Q E ⟨W, x, d, ⟨p, us, e, ⟨wp, sp⟩, v, us', e2, h, e3⟩, h1, h2, q⟩ => by
  subst e e2
  rw [show us' = [] from e3, show v = V.int _ from h] at *
  refine ⟨p, x.1, rfl, sp, h1, h2, fun r o l1 l2 so => q r l1 l2 _ _ ⟨bk1 (fun a => bof1 (nos1 nos0)) Kp.put (SrcAt.put so), rfl⟩⟩
def wPick {α : Type} : List α × Unit → (α → Prop) → Prop := fun x k => 0 < x.1.length ∧ x.1.length < 1000000 ∧ ∀ y ∈ x.1, k y
theorem wPick_mono {α : Type} : ∀ (x : List α × Unit) k k', (∀ y, k y → k' y) → wPick x k → wPick x k' := fun _ _ _ h ⟨a, b, c⟩ => ⟨a, b, fun r h1 => h _ (c r h1)⟩
theorem Paired.of_mem {α β : Type} {R : α → β → Prop} : ∀ {xs : List α} {ys : List β}, Paired R xs ys → ∀ {x : α}, x ∈ xs → ∃ y ∈ ys, R x y
  | _, _, .nil, x, h => by cases h
  | _, _, .cons a t, x, h => by
    rcases List.mem_cons.mp h with rfl | h
    · exact ⟨_, List.mem_cons_self, a⟩
    · obtain ⟨y, hy, r⟩ := Paired.of_mem t h
      exact ⟨y, List.mem_cons_of_mem _ hy, r⟩
theorem b_pick {K : PySem.W.Frag} {α : Type} {S : Rp α} : ∀ vs H Q E, spT K (.src (.cons (lstR S) .nil)) (retI S) wPick vs H Q E → spPick K vs H Q E := fun vs H Q E ⟨W, x, d, ⟨p, us, e, ⟨wp, sp⟩, v, us', e2, ⟨a, ws, e4, nw, ha, pr⟩, e3⟩, h1, h2, q⟩ => by
  subst e e2 e4
  rw [show us' = [] from e3] at *
  have len := Paired.length pr
  refine ⟨p, _, rfl, sp, .inl ⟨a, ws, rfl, SqL.of ha, by omega, by omega, fun z => nw (by rw [z]; exact wp), fun v o hv so => ?_⟩⟩
  obtain ⟨y, hy, r⟩ := Paired.of_mem pr hv
  exact q y hy _ _ ⟨bk1 (fun a => bof1 (nos1 nos0)) Kp.put (SrcAt.put so), S.mono (ge1 wp Kp.put) r⟩
/-! ### mixed, base, made -/
/-! a menu as the laws hold it, from what the draws promise, and back -/
section
variable {K : PySem.W.Frag} {W : WS} {H : Hp}
theorem entR.of (l : ∀ a, W a → OwO (H a)) {v : V} {e : Ent} (h : EAt K H v e) : entR.r K W H v e := by
  obtain ⟨a, w, u, rfl, h1, h2, h3⟩ := h
  exact ⟨a, _, _, rfl, SqT.tw l h1, ⟨w, _, rfl, SqT.tw l h2, strsP⟩, u, _, rfl, SqT.tw l h3, strsP⟩
theorem entR.to {v : V} {e : Ent} (h : entR.r K W H v e) : EAt K H v e := by
  obtain ⟨a, w, u, rfl, h1, ⟨a2, w2, rfl, h2, p2⟩, a3, w3, rfl, h3, p3⟩ := h
  rw [strsE p2] at h2
  rw [strsE p3] at h3
  exact ⟨a, a2, a3, rfl, h1.sq, h2.sq, h3.sq⟩
theorem baseR.of (l : ∀ a, W a → OwO (H a)) {t : Addr} {b : Bs} (h : BaseAt K H t b) : baseR.r K W H (.ref t) b := by
  obtain ⟨th, wt, es, h1, h2, h3, h4⟩ := h
  exact ⟨t, _, _, rfl, SqT.tw l h1, ⟨th, _, rfl, SqT.tw l h2, strsP⟩, wt, es, rfl, SqT.tw l h3, Paired.imp2 (fun _ _ z => entR.of l z) h4⟩
theorem baseR.to {v : V} {b : Bs} (h : baseR.r K W H v b) : ∃ t, v = .ref t ∧ BaseAt K H t b := by
  obtain ⟨a, t, w, rfl, h1, ⟨a2, w2, rfl, h2, p2⟩, a3, w3, rfl, h3, p3⟩ := h
  rw [strsE p2] at h2
  exact ⟨a, rfl, a2, a3, w3, h1.sq, h2.sq, h3.sq, Paired.imp2 (fun _ _ z => entR.to z) p3⟩
end
def wBase : Int × Unit → (Bs → Prop) → Prop := fun x k => 1 ≤ x.1 ∧ x.1 ≤ 5 ∧ ∀ b, WF b → k b
theorem wBase_mono : ∀ x k k', (∀ y, k y → k' y) → wBase x k → wBase x k' := fun _ _ _ h ⟨a, b, c⟩ => ⟨a, b, fun r h1 => h _ (c r h1)⟩
theorem b_base {K : PySem.W.Frag} : ∀ vs H Q E, spT K (.src (.cons intR .nil)) (retI baseR) wBase vs H Q E → spBase K vs H Q E := fun vs H Q E ⟨W, x, d, ⟨p, us, e, ⟨wp, sp⟩, v, us', e2, h, e3⟩, h1, h2, q⟩ => by
  subst e e2
  rw [show us' = [] from e3, show v = V.int _ from h] at *
  exact ⟨p, x.1, rfl, sp, h1, h2, fun H' t b k s hb wf => q b wf _ _ ⟨bk1 (fun a => bof1 (nos1 nos0)) k s, baseR.of (dom1 d k s) hb⟩⟩
def wMade : Bs × Unit → (Bs → Prop) → Prop := fun x k => WF x.1 ∧ k x.1
theorem wMade_mono : ∀ x k k', (∀ y, k y → k' y) → wMade x k → wMade x k' := fun _ _ _ h ⟨a, b⟩ => ⟨a, h _ b⟩
theorem b_made {K : PySem.W.Frag} : ∀ vs H Q E, spT K (.cons baseR .nil) (retI menuR) wMade vs H Q E → spMade K vs H Q E := fun vs H Q E ⟨W, x, d, ⟨v, us, e, h, e2⟩, wf, q⟩ => by
  subst e
  obtain ⟨t, rfl, hb⟩ := baseR.to h
  rw [show us = [] from e2] at *
  exact ⟨t, x.1, rfl, hb, wf, fun H' m k hm n => q _ _ ⟨bk0 (fun a => bof0 (nos1 nos0)) k, menuR.of (dom0 d k) hm⟩⟩
end Tx
namespace Tx
open PySem PySem.Spec PyProof.Rows L2 Gx
theorem hsp_wishes {K : PySem.W.Frag} (M : Addr) (b : Bs) (en : Ent) (H : Hp) (Q : VK) (E : XK) (hM : IsM K H M b) (nd : b.names.Nodup) (he : en ∈ b.ws) (q : ∀ p, H p = none → Q (.ref p) (upd H p (.lst (en.wishes.map V.str)))) : spWishes K [.ref M, .str en.name] H Q E :=
  ⟨M, b, _, rfl, hM, nd, .inl ⟨en, he, rfl, q⟩⟩
theorem hsp_later {K : PySem.W.Frag} (M : Addr) (b : Bs) (en : Ent) (H : Hp) (Q : VK) (E : XK) (hM : IsM K H M b) (nd : b.names.Nodup) (he : en ∈ b.ws) (q : ∀ p, H p = none → Q (.ref p) (upd H p (.lst (en.later.map V.str)))) : spLater K [.ref M, .str en.name] H Q E :=
  ⟨M, b, _, rfl, hM, nd, .inl ⟨en, he, rfl, q⟩⟩
section
variable {E : Type} {ι : Type} {X : ι → Cx} {K : PySem.W.Frag} {L : List (Sl E)} {a b : Expr} {pos : Pos} {wa wb : E → (Bool → Prop) → Prop}
theorem tx_and (ha : TX X K L boolR a wa) (hb : TX X K L boolR b wb) : TX X K L boolR (.BoolOp .And [a, b] pos) (fun env k => wa env fun x => if x = true then wb env k else k false) := by
  obtain ⟨t1, p1, f1⟩ := ha.ex
  obtain ⟨t2, p2, f2⟩ := hb.ex
  refine ⟨fun e k k' h hw => ha.mono _ _ _ (fun x hx => ?_) hw, _, fun i => pe_and (p1 i) (pe_one (p2 i)), fun c σ H env own Q s hw => f1 c σ H env own _ s (ha.mono _ _ _ (fun x hx v H1 x1 r => ?_) hw)⟩
  · cases x
    · exact h _ hx
    · exact hb.mono _ _ _ h hx
  · refine ⟨x, r, ?_⟩
    cases x
    · exact hx _ H1 x1 rfl
    · exact f2 c σ H1 env own _ (s.ex x1) (hb.mono _ _ _ (fun y hy v H2 x2 r => hy v H2 (x1.trans x2) r) hx)
end
end Tx
/-! max, sum, repetition, ranges, places of numbers, items of one's own lists -/
namespace Tx
open PySem PySem.Spec PyProof.Rows L2 Gx
theorem Paired.app {α β : Type} {R : α → β → Prop} : ∀ {xs : List α} {ys : List β} {us : List α} {vs : List β}, Paired R xs ys → Paired R us vs → Paired R (xs ++ us) (ys ++ vs)
  | _, _, _, _, .nil, h => h
  | _, _, _, _, .cons a t, h => .cons a (Paired.app t h)
theorem Paired.rep {α β : Type} {R : α → β → Prop} {xs : List α} {ys : List β} (h : Paired R xs ys) : ∀ n : Nat, Paired R (List.replicate n xs).flatten (List.replicate n ys).flatten
  | 0 => .nil
  | n + 1 => by
    rw [List.replicate_succ, List.replicate_succ, List.flatten_cons, List.flatten_cons]
    exact Paired.app h (Paired.rep h n)
theorem v_rep {K : PySem.W.Frag} {α : Type} {S : Rp α} : VN2 K (lstR S) intR S rRep (fun xs n k => -(2 ^ 63) ≤ n ∧ n < 2 ^ 63 ∧ xs.length * n.toNat ≤ sizeLine ∧ k (List.replicate n.toNat xs).flatten) := ⟨fun x y k k' h h2 => ⟨h2.1, h2.2.1, h2.2.2.1, h _ h2.2.2.2⟩, fun W H x y v u Q fr ⟨a, ws, e, n, h, p⟩ hu ⟨q1, q2, q3, q⟩ => by
  subst e
  rw [show u = V.int y from hu]
  have ll := Paired.length p
  exact ⟨a, y, ws, rfl, rfl, h, q1, q2, by rw [ll]; exact q3, fun l hl => q l _ _ hl (Same.new hl) upd_same (Paired.rep (S.pmono (geNew hl) p) _)⟩⟩
section
variable {E α ι : Type} {X : ι → Cx} {K : PySem.W.Frag} {L : List (Sl E)} {S : Rp α} {tg : Expr} {pos p : Pos}
theorem it_range2 {a b : Expr} {wa : E → (Int × Int × Unit → Prop) → Prop} (hg : ∀ j, Gl (X j) "range") (hm : ∀ j, (X j).mg "range" = none) (h : TA X K L (.cons intR (.cons intR .nil)) [a, b] wa)
    (hs : ∀ j, starEach [a, b] (X j).env = [(false, eval a (X j).env), (false, eval b (X j).env)] := by intro _; rfl) (hs2 : ∀ j, starEach [b] (X j).env = [(false, eval b (X j).env)] := by intro _; rfl) :
    TIt X K L intR tg (.Call (.Name "range" p) [a, b] [] pos) (fun env k => wa env fun z => (-(2 ^ 62) ≤ z.1 ∧ z.1 < 2 ^ 62 ∧ -(2 ^ 62) ≤ z.2.1 ∧ z.2.1 < 2 ^ 62) ∧ k ((List.range (z.2.1 - z.1).toNat).map fun (m : Nat) => z.1 + (m : Int))) := by
  obtain ⟨t, pe, f⟩ := h.ex
  refine ⟨fun e k k' hk hw => h.mono _ _ _ (fun z ⟨h1, h2⟩ => ⟨h1, hk _ h2⟩) hw, _, fun j => pi_range2 (tg := tg) (hg j) (hm j) (pe j) (hs j) (hs2 j), fun c σ H env own Q s hw => f c σ H env own _ s (h.mono _ _ _ (fun z ⟨h1, hx⟩ vs H1 x1 ok => ?_) hw)⟩
  obtain ⟨v1, us1, rfl, r1, v2, us2, rfl, r2, e⟩ := ok
  rw [show us2 = [] from e, show v1 = V.int _ from r1, show v2 = V.int _ from r2]
  refine ⟨z.1, z.2.1, rfl, h1, hx _ H1 (fun _ => True) (YFn fun i => .int (z.1 + (i : Int))) x1 (by rw [List.length_map, List.length_range]; exact walk_range) ⟨fun _ _ _ => trivial, fun W' H2 H3 i v g fr hi y => ?_⟩⟩
  obtain ⟨rfl, rfl⟩ := y
  rw [List.length_map, List.length_range] at hi
  refine ⟨Same.refl _, z.1 + (i : Int), ?_, rfl⟩
  rw [List.getElem?_map, List.getElem?_range hi]
  rfl
end
end Tx
/-! comparisons in a row, max and min of two -/
namespace Tx
open PySem PySem.Spec PyProof.Rows L2 Gx
section
variable {E : Type} {ι : Type} {X : ι → Cx} {K : PySem.W.Frag} {L : List (Sl E)} {a b c : Expr} {pos : Pos} {op op' : CmpOp} {r r' : R2} {wa wb wc : E → (Int → Prop) → Prop} {w1 w2 : Int → Int → (Bool → Prop) → Prop}
theorem tt_chain (ho : ∀ i, OpR (X i) (compareOp op) r) (ho' : ∀ i, OpR (X i) (compareOp op') r') (v : VR2 K intR intR boolR r w1) (v' : VR2 K intR intR boolR r' w2) (ha : TX X K L intR a wa) (hb : TX X K L intR b wb) (hc : TX X K L intR c wc) (hm : lastMarks [op, op'] [b, c] = false := by rfl) :
    TT X K L (.Compare a [op, op'] [b, c] pos) (fun env k => wa env fun x => wb env fun y => w1 x y fun z => if z = true then wc env fun u => w2 y u k else k false) := by
  obtain ⟨t1, p1, f1⟩ := ha.ex
  obtain ⟨t2, p2, f2⟩ := hb.ex
  obtain ⟨t3, p3, f3⟩ := hc.ex
  refine ⟨fun e k k' h hw => ha.mono _ _ _ (fun x hx => hb.mono _ _ _ (fun y hy => v.mono _ _ _ _ (fun z hz => ?_) hy) hx) hw, _, fun i => pt_chain (ho i) (ho' i) (p1 i) (p2 i) (p3 i) hm, fun cc σ H env own Q s hw => ?_⟩
  · cases z
    · exact h _ hz
    · exact hc.mono _ _ _ (fun u hu => v'.mono _ _ _ _ h hu) hz
  · refine f1 cc σ H env own _ s (ha.mono _ _ _ (fun x hx v1 H1 x1 r1 => ?_) hw)
    refine f2 cc σ H1 env own _ (s.ex x1) (hb.mono _ _ _ (fun y hy v2 H2 x2 r2 => ?_) hx)
    have s2 := (s.ex x1).ex x2
    refine v.run (Wb cc own) H2 x y v1 v2 _ (fun l hl => s2.fresh hl) r1 r2 (v.mono _ _ _ _ (fun z hz z' H3 k3 r3 => ?_) hy)
    have s3 := s2.ex (s2.exSame k3)
    refine ⟨z, r3, ?_⟩
    cases z
    · exact ⟨false, rfl, hz _ (x1.trans (x2.trans (s2.exSame k3)))⟩
    · refine f3 cc σ H3 env own _ s3 (hc.mono _ _ _ (fun u hu v4 H4 x4 r4 => ?_) hz)
      have s4 := s3.ex x4
      refine v'.run (Wb cc own) H4 y u v2 v4 _ (fun l hl => s4.fresh hl) r2 r4 (v'.mono _ _ _ _ (fun z2 hz2 z2' H5 k5 r5 => ⟨z2, r5, ?_⟩) hu)
      exact hz2 _ (x1.trans (x2.trans ((s2.exSame k3).trans (x4.trans (s4.exSame k5)))))
end
end Tx
/-! dicts whose keys are nested tuples -/
namespace Gx
open PySem PySem.Spec PyProof.Rows L2
abbrev NDv := NestedKey × Addr × V
/-- the dict at d: keys, where the key's tuple lies, values -/
def ndP (P : Program) (w : World) (d : Addr) (kvs : List NDv) (h : Heap) : Prop := kvs.length ≤ sizeLine ∧ (d == sysModules) = false ∧ ∃ xs : List (NestedKey × Addr × Value), Paired (fun (p : NDv) (q : NestedKey × Addr × Value) => p.1 = q.1 ∧ p.2.1 = q.2.1 ∧ RelV p.2.2 q.2.2) kvs xs ∧ (xs.map (·.1)).Nodup ∧
  ∃ o es ep, h.get? d = some o ∧ o.ExactDict ∧ o.data = .dict es ep ∧ es.toList = xs.map (entryOfKey (nestedKind P w))
def ndO (P : Program) (w : World) (d : Addr) (kvs : List NDv) : HO := .ext (ndP P w d kvs)
theorem ndP.ok {P : Program} {w : World} {H : Hp} {h : Heap} {d : Addr} {kvs : List NDv} (z : ndP P w d kvs h) : ObjOk P w H h d (ndO P w d kvs) := by
  show ndP P w d kvs h ∧ (∃ o, h.get? d = some o) ∧ ∀ h1 h2 : Heap, ndP P w d kvs h1 → (∀ o, h1.get? d = some o → h2.get? d = some o) → ndP P w d kvs h2
  refine ⟨z, ?_, fun h1 h2 ⟨a, b, xs, p, nd, o, es, ep, e, q⟩ k => ⟨a, b, xs, p, nd, o, es, ep, k _ e, q⟩⟩
  obtain ⟨_, _, xs, _, _, o, es, ep, e, _⟩ := z
  exact ⟨o, e⟩
mutual
/-- a value that is such a key -/
inductive NK (K : PySem.W.Frag) (H : Hp) : V → NestedKey → Prop
  | int (i : Int) : NK K H (.int i) (.num i)
  | str (x : Str) : NK K H (.str x) (.text x)
  | tup {a : Addr} {xs : List V} {ks : List NestedKey} : SqT K H a xs → NKs K H xs ks → NK K H (.ref a) (.tup ks)
inductive NKs (K : PySem.W.Frag) (H : Hp) : List V → List NestedKey → Prop
  | nil : NKs K H [] []
  | cons {v : V} {vs : List V} {k : NestedKey} {ks : List NestedKey} : NK K H v k → NKs K H vs ks → NKs K H (v :: vs) (k :: ks)
end
section
variable {X : Cx} {pins : List (Addr × Obj)} {σ : L2.St} {H : Hp} {s : Shared}
mutual
theorem NK.is (I : Inv X pins σ H s) : ∀ {v : V} {k : NestedKey} {u : Value}, NK X.K H v k → RelV v u → NestedIs s.heap k u
  | _, _, _, .int i, r => by obtain ⟨t, rfl⟩ := r; exact .int i t
  | _, _, _, .str x, r => by obtain ⟨t, rfl⟩ := r; exact .text x t
  | _, _, _, .tup (a := a) hs ha, r => by
    cases r
    obtain ⟨its, rv, ⟨o, ho, hc, n, hd⟩, _⟩ := I.tuple hs
    exact .tup ho hc hd (NKs.is I ha rv)
theorem NKs.is (I : Inv X pins σ H s) : ∀ {vs : List V} {ks : List NestedKey} {us : List Value}, NKs X.K H vs ks → Vals vs us → NestedAll s.heap ks us
  | _, _, _, .nil, r => by cases r; exact .nil
  | _, _, _, .cons h t, r => by
    cases r with
    | cons r1 r2 => exact .cons (NK.is I h r1) (NKs.is I t r2)
end
/-- what is known of the keys' tuples -/
def NDk (K : PySem.W.Frag) (H : Hp) (kvs : List NDv) : Prop := ∀ p ∈ kvs, NK K H (.ref p.2.1) p.1 ∧ p.1.depth ≤ 8
end
end Gx
namespace Gx
open PySem PySem.Spec PyProof.Rows L2
/-- what such a dict holds at a key -/
def ndGet (kvs : List NDv) (k : NestedKey) : Option V := (kvs.find? fun p => decide (p.1 = k)).map (·.2.2)
end Gx
namespace Gx
open PySem PySem.Spec PyProof.Rows L2
end Gx
namespace Gx
open PySem PySem.Spec PyProof.Rows L2
end Gx
/-! dict comprehensions over any kind of own dict -/
namespace Gx
open PySem PySem.Spec PyProof.Rows L2
section
variable {X : Cx}
/-! the two kinds -/
theorem upd_id {H : Hp} {a : Addr} {o : HO} (h : H a = some o) : upd H a o = H := by
  funext b
  by_cases e : b = a
  · rw [e, upd_same, h]
  · rw [upd_ne e]
/-- keys that are texts or numbers: seen as one's own object till the end -/
def dsO (P : Program) (w : World) (D : Addr) (kvs : List (Key × V)) : HO := .ext fun h => ObjOk P w (fun _ => none) h D (.dK kvs)
theorem dk_any {P : Program} {w : World} {H H' : Hp} {h : Heap} {a : Addr} {kvs : List (Key × V)} (z : ObjOk P w H h a (.dK kvs)) : ObjOk P w H' h a (.dK kvs) := z
theorem dk_there {P : Program} {w : World} {H : Hp} {h : Heap} {a : Addr} {kvs : List (Key × V)} (z : ObjOk P w H h a (.dK kvs)) : ∃ o, h.get? a = some o := by
  obtain ⟨_, _, vs, _, o, _, _, e, _⟩ := z
  exact ⟨o, e⟩
theorem ds_ok {P : Program} {w : World} {H : Hp} {h : Heap} {a : Addr} {kvs : List (Key × V)} (z : ObjOk P w H h a (.dK kvs)) : ObjOk P w H h a (dsO P w a kvs) := by
  show ObjOk P w (fun _ => none) h a (.dK kvs) ∧ (∃ o, h.get? a = some o) ∧ ∀ h1 h2 : Heap, ObjOk P w (fun _ => none) h1 a (.dK kvs) → (∀ o, h1.get? a = some o → h2.get? a = some o) → ObjOk P w (fun _ => none) h2 a (.dK kvs)
  refine ⟨z, dk_there z, ?_⟩
  rintro h1 h2 ⟨z1, z2, vs, rel, o, es, ep, e, rest⟩ k
  exact ⟨z1, z2, vs, rel, o, es, ep, k _ e, rest⟩
theorem ds_of {P : Program} {w : World} {H : Hp} {h : Heap} {a : Addr} {kvs : List (Key × V)} (z : ObjOk P w H h a (dsO P w a kvs)) : ObjOk P w H h a (.dK kvs) := z.1
/-- an object is seen in another way -/
theorem retag {X : Cx} {pins : List (Addr × Obj)} {σ : L2.St} {H : Hp} {s : Shared} {D : Addr} {o o' : HO} (I : Inv X pins σ H s) (hD : H D = some o) (mu : Mut (some o)) (ok : ∀ H', ObjOk X.prog X.w H s.heap D o → ObjOk X.prog X.w H' s.heap D o') (there : ∃ u, s.heap.get? D = some u) : Inv X pins σ (upd H D o') s :=
  I.write (x := D) (e := D) (o := o') (by rw [hD]; exact mu) (.inl rfl) (fun b o n e => e) there (ok _ (I.hok D _ hD))
theorem upd2 {H : Hp} {a : Addr} {o o' : HO} : upd (upd H a o) a o' = upd H a o' := by
  funext b
  by_cases e : b = a
  · rw [e, upd_same, upd_same]
  · rw [upd_ne e, upd_ne e, upd_ne e]
end
end Gx
/-! dicts in the typed layer: with nested keys, one's own; with texts as keys, that stay -/
namespace Tx
open PySem PySem.Spec PyProof.Rows L2 Gx
/-- what a table holds at a key -/
def getK {κ β : Type} [DecidableEq κ] (xs : List (κ × β)) (k : κ) : Option β := (xs.find? fun p => decide (p.1 = k)).map (·.2)
theorem getK_nil {κ β : Type} [DecidableEq κ] {k : κ} : getK ([] : List (κ × β)) k = none := rfl
theorem getK_cons {κ β : Type} [DecidableEq κ] {p : κ × β} {xs : List (κ × β)} {k : κ} : getK (p :: xs) k = if p.1 = k then some p.2 else getK xs k := by
  unfold getK
  by_cases h : p.1 = k
  · rw [List.find?_cons_of_pos (by simpa using h), if_pos h]
    rfl
  · rw [List.find?_cons_of_neg (by simpa using h), if_neg h]
theorem getK_app {κ β : Type} [DecidableEq κ] {p : κ × β} {xs : List (κ × β)} {k : κ} : getK (xs ++ [p]) k = (getK xs k).or (if p.1 = k then some p.2 else none) := by
  induction xs with
  | nil => rw [List.nil_append, getK_cons, getK_nil]; rfl
  | cons x xs ih =>
    rw [List.cons_append, getK_cons, getK_cons, ih]
    by_cases h : x.1 = k
    · rw [if_pos h, if_pos h]; rfl
    · rw [if_neg h, if_neg h]
/-- data that can be keys, or stand in them -/
structure KV {κ : Type} (K : PySem.W.Frag) (SK : Rp κ) (kf : κ → NestedKey) (n : Nat) : Prop where
  nk : ∀ {W : WS} {H : Hp} {v : V} {x : κ}, SK.r K W H v x → NK K H v (kf x)
  dp : ∀ x, (kf x).depth ≤ n
  inj : ∀ {x y : κ}, kf x = kf y → x = y
structure KR {κ : Type} (K : PySem.W.Frag) (SK : Rp κ) (kf : κ → NestedKey) : Prop where
  nk : ∀ {W : WS} {H : Hp} {v : V} {x : κ}, SK.r K W H v x → ∃ a, v = .ref a ∧ NK K H (.ref a) (kf x)
  dp : ∀ x, (kf x).depth ≤ 8
  inj : ∀ {x y : κ}, kf x = kf y → x = y
/-! ### the objects -/
section
variable {κ β : Type}
def NDp (K : PySem.W.Frag) (W : WS) (H : Hp) (SK : Rp κ) (kf : κ → NestedKey) (S : Rp β) : NDv → κ × β → Prop := fun p q => p.1 = kf q.1 ∧ SK.r K W H (.ref p.2.1) q.1 ∧ S.r K W H p.2.2 q.2
def DSp (K : PySem.W.Frag) (W : WS) (H : Hp) (S : Rp β) : Key × V → Str × β → Prop := fun p q => p.1 = .inr q.1 ∧ S.r K W H p.2 q.2
/-- a dict with texts as keys, in the making -/
def dsR (P : Program) (w : World) (S : Rp β) : Ro (List (Str × β)) := ⟨fun K W H D o xs => ∃ kvs, o = dsO P w D kvs ∧ Paired (DSp K W H S) kvs xs,
  fun g ⟨kvs, e, p⟩ => ⟨kvs, e, Paired.imp2 (fun _ _ ⟨a, b⟩ => ⟨a, S.mono g b⟩) p⟩, fun ⟨kvs, e, _⟩ => .inr ⟨_, rfl, .inl ⟨_, e⟩⟩, fun _ a => .ref a⟩
/-- .. that stays -/
def dicR (S : Rp β) : Rp (List (Str × β)) := ⟨fun K W H v xs => ∃ a kvs, v = .ref a ∧ ¬ W a ∧ H a = some (.dK kvs) ∧ Paired (DSp K W H S) kvs xs,
  fun g ⟨a, kvs, e, n, h, p⟩ => ⟨a, kvs, e, (g _ _ n h).1, (g _ _ n h).2, Paired.imp2 (fun _ _ ⟨a, b⟩ => ⟨a, S.mono g b⟩) p⟩⟩
variable [DecidableEq κ] {K : PySem.W.Frag} {W : WS} {H : Hp} {SK : Rp κ} {kf : κ → NestedKey} {S : Rp β}
theorem NDp.keys (kr : KR K SK kf) {kvs : List NDv} {xs : List (κ × β)} (p : Paired (NDp K W H SK kf S) kvs xs) : NDk K H kvs := by
  intro z hz
  obtain ⟨q, hq, h1, h2, _⟩ := Paired.of_mem p hz
  obtain ⟨a, e, nk⟩ := kr.nk h2
  rw [h1]
  refine ⟨?_, kr.dp _⟩
  rw [e]
  exact nk
theorem NDp.get (kr : KR K SK kf) {kvs : List NDv} {xs : List (κ × β)} (p : Paired (NDp K W H SK kf S) kvs xs) (k : κ) : (ndGet kvs (kf k) = none ∧ getK xs k = none) ∨ ∃ v y, ndGet kvs (kf k) = some v ∧ getK xs k = some y ∧ S.r K W H v y := by
  induction p with
  | nil => exact .inl ⟨rfl, rfl⟩
  | @cons a b as bs h t ih =>
    by_cases e : b.1 = k
    · refine .inr ⟨a.2.2, b.2, ?_, ?_, h.2.2⟩
      · unfold ndGet
        rw [List.find?_cons_of_pos (by simp [h.1, e])]
        rfl
      · rw [getK_cons, if_pos e]
    · have ne : ¬ a.1 = kf k := fun z => e (kr.inj (h.1.symm.trans z))
      have e1 : ndGet (a :: as) (kf k) = ndGet as (kf k) := by
        unfold ndGet
        rw [List.find?_cons_of_neg (by simpa using ne)]
      rw [e1, getK_cons, if_neg e]
      exact ih
theorem DSp.get {kvs : List (Key × V)} {xs : List (Str × β)} (p : Paired (DSp K W H S) kvs xs) (k : Str) : (valV kvs (Sum.inr k) = none ∧ getK xs k = none) ∨ ∃ v y, valV kvs (Sum.inr k) = some v ∧ getK xs k = some y ∧ S.r K W H v y := by
  induction p with
  | nil => exact .inl ⟨rfl, rfl⟩
  | @cons a b as bs h t ih =>
    by_cases e : b.1 = k
    · refine .inr ⟨a.2, b.2, valV_pos (by rw [h.1, e]), ?_, h.2⟩
      rw [getK_cons, if_pos e]
    · have ne : ¬ a.1 = Sum.inr k := fun z => e (Sum.inr.inj (h.1.symm.trans z))
      rw [valV_neg ne, getK_cons, if_neg e]
      exact ih
theorem putK_new {kvs : List (Key × V)} {k : Key} {v : V} (h : valV kvs k = none) : putK kvs k v = kvs ++ [(k, v)] := by
  unfold putK
  rw [if_neg]
  intro z
  rw [List.any_eq_true] at z
  obtain ⟨p, hp, e⟩ := z
  unfold valV at h
  rw [Option.map_eq_none_iff, List.find?_eq_none] at h
  exact h p hp e
end
/-! ### what is walked by a comprehension: one's own list, too -/
/-! ### comprehensions -/
def wDc {E α κ β : Type} [DecidableEq κ] (wt : E × α → (Bool → Prop) → Prop) (wk : E × α → (κ → Prop) → Prop) (wv : E × α → (β → Prop) → Prop) : List α → List (κ × β) → E → (List (κ × β) → Prop) → Prop
  | [], acc, _, k => k acc
  | x :: xs, acc, e, k => wt (e, x) fun b => if b = true then wk (e, x) fun y => wv (e, x) fun z => getK acc y = none ∧ wDc wt wk wv xs (acc ++ [(y, z)]) e k else wDc wt wk wv xs acc e k
theorem wDc.mono {E α κ β : Type} [DecidableEq κ] {wt : E × α → (Bool → Prop) → Prop} {wk : E × α → (κ → Prop) → Prop} {wv : E × α → (β → Prop) → Prop} (ht : Mono wt) (hk : Mono wk) (hv : Mono wv) : ∀ (xs : List α) (acc : List (κ × β)) (e : E) (k k' : List (κ × β) → Prop), (∀ x, k x → k' x) → wDc wt wk wv xs acc e k → wDc wt wk wv xs acc e k'
  | [], acc, e, k, k', h, z => h _ z
  | x :: xs, acc, e, k, k', h, z => ht _ _ _ (fun b hb => by
      cases b
      · exact wDc.mono ht hk hv xs acc e k k' h hb
      · exact hk _ _ _ (fun y hy => hv _ _ _ (fun z hz => ⟨hz.1, wDc.mono ht hk hv xs _ e k k' h hz.2⟩) hy) hb) z
end Tx
/-! dicts read and written -/
namespace Tx
open PySem PySem.Spec PyProof.Rows L2 Gx
theorem allB {is : List Nat} {f : Nat → Bool} (h : is.all f = true) : ∀ i ∈ is, f i = true := List.all_eq_true.mp h
end Tx
/-! itertools.permutations over a list -/
namespace Pm
open PySem PySem.Spec
open Sem (wp)
end Pm
/-! one permutation more; none more -/
namespace Pm
open PySem PySem.Spec
open Sem (wp)
def nums (l : List Nat) : List Value := l.map fun (n : Nat) => rawInt (n : Int)
/-- the object: state, how many, what it handed out, its numbers -/
abbrev IsPm (h : Heap) (it pool : Addr) (state : Int) (n : Nat) (before : Value) (l : List Nat) : Prop := h.get? it = some { cls := .type "itertools.permutations", dict := none, data := .fields ([.ref pool, rawInt state, rawInt (n : Int), before] ++ nums l).toArray, slots := #[] }
section
variable {prog : Program} {w : World} {A : Around} {E : Value → Shared → Prop} {s : Shared}
theorem IsPm.st {h : Heap} {it pool : Addr} {st st' : Int} {n : Nat} {before : Value} {l : List Nat} (hi : IsPm h it pool st n before l) : IsPm (h.update it (Obj.mapFields fun x => x.setIfInBounds 1 (rawInt st'))) it pool st' n before l := by
  refine (Heap.get?_update_self _ hi rfl).trans ?_
  simp [Obj.mapFields]
end
end Pm
namespace Pm
open PySem PySem.Spec
open Sem (wp)
def start (n : Nat) : List Nat := List.range n ++ (List.range n).map fun i => n - i
end Pm
/-! for x in permutations(xs) -/
namespace Pm
open PySem PySem.Spec PyProof.Rows L2 Gx
end Pm
/-! enumerate over a tuple -/
namespace En
open PySem PySem.Spec PyProof.Rows L2 Gx
open AutoSeq1 (wpAny_loadPart')
end En
/-! more rules: permutations, enumerate over a tuple, truth of lists, data in lists, items stored -/
namespace Tx
open PySem PySem.Spec PyProof.Rows L2 Gx Pm En
/-! ### what stays whatever lists are owned -/
def Fl2 {α : Type} (S : Rp α) : Prop := ∀ {K : PySem.W.Frag} {W W' : WS} {H : Hp} {v : V} {x : α}, (∀ a, W' a → OwO (H a)) → S.r K W H v x → S.r K W' H v x
theorem Fl2.p {α : Type} {S : Rp α} (f : Fl2 S) {K : PySem.W.Frag} {W W' : WS} {H : Hp} {vs : List V} {xs : List α} (o : ∀ a, W' a → OwO (H a)) (h : Paired (S.r K W H) vs xs) : Paired (S.r K W' H) vs xs := Paired.imp2 (fun _ _ z => f o z) h
/-! ### isinstance, len, and -/
section
variable {E α : Type} {ι : Type} {X : ι → Cx} {K : PySem.W.Frag} {L : List (Sl E)} {S : Rp α} {a b d e : Expr} {pos p : Pos} {wa wb wd : E → (Bool → Prop) → Prop}
theorem tx_and3 (ha : TX X K L boolR a wa) (hb : TX X K L boolR b wb) (hd : TX X K L boolR d wd) : TX X K L boolR (.BoolOp .And [a, b, d] pos) (fun env k => wa env fun x => if x = true then (wb env fun y => if y = true then wd env k else k false) else k false) := by
  obtain ⟨t1, p1, f1⟩ := ha.ex
  obtain ⟨t2, p2, f2⟩ := hb.ex
  obtain ⟨t3, p3, f3⟩ := hd.ex
  refine ⟨fun e k k' h hw => ha.mono _ _ _ (fun x hx => ?_) hw, _, fun i => pe_and (p1 i) (pe_and (p2 i) (pe_one (p3 i))), fun c σ H env own Q s hw => f1 c σ H env own _ s (ha.mono _ _ _ (fun x hx v H1 x1 r => ?_) hw)⟩
  · cases x
    · exact h _ hx
    · refine hb.mono _ _ _ (fun y hy => ?_) hx
      cases y
      · exact h _ hy
      · exact hd.mono _ _ _ h hy
  · refine ⟨x, r, ?_⟩
    cases x
    · exact hx _ H1 x1 rfl
    · refine f2 c σ H1 env own _ (s.ex x1) (hb.mono _ _ _ (fun y hy v H2 x2 r => ?_) hx)
      refine ⟨y, r, ?_⟩
      cases y
      · exact hy _ H2 (x1.trans x2) rfl
      · exact f3 c σ H2 env own _ ((s.ex x1).ex x2) (hd.mono _ _ _ (fun z hz v H3 x3 r => hz v H3 ((x1.trans x2).trans x3) r) hy)
end
/-! ### data: lists of lists, of pairs; None -/
end Tx
/-! permutations and enumerated tuples, walked; places in tuples; items stored; an empty own dict -/
namespace Tx
open PySem PySem.Spec PyProof.Rows L2 Gx Pm En
theorem erase_map {α β : Type} (f : α → β) : ∀ (xs : List α) (n : Nat), (xs.map f).eraseIdx n = (xs.eraseIdx n).map f
  | [], _ => rfl
  | x :: xs, 0 => rfl
  | x :: xs, n + 1 => by
    simp only [List.map_cons, List.eraseIdx_cons_succ]
    rw [erase_map f xs n]
section
variable {E α : Type} {ι : Type} {X : ι → Cx} {K : PySem.W.Frag} {L : List (Sl E)} {S : Rp α} {tg e : Expr} {pos p : Pos}
/-- a tuple that is known to the last: it has no dict of its own -/
def xtR {α : Type} (S : Rp α) : Rp (List α) := ⟨fun K W H v xs => ∃ a vs o, v = .ref a ∧ ¬ W a ∧ H a = some (.frz o (.tup vs)) ∧ o.dict = none ∧ Paired (S.r K W H) vs xs,
  fun g ⟨a, vs, o, e, n, h, d, p⟩ => ⟨a, vs, o, e, (g _ _ n h).1, (g _ _ n h).2, d, S.pmono g p⟩⟩
theorem xtR.t {S : Rp α} {K : PySem.W.Frag} {W : WS} {H : Hp} {v : V} {xs : List α} (h : (xtR S).r K W H v xs) : (tupR S).r K W H v xs := by
  obtain ⟨a, vs, o, e, n, h, d, p⟩ := h
  exact ⟨a, vs, e, .inl ⟨n, .inr ⟨o, h⟩⟩, p⟩
end
end Tx
/-! x, y, z = a, b, c -/
namespace Tx
open PySem PySem.Spec PyProof.Rows L2 Gx
end Tx
/-! dicts with nested keys: walked while locked, read while locked, a key written again -/
namespace Gx
open PySem PySem.Spec PyProof.Rows L2
section
variable {X : Cx}
/-- what is behind d[k] = v: a new key at the end, or the old one's value changed -/
def putN (kvs : List NDv) (k : NestedKey) (a : Addr) (v : V) : List NDv := if (ndGet kvs k).isSome then kvs.map fun p => if p.1 = k then (p.1, p.2.1, v) else p else kvs ++ [(k, a, v)]
end
end Gx
namespace Gx
open PySem PySem.Spec PyProof.Rows L2
end Gx
/-! one's own dict walked, read while it is walked, written again -/
namespace Tx
open PySem PySem.Spec PyProof.Rows L2 Gx
section
variable {E κ β : Type} {K : PySem.W.Frag} {c : Bc} {L : List (Sl E)} {σ : L2.St} {H : Hp} {e : E} {own : Own} {P : Program} {w : World} {SK : Rp κ} {kf : κ → NestedKey} {S : Rp β} {g : E → List (κ × β)}
def noOwn (own : Own) (i : Nat) : Own := fun j => if j = i then none else own j
end
section
variable {E κ β ρ ι : Type} {X : ι → Cx} {K : PySem.W.Frag} {R : RetR ρ} {L L' L1 : List (Sl E)} {SK : Rp κ} {S : Rp β} {kf : κ → NestedKey} {P : Program} {w : World} {g : E → List (κ × β)}
variable {es tg : Expr} {a : Expr} {pos : Pos} {we : E → (List (κ × β) → Prop) → Prop} {wa : E → (κ → Prop) → Prop}
variable [DecidableEq κ]
/-- what a table holds behind t[k] = v -/
def setK {κ β : Type} [DecidableEq κ] (xs : List (κ × β)) (k : κ) (v : β) : List (κ × β) := if (getK xs k).isSome then xs.map fun p => if p.1 = k then (p.1, v) else p else xs ++ [(k, v)]
theorem NDp.put {W : WS} {H : Hp} (kr : KR K SK kf) {kvs : List NDv} {xs : List (κ × β)} (p : Paired (NDp K W H SK kf S) kvs xs) {k : κ} {a : Addr} {v : V} {u : β} (rk : SK.r K W H (.ref a) k) (rv : S.r K W H v u) : Paired (NDp K W H SK kf S) (putN kvs (kf k) a v) (setK xs k u) := by
  have sm : (ndGet kvs (kf k)).isSome = (getK xs k).isSome := by
    rcases NDp.get kr p k with ⟨e1, e2⟩ | ⟨v, u, e1, e2, _⟩ <;> rw [e1, e2] <;> rfl
  unfold putN setK
  rw [sm]
  by_cases c : (getK xs k).isSome = true
  · rw [if_pos c, if_pos c]
    clear c sm
    induction p with
    | nil => exact .nil
    | @cons x y as bs r t ih =>
      refine .cons ?_ ih
      by_cases c : y.1 = k
      · have c' : x.1 = kf k := by rw [r.1, c]
        dsimp only
        rw [if_pos c', if_pos c]
        exact ⟨r.1, r.2.1, rv⟩
      · have c' : ¬ x.1 = kf k := fun z => c (kr.inj (r.1.symm.trans z))
        dsimp only
        rw [if_neg c', if_neg c]
        exact r
  · rw [if_neg c, if_neg c]
    exact Paired.snoc p ⟨rfl, rk, rv⟩
end
end Tx
/-! sorted, zip, an own dict under another name, a dict of one pair -/
namespace Tx
open PySem PySem.Spec PyProof.Rows L2 Gx
end Tx
/-! a dict of one pair -/
namespace Gx
open PySem PySem.Spec PyProof.Rows L2
end Gx
namespace Tx
open PySem PySem.Spec PyProof.Rows L2 Gx
end Tx
/-! what a call hands back is new, all of it: changed at once, and left -/
namespace Tx
open PySem PySem.Spec PyProof.Rows L2 Gx
end Tx
/-! errors: what a def may raise, plain -/
namespace Tx
open PySem PySem.Spec PyProof.Rows L2 Gx
/-- an error: its class' name, its field's name, what it holds -/
structure Er where
  cls : Str
  f : Str
  v : V
def ErOk (K : PySem.W.Frag) (c : Bc) (E : XK) (r : Er) : Prop := ∀ d H', Bk c H' → H' d = some (.xd [(r.f, r.v)]) → E (.ref (He.ga K r.cls)) (some d) H'
/-- handed back, or raised -/
def retX {ρ : Type} (R : RetR ρ) (E : XK) : RetR (Er ⊕ ρ) := ⟨fun K c Q r => match r with
  | .inl e => ErOk K c E e
  | .inr x => R.to K c Q x, fun {K c c' Q x} p h => match x, h with
  | .inl _, h => fun d H' b e => h d H' (b.pin p) e
  | .inr _, h => R.pin p h⟩
/-- a promise that may raise -/
def spX (K : PySem.W.Frag) {τ ρ : Type} (A : Ar τ) (R : RetR ρ) (w : τ → ((Er ⊕ ρ) → Prop) → Prop) : Sp := fun vs H Q E => ∃ (W : WS) (x : τ), (∀ a, W a → OwO (H a)) ∧ ArOk K W H (fun p => W p ∧ SrcAt H p) A vs x ∧ w x (fun r => (retX R E).to K ⟨H, W, Bof A vs⟩ Q r)
theorem spX_len {τ ρ : Type} {K : PySem.W.Frag} {A : Ar τ} {R : RetR ρ} {w : τ → ((Er ⊕ ρ) → Prop) → Prop} {vs : List V} {H : Hp} {Q : VK} {E : XK} (h : spX K A R w vs H Q E) : vs.length = arn A := by
  obtain ⟨W, x, dom, ok, hw⟩ := h
  exact ok.len
/-- an expression that may raise -/
def XKn {E α : Type} (W : WX) (K : PySem.W.Frag) (L : List (Sl E)) (S : Rp α) (c : Bc) (σ : L2.St) (H : Hp) (own : Own) (Q : VK) : (Er ⊕ α) → Prop
  | .inr x => ∀ v H', Ex L own H H' → S.r K (Wb c own) H' v x → Q v H'
  | .inl r => ∀ d H', Ex L own H H' → H' d = some (.xd [(r.f, r.v)]) → W (.ref (He.ga K r.cls)) (some d) σ H'
structure TXx {E α : Type} {ι : Type} (X : ι → Cx) (W : WX) (K : PySem.W.Frag) (L : List (Sl E)) (S : Rp α) (e : Expr) (w : E → ((Er ⊕ α) → Prop) → Prop) : Prop where
  mono : Mono w
  ex : ∃ t, (∀ i, PE (X i) e t) ∧ ∀ (c : Bc) (σ : L2.St) (H : Hp) (env : E) (own : Own) (Q : VK), St K c L σ H env own → w env (XKn W K L S c σ H own Q) → t σ H Q
section
variable {X : Cx} {Y : CXT} {k : Nat} {E : L2.St → XK} {x : Str} {sp : Sp} {e : Expr} {es : List Expr} {t : L2.TA} {p pos : Pos}
theorem pe_caS (c : Ca X.prog X.w X.K X.mg X.base Y k x sp) (hr : Room k X.A) (hg : Gl X x) (hx : ∀ σ, PassesAt Y X σ (E σ)) (ha : PA X (e :: es) t) (hdb : (x == ("__debug__" : Str)) = false := by decide) (he : starEach (e :: es) X.env = (false, eval e X.env) :: starEach es X.env := by rfl)
    (hpl : (backTo pos (starEach es X.env)).any (·.1) = false := by rfl) : PE X (.Call (.Name x p) (e :: es) [] pos) (tCallS sp E t) := by
  obtain ⟨f, fd, ps, F, hb, hm, hk⟩ := c.ex
  exact pe_callS F hr hg hm hk hb hx ha hdb he hpl
end
section
variable {E α β τ ρ : Type} {ι : Type} {X : ι → Cx} {W : WX} {K : PySem.W.Frag} {L : List (Sl E)} {S : Rp α} {T : Rp β} {A : Ar τ} {e : Expr} {es : List Expr} {pos p : Pos}
theorem TX.x {w : E → (α → Prop) → Prop} (h : TX X K L S e w) : TXx X W K L S e (fun env k => w env fun x => k (.inr x)) := by
  obtain ⟨t, p, f⟩ := h.ex
  exact ⟨fun e k k' h' hw => h.mono _ _ _ (fun x hx => h' _ hx) hw, t, p, fun c σ H env own Q s hw => f c σ H env own Q s (h.mono _ _ _ (fun x hx => hx) hw)⟩
theorem bof_sr {c : Bc} {σ : L2.St} {H : Hp} {env : E} {own : Own} {vs : List V} {x : τ} (s : St K c L σ H env own) (ok : ArOk K (Wb c own) H (Sr L own) A vs x) : ArOk K (Wb c own) H (fun p => Wb c own p ∧ SrcAt H p) A vs x := ok.imp Ge.refl fun a z => ⟨z.wb, s.sr z⟩
/-- f(..), which may raise -/
theorem txx_call {k : Nat} {f : Str} {w : τ → ((Er ⊕ α) → Prop) → Prop} {wa : E → (τ → Prop) → Prop} (cl : ∀ i, Ca (X i).prog (X i).w (X i).K (X i).mg (X i).base (L2.CX (X i).prog (X i).w) k f (spX K A (retI S) w)) (mw : ∀ x k k', (∀ y, k y → k' y) → w x k → w x k') (hr : ∀ i, Room k (X i).A) (hg : ∀ i, Gl (X i) f) (tk : ∀ i, Takes (X i) W) (ha : TA X K L A (e :: es) wa)
    (hdb : (f == ("__debug__" : Str)) = false := by decide) (he : ∀ i, starEach (e :: es) (X i).env = (false, eval e (X i).env) :: starEach es (X i).env := by intro _; rfl) (hpl : ∀ i, (backTo pos (starEach es (X i).env)).any (·.1) = false := by intro _; rfl) : TXx X W K L S (.Call (.Name f p) (e :: es) [] pos) (fun env k => wa env fun x => w x k) := by
  obtain ⟨t, pt, ft⟩ := ha.ex
  refine ⟨fun e k k' h hw => ha.mono _ _ _ (fun x hx => mw _ _ _ h hx) hw, _, fun i => pe_caS (E := WE W) (cl i) (hr i) (hg i) (fun σ => passAt (tk i) σ) (pt i) hdb (he i) (hpl i), fun c σ H env own Q s hw => ?_⟩
  refine ft c σ H env own _ s (ha.mono _ _ _ (fun x hx vs H1 x1 ok => ?_) hw)
  have s1 := s.ex x1
  refine ⟨Wb c own, x, fun a z => s1.hasW z, bof_sr s1 ok, mw _ _ _ (fun y hy => ?_) hx⟩
  match y, hy with
  | .inr y, hy => exact fun v H' r => hy v H' (x1.trans (Bk.ex s1 ok r.1)) r.2
  | .inl y, hy => exact fun d H' b q => hy d H' (x1.trans (Bk.ex s1 ok b)) q
end
/-! ### statements of a def that may raise -/
/-- the wish of a def whose way out is E -/
abbrev WOut (E : XK) : WX := fun cls d _ H => E cls d H
section
variable {E α β ρ : Type} {ι : Type} {X : ι → Cx} {K : PySem.W.Frag} {R : RetR ρ} {EX : XK} {L L1 L' : List (Sl E)} {S : Rp α} {T : Rp β} {s : Stmt} {ss : List Stmt} {e : Expr} {pos : Pos}
theorem St.bk {c : Bc} {σ : L2.St} {H H' : Hp} {env : E} {own : Own} (s : St K c L σ H env own) (x : Ex L own H H') : Bk c H' := by
  have s' := s.ex x
  refine ⟨s'.stay, fun a hb => ?_⟩
  obtain ⟨i, h1, h2⟩ := s.bs a hb
  exact x.sr a ⟨i, h1, h2⟩
/-- what raises nothing: handed back as before -/
theorem ts_lift1 {w : E → Kn E ρ → Prop} (h : TS1 X K R L L' s w) : TS1 X K (retX R EX) L L' s (fun env k => w env ⟨k.nx, fun r => k.rt (.inr r)⟩) := by
  obtain ⟨t, p, f⟩ := h.ex
  exact ⟨fun e k k' hn hr hw => h.mono e ⟨k.nx, fun r => k.rt (.inr r)⟩ ⟨k'.nx, fun r => k'.rt (.inr r)⟩ hn (fun r z => hr _ z) hw, t, p, fun c σ H env own D s hw => f c σ H env own D s (h.mono env ⟨(kon K (retX R EX) L' c D).nx, fun r => (kon K (retX R EX) L' c D).rt (.inr r)⟩ _ (fun _ z => z) (fun r z => z) hw)⟩
/-- a tail without exceptions -/
theorem TS.nox {w : E → Kn E ρ → Prop} (h : TS (fun i => (X i).nox) K R L L' ss w) : TS X K R L L' ss w := by
  obtain ⟨t, p, f⟩ := h.ex
  exact ⟨h.mono, t, fun i => PSs.nox (p i), f⟩
theorem TX.nox {w : E → (α → Prop) → Prop} (h : TX (fun i => (X i).nox) K L S e w) : TX X K L S e w := by
  obtain ⟨t, p, f⟩ := h.ex
  exact ⟨h.mono, t, fun i => PE.nox (p i), f⟩
theorem TT.nox {w : E → (Bool → Prop) → Prop} (h : TT (fun i => (X i).nox) K L e w) : TT X K L e w := by
  obtain ⟨t, p, f⟩ := h.ex
  exact ⟨h.mono, t, fun i => PT.nox (p i), f⟩
end
/-! raise C(e) -/
section
variable {E α ρ : Type} {ι : Type} {X : ι → Cx} {K : PySem.W.Frag} {R : RetR ρ} {EX : XK} {L L' : List (Sl E)} {S : Rp α} {e : Expr} {p pos pos' : Pos} {x f : Str}
theorem raisedF {H : Hp} {a d C : Addr} {f : Str} {v : V} (na : H a = none) (nd : H d = none) (ne : d ≠ a) {E : XK} (h : ∀ H', Same H H' → H' d = some (.xd [(f, v)]) → E (.ref C) (some d) H') :
    E (.ref C) (some d) (upd (del (upd (upd (upd H a (exo a C none)) d (exd d [(f, v)])) a (exo a C (some d))) a) d (.xd [(f, v)])) := by
  refine h _ (fun b o e => ?_) upd_same
  have b1 : b ≠ d := ne_of_none e nd
  have b2 : b ≠ a := ne_of_none e na
  rw [upd_ne b1, del_ne b2, upd_ne b2, upd_ne b1, upd_ne b2]
  exact e
theorem ts_raise (val : α → V) (hv : ∀ {K : PySem.W.Frag} {W : WS} {H : Hp} {v : V} {y : α}, S.r K W H v y → v = val y) {we : E → (α → Prop) → Prop} (hK : ∀ i, (X i).K = K) (calm : ∀ i, (X i).calm = true) (tk : ∀ i, Takes (X i) (WOut EX))
    (ex : ∀ i, ∃ fI fd, ExK (X i).prog (X i).w (X i).K (X i).mg (X i).base x (He.ga K x) f fI fd) (hr : ∀ i, Room 2 (X i).A) (hg : ∀ i, Gl (X i) x) (h : TX X K L S e we) (hdb : (x == ("__debug__" : Str)) = false := by decide) (he : ∀ i, starEach [e] (X i).env = (false, eval e (X i).env) :: starEach [] (X i).env := by intro _; rfl)
    (hpl : ∀ i, (backTo pos' (starEach [] (X i).env)).any (·.1) = false := by intro _; rfl) : TS1 X K (retX R EX) L L' (.Raise (some (.Call (.Name x p) [e] [] pos')) none pos) (fun env k => we env fun y => k.rt (.inl ⟨x, f, val y⟩)) := by
  obtain ⟨t, pt, ft⟩ := h.ex
  refine ⟨fun e k k' _ hr hw => h.mono _ _ _ (fun _ z => hr _ z) hw, _, fun i => ps_raise (calm i) (tk i) (pmk_exV (ex i) (hr i) (hg i) (pa_cons (pt i) pa_nil (he i)) hdb (he i) (hpl i)), fun c σ H env own D s hw => ?_⟩
  refine ft c σ H env own _ s (h.mono _ _ _ (fun y hy v H' x' r => ?_) hw)
  rw [hv r]
  refine ⟨by simp, fun a na => ⟨a, _, rfl, upd_same, fun d nd ne => ?_⟩⟩
  have nd' : H' d = none := by rwa [upd_ne ne] at nd
  refine ⟨rfl, d, _, upd_same, ?_, nd', raisedF na nd' ne fun H2 k e2 => ?_⟩
  · rw [upd_ne ne]
    exact upd_same
  · exact hy d H2 (s.bk (x'.trans ((s.ex x').exSame k))) e2
end
/-! ### a def's body -/
theorem body_X {τ Λ ρ : Type} {X : Cx} {K : PySem.W.Frag} {A : Ar τ} {R : RetR ρ} {n : Nat} {N : List Str} {L' : List (Sl (τ × Λ))} {body : List Stmt} {wb : τ × Λ → Kn (τ × Λ) (Er ⊕ ρ) → Prop} {vs : List V} {H : Hp} {Q : VK} {E : XK} {l0 : Λ} (hb : TS (fun _ : Unit => X) K (retX R E) (layA A Prod.fst ++ List.replicate n .any) L' body wb) (one : srs A ≤ 1) (hN : N.length = arn A + n)
    (h : spX K A R (wT l0 wb) vs H Q E) : ∃ t, PSs X body t ∧ t { nx := fun _ H' => Q .non H', rt := Q } (start N vs) H := by
  obtain ⟨W, x, dom, ok, hw⟩ := h
  exact body_T l0 hb one hN (show spT K A (retX R E) (fun x k => wb (x, l0) ⟨fun _ => False, k⟩) vs H Q E from ⟨W, x, dom, ok, up_self hw⟩)
end Tx
/-! any data, plain -/
namespace Tx
open PySem PySem.Spec PyProof.Rows L2 Gx
mutual
/-- data that stays -/
inductive DW (K : PySem.W.Frag) (W : WS) (H : Hp) : V → PyData → Prop
  | non : DW K W H .non .none
  | bl (b : Bool) : DW K W H (.bl b) (.bool b)
  | int (i : Int) : DW K W H (.int i) (.int i)
  | str (x : Str) : DW K W H (.str x) (.str x)
  | lst {a : Addr} {xs : List V} {ds : List PyData} : ¬ W a → H a = some (.lst xs) → DWs K W H xs ds → DW K W H (.ref a) (.list ds)
  | tup {a : Addr} {xs : List V} {ds : List PyData} : TW K W H a xs → DWs K W H xs ds → DW K W H (.ref a) (.tuple ds)
  | dic {a : Addr} {kvs : List (Key × V)} {ds : List PyData} : ¬ W a → H a = some (.dK kvs) → DWs K W H (kvs.map (·.2)) ds → DW K W H (.ref a) (.dict ((kvs.map fun p => kD p.1).zip ds))
inductive DWs (K : PySem.W.Frag) (W : WS) (H : Hp) : List V → List PyData → Prop
  | nil : DWs K W H [] []
  | cons {v : V} {vs : List V} {d : PyData} {ds : List PyData} : DW K W H v d → DWs K W H vs ds → DWs K W H (v :: vs) (d :: ds)
end
mutual
theorem DW.mono {K : PySem.W.Frag} {W W' : WS} {H H' : Hp} (g : Ge W H W' H') : ∀ {v : V} {d : PyData}, DW K W H v d → DW K W' H' v d
  | _, _, .non => .non
  | _, _, .bl b => .bl b
  | _, _, .int i => .int i
  | _, _, .str x => .str x
  | _, _, .lst n h p => .lst (g _ _ n h).1 (g _ _ n h).2 (DWs.mono g p)
  | _, _, .tup h p => .tup (h.mono g) (DWs.mono g p)
  | _, _, .dic n h p => .dic (g _ _ n h).1 (g _ _ n h).2 (DWs.mono g p)
theorem DWs.mono {K : PySem.W.Frag} {W W' : WS} {H H' : Hp} (g : Ge W H W' H') : ∀ {vs : List V} {ds : List PyData}, DWs K W H vs ds → DWs K W' H' vs ds
  | _, _, .nil => .nil
  | _, _, .cons h t => .cons (DW.mono g h) (DWs.mono g t)
end
theorem DWs.p {K : PySem.W.Frag} {W : WS} {H : Hp} : ∀ {vs : List V} {ds : List PyData}, DWs K W H vs ds ↔ Paired (DW K W H) vs ds
  | [], _ => ⟨fun h => by cases h; exact .nil, fun h => by cases h; exact .nil⟩
  | v :: vs, _ => ⟨fun h => by cases h with | cons a b => exact .cons a (DWs.p.mp b), fun h => by cases h with | cons a b => exact .cons a (DWs.p.mpr b)⟩
def datR : Rp PyData := ⟨fun K W H v d => DW K W H v d, fun g h => DW.mono g h⟩
/-- .. with the very value -/
def vdR : Rp (V × PyData) := ⟨fun K W H v x => v = x.1 ∧ DW K W H v x.2, fun g h => ⟨h.1, DW.mono g h.2⟩⟩
/-- such values are data -/
structure IsD {α : Type} (S : Rp α) (g : α → PyData) : Prop where
  to : ∀ {K : PySem.W.Frag} {W : WS} {H : Hp} {v : V} {x : α}, S.r K W H v x → DW K W H v (g x)
theorem IsD.p {α : Type} {S : Rp α} {g : α → PyData} (h : IsD S g) {K : PySem.W.Frag} {W : WS} {H : Hp} : ∀ {vs : List V} {xs : List α}, Paired (S.r K W H) vs xs → DWs K W H vs (xs.map g)
  | _, _, .nil => .nil
  | _, _, .cons a b => .cons (h.to a) (IsD.p h b)
theorem isd_d : IsD datR id := ⟨fun h => h⟩
theorem isd_vd : IsD vdR Prod.snd := ⟨fun h => h.2⟩
theorem isd_s : IsD strR PyData.str := ⟨fun h => by rw [show _ = _ from h]; exact .str _⟩
theorem isd_i : IsD intR PyData.int := ⟨fun h => by rw [show _ = _ from h]; exact .int _⟩
theorem isd_b : IsD boolR PyData.bool := ⟨fun h => by rw [show _ = _ from h]; exact .bl _⟩
theorem isd_n : IsD nonR (fun _ => PyData.none) := ⟨fun h => by rw [show _ = _ from h]; exact .non⟩
theorem isd_l {α : Type} {S : Rp α} {g : α → PyData} (h : IsD S g) : IsD (lstR S) (fun xs => .list (xs.map g)) := ⟨fun ⟨a, vs, e, n, q, p⟩ => by rw [e]; exact .lst n q (h.p p)⟩
theorem isd_t {α : Type} {S : Rp α} {g : α → PyData} (h : IsD S g) : IsD (tupR S) (fun xs => .tuple (xs.map g)) := ⟨fun ⟨a, vs, e, q, p⟩ => by rw [e]; exact .tup q (h.p p)⟩
/-! ### what kind -/
def kindD : PyData → String
  | .none => "NoneType" | .bool _ => "bool" | .int _ => "int" | .str _ => "str" | .list _ => "list" | .tuple _ => "tuple" | .dict _ => "dict"
def isL : PyData → Bool | .list _ => true | _ => false
def isS : PyData → Bool | .str _ => true | _ => false
def isDi : PyData → Bool | .dict _ => true | _ => false
section
variable {K : PySem.W.Frag} {W : WS} {H : Hp} {v : V} {d : PyData}
theorem DW.ty (h : DW K W H v d) : ∃ T, TyX K H v T ∧ T = .type (kindD d) := by
  cases h with
  | non => exact ⟨_, .base .non, rfl⟩
  | bl b => exact ⟨_, .base (.bl b), rfl⟩
  | int i => exact ⟨_, .base (.int i), rfl⟩
  | str x => exact ⟨_, .base (.str x), rfl⟩
  | lst n e p => exact ⟨_, tyx_list (SqL.of e), rfl⟩
  | tup e p => exact ⟨_, tyx_tup e.sq, rfl⟩
  | dic n e p => exact ⟨_, .base (.dK e), rfl⟩
end
section
variable {α : Type} {K : PySem.W.Frag} {S : Rp α} {g : α → PyData}
theorem isi_of {T : String} {f : PyData → Bool} (h : IsD S g) (hf : ∀ d : PyData, kitB (kindD d) T = some (f d)) : IsI K S T (fun x => f (g x)) := ⟨fun {W H v x} r => by
  obtain ⟨T', h1, h2⟩ := (h.to r).ty
  subst h2
  exact ⟨_, h1, kit_ty (hf _)⟩⟩
theorem isi_dS (h : IsD S g) : IsI K S "str" (fun x => isS (g x)) := isi_of h fun d => by cases d <;> (simp only [kindD, isS]; decide +kernel)
end
/-! ### in: texts and any data -/
section
variable {X : Cx} {pins : List (Addr × Obj)} {σ : L2.St} {H : Hp} {s : Shared}
def strV : V → Option Str
  | .str a => some a
  | _ => none
/-- two values are one text -/
def oneT : Option Str → Option Str → Bool
  | some a, some b => a == b
  | _, _ => false
theorem NoStr.sv {K : PySem.W.Frag} {x : V} (h : NoStr K H x) : strV x = none := by
  cases h with
  | flat f n => cases x <;> first | rfl | exact absurd rfl (n _)
  | lst q => rfl
  | tup q => rfl
  | dic q => rfl
end
/-- the text of a datum -/
def strD : PyData → Option Str
  | .str a => some a
  | _ => none
section
variable {α β : Type} {K : PySem.W.Frag} {W : WS} {H : Hp} {S : Rp α} {T : Rp β} {g : α → PyData} {neg : Bool}
theorem DW.sv {v : V} {d : PyData} (h : DW K W H v d) : strV v = strD d := by cases h <;> rfl
theorem DWs.any {vs : List V} {ds : List PyData} {x : Option Str} (h : DWs K W H vs ds) : (vs.any fun y => oneT (strV y) x) = ds.any fun d => oneT (strD d) x := by
  have p := DWs.p.mp h
  clear h
  induction p with
  | nil => rfl
  | cons a b ih => rw [List.any_cons, List.any_cons, ih, a.sv]
/-- is the text among the data -/
def inD (z : Str) (ds : List PyData) : Bool := ds.any fun d => oneT (strD d) (some z)
end
end Tx
/-! try; what is never reached -/
namespace Tx
open PySem PySem.Spec PyProof.Rows L2 Gx
/-! ### never reached -/
section
variable {E α ρ : Type} {ι : Type} {X : ι → Cx} {K : PySem.W.Frag} {R : RetR ρ} {L L' : List (Sl E)} {S : Rp α} {e : Expr} {s : Stmt} {ss : List Stmt}
theorem ts_any : TS X K R L L' ss (fun _ _ => False) := ⟨fun _ _ _ _ _ h => h, fun _ _ _ => False, fun _ => ⟨fun _ _ _ _ _ _ h => h.elim⟩, fun _ _ _ _ _ _ _ h => h⟩
theorem tt_any : TT X K L e (fun _ _ => False) := ⟨fun _ _ _ _ h => h, fun _ _ _ => False, fun _ => ⟨fun _ _ _ _ _ _ h => h.elim⟩, fun _ _ _ _ _ _ _ h => h⟩
end
/-! ### the body of a try -/
structure TSt {E ρ : Type} {ι : Type} (X : ι → Cx) (W : WX) (K : PySem.W.Frag) (R : RetR ρ) (L L' : List (Sl E)) (ss : List Stmt) (w : E → Kn E ρ → (Er → Prop) → Prop) : Prop where
  mono : ∀ e (k k' : Kn E ρ) (x x' : Er → Prop), (∀ y, k.nx y → k'.nx y) → (∀ y, k.rt y → k'.rt y) → (∀ y, x y → x' y) → w e k x → w e k' x'
  ex : ∃ t, (∀ i, PSs (X i) ss t) ∧ ∀ (c : Bc) (σ : L2.St) (H : Hp) (env : E) (own : Own) (D : Ends), St K c L σ H env own → w env (kon K R L' c D) (fun r => ∀ d H', Ex L own H H' → H' d = some (.xd [(r.f, r.v)]) → W (.ref (He.ga K r.cls)) (some d) σ H') → t D σ H
section
variable {E α ρ : Type} {ι : Type} {X : ι → Cx} {W : WX} {K : PySem.W.Frag} {R : RetR ρ} {L L' : List (Sl E)} {S : Rp α} {e : Expr} {a b : List Stmt} {pos : Pos}
theorem tst_ret {we : E → ((Er ⊕ α) → Prop) → Prop} (h : TXx X W K L S e we) : TSt X W K (retI S) L L' [.Return (some e) pos] (fun env k x => we env fun r => match r with | .inl e => x e | .inr y => k.rt y) := by
  obtain ⟨t, p, f⟩ := h.ex
  refine ⟨fun e k k' x x' hn hr hx hw => h.mono _ _ _ (fun y hy => ?_) hw, _, fun i => pss_one (ps_ret (p i)), fun c σ H env own D s hw => f c σ H env own _ s (h.mono _ _ _ (fun y hy => ?_) hw)⟩
  · cases y
    · exact hx _ hy
    · exact hr _ hy
  · match y, hy with
    | .inr y, hy => exact fun v H' x' r => hy v H' ⟨s.bk x', S.mono (Ge.less fun a z => .inl z) r⟩
    | .inl y, hy => exact fun d H' x' e => hy d H' x' e
end
/-! ### the caught error -/
def errR (a C : Addr) (cls : Value) (d : Option Addr) (f : Str) : Rp V := ⟨fun K W H v x => v = .ref a ∧ cls = .ref C ∧ ∃ dd, d = some dd ∧ ¬ W dd ∧ H dd = some (.xd [(f, x)]), fun g ⟨h1, h2, dd, h3, n, h4⟩ => ⟨h1, h2, dd, h3, (g _ _ n h4).1, (g _ _ n h4).2⟩⟩
/-- the contexts of a try's body, and of its suite -/
def TrI (X : Cx) (W : WX) := { q : List (Addr × Obj) × (Value → Shared → Prop) // Takes (X.tr q.1 q.2) W ∧ PassesOwn (model X.prog X.w) X.A X.env q.2 }
def SuI (cls : Value) (d : Option Addr) := { q : Obj × List (Addr × Obj) // Zc cls d q.1 ∧ ∃ vs, q.1.data = .fields vs }
abbrev trF (X : Cx) (W : WX) : TrI X W → Cx := fun q => X.tr q.1.1 q.1.2
abbrev suF (X : Cx) (a : Addr) (cls : Value) (d : Option Addr) : SuI cls d → Cx := fun q => X.suite a ((a, q.1.1) :: q.1.2)
theorem trF.takes {X : Cx} {W : WX} (i : TrI X W) : Takes (trF X W i) W := i.2.1
theorem OwO.noXd {o : HO} (h : OwO (Option.some o)) {fs : List (Str × V)} : o ≠ .xd fs := by
  rintro rfl
  rcases h with ⟨us, h⟩ | ⟨x, h, y⟩
  · cases h
  · cases h
    rcases y with ⟨φ, y⟩ | ⟨ob, φ, y⟩ <;> cases y
section
variable {E : Type} {K : PySem.W.Frag} {c : Bc} {L L' : List (Sl E)} {σ : L2.St} {H : Hp} {e : E} {own : Own}
theorem St.noXd (s : St K c L σ H e own) {d : Addr} {fs : List (Str × V)} (h : H d = some (.xd fs)) : ¬ Wb c own d := fun z => by
  have q := s.hasW z
  rw [h] at q
  exact q.noXd rfl
theorem St.unset (s : St K c L σ H e own) {i : Nat} (h : L[i]? = some .any) : St K c L (σ.set i none) H e own := by
  refine ⟨by rw [List.length_set]; exact s.len, s.stay, s.dom, s.bw, s.bs, s.inj, s.out, fun j sl hj => ?_⟩
  have q := s.slot j sl hj
  by_cases z : j = i
  · subst z
    rw [h] at hj
    cases hj
    exact q
  · rw [List.getElem?_set_ne (Ne.symm z)]
    exact q
end
theorem tx_errV {X : Cx} {E : Type} {K : PySem.W.Frag} {L : List (Sl E)} {a C : Addr} {cls : Value} {d : Option Addr} {f n : Str} {i : Nat} {g : E → V} {p pos : Pos} (hK : X.K = K) (T : XfC X.K C) (hno : PySem.W.findIn X.K (.ref C) f = some none) (hL : L[i]? = some (.im (errR a C cls d f) g)) (hN : X.N[i]? = some n) (hv : Vis X.env.scope n)
    (hb : attributeBase (.Name n p) f X.env (eval (.Name n p) X.env) = eval (.Name n p) X.env := by rfl) (hd : (n == ("__debug__" : Str)) = false := by decide) (hcd : (n == ("__classdict__" : Str)) = false := by decide) : TX (suF X a cls d) K L vR (.Attribute (.Name n p) f pos) (fun env k => k (g env)) := by
  refine ⟨fun _ _ _ h => h _, _, fun j => pe_xf (C := C) (a := a) T hno j.2.1 j.2.2 (pe_var (X := X.suite a ((a, j.1.1) :: j.1.2)) (i := i) (x := n) (pos := p) hN hv hd hcd) hb, fun c σ H env own Q s hw => ?_⟩
  obtain ⟨_, v, h1, h2, h3, dd, h4, h5, h6⟩ := s.slot i _ hL
  exact ⟨v, h1, h2, h3, dd, _, _, h4, h6, by simp, hw _ H s.exRefl rfl⟩
/-- try: .. except C as n: .. -/
theorem ts_try {X : Cx} {E ρ : Type} {K : PySem.W.Frag} {R : RetR ρ} {L L' : List (Sl E)} {x n f : Str} {i : Nat} {body suite : List Stmt} {b0 : Stmt} {np pos pos' : Pos} {wb : E → Kn E ρ → (Er → Prop) → Prop} {wh : E × V → Kn (E × V) ρ → Prop}
    (hs : X.stack = X.env :: X.outer) (hf : X.env.frame = some X.env.locals) (hN : X.N.Nodup) (hi : X.N[i]? = some n) (hln : X.env.kindOf n = some .local) (hc : Names X x (.ref (He.ga X.K x))) (hK : X.K = K) (hex : PySem.W.exmOne X.K (.ref (He.ga X.K x)) (.ref (He.ga X.K x)) = some true)
    (hl : L'[i]? = some .any) (hl0 : ∃ s0, (lift V L)[i]? = some s0 ∧ s0 ≠ .sr)
    (hb0 : ∀ W, ∃ w, TSt (trF X W) W K R L L' body w ∧ w = wb)
    (hh0 : ∀ a cls d, ∃ Lh w, TS (suF X a cls d) K R ((lift V L).set i (.im (errR a (He.ga X.K x) cls d f) Prod.snd)) Lh (b0 :: suite) w ∧ Sub Prod.fst Lh L' ∧ w = wh) :
    TS1 (fun _ : Unit => X) K R L L' (.Try body [.ExceptHandler (some (.Name x np)) (some n) (b0 :: suite) pos'] [] [] pos) (fun env k => wb env k fun r => r.cls = x ∧ r.f = f ∧ wh (env, r.v) ⟨fun e => k.nx e.1, k.rt⟩) := by
  subst hK
  have hb : ∀ W, TSt (trF X W) W X.K R L L' body wb := fun W => by
    obtain ⟨w, h, rfl⟩ := hb0 W
    exact h
  have hh : ∀ a cls d, ∃ Lh, TS (suF X a cls d) X.K R ((lift V L).set i (.im (errR a (He.ga X.K x) cls d f) Prod.snd)) Lh (b0 :: suite) wh ∧ Sub Prod.fst Lh L' := fun a cls d => by
    obtain ⟨Lh, w, h, g, rfl⟩ := hh0 a cls d
    exact ⟨Lh, h, g⟩
  have mh : MonoS wh := (hh 0 .none none).choose_spec.1.mono
  refine ⟨fun e k k' hn hr hw => (hb fun _ _ _ _ => True).mono _ _ _ _ _ hn hr (fun y hy => ⟨hy.1, hy.2.1, mh _ _ _ (fun z hz => hn _ hz) hr hy.2.2⟩) hw, _, fun _ => ps_try_as (tb := fun W => (hb W).ex.choose) (ts := fun a cls d => (hh a cls d).choose_spec.1.ex.choose) (Wout := fun _ _ _ _ => False) hs hf hN hi hln hc takes_none5 (fun W pn xe tk po => (hb W).ex.choose_spec.1 ⟨(pn, xe), tk, po⟩) (fun a oe cls d pn hz hf' => (hh a cls d).choose_spec.1.ex.choose_spec.1 ⟨(oe, pn), hz, hf'⟩), fun c σ H env own D s hw => ?_⟩
  refine (hb _).ex.choose_spec.2 c σ H env own D s ((hb fun _ _ _ _ => True).mono _ _ _ _ _ (fun _ z => z) (fun _ z => z) (fun r hr d H' x' e => ?_) hw)
  obtain ⟨h1, h2, h3⟩ := hr
  rw [h1]
  refine ⟨true, hex, fun _ a na => ?_, fun z => nomatch z⟩
  have s1 := s.ex x'
  refine (hh a _ (some d)).choose_spec.1.ex.choose_spec.2 c _ H' (env, r.v) _ _ ((s1.lift r.v).setI hl0 (errR a (He.ga X.K x) _ (some d) f) Prod.snd ⟨rfl, rfl, d, rfl, s1.noXd e, by rw [← h2]; exact e⟩) (mh _ ⟨fun e => (kon X.K R L' c D).nx e.1, (kon X.K R L' c D).rt⟩ _ (fun z hz σ' H2 own' s' => ?_) (fun z hz => hz) h3)
  exact hz _ H2 _ ((s'.sub (hh a _ (some d)).choose_spec.2).unset hl)
end Tx
/-! how long a datum's text is; data that grows -/
namespace Tx
open PySem PySem.Spec PyProof.Rows L2 Gx
mutual
/-- at least the length of its text -/
def wd : PyData → Nat
  | .none => 4
  | .bool _ => 5
  | .int i => (PyData.shown (.int i)).length
  | .str x => (PyData.shown (.str x)).length
  | .list xs => wds xs + 2
  | .tuple xs => wds xs + 3
  | .dict kvs => wdk kvs + 2
def wds : List PyData → Nat
  | [] => 0
  | x :: xs => wd x + 2 + wds xs
def wdk : List (PyData × PyData) → Nat
  | [] => 0
  | (a, b) :: r => wd a + wd b + 4 + wdk r
end
mutual
/-- how many lists -/
def nli : PyData → Nat
  | .none => 0
  | .bool _ => 0
  | .int _ => 0
  | .str _ => 0
  | .list xs => nlis xs + 1
  | .tuple xs => nlis xs
  | .dict kvs => nlik kvs
def nlis : List PyData → Nat
  | [] => 0
  | x :: xs => nli x + nlis xs
def nlik : List (PyData × PyData) → Nat
  | [] => 0
  | (a, b) :: r => nli a + nli b + nlik r
end
theorem wds_app : ∀ xs ys : List PyData, wds (xs ++ ys) = wds xs + wds ys
  | [], ys => by simp [wds]
  | x :: xs, ys => by rw [List.cons_append, wds, wds, wds_app xs ys]; omega
theorem nls_app : ∀ xs ys : List PyData, nlis (xs ++ ys) = nlis xs + nlis ys
  | [], ys => by simp [nlis]
  | x :: xs, ys => by rw [List.cons_append, nlis, nlis, nls_app xs ys]; omega
theorem depthAll_app : ∀ xs ys : List PyData, PyData.depthAll (xs ++ ys) = max (PyData.depthAll xs) (PyData.depthAll ys)
  | [], ys => by simp [PyData.depthAll]
  | x :: xs, ys => by rw [List.cons_append, PyData.depthAll, PyData.depthAll, depthAll_app xs ys]; omega
theorem showableAll_app : ∀ xs ys : List PyData, PyData.showableAll (xs ++ ys) = (PyData.showableAll xs && PyData.showableAll ys)
  | [], ys => by simp [PyData.showableAll]
  | x :: xs, ys => by rw [List.cons_append, PyData.showableAll, PyData.showableAll, showableAll_app xs ys, Bool.and_assoc]
def zr (m : Nat) : List PyData := List.replicate m (.int 0)
/-- d grew to d', by lists that got at most m zeros more -/
structure ED (m : Nat) (d d' : PyData) : Prop where
  s : d.showable = true → d'.showable = true
  dp : d'.depth ≤ d.depth
  w : wd d' ≤ wd d + 3 * m * nli d
  n : nli d' = nli d
  t : strD d' = strD d
  k : kindD d' = kindD d
theorem ED.refl {m : Nat} {d : PyData} : ED m d d := ⟨fun h => h, Nat.le_refl _, Nat.le_add_right _ _, rfl, rfl, rfl⟩
theorem EDs.zip {m : Nat} {ds ds' : List PyData} (h : Paired (ED m) ds ds') : ∀ ks : List PyData, (PyData.showableKv (ks.zip ds) = true → PyData.showableKv (ks.zip ds') = true) ∧ PyData.depthKv (ks.zip ds') ≤ PyData.depthKv (ks.zip ds) ∧ wdk (ks.zip ds') ≤ wdk (ks.zip ds) + 3 * m * nlik (ks.zip ds) ∧ nlik (ks.zip ds') = nlik (ks.zip ds) := by
  induction h with
  | nil => intro ks; rw [List.zip_nil_right]; exact ⟨fun h => h, Nat.le_refl _, Nat.le_add_right _ _, rfl⟩
  | @cons a b _ _ e t ih =>
    intro ks
    cases ks with
    | nil => exact ⟨fun h => h, Nat.le_refl _, Nat.le_add_right _ _, rfl⟩
    | cons k ks =>
      obtain ⟨h1, h2, h3, h4⟩ := ih ks
      rw [List.zip_cons_cons, List.zip_cons_cons]
      refine ⟨fun z => ?_, ?_, ?_, ?_⟩
      · rw [PyData.showableKv, Bool.and_eq_true, Bool.and_eq_true] at z ⊢
        exact ⟨⟨z.1.1, e.s z.1.2⟩, h1 z.2⟩
      · rw [PyData.depthKv, PyData.depthKv]
        have := e.dp
        omega
      · rw [wdk, wdk, nlik, Nat.mul_add, Nat.mul_add]
        have := e.w
        omega
      · rw [nlik, nlik, e.n, h4]
section
variable {K : PySem.W.Frag} {W W' : WS} {H H' : Hp} {a : Addr} {us : List V} {m : Nat}
theorem DWs.app {K : PySem.W.Frag} {W : WS} {H : Hp} : ∀ {vs ws : List V} {ds es : List PyData}, DWs K W H vs ds → DWs K W H ws es → DWs K W H (vs ++ ws) (ds ++ es)
  | _, _, _, _, .nil, k => k
  | _, _, _, _, .cons h t, k => .cons h (DWs.app t k)
end
/-! ### a list's parts are not the list -/
/-- bounds of a row of data -/
structure Bn (k n l : Nat) (ds : List PyData) : Prop where
  s : PyData.showableAll ds = true
  d : PyData.depthAll ds ≤ k
  w : wds ds ≤ n
  n : nlis ds ≤ l
structure B1 (k n l : Nat) (x : PyData) : Prop where
  s : x.showable = true
  d : x.depth ≤ k
  w : wd x ≤ n
  n : nli x ≤ l
end Tx
/-! a walk over things of which the lists grow -/
namespace Tx
open PySem PySem.Spec PyProof.Rows L2 Gx
/-- a list that can be no row of the things, however many numbers it gets -/
def NvT (T : List Str) (ds : List PyData) : Prop := (∃ t ∈ T, inD t ds = false) ∨ T.length < ds.length
def NvV (T : List Str) (us : List V) : Prop := (∃ t ∈ T, (us.any fun y => oneT (strV y) (some t)) = false) ∨ T.length < us.length
theorem NvV.app {T : List Str} {us : List V} (h : NvV T us) : ∀ m, NvV T (us ++ List.replicate m (V.int 0)) := fun m => by
  rcases h with ⟨t, ht, e⟩ | h
  · refine .inl ⟨t, ht, ?_⟩
    rw [List.any_append, e, Bool.false_or]
    induction m with
    | zero => rfl
    | succ m ih => rw [List.replicate_succ, List.any_cons, ih]; rfl
  · refine .inr ?_
    rw [List.length_append]
    omega
/-- an own list of data, seen to its values -/
def thR : Ro (V × List V × List PyData) := ⟨fun K W H a o x => x.1 = .ref a ∧ o = .lst x.2.1 ∧ DWs K W H x.2.1 x.2.2, fun g ⟨h1, h2, h3⟩ => ⟨h1, h2, h3.mono g⟩, fun ⟨_, h, _⟩ => by rw [h]; exact .inl ⟨_, rfl⟩, fun _ a => .ref a⟩
/-- no part of such a value is a list that is no row of the things -/
def RobS {E α : Type} (T : List Str) (S : Rp α) (g : E → α) (ok : E → Prop) : Prop := ∀ e, ok e → ∀ (K : PySem.W.Frag) (W : WS) (H : Hp) (a : Addr) (us : List V) (v : V), (∀ b, W b → OwO (H b)) → H a = some (.lst us) → NvV T us → S.r K W H v (g e) → S.r K (fun b => W b ∨ b = a) H v (g e)
inductive RobL {E : Type} (T : List Str) (ok : E → Prop) : List (Sl E) → Prop
  | nil : RobL T ok []
  | any {L : List (Sl E)} : RobL T ok L → RobL T ok (.any :: L)
  | sr {L : List (Sl E)} : RobL T ok L → RobL T ok (.sr :: L)
  | im {α : Type} {S : Rp α} {g : E → α} {L : List (Sl E)} : RobS T S g ok → RobL T ok L → RobL T ok (.im S g :: L)
  | ow {α : Type} {S : Rp α} {g : E → List α} {L : List (Sl E)} : Flat S → RobL T ok L → RobL T ok (.ow S g :: L)
theorem RobL.at {E : Type} {T : List Str} {ok : E → Prop} : ∀ {L : List (Sl E)} {i : Nat} {s : Sl E}, RobL T ok L → L[i]? = some s → RobL T ok [s]
  | _, i, _, .nil, h => by simp at h
  | _, 0, _, .any _, h => by cases h; exact .any .nil
  | _, 0, _, .sr _, h => by cases h; exact .sr .nil
  | _, 0, _, .im f _, h => by cases h; exact .im f .nil
  | _, 0, _, .ow f _, h => by cases h; exact .ow f .nil
  | _, i + 1, _, .any r, h => r.at (i := i) h
  | _, i + 1, _, .sr r, h => r.at (i := i) h
  | _, i + 1, _, .im _ r, h => r.at (i := i) h
  | _, i + 1, _, .ow _ r, h => r.at (i := i) h
section
variable {E : Type} {K : PySem.W.Frag} {c : Bc} {L : List (Sl E)} {σ : L2.St} {H : Hp} {e : E} {own : Own}
/-- a list that nobody owns is owned from here on -/
theorem St.take (s : St K c L σ H e own) {T : List Str} {ok : E → Prop} (rob : RobL T ok L) (hok : ok e) {i : Nat} (hi : L[i]? = some .any) {a : Addr} {us : List V} {D : List PyData} (na : ¬ Wb c own a) (n0 : c.H0 a = none) (ha : H a = some (.lst us)) (nv : NvV T us) (p : DWs K (fun b => Wb c own b ∨ b = a) H us D) :
    St K c ((Tx.lift (V × List V × List PyData) L).set i (.ox thR Prod.snd)) (σ.set i (some (.ref a))) H (e, (.ref a, us, D)) (putO own i (some a)) := by
  have il : i < L.length := (List.getElem?_eq_some_iff.mp hi).1
  have il' : i < (Tx.lift (V × List V × List PyData) L).length := by simpa [Tx.lift] using il
  have sl := s.lift (V.ref a, us, D)
  have nl : ∀ j, own j ≠ some a := fun j q => na (.inr ⟨j, q⟩)
  have less : ∀ b, Wb c (putO own i (some a)) b → Wb c own b ∨ b = a := fun b z => by
    rcases z with z | ⟨j, q⟩
    · exact .inl (.inl z)
    · by_cases h : j = i
      · subst h
        rw [putO_self] at q
        exact .inr (Option.some.inj q).symm
      · rw [putO_ne h] at q
        exact .inl (.inr ⟨j, q⟩)
  have dom : ∀ b, Wb c own b → OwO (H b) := fun b z => s.hasW z
  refine ⟨by simp [sl.len], s.stay, s.dom, s.bw, fun b hb => ?_, fun j k b h1 h2 => ?_, fun j hj => ?_, fun j x hL => ?_⟩
  · obtain ⟨j, h1, h2⟩ := sl.bs b hb
    have ne : j ≠ i := fun z => by
      subst z
      rw [lift_of hi] at h1
      cases h1
    exact ⟨j, by rw [List.getElem?_set_ne (Ne.symm ne)]; exact h1, by rw [putO_ne ne]; exact h2⟩
  · by_cases hj : j = i
    · by_cases hk : k = i
      · rw [hj, hk]
      · subst hj
        rw [putO_self] at h1
        rw [putO_ne hk] at h2
        cases h1
        exact absurd h2 (nl k)
    · by_cases hk : k = i
      · subst hk
        rw [putO_self] at h2
        rw [putO_ne hj] at h1
        cases h2
        exact absurd h1 (nl j)
      · rw [putO_ne hj] at h1
        rw [putO_ne hk] at h2
        exact s.inj j k b h1 h2
  · have ne : j ≠ i := fun z => by
      subst z
      rw [List.getElem?_eq_none_iff, List.length_set] at hj
      omega
    rw [putO_ne ne]
    refine sl.out j ?_
    rwa [List.getElem?_set_ne (Ne.symm ne)] at hj
  · by_cases h : j = i
    · subst h
      rw [List.getElem?_set_self il'] at hL
      cases hL
      exact ⟨a, _, putO_self, by rw [List.getElem?_set_self (by rw [s.len]; exact il)]; rfl, ⟨n0, fun z => na (.inl z)⟩, ha, rfl, rfl, p.mono (Ge.less less)⟩
    · rw [List.getElem?_set_ne (Ne.symm h)] at hL
      obtain ⟨s0, hL0, rfl⟩ := lift_at hL
      have q := s.slot j s0 hL0
      have rb := rob.at hL0
      rw [List.getElem?_set_ne (Ne.symm h), putO_ne h]
      cases s0 with
      | any => exact q
      | im S' g' =>
        obtain ⟨h1, v', h2, h3⟩ := q
        cases rb with
        | im f _ => exact ⟨h1, v', h2, S'.mono (Ge.less less) (f e hok K _ H a us v' dom ha nv h3)⟩
      | ow S' g' =>
        obtain ⟨b, ws, h1, h2, h3, h4, h5⟩ := q
        cases rb with
        | ow f _ => exact ⟨b, ws, h1, h2, h3, h4, f.p h5⟩
      | ox R' g' => cases rb
      | sr => exact q
end
/-- what is known of a thing -/
def ThA (K : PySem.W.Frag) (W : WS) (H H0 : Hp) (T : List Str) (n : Nat) (v : V) : Prop := ∃ d, DW K W H v d ∧ B1 10 n 9 d ∧ ∀ ds, d = .list ds → NvT T ds ∧ ∀ a, v = .ref a → H0 a = none
def wThs {E ρ : Type} (ok : E → Prop) (T : List Str) (M : Nat) (wb1 : E × (V × PyData) → Kn (E × (V × PyData)) ρ → Prop) (wb2 : E × (V × List V × List PyData) → Kn (E × (V × List V × List PyData)) ρ → Prop) : Nat → Nat → E → Kn E ρ → Prop
  | 0, _, e, k => k.nx e
  | r + 1, n, e, k => ok e ∧ (∀ v d, B1 10 n 9 d → isL d = false → wb1 (e, (v, d)) ⟨fun e' => wThs ok T M wb1 wb2 r (n + 27 * M) e'.1 k, k.rt⟩) ∧
    ∀ v us ds, B1 10 n 9 (.list ds) → NvT T ds → wb2 (e, (v, us, ds)) ⟨fun e' => (∃ m, m ≤ M ∧ e'.2 = (v, us ++ List.replicate m (V.int 0), ds ++ zr m)) ∧ wThs ok T M wb1 wb2 r (n + 27 * M) e'.1 k, k.rt⟩
theorem wThs.mono {E ρ : Type} {ok : E → Prop} {T : List Str} {M : Nat} {wb1 : E × (V × PyData) → Kn (E × (V × PyData)) ρ → Prop} {wb2 : E × (V × List V × List PyData) → Kn (E × (V × List V × List PyData)) ρ → Prop} (m1 : MonoS wb1) (m2 : MonoS wb2) : ∀ (r n : Nat), MonoS (wThs ok T M wb1 wb2 r n)
  | 0, _, e, k, k', hn, hr, hw => hn _ hw
  | r + 1, n, e, k, k', hn, hr, ⟨h0, h1, h2⟩ => ⟨h0, fun v d b l => m1 _ ⟨fun e' => wThs ok T M wb1 wb2 r (n + 27 * M) e'.1 k, k.rt⟩ _ (fun e' he => wThs.mono m1 m2 r _ _ _ _ hn hr he) hr (h1 v d b l),
    fun v us ds b nv => m2 _ ⟨fun e' => (∃ m, m ≤ M ∧ e'.2 = (v, us ++ List.replicate m (V.int 0), ds ++ zr m)) ∧ wThs ok T M wb1 wb2 r (n + 27 * M) e'.1 k, k.rt⟩ _ (fun e' he => ⟨he.1, wThs.mono m1 m2 r _ _ _ _ hn hr he.2⟩) hr (h2 v us ds b nv)⟩
theorem B1.list {k n l : Nat} {ds : List PyData} (h : B1 k n l (.list ds)) : Bn (k - 1) (n - 2) (l - 1) ds ∧ 1 ≤ k ∧ 2 ≤ n ∧ 1 ≤ l := by
  obtain ⟨h1, h2, h3, h4⟩ := h
  rw [PyData.showable] at h1
  rw [PyData.depth] at h2
  rw [wd] at h3
  rw [nli] at h4
  exact ⟨⟨h1, by omega, by omega, by omega⟩, by omega, by omega, by omega⟩
theorem ThA.mono {K : PySem.W.Frag} {W W' : WS} {H H' H0 : Hp} {T : List Str} {n : Nat} {v : V} (g : Ge W H W' H') (h : ThA K W H H0 T n v) : ThA K W' H' H0 T n v := by
  obtain ⟨d, h1, h2, h3⟩ := h
  exact ⟨d, h1.mono g, h2, h3⟩
end Tx
namespace Tx
open PySem PySem.Spec PyProof.Rows L2 Gx
theorem PSs.or {X : Cx} {ss : List Stmt} {t1 t2 : L2.TS} (h1 : PSs X ss t1) (h2 : PSs X ss t2) : PSs X ss (fun D σ H => t1 D σ H ∨ t2 D σ H) := ⟨fun pins s σ H D I h => h.elim (h1.run pins s σ H D I) (h2.run pins s σ H D I)⟩
end Tx
/-! repr; a thing that grows; dicts and texts as data -/
namespace Tx
open PySem PySem.Spec PyProof.Rows L2 Gx
section
variable {E α β ρ : Type} {ι : Type} {X : ι → Cx} {K : PySem.W.Frag} {R : RetR ρ} {L L' : List (Sl E)} {S : Rp α} {T : Rp β} {g : α → PyData} {e : Expr} {pos p : Pos} {wa : E → (α → Prop) → Prop}
/-- data as data -/
theorem tx_d (h : IsD S g) (ha : TX X K L S e wa) : TX X K L datR e (fun env k => wa env fun x => k (g x)) := by
  obtain ⟨t, pt, f⟩ := ha.ex
  exact ⟨fun e k k' hk hw => ha.mono _ _ _ (fun x hx => hk _ hx) hw, t, pt, fun c σ H env own Q s hw => f c σ H env own Q s (ha.mono _ _ _ (fun x hx v H' x' r => hx v H' x' (h.to r)) hw)⟩
/-- .. with its value -/
theorem tx_vd (h : IsD S g) (ha : TX X K L S e wa) : TX X K L vdR e (fun env k => wa env fun x => ∀ v, k (v, g x)) := by
  obtain ⟨t, pt, f⟩ := ha.ex
  exact ⟨fun e k k' hk hw => ha.mono _ _ _ (fun x hx v => hk _ (hx v)) hw, t, pt, fun c σ H env own Q s hw => f c σ H env own Q s (ha.mono _ _ _ (fun x hx v H' x' r => hx v v H' x' ⟨rfl, h.to r⟩) hw)⟩
/-- the value alone -/
theorem tx_v (val : α → V) (hv : ∀ {K : PySem.W.Frag} {W : WS} {H : Hp} {v : V} {y : α}, S.r K W H v y → v = val y) (ha : TX X K L S e wa) : TX X K L vR e (fun env k => wa env fun x => k (val x)) := by
  obtain ⟨t, pt, f⟩ := ha.ex
  exact ⟨fun e k k' hk hw => ha.mono _ _ _ (fun x hx => hk _ hx) hw, t, pt, fun c σ H env own Q s hw => f c σ H env own Q s (ha.mono _ _ _ (fun x hx v H' x' r => hx v H' x' (hv r)) hw)⟩
theorem swP {W : WS} {H : Hp} : ∀ {vs : List V} {xs : List Str}, Paired (strR.r K W H) vs xs → Paired (vdR.r K W H) vs (xs.map fun z => (V.str z, PyData.str z))
  | _, _, .nil => .nil
  | _, _, .cons a b => by
    obtain rfl := (show _ = V.str _ from a)
    exact .cons ⟨rfl, .str _⟩ (swP b)
/-- {} -/
theorem tx_dict0 : TX X K L datR (.Dict [] [] pos) (fun _ k => k (.dict [])) := ⟨fun _ _ _ h => h _, _, fun _ => pe_dnewK, fun c σ H env own Q s hw p hp => hw _ _ (s.exSame (Same.new hp)) (DW.dic (kvs := []) (ds := []) (s.fresh hp) upd_same .nil)⟩
/-- what a value says of itself -/
def flD : V → PyData
  | .bl b => .bool b
  | .int i => .int i
  | .str z => .str z
  | _ => .none
def flV : V → Bool
  | .bl _ => true
  | .int _ => true
  | .str _ => true
  | .non => true
  | _ => false
theorem flDW {K : PySem.W.Frag} {W : WS} {H : Hp} {v : V} (h : flV v = true) : DW K W H v (flD v) := by
  cases v <;> first | exact .non | exact .bl _ | exact .int _ | exact .str _ | (exact absurd h (by simp [flV]))
/-- values, of which those that are not flat are the one at hand -/
def dvs (y : V × PyData) (v : V) : PyData := if v = y.1 then y.2 else flD v
def okv (y : V × PyData) (v : V) : Prop := v = y.1 ∨ flV v = true
/-- "".join(xs) -/
theorem tx_join {o : Expr} {apos : Pos} {wo : E → (Str → Prop) → Prop} {wx : E → (List Str → Prop) → Prop} (ho : TX X K L strR o wo) (hx : TX X K L (lstR strR) e wx) (hK : ∀ j, (X j).K = K := by intro _; rfl) (hs : ∀ j, starEach [e] (X j).env = [(false, eval e (X j).env)] := by intro _; rfl) (hbase : ∀ j, attributeBase o "join" (X j).env (eval o (X j).env) = eval o (X j).env := by intro _; rfl) (hline : (apos.endLine == pos.line) = true := by rfl) :
    TX X K L strR (.Call (.Attribute o "join" apos) [e] [] pos) (fun env k => wo env fun a => wx env fun ys => (ys.map (·.length)).sum + ys.length * a.length ≤ 16777216 ∧ k (Txt.join a ys)) := by
  obtain ⟨t1, p1, f1⟩ := ho.ex
  obtain ⟨t2, p2, f2⟩ := hx.ex
  refine ⟨fun e k k' hk hw => ho.mono _ _ _ (fun x h1 => hx.mono _ _ _ (fun y hy => ⟨hy.1, hk _ hy.2⟩) h1) hw, _, fun j => by
    have z := pe_join (pos := pos) (apos := apos) (p1 j) (p2 j) (hs j) (hbase j) hline
    rw [hK j] at z
    exact z, fun c σ H env own Q s hw => ?_⟩
  refine f1 c σ H env own _ s (ho.mono _ _ _ (fun a ha v1 H1 x1 r1 => ?_) hw)
  refine ⟨⟨a, r1⟩, f2 c σ H1 env own _ (s.ex x1) (hx.mono _ _ _ (fun ys hy v2 H2 x2 r2 => ?_) ha)⟩
  obtain ⟨b, vs, rfl, n, el, q⟩ := r2
  obtain rfl := p_str q
  exact ⟨a, b, ys, r1, rfl, .inl (SqL.of el), hy.1, hy.2 _ H2 (x1.trans x2) rfl⟩
end
/-! ### dict(pairs) -/
theorem merge_new2 : ∀ {xs ys : List (Key × V)}, ((ys ++ xs).map (·.1)).Nodup → mergeK ys xs = ys ++ xs
  | [], ys, _ => by simp [mergeK]
  | (k, v) :: xs, ys, nd => by
    have h1 : k ∉ ys.map (·.1) := by
      intro h
      rw [List.map_append, List.nodup_append] at nd
      exact nd.2.2 k h k (by simp) rfl
    have e : mergeK ys ((k, v) :: xs) = mergeK (putK ys k v) xs := rfl
    rw [e, Gx.putK_new h1]
    have nd2 : (((ys ++ [(k, v)]) ++ xs).map (·.1)).Nodup := by rw [List.append_assoc]; exact nd
    rw [merge_new2 nd2, List.append_assoc]
    rfl
def rDictP (K : PySem.W.Frag) : List V → Hp → VK → Prop := fun xs H Q => ∃ (a : Addr) (ps : List Addr) (kvs : List (Key × V)), xs = [.ref a] ∧ SqL K H a (ps.map V.ref) ∧ Paired (fun p kv => SqT K H p [kV kv.1, kv.2]) ps kvs ∧ ∀ p, H p = none → Q (.ref p) (upd H p (.dK (mergeK [] kvs)))
theorem call_dictPK {X : Cx} {K : PySem.W.Frag} (h : X.K = K) (hc : X.calm = true) : CallR X (.type "dict") (rDictP K) := h ▸ call_dictP hc
end Tx
/-! defs that call repr; blocks of a def that may raise -/
namespace Tx
open PySem PySem.Spec PyProof.Rows L2 Gx
end Tx
namespace Tx
open PySem PySem.Spec PyProof.Rows L2 Gx
end Tx
namespace Tx
open PySem PySem.Spec PyProof.Rows L2 Gx
end Tx
namespace Tx
open PySem PySem.Spec PyProof.Rows L2 Gx
end Tx
/-! two told lists, each looked at and then changed -/
namespace Tx
open PySem PySem.Spec PyProof.Rows L2 Gx
end Tx
/-! two named clauses -/
namespace Tx
open PySem PySem.Spec PyProof.Rows L2 Gx
/-- what is known when the clauses are looked at -/
structure Caught (X : Cx) (pins : List (Addr × Obj)) (σ : L2.St) (H : Hp) (s : Shared) (B : Heap) (a : Addr) (cls : Value) (d : Option Addr) (h : Heap) : Prop where
  fly : HandSPX.FlyingZ B (X.env :: X.outer) a (Zc cls d) h
  inv : ∀ h', h.UpToSlots h' → HandSPX.FlyingZ B (X.env :: X.outer) a (Zc cls d) h' → Inv X pins σ H { s with heap := h' }
  no : H a = none
/-- clauses that keep a wish -/
def Clauses (X : Cx) (hds : List ExceptHandler) (w : Ends → WX) : Prop := ∀ pins D σ H s B a cls d h, Caught X pins σ H s B a cls d h → w D cls d σ H → wpAny (model X.prog X.w) X.A (handleBy (.ref a) X.env hds) (SP X pins D) X.xe { s with heap := h }
theorem Clauses.none {X : Cx} {hds : List ExceptHandler} : Clauses X hds (fun _ _ _ _ _ => False) := fun _ _ _ _ _ _ _ _ _ _ _ h => h.elim
section
variable {X : Cx} {pins : List (Addr × Obj)} {σ : L2.St} {H : Hp} {s : Shared} {B : Heap} {a : Addr} {cls : Value} {d : Option Addr} {h : Heap}
theorem Caught.here (c : Caught X pins σ H s B a cls d h) : Inv X pins σ H { s with heap := h } := c.inv h (Heap.UpToSlots.refl _) c.fly
end
end Tx
/-! data seen as what they are; a statement typed two ways; two clauses, typed -/
namespace Tx
open PySem PySem.Spec PyProof.Rows L2 Gx
/-- such data are such values -/
structure AsD {α : Type} (S : Rp α) (g : α → PyData) : Prop where
  of : ∀ {K : PySem.W.Frag} {W : WS} {H : Hp} {v : V} {x : α}, DW K W H v (g x) → S.r K W H v x
theorem as_s : AsD strR PyData.str := ⟨fun h => by cases h; rfl⟩
section
variable {E α β ρ : Type} {ι : Type} {X : ι → Cx} {K : PySem.W.Frag} {R : RetR ρ} {L L' : List (Sl E)} {S : Rp α} {g : α → PyData} {e : Expr} {ss : List Stmt}
theorem tx_asW (h : AsD S g) {wa : E → (V × PyData → Prop) → Prop} (ha : TX X K L vdR e wa) : TX X K L S e (fun env k => wa env fun d => ∃ x, d.2 = g x ∧ k x) := by
  obtain ⟨t, pt, f⟩ := ha.ex
  refine ⟨fun e k k' hk hw => ha.mono _ _ _ (fun d ⟨x, e, q⟩ => ⟨x, e, hk _ q⟩) hw, t, pt, fun c σ H env own Q s hw => f c σ H env own Q s (ha.mono _ _ _ (fun d ⟨x, e, q⟩ v H' x' r => q v H' x' (h.of ?_)) hw)⟩
  rw [← e]
  exact r.2
def splitW {E ρ : Type} (b : E → Bool) (w1 w2 : E → Kn E ρ → Prop) : E → Kn E ρ → Prop := fun env kn => if b env = true then w1 env kn else w2 env kn
/-- the same statements, typed two ways -/
theorem ts_split {w1 w2 : E → Kn E ρ → Prop} {b : E → Bool} (h1 : TS X K R L L' ss w1) (h2 : TS X K R L L' ss w2) : TS X K R L L' ss (splitW b w1 w2) := by
  unfold splitW
  obtain ⟨t1, p1, f1⟩ := h1.ex
  obtain ⟨t2, p2, f2⟩ := h2.ex
  refine ⟨fun e k k' hn hr hw => ?_, fun D σ H => t1 D σ H ∨ t2 D σ H, fun i => ⟨fun pins s σ H D I h => h.elim (fun h => (p1 i).run pins s σ H D I h) fun h => (p2 i).run pins s σ H D I h⟩, fun c σ H env own D s hw => ?_⟩
  · by_cases z : b e = true
    · rw [if_pos z] at hw ⊢
      exact h1.mono _ _ _ hn hr hw
    · rw [if_neg z] at hw ⊢
      exact h2.mono _ _ _ hn hr hw
  · by_cases z : b env = true
    · rw [if_pos z] at hw
      exact .inl (f1 c σ H env own D s hw)
    · rw [if_neg z] at hw
      exact .inr (f2 c σ H env own D s hw)
end
end Tx
/-! more of any data -/
namespace Tx
open PySem PySem.Spec PyProof.Rows L2 Gx
end Tx
namespace Tx
open PySem PySem.Spec PyProof.Rows L2 Gx
end Tx
/-! a told list that holds a new list -/
namespace Tx
open PySem PySem.Spec PyProof.Rows L2 Gx
def hD (r : Str × List Str) : PyData := .list [.str r.1, .list (r.2.map PyData.str)]
end Tx
/-! any data compared; flat values in a list -/
namespace Tx
open PySem PySem.Spec PyProof.Rows L2 Gx
mutual
theorem DW.dp {K : PySem.W.Frag} {W : WS} {H : Hp} : ∀ {v : V} {d : PyData}, d.canLay0 = true → DW K W H v d → Dp K H v d
  | _, _, _, .non => .non
  | _, _, _, .bl b => .bl b
  | _, _, _, .int i => .int i
  | _, _, _, .str x => .str x
  | _, _, c, .lst n h p => .lst (SqL.of h) (DWs.dpA (by simpa only [PyData.canLay0] using c) p)
  | _, _, c, .tup h p => .tup h.sq (DWs.dpA (by simpa only [PyData.canLay0] using c) p)
  | _, _, c, .dic n h p => by simp [PyData.canLay0] at c
theorem DWs.dpA {K : PySem.W.Frag} {W : WS} {H : Hp} : ∀ {vs : List V} {ds : List PyData}, PyData.canLayAll0 ds = true → DWs K W H vs ds → DpAll K H vs ds
  | _, _, _, .nil => .nil
  | _, _, c, .cons h t => by
    simp only [PyData.canLayAll0, Bool.and_eq_true] at c
    exact .cons (DW.dp c.1 h) (DWs.dpA c.2 t)
end
theorem shaped_lay {d : PyData} (h : SeqAt.shaped d = true) : d.canLay0 = true := by
  unfold SeqAt.shaped at h
  rw [Bool.and_eq_true] at h
  exact h.1
theorem v_neDD {K : PySem.W.Frag} : VR2 K datR datR boolR (rNeD K) (fun x y k => SeqAt.shaped x = true ∧ SeqAt.shaped y = true ∧ k (!PyData.eqv x y)) := ⟨fun x y k k' h h2 => ⟨h2.1, h2.2.1, h _ h2.2.2⟩, fun W H x y v u Q fr r1 r2 ⟨h1, h2, q⟩ =>
  ⟨x, y, DW.dp (shaped_lay h1) r1, DW.dp (shaped_lay h2) r2, h1, h2, q _ H (Same.refl _) rfl⟩⟩
section
variable {E α ρ : Type} {ι : Type} {X : ι → Cx} {K : PySem.W.Frag} {L : List (Sl E)} {S : Rp α} {e : Expr}
/-- flat values as data -/
theorem tx_fl {wa : E → (List V → Prop) → Prop} (ha : TX X K L (lstR vR) e wa) : TX X K L datR e (fun env k => wa env fun xs => (∀ v ∈ xs, flV v = true) ∧ k (.list (xs.map flD))) := by
  obtain ⟨t, pt, f⟩ := ha.ex
  refine ⟨fun e k k' hk hw => ha.mono _ _ _ (fun x hx => ⟨hx.1, hk _ hx.2⟩) hw, t, pt, fun c σ H env own Q s hw => f c σ H env own Q s (ha.mono _ _ _ (fun xs hx v H' x' r => hx.2 v H' x' ?_) hw)⟩
  obtain ⟨a, vs, rfl, n, el, p⟩ := r
  refine .lst n el ?_
  have h := hx.1
  clear hx el
  induction p with
  | nil => exact .nil
  | @cons v y vs ys a b ih =>
    obtain rfl := (show v = y from a)
    exact .cons (flDW (h v List.mem_cons_self)) (ih fun w hw => h w (List.mem_cons_of_mem _ hw))
end
end Tx
namespace Tx
open PySem PySem.Spec PyProof.Rows L2 Gx
end Tx
namespace Tx
open PySem PySem.Spec PyProof.Rows L2 Gx
end Tx
/-! a walk that may break off; a new list or None -/
namespace Tx
open PySem PySem.Spec PyProof.Rows L2 Gx
def wForB {E α ρ : Type} (wt : E × α → (Bool → Prop) → Prop) (wb : E × α → Kn (E × α) ρ → Prop) : List α → E → Kn E ρ → Prop
  | [], e, k => k.nx e
  | x :: xs, e, k => wt (e, x) fun y => if y = true then k.nx e else wb (e, x) ⟨fun e' => wForB wt wb xs e'.1 k, k.rt⟩
theorem wForB.mono {E α ρ : Type} {wt : E × α → (Bool → Prop) → Prop} {wb : E × α → Kn (E × α) ρ → Prop} (ht : Mono wt) (h : MonoS wb) : ∀ (xs : List α), MonoS (wForB wt wb xs)
  | [], e, k, k', hn, hr, hw => hn _ hw
  | x :: xs, e, k, k', hn, hr, hw => ht _ _ _ (fun y hy => by
    cases y
    · exact h _ _ _ (fun e' he => wForB.mono ht h xs e'.1 k k' hn hr he) hr hy
    · exact hn _ hy) hw
end Tx
/-! two told lists in a tuple, changed behind -/
namespace Tx
open PySem PySem.Spec PyProof.Rows L2 Gx
end Tx
/-! a comprehension over a call that always raises -/
namespace Tx
open PySem PySem.Spec PyProof.Rows L2 Gx
end Tx
namespace Tx
open PySem PySem.Spec PyProof.Rows L2 Gx
end Tx
/-! tuples without a dict of their own: written, put together; y = what always raises -/
namespace Tx
open PySem PySem.Spec PyProof.Rows L2 Gx
section
variable {E α ρ : Type} {ι : Type} {X : ι → Cx} {K : PySem.W.Frag} {R : RetR ρ} {L L' : List (Sl E)} {S : Rp α} {g : α → PyData} {e : Expr} {pos : Pos} {x1 : Nat}
theorem psNox {X : Cx} {st : Stmt} {t : L2.TS} (h : PS X.nox st t) : PS X st t := by
  constructor
  intro pins s σ H D I hw
  exact wpAny_mono (h.run pins s σ H D (I.wish _) hw) (fun _ _ q => q.unwish) (fun _ _ z => z.elim)
theorem TS1.nox {s : Stmt} {w : E → Kn E ρ → Prop} (h : TS1 (fun i => (X i).nox) K R L L' s w) : TS1 X K R L L' s w := by
  obtain ⟨t, p, f⟩ := h.ex
  exact ⟨h.mono, t, fun i => psNox (p i), f⟩
end
end Tx
/-! a menu made by the law itself; dict(pairs) that stays -/
namespace Tx
open PySem PySem.Spec PyProof.Rows L2 Gx
/-- such a value is a row of texts -/
structure SqR {α : Type} (S : Rp α) (g : α → List Str) : Prop where
  sq : ∀ {K : PySem.W.Frag} {W : WS} {H : Hp} {v : V} {x : α}, S.r K W H v x → Sq K H v (g x)
theorem sq_l : SqR (lstR strR) id := ⟨fun ⟨a, vs, e, n, h, p⟩ => by
  obtain rfl := p_str p
  exact ⟨a, e, .inl (SqL.of h)⟩⟩
theorem sq_t : SqR (tupR strR) id := ⟨fun ⟨a, vs, e, t, p⟩ => by
  obtain rfl := p_str p
  exact ⟨a, e, .inr t.sq⟩⟩
def entsOf {α β : Type} (g : α → List Str) (h : β → List Str) (rows : List (Str × (α × Str × β))) : List Ent := rows.map fun q => ⟨q.1, g q.2.1, q.2.2.1, h q.2.2.2⟩
section
variable {E ι α β γ : Type} {X : ι → Cx} {K : PySem.W.Frag} {L : List (Sl E)} {A : Rp α} {B : Rp β} {C : Rp γ} {gA : α → List Str} {gB : β → List Str} {gC : γ → List Str} {e : Expr} {es : List Expr} {p pos : Pos}
theorem tx_menu {wa : E → (γ × List (Str × (α × Str × β)) × Unit → Prop) → Prop} (hA : SqR A gA) (hB : SqR B gB) (hC : SqR C gC) (cl : ∀ i, CaI (X i).prog (X i).w (X i).K (X i).mg (X i).base CX0 5 "Menu" (He.ga K "Menu") (spInitF K)) (hr : ∀ i, Room 6 (X i).A) (hg : ∀ i, Gl (X i) "Menu") (ha : TA X K L (.cons C (.cons (dicR (triR A strR B)) .nil)) (e :: es) wa)
    (he : ∀ i, starEach (e :: es) (X i).env = (false, eval e (X i).env) :: starEach es (X i).env := by intro _; rfl) (hpl : ∀ i, (backTo pos (starEach es (X i).env)).any (·.1) = false := by intro _; rfl) :
    TX X K L menuR (.Call (.Name "Menu" p) (e :: es) [] pos) (fun env k => wa env fun q => WF ⟨gC q.1, entsOf gA gB q.2.1⟩ ∧ k ⟨gC q.1, entsOf gA gB q.2.1⟩) := by
  obtain ⟨t, pt, ft⟩ := ha.ex
  refine ⟨fun e k k' h hw => ha.mono _ _ _ (fun x hx => ⟨hx.1, h _ hx.2⟩) hw, _, fun i => pe_mk (E := fun _ _ _ => False) (cl i) (hr i) (hg i) pass0 (pt i) (by decide) (he i) (hpl i), fun c σ H env own Q s hw => ?_⟩
  refine ft c σ H env own _ s (ha.mono _ _ _ (fun x hx vs H1 x1 ok => ?_) hw)
  have s1 := s.ex x1
  obtain ⟨v1, us, rfl, m1, v2, us2, rfl, m2, m3⟩ := ok
  have m3 : us2 = [] := m3
  subst m3
  obtain ⟨d, kvs, rfl, nd, ed, pp⟩ := m2
  intro m dx hm hdx ne
  have sm : Same H1 (upd (upd H1 dx (.own m)) m (.ins (He.ga K "Menu") dx [])) := fun a o h => by
    rw [upd_ne (ne_of_none h hm), upd_ne (ne_of_none h hdx)]
    exact h
  have em : (upd (upd H1 dx (.own m)) m (.ins (He.ga K "Menu") dx [])) m = some (.ins (He.ga K "Menu") dx []) := upd_same
  have edx : (upd (upd H1 dx (.own m)) m (.ins (He.ga K "Menu") dx [])) dx = some (.own m) := by rw [upd_ne ne]; exact upd_same
  generalize upd (upd H1 dx (.own m)) m (.ins (He.ga K "Menu") dx []) = H2 at sm em edx
  have ents : EntsAt K H2 kvs (entsOf gA gB x.2.1) := by
    unfold EntsAt entsOf
    clear ed hx
    generalize x.2.1 = rows at pp
    induction pp with
    | nil => exact .nil
    | cons a _ ih =>
      obtain ⟨h1, t, w1, w2, w3, h2, h3, h4, h5, h6⟩ := a
      have h5 : w2 = V.str _ := h5
      subst h5
      exact .cons ⟨h1, t, w1, w3, h2, SqT.same h3.sq sm, (hA.sq h4).same sm, (hB.sq h6).same sm⟩ ih
  refine ⟨m, dx, v1, d, ⟨gC x.1, entsOf gA gB x.2.1⟩, kvs, rfl, em, edx, sm _ _ ed, ents, (hC.sq m1).same sm, hx.1, fun H' kp im => ⟨rfl, ?_⟩⟩
  have sm2 : Same H1 H' := fun a o h => kp a o (ne_of_none h hm) (sm _ _ h)
  have s2 := s1.ex (s1.exSame sm2)
  exact hx.2 _ H' (x1.trans (s1.exSame sm2)) (menuR.of (fun a z => s2.hasW z) im.is)
end
/-- dict(pairs), as a dict that stays -/
theorem vc_dictS {β : Type} {K : PySem.W.Frag} {T : Rp β} : VC K (.cons (lstR (prR strR T)) .nil) (dicR T) (rDictP K) (fun x k => (x.1.map (·.1)).Nodup ∧ k x.1) := ⟨fun x k k' h h2 => ⟨h2.1, h _ h2.2⟩, fun W H x vs Q fr ⟨v, us, e, ⟨a, ws, e2, n, hh, p⟩, e3⟩ q => by
  subst e e2
  rw [show us = [] from e3]
  have run : ∀ {ws : List V} {xs : List (Str × β)}, Paired ((prR strR T).r K W H) ws xs → ∃ (as : List Addr) (kvs : List (Key × V)), ws = as.map V.ref ∧ Paired (fun p kv => SqT K H p [kV kv.1, kv.2]) as kvs ∧ kvs.map (·.1) = xs.map (fun x => Sum.inr x.1) ∧ Paired (DSp K W H T) kvs xs := by
    intro ws xs p
    induction p with
    | nil => exact ⟨[], [], rfl, .nil, rfl, .nil⟩
    | @cons v x vs xs a b ih =>
      obtain ⟨as, kvs, rfl, h1, h2, h3⟩ := ih
      obtain ⟨ad, v1, v2, rfl, tw, r1, r2⟩ := a
      obtain rfl := (show v1 = V.str x.1 from r1)
      exact ⟨ad :: as, (.inr x.1, v2) :: kvs, rfl, .cons tw.sq h1, by rw [List.map_cons, List.map_cons, h2], .cons ⟨rfl, r2⟩ h3⟩
  obtain ⟨as, kvs, rfl, h1, h2, h3⟩ := run p
  have nd : (kvs.map (·.1)).Nodup := by
    rw [h2]
    have z := nodup_inr q.1
    rw [List.map_map] at z
    exact z
  refine ⟨a, as, kvs, rfl, SqL.of hh, h1, fun p hp => q.2 _ _ (Same.new hp) ?_⟩
  rw [show mergeK [] kvs = kvs from merge_new2 (ys := []) nd]
  exact ⟨p, kvs, rfl, fr p hp, upd_same, Paired.imp2 (fun _ _ z => ⟨z.1, T.mono (Ge.same (Same.new hp)) z.2⟩) h3⟩⟩
end Tx
/-! what is not None; math.gcd -/
namespace Tx
open PySem PySem.Spec PyProof.Rows L2 Gx
section
variable {E α : Type} {ι : Type} {X : ι → Cx} {K : PySem.W.Frag} {L : List (Sl E)} {S : Rp α} {e : Expr}
/-- not None -/
theorem tx_some {wa : E → (Option α → Prop) → Prop} (ha : TX X K L (optR S) e wa) : TX X K L S e (fun env k => wa env fun o => ∃ x, o = some x ∧ k x) := by
  obtain ⟨t, pt, f⟩ := ha.ex
  refine ⟨fun e k k' hk hw => ha.mono _ _ _ (fun o ⟨x, h, q⟩ => ⟨x, h, hk _ q⟩) hw, t, pt, fun c σ H env own Q s hw => f c σ H env own Q s (ha.mono _ _ _ (fun o ⟨x, h, q⟩ v H' x' r => ?_) hw)⟩
  subst h
  exact q v H' x' r.1
end
theorem triR.nn {α β γ : Type} {S : Rp α} {T : Rp β} {U : Rp γ} : NN (triR S T U) := by
  intro K W H v x h e
  obtain ⟨a, v1, v2, v3, rfl, _⟩ := h
  cases e
end Tx
namespace Tx
open PySem PySem.Spec PyProof.Rows L2 Gx
end Tx
/-! math.gcd -/
namespace Tx
open PySem PySem.Spec PyProof.Rows L2 Gx
end Tx
/-! own dicts with numbers as keys; a, (b, c) = e -/
namespace Tx
open PySem PySem.Spec PyProof.Rows L2 Gx
section
variable {X : Cx} {pins : List (Addr × Obj)} {σ : L2.St} {H : Hp} {s : Shared} {d : Addr} {kvs : List (Key × V)}
theorem tagI (I : Inv X pins σ H s) (hd : H d = some (dsO X.prog X.w d kvs)) : Inv X pins σ (upd H d (.dK kvs)) s := by
  have q : ObjOk X.prog X.w H s.heap d (dsO X.prog X.w d kvs) := I.hok d _ hd
  exact retag I hd trivial (fun H' q => dk_any (ds_of q)) (dk_there (ds_of q))
theorem untagI (I : Inv X pins σ (upd H d (.dK kvs)) s) : Inv X pins σ (upd H d (dsO X.prog X.w d kvs)) s := by
  have q : ObjOk X.prog X.w (upd H d (.dK kvs)) s.heap d (.dK kvs) := I.hok d _ upd_same
  have I3 := retag (o' := dsO X.prog X.w d kvs) I upd_same trivial (fun H' q => ds_ok (dk_any q)) (dk_there q)
  rw [upd2] at I3
  exact I3
end
def DIp {β : Type} (K : PySem.W.Frag) (W : WS) (H : Hp) (S : Rp β) : Key × V → Int × β → Prop := fun p q => p.1 = Sum.inl q.1 ∧ S.r K W H p.2 q.2
theorem DIp.get {β : Type} {K : PySem.W.Frag} {W : WS} {H : Hp} {S : Rp β} {kvs : List (Key × V)} {xs : List (Int × β)} (p : Paired (DIp K W H S) kvs xs) (k : Int) : (valV kvs (Sum.inl k) = none ∧ getK xs k = none) ∨ ∃ v y, valV kvs (Sum.inl k) = some v ∧ getK xs k = some y ∧ S.r K W H v y := by
  induction p with
  | nil => exact .inl ⟨rfl, rfl⟩
  | @cons a b as bs h t ih =>
    by_cases e : b.1 = k
    · refine .inr ⟨a.2, b.2, valV_pos (by rw [h.1, e]), ?_, h.2⟩
      rw [getK_cons, if_pos e]
    · have ne : ¬ a.1 = Sum.inl k := fun z => e (Sum.inl.inj (h.1.symm.trans z))
      rw [valV_neg ne, getK_cons, if_neg e]
      exact ih
/-! ### a name of a module for a built-in function -/
/-! ### a, (b, c) = e -/
end Tx
/-! a drawn menu has no more things than asked -/
namespace Gx
open PySem PySem.Spec PyProof.Rows L2
end Gx
namespace Tx
open PySem PySem.Spec PyProof.Rows L2 Gx
end Tx
/-! len(set(texts)): just how many -/
namespace Gx
open PySem PySem.Spec PyProof.Rows
def cntR : List Str → Nat
  | [] => 0
  | x :: xs => if x ∈ xs then cntR xs else cntR xs + 1
/-- how many different ones -/
def cnt (xs : List Str) : Nat := cntR xs.reverse
theorem cnt_snoc {xs : List Str} {x : Str} : cnt (xs ++ [x]) = if x ∈ xs then cnt xs else cnt xs + 1 := by
  unfold cnt
  rw [List.reverse_append]
  show (if x ∈ xs.reverse then _ else _) = _
  simp only [List.mem_reverse]
  rfl
/-- a set object at a: the texts of xs, n of them -/
def SomeN (P : Program) (w : World) (h : Heap) (a : Addr) (xs : List Str) (n : Nat) : Prop := h.SetOf (PySem.strKind P w) a (fun k => decide (k ∈ xs)) n ∧ n ≤ xs.length ∧ (n = xs.length ↔ xs.Nodup) ∧ n = cnt xs
theorem SomeN.keep {P : Program} {w : World} {h g : Heap} {a : Addr} {xs : List Str} {n : Nat} (x : SomeN P w h a xs n) (k : ∀ o, h.get? a = some o → g.get? a = some o) : SomeN P w g a xs n := by
  obtain ⟨⟨o, es, ep, t, ho, rest⟩, r⟩ := x
  exact ⟨⟨o, es, ep, t, k o ho, rest⟩, r⟩
theorem SomeN.put {P : Program} {w : World} {h g : Heap} {a : Addr} {xs : List Str} {x : Str} {n : Nat} (d : SomeN P w h a xs n) (e : g.SetOf (PySem.strKind P w) a (fun k => decide (k ∈ xs) || decide (k = x)) (if decide (x ∈ xs) = true then n else n + 1)) :
    ∃ m, SomeN P w g a (xs ++ [x]) m := by
  obtain ⟨_, h1, h2, h3⟩ := d
  refine ⟨_, SetOf_congr e (fun k => by simp [List.mem_append]) rfl, ?_, ?_, by rw [cnt_snoc, h3]; simp only [decide_eq_true_eq]⟩
  · simp only [decide_eq_true_eq, List.length_append, List.length_singleton]
    split <;> omega
  · simp only [decide_eq_true_eq, List.length_append, List.length_singleton, List.nodup_append]
    by_cases hx : x ∈ xs
    · rw [if_pos hx]
      constructor
      · intro z; omega
      · intro z
        exact absurd rfl (z.2.2 x hx x (by simp))
    · rw [if_neg hx]
      constructor
      · intro z
        exact ⟨h2.mp (by omega), by simp, fun u hu v hv => by simp at hv; subst hv; exact fun q => hx (q ▸ hu)⟩
      · intro z
        have := h2.mpr z.1
        omega
section
variable {P : Program} {w : World} {A : Around} {R : Result → Shared → Prop} {I : Addr} {fp wr : List Addr} {G : Array GenState → Array GenState → Prop} {n : Nat} {Pv : Nat → Value → Prop} {St : Nat → Shared → Prop}
theorem textsN_loop (W : WalksS P w A.in1 I fp wr G n Pv St) (S : Addr) (out : S ∉ fp) (xs : List Str) (hl : xs.length = n) (hb : xs.length + 1 < scanBound) (hv : ∀ i v, Pv i v → ∃ t x, v = .str x t ∧ xs[i]? = some x) :
    ∀ (k i m : Nat) (s : Shared), n - i = k → i ≤ n → St i s → SomeN P w s.heap S (xs.take i) m → (∀ s' m', Moved (S :: wr) G s s' → SomeN P w s'.heap S (xs.take n) m' → R (.ok (.ret .none)) s') →
      codeAny (model P w) A (.builtin "set.update.loop" ⟨[.ref S, .ref I], []⟩) R s := by
  have nw : S ∉ wr := fun z => out (W.sub _ z)
  have up : ∀ b ∈ wr, b ∈ S :: wr := fun b z => List.mem_cons_of_mem _ z
  intro k
  induction k with
  | zero =>
    intro i m s hk hi hst d last
    obtain rfl : i = n := by omega
    refine codeAny_builtin F.entry_set_update_loop ?_
    rw [Around.under_plainId F.plain_set_update_loop _]
    show wpAny _ A.in1 (pyNext (.ref I) >>= _) _ _ s
    refine wpAny_bind (W.done s _ _ hst fun s2 mv => ?_)
    show wpAny _ A.in1 (ret Value.none) _ _ s2
    exact wpAny_pure (last s2 m (mv.mono up) (d.keep fun o e => mv.heap S o nw e))
  | succ k ih =>
    intro i m s hk hi hst d last
    have lt : i < n := by omega
    refine codeAny_builtin F.entry_set_update_loop ?_
    rw [Around.under_plainId F.plain_set_update_loop _]
    show wpAny _ A.in1 (pyNext (.ref I) >>= _) _ _ s
    refine wpAny_bind (W.item i s _ _ lt hst fun v s2 hP st2 mv => ?_)
    obtain ⟨t, x, rfl, hx⟩ := hv i v hP
    have d2 := d.keep (g := s2.heap) fun o e => mv.heap S o nw e
    show wpAny _ A.in1 (holding [Value.str x t] (setAdd S (.str x t)) >>= _) _ _ s2
    refine wpAny_bind (wpAny_holding ?_)
    unfold setAdd
    refine wpAny_holding (wpAny_bind ((PySem.strKind P w).pyHash (k := x) (strKind_is _ _ _ _) ?_))
    have room : m + 1 < scanBound := by
      have a1 := d.2.1
      have a2 := List.length_take_le i xs
      have a3 : (xs.take i).length ≤ xs.length := by rw [List.length_take]; omega
      omega
    refine wpAny_setAddHashed_of (knd := PySem.strKind P w) (s := { s2 with toks := s2.toks + 1 }) (strKind_is _ _ _ _) rfl d2.1 room fun g sb e => ?_
    obtain ⟨m2, d3⟩ := d2.put e
    have tk : xs.take i ++ [x] = xs.take (i + 1) := by
      rw [List.take_succ, hx]
      rfl
    rw [tk] at d3
    refine wpAny_pure ⟨plainId_quiet F.plain_set_update_loop _, ih (i + 1) m2 _ (by omega) lt (W.frame _ s2 _ _ st2 (Nat.le_succ _) fun b hb o e => ?_) d3 fun s3 m3 mv2 d4 => ?_⟩
    · rw [sb.2 b (fun z => out (z ▸ hb))]
      exact e
    · refine last s3 m3 (Moved.trans W.gtrans ((mv.mono up).then_heap (Nat.le_succ _) fun b o hb e => ?_) mv2) d4
      rw [sb.2 b (fun z => hb (z ▸ List.mem_cons_self))]
      exact e
end
section
variable {P : Program} {w : World} {A : Around} {E : Value → Shared → Prop} {s : Shared}
set_option maxHeartbeats 3200000 in
/-- set(l), l a list of texts -/
theorem setN_list {l : Addr} {its : Array Value} {xs : List Str} {Q : Value → Shared → Prop} (hh : A.handled = none) (hl : s.heap.IsList l its) (hi : StrsAre its.toList xs) (hb : xs.length + 1 < scanBound)
    (h : ∀ (g : Heap) (tk n : Nat), SomeN P w g s.heap.objs.size xs n → (∀ b o, b < s.heap.objs.size → s.heap.get? b = some o → g.get? b = some o) → Q (.ref s.heap.objs.size) { s with heap := g, toks := tk }) :
    wpAny (model P w) A (call (.type "set") [.ref l]) Q E s := by
  obtain ⟨c, tl, hmro⟩ := PySem.F.called_set.mro
  have f1 := PySem.F.called_set.made
  have f2 := PySem.F.called_set.sub
  have f3 := PySem.F.called_set.notType
  have f4 := PySem.F.called_set.canCreate
  have f5 := PySem.F.typeCall_set_1 (.ref l)
  have nxs : xs.length = its.size := by rw [← StrsAre.len_eq hi, Array.length_toList]
  refine wpAny_call (codeAny_of_tree ?_)
  show wpAny _ _ (callAny (.type "set") _) _ _ _
  refine wpAny_pure ⟨Code.quiet_builtin _ (by decide +kernel), codeAny_builtin PySem.F.entry_type_call ?_⟩
  rw [Around.under_plain (weight_type_call_type "set" [.ref l] []) rfl]
  repeat (any_goals (first | assumption | wp_step))
  let N (b : Bool) : Obj := { cls := .type "set", dict := none, data := .set #[] 0 (.fresh 0 0 b) }
  refine codeAny_mono (code_set_new_1 (.ref l) (E := E) (Q₁ := fun u t => ∃ b : Bool, u = .ref s.heap.objs.size ∧ t = { s with heap := s.heap.push (N b) }) fun b => ⟨b, rfl, rfl⟩) fun r t hr => ?_
  rcases r with _ | (_ | _ | _ | u)
  · exact hr
  · exact hr.elim
  · exact hr.elim
  · exact hr.elim
  obtain ⟨b, rfl, rfl⟩ := hr
  have hN : (s.heap.push (N b)).get? s.heap.objs.size = some (N b) := Heap.get?_push_size _ rfl
  have hT : Shared.TypeIs { s with heap := s.heap.push (N b) } (.ref s.heap.objs.size) "set" := ⟨_, hN, rfl⟩
  have f6 := PySem.F.called_set.init.lookup
  have f7 := PySem.F.called_set.init.bind (.ref s.heap.objs.size)
  repeat (any_goals (first | assumption | wp_step))
  refine codeAny_mono (codeAny_call_builtin (R := wants (fun r t => r = .none ∧ ∃ g tk n, t = { s with heap := g, toks := tk } ∧ SomeN P w g s.heap.objs.size xs n ∧ (∀ b o, b < s.heap.objs.size → s.heap.get? b = some o → g.get? b = some o)) E)
    PySem.F.called_set.init.plain PySem.F.entry_set_init (check_set_init_1 hT ?_)) fun r t hr => ?_
  · obtain ⟨ol, hol, hcl, nl, hdl⟩ := hl
    obtain ⟨oc, od, odt, osl⟩ := ol
    simp only at hcl hdl
    subst hcl; subst hdl
    have hol2 : (s.heap.push (N b)).get? l = some { cls := .type "list", dict := od, data := .seq its nl, slots := osl } := Heap.get?_push_of_some _ hol
    have g1 := PySem.F.sub_list_set
    have g2 := PySem.F.sub_list_frozenset
    have g3 : (Value.type "list" == Value.type "dict") = false := by decide
    have hl1 : (s.heap.push (N b)).IsList l its := ⟨_, hol2, rfl, nl, rfl⟩
    unfold Builtin.«set.__init__» noKeywords Builtin.Frozenset.updateFrom
    generalize hPI : pyIter = PI
    wp_walk
    subst hPI
    refine wpAny_pyIter_list hl1 ?_
    refine wpAny_bind (wpAny_runValue ?_)
    have ll : l < s.heap.objs.size := Heap.lt_size hol
    have zz : (s.heap.push (N b)).objs.size = s.heap.objs.size + 1 := Heap.size_push ..
    refine textsN_loop ((Walks.list (by simp [hh]) _ l (by rw [zz]; exact Nat.ne_of_lt (Nat.lt_succ_of_lt ll)) its).toS) s.heap.objs.size (by rw [zz]; simp only [List.mem_cons, List.not_mem_nil, or_false, not_or]; exact ⟨Nat.ne_of_lt (Nat.lt_succ_self _), Nat.ne_of_gt ll⟩) xs nxs hb (fun i v hv => txt_at hi i v (by rw [Array.getElem?_toList]; exact hv)) (its.size - 0) 0 0 _ (by omega) (Nat.zero_le _) ⟨⟨_, Heap.get?_push_size _ rfl, rfl, rfl⟩, hl1.push _⟩ ?_ ?_
    · have hg : ((s.heap.push (N b)).push { cls := .type "list_iterator", data := .fields #[.ref l, .int 0 0] }).get? s.heap.objs.size = some (N b) := Heap.get?_push_of_some _ hN
      refine ⟨?_, by simp, by simp, rfl⟩
      exact SetOf_congr ((setObjOf_fresh (knd := PySem.strKind P w) b).setOf hg (by unfold scanBound; omega)) (fun k => by simp) rfl
    · rintro ⟨g, gs, dr, tk, os⟩ n hm hS
      obtain rfl : gs = s.gens := hm.gens
      obtain rfl : dr = s.drawn := hm.drawn
      obtain rfl : os = s.os := hm.os
      show wpAny _ _ _ _ _ _
      refine wpAny_pure ?_
      show wpAny _ _ (ret Value.none) _ _ _
      refine wpAny_pure ⟨rfl, g, tk, n, rfl, by rwa [← nxs, List.take_length] at hS, fun c o hc e => ?_⟩
      exact hm.heap c o (by rw [zz]; simp only [List.mem_cons, List.not_mem_nil, or_false, not_or]; exact ⟨Nat.ne_of_lt hc, Nat.ne_of_lt (Nat.lt_succ_of_lt hc)⟩) (Heap.get?_push_of_some _ (Heap.get?_push_of_some _ e))
  · rcases r with _ | (_ | _ | _ | u)
    · exact hr
    · exact hr.elim
    · exact hr.elim
    · exact hr.elim
    obtain ⟨rfl, g, tk, n, rfl, hS, hk⟩ := hr
    repeat (any_goals (first | assumption | wp_step))
    exact h _ _ _ hS hk
end
end Gx
namespace Gx
open PySem PySem.Spec PyProof.Rows L2
def tLenSetN (K : PySem.W.Frag) (ta : TE) : TE := fun σ H Q => ta σ H fun x H1 => ∃ (l : Addr) (xs : List Str), x = .ref l ∧ SqL K H1 l (xs.map V.str) ∧ xs.length < 1000 ∧ Q (.int (cnt xs : Nat)) H1
section
variable {X : Cx}
theorem pe_lenSetN {a : Expr} {ta : TE} {p p2 q pos : Pos} (hc : X.calm = true) (hg : Gl X "len") (hm : X.mg "len" = none) (hg2 : Gl X "set") (hm2 : X.mg "set" = none) (ha : PE X a ta)
    (na : starEach [a] X.env = (false, eval a X.env) :: starEach [] X.env := by rfl) : PE X (.Call (.Name "len" p) [.Call (.Name "set" p2) [a] [] q] [] pos) (tLenSetN X.K ta) := by
  refine ⟨fun pins s σ H Q I h => ?_⟩
  refine Call_ (ld_blt I hg hm boot_len ?_)
  refine callWith_builtin1 (args_cons ?_ rfl) rfl rfl
  refine Call_ (ld_blt I hg2 hm2 boot_set ?_)
  refine callWith_type1 (args_cons (thn (ha.run pins s σ H _ I h) fun v s1 ⟨x, H1, I1, r1, z⟩ => args_nil ?_) na) na rfl
  obtain ⟨l, xs, rfl, hq, few, out⟩ := z
  cases r1
  have fin : ∀ (g : Heap) (tk n : Nat), SomeN X.prog X.w g s1.heap.objs.size xs n → (∀ b o, b < s1.heap.objs.size → s1.heap.get? b = some o → g.get? b = some o) →
      wpAny (model X.prog X.w) X.A (spliced (backTo pos (starEach [] X.env))) (fun vs t => wpAny (model X.prog X.w) X.A (call (.builtin "len") (Value.ref s1.heap.objs.size :: vs)) (EP X pins σ Q) X.xe t) X.xe { s1 with heap := g, toks := tk } := by
    intro g tk n d hk
    obtain ⟨⟨o, es, ep, t, ho, hex, hd, _, _, _, hf, hn⟩, d1, d2, d3⟩ := d
    have I2 : Inv X pins σ H1 { s1 with heap := g, toks := tk } := I1.kept fun b o e => hk b o (Heap.lt_size e) e
    exact args_nil (call_len_set ho hex hd hf (by rw [hn]; omega) ⟨.int n, H1, I2.tok _, ⟨_, by rw [hn]⟩, (by rw [d3]; exact out)⟩)
  have few2 : xs.length + 1 < scanBound := Nat.lt_trans (by omega : xs.length + 1 < 1001) (by decide)
  obtain ⟨us, r, pl, _⟩ := I1.list hq
  exact setN_list (I1.ok.hd hc) pl.isList (by simpa using txts_of r) few2 fin
end
end Gx
/-! len(set(texts)); a, b, c = a list of three; lists of numbers or None as data -/
namespace Tx
open PySem PySem.Spec PyProof.Rows L2 Gx
section
variable {E α ρ : Type} {ι : Type} {X : ι → Cx} {K : PySem.W.Frag} {R : RetR ρ} {L L' : List (Sl E)} {S : Rp α} {e a : Expr} {pos p p2 q : Pos}
theorem tx_lenset {wa : E → (List Str → Prop) → Prop} (hc : ∀ j, (X j).calm = true) (hg : ∀ j, Gl (X j) "len") (hm : ∀ j, (X j).mg "len" = none) (hg2 : ∀ j, Gl (X j) "set") (hm2 : ∀ j, (X j).mg "set" = none) (ha : TX X K L (lstR strR) a wa) (hK : ∀ k, (X k).K = K := by intro _; rfl)
    (na : ∀ j, starEach [a] (X j).env = (false, eval a (X j).env) :: starEach [] (X j).env := by intro _; rfl) : TX X K L intR (.Call (.Name "len" p) [.Call (.Name "set" p2) [a] [] q] [] pos) (fun env k => wa env fun xs => xs.length < 1000 ∧ k ((cnt xs : Nat) : Int)) := by
  obtain ⟨t, pt, f⟩ := ha.ex
  refine ⟨fun e k k' hk hw => ha.mono _ _ _ (fun x hx => ⟨hx.1, hk _ hx.2⟩) hw, _, fun j => by
    have z := pe_lenSetN (p := p) (p2 := p2) (q := q) (pos := pos) (hc j) (hg j) (hm j) (hg2 j) (hm2 j) (pt j) (na j)
    rw [hK j] at z
    exact z, fun c σ H env own Q s hw => f c σ H env own _ s (ha.mono _ _ _ (fun xs hx v H1 x1 r => ?_) hw)⟩
  obtain ⟨ad, vs, rfl, n, e1, pp⟩ := r
  obtain rfl := p_str pp
  exact ⟨ad, xs, rfl, SqL.of e1, hx.1, hx.2 _ H1 x1 rfl⟩
end
end Tx
/-! two new lists in a new tuple, changed behind -/
namespace Tx
open PySem PySem.Spec PyProof.Rows L2 Gx
end Tx
/-! dict(pairs) with nested keys; len of such a dict -/
namespace Gx
open PySem PySem.Spec PyProof.Rows L2
end Gx
namespace Tx
open PySem PySem.Spec PyProof.Rows L2 Gx
end Tx
namespace Tx
open PySem PySem.Spec PyProof.Rows L2 Gx
end Tx
/-! {text: v, ..} as a dict that stays -/
namespace Tx
open PySem PySem.Spec PyProof.Rows L2 Gx
/-- such values are no dict in the making -/
structure Apart {α : Type} (S : Rp α) : Prop where
  ap : ∀ {K : PySem.W.Frag} {W : WS} {H : Hp} {v : V} {x : α} {p : Addr} {kvs : List (Key × V)}, H p = some (.dK kvs) → S.r K W H v x → S.r K (fun a => W a ∨ a = p) H v x
end Tx
namespace Tx
open PySem PySem.Spec PyProof.Rows L2 Gx
def wComp2 {E α γ β : Type} (wi1 : E × α → (List γ → Prop) → Prop) (we : (E × α) × γ → (β → Prop) → Prop) : List α → List β → E → (List β → Prop) → Prop
  | [], acc, _, k => k acc
  | x :: xs, acc, e, k => wi1 (e, x) fun ys => acc.length + ys.length ≤ sizeLine ∧ wComp (fun _ k => k true) we ys acc (e, x) fun acc' => wComp2 wi1 we xs acc' e k
theorem wComp2.mono {E α γ β : Type} {wi1 : E × α → (List γ → Prop) → Prop} {we : (E × α) × γ → (β → Prop) → Prop} (hi : Mono wi1) (hw : Mono we) : ∀ (xs : List α) (acc : List β) (e : E) (k k' : List β → Prop), (∀ x, k x → k' x) → wComp2 wi1 we xs acc e k → wComp2 wi1 we xs acc e k'
  | [], acc, e, k, k', h, z => h _ z
  | x :: xs, acc, e, k, k', h, z => hi _ _ _ (fun ys hy => ⟨hy.1, wComp.mono (fun _ _ _ h z => h _ z) hw ys acc (e, x) _ _ (fun acc' z => wComp2.mono hi hw xs acc' e k k' h z) hy.2⟩) z
end Tx
/-! expressions that may also change one own object (a memo), of which only what stays true of it is known -/
namespace Tx
open PySem PySem.Spec PyProof.Rows L2 Gx
/-- all but the sources and what slot i owns stays -/
structure Mst {E : Type} (L : List (Sl E)) (own : Own) (i : Nat) (H H' : Hp) : Prop where
  st : ∀ a o, ¬ Sr L own a → own i ≠ some a → H a = some o → H' a = some o
  sr : ∀ a, Sr L own a → SrcAt H' a
section
variable {E β : Type} {K : PySem.W.Frag} {c : Bc} {L : List (Sl E)} {σ : L2.St} {H H' H'' : Hp} {e : E} {own : Own} {i : Nat}
theorem Ex.m (x : Ex L own H H') : Mst L own i H H' := ⟨fun a o n _ h => x.st a o n h, x.sr⟩
theorem Mst.trans (x : Mst L own i H H') (y : Mst L own i H' H'') : Mst L own i H H'' := ⟨fun a o n m h => y.st a o n m (x.st a o n m h), y.sr⟩
theorem Mst.ge (x : Mst L own i H H') : Ge (Wb c own) H (Wb c own) H' := fun a o n h => ⟨n, x.st a o (fun z => n z.wb) (fun z => n (.inr ⟨i, z⟩)) h⟩
end
structure TM {E α : Type} {ι : Type} (X : ι → Cx) (K : PySem.W.Frag) (L : List (Sl E)) (i : Nat) (S : Rp α) (e : Expr) (w : E → (α → Prop) → Prop) : Prop where
  mono : Mono w
  ex : ∃ t, (∀ j, PE (X j) e t) ∧ ∀ (c : Bc) (σ : L2.St) (H : Hp) (env : E) (own : Own) (Q : VK), St K c L σ H env own → w env (fun x => ∀ v H', St K c L σ H' env own → Mst L own i H H' → S.r K (Wb c own) H' v x → Q v H') → t σ H Q
section
variable {E α β γ ι τ1 τ2 τ3 : Type} {X : ι → Cx} {K : PySem.W.Frag} {L : List (Sl E)} {S : Rp α} {R : Ro (β × Addr)} {SB : Rp β} {S1 : Rp τ1} {S2 : Rp τ2} {S3 : Rp τ3} {i : Nat} {pos p : Pos}
theorem TX.m {e : Expr} {w : E → (α → Prop) → Prop} (h : TX X K L S e w) : TM X K L i S e w := by
  obtain ⟨t, pe, f⟩ := h.ex
  exact ⟨h.mono, t, pe, fun c σ H env own Q s hw => f c σ H env own Q s (h.mono _ _ _ (fun x hx v H' x' r => hx v H' (s.ex x') x'.m r) hw)⟩
end
end Tx
namespace Tx
open PySem PySem.Spec PyProof.Rows L2 Gx
end Tx
/-! plain mathematics: packings, days, trips -/
namespace Px
open PySem PySem.Spec PyProof.Rows L2 Gx Tx
theorem le_line {n : Nat} (h : n ≤ 1000) : n ≤ sizeLine := by
  rw [sizeLine_eq]
  omega
theorem up_of {τ ρ : Type} {w : τ → (ρ → Prop) → Prop} {x : τ} {k : ρ → Prop} (h : ∀ k', (∀ y, k y → k' y) → w x k') : up w x k := h
theorem idxS_lt {xs : List Str} {x : Str} (h : x ∈ xs) : idxS xs x < xs.length := List.findIdx_lt_length_of_exists ⟨x, h, decide_eq_true rfl⟩
theorem idxS_at {xs : List Str} {x : Str} (h : x ∈ xs) : xs[idxS xs x]? = some x := by
  have lt := idxS_lt h
  rw [List.getElem?_eq_getElem lt]
  exact congrArg some (of_decide_eq_true (List.findIdx_getElem (p := fun z => decide (z = x)) (w := lt)))
theorem idxS_cons_self {xs : List Str} {x : Str} : idxS (x :: xs) x = 0 := by simp [idxS, List.findIdx_cons]
theorem idxS_cons_ne {xs : List Str} {x y : Str} (h : y ≠ x) : idxS (y :: xs) x = idxS xs x + 1 := by simp [idxS, List.findIdx_cons, h]
/-- the digs that take the wishes out, one behind the other -/
def digsP : List Str → List Str → Nat
  | _, [] => 0
  | lying, w :: ws => idxS lying w + digsP (lying.filter fun z => !decide (z = w)) ws
/-- how it lies when the wishes have come back -/
def behindP (lying wishes : List Str) (back : Str) : List Str := if back = "place" then lying else wishes.reverse ++ lying.filter fun z => !decide (z ∈ wishes)
theorem behindP_perm {lying wishes : List Str} {back : Str} (nd : lying.Nodup) (nw : wishes.Nodup) (h : ∀ x ∈ wishes, x ∈ lying) : (behindP lying wishes back).Perm lying := by
  unfold behindP
  split
  · exact .refl _
  · have e : (lying.filter fun z => decide (z ∈ wishes)).Perm wishes := by
      rw [List.perm_ext_iff_of_nodup (nd.filter _) nw]
      intro a
      simp only [List.mem_filter, decide_eq_true_eq]
      exact ⟨fun z => z.2, fun z => ⟨h a z, z⟩⟩
    have p1 : (wishes.reverse ++ lying.filter fun z => !decide (z ∈ wishes)).Perm ((lying.filter fun z => decide (z ∈ wishes)) ++ lying.filter fun z => !decide (z ∈ wishes)) := ((List.reverse_perm _).trans e.symm).append_right _
    exact p1.trans (List.filter_append_perm _ lying)
/-- a packing of the menu b -/
def PackP (b : Bs) (xs : List Str) : Prop := xs.Perm b.things
instance {b : Bs} {xs : List Str} : Decidable (PackP b xs) := inferInstanceAs (Decidable (List.Perm _ _))
theorem PackP.nd {b : Bs} {xs : List Str} (h : PackP b xs) (wf : WF b) : xs.Nodup := (h.nodup_iff).mpr wf.td
theorem PackP.len {b : Bs} {xs : List Str} (h : PackP b xs) : xs.length = b.things.length := h.length_eq
/-- the entry of a weather -/
theorem ent_unique {ws : List Ent} (nd : (ws.map Ent.name).Nodup) : ∀ {e f : Ent}, e ∈ ws → f ∈ ws → e.name = f.name → e = f := by
  induction ws with
  | nil => intro e f h; cases h
  | cons g ws ih =>
    intro e f he hf hn
    rw [List.map_cons, List.nodup_cons] at nd
    cases List.mem_cons.mp he with
    | inl h1 => cases List.mem_cons.mp hf with
      | inl h2 => rw [h1, h2]
      | inr h2 => exact absurd (List.mem_map.mpr ⟨f, h2, by rw [← hn, h1]⟩) nd.1
    | inr h1 => cases List.mem_cons.mp hf with
      | inl h2 => exact absurd (List.mem_map.mpr ⟨e, h1, by rw [hn, h2]⟩) nd.1
      | inr h2 => exact ih nd.2 h1 h2 hn
/-- a row that is a trip: each entry can be behind the one before it -/
def TripP (b : Bs) : List Str → List Str → Prop
  | _, [] => True
  | can, x :: xs => x ∈ can ∧ ∃ e ∈ b.ws, e.name = x ∧ TripP b e.later xs
def firstP (b : Bs) : List Str := b.names.take 1
theorem firstP_ne {b : Bs} (wf : WF b) : ∃ x, L2.atI b.names 0 = some x ∧ firstP b = [x] ∧ x ∈ b.names := by
  have h := wf.w1
  obtain ⟨th, ws⟩ := b
  cases ws with
  | nil => simp at h
  | cons e ws => exact ⟨e.name, by simp [L2.atI, ixN, Bs.names], rfl, List.mem_cons_self⟩
theorem wFor_rem {E α ρ : Type} {wb : E × α → Kn (E × α) ρ → Prop} {k : Kn E ρ} (I : List α → E → Prop) (step : ∀ x rest e (kn : Kn (E × α) ρ), I (x :: rest) e → (∀ e' : E × α, I rest e'.1 → kn.nx e') → (∀ r, k.rt r → kn.rt r) → wb (e, x) kn) (done : ∀ e, I [] e → k.nx e) : ∀ {xs : List α} {e0 : E}, I xs e0 → wFor wb xs e0 k
  | [], e0, h0 => done e0 h0
  | x :: xs, e0, h0 => step x xs e0 ⟨fun e' => wFor wb xs e'.1 k, k.rt⟩ h0 (fun e' h => wFor_rem I step done h) (fun r h => h)
/-- the digs of a trip, and what it leaves -/
def tripDigs (b : Bs) : List Str → List Str → Int
  | _, [] => 0
  | xs, w :: row => match b.ws.find? (fun e => decide (e.name = w)) with
    | some e => (digsP xs e.wishes : Int) + tripDigs b (behindP xs e.wishes e.back) row
    | none => 0
def tripLeft (b : Bs) : List Str → List Str → List Str
  | xs, [] => xs
  | xs, w :: row => match b.ws.find? (fun e => decide (e.name = w)) with
    | some e => tripLeft b (behindP xs e.wishes e.back) row
    | none => xs
theorem find_ent {ws : List Ent} (nd : (ws.map Ent.name).Nodup) {e : Ent} (he : e ∈ ws) : ws.find? (fun f => decide (f.name = e.name)) = some e := by
  induction ws with
  | nil => cases he
  | cons g ws ih =>
    have nd' := nd
    rw [List.map_cons, List.nodup_cons] at nd
    by_cases h : g.name = e.name
    · rw [List.find?_cons_of_pos (by simpa using h), ent_unique nd' List.mem_cons_self he h]
    · rw [List.find?_cons_of_neg (by simpa using h)]
      refine ih nd.2 ?_
      rcases List.mem_cons.mp he with rfl | z
      · exact absurd rfl h
      · exact z
theorem behind_pack {b : Bs} (wf : WF b) {xs : List Str} (h : PackP b xs) {e : Ent} (he : e ∈ b.ws) : PackP b (behindP xs e.wishes e.back) :=
  (behindP_perm (h.nd wf) (wf.we e he).wd fun x hx => h.mem_iff.mpr ((wf.we e he).w x hx)).trans h
end Px
/-! mornings and the ways between them, as plain mathematics -/
namespace Px
open PySem PySem.Spec PyProof.Rows L2 Gx Tx
/-- a morning: how the packings lie, and what can come -/
abbrev Morn := List (List Str) × List Str
/-- what the first packing digs more than the others -/
def gainP (ps : List (List Str)) (wishes : List Str) : Int := match ps with
  | [] => 0
  | p :: rest => (digsP p wishes : Int) - (rest.map fun q => (digsP q wishes : Int)).sum
def afterP (m : Morn) (e : Ent) : Morn := (m.1.map fun p => behindP p e.wishes e.back, e.later)
/-- ways tells of each morning in M: in the sequence of what can come, the weather, the gain, the place of the morning behind -/
structure WaysOk (b : Bs) (starts : List (List (List Str))) (ways : List (List (Str × Int × Int))) (M : List Morn) : Prop where
  len : ways.length = M.length
  first : ∀ (i : Nat) (h : i < starts.length), M[i]? = some (starts[i], firstP b)
  way : ∀ (n : Nat) (m : Morn), M[n]? = some m → ∃ on : List (Str × Int × Int), ways[n]? = some on ∧ on.length = m.2.length ∧ ∀ (j : Nat) (x : Str), m.2[j]? = some x → ∃ e, e ∈ b.ws ∧ e.name = x ∧ ∃ k : Nat, on[j]? = some (x, gainP m.1 e.wishes, (k : Int)) ∧ M[k]? = some (afterP m e)
  pack : ∀ m ∈ M, (∀ p ∈ m.1, PackP b p) ∧ m.1 ≠ [] ∧ (∀ x ∈ m.2, x ∈ b.names) ∧ m.2 ≠ [] ∧ m.2.length ≤ 4
  few : M.length < 1000000
end Px
/-! the greatest gains of trips, row by row -/
namespace Px
open PySem PySem.Spec PyProof.Rows L2 Gx Tx
theorem atI_cast {α : Type} {xs : List α} {k : Nat} : atI xs (k : Int) = xs[k]? := by
  unfold atI ixN
  rw [if_pos (by omega)]
  by_cases h : k < xs.length
  · rw [if_pos (by omega)]
    simp
  · rw [if_neg (by omega)]
    rw [List.getElem?_eq_none (by omega)]
    rfl
theorem Paired.get {α β : Type} {R : α → β → Prop} : ∀ {xs : List α} {ys : List β}, Paired R xs ys → ∀ {i : Nat} {x : α}, xs[i]? = some x → ∃ y, ys[i]? = some y ∧ R x y := fun h => Paired.at2 h
/-- what a trip gains -/
def gainTrip (b : Bs) : List (List Str) → List Str → Int
  | _, [] => 0
  | ps, x :: row => match b.ws.find? (fun e => decide (e.name = x)) with
    | some e => gainP ps e.wishes + gainTrip b (ps.map fun p => behindP p e.wishes e.back) row
    | none => 0
/-- a row of the greatest gains, times the sign, of trips of d days from each morning -/
def RowOk (b : Bs) (M : List Morn) (sign : Int) (d : Nat) (row : List Int) : Prop := row.length = M.length ∧ ∀ (n : Nat) (m : Morn), M[n]? = some m → ∃ v, row[n]? = some v ∧ (∀ t : List Str, t.length = d → TripP b m.2 t → sign * gainTrip b m.1 t ≤ v) ∧ ∃ t : List Str, t.length = d ∧ TripP b m.2 t ∧ sign * gainTrip b m.1 t = v
section
variable {b : Bs} {starts : List (List (List Str))} {ways : List (List (Str × Int × Int))} {M : List Morn} {sign : Int} {d : Nat} {ahead row : List Int}
/-- all rows so far -/
def RowsOk (b : Bs) (M : List Morn) (sign : Int) (rows : List (List Int)) : Prop := ∀ (d : Nat) (row : List Int), rows[d]? = some row → RowOk b M sign d row
theorem rows_snoc {rows : List (List Int)} (h : RowsOk b M sign rows) (hr : RowOk b M sign rows.length row) : RowsOk b M sign (rows ++ [row]) := fun d r e => by
  by_cases lt : d < rows.length
  · rw [List.getElem?_append_left lt] at e
    exact h d r e
  · rw [List.getElem?_append_right (by omega)] at e
    have : d - rows.length = 0 := by
      rcases q : d - rows.length with _ | m
      · rfl
      · rw [q] at e
        simp at e
    rw [this] at e
    simp at e
    subst e
    have : d = rows.length := by omega
    subst this
    exact hr
end
theorem eqv_l {xs ys : List Str} : (PyData.list (xs.map PyData.str)).eqv (PyData.list (ys.map PyData.str)) = decide (xs = ys) := by
  unfold PyData.eqv
  exact eqv_strs xs ys
theorem cut_hi {α : Type} {xs : List α} {k : Nat} (h : k ≤ xs.length) : cutL xs none (some (k : Int)) = xs.take k := by
  unfold cutL HT.sIx
  simp only [List.drop_zero, Nat.sub_zero]
  rw [if_neg (by omega), Int.toNat_natCast, Nat.min_eq_left h]
theorem cut_lo {α : Type} {xs : List α} {k : Nat} (h : k ≤ xs.length) : cutL xs (some (k : Int)) none = xs.drop k := by
  unfold cutL HT.sIx
  simp only
  rw [if_neg (by omega), Int.toNat_natCast, Nat.min_eq_left h]
  rw [List.take_of_length_le (by rw [List.length_drop]; omega)]
/-- plain names are texts of letters -/
theorem TripP.names {b : Bs} : ∀ {row can : List Str}, TripP b can row → ∀ x ∈ row, x ∈ b.names
  | [], _, _, x, h => by cases h
  | y :: row, can, ⟨_, e, he, hn, ht⟩, x, h => by
    rcases List.mem_cons.mp h with rfl | h
    · exact List.mem_map.mpr ⟨e, he, hn⟩
    · exact TripP.names ht x h
/-- a day more -/
theorem TripP.snoc {b : Bs} (wf : WF b) : ∀ {row can : List Str} {x : Str} {e : Ent}, TripP b can row → e ∈ b.ws → e.name = x → (row = [] → x ∈ can) → (∀ f ∈ b.ws, row.getLast? = some f.name → x ∈ f.later) → TripP b can (row ++ [x])
  | [], can, x, e, _, he, hn, h0, _ => ⟨h0 rfl, e, he, hn, trivial⟩
  | y :: row, can, x, e, ⟨hy, f, hf, hfn, ht⟩, he, hn, _, hl => by
    refine ⟨hy, f, hf, hfn, TripP.snoc wf ht he hn (fun z => ?_) (fun g hg z => ?_)⟩
    · subst z
      exact hl f hf (by simp [hfn])
    · refine hl g hg ?_
      rw [List.getLast?_cons, z]
      rfl
theorem TripP.take {b : Bs} : ∀ {row can : List Str} (n : Nat), TripP b can row → TripP b can (row.take n)
  | [], can, n, h => by simp [TripP]
  | y :: row, can, 0, _ => trivial
  | y :: row, can, n + 1, ⟨hy, f, hf, hfn, ht⟩ => ⟨hy, f, hf, hfn, TripP.take n ht⟩
/-- cut in two -/
theorem TripP.drop {b : Bs} : ∀ {row can : List Str} (n : Nat), TripP b can row → ∃ can', TripP b can' (row.drop n)
  | [], can, n, h => ⟨can, by simp [TripP]⟩
  | y :: row, can, 0, h => ⟨can, h⟩
  | y :: row, can, n + 1, ⟨hy, f, hf, hfn, ht⟩ => TripP.drop n ht
theorem digs_app {b : Bs} (nd : b.names.Nodup) : ∀ {r1 r2 can : List Str} {p : List Str}, TripP b can (r1 ++ r2) → tripDigs b p (r1 ++ r2) = tripDigs b p r1 + tripDigs b (tripLeft b p r1) r2 ∧ tripLeft b p (r1 ++ r2) = tripLeft b (tripLeft b p r1) r2
  | [], r2, can, p, _ => ⟨by simp [tripDigs, tripLeft], rfl⟩
  | x :: r1, r2, can, p, ⟨_, e, he, hn, ht⟩ => by
    subst hn
    obtain ⟨q1, q2⟩ := digs_app nd (p := behindP p e.wishes e.back) ht
    have f := find_ent nd he
    constructor
    · show tripDigs b p (e.name :: (r1 ++ r2)) = tripDigs b p (e.name :: r1) + tripDigs b (tripLeft b p (e.name :: r1)) r2
      have l1 : ∀ r, tripDigs b p (e.name :: r) = (digsP p e.wishes : Int) + tripDigs b (behindP p e.wishes e.back) r := fun r => by
        conv => lhs; unfold tripDigs
        rw [f]
      have l2 : ∀ r, tripLeft b p (e.name :: r) = tripLeft b (behindP p e.wishes e.back) r := fun r => by
        conv => lhs; unfold tripLeft
        rw [f]
      rw [l1, l1, l2, q1]
      omega
    · show tripLeft b p (e.name :: (r1 ++ r2)) = tripLeft b (tripLeft b p (e.name :: r1)) r2
      have l2 : ∀ r, tripLeft b p (e.name :: r) = tripLeft b (behindP p e.wishes e.back) r := fun r => by
        conv => lhs; unfold tripLeft
        rw [f]
      rw [l2, l2, q2]
end Px
/-! there are few mornings; tables and numbers -/
namespace Px
open PySem PySem.Spec PyProof.Rows L2 Gx Tx
theorem atI_last {α : Type} {xs : List α} {n : Nat} (h : xs.length = n + 1) : atI xs (-1) = xs[n]? := by
  unfold atI ixN
  rw [if_neg (by omega), h]
  by_cases c : (0 : Int) ≤ -1 + ((n + 1 : Nat) : Int)
  · first
    | rw [if_pos (by omega), show (-1 + ((n + 1 : Nat) : Int)).toNat = n from by omega]; rfl
    | (simp; omega)
  · omega
/-! sequences of things -/
def insP (x : Str) : List Str → List (List Str)
  | [] => [[x]]
  | y :: ys => (x :: y :: ys) :: (insP x ys).map fun z => y :: z
theorem insP_len {x : Str} : ∀ l : List Str, (insP x l).length = l.length + 1
  | [] => rfl
  | y :: ys => by simp [insP, insP_len ys]
theorem insP_mem {x : Str} : ∀ l r : List Str, l ++ x :: r ∈ insP x (l ++ r)
  | [], [] => by simp [insP]
  | [], y :: ys => by simp [insP]
  | z :: l, r => by
    show z :: (l ++ x :: r) ∈ insP x (z :: (l ++ r))
    exact List.mem_cons_of_mem _ (List.mem_map.mpr ⟨_, insP_mem l r, rfl⟩)
def permsP : List Str → List (List Str)
  | [] => [[]]
  | x :: xs => (permsP xs).flatMap (insP x)
theorem permsP_mem : ∀ {ts p : List Str}, p.Perm ts → p ∈ permsP ts
  | [], p, h => by rw [List.perm_nil.mp h]; exact List.mem_singleton.mpr rfl
  | x :: xs, p, h => by
    obtain ⟨l, r, rfl⟩ := List.append_of_mem (h.mem_iff.mpr List.mem_cons_self)
    have q : (l ++ r).Perm xs := List.Perm.cons_inv ((List.perm_middle.symm).trans h)
    exact List.mem_flatMap.mpr ⟨_, permsP_mem q, insP_mem l r⟩
theorem permsP_each : ∀ {ts p : List Str}, p ∈ permsP ts → p.length = ts.length
  | [], p, h => by rw [List.mem_singleton.mp h]
  | x :: xs, p, h => by
    obtain ⟨q, hq, hp⟩ := List.mem_flatMap.mp h
    have e := permsP_each hq
    have all : ∀ (l : List Str) (z : List Str), z ∈ insP x l → z.length = l.length + 1 := by
      intro l
      induction l with
      | nil => intro z hz; rw [List.mem_singleton.mp hz]; rfl
      | cons y ys ih =>
        intro z hz
        rcases List.mem_cons.mp hz with rfl | hz
        · rfl
        · obtain ⟨w, hw, rfl⟩ := List.mem_map.mp hz
          rw [List.length_cons, ih w hw, List.length_cons]
    rw [all q p hp, e, List.length_cons]
theorem flat_len {α β : Type} {f : α → List β} {m : Nat} : ∀ {l : List α}, (∀ a ∈ l, (f a).length ≤ m) → (l.flatMap f).length ≤ l.length * m
  | [], _ => by simp
  | a :: l, h => by
    have := flat_len (l := l) fun b hb => h b (List.mem_cons_of_mem _ hb)
    have := h a List.mem_cons_self
    rw [List.flatMap_cons, List.length_append, List.length_cons, Nat.succ_mul]
    omega
theorem permsP_len {ts : List Str} (h : ts.length ≤ 5) : (permsP ts).length ≤ 120 := by
  have step : ∀ (x : Str) (xs : List Str) (n : Nat), (permsP xs).length ≤ n → (permsP (x :: xs)).length ≤ n * (xs.length + 1) := fun x xs n hn => by
    have := flat_len (f := insP x) (m := xs.length + 1) (l := permsP xs) fun a ha => by rw [insP_len, permsP_each ha]; exact Nat.le_refl _
    exact Nat.le_trans this (Nat.mul_le_mul_right _ hn)
  match ts, h with
  | [], _ => decide
  | [a], _ => exact Nat.le_trans (step a [] 1 (by decide)) (by simp only [List.length_cons, List.length_nil]; omega)
  | [a, b], _ => exact Nat.le_trans (step a [b] _ (step b [] 1 (by decide))) (by simp only [List.length_cons, List.length_nil]; omega)
  | [a, b, c], _ => exact Nat.le_trans (step a [b, c] _ (step b [c] _ (step c [] 1 (by decide)))) (by simp only [List.length_cons, List.length_nil]; omega)
  | [a, b, c, d], _ => exact Nat.le_trans (step a [b, c, d] _ (step b [c, d] _ (step c [d] _ (step d [] 1 (by decide))))) (by simp only [List.length_cons, List.length_nil]; omega)
  | [a, b, c, d, e], _ => exact Nat.le_trans (step a [b, c, d, e] _ (step b [c, d, e] _ (step c [d, e] _ (step d [e] _ (step e [] 1 (by decide)))))) (by simp only [List.length_cons, List.length_nil]; omega)
  | _ :: _ :: _ :: _ :: _ :: _ :: _, h => simp at h
/-! mornings -/
def rowsM (b : Bs) : List (List Str) := firstP b :: b.ws.map Ent.later
structure MornP (b : Bs) (m : Morn) : Prop where
  one : m.1.length = 1 ∨ m.1.length = 2
  pk : ∀ p ∈ m.1, PackP b p
  row : m.2 ∈ rowsM b
def allM (b : Bs) : List Morn := ((permsP b.things).map (fun p => [p]) ++ (permsP b.things).flatMap fun p => (permsP b.things).map fun q => [p, q]).flatMap fun ps => (rowsM b).map fun r => (ps, r)
theorem allM_mem {b : Bs} {m : Morn} (h : MornP b m) : m ∈ allM b := by
  obtain ⟨ps, r⟩ := m
  refine List.mem_flatMap.mpr ⟨ps, ?_, List.mem_map.mpr ⟨r, h.row, rfl⟩⟩
  rw [List.mem_append]
  rcases h.one with e | e
  · obtain ⟨p, rfl⟩ := List.length_eq_one_iff.mp e
    exact .inl (List.mem_map.mpr ⟨p, permsP_mem (h.pk p (List.mem_singleton.mpr rfl)), rfl⟩)
  · match ps, e with
    | [p, q], _ => exact .inr (List.mem_flatMap.mpr ⟨p, permsP_mem (h.pk p List.mem_cons_self), List.mem_map.mpr ⟨q, permsP_mem (h.pk q (List.mem_cons_of_mem _ (List.mem_singleton.mpr rfl))), rfl⟩⟩)
theorem allM_len {b : Bs} (wf : WF b) : (allM b).length ≤ 72600 := by
  have l1 := permsP_len wf.t5
  have l2 : (rowsM b).length ≤ 5 := by
    have := wf.w4
    simp [rowsM]
    omega
  have l3 : ((permsP b.things).flatMap fun p => (permsP b.things).map fun q => [p, q]).length ≤ 14400 := by
    have := flat_len (f := fun p => (permsP b.things).map fun q => [p, q]) (m := 120) (l := permsP b.things) fun a _ => by rw [List.length_map]; exact l1
    omega
  have := flat_len (f := fun ps : List (List Str) => (rowsM b).map fun r => ((ps, r) : Morn)) (m := 5) (l := (permsP b.things).map (fun p => [p]) ++ (permsP b.things).flatMap fun p => (permsP b.things).map fun q => [p, q]) fun a _ => by rw [List.length_map]; exact l2
  rw [List.length_append, List.length_map] at this
  exact Nat.le_trans this (by omega)
theorem mornings_few {b : Bs} (wf : WF b) {M : List Morn} (nd : M.Nodup) (h : ∀ m ∈ M, MornP b m) : M.length ≤ 72600 :=
  Nat.le_trans (nodup_len nd fun m hm => allM_mem (h m hm)) (allM_len wf)
theorem rowsM_names {b : Bs} (wf : WF b) {r : List Str} (h : r ∈ rowsM b) : (∀ x ∈ r, x ∈ b.names) ∧ r ≠ [] ∧ r.length ≤ 4 := by
  have w4 := wf.w4
  rcases List.mem_cons.mp h with rfl | h
  · obtain ⟨x, _, e, hx⟩ := firstP_ne wf
    rw [e]
    refine ⟨fun y hy => ?_, by simp, by simp⟩
    rw [List.mem_singleton.mp hy]
    exact hx
  · obtain ⟨e, he, rfl⟩ := List.mem_map.mp h
    have we := wf.we e he
    refine ⟨we.l, we.l0, Nat.le_trans (nodup_len we.ld we.l) ?_⟩
    unfold Bs.names
    simpa using w4
/-! tables -/
/-! numbers -/
/-- the first n ways from a morning -/
structure RowN (b : Bs) (M : List Morn) (m : Morn) (on : List (Str × Int × Int)) (n : Nat) : Prop where
  len : on.length = n
  way : ∀ (j : Nat) (x : Str), j < n → m.2[j]? = some x → ∃ e, e ∈ b.ws ∧ e.name = x ∧ ∃ k : Nat, on[j]? = some (x, gainP m.1 e.wishes, (k : Int)) ∧ M[k]? = some (afterP m e)
theorem RowN.app {b : Bs} {M ext : List Morn} {m : Morn} {on : List (Str × Int × Int)} {n : Nat} (h : RowN b M m on n) : RowN b (M ++ ext) m on n := by
  refine ⟨h.len, fun j x lt hx => ?_⟩
  obtain ⟨e, h1, h2, k, h3, h4⟩ := h.way j x lt hx
  exact ⟨e, h1, h2, k, h3, by rw [List.getElem?_append_left (List.getElem?_eq_some_iff.mp h4).1]; exact h4⟩
theorem RowN.snoc {b : Bs} {M : List Morn} {m : Morn} {on : List (Str × Int × Int)} {done rest : List Str} {e : Ent} {k : Nat} (h : RowN b M m on done.length) (hm : m.2 = done ++ e.name :: rest) (he : e ∈ b.ws) (hk : M[k]? = some (afterP m e)) : RowN b M m (on ++ [(e.name, gainP m.1 e.wishes, (k : Int))]) (done ++ [e.name]).length := by
  have hl := h.len
  refine ⟨by simp [hl], fun j x lt hx => ?_⟩
  rw [List.length_append, List.length_singleton] at lt
  by_cases c : j < done.length
  · obtain ⟨e', h1, h2, k', h3, h4⟩ := h.way j x c hx
    exact ⟨e', h1, h2, k', by rw [List.getElem?_append_left (by omega)]; exact h3, h4⟩
  · obtain rfl : j = done.length := by omega
    rw [hm, List.getElem?_append_right (Nat.le_refl _), Nat.sub_self] at hx
    have hx : e.name = x := Option.some.inj hx
    subst hx
    exact ⟨e, he, rfl, k, by rw [List.getElem?_append_right (by omega), hl, Nat.sub_self]; rfl, hk⟩
structure WInv (b : Bs) (starts : List (List (List Str))) (M : List Morn) (W : List (List (Str × Int × Int))) : Prop where
  nd : M.Nodup
  mp : ∀ m ∈ M, MornP b m
  le : W.length ≤ M.length
  st : ∀ (i : Nat) (h : i < starts.length), M[i]? = some (starts[i], firstP b)
  row : ∀ (n : Nat) (m : Morn), n < W.length → M[n]? = some m → ∃ on, W[n]? = some on ∧ RowN b M m on m.2.length
theorem WInv.ok {b : Bs} (wf : WF b) {starts : List (List (List Str))} {M : List Morn} {W : List (List (Str × Int × Int))} (h : WInv b starts M W) (e : W.length = M.length) : WaysOk b starts W M := by
  refine ⟨e, h.st, fun n m hm => ?_, fun m hm => ?_, ?_⟩
  · have lt := (List.getElem?_eq_some_iff.mp hm).1
    obtain ⟨on, h1, h2⟩ := h.row n m (by omega) hm
    exact ⟨on, h1, h2.len, fun j x hx => h2.way j x (List.getElem?_eq_some_iff.mp hx).1 hx⟩
  · have q := h.mp m hm
    obtain ⟨r1, r2, r3⟩ := rowsM_names wf q.row
    refine ⟨q.pk, ?_, r1, r2, r3⟩
    intro z
    rcases q.one with o | o <;> rw [z] at o <;> simp at o
  · have := mornings_few wf h.nd h.mp
    omega
theorem WInv.next {b : Bs} {starts : List (List (List Str))} {M ext : List Morn} {W : List (List (Str × Int × Int))} {m : Morn} {on : List (Str × Int × Int)} (h : WInv b starts M W) (hm : M[W.length]? = some m) (nd : (M ++ ext).Nodup) (mp : ∀ m ∈ M ++ ext, MornP b m) (hr : RowN b (M ++ ext) m on m.2.length) : WInv b starts (M ++ ext) (W ++ [on]) := by
  have lt := (List.getElem?_eq_some_iff.mp hm).1
  refine ⟨nd, mp, by simp only [List.length_append, List.length_singleton]; omega, fun i hi => ?_, fun n m' hn hm' => ?_⟩
  · have := h.st i hi
    rw [List.getElem?_append_left (List.getElem?_eq_some_iff.mp this).1]
    exact this
  · rw [List.length_append, List.length_singleton] at hn
    rw [List.getElem?_append_left (by omega)] at hm'
    by_cases c : n < W.length
    · obtain ⟨on', h1, h2⟩ := h.row n m' c hm'
      exact ⟨on', by rw [List.getElem?_append_left c]; exact h1, h2.app⟩
    · obtain rfl : n = W.length := by omega
      rw [hm] at hm'
      cases hm'
      exact ⟨on, by rw [List.getElem?_append_right (Nat.le_refl _), Nat.sub_self]; rfl, hr⟩
end Px
/-! sequences of things in their order; which packings fit -/
namespace Px
open PySem PySem.Spec PyProof.Rows L2 Gx Tx Pm
theorem tripLeft_cons {b : Bs} (nd : b.names.Nodup) {e : Ent} (he : e ∈ b.ws) {p : List Str} {row : List Str} : tripLeft b p (e.name :: row) = tripLeft b (behindP p e.wishes e.back) row := by
  conv => lhs; unfold tripLeft
  rw [find_ent nd he]
theorem tripLeft_snoc {b : Bs} (nd : b.names.Nodup) {e : Ent} (he : e ∈ b.ws) : ∀ {row p : List Str}, (∀ c ∈ row, c ∈ b.names) → tripLeft b p (row ++ [e.name]) = behindP (tripLeft b p row) e.wishes e.back
  | [], p, _ => by
    rw [List.nil_append, tripLeft_cons nd he]
    rfl
  | c :: row, p, h => by
    obtain ⟨f, hf, rfl⟩ := List.mem_map.mp (h c List.mem_cons_self)
    rw [List.cons_append, tripLeft_cons nd hf, tripLeft_cons nd hf, tripLeft_snoc nd he fun d hd => h d (List.mem_cons_of_mem _ hd)]
theorem left_pack' {b : Bs} (wf : WF b) : ∀ {row p : List Str}, PackP b p → PackP b (tripLeft b p row)
  | [], p, h => h
  | c :: row, p, h => by
    unfold tripLeft
    split
    · rename_i e q
      exact left_pack' wf (behind_pack wf h (List.mem_of_find?_eq_some q))
    · exact h
def LivedOk (b : Bs) (lv : List ((Str × List Str) × (Int × List Str))) : Prop := ∀ w l z, getK lv (w, l) = some z → ∀ e ∈ b.ws, e.name = w → z = ((digsP l e.wishes : Int), behindP l e.wishes e.back)
theorem LivedOk.nil {b : Bs} : LivedOk b [] := fun w l z hz => by rw [getK_nil] at hz; cases hz
theorem LivedOk.put {b : Bs} (nd : b.names.Nodup) {lv : List ((Str × List Str) × (Int × List Str))} (h : LivedOk b lv) {e : Ent} (he : e ∈ b.ws) {l : List Str} : LivedOk b (lv ++ [((e.name, l), ((digsP l e.wishes : Int), behindP l e.wishes e.back))]) := by
  intro w l' z hz f hf ef
  rw [getK_app] at hz
  rcases q : getK lv (w, l') with _ | y
  · rw [q, Option.none_or] at hz
    split at hz
    · rename_i k
      cases hz
      injection k with k1 k2
      subst k2
      rw [ent_unique nd he hf (k1.trans ef.symm)]
    · cases hz
  · rw [q] at hz
    cases hz
    exact h w l' _ q f hf ef
end Px
/-! comprehensions with conditions; clues a few of them; places told -/
namespace Px
open PySem PySem.Spec PyProof.Rows L2 Gx Tx Pm
theorem wComp_flt {E α β : Type} {c : E × α → (Bool → Prop) → Prop} {f : E × α → (β → Prop) → Prop} {e : E} {k : List β → Prop} (p : α → Bool) (g : α → β) : ∀ {xs : List α} {acc : List β}, (∀ x ∈ xs, ∀ k : Bool → Prop, k (p x) → c (e, x) k) → (∀ x ∈ xs, ∀ k : β → Prop, k (g x) → f (e, x) k) → k (acc ++ (xs.filter p).map g) → wComp c f xs acc e k
  | [], acc, _, _, h => by
    show k acc
    rwa [List.filter_nil, List.map_nil, List.append_nil] at h
  | x :: xs, acc, hc, hf, h => by
    refine hc x List.mem_cons_self _ ?_
    by_cases q : p x = true
    · rw [if_pos q]
      refine hf x List.mem_cons_self _ ?_
      refine wComp_flt p g (fun y hy => hc y (List.mem_cons_of_mem _ hy)) (fun y hy => hf y (List.mem_cons_of_mem _ hy)) ?_
      rw [List.filter_cons_of_pos q, List.map_cons] at h
      rwa [List.append_assoc]
    · rw [if_neg q]
      refine wComp_flt p g (fun y hy => hc y (List.mem_cons_of_mem _ hy)) (fun y hy => hf y (List.mem_cons_of_mem _ hy)) ?_
      rwa [List.filter_cons_of_neg q] at h
end Px
/-! the table of what was dug, by what lies and what weather can be next -/
namespace Px
open PySem PySem.Spec PyProof.Rows L2 Gx Tx Pm
section
variable {κ β : Type} [DecidableEq κ]
theorem getK_mapset {k k' : κ} {v : β} : ∀ {xs : List (κ × β)}, getK (xs.map fun p => if p.1 = k then (p.1, v) else p) k' = if k' = k then (if (getK xs k).isSome then some v else none) else getK xs k'
  | [] => by
    rw [List.map_nil, getK_nil, getK_nil]
    split <;> rfl
  | p :: xs => by
    rw [List.map_cons, getK_cons, getK_cons, getK_cons, getK_mapset]
    by_cases a : p.1 = k
    · rw [if_pos a]
      dsimp only
      by_cases c : k' = k
      · subst c
        rw [if_pos a, if_pos rfl, if_pos a]
        rfl
      · rw [if_neg (fun z => c (z.symm.trans a)), if_neg c, if_neg c, if_neg (fun z => c (z.symm.trans a))]
    · rw [if_neg a, if_neg a]
      by_cases c : k' = k
      · subst c
        rw [if_neg a, if_pos rfl, if_pos rfl]
      · rw [if_neg c, if_neg c]
theorem getK_set {xs : List (κ × β)} {k k' : κ} {v : β} : getK (setK xs k v) k' = if k' = k then some v else getK xs k' := by
  unfold setK
  by_cases c : (getK xs k).isSome = true
  · rw [if_pos c, getK_mapset, if_pos c]
  · rw [if_neg c, getK_app]
    have n : getK xs k = none := by
      rcases q : getK xs k with _ | z
      · rfl
      · rw [q] at c
        exact absurd rfl c
    by_cases d : k' = k
    · subst d
      rw [if_pos rfl, if_pos rfl, n]
      rfl
    · rw [if_neg d, if_neg (fun z => d z.symm), Option.or_none]
theorem getK_key {xs : List (κ × β)} {k : κ} : (getK xs k).isSome = true ↔ k ∈ xs.map Prod.fst := by
  induction xs with
  | nil => simp [getK_nil]
  | cons p xs ih =>
    rw [getK_cons, List.map_cons, List.mem_cons]
    by_cases c : p.1 = k
    · rw [if_pos c]
      simp [c]
    · rw [if_neg c, ih]
      constructor
      · exact .inr
      · rintro (z | z)
        · exact absurd z.symm c
        · exact z
theorem keys_set {xs : List (κ × β)} {k : κ} {v : β} (nd : (xs.map Prod.fst).Nodup) : ((setK xs k v).map Prod.fst).Nodup := by
  unfold setK
  by_cases c : (getK xs k).isSome = true
  · rw [if_pos c, List.map_map]
    have e : (Prod.fst ∘ fun p : κ × β => if p.1 = k then (p.1, v) else p) = Prod.fst := by
      funext p
      show (if p.1 = k then (p.1, v) else p).1 = p.1
      split <;> rfl
    rw [e]
    exact nd
  · rw [if_neg c, List.map_append, List.nodup_append]
    refine ⟨nd, by simp, fun a ha b hb z => c ?_⟩
    rw [List.map_cons, List.map_nil, List.mem_singleton] at hb
    have hb : b = k := hb
    rw [getK_key, ← hb, ← z]
    exact ha
end
/-- the rows of so many days ahead of a weather -/
def RowTo (b : Bs) (p : List Str) (n : Nat) (q : List Str) (x : Str) (row : List Str) : Prop := row.length = n ∧ TripP b (firstP b) (row ++ [x]) ∧ tripLeft b p row = q
structure TabOk (b : Bs) (p : List Str) (n : Nat) (T : List ((List Str × Str) × Int)) : Prop where
  snd : ∀ q x v, getK T (q, x) = some v → ∃ row, RowTo b p n q x row ∧ tripDigs b p row = v
  top : ∀ q x row, RowTo b p n q x row → ∃ v, getK T (q, x) = some v ∧ tripDigs b p row ≤ v
  nd : (T.map Prod.fst).Nodup
theorem TabOk.zero {b : Bs} {p : List Str} {f : Str} (hf : firstP b = [f]) (fn : f ∈ b.names) : TabOk b p 0 [((p, f), 0)] := by
  refine ⟨fun q x v h => ?_, fun q x row h => ?_, by simp⟩
  · rw [getK_cons, getK_nil] at h
    split at h
    · rename_i c
      cases h
      cases c
      obtain ⟨e, he, rfl⟩ := List.mem_map.mp fn
      exact ⟨[], ⟨rfl, ⟨by rw [hf]; exact List.mem_singleton.mpr rfl, e, he, rfl, trivial⟩, rfl⟩, rfl⟩
    · cases h
  · obtain ⟨h1, h2, h3⟩ := h
    have e : row = [] := List.length_eq_zero_iff.mp h1
    subst e
    have h3 : p = q := h3
    subst h3
    obtain ⟨hx, _⟩ := h2
    rw [hf, List.mem_singleton] at hx
    subst hx
    exact ⟨0, by rw [getK_cons, if_pos rfl], Int.le_refl _⟩
theorem RowTo.keys {b : Bs} (wf : WF b) {p q row : List Str} {x : Str} {n : Nat} (pp : PackP b p) (h : RowTo b p n q x row) : PackP b q ∧ x ∈ b.names := ⟨by rw [← h.2.2]; exact left_pack' wf pp, h.2.1.names x (by simp)⟩
/-- a row goes on by a day -/
theorem RowTo.next {b : Bs} (wf : WF b) {p q row : List Str} {n : Nat} {e : Ent} (he : e ∈ b.ws) {x : Str} (hx : x ∈ e.later) (h : RowTo b p n q e.name row) : RowTo b p (n + 1) (behindP q e.wishes e.back) x (row ++ [e.name]) ∧ tripDigs b p (row ++ [e.name]) = tripDigs b p row + (digsP q e.wishes : Int) := by
  obtain ⟨h1, h2, h3⟩ := h
  have nm : ∀ c ∈ row, c ∈ b.names := fun c hc => h2.names c (by simp [hc])
  obtain ⟨f, hf, rfl⟩ := List.mem_map.mp ((wf.we e he).l x hx)
  refine ⟨⟨by rw [List.length_append, h1]; rfl, TripP.snoc wf h2 hf rfl (fun z => by simp at z) (fun g hg z => ?_), ?_⟩, ?_⟩
  · rw [List.getLast?_append] at z
    simp at z
    have : e = g := ent_unique wf.wd he hg z
    rw [← this]
    exact hx
  · rw [tripLeft_snoc wf.wd he nm, h3]
  · obtain ⟨d1, _⟩ := digs_app wf.wd (p := p) h2
    rw [d1, h3]
    congr 1
    unfold tripDigs
    rw [find_ent wf.wd he]
    show (digsP q e.wishes : Int) + tripDigs b _ [] = _
    show (digsP q e.wishes : Int) + 0 = _
    omega
/-- .. and each longer one is such a one -/
theorem RowTo.split {b : Bs} (wf : WF b) {p q row : List Str} {n : Nat} {x : Str} (h : RowTo b p (n + 1) q x row) : ∃ q0 e r0, e ∈ b.ws ∧ RowTo b p n q0 e.name r0 ∧ x ∈ e.later ∧ q = behindP q0 e.wishes e.back ∧ row = r0 ++ [e.name] := by
  obtain ⟨h1, h2, h3⟩ := h
  have ne : row ≠ [] := fun z => by rw [z] at h1; cases h1
  have er := List.dropLast_concat_getLast ne
  have wn : row.getLast ne ∈ b.names := h2.names _ (List.mem_append_left _ (List.getLast_mem ne))
  obtain ⟨e, he, hn⟩ := List.mem_map.mp wn
  have er2 : row = row.dropLast ++ [e.name] := by rw [hn]; exact er.symm
  generalize row.dropLast = r0 at er2
  subst er2
  have h2' := h2.take (r0.length + 1)
  rw [List.append_assoc, List.take_append] at h2'
  have nm : ∀ c ∈ r0, c ∈ b.names := fun c hc => h2.names c (by simp [hc])
  have tk : TripP b (firstP b) (r0 ++ [e.name]) := by
    have := h2.take (r0.length + 1)
    rwa [List.take_append_of_le_length (by simp), List.take_of_length_le (by simp)] at this
  have last : ∀ {r : List Str} {can : List Str}, TripP b can (r ++ [e.name] ++ [x]) → x ∈ e.later := by
    intro r
    induction r with
    | nil =>
      intro can ⟨_, f, hf, hfn, hx, _⟩
      rw [← ent_unique wf.wd hf he hfn]
      exact hx
    | cons y r ih =>
      intro can ⟨_, f, hf, hfn, ht⟩
      exact ih ht
  rw [tripLeft_snoc wf.wd he nm] at h3
  exact ⟨tripLeft b p r0, e, r0, he, ⟨by simpa using h1, tk, rfl⟩, last h2, h3.symm, rfl⟩
/-- the table of the next day, in the making: of these keys all is in it -/
structure NextOk (b : Bs) (p : List Str) (n : Nat) (T : List ((List Str × Str) × Int)) (D : List Str → Ent → Str → Prop) (N : List ((List Str × Str) × Int)) : Prop where
  snd : ∀ q x v, getK N (q, x) = some v → ∃ row, RowTo b p (n + 1) q x row ∧ tripDigs b p row = v
  top : ∀ q e x z, D q e x → getK T (q, e.name) = some z → ∃ v, getK N (behindP q e.wishes e.back, x) = some v ∧ z + (digsP q e.wishes : Int) ≤ v
  nd : (N.map Prod.fst).Nodup
theorem NextOk.put {b : Bs} (wf : WF b) {p : List Str} {n : Nat} {T N : List ((List Str × Str) × Int)} {D D' : List Str → Ent → Str → Prop} (ok : TabOk b p n T) (h : NextOk b p n T D N) {q : List Str} {e : Ent} (he : e ∈ b.ws) {x : Str} (hx : x ∈ e.later) {z : Int} (hz : getK T (q, e.name) = some z)
    (big : ∀ v, getK N (behindP q e.wishes e.back, x) = some v → v ≤ z + (digsP q e.wishes : Int)) (hD : ∀ q' e' x', D' q' e' x' → D q' e' x' ∨ (q' = q ∧ e' = e ∧ x' = x)) : NextOk b p n T D' (setK N (behindP q e.wishes e.back, x) (z + (digsP q e.wishes : Int))) := by
  refine ⟨fun q' x' v hv => ?_, fun q' e' x' z' d hz' => ?_, keys_set h.nd⟩
  · rw [getK_set] at hv
    split at hv
    · rename_i c
      cases hv
      cases c
      obtain ⟨row, r1, r2⟩ := ok.snd _ _ _ hz
      obtain ⟨a1, a2⟩ := r1.next wf he hx
      exact ⟨_, a1, by rw [a2, r2]⟩
    · exact h.snd _ _ _ hv
  · rw [getK_set]
    rcases hD _ _ _ d with d | ⟨rfl, rfl, rfl⟩
    · obtain ⟨v, hv, le⟩ := h.top _ _ _ _ d hz'
      by_cases c : (behindP q' e'.wishes e'.back, x') = (behindP q e.wishes e.back, x)
      · rw [if_pos c]
        rw [c] at hv
        exact ⟨_, rfl, Int.le_trans le (big v hv)⟩
      · rw [if_neg c]
        exact ⟨v, hv, le⟩
    · rw [if_pos rfl]
      rw [hz] at hz'
      cases hz'
      exact ⟨_, rfl, Int.le_refl _⟩
theorem NextOk.keep {b : Bs} {p : List Str} {n : Nat} {T N : List ((List Str × Str) × Int)} {D D' : List Str → Ent → Str → Prop} (h : NextOk b p n T D N) {q : List Str} {e : Ent} {x : Str} {z v : Int} (hz : getK T (q, e.name) = some z) (hv : getK N (behindP q e.wishes e.back, x) = some v) (le : z + (digsP q e.wishes : Int) ≤ v)
    (hD : ∀ q' e' x', D' q' e' x' → D q' e' x' ∨ (q' = q ∧ e' = e ∧ x' = x)) : NextOk b p n T D' N := by
  refine ⟨h.snd, fun q' e' x' z' d hz' => ?_, h.nd⟩
  rcases hD _ _ _ d with d | ⟨rfl, rfl, rfl⟩
  · exact h.top _ _ _ _ d hz'
  · rw [hz] at hz'
    cases hz'
    exact ⟨v, hv, le⟩
theorem NextOk.done {b : Bs} (wf : WF b) {p : List Str} {n : Nat} {T N : List ((List Str × Str) × Int)} {D : List Str → Ent → Str → Prop} (ok : TabOk b p n T) (h : NextOk b p n T D N) (all : ∀ q e x z, e ∈ b.ws → getK T (q, e.name) = some z → x ∈ e.later → D q e x) : TabOk b p (n + 1) N := by
  refine ⟨h.snd, fun q x row r => ?_, h.nd⟩
  obtain ⟨q0, e, r0, he, r1, hx, rfl, rfl⟩ := r.split wf
  obtain ⟨z, hz, le⟩ := ok.top _ _ _ r1
  obtain ⟨v, hv, le2⟩ := h.top _ _ _ _ (all _ _ _ _ he hz hx) hz
  obtain ⟨_, a2⟩ := r1.next wf he hx
  exact ⟨v, hv, by rw [a2]; omega⟩
end Px
namespace Tx
open PySem PySem.Spec PyProof.Rows L2 Gx
section
variable {E α β κ ι : Type} [DecidableEq κ] {X : ι → Cx} {K : PySem.W.Frag} {L L' L1 : List (Sl E)} {SK : Rp κ} {kf : κ → NestedKey} {P : Program} {w : World} {i : Nat} {pos p : Pos} {R : Ro (β × Addr)} {g : E → β × Addr}
theorem St.nsr {K : PySem.W.Frag} {c : Bc} {L : List (Sl E)} {σ : L2.St} {H : Hp} {e : E} {own : Own} (s : St K c L σ H e own) {i : Nat} {R : Ro β} {g : E → β} (hL : L[i]? = some (.ox R g)) {d : Addr} (h : own i = some d) : ¬ Sr L own d := fun ⟨j, z1, z2⟩ => by
  have := s.inj j i d z2 h
  subst this
  rw [hL] at z1
  cases z1
end
end Tx
/-! permutations also of nothing -/
namespace Tx
open PySem PySem.Spec PyProof.Rows L2 Gx Pm
end Tx
/-! what can be kept to, as the game goes; what a memo of it holds -/
namespace Px
open PySem PySem.Spec PyProof.Rows L2 Gx Tx Pm
end Px
namespace Tx
open PySem PySem.Spec PyProof.Rows L2 Gx
end Tx
namespace Tx
open PySem PySem.Spec PyProof.Rows L2 Gx
end Tx
/-! k35: a method that always raises; what always raises, given to any target; a memo made beside two; a test by a memo; an item of a new list of new lists -/
namespace Tx
open PySem PySem.Spec PyProof.Rows L2 Gx
section
variable {E α β ρ : Type} {ι : Type} {X : ι → Cx} {K : PySem.W.Frag} {R : RetR ρ} {L L' : List (Sl E)} {S : Rp α} {T : Rp β} {a b : Expr} {p1 pos : Pos} {i : Nat}
theorem TW.all {K : PySem.W.Frag} {W : WS} {H : Hp} {a : Addr} {xs : List V} (h : TW K W H a xs) : TW K (fun a => OwO (H a)) H a xs := by
  rcases h with ⟨n, h⟩ | h
  · refine .inl ⟨fun z => ?_, h⟩
    rcases h with h | ⟨o, h⟩
    · dsimp only at z
      rw [h] at z
      rcases z with ⟨us, z⟩ | ⟨x, z, y⟩
      · cases z
      · cases z
        rcases y with ⟨φ, y⟩ | ⟨ob, φ, y⟩ <;> cases y
    · dsimp only at z
      rw [h] at z
      rcases z with ⟨us, z⟩ | ⟨x, z, y⟩
      · cases z
      · cases z
        rcases y with ⟨φ, y⟩ | ⟨ob, φ, y⟩ <;> cases y
  · exact .inr h
end
/-! a dict of texts, written and then added to, as one that stays -/
theorem upd_del {H : Hp} {p : Addr} {o : HO} : upd (del H p) p o = upd H p o := by
  funext b
  unfold upd del
  by_cases h : b = p
  · rw [if_pos h, if_pos h]
  · rw [if_neg h, if_neg h, if_neg h]
structure RowsAt {E α : Type} (K : PySem.W.Frag) (c : Bc) (L : List (Sl E)) (own : Own) (S : Rp α) (p : Addr) (kvs : List (Key × V)) (xs : List (Str × α)) (H H' : Hp) : Prop where
  at_ : H' p = some (.dK kvs)
  ks : kvs.map (·.1) = xs.map fun x => Sum.inr x.1
  pr : Paired (DSp K (fun a => Wb c own a ∨ a = p) H' S) kvs xs
  ex : Ex L own H (del H' p)
section
variable {E α : Type} {K : PySem.W.Frag} {c : Bc} {L : List (Sl E)} {own : Own} {S : Rp α} {p : Addr} {kvs : List (Key × V)} {xs : List (Str × α)} {H H1 H2 : Hp} {σ : L2.St} {e : E}
theorem RowsAt.st (r : RowsAt K c L own S p kvs xs H H1) (s : St K c L σ H e own) : St K c L σ H1 e own := by
  have sG := s.ex r.ex
  have z := sG.ex (sG.exSame (Same.new (o := .dK kvs) (del_same (H := H1) (a := p))))
  rw [upd_del, upd_id r.at_] at z
  exact z
theorem RowsAt.put (r : RowsAt K c L own S p kvs xs H H1) (s : St K c L σ H e own) (hp : H p = none) (ap : Apart S) (x2 : Ex L own H1 H2) {z : Str} {v : V} {y : α} (rv : S.r K (Wb c own) H2 v y) (new : z ∉ xs.map (·.1)) : H2 p = some (.dK kvs) ∧ RowsAt K c L own S p (kvs ++ [(.inr z, v)]) (xs ++ [(z, y)]) H (upd H2 p (.dK (kvs ++ [(.inr z, v)]))) := by
  have nw : ¬ Wb c own p := s.fresh hp
  have nsp : ¬ Sr L own p := fun q => nw q.wb
  have e2 := x2.st _ _ nsp r.at_
  have ge : Ge (fun a => Wb c own a ∨ a = p) H2 (fun a => Wb c own a ∨ a = p) (upd H2 p (.dK (kvs ++ [(.inr z, v)]))) := fun a o n ha => ⟨n, by rw [upd_ne fun q => n (.inr q)]; exact ha⟩
  have ge2 : Ge (fun a => Wb c own a ∨ a = p) H1 (fun a => Wb c own a ∨ a = p) H2 := fun a o n ha => ⟨n, x2.st a o (fun q => n (.inl q.wb)) ha⟩
  refine ⟨e2, upd_same, by rw [List.map_append, List.map_append, r.ks]; rfl, Paired.snoc (Paired.imp2 (fun _ _ q => ⟨q.1, S.mono (ge2.trans ge) q.2⟩) r.pr) ⟨rfl, S.mono ge (ap.ap e2 rv)⟩, ⟨fun a o n ha => ?_, fun a ha => ?_⟩⟩
  · have ne : a ≠ p := ne_of_none ha hp
    rw [del_ne ne, upd_ne ne]
    have := r.ex.st a o n ha
    rw [del_ne ne] at this
    exact x2.st a o n this
  · have ne : a ≠ p := fun q => nsp (by rw [← q]; exact ha)
    obtain ⟨u1, u2, e, g⟩ := x2.sr a ha
    exact ⟨u1, u2, by rw [del_ne ne, upd_ne ne]; exact e, g⟩
theorem RowsAt.dic (r : RowsAt K c L own S p kvs xs H H1) (s : St K c L σ H e own) (hp : H p = none) : (dicR S).r K (Wb c own) H1 (.ref p) xs :=
  ⟨p, kvs, rfl, s.fresh hp, r.at_, Paired.imp2 (fun _ _ q => ⟨q.1, S.mono (Ge.less fun a z => .inl z) q.2⟩) r.pr⟩
theorem RowsAt.new (r : RowsAt K c L own S p kvs xs H H1) {z : Str} (new : z ∉ xs.map (·.1)) : valV kvs (Sum.inr z) = none := by
  rcases DSp.get r.pr z with ⟨e, _⟩ | ⟨v, y, _, e, _⟩
  · exact e
  · exfalso
    refine new ?_
    have := r.ks
    clear r this
    induction xs with
    | nil => cases e
    | cons x xs ih =>
      by_cases q : x.1 = z
      · rw [List.map_cons, q]; exact List.mem_cons_self
      · rw [getK_cons, if_neg q] at e
        exact List.mem_cons_of_mem _ (ih (fun h => new (List.mem_cons_of_mem _ h)) e)
end
end Tx
/-! nested keys: d.get(k, x), dict(d) of one key, d != {}, len(d) -/
namespace Gx
open PySem PySem.Spec PyProof.Rows L2
end Gx
namespace Gx
open PySem PySem.Spec PyProof.Rows L2
end Gx
/-! own dicts with nested keys: d.get(k, x), len(d), d != {}, best, n = dict(d), e and later, d = f(..), {} -/
namespace Tx
open PySem PySem.Spec PyProof.Rows L2 Gx
end Tx
/-! properties with any body: the head looks at their functions, too -/
namespace Gx
open PySem PySem.Spec PyProof.Rows L2
/-- a property's function: whose, called how -/
structure PropD where
  cls : Str
  prop : Str
  qual : Str
  params : Arguments
  body : List Stmt
  scope : Scope
def PropD.ad (K : PySem.W.Frag) (d : PropD) : Addr := pgg K (He.ga K d.cls) d.prop
def PropD.val (d : PropD) : He.FnW := some (d.prop, d.qual, d.params, FuncBody.stmts d.body, d.scope, mainGlobals, [], builtinsNs)
def PropD.ok (K : PySem.W.Frag) (d : PropD) : Bool := propB K (He.ga K d.cls) d.prop && (PySem.W.keepIn K (.ref (d.ad K)) && (match K.lookup (d.ad K) with
  | some ⟨_, _, .func ⟨_, _, _, _, _, _, _, .none, _, _, _, _, cd, _, _⟩, _⟩ => PySem.W.codeIn K cd d.qual
  | _ => false))
end Gx
/-! tuples of four; suitcases: an instance that stays, its list of states one's own -/
namespace Tx
open PySem PySem.Spec PyProof.Rows L2 Gx
section
variable {α β γ δ : Type}
def quaR (S : Rp α) (T : Rp β) (U : Rp γ) (R : Rp δ) : Rp (α × β × γ × δ) := ⟨fun K W H v x => ∃ a v1 v2 v3 v4, v = .ref a ∧ TW K W H a [v1, v2, v3, v4] ∧ S.r K W H v1 x.1 ∧ T.r K W H v2 x.2.1 ∧ U.r K W H v3 x.2.2.1 ∧ R.r K W H v4 x.2.2.2,
  fun g ⟨a, v1, v2, v3, v4, e, h, p, q, s, t⟩ => ⟨a, v1, v2, v3, v4, e, h.mono g, S.mono g p, T.mono g q, U.mono g s, R.mono g t⟩⟩
variable {S : Rp α} {T : Rp β} {U : Rp γ} {R : Rp δ}
end
/-- how things lie, the weathers that can be, the days, the digs -/
abbrev Stt := List Str × List Str × Int × Int
def sttR : Rp Stt := quaR (tupR strR) (tupR strR) intR intR
/-- the instance at a, its states at l -/
def CaseAt (K : PySem.W.Frag) (W : WS) (H : Hp) (a l : Addr) (b : Bs) : Prop := ∃ dx m, ¬ W a ∧ H a = some (.ins (He.ga K "Suitcase") dx [(("_menu" : Str), m), ("_states", .ref l)]) ∧ menuR.r K W H m b
theorem CaseAt.mono {K : PySem.W.Frag} {W W' : WS} {H H' : Hp} {a l : Addr} {b : Bs} (g : Ge W H W' H') (h : CaseAt K W H a l b) : CaseAt K W' H' a l b := by
  obtain ⟨dx, m, n, e, r⟩ := h
  exact ⟨dx, m, (g _ _ n e).1, (g _ _ n e).2, menuR.mono g r⟩
/-- a suitcase that stays as it is -/
def caseR : Rp (Bs × List Stt) := ⟨fun K W H v x => ∃ a l us, v = .ref a ∧ CaseAt K W H a l x.1 ∧ ¬ W l ∧ H l = some (.lst us) ∧ Paired (sttR.r K W H) us x.2,
  fun g ⟨a, l, us, e, c, n, h, p⟩ => ⟨a, l, us, e, c.mono g, (g _ _ n h).1, (g _ _ n h).2, sttR.pmono g p⟩⟩
/-- one's own suitcase: where it stands, where its states stand; its menu; its states -/
abbrev CsV := (Addr × Addr) × Bs × List Stt
def csR : Ro CsV := ⟨fun K W H l o x => x.1.2 = l ∧ CaseAt K W H x.1.1 l x.2.1 ∧ ∃ us, o = .lst us ∧ Paired (sttR.r K W H) us x.2.2,
  fun g ⟨e, c, us, eo, p⟩ => ⟨e, c.mono g, us, eo, sttR.pmono g p⟩, fun ⟨_, _, us, e, _⟩ => .inl ⟨us, by rw [e]⟩, fun x _ => .ref x.1.1⟩
theorem caseR.ins {K : PySem.W.Frag} {W : WS} {H : Hp} {v : V} {x : Bs × List Stt} (h : caseR.r K W H v x) : ∃ a l us dx m, v = .ref a ∧ H a = some (.ins (He.ga K "Suitcase") dx [(("_menu" : Str), m), ("_states", .ref l)]) ∧ menuR.r K W H m x.1 ∧ ¬ W l ∧ H l = some (.lst us) ∧ Paired (sttR.r K W H) us x.2 := by
  obtain ⟨a, l, us, e, ⟨dx, m, _, ha, hm⟩, n, hl, p⟩ := h
  exact ⟨a, l, us, dx, m, e, ha, hm, n, hl, p⟩
end Tx
/-! sets of texts, compared -/
namespace Gx
open PySem PySem.Spec PyProof.Rows L2
end Gx
namespace Tx
open PySem PySem.Spec PyProof.Rows L2 Gx
end Tx
/-! expressions that change one own object, and its value -/
namespace Tx
open PySem PySem.Spec PyProof.Rows L2 Gx
section
variable {E β : Type} {K : PySem.W.Frag} {c : Bc} {L : List (Sl E)} {σ : L2.St} {H H' H'' : Hp} {e : E} {own : Own} {i : Nat}
theorem St.keep (s : St K c L σ H e own) : (fun j => keepO L[j]? (own j)) = own := by
  funext j
  rcases h : L[j]? with _ | sl
  · rw [s.out j h]
    rfl
  · have q := s.slot j sl h
    cases sl with
    | any => rw [show own j = none from q]; rfl
    | im S g => rw [q.1]; rfl
    | ow S g => rfl
    | ox R g => rfl
    | sr => rfl
theorem Mst.refl (s : St K c L σ H e own) : Mst L own i H H := s.exRefl.m
end
/-- e gives a value, and may change what slot i owns -/
structure TG {E α : Type} {ι : Type} (X : ι → Cx) (K : PySem.W.Frag) (L : List (Sl E)) (i : Nat) (S : Rp α) (e : Expr) (w : E → (α → E → Prop) → Prop) : Prop where
  mono : ∀ e (k k' : α → E → Prop), (∀ x e', k x e' → k' x e') → w e k → w e k'
  ex : ∃ t, (∀ j, PE (X j) e t) ∧ ∀ (c : Bc) (σ : L2.St) (H : Hp) (env : E) (own : Own) (Q : VK), St K c L σ H env own → w env (fun x env' => ∀ v H', St K c L σ H' env' own → Mst L own i H H' → S.r K (Wb c own) H' v x → Q v H') → t σ H Q
/-- .. as a test -/
structure TGT {E : Type} {ι : Type} (X : ι → Cx) (K : PySem.W.Frag) (L : List (Sl E)) (i : Nat) (e : Expr) (w : E → (Bool → E → Prop) → Prop) : Prop where
  mono : ∀ e (k k' : Bool → E → Prop), (∀ x e', k x e' → k' x e') → w e k → w e k'
  ex : ∃ t, (∀ j, PT (X j) e t) ∧ ∀ (c : Bc) (σ : L2.St) (H : Hp) (env : E) (own : Own) (Q : Bool → Hp → Prop), St K c L σ H env own → w env (fun x env' => ∀ H', St K c L σ H' env' own → Mst L own i H H' → Q x H') → t σ H Q
structure TGW {E : Type} {ι : Type} (X : ι → Cx) (K : PySem.W.Frag) (L : List (Sl E)) (i : Nat) (e : Expr) (w : E → (Bool → E → Prop) → Prop) : Prop where
  mono : ∀ e (k k' : Bool → E → Prop), (∀ x e', k x e' → k' x e') → w e k → w e k'
  ex : ∃ t, (∀ j, PW (X j) e t) ∧ ∀ (c : Bc) (σ : L2.St) (H : Hp) (env : E) (own : Own) (Q : Bool → Hp → Prop), St K c L σ H env own → w env (fun x env' => ∀ H', St K c L σ H' env' own → Mst L own i H H' → Q x H') → t σ H Q
section
variable {E α β γ : Type} {ι : Type} {X : ι → Cx} {K : PySem.W.Frag} {L L' : List (Sl E)} {i : Nat} {S : Rp α} {T : Rp β} {U : Rp γ} {e a b : Expr} {rest : List Expr} {pos : Pos} {ρ : Type} {RR : RetR ρ}
theorem TX.g {w : E → (α → Prop) → Prop} (h : TX X K L S e w) : TG X K L i S e (fun env k => w env fun x => k x env) := by
  obtain ⟨t, pe, f⟩ := h.ex
  exact ⟨fun e k k' hk hw => h.mono _ _ _ (fun _ z => hk _ _ z) hw, t, pe, fun c σ H env own Q s hw => f c σ H env own Q s (h.mono _ _ _ (fun x hx v H' x' r => hx v H' (s.ex x') x'.m r) hw)⟩
theorem TGW.t {w : E → (Bool → E → Prop) → Prop} (h : TGW X K L i e w) : TGT X K L i e w := by
  obtain ⟨t, p, f⟩ := h.ex
  exact ⟨h.mono, t, fun j => (p j).pt, f⟩
theorem TT.g {w : E → (Bool → Prop) → Prop} (h : TTW X K L e w) : TGW X K L i e (fun env k => w env fun x => k x env) := by
  obtain ⟨t, pe, f⟩ := h.ex
  exact ⟨fun e k k' hk hw => h.mono _ _ _ (fun _ z => hk _ _ z) hw, t, pe, fun c σ H env own Q s hw => f c σ H env own Q s (h.mono _ _ _ (fun x hx H' x' => hx H' (s.ex x') x'.m) hw)⟩
end
end Tx
/-! suitcases handed on: methods and defs that change them -/
namespace Tx
open PySem PySem.Spec PyProof.Rows L2 Gx
end Tx
/-! new suitcases -/
namespace Tx
open PySem PySem.Spec PyProof.Rows L2 Gx
/-- a state, whatever is owned -/
def SttH (K : PySem.W.Frag) (H : Hp) (v : V) (x : Stt) : Prop := ∃ t y p, v = .ref t ∧ SqT K H t [.ref y, .ref p, .int x.2.2.1, .int x.2.2.2] ∧ SqT K H y (x.1.map V.str) ∧ SqT K H p (x.2.1.map V.str)
theorem SttH.of {K : PySem.W.Frag} {W : WS} {H : Hp} {v : V} {x : Stt} (h : sttR.r K W H v x) : SttH K H v x := by
  obtain ⟨t, v1, v2, v3, v4, rfl, ht, ⟨y, ys, rfl, hy, py⟩, ⟨p, ps, rfl, hp, pp⟩, e3, e4⟩ := h
  have e3 : v3 = .int _ := e3
  have e4 : v4 = .int _ := e4
  subst e3 e4
  exact ⟨t, y, p, rfl, ht.sq, by rw [← p_str py]; exact hy.sq, by rw [← p_str pp]; exact hp.sq⟩
theorem SttH.to {K : PySem.W.Frag} {W : WS} {H : Hp} {v : V} {x : Stt} (dom : ∀ a, W a → OwO (H a)) (h : SttH K H v x) : sttR.r K W H v x := by
  obtain ⟨t, y, p, rfl, ht, hy, hp⟩ := h
  exact ⟨t, _, _, _, _, rfl, SqT.tw dom ht, ⟨y, _, rfl, SqT.tw dom hy, strsP⟩, ⟨p, _, rfl, SqT.tw dom hp, strsP⟩, rfl, rfl⟩
theorem SttH.same {K : PySem.W.Frag} {H H' : Hp} {v : V} {x : Stt} (k : Same H H') (h : SttH K H v x) : SttH K H' v x := by
  obtain ⟨t, y, p, e, ht, hy, hp⟩ := h
  exact ⟨t, y, p, e, SqT.same ht k, SqT.same hy k, SqT.same hp k⟩
theorem SttH.kp {K : PySem.W.Frag} {H H' : Hp} {m : Addr} {v : V} {x : Stt} (k : Kp m H H') (ns : NoSq H m) (h : SttH K H v x) : SttH K H' v x := by
  obtain ⟨t, y, p, e, ht, hy, hp⟩ := h
  exact ⟨t, y, p, e, SqT.kp ht k ns, SqT.kp hy k ns, SqT.kp hp k ns⟩
/-- the suitcase at a, its states at l -/
def CsAt (K : PySem.W.Frag) (H : Hp) (a l : Addr) (x : Bs × List Stt) : Prop := ∃ dx m us, H a = some (.ins (He.ga K "Suitcase") dx [(("_menu" : Str), .ref m), ("_states", .ref l)]) ∧ IsM K H m x.1 ∧ H l = some (.lst us) ∧ Paired (SttH K H) us x.2
theorem CsAt.own {K : PySem.W.Frag} {W : WS} {H : Hp} {a l : Addr} {x : Bs × List Stt} (dom : ∀ a, W a → OwO (H a)) (h : CsAt K H a l x) : ∃ o, H l = some o ∧ csR.r K W H l o ((a, l), x) := by
  obtain ⟨dx, m, us, ha, hm, hl, p⟩ := h
  have na : ¬ W a := fun z => by
    have := dom a z
    rw [ha] at this
    simp [OwO, XoO] at this
  exact ⟨_, hl, rfl, ⟨dx, _, na, ha, menuR.of dom hm⟩, us, rfl, Paired.imp2 (fun _ _ z => SttH.to dom z) p⟩
theorem CsAt.of {K : PySem.W.Frag} {W : WS} {H : Hp} {v : V} {x : Bs × List Stt} (h : caseR.r K W H v x) : ∃ a l, v = .ref a ∧ ¬ W l ∧ CsAt K H a l x := by
  obtain ⟨a, l, us, dx, m, rfl, ha, hm, n, hl, p⟩ := caseR.ins h
  obtain ⟨m', rfl, im⟩ := menuR.is hm
  exact ⟨a, l, rfl, n, dx, m', us, ha, im, hl, Paired.imp2 (fun _ _ z => SttH.of z) p⟩
end Tx
/-! suitcases made and forked; what is told by calls on them put into lists -/
namespace Tx
open PySem PySem.Spec PyProof.Rows L2 Gx
/-! ### comprehensions over calls that change an own object -/
def wCompG {E α γ : Type} (we : E × α → (γ → E × α → Prop) → Prop) : List α → List γ → E → (List γ → E → Prop) → Prop
  | [], acc, e, k => k acc e
  | x :: xs, acc, e, k => we (e, x) fun y e2 => wCompG we xs (acc ++ [y]) e2.1 k
theorem wCompG.mono {E α γ : Type} {we : E × α → (γ → E × α → Prop) → Prop} (h : ∀ e (k k' : γ → E × α → Prop), (∀ x e', k x e' → k' x e') → we e k → we e k') : ∀ (xs : List α) (acc : List γ) (e : E) (k k' : List γ → E → Prop), (∀ zs e', k zs e' → k' zs e') → wCompG we xs acc e k → wCompG we xs acc e k'
  | [], _, _, _, _, hk, hw => hk _ _ hw
  | x :: xs, acc, e, k, k', hk, hw => h _ _ _ (fun y e2 z => wCompG.mono h xs _ _ _ _ hk z) hw
end Tx
namespace Tx
open PySem PySem.Spec PyProof.Rows L2 Gx
end Tx
/-! values that are wholly new; what is told, seen otherwise -/
namespace Tx
open PySem PySem.Spec PyProof.Rows L2 Gx
end Tx
/-! several names at once, none of them a cell -/
namespace Tx
open PySem PySem.Spec PyProof.Rows L2 Gx
end Tx
/-! own dicts of texts and numbers, born among data -/
namespace Tx
open PySem PySem.Spec PyProof.Rows L2 Gx
def kvO (xs : List (Str × Int)) : List (Key × V) := xs.map fun p => (Sum.inr p.1, V.int p.2)
def dicD (xs : List (Str × Int)) : PyData := .dict (xs.map fun p => (.str p.1, .int p.2))
/-! ### an own object is seen as one that stays -/
section
variable {E β γ : Type} {K : PySem.W.Frag} {c : Bc} {L : List (Sl E)} {σ : L2.St} {H : Hp} {e : E} {own : Own} {R : Ro β} {g : E → β} {S : Rp γ} {g' : E → γ}
theorem St.thaw (s : St K c L σ H e own) {i : Nat} (hL : L[i]? = some (.ox R g)) {d : Addr} (ho : own i = some d) (o' : HO) {v : V} (hv : σ[i]? = some (some v)) (hr : ¬ Wb c (noOwn own i) d → S.r K (Wb c (noOwn own i)) (upd H d o') v (g' e)) : St K c (L.set i (.im S g')) σ (upd H d o') e (noOwn own i) := by
  have il : i < L.length := (List.getElem?_eq_some_iff.mp hL).1
  obtain ⟨d0, o, h1, h2, h3, h4, h5⟩ := s.slot i _ hL
  rw [ho] at h1
  cases h1
  have wd : Wb c own d := .inr ⟨i, ho⟩
  have sub : ∀ a, Wb c (noOwn own i) a → Wb c own a := by
    rintro a (z | ⟨j, z⟩)
    · exact .inl z
    · unfold noOwn at z
      split at z
      · cases z
      · exact .inr ⟨j, z⟩
  have nd : ¬ Wb c (noOwn own i) d := by
    rintro (z | ⟨j, z⟩)
    · exact h3.2 z
    · unfold noOwn at z
      split at z
      · cases z
      · rename_i n
        exact n (s.inj j i d z ho)
  have ge : Ge (Wb c own) H (Wb c (noOwn own i)) (upd H d o') := fun b u nb hb => ⟨fun z => nb (sub b z), by rw [upd_ne (fun z => nb (by rw [z]; exact wd))]; exact hb⟩
  have other : ∀ j, j ≠ i → noOwn own i j = own j := fun j n => if_neg n
  refine ⟨by simp [s.len], fun b u nb hb => ?_, fun b hb => ?_, s.bw, fun b hb => ?_, fun j k a hj hk => ?_, fun j hj => ?_, fun j sl' hj => ?_⟩
  · rw [upd_ne (fun z => by rw [z, h3.1] at hb; cases hb)]
    exact s.stay b u nb hb
  · rw [upd_ne (fun z => h3.2 (by rw [← z]; exact hb))]
    exact s.dom b hb
  · obtain ⟨j, q1, q2⟩ := s.bs b hb
    have ne : j ≠ i := fun z => by
      subst z
      rw [hL] at q1
      cases q1
    exact ⟨j, by rw [List.getElem?_set_ne (Ne.symm ne)]; exact q1, by rw [other j ne]; exact q2⟩
  · unfold noOwn at hj hk
    split at hj
    · cases hj
    · split at hk
      · cases hk
      · exact s.inj j k a hj hk
  · by_cases h : j = i
    · unfold noOwn
      rw [if_pos h]
    · rw [other j h]
      rw [List.getElem?_set_ne (Ne.symm h)] at hj
      exact s.out j hj
  · by_cases h : j = i
    · subst h
      rw [List.getElem?_set_self il] at hj
      cases hj
      exact ⟨if_pos rfl, v, hv, hr nd⟩
    · rw [List.getElem?_set_ne (Ne.symm h)] at hj
      have q := s.slot j sl' hj
      rw [other j h]
      cases sl' with
      | any => exact q
      | im S' g' =>
        obtain ⟨q1, v', q2, q3⟩ := q
        exact ⟨q1, v', q2, S'.mono ge q3⟩
      | ow S' g' =>
        obtain ⟨b, ws, q1, q2, q3, q4, q5⟩ := q
        exact ⟨b, ws, q1, q2, q3, by rw [upd_ne (fun z => h (s.inj j i d (by rw [← z]; exact q1) ho))]; exact q4, S'.pmono ge q5⟩
      | ox R' g' =>
        obtain ⟨b, ws, q1, q2, q3, q4, q5⟩ := q
        exact ⟨b, ws, q1, q2, q3, by rw [upd_ne (fun z => h (s.inj j i d (by rw [← z]; exact q1) ho))]; exact q4, R'.mono ge q5⟩
      | sr =>
        obtain ⟨p, q1, q2, q3, x, y, q4, q5⟩ := q
        exact ⟨p, q1, q2, q3, x, y, by rw [upd_ne (fun z => h (s.inj j i d (by rw [← z]; exact q1) ho))]; exact q4, q5⟩
end
/-! ### d["late"] = 0 -/
def rPutT (P : Program) (w : World) : TSet := fun o i v H Q => ∃ (d : Addr) (k : Str) (kvs : List (Key × V)), o = .ref d ∧ i = .str k ∧ H d = some (dsO P w d kvs) ∧ kvs.length < sizeLine ∧ Q (upd H d (dsO P w d (putK kvs (Sum.inr k) v)))
theorem put_dt {X : Cx} (hu : X.A.units + 9 < cLine) : PSet X (rPutT X.prog X.w) := by
  intro pins s σ H o i v ov iv u Q I ro ri rv h
  obtain ⟨d, k, kvs, rfl, rfl, hd, sz, q⟩ := h
  cases (show ov = Value.ref d from ro)
  refine d_setItem (by omega) (tagI I hd) (DPut.k (k := Sum.inr k) upd_same sz) ri rv fun s' I' => ?_
  rw [upd2] at I'
  exact ⟨_, untagI I', q⟩
end Tx
/-! a walk over things of which lists and dicts grow -/
namespace Tx
open PySem PySem.Spec PyProof.Rows L2 Gx
/-- no part of such a value is an object of its own kind -/
def RobXS {E α : Type} (S : Rp α) (g : E → α) : Prop := ∀ (e : E) (K : PySem.W.Frag) (W : WS) (H : Hp) (a : Addr) (o : HO) (v : V), (∀ b, W b → OwO (H b)) → H a = some o → XoO o → S.r K W H v (g e) → S.r K (fun b => W b ∨ b = a) H v (g e)
inductive RobX {E : Type} : List (Sl E) → Prop
  | nil : RobX []
  | any {L : List (Sl E)} : RobX L → RobX (.any :: L)
  | sr {L : List (Sl E)} : RobX L → RobX (.sr :: L)
  | im {α : Type} {S : Rp α} {g : E → α} {L : List (Sl E)} : RobXS S g → RobX L → RobX (.im S g :: L)
  | ow {α : Type} {S : Rp α} {g : E → List α} {L : List (Sl E)} : Flat S → RobX L → RobX (.ow S g :: L)
theorem RobX.at {E : Type} : ∀ {L : List (Sl E)} {i : Nat} {s : Sl E}, RobX L → L[i]? = some s → RobX [s]
  | _, i, _, .nil, h => by simp at h
  | _, 0, _, .any _, h => by cases h; exact .any .nil
  | _, 0, _, .sr _, h => by cases h; exact .sr .nil
  | _, 0, _, .im f _, h => by cases h; exact .im f .nil
  | _, 0, _, .ow f _, h => by cases h; exact .ow f .nil
  | _, i + 1, _, .any r, h => r.at (i := i) h
  | _, i + 1, _, .sr r, h => r.at (i := i) h
  | _, i + 1, _, .im _ r, h => r.at (i := i) h
  | _, i + 1, _, .ow _ r, h => r.at (i := i) h
/-- what is known of a thing: data, or a dict of its own kind -/
def ThN (P : Program) (w : World) (K : PySem.W.Frag) (W : WS) (H H0 : Hp) (T : List Str) (n : Nat) (v : V) : Prop := (∃ d, DW K W H v d ∧ B1 10 n 9 d ∧ isDi d = false ∧ ∀ ds, d = .list ds → NvT T ds ∧ ∀ a, v = .ref a → H0 a = none) ∨
  ∃ a xs, v = .ref a ∧ ¬ W a ∧ H a = some (dsO P w a (kvO xs)) ∧ B1 10 n 9 (dicD xs) ∧ H0 a = none
section
variable {P : Program} {w : World} {K : PySem.W.Frag} {W W' : WS} {H H' H0 : Hp} {T : List Str} {n n' m M : Nat} {v : V} {a : Addr} {us : List V}
theorem ThN.mono (g : Ge W H W' H') (h : ThN P w K W H H0 T n v) : ThN P w K W' H' H0 T n v :=
  h.imp (fun ⟨d, h1, h2, h3⟩ => ⟨d, h1.mono g, h2, h3⟩) fun ⟨a, xs, h1, h2, h3, h4, h5⟩ => ⟨a, xs, h1, (g _ _ h2 h3).1, (g _ _ h2 h3).2, h4, h5⟩
end
section
variable {E ρ : Type}
def wThN (ok : E → Prop) (T : List Str) (M : Nat) (wb1 : E × (V × PyData) → Kn (E × (V × PyData)) ρ → Prop) (wb2 : E × (V × List V × List PyData) → Kn (E × (V × List V × List PyData)) ρ → Prop) (wb3 : E × (V × List (Str × Int)) → Kn (E × (V × List (Str × Int))) ρ → Prop) : Nat → Nat → E → Kn E ρ → Prop
  | 0, _, e, k => k.nx e
  | r + 1, n, e, k => ok e ∧ (∀ v d, B1 10 n 9 d → isL d = false → isDi d = false → wb1 (e, (v, d)) ⟨fun e' => wThN ok T M wb1 wb2 wb3 r (n + 27 * M) e'.1 k, k.rt⟩) ∧
    (∀ v us ds, B1 10 n 9 (.list ds) → NvT T ds → wb2 (e, (v, us, ds)) ⟨fun e' => (∃ m, m ≤ M ∧ e'.2 = (v, us ++ List.replicate m (V.int 0), ds ++ zr m)) ∧ wThN ok T M wb1 wb2 wb3 r (n + 27 * M) e'.1 k, k.rt⟩) ∧
    ∀ v xs, B1 10 n 9 (dicD xs) → wb3 (e, (v, xs)) ⟨fun e' => (∃ xs', e'.2 = (v, xs') ∧ B1 10 (n + 27 * M) 9 (dicD xs')) ∧ wThN ok T M wb1 wb2 wb3 r (n + 27 * M) e'.1 k, k.rt⟩
variable {ok : E → Prop} {T : List Str} {M : Nat} {wb1 : E × (V × PyData) → Kn (E × (V × PyData)) ρ → Prop} {wb2 : E × (V × List V × List PyData) → Kn (E × (V × List V × List PyData)) ρ → Prop} {wb3 : E × (V × List (Str × Int)) → Kn (E × (V × List (Str × Int))) ρ → Prop}
theorem wThN.mono (m1 : MonoS wb1) (m2 : MonoS wb2) (m3 : MonoS wb3) : ∀ (r n : Nat), MonoS (wThN ok T M wb1 wb2 wb3 r n)
  | 0, _, e, k, k', hn, hr, hw => hn _ hw
  | r + 1, n, e, k, k', hn, hr, ⟨h0, h1, h2, h3⟩ => ⟨h0, fun v d b l l2 => m1 _ ⟨fun e' => wThN ok T M wb1 wb2 wb3 r (n + 27 * M) e'.1 k, k.rt⟩ _ (fun e' he => wThN.mono m1 m2 m3 r _ _ _ _ hn hr he) hr (h1 v d b l l2),
    fun v us ds b nv => m2 _ ⟨fun e' => (∃ m, m ≤ M ∧ e'.2 = (v, us ++ List.replicate m (V.int 0), ds ++ zr m)) ∧ wThN ok T M wb1 wb2 wb3 r (n + 27 * M) e'.1 k, k.rt⟩ _ (fun e' he => ⟨he.1, wThN.mono m1 m2 m3 r _ _ _ _ hn hr he.2⟩) hr (h2 v us ds b nv),
    fun v xs b => m3 _ ⟨fun e' => (∃ xs', e'.2 = (v, xs') ∧ B1 10 (n + 27 * M) 9 (dicD xs')) ∧ wThN ok T M wb1 wb2 wb3 r (n + 27 * M) e'.1 k, k.rt⟩ _ (fun e' he => ⟨he.1, wThN.mono m1 m2 m3 r _ _ _ _ hn hr he.2⟩) hr (h3 v xs b)⟩
end
end Tx
/-! a call of which the second argument always raises; xs != [] -/
namespace Tx
open PySem PySem.Spec PyProof.Rows L2 Gx
def rNeNil (K : PySem.W.Frag) : R2 := fun x y H Q => ∃ a b xs, x = .ref a ∧ y = .ref b ∧ SqL K H a xs ∧ SqL K H b [] ∧ Q (.bl (!xs.isEmpty)) H
theorem op_neNil {X : Cx} (hu : X.A.units < cLine) : OpR X (compareOp .NotEq) (rNeNil X.K) := by
  intro pins s σ H x y v u Q I rx ry h
  obtain ⟨a, b, xs, rfl, rfl, ha, hb, q⟩ := h
  cases rx
  cases ry
  obtain ⟨us, r, pl, _⟩ := I.list ha
  obtain ⟨us2, r2, pl2, _⟩ := I.list hb
  cases r2
  cases r with
  | nil =>
    have z := SeqAt.RcNeAt.lists (A := X.A) (e := fun _ => true) pl.isList pl2.isList rfl hu (fun j h1 => absurd h1 (Nat.not_lt_zero j))
    exact EqBoolInt.of_rcne z ⟨.bl _, H, I, rfl, q⟩
  | cons r t =>
    have z := SeqAt.RcNeAt.lists_lengths (A := X.A) pl.isList pl2.isList (by simp) hu
    exact EqBoolInt.of_rcne z ⟨.bl _, H, I, rfl, q⟩
theorem op_neNilK {X : Cx} {K : PySem.W.Frag} (h : X.K = K) (hu : X.A.units < cLine) : OpR X (compareOp .NotEq) (rNeNil K) := h ▸ op_neNil hu
theorem v_neNil {α β : Type} {K : PySem.W.Frag} {S : Rp α} {T : Rp β} : VR2 K (lstR S) (lstR T) boolR (rNeNil K) (fun xs ys k => ys = [] ∧ k (!xs.isEmpty)) := ⟨fun x y k k' h h2 => ⟨h2.1, h _ h2.2⟩, fun W H xs ys v u Q fr r1 r2 ⟨e0, q⟩ => by
  subst e0
  obtain ⟨a, vs, rfl, n, e, p⟩ := r1
  obtain ⟨b, us, rfl, n', e', p'⟩ := r2
  cases p'
  refine ⟨a, b, vs, rfl, rfl, SqL.of e, SqL.of e', ?_⟩
  have z := q (.bl (!xs.isEmpty)) H (Same.refl _) rfl
  cases p <;> exact z⟩
end Tx
/-! enumerate(list, start=k), enumerate(dict, start=k) -/
namespace En
open PySem PySem.Spec PyProof.Rows L2 Gx
section
variable {prog : Program} {w : World} {A : Around} {E : Value → Shared → Prop} {s : Shared}
theorem key_item {it d : Addr} {i ep : Nat} {es : Array DictEntry} {Q : Value → Shared → Prop} (hit : s.heap.IsKeyIter it d i es.size ep) (hm : s.heap.DictRaw d es ep) (hlt' : i < es.size)
    (hQ : ∀ h', h'.IsKeyIter it d (i + 1) es.size ep → Heap.SameBut it s.heap h' → Q es[i].key { s with heap := h' }) : wpAny (model prog w) A (Builtin.SmallTypes.nextOf (.ref it)) Q E s := by
  obtain ⟨o, ho, hc, hd⟩ := id hit
  obtain ⟨od, hod, hcd, hdd⟩ := id hm
  unfold Builtin.SmallTypes.nextOf
  refine wpAny_bind (wpAny_callSpecial?_slot (name := Str.ofString "__next__") hit.typeIs F.slot_dict_keyiterator_next
    (wpAny_call_entry F.slot_dict_keyiterator_next hit.typeIs F.entry_dict_keyiterator_next ?_ (F.args_dict_keyiterator_next_1 _)))
  refine wpAny_bind (wpAny_pure ?_)
  refine wpAny_bind ?_
  refine wpAny_bind ?_
  first | refine wpAny_bind (wpAny_typeNameOfWhole_keyiter hit.typeIs (wpAny_pure ?_)) | refine wpAny_bind (wpAny_typeNameOf_keyiter hit.typeIs (wpAny_pure ?_))
  refine wpAny_bind (wpAny_fieldsOf ho hd ?_)
  have hown : Builtin.Dict_items.ownsTuple "dict_keyiterator" = false := by decide
  simp only [hown, Bool.false_eq_true, if_false]
  show wpAny _ _ (if (Value.ref d == Value.none) = true then _ else _) _ _ s
  rw [if_neg (show ¬ ((Value.ref d == Value.none) = true) from Bool.false_ne_true)]
  refine wpAny_bind (wpAny_pure ?_)
  refine wpAny_bind (wpAny_dictEntries hod hdd ?_)
  rw [if_neg (by simp)]
  refine wpAny_bind (wpAny_pure ?_)
  refine wpAny_bind (wpAny_dictEpoch hod hdd ?_)
  rw [if_neg (by simp)]
  refine wpAny_pure ?_
  simp only [show ¬ ((i : Int) < 0) from by omega, if_false, Int.toNat_natCast, Array.getElem?_eq_getElem hlt']
  refine wpAny_bind ?_
  first | refine wpAny_bind (wpAny_typeNameOfWhole_keyiter hit.typeIs (wpAny_pure ?_)) | refine wpAny_bind (wpAny_typeNameOf_keyiter hit.typeIs (wpAny_pure ?_))
  refine wpAny_bind (wpAny_isOneOf_keyiter hit.typeIs ?_)
  show wpAny _ _ (setField (.ref it) 1 (rawInt ((i : Int) + 1)) >>= _) _ _ s
  refine wpAny_bind (wpAny_setField ho hd (by simp) ?_)
  have hit' : (s.heap.update it (Obj.mapFields (·.setIfInBounds 1 (rawInt ((i : Int) + 1))))).IsKeyIter it d (i + 1) es.size ep :=
    ⟨_, Heap.get?_update_self _ ho (Obj.isFreed_of_fields (Obj.data_mapFields hd _)), (Obj.cls_mapFields ..).trans hc, by rw [Obj.data_mapFields hd]; simp [rawInt]⟩
  refine wpAny_bind (wpAny_holding ?_)
  refine wpAny_bind (wpAny_isOneOf_keyiter (s := { s with heap := s.heap.update it (Obj.mapFields (·.setIfInBounds 1 (rawInt ((i : Int) + 1)))) }) hit'.typeIs ?_)
  show wpAny _ _ (pure es[i].key) _ _ _
  exact wpAny_pure (wpAny_pure ⟨_, rfl, wpAny_pure (hQ _ hit' (Heap.SameBut.update ..))⟩)
theorem key_end {it d : Addr} {i ep : Nat} {es : Array DictEntry} {Q : Value → Shared → Prop} (hh : A.handled = none) (hit : s.heap.IsKeyIter it d i es.size ep) (hm : s.heap.DictRaw d es ep) (hge : es.size ≤ i)
    (hE : ∀ h' e, Heap.ExtBut it s.heap h' → (∃ o, h'.get? e = some o ∧ o.cls = .type "StopIteration") → E (.ref e) { s with heap := h' }) : wpAny (model prog w) A (Builtin.SmallTypes.nextOf (.ref it)) Q E s := by
  obtain ⟨o, ho, hc, hd⟩ := id hit
  obtain ⟨od, hod, hcd, hdd⟩ := id hm
  unfold Builtin.SmallTypes.nextOf
  refine wpAny_bind (wpAny_callSpecial?_slot (name := Str.ofString "__next__") hit.typeIs F.slot_dict_keyiterator_next
    (wpAny_call_entry F.slot_dict_keyiterator_next hit.typeIs F.entry_dict_keyiterator_next ?_ (F.args_dict_keyiterator_next_1 _)))
  refine wpAny_bind (wpAny_pure ?_)
  refine wpAny_bind ?_
  refine wpAny_bind ?_
  first | refine wpAny_bind (wpAny_typeNameOfWhole_keyiter hit.typeIs (wpAny_pure ?_)) | refine wpAny_bind (wpAny_typeNameOf_keyiter hit.typeIs (wpAny_pure ?_))
  refine wpAny_bind (wpAny_fieldsOf ho hd ?_)
  have hown : Builtin.Dict_items.ownsTuple "dict_keyiterator" = false := by decide
  simp only [hown, Bool.false_eq_true, if_false]
  show wpAny _ _ (if (Value.ref d == Value.none) = true then _ else _) _ _ s
  rw [if_neg (show ¬ ((Value.ref d == Value.none) = true) from Bool.false_ne_true)]
  refine wpAny_bind (wpAny_pure ?_)
  refine wpAny_bind (wpAny_dictEntries hod hdd ?_)
  rw [if_neg (by simp)]
  refine wpAny_bind (wpAny_pure ?_)
  refine wpAny_bind (wpAny_dictEpoch hod hdd ?_)
  rw [if_neg (by simp)]
  refine wpAny_pure ?_
  simp only [show ¬ ((i : Int) < 0) from by omega, if_false, Int.toNat_natCast, Array.getElem?_eq_none hge]
  refine wpAny_bind ?_
  first | refine wpAny_bind (wpAny_typeNameOfWhole_keyiter hit.typeIs (wpAny_pure ?_)) | refine wpAny_bind (wpAny_typeNameOf_keyiter hit.typeIs (wpAny_pure ?_))
  show wpAny _ _ (setField (.ref it) 0 .none >>= _) _ _ s
  refine wpAny_bind (wpAny_setField ho hd (by simp) ?_)
  show wpAny _ _ (newExc (.type "StopIteration") [] >>= _) _ _ _
  refine wpAny_bind ?_
  simp only [newExc, newTuple]
  refine wpAny_bind (wpAny_newObj_type ?_ (by size_fits))
  refine wpAny_bind (m := firstArgMember _ _) (wpAny_of_eq (a := Value.none) (by first | rfl | (simp only [firstArgMember]; rfl)) ?_)
  refine wpAny_newObj_type ?_ (by size_fits)
  simp only [raiseNew]
  refine wpAny_bind (wpAny_handled ?_)
  rw [show A.in1.handled = none from hh]
  refine wpAny_bind (wpAny_pure (wpAny_throw ?_))
  exact hE _ _ (((Heap.SameBut.update ..).extBut.push _).push _) ⟨_, Heap.get?_push_size _ rfl, rfl⟩
end
theorem drawsK {prog : Program} {w : World} {A : Around} (hh : A.handled = none) (it d : Addr) (hne : d ≠ it) (es : Array DictEntry) (ep : Nat) :
    Draws prog w A it [it, d] es.size (fun i v => ∃ hi : i < es.size, v = es[i].key) (fun i h => h.IsKeyIter it d i es.size ep ∧ h.DictRaw d es ep) where
  live := fun _ _ ⟨⟨o, ho, _⟩, _⟩ => ⟨o, ho⟩
  frame := fun _ _ _ st hk => ⟨st.1.at fun o e => hk it (by simp) o e, st.2.at fun o e => hk d (by simp) o e⟩
  item := fun i s Q E hi st hQ => by
    refine key_item st.1 st.2 hi fun h' hit' hs' => ?_
    exact hQ _ h' s.toks ⟨hi, rfl⟩ ⟨hit', st.2.at fun o e => hs'.extBut d o hne e⟩ hs'
  done := fun s Q E st hE => key_end hh st.1 st.2 (Nat.le_refl _) hE
theorem begins_dict (d : Addr) (lo : (d == sysModules) = false) (es : Array DictEntry) (ep : Nat) : Begins (.ref d) { cls := .type "dict_keyiterator", data := .fields #[.ref d, .int 0 0, .int es.size 0, .int ep 0] } fun h => h.DictRaw d es ep where
  iter := fun prog w A E s Q hl h => wpAny_pyIter_dict_raw lo hl h
  keeps := fun h h' x hk => x.at fun o e => hk d o e
  free := rfl
section
variable {M : Model} {A : Around} {E : Value → Shared → Prop} {s : Shared} {env : Env}
theorem callWith_typeKw {pos : Pos} {T : String} {e : Expr} {rest : List Expr} {kws : List Keyword} {Q : Value → Shared → Prop} (hall : (backToKw pos (keywordEach kws env)).all (·.1.isSome) = true)
    (h : wpAny M A (spliced (backTo pos (starEach (e :: rest) env))) (fun vs s₁ => wpAny M A (evalAll ((backToKw pos (keywordEach kws env)).map (·.2)))
      (fun ks s₂ => wpAny M A (call (.type T) vs (((backToKw pos (keywordEach kws env)).filterMap (·.1)).zip ks)) Q E s₂) E s₁) E s)
    (hplain : ((backTo pos (starEach (e :: rest) env)).any (·.1) || (backToKw pos (keywordEach kws env)).any (·.1.isNone)) = false := by rfl) (he : starEach (e :: rest) env = (false, eval e env) :: starEach rest env := by rfl) :
    wpAny M A (callWith pos (.type T) [] (backTo pos (starEach (e :: rest) env)) (backToKw pos (keywordEach kws env))) Q E s := by
  unfold callWith
  refine wpAny_bind (wpAny_holding (wpAny_mono (evalArgs_kw2 (Q := fun a s₁ => wpAny M A (call (.type T) a.pos a.kw) Q E s₁) hall h he) (fun a s₁ h₁ => wpAny_bind (wpAny_standAt ?_)) fun _ _ x => x))
  simp only [hplain]
  refine wpAny_bind (wpAny_pure ?_)
  exact wpAny_bind (wpAny_mono h₁ (fun r s₂ hr => wpAny_bind (wpAny_holding (wpAny_point (wpAny_pure hr)))) fun _ _ x => x)
end
/-- the list at a, each item in a new pair with its place, counted from k -/
def IteL (K : PySem.W.Frag) (a : Addr) (xs : List V) (k : Int) : It :=
  ⟨fun i H => SqL K H a xs ∧ i < xs.length, fun i H v H' => ∃ T x, v = .ref T ∧ H T = none ∧ H' = upd H T (.tup [.int (k + (i : Nat)), x]) ∧ xs[i]? = some x, fun i H => SqL K H a xs ∧ i = xs.length⟩
theorem turn_enumL {P : Program} {w : World} {K : PySem.W.Frag} {elts : List Expr} {kk : Nat} {tpos : Pos} (a e it : Addr) (xs : List V) (k : Int) :
    Turn P w K (.Tuple elts kk tpos) (IteL K a xs k) [e, it] e (fun i h => (∃ old, IsEnum h e it (k + ((i : Nat) : Int)) old) ∧ h.IsListIter it a i ∧ e ≠ it ∧ a ≠ it ∧ a ≠ e) where
  mem := by simp
  obj := fun i h ⟨⟨old, he⟩, ⟨o, ho, hc, hd⟩, _⟩ b hb => by
    have e' : b = e ∨ b = it := by simpa using hb
    rcases e' with z | z
    · rw [z]
      exact ⟨_, he, fun v q => nomatch q⟩
    · rw [z]
      exact ⟨o, ho, fun v q => by rw [hd] at q; cases q⟩
  keep := fun i h h' ⟨⟨old, he⟩, hi, hne⟩ k => ⟨⟨old, k e (by simp) _ he⟩, hi.at fun o q => k it (by simp) o q, hne⟩
  item := by
    intro X hP hw hK hc i pins s σ H E I hf st hg
    subst hP hw hK
    obtain ⟨⟨old, he⟩, hit, hne, ha1, ha2⟩ := st
    obtain ⟨hq, lt⟩ := hg
    obtain ⟨its, r, p', hz⟩ := I.list hq
    have len := r.length
    have lt' : i < its.toArray.size := by rw [List.size_toArray]; omega
    refine wpAny_pyNext_enum_itemC (Draws.list (show X.A.in1.handled = none from I.ok.hd hc) it a ha1 its.toArray) he ⟨hit, p'.isList⟩ lt' hne (by simp [hne, Ne.symm ha2]) fun x h' tk hx ho hs' hTt hsz hk => ?_
    have hel : e < s.heap.objs.size := Heap.lt_size he
    have hil : it < s.heap.objs.size := by
      obtain ⟨_, q, _⟩ := hit
      exact Heap.lt_size q
    refine ⟨_, rfl, wpAny_letOwnedTupleGo_enum (s := { s with heap := h', toks := tk + 1 }) ho fun h'' he' sb => ?_⟩
    have hT2 : h''.get? s.heap.objs.size = some { cls := .type "tuple", data := .seq #[.int (k + ((i : Nat) : Int)) tk, x] } := (sb.2 _ (Nat.ne_of_gt hel)).trans hTt
    have vx : xs[i]? = some (xs[i]'lt) := List.getElem?_eq_getElem lt
    obtain ⟨u, hu, ru⟩ := r.get vx
    have eu : x = u := by
      have q : its.toArray[i]? = some x := hx
      rw [List.getElem?_toArray, hu] at q
      exact (Option.some.inj q).symm
    subst eu
    have new : ObjOk X.prog X.w (upd H s.heap.objs.size (.tup [.int (k + (i : Nat)), xs[i]'lt])) h'' s.heap.objs.size (.tup [.int (k + (i : Nat)), xs[i]'lt]) :=
      ⟨by show 2 ≤ sizeLine; decide, [.int (k + ((i : Nat) : Int)) tk, x], .cons ⟨_, rfl⟩ (.cons ru .nil), ⟨_, hT2, rfl, _, rfl⟩⟩
    have I1 : Inv X pins σ (upd H s.heap.objs.size (.tup [.int (k + (i : Nat)), xs[i]'lt])) { s with heap := h'', toks := tk + 1 } :=
      I.turnedNew (ch := [e, it]) (fun b ob hb q => (sb.2 b (fun z => hb (by simp [z]))).trans (hk b ob (fun z => hb (by simp [z])) (fun z => hb (by simp [z])) q)) hf (Nat.le_refl _) new
    refine ⟨.ref s.heap.objs.size, _, I1, rfl, ⟨_, xs[i]'lt, rfl, I.hok.fresh (Nat.le_refl _), rfl, vx⟩, ⟨⟨x, ?_⟩, hs'.1.at fun o q => (sb.2 it (Ne.symm hne)).trans q, hne, ha1, ha2⟩, fun b hb => ?_⟩
    · have e1 : k + ((i + 1 : Nat) : Int) = k + (i : Int) + 1 := by omega
      rw [e1]
      exact he'
    · have hb' : b < s.heap.objs.size := by
        have e' : b = e ∨ b = it := by simpa using hb
        rcases e' with z | z <;> rw [z] <;> assumption
      rw [upd_ne (Nat.ne_of_lt hb')]
      exact (hf b hb).1
  done := by
    intro X hP hw hK hc i pins s σ H E I hf st hg
    subst hP hw hK
    obtain ⟨⟨old, he⟩, hit, hne, ha1, ha2⟩ := st
    obtain ⟨hq, rfl⟩ := hg
    obtain ⟨its, r, p', hz⟩ := I.list hq
    have len := r.length
    obtain ⟨f0, f1, f2, f3, f4, f5⟩ := hf it (by simp)
    have ez : xs.length = its.toArray.size := by rw [List.size_toArray]; exact len
    rw [ez] at he hit
    exact wpAny_pyNext_enum_endD (Draws.list (show X.A.in1.handled = none from I.ok.hd hc) it a ha1 its.toArray) he ⟨hit, p'.isList⟩ fun h' eb => ⟨rfl, I.turned (t' := s.toks) (fun b o hb q => eb b o hb q) f0 f1 f3 f4 f5⟩
  self := fun A i s Q E ⟨⟨_, he⟩, _⟩ h => wpAny_pyIter_enum he h
def iEnumL (K : PySem.W.Frag) (k : Int) (ta : TA) : TI := fun σ H R => ta σ H fun vs H1 => ∃ a xs, vs = [.ref a] ∧ SqL K H1 a xs ∧ R (IteL K a xs k) H1
theorem pi_enumL {X : Cx} {e : Expr} {ta : TA} {p pos tpos p3 p4 : Pos} {elts : List Expr} {kk j : Nat} {k : Int} (hk0 : -(2 ^ 63) ≤ k) (hk1 : k < 2 ^ 63) (hg : Gl X "enumerate") (hm : X.mg "enumerate" = none) (ha : PA X [e] ta) (hs : starEach [e] X.env = [(false, eval e X.env)] := by rfl) :
    PI X (.Tuple elts kk tpos) (.Call (.Name "enumerate" p) [e] [⟨some "start", .Constant (.int k) j p3, p4⟩] pos) (iEnumL X.K k ta) := by
  refine ⟨fun pins s σ H R I h => ?_⟩
  refine wpAny_Call_Name_kw (ld_blt I hg hm boot_enumerate (callWith_typeKw rfl (thn (ha.run pos pins s σ H _ I h) fun us s1 ⟨vs, H1, I1, r1, q1⟩ => ?_) (by rw [hs]; rfl) hs))
  obtain ⟨a, xs, ex, hq, q⟩ := q1
  subst ex
  cases r1 with
  | cons r rr =>
    cases rr
    cases r
    refine kwAll_cons (thn ((pe_int (X := X) (i := k) (j := j) (pos := p3)).run pins s1 σ H1 (fun v H2 => v = .int k ∧ H2 = H1) I1 ⟨rfl, rfl⟩) fun u s2 ⟨v, H2, I2, r2, ev, eh⟩ => kwAll_nil ?_)
    subst ev eh
    obtain ⟨tk, rfl⟩ := r2
    obtain ⟨its, rv, p', hz⟩ := I2.list hq
    have al : a < s2.heap.objs.size := by
      obtain ⟨o, ho, _⟩ := p'.isList
      exact Heap.lt_size ho
    show wpAny _ _ (call (.type "enumerate") [.ref a] [(Str.ofString "start", .int k tk)]) _ _ _
    refine enum_begins_start (begins_list a its.toArray) p'.isList hk0 hk1 fun h' he hit hsz hk => wpAny_pyIter_enum he ?_
    have I3 : Inv X pins σ H2 { s2 with heap := h' } := I2.kept (t' := s2.toks) hk
    refine ⟨s2.heap.objs.size + 1, [s2.heap.objs.size + 1, s2.heap.objs.size], _, _, H2, rfl, I3, turn_enumL a (s2.heap.objs.size + 1) s2.heap.objs.size xs k, ⟨⟨.none, by rw [show k + ((0 : Nat) : Int) = k by omega]; exact he⟩, ⟨_, hit, rfl, rfl⟩, Nat.succ_ne_self _, Nat.ne_of_lt al, Nat.ne_of_lt (Nat.lt_succ_of_lt al)⟩, fun b hb => ?_, q⟩
    have e' : b = s2.heap.objs.size + 1 ∨ b = s2.heap.objs.size := by simpa using hb
    have hle : s2.heap.objs.size ≤ b := by
      rcases e' with z | z
      · rw [z]; exact Nat.le_add_right _ _
      · rw [z]; exact Nat.le_refl _
    exact I2.fpOk hle (I2.hok.fresh hle)
section
variable {X : Cx} {pins : List (Addr × Obj)} {σ : L2.St} {H : Hp} {s : Shared} {d : Addr} {o : Obj}
theorem frzU {kvs : List (Key × V)} {u : HO} (I : Inv X pins σ H s) (hu : ∀ H h, ObjOk X.prog X.w H h d u → ObjOk X.prog X.w H h d (.dK kvs)) (h : H d = some (.frz o u)) :
    (d == sysModules) = false ∧ s.heap.get? d = some o ∧ o.ExactDict ∧ ∃ (es : Array DictEntry) (ep : Nat) (vs : List (Key × Value)), o.data = .dict es ep ∧ es.size = kvs.length ∧ KV kvs vs ∧ s.heap.DictAt (mixKind X.prog X.w) d vs ep := by
  obtain ⟨hd, q⟩ := I.hok d _ h
  obtain ⟨z, hs, vs, kv, o', es, ep, ho, hx, hdt, r⟩ := hu _ _ q
  rw [hd] at ho
  cases ho
  refine ⟨hs, hd, hx, es, ep, vs, hdt, ?_, kv, o, es, hd, hx, hdt, r⟩
  have l1 := r.2.1.length
  have l2 : kvs.length = vs.length := Paired.length kv
  rw [Array.length_toList] at l1
  omega
end
/-- the locked dict at d, each key in a new pair with its place, counted from k -/
def IteD (u : HO) (d : Addr) (ob : Obj) (kvs : List (Key × V)) (k : Int) : It :=
  ⟨fun i H => H d = some (.frz ob u) ∧ i < kvs.length, fun i H v H' => ∃ T key z, v = .ref T ∧ H T = none ∧ H' = upd H T (.tup [.int (k + (i : Nat)), kV key]) ∧ kvs[i]? = some (key, z), fun i H => H d = some (.frz ob u) ∧ i = kvs.length⟩
theorem turn_enumD {P : Program} {w : World} {K : PySem.W.Frag} {elts : List Expr} {kk : Nat} {tpos : Pos} {u : HO} (d e it : Addr) (ob : Obj) (kvs : List (Key × V)) (k : Int) (hu : ∀ H h, ObjOk P w H h d u → ObjOk P w H h d (.dK kvs)) {es : Array DictEntry} {ep : Nat} (hod : ob.data = .dict es ep) :
    Turn P w K (.Tuple elts kk tpos) (IteD u d ob kvs k) [e, it] e (fun i h => (∃ old, IsEnum h e it (k + ((i : Nat) : Int)) old) ∧ h.IsKeyIter it d i kvs.length ep ∧ e ≠ it ∧ d ≠ it ∧ d ≠ e) where
  mem := by simp
  obj := fun i h ⟨⟨old, he⟩, ⟨o, ho, hc, hd⟩, _⟩ b hb => by
    have e' : b = e ∨ b = it := by simpa using hb
    rcases e' with z | z
    · rw [z]
      exact ⟨_, he, fun v q => nomatch q⟩
    · rw [z]
      exact ⟨o, ho, fun v q => by rw [hd] at q; cases q⟩
  keep := fun i h h' ⟨⟨old, he⟩, hi, hne⟩ k => ⟨⟨old, k e (by simp) _ he⟩, hi.at fun o q => k it (by simp) o q, hne⟩
  item := by
    intro X hP hw hK hc i pins s σ H E I hf st hg
    subst hP hw hK
    obtain ⟨⟨old, he⟩, hit, hne, ha1, ha2⟩ := st
    obtain ⟨hq, lt⟩ := hg
    obtain ⟨hs, hgd, hx0, es', ep', vs, hdt, hsz, kv, hm⟩ := frzU I hu hq
    have e12 := dict_ep hod hdt
    rw [e12.1] at hsz
    clear e12 hdt
    have raw : s.heap.DictRaw d es ep := ⟨ob, hgd, hx0, hod⟩
    have lt' : i < es.size := by omega
    rw [← hsz] at hit
    refine wpAny_pyNext_enum_itemC (drawsK (show X.A.in1.handled = none from I.ok.hd hc) it d ha1 es ep) he ⟨hit, raw⟩ lt' hne (by simp [hne, Ne.symm ha2]) fun x h' tk hx ho hs' hTt hsz2 hk => ?_
    have hel : e < s.heap.objs.size := Heap.lt_size he
    have hil : it < s.heap.objs.size := by
      obtain ⟨_, q, _⟩ := hit
      exact Heap.lt_size q
    refine ⟨_, rfl, wpAny_letOwnedTupleGo_enum (s := { s with heap := h', toks := tk + 1 }) ho fun h'' he' sb => ?_⟩
    have hT2 : h''.get? s.heap.objs.size = some { cls := .type "tuple", data := .seq #[.int (k + ((i : Nat) : Int)) tk, x] } := (sb.2 _ (Nat.ne_of_gt hel)).trans hTt
    obtain ⟨⟨key, z0⟩, hkv⟩ : ∃ p, kvs[i]? = some p := ⟨kvs[i], List.getElem?_eq_getElem lt⟩
    obtain ⟨u2, hu, ru⟩ := kv_get kv hkv
    obtain ⟨hi, ex⟩ := hx
    have rk : RelV (kV key) x := by
      obtain ⟨o3, es3, ho3, hc3, hd3, hk3, hp3, hn3⟩ := hm
      rw [hgd] at ho3
      cases ho3
      rw [hod] at hd3
      cases hd3
      have z := hp3.get? (e := es[i]) (by simp [lt']) hu
      rw [ex]
      exact relV_key z.1
    have new : ObjOk X.prog X.w (upd H s.heap.objs.size (.tup [.int (k + (i : Nat)), kV key])) h'' s.heap.objs.size (.tup [.int (k + (i : Nat)), kV key]) :=
      ⟨by show 2 ≤ sizeLine; decide, [.int (k + ((i : Nat) : Int)) tk, x], .cons ⟨_, rfl⟩ (.cons rk .nil), ⟨_, hT2, rfl, _, rfl⟩⟩
    have I1 : Inv X pins σ (upd H s.heap.objs.size (.tup [.int (k + (i : Nat)), kV key])) { s with heap := h'', toks := tk + 1 } :=
      I.turnedNew (ch := [e, it]) (fun b ob hb q => (sb.2 b (fun z => hb (by simp [z]))).trans (hk b ob (fun z => hb (by simp [z])) (fun z => hb (by simp [z])) q)) hf (Nat.le_refl _) new
    refine ⟨.ref s.heap.objs.size, _, I1, rfl, ⟨_, key, z0, rfl, I.hok.fresh (Nat.le_refl _), rfl, hkv⟩, ⟨⟨x, ?_⟩, ?_, hne, ha1, ha2⟩, fun b hb => ?_⟩
    · have e1 : k + ((i + 1 : Nat) : Int) = k + (i : Int) + 1 := by omega
      rw [e1]
      exact he'
    · rw [← hsz]
      exact hs'.1.at fun o q => (sb.2 it (Ne.symm hne)).trans q
    · have hb' : b < s.heap.objs.size := by
        have e' : b = e ∨ b = it := by simpa using hb
        rcases e' with z | z <;> rw [z] <;> assumption
      rw [upd_ne (Nat.ne_of_lt hb')]
      exact (hf b hb).1
  done := by
    intro X hP hw hK hc i pins s σ H E I hf st hg
    subst hP hw hK
    obtain ⟨⟨old, he⟩, hit, hne, ha1, ha2⟩ := st
    obtain ⟨hq, rfl⟩ := hg
    obtain ⟨hs, hgd, hx0, es', ep', vs, hdt, hsz, kv, hm⟩ := frzU I hu hq
    have e12 := dict_ep hod hdt
    rw [e12.1] at hsz
    clear e12 hdt
    have raw : s.heap.DictRaw d es ep := ⟨ob, hgd, hx0, hod⟩
    obtain ⟨f0, f1, f2, f3, f4, f5⟩ := hf it (by simp)
    rw [← hsz] at he hit
    exact wpAny_pyNext_enum_endD (drawsK (show X.A.in1.handled = none from I.ok.hd hc) it d ha1 es ep) he ⟨hit, raw⟩ fun h' eb => ⟨rfl, I.turned (t' := s.toks) (fun b o hb q => eb b o hb q) f0 f1 f3 f4 f5⟩
  self := fun A i s Q E ⟨⟨_, he⟩, _⟩ h => wpAny_pyIter_enum he h
def iEnumD (P : Program) (w : World) (k : Int) (ta : TA) : TI := fun σ H R => ta σ H fun vs H1 => ∃ d ob kvs, vs = [.ref d] ∧ H1 d = some (.frz ob (dsO P w d kvs)) ∧ R (IteD (dsO P w d kvs) d ob kvs k) H1
theorem pi_enumD {X : Cx} {e : Expr} {ta : TA} {p pos tpos p3 p4 : Pos} {elts : List Expr} {kk j : Nat} {k : Int} (hk0 : -(2 ^ 63) ≤ k) (hk1 : k < 2 ^ 63) (hg : Gl X "enumerate") (hm : X.mg "enumerate" = none) (ha : PA X [e] ta) (hs : starEach [e] X.env = [(false, eval e X.env)] := by rfl) :
    PI X (.Tuple elts kk tpos) (.Call (.Name "enumerate" p) [e] [⟨some "start", .Constant (.int k) j p3, p4⟩] pos) (iEnumD X.prog X.w k ta) := by
  refine ⟨fun pins s σ H R I h => ?_⟩
  refine wpAny_Call_Name_kw (ld_blt I hg hm boot_enumerate (callWith_typeKw rfl (thn (ha.run pos pins s σ H _ I h) fun us s1 ⟨vs, H1, I1, r1, q1⟩ => ?_) (by rw [hs]; rfl) hs))
  obtain ⟨d, ob, kvs, ex, hq, q⟩ := q1
  subst ex
  cases r1 with
  | cons r rr =>
    cases rr
    cases r
    refine kwAll_cons (thn ((pe_int (X := X) (i := k) (j := j) (pos := p3)).run pins s1 σ H1 (fun v H2 => v = .int k ∧ H2 = H1) I1 ⟨rfl, rfl⟩) fun u s2 ⟨v, H2, I2, r2, ev, eh⟩ => kwAll_nil ?_)
    subst ev eh
    obtain ⟨tk, rfl⟩ := r2
    obtain ⟨hs2, hgd, hx0, es, ep, vs, hdt, hsz, kv, hm2⟩ := frzU I2 (fun _ _ z => ds_of z) hq
    have raw : s2.heap.DictRaw d es ep := ⟨ob, hgd, hx0, hdt⟩
    have al : d < s2.heap.objs.size := Heap.lt_size hgd
    show wpAny _ _ (call (.type "enumerate") [.ref d] [(Str.ofString "start", .int k tk)]) _ _ _
    refine enum_begins_start (begins_dict d hs2 es ep) raw hk0 hk1 fun h' he hit hsz2 hk => wpAny_pyIter_enum he ?_
    have I3 : Inv X pins σ H2 { s2 with heap := h' } := I2.kept (t' := s2.toks) hk
    refine ⟨s2.heap.objs.size + 1, [s2.heap.objs.size + 1, s2.heap.objs.size], _, _, H2, rfl, I3, turn_enumD d (s2.heap.objs.size + 1) s2.heap.objs.size ob kvs k (fun _ _ z => ds_of z) hdt, ⟨⟨.none, by rw [show k + ((0 : Nat) : Int) = k by omega]; exact he⟩, ⟨_, hit, rfl, by rw [hsz]; rfl⟩, Nat.succ_ne_self _, Nat.ne_of_lt al, Nat.ne_of_lt (Nat.lt_succ_of_lt al)⟩, fun b hb => ?_, q⟩
    have e' : b = s2.heap.objs.size + 1 ∨ b = s2.heap.objs.size := by simpa using hb
    have hle : s2.heap.objs.size ≤ b := by
      rcases e' with z | z
      · rw [z]; exact Nat.le_add_right _ _
      · rw [z]; exact Nat.le_refl _
    exact I2.fpOk hle (I2.hok.fresh hle)
end En
/-! texts -/
namespace Tx
open PySem PySem.Spec PyProof.Rows L2 Gx En
section
variable {E α β γ : Type} {ι : Type} {X : ι → Cx} {K : PySem.W.Frag} {L : List (Sl E)} {S : Rp α} {T : Rp β} {U : Rp γ} {e o a b cc : Expr} {pos p apos p2 : Pos}
/-- a.split(b) -/
theorem tx_split {wo : E → (Str → Prop) → Prop} {we : E → (Str → Prop) → Prop} (ho : TX X K L strR o wo) (he : TX X K L strR e we) (hs : ∀ j, starEach [e] (X j).env = [(false, eval e (X j).env)] := by intro _; rfl) (hbase : ∀ j, attributeBase o "split" (X j).env (eval o (X j).env) = eval o (X j).env := by intro _; rfl) (hline : (apos.endLine == pos.line) = true := by rfl) :
    TN X K L strR (.Call (.Attribute o "split" apos) [e] [] pos) (fun env k => wo env fun x => we env fun y => (y.length == 0) = false ∧ x.length + 2 ≤ sizeLine ∧ k (Txt.split x y)) := by
  obtain ⟨t1, p1, f1⟩ := ho.ex
  obtain ⟨t2, p2, f2⟩ := he.ex
  refine ⟨fun e k k' hk hw => ho.mono _ _ _ (fun x h1 => he.mono _ _ _ (fun y hy => ⟨hy.1, hy.2.1, hk _ hy.2.2⟩) h1) hw, _, fun j => pe_split (pos := pos) (apos := apos) (p1 j) (p2 j) (hs j) (hbase j) hline, fun c σ H env own Q s hw => ?_⟩
  refine f1 c σ H env own _ s (ho.mono _ _ _ (fun x hx v1 H1 x1 r1 => ?_) hw)
  refine ⟨⟨x, r1⟩, f2 c σ H1 env own _ (s.ex x1) (he.mono _ _ _ (fun y ⟨h0, hz, hk⟩ v2 H2 x2 r2 => ?_) hx)⟩
  have s2 := (s.ex x1).ex x2
  refine ⟨x, y, r1, by rw [show v2 = V.str y from r2], h0, hz, fun q hq => ?_⟩
  exact hk q _ _ (Ex.none s (x1.trans x2) hq) (x1.trans (x2.trans (s2.exSame (Same.new hq)))) upd_same strsP
/-- a.join(tuple) -/
theorem tx_joinT {wo : E → (Str → Prop) → Prop} {wx : E → (List Str → Prop) → Prop} (ho : TX X K L strR o wo) (hx : TX X K L (tupR strR) e wx) (hK : ∀ j, (X j).K = K := by intro _; rfl) (hs : ∀ j, starEach [e] (X j).env = [(false, eval e (X j).env)] := by intro _; rfl) (hbase : ∀ j, attributeBase o "join" (X j).env (eval o (X j).env) = eval o (X j).env := by intro _; rfl) (hline : (apos.endLine == pos.line) = true := by rfl) :
    TX X K L strR (.Call (.Attribute o "join" apos) [e] [] pos) (fun env k => wo env fun a => wx env fun ys => (ys.map (·.length)).sum + ys.length * a.length ≤ 16777216 ∧ k (Txt.join a ys)) := by
  obtain ⟨t1, p1, f1⟩ := ho.ex
  obtain ⟨t2, p2, f2⟩ := hx.ex
  refine ⟨fun e k k' hk hw => ho.mono _ _ _ (fun x h1 => hx.mono _ _ _ (fun y hy => ⟨hy.1, hk _ hy.2⟩) h1) hw, _, fun j => by
    have z := pe_join (pos := pos) (apos := apos) (p1 j) (p2 j) (hs j) (hbase j) hline
    rw [hK j] at z
    exact z, fun c σ H env own Q s hw => ?_⟩
  refine f1 c σ H env own _ s (ho.mono _ _ _ (fun a ha v1 H1 x1 r1 => ?_) hw)
  refine ⟨⟨a, r1⟩, f2 c σ H1 env own _ (s.ex x1) (hx.mono _ _ _ (fun ys hy v2 H2 x2 r2 => ?_) ha)⟩
  obtain ⟨b, vs, rfl, el, q⟩ := r2
  obtain rfl := p_str q
  exact ⟨a, b, ys, r1, rfl, .inr el.sq, hy.1, hy.2 _ H2 (x1.trans x2) rfl⟩
/-- globals -/
theorem tx_gi {x : Str} {i : Int} (hg : ∀ j, Gl (X j) x) (h : ∀ j, ∃ t, (X j).mg x = some (.int i t)) (hd : (x == ("__debug__" : Str)) = false := by decide) : TX X K L intR (.Name x pos) (fun _ k => k i) := ⟨fun _ _ _ h => h _, _, fun j => pe_globI (hg j) (h j) hd, fun c σ H env own Q s hw => hw _ _ s.exRefl rfl⟩
theorem tx_gs {x z : Str} (hg : ∀ j, Gl (X j) x) (h : ∀ j, ∃ t, (X j).mg x = some (.str z t)) (hd : (x == ("__debug__" : Str)) = false := by decide) : TX X K L strR (.Name x pos) (fun _ k => k z) := ⟨fun _ _ _ h => h _, _, fun j => pe_globS (hg j) (h j) hd, fun c σ H env own Q s hw => hw _ _ s.exRefl rfl⟩
theorem tx_gt {x : Str} {A : Addr} {zs : List Str} (hg : ∀ j, Gl (X j) x) (h : ∀ j, (X j).mg x = some (.ref A)) (hq : ∀ H, SqT K H A (zs.map V.str)) (hd : (x == ("__debug__" : Str)) = false := by decide) : TX X K L (tupR strR) (.Name x pos) (fun _ k => k zs) := ⟨fun _ _ _ h => h _, _, fun j => pe_glob (v := .ref A) (hg j) (h j) rfl hd, fun c σ H env own Q s hw => hw _ _ s.exRefl ⟨A, _, rfl, .inr hq, strsP⟩⟩
/-- one sign in a text -/
theorem v_inSign (neg : Bool) : VR2 K strR strR boolR (fun x y H Q => ∃ (c : Nat) (z : Str), x = .str ⟨#[c]⟩ ∧ y = .str z ∧ Q (.bl (if neg then !decide (c ∈ z.cps.toList) else decide (c ∈ z.cps.toList))) H) (fun x z k => ∃ c, x = ⟨#[c]⟩ ∧ k (if neg then !decide (c ∈ z.cps.toList) else decide (c ∈ z.cps.toList))) := ⟨fun x y k k' h ⟨c, e, q⟩ => ⟨c, e, h _ q⟩, fun W H x z v u Q fr r1 r2 ⟨c, e, q⟩ => by
  subst e
  exact ⟨c, z, r1, r2, q _ H (Same.refl _) rfl⟩⟩
theorem op_inSign {X : Cx} : OpR X (compareOp .In) (fun x y H Q => ∃ (c : Nat) (z : Str), x = .str ⟨#[c]⟩ ∧ y = .str z ∧ Q (.bl (if false = true then !decide (c ∈ z.cps.toList) else decide (c ∈ z.cps.toList))) H) := op_in_sign
theorem v_leS : VR2 K strR strR boolR (fun x y H Q => ∃ i j, x = .str i ∧ y = .str j ∧ Q (.bl (!decide (j.cps.toList < i.cps.toList))) H) (fun x y k => k (!decide (y.cps.toList < x.cps.toList))) := ⟨fun x y k k' h q => h _ q, fun W H x y v u Q fr r1 r2 q => ⟨x, y, r1, r2, q _ H (Same.refl _) rfl⟩⟩
theorem op_leS {X : Cx} : OpR X (compareOp .LtE) (fun x y H Q => ∃ i j, x = .str i ∧ y = .str j ∧ Q (.bl (!decide (j.cps.toList < i.cps.toList))) H) := op_le_str
theorem tt_chainG {op op' : CmpOp} {r r' : R2} {wa : E → (α → Prop) → Prop} {wb : E → (β → Prop) → Prop} {wc : E → (γ → Prop) → Prop} {w1 : α → β → (Bool → Prop) → Prop} {w2 : β → γ → (Bool → Prop) → Prop} (ho : ∀ i, OpR (X i) (compareOp op) r) (ho' : ∀ i, OpR (X i) (compareOp op') r') (v : VR2 K S T boolR r w1) (v' : VR2 K T U boolR r' w2) (hf : Flat T) (ha : TX X K L S a wa) (hb : TX X K L T b wb) (hc : TX X K L U cc wc) (hm : lastMarks [op, op'] [b, cc] = false := by rfl) :
    TT X K L (.Compare a [op, op'] [b, cc] pos) (fun env k => wa env fun x => wb env fun y => w1 x y fun z => if z = true then wc env fun u => w2 y u k else k false) := by
  obtain ⟨t1, p1, f1⟩ := ha.ex
  obtain ⟨t2, p2, f2⟩ := hb.ex
  obtain ⟨t3, p3, f3⟩ := hc.ex
  refine ⟨fun e k k' h hw => ha.mono _ _ _ (fun x hx => hb.mono _ _ _ (fun y hy => v.mono _ _ _ _ (fun z hz => ?_) hy) hx) hw, _, fun i => pt_chain (ho i) (ho' i) (p1 i) (p2 i) (p3 i) hm, fun c σ H env own Q s hw => ?_⟩
  · cases z
    · exact h _ hz
    · exact hc.mono _ _ _ (fun u hu => v'.mono _ _ _ _ h hu) hz
  · refine f1 c σ H env own _ s (ha.mono _ _ _ (fun x hx v1 H1 x1 r1 => ?_) hw)
    refine f2 c σ H1 env own _ (s.ex x1) (hb.mono _ _ _ (fun y hy v2 H2 x2 r2 => ?_) hx)
    have s2 := (s.ex x1).ex x2
    refine v.run (Wb c own) H2 x y v1 v2 _ (fun l hl => s2.fresh hl) (S.mono x2.ge r1) r2 (v.mono _ _ _ _ (fun z hz z' H3 k3 r3 => ?_) hy)
    have s3 := s2.ex (s2.exSame k3)
    refine ⟨z, r3, ?_⟩
    cases z
    · exact ⟨false, rfl, hz _ (x1.trans (x2.trans (s2.exSame k3)))⟩
    · refine f3 c σ H3 env own _ s3 (hc.mono _ _ _ (fun u hu v4 H4 x4 r4 => ?_) hz)
      have s4 := s3.ex x4
      refine v'.run (Wb c own) H4 y u v2 v4 _ (fun l hl => s4.fresh hl) (hf r2) r4 (v'.mono _ _ _ _ (fun z2 hz2 z2' H5 k5 r5 => ⟨z2, r5, ?_⟩) hu)
      exact hz2 _ (x1.trans (x2.trans ((s2.exSame k3).trans (x4.trans (s4.exSame k5)))))
/-- z[lo:hi], a text -/
theorem tx_sliceS {wa : E → (Str → Prop) → Prop} {lo hi : Option Expr} {wl wh : E → (Option Int → Prop) → Prop} (ha : TX X K L strR e wa) (hl : TO X K L lo wl) (hh : TO X K L hi wh) : TX X K L strR (.Subscript e (.Slice lo hi none p2) pos) (fun env k => wa env fun z => wl env fun l => wh env fun h => z.length ≤ sizeLine ∧ k (cutS z l h)) := by
  obtain ⟨t, p, f⟩ := ha.ex
  obtain ⟨t1, p1, f1⟩ := hl.ex
  obtain ⟨t3, p3, f3⟩ := hh.ex
  refine ⟨fun e k k' hk hw => ha.mono _ _ _ (fun x hx => hl.mono _ _ _ (fun l hll => hh.mono _ _ _ (fun h hhh => ⟨hhh.1, hk _ hhh.2⟩) hll) hx) hw, _, fun i => pe_slice sl_str (p i) (p1 i) (p3 i), fun c σ H env own Q s hw => ?_⟩
  refine f c σ H env own _ s (ha.mono _ _ _ (fun xs hx v H1 x1 r => ?_) hw)
  refine f1 c σ H1 env own _ (s.ex x1) (hl.mono _ _ _ (fun l hll H2 x2 => ?_) hx)
  have s2 := (s.ex x1).ex x2
  refine f3 c σ H2 env own _ s2 (hh.mono _ _ _ (fun h hhh H3 x3 => ?_) hll)
  exact ⟨xs, r, hhh.1, hhh.2 _ H3 (x1.trans (x2.trans x3)) rfl⟩
/-! ### enumerate with a start -/
theorem it_enumLK {es : List Expr} {kk j0 : Nat} {tpos p3 p4 : Pos} {k0 : Int} {we : E → (List α → Prop) → Prop} (hk0 : -(2 ^ 63) ≤ k0) (hk1 : k0 < 2 ^ 63) (hg : ∀ j, Gl (X j) "enumerate") (hm : ∀ j, (X j).mg "enumerate" = none) (h : TX X K L (lstR S) e we) (hK : ∀ j, (X j).K = K := by intro _; rfl) (hs : ∀ j, starEach [e] (X j).env = [(false, eval e (X j).env)] := by intro _; rfl) :
    TIt X K L (prR intR S) (.Tuple es kk tpos) (.Call (.Name "enumerate" p) [e] [⟨some "start", .Constant (.int k0) j0 p3, p4⟩] pos) (fun env k => we env fun xs => k (xs.zipIdx.map fun q => (k0 + (q.2 : Int), q.1))) := by
  obtain ⟨t, pe, f⟩ := h.ex
  refine ⟨fun e k k' hk hw => h.mono _ _ _ (fun n hn => hk _ hn) hw, _, fun j => by
    have z := pi_enumL (elts := es) (kk := kk) (j := j0) (k := k0) (tpos := tpos) (pos := pos) (p := p) (p3 := p3) (p4 := p4) hk0 hk1 (hg j) (hm j) (pa_cons (pe j) pa_nil (hs j)) (hs j)
    rw [hK j] at z
    exact z, fun c σ H env own Q s hw => f c σ H env own _ s (h.mono _ _ _ (fun xs hx v H1 x1 r => ?_) hw)⟩
  obtain ⟨a, vs, rfl, n1, e1, p1⟩ := r
  have ll := Paired.length p1
  refine ⟨a, vs, rfl, SqL.of e1, hx _ H1 (fun H => SqL K H a vs) (fun i H v H' => (IteL K a vs k0).yld i H v H') x1 ?_ ⟨fun W' H2 g => SqL.of (g _ _ n1 e1).2, fun W' H2 H3 i v g fr hi y => ?_⟩⟩
  · rw [List.length_map, List.length_zipIdx, ← ll]
    exact ⟨fun i H lt hq => ⟨hq, lt⟩, fun H hq => ⟨hq, rfl⟩, fun i H x H' _ _ y => y⟩
  · obtain ⟨T, w, rfl, hT, rfl, hw'⟩ := y
    obtain ⟨x, hx2, rx⟩ := Paired.at2 p1 hw'
    refine ⟨Same.new hT, (k0 + (i : Int), x), ?_, T, .int (k0 + (i : Nat)), w, rfl, TW.of (fr T hT) upd_same, rfl, S.mono (g.trans (Ge.same (Same.new hT))) rx⟩
    rw [List.getElem?_map, List.getElem?_zipIdx, hx2]
    simp
end
section
variable {E α β γ : Type} {ι : Type} {X : ι → Cx} {K : PySem.W.Frag} {L : List (Sl E)} {S : Rp α} {e : Expr} {pos p : Pos} {P : Program} {w : World}
/-- an own dict with texts as keys, locked, as it is seen -/
def ftR (P : Program) (w : World) (S : Rp α) : Rp (List (Str × α)) := ⟨fun K W H v xs => ∃ a ob kvs, v = .ref a ∧ ¬ W a ∧ H a = some (.frz ob (dsO P w a kvs)) ∧ Paired (DSp K W H S) kvs xs,
  fun g ⟨a, ob, kvs, e, n, h, p⟩ => ⟨a, ob, kvs, e, (g _ _ n h).1, (g _ _ n h).2, Paired.imp2 (fun _ _ ⟨a, b⟩ => ⟨a, S.mono g b⟩) p⟩⟩
end
end Tx
/-! own dicts with texts as keys; dicts that stay, read, locked for a walk; two kinds in one -/
namespace Tx
open PySem PySem.Spec PyProof.Rows L2 Gx En
def rInS (P : Program) (w : World) (neg : Bool) : R2 := fun x y H Q => ∃ (z : Str) (d : Addr) (kvs : List (Key × V)), x = .str z ∧ y = .ref d ∧ H d = some (dsO P w d kvs) ∧ Q (.bl (neg != (valV kvs (Sum.inr z)).isSome)) H
def rInF (P : Program) (w : World) : R2 := fun x y H Q => ∃ (z : Str) (d : Addr) (ob : Obj) (kvs : List (Key × V)), x = .str z ∧ y = .ref d ∧ H d = some (.frz ob (dsO P w d kvs)) ∧ Q (.bl (valV kvs (Sum.inr z)).isSome) H
def rIxF (P : Program) (w : World) : R2 := fun x y H Q => ∃ (z : Str) (d : Addr) (ob : Obj) (kvs : List (Key × V)) (v : V), x = .ref d ∧ y = .str z ∧ H d = some (.frz ob (dsO P w d kvs)) ∧ valV kvs (Sum.inr z) = some v ∧ Q v H
section
variable {X : Cx}
theorem op_inS (hu : X.A.units + 9 < cLine) : OpR X (compareOp .In) (rInS X.prog X.w false) := by
  intro pins s σ H x y v u Q I rx ry h
  obtain ⟨i, d, kvs, rfl, rfl, hd, q⟩ := h
  cases ry
  refine d_in (by omega) (tagI I hd) (DGet.k (k := Sum.inr i) upd_same) rx fun s' I' => ?_
  have I3 := untagI I'
  rw [upd_id hd] at I3
  exact ⟨.bl _, H, I3, rfl, by simpa using q⟩
theorem op_notInS (hu : X.A.units + 9 < cLine) : OpR X (compareOp .NotIn) (rInS X.prog X.w true) := by
  intro pins s σ H x y v u Q I rx ry h
  obtain ⟨i, d, kvs, rfl, rfl, hd, q⟩ := h
  cases ry
  refine d_notIn (by omega) (tagI I hd) (DGet.k (k := Sum.inr i) upd_same) rx fun s' I' => ?_
  have I3 := untagI I'
  rw [upd_id hd] at I3
  exact ⟨.bl _, H, I3, rfl, by simpa using q⟩
theorem dk_frz {pins : List (Addr × Obj)} {σ : L2.St} {H : Hp} {s : Shared} {d : Addr} {ob : Obj} {kvs : List (Key × V)} (I : Inv X pins σ H s) (h : H d = some (.frz ob (dsO X.prog X.w d kvs))) : kvs.length ≤ sizeLine ∧ (d == sysModules) = false ∧ ∃ vs, L2.KV kvs vs ∧ s.heap.DictOf (mixKind X.prog X.w) d vs := by
  obtain ⟨_, q⟩ := I.hok d _ h
  exact ds_of q
theorem op_inF : OpR X (compareOp .In) (rInF X.prog X.w) := by
  intro pins s σ H x y v u Q I rx ry h
  obtain ⟨i, d, ob, kvs, rfl, rfl, hd, q⟩ := h
  cases ry
  obtain ⟨z, hl, vs, rel, dd⟩ := dk_frz I hd
  refine wpAny_in_of (kV_is (k := Sum.inr i) rx) hl dd.mapOf ⟨.bl _, H, I.tok _, rfl, ?_⟩
  rw [← (rel.val (Sum.inr i : Key)).isSome_eq]
  exact q
theorem ix_F : IxR X (rIxF X.prog X.w) := by
  intro value slice pins s σ H x y v u Q I rx ry h hs
  obtain ⟨z, d, ob, kvs, r, rfl, rfl, hd, ev, q⟩ := h
  cases rx
  obtain ⟨zz, hl, vs, rel, dd⟩ := dk_frz I hd
  obtain ⟨w', hw, rw'⟩ := RelO.some_of (v := r) (o := valueAt vs (Sum.inr z : Key)) (by rw [← ev]; exact rel.val (Sum.inr z : Key))
  refine tail_any (T := "dict") dd.typeIs rfl ?_ hs
  exact wpAny_getItem_of (kV_is (k := Sum.inr z) ry) dd.mapOf hw ⟨r, H, I.tok _, rw', q⟩
/-- len(d), an own one -/
theorem call_lenS {P : Program} {w : World} (hP : X.prog = P ∧ X.w = w) : CallR X (.builtin "len") (fun xs H Q => ∃ d kvs, xs = [.ref d] ∧ H d = some (dsO P w d kvs) ∧ Q (.int kvs.length) H) := by
  rw [← hP.1, ← hP.2]
  intro pins s σ H xs us Q I rv h
  obtain ⟨d, kvs, rfl, hd, q⟩ := h
  cases rv with
  | cons r t =>
    cases t
    cases r
    refine d_len (tagI I hd) (.inl upd_same) fun t s' I' => ?_
    have I3 := untagI I'
    rw [upd_id hd] at I3
    exact ⟨.int _, H, I3, ⟨t, rfl⟩, q⟩
end
section
variable {E β ρ ι : Type} {X : ι → Cx} {K : PySem.W.Frag} {R : RetR ρ} {L L' L1 : List (Sl E)} {S : Rp β} {P : Program} {w : World} {g : E → List (Str × β)} {a e d : Expr} {pos p : Pos} {i : Nat} {x : Str} {wa : E → (Str → Prop) → Prop} {wd : E → (List (Str × β) → Prop) → Prop}
/-- k in d, k not in d, an own dict -/
theorem tt_inS (neg : Bool) (hL : L[i]? = some (.ox (dsR P w S) g)) (hN : ∀ j, (X j).N[i]? = some x) (hv : ∀ j, Vis (X j).env.scope x) (hP : ∀ j, (X j).prog = P ∧ (X j).w = w) (hu : ∀ j, (X j).A.units + 9 < cLine) (ha : TX X K L strR a wa)
    (hd : (x == ("__debug__" : Str)) = false := by decide) (hcd : (x == ("__classdict__" : Str)) = false := by decide) (hm : behindInMarks (if neg then .NotIn else .In) (.Name x p) = false := by rfl) : TT X K L (.Compare a [if neg then .NotIn else .In] [.Name x p] pos) (fun env k => wa env fun y => k (neg != (getK (g env) y).isSome)) := by
  obtain ⟨t1, p1, f1⟩ := ha.ex
  have op : ∀ j, OpR (X j) (compareOp (if neg then .NotIn else .In)) (rInS P w neg) := fun j => by
    cases neg
    · have z := op_inS (hu j)
      rw [(hP j).1, (hP j).2] at z
      exact z
    · have z := op_notInS (hu j)
      rw [(hP j).1, (hP j).2] at z
      exact z
  refine ⟨fun e k k' h hw => ha.mono _ _ _ (fun y hy => h _ hy) hw, _, fun j => pt_cmpR (op j) (p1 j) (pe_var (hN j) (hv j) hd hcd) hm, fun c σ H env own Q s hw => ?_⟩
  refine f1 c σ H env own _ s (ha.mono _ _ _ (fun y hy v1 H1 x1 r1 => ?_) hw)
  obtain ⟨d, o, h1, h2, h3, h4, kvs, rfl, pr⟩ := (s.ex x1).slot i _ hL
  refine ⟨.ref d, h2, y, d, kvs, r1, rfl, h4, _, rfl, ?_⟩
  have e : (valV kvs (Sum.inr y)).isSome = (getK (g env) y).isSome := by
    rcases DSp.get pr y with ⟨e1, e2⟩ | ⟨v, u, e1, e2, _⟩ <;> rw [e1, e2] <;> rfl
  rw [e]
  exact hy H1 x1
/-- k in d, such a dict, locked -/
theorem tx_inF (hP : ∀ j, (X j).prog = P ∧ (X j).w = w) (ha : TX X K L strR a wa) (hd : TX X K L (ftR P w S) d wd) (hm : behindInMarks .In d = false := by rfl) : TX X K L boolR (.Compare a [.In] [d] pos) (fun env k => wa env fun y => wd env fun xs => k (getK xs y).isSome) := by
  obtain ⟨t1, p1, f1⟩ := ha.ex
  obtain ⟨t2, p2, f2⟩ := hd.ex
  have op : ∀ j, OpR (X j) (compareOp .In) (rInF P w) := fun j => by
    have z := op_inF (X := X j)
    rw [(hP j).1, (hP j).2] at z
    exact z
  refine ⟨fun e k k' h hw => ha.mono _ _ _ (fun y hy => hd.mono _ _ _ (fun xs hxs => h _ hxs) hy) hw, _, fun j => pe_cmpR (op j) (p1 j) (p2 j) hm, fun c σ H env own Q s hw => ?_⟩
  refine f1 c σ H env own _ s (ha.mono _ _ _ (fun y hy v1 H1 x1 r1 => ?_) hw)
  refine f2 c σ H1 env own _ (s.ex x1) (hd.mono _ _ _ (fun xs hxs v2 H2 x2 r2 => ?_) hy)
  obtain ⟨dd, ob, kvs, rfl, nw, e1, pr⟩ := r2
  refine ⟨y, dd, ob, kvs, r1, rfl, e1, ?_⟩
  have e : (valV kvs (Sum.inr y)).isSome = (getK xs y).isSome := by
    rcases DSp.get pr y with ⟨e1, e2⟩ | ⟨v, u, e1, e2, _⟩ <;> rw [e1, e2] <;> rfl
  rw [e]
  exact hxs _ H2 (x1.trans x2) rfl
/-- d[k], such a dict, locked -/
theorem tx_fget (hP : ∀ j, (X j).prog = P ∧ (X j).w = w) (hd : TX X K L (ftR P w S) d wd) (ha : TX X K L strR a wa) (hs : PlainIx a) : TX X K L S (.Subscript d a pos) (fun env k => wd env fun xs => wa env fun y => ∃ z, getK xs y = some z ∧ k z) := by
  obtain ⟨t1, p1, f1⟩ := hd.ex
  obtain ⟨t2, p2, f2⟩ := ha.ex
  have ix : ∀ j, IxR (X j) (rIxF P w) := fun j => by
    have z := ix_F (X := X j)
    rw [(hP j).1, (hP j).2] at z
    exact z
  refine ⟨fun e k k' h hw => hd.mono _ _ _ (fun xs hxs => ha.mono _ _ _ (fun y ⟨z, h1, h2⟩ => ⟨z, h1, h _ h2⟩) hxs) hw, _, fun j => pe_ix (ix j) (p1 j) (p2 j) hs, fun c σ H env own Q s hw => ?_⟩
  refine f1 c σ H env own _ s (hd.mono _ _ _ (fun xs hx v1 H1 x1 r1 => ?_) hw)
  refine f2 c σ H1 env own _ (s.ex x1) (ha.mono _ _ _ (fun y ⟨z, gz, hz⟩ v2 H2 x2 r2 => ?_) hx)
  obtain ⟨dd, ob, kvs, rfl, nw, e, pr⟩ := (ftR P w S).mono x2.ge r1
  have r2 : v2 = V.str y := r2
  rcases DSp.get pr y with ⟨_, e2⟩ | ⟨v, u, e1, e2, rv⟩
  · rw [gz] at e2
    cases e2
  · rw [gz] at e2
    cases e2
    exact ⟨y, dd, ob, kvs, v, rfl, r2, e, e1, hz v H2 (x1.trans x2) rv⟩
/-- if d, an own dict -/
theorem tt_truthS (hL : L[i]? = some (.ox (dsR P w S) g)) (hN : ∀ j, (X j).N[i]? = some x) (hv : ∀ j, Vis (X j).env.scope x) (hP : ∀ j, (X j).prog = P ∧ (X j).w = w) (hd : (x == ("__debug__" : Str)) = false := by decide) (hcd : (x == ("__classdict__" : Str)) = false := by decide)
    (he : ∀ j whole, isTrue (.Name x p) (X j).env whole = (do let v ← whole; standAt (Expr.Name x p).pos; holding [v] (truthy v)) := by intro _ _; rfl) : TT X K L (.Name x p) (fun env k => k (!(g env).isEmpty)) := by
  have pt : ∀ j, PT (X j) (.Name x p) (fun σ H Q => ∃ dd kvs, σ[i]? = some (some (.ref dd)) ∧ H dd = some (dsO P w dd kvs) ∧ Q (!kvs.isEmpty) H) := fun j => ⟨fun pins s σ H Q I ⟨dd, kvs, es, ed, q⟩ => by
    rw [he j]
    refine wpAny_bind (thn ((pe_var (X := X j) (pos := p) (hN j) (hv j) hd hcd).run pins s σ H (fun v H1 => v = .ref dd ∧ H1 = H) I ⟨.ref dd, es, rfl, rfl⟩) fun u s1 ⟨v, H1, I1, r1, ev, eh⟩ => ?_)
    subst ev eh
    cases r1
    have ed' : H1 dd = some (dsO (X j).prog (X j).w dd kvs) := by rw [(hP j).1, (hP j).2]; exact ed
    refine wpAny_bind (wpAny_standAt (wpAny_holding (d_truth (tagI I1 ed') (.inl upd_same) fun s' I' => ?_)))
    have I3 := untagI I'
    rw [upd_id ed'] at I3
    exact ⟨H1, I3, q⟩⟩
  refine ⟨fun e k k' h hw => h _ hw, _, pt, fun c σ H env own Q s hw => ?_⟩
  obtain ⟨dd, o, q1, q2, q3, q4, kvs, rfl, pr⟩ := s.slot i _ hL
  refine ⟨dd, kvs, q2, q4, ?_⟩
  have e2 : ∀ {ks : List (Key × V)} {xs : List (Str × β)}, Paired (DSp K (Wb c own) H S) ks xs → ks.isEmpty = xs.isEmpty := fun p => by cases p <;> rfl
  rw [e2 pr]
  exact hw H s.exRefl
/-- len(d), an own dict -/
theorem tx_lenS {p2 : Pos} (hL : L[i]? = some (.ox (dsR P w S) g)) (hN : ∀ j, (X j).N[i]? = some x) (hv : ∀ j, Vis (X j).env.scope x) (hP : ∀ j, (X j).prog = P ∧ (X j).w = w) (hg : ∀ j, Gl (X j) "len") (hm : ∀ j, (X j).mg "len" = none)
    (hd : (x == ("__debug__" : Str)) = false := by decide) (hcd : (x == ("__classdict__" : Str)) = false := by decide) (he : ∀ j, starEach [.Name x p] (X j).env = (false, eval (.Name x p) (X j).env) :: starEach [] (X j).env := by intro _; rfl) (hpl : ∀ j, (backTo pos (starEach [] (X j).env)).any (·.1) = false := by intro _; rfl) :
    TX X K L intR (.Call (.Name "len" p2) [.Name x p] [] pos) (fun env k => k ((g env).length : Int)) := by
  refine ⟨fun e k k' h hw => h _ hw, _, fun j => pe_callB (call_lenS (hP j)) (hg j) (hm j) boot_len (pa_cons (pe_var (hN j) (hv j) hd hcd) pa_nil (he j)) (by decide) (by decide) (he j) (hpl j), fun c σ H env own Q s hw => ?_⟩
  obtain ⟨d, o, h1, h2, h3, h4, kvs, rfl, pr⟩ := s.slot i _ hL
  refine ⟨.ref d, h2, d, kvs, rfl, h4, ?_⟩
  exact hw _ H s.exRefl (by rw [Paired.length pr]; rfl)
/-- d[k] = e, k new -/
theorem ts_putS {T : E → Prop} {set : E → List (Str × β) → E} {we : E → (β → Prop) → Prop} {p2 : Pos} (hL : L[i]? = some (.ox (dsR P w S) g)) (hN : ∀ j, (X j).N[i]? = some x) (hv : ∀ j, Vis (X j).env.scope x) (hP : ∀ j, (X j).prog = P ∧ (X j).w = w) (hu : ∀ j, (X j).A.units + 9 < cLine) (he : TX X K L S e we) (ha : TX X K L strR a wa)
    (hsub : Sub (fun e : E × List (Str × β) => set e.1 e.2) ((lift (List (Str × β)) L).set i (.ox (dsR P w S) Prod.snd)) L')
    (has : ∀ j v, assign (.Subscript (.Name x p) a p2) (X j).env v = (do
      let ov ← holding [v] (eval (.Name x p) (X j).env)
      let iv ← holding [v, ov] (eval a (X j).env)
      standAt p2
      holding [v, ov, iv] (setItem ov iv v)
      release [v, ov, iv] []) := by intro _ _; rfl)
    (hss : ∀ j, swapsWithSole [.Subscript (.Name x p) a p2] e pos.line (X j).env = pure false := by intro _; rfl) (hsw : ∀ j, swappedStores [.Subscript (.Name x p) a p2] e (X j).env = pure none := by intro _; rfl)
    (h1 : ∀ j, (assignEach [.Subscript (.Name x p) a p2] (X j).env).map (·.2) = [assign (.Subscript (.Name x p) a p2) (X j).env] := by intro _; rfl)
    (hd : (x == ("__debug__" : Str)) = false := by decide) (hcd : (x == ("__classdict__" : Str)) = false := by decide) :
    TS1 X K R L L' (.Assign [.Subscript (.Name x p) a p2] e pos) (fun env k => we env fun v => wa env fun y => getK (g env) y = none ∧ (g env).length < sizeLine ∧ k.nx (set env (g env ++ [(y, v)]))) := by
  obtain ⟨t1, p1, f1⟩ := he.ex
  obtain ⟨t2, p2, f2⟩ := ha.ex
  have put : ∀ j, PSet (X j) (rPutT P w) := fun j => by
    have z := put_dt (hu j)
    rw [(hP j).1, (hP j).2] at z
    exact z
  refine ⟨fun e k k' hn _ hw => he.mono _ _ _ (fun v hv => ha.mono _ _ _ (fun y ⟨h1, h2, h3⟩ => ⟨h1, h2, hn _ h3⟩) hv) hw, _, fun j => ps_asg (p1 j) (pg_sub (pe_var (hN j) (hv j) hd hcd) (p2 j) (put j) (has j)) (hss j) (hsw j) (h1 j), fun c σ H env own D s hw => ?_⟩
  refine f1 c σ H env own _ s (he.mono _ _ _ (fun v hv v1 H1 x1 r1 => ?_) hw)
  have s1 := s.ex x1
  obtain ⟨d, o, q1, q2, q3, q4, _⟩ := s1.slot i _ hL
  refine ⟨.ref d, q2, f2 c σ H1 env own _ s1 (ha.mono _ _ _ (fun y ⟨no, sz, hk⟩ v2 H2 x2 r2 => ?_) hv)⟩
  have s2 := s1.ex x2
  obtain ⟨d', o', q1', q2', q3', q4', kvs, rfl, pr⟩ := s2.slot i _ hL
  rw [q1] at q1'
  cases q1'
  have r2 : v2 = .str y := r2
  have len := Paired.length pr
  have new : valV kvs (Sum.inr y) = none := by
    rcases DSp.get pr y with ⟨e, _⟩ | ⟨v, u, _, e, _⟩
    · exact e
    · rw [no] at e
      cases e
  refine ⟨d, y, kvs, rfl, r2, q4', by omega, ?_⟩
  rw [Tx.putK_new new]
  exact hk σ _ _ ((s2.putX (x := g env ++ [(y, v)]) hL q1 ⟨_, rfl, Paired.snoc pr ⟨rfl, S.mono x2.ge r1⟩⟩).sub hsub)
/-- x = {}, an own dict -/
theorem ts_newS {set : E → List (Str × β) → E} {p2 : Pos} (hP : ∀ j, (X j).prog = P ∧ (X j).w = w) (hN : ∀ j, (X j).N.Nodup) (hi : ∀ j, (X j).N[i]? = some x) (hx : ∀ j, Loc (X j).env.scope x) (hl : ∃ s0, (lift (List (Str × β)) L)[i]? = some s0 ∧ s0 ≠ .sr)
    (hsub : Sub (fun e : E × List (Str × β) => set e.1 e.2) ((lift (List (Str × β)) L).set i (.ox (dsR P w S) Prod.snd)) L') (hs : ∀ j, swapsWith (.Dict [] [] p2) (some (.Name x p)) pos.line (X j).env = pure false := by intro _; rfl)
    (hf : ∀ j, (X j).fn x = true ∨ (X j).env.scope.names.lookup x = some .local := by intro _; first | exact .inl rfl | exact .inr rfl | assumption) : TS1 X K R L L' (.Assign [.Name x p] (.Dict [] [] p2) pos) (fun env k => k.nx (set env [])) := by
  have pe : ∀ j, PE (X j) (.Dict [] [] p2) (fun _ H Q => ∀ d, H d = none → Q (.ref d) (upd H d (dsO P w d []))) := fun j => ⟨fun pins s σ H Q I h =>
    wpAny_Dict_empty ⟨.ref s.heap.objs.size, _, I.laid (a := s.heap.objs.size) (o := dsO P w s.heap.objs.size []) (t' := s.toks) (fun _ _ q => Heap.get?_push_of_some _ q) (Nat.le_refl _) (by
      have z : ObjOk (X j).prog (X j).w (upd H s.heap.objs.size (dsO (X j).prog (X j).w s.heap.objs.size [])) (s.heap.push { cls := .type "dict", data := .dict #[] }) s.heap.objs.size (dsO (X j).prog (X j).w s.heap.objs.size []) :=
        ds_ok (dk_empty s.heap I.big)
      rw [(hP j).1, (hP j).2] at z
      rw [(hP j).1, (hP j).2]
      exact z), rfl, h _ (I.hok.fresh (Nat.le_refl _))⟩⟩
  refine ⟨fun e k k' hn _ hw => hn _ hw, _, fun j => ps_set (hN j) (hi j) (hx j) (pe j) (hs j) (hf j), fun c σ H env own D s hw => fun d hd => ?_⟩
  have x' : Ex L own H (upd H d (dsO P w d [])) := s.exSame (Same.new hd)
  exact hw _ _ _ (((s.lift []).setX ⟨fun a o na => x'.st a o fun z => na (Sr.lift.mpr z), fun a z => x'.sr a (Sr.lift.mp z)⟩ hl (dsR P w S) Prod.snd hd upd_same ⟨[], rfl, .nil⟩).sub hsub)
end
end Tx
/-! own dicts locked and unlocked; a value and a new dict told; two kinds in one -/
namespace Tx
open PySem PySem.Spec PyProof.Rows L2 Gx En
/-- what a locked dict is -/
structure Lk where
  d : Addr
  ob : Obj
  kvs : List (Key × V)
/-- an own dict with texts as keys, locked -/
def dlR {β : Type} (P : Program) (w : World) (H00 : Hp) (z : Lk) (S : Rp β) : Ro (List (Str × β)) := ⟨fun K W H D o xs => D = z.d ∧ o = .frz z.ob (dsO P w z.d z.kvs) ∧ Paired (DSp K W H S) z.kvs xs ∧ ∀ o' u', H00 z.d ≠ some (.frz o' u'),
  fun g ⟨e1, e, p, n⟩ => ⟨e1, e, Paired.imp2 (fun _ _ ⟨a, b⟩ => ⟨a, S.mono g b⟩) p, n⟩, fun ⟨_, e, _⟩ => .inr ⟨_, rfl, .inr ⟨z.ob, _, e⟩⟩, fun _ a => .ref a⟩
theorem dl_ft {β : Type} {P : Program} {w : World} {H00 : Hp} {z : Lk} {S : Rp β} {K : PySem.W.Frag} {W : WS} {H : Hp} {a : Addr} {o : HO} {x : List (Str × β)} (h : (dlR P w H00 z S).r K W H a o x) (n : ¬ W a) (e : H a = some o) : (ftR P w S).r K W H (.ref a) (id x) := by
  obtain ⟨rfl, rfl, p, _⟩ := h
  exact ⟨z.d, z.ob, z.kvs, rfl, n, e, p⟩
section
variable {E β γ : Type} {K : PySem.W.Frag} {c : Bc} {L : List (Sl E)} {σ : L2.St} {H : Hp} {e : E} {own : Own} {R : Ro β} {R' : Ro γ} {g : E → β} {g' : E → γ}
/-- an own object is seen otherwise -/
theorem St.reox (s : St K c L σ H e own) {i : Nat} (hL : L[i]? = some (.ox R g)) {d : Addr} (ho : own i = some d) (o' : HO) (hv : R.vl (g e) d = R'.vl (g' e) d) (hr : R'.r K (Wb c own) (upd H d o') d o' (g' e)) : St K c (L.set i (.ox R' g')) σ (upd H d o') e own := by
  have il : i < L.length := (List.getElem?_eq_some_iff.mp hL).1
  obtain ⟨d0, o, h1, h2, h3, h4, h5⟩ := s.slot i _ hL
  rw [ho] at h1
  cases h1
  have wd : Wb c own d := .inr ⟨i, ho⟩
  have ge : Ge (Wb c own) H (Wb c own) (upd H d o') := fun b u nb hb => ⟨nb, by rw [upd_ne (fun z => nb (by rw [z]; exact wd))]; exact hb⟩
  refine ⟨by simp [s.len], fun b u nb hb => ?_, fun b hb => ?_, s.bw, fun b hb => ?_, s.inj, fun j hj => ?_, fun j sl' hj => ?_⟩
  · rw [upd_ne (fun z => by rw [z, h3.1] at hb; cases hb)]
    exact s.stay b u nb hb
  · rw [upd_ne (fun z => h3.2 (by rw [← z]; exact hb))]
    exact s.dom b hb
  · obtain ⟨j, q1, q2⟩ := s.bs b hb
    have ne : j ≠ i := fun z => by
      subst z
      rw [hL] at q1
      cases q1
    exact ⟨j, by rw [List.getElem?_set_ne (Ne.symm ne)]; exact q1, q2⟩
  · have ne : j ≠ i := fun z => by
      subst z
      rw [List.getElem?_eq_none_iff, List.length_set] at hj
      omega
    rw [List.getElem?_set_ne (Ne.symm ne)] at hj
    exact s.out j hj
  · by_cases h : j = i
    · subst h
      rw [List.getElem?_set_self il] at hj
      cases hj
      exact ⟨d, o', ho, by rw [← hv]; exact h2, h3, upd_same, hr⟩
    · rw [List.getElem?_set_ne (Ne.symm h)] at hj
      have q := s.slot j sl' hj
      cases sl' with
      | any => exact q
      | im S' g' =>
        obtain ⟨q1, v', q2, q3⟩ := q
        exact ⟨q1, v', q2, S'.mono ge q3⟩
      | ow S' g' =>
        obtain ⟨b, ws, q1, q2, q3, q4, q5⟩ := q
        exact ⟨b, ws, q1, q2, q3, by rw [upd_ne (fun z => h (s.inj j i d (by rw [← z]; exact q1) ho))]; exact q4, S'.pmono ge q5⟩
      | ox R' g' =>
        obtain ⟨b, ws, q1, q2, q3, q4, q5⟩ := q
        exact ⟨b, ws, q1, q2, q3, by rw [upd_ne (fun z => h (s.inj j i d (by rw [← z]; exact q1) ho))]; exact q4, R'.mono ge q5⟩
      | sr =>
        obtain ⟨p, q1, q2, q3, x, y, q4, q5⟩ := q
        exact ⟨p, q1, q2, q3, x, y, by rw [upd_ne (fun z => h (s.inj j i d (by rw [← z]; exact q1) ho))]; exact q4, q5⟩
end
theorem dsp_own {E β : Type} {K : PySem.W.Frag} {c : Bc} {H : Hp} {own : Own} {S : Rp β} {d : Addr} {o' : HO} (wd : Wb c own d) {kvs : List (Key × V)} {xs : List (Str × β)} (pr : Paired (DSp K (Wb c own) H S) kvs xs) : Paired (DSp K (Wb c own) (upd H d o') S) kvs xs :=
  Paired.imp2 (fun _ _ ⟨a, b⟩ => ⟨a, S.mono (fun b u nb hb => ⟨nb, by rw [upd_ne (fun z => nb (by rw [z]; exact wd))]; exact hb⟩) b⟩) pr
section
variable {E β ρ ι : Type} {X : ι → Cx} {K : PySem.W.Frag} {R : RetR ρ} {L L' L1 : List (Sl E)} {S : Rp β} {P : Program} {w : World} {H00 : Hp} {g : E → List (Str × β)} {i : Nat}
/-- an own dict is locked -/
theorem ts_lockS {ss : List Stmt} {wst : E → Kn E ρ → Prop} (hL : L[i]? = some (.ox (dsR P w S) g)) (h0 : ∀ j, (X j).H_0 = H00) (h : ∀ z, ∃ w', TS X K R (L.set i (.ox (dlR P w H00 z S) g)) L' ss w' ∧ w' = wst) : TS X K R L L' ss wst := by
  have h' : ∀ z, TS X K R (L.set i (.ox (dlR P w H00 z S) g)) L' ss wst := fun z => by
    obtain ⟨w', q, e⟩ := h z
    rw [← e]
    exact q
  have m : MonoS wst := (h' ⟨0, { cls := .none, data := .dict #[] }, []⟩).mono
  let t : Lk → L2.TS := fun z => Classical.choose (h' z).ex
  have ht : ∀ z, _ := fun z => Classical.choose_spec (h' z).ex
  have pt : ∀ j, PSs (X j) ss (fun D σ H => ∃ d kvs, H d = some (dsO P w d kvs) ∧ ∀ od, (∀ o' u', H00 d ≠ some (.frz o' u')) → t ⟨d, od, kvs⟩ D σ (upd H d (.frz od (dsO P w d kvs)))) := fun j => ⟨fun pins s σ H D I ⟨d, kvs, hd, hw⟩ => by
    have nf := I.nofrz hd trivial
    rw [h0 j] at nf
    obtain ⟨od, I1⟩ := I.lock hd trivial
    exact ((ht ⟨d, od, kvs⟩).1 j).run pins s σ _ D I1 (hw od nf)⟩
  refine ⟨m, _, pt, fun c σ H env own D s hw => ?_⟩
  obtain ⟨d, o, q1, q2, q3, q4, kvs, eo, pr⟩ := s.slot i _ hL
  subst eo
  exact ⟨d, kvs, q4, fun od nf => (ht ⟨d, od, kvs⟩).2 c σ _ env _ D (s.reox hL q1 _ rfl ⟨rfl, rfl, dsp_own (E := E) (.inr ⟨i, q1⟩) pr, nf⟩) hw⟩
/-- a locked own dict is unlocked, the library's, and stays, from here on -/
theorem TS1.unlockS {z : Lk} {st : Stmt} {wst : E → Kn E ρ → Prop} (hL : L[i]? = some (.ox (dlR P w H00 z S) g)) (h1 : L.set i (.im (dicR S) g) = L1) (hP : ∀ j, (X j).prog = P ∧ (X j).w = w) (h0 : ∀ j, (X j).H_0 = H00) (h : TS1 X K R L1 L' st wst) : TS1 X K R L L' st wst := by
  subst h1
  obtain ⟨t, p, f⟩ := h.ex
  have pt : ∀ j, PS (X j) st (fun D σ H => ∃ d ob kvs, H d = some (.frz ob (dsO P w d kvs)) ∧ (∀ o' u', H00 d ≠ some (.frz o' u')) ∧ t D σ (upd H d (.dK kvs))) := fun j => ⟨fun pins s σ H D I ⟨d, ob, kvs, hd, nf, hw⟩ => by
    have nf' : ∀ o' u', (X j).H_0 d ≠ some (.frz o' u') := by rw [h0 j]; exact nf
    have I1 := I.unlock hd nf'
    have e : upd H d (dsO P w d kvs) d = some (dsO (X j).prog (X j).w d kvs) := by rw [(hP j).1, (hP j).2]; exact upd_same
    have I2 := tagI I1 e
    rw [upd2] at I2
    exact (p j).run pins s σ _ D I2 hw⟩
  refine ⟨h.mono, _, pt, fun c σ H env own D s hw => ?_⟩
  obtain ⟨d, o, q1, q2, q3, q4, ed, eo, pr, nf⟩ := s.slot i _ hL
  subst ed eo
  have wd : Wb c own z.d := .inr ⟨i, q1⟩
  refine ⟨z.d, z.ob, z.kvs, q4, nf, f c σ _ env _ D (s.thaw hL q1 _ (v := .ref z.d) q2 fun nd => ⟨z.d, z.kvs, rfl, nd, upd_same, ?_⟩) hw⟩
  have sub : ∀ a, Wb c (noOwn own i) a → Wb c own a := by
    rintro a (y | ⟨j, y⟩)
    · exact .inl y
    · unfold noOwn at y
      split at y
      · cases y
      · exact .inr ⟨j, y⟩
  exact Paired.imp2 (fun _ _ ⟨a, b⟩ => ⟨a, S.mono (fun b u nb hb => ⟨fun y => nb (sub b y), by rw [upd_ne (fun y => nb (by rw [y]; exact wd))]; exact hb⟩) b⟩) pr
/-- for number, name in enumerate(d, start=k): .., d an own dict that is locked -/
theorem ts_forDL {z : Lk} {es : List Expr} {kk j0 : Nat} {tpos p3 p4 p pos pos2 p5 : Pos} {k0 : Int} {x : Str} {body : List Stmt} {Lin Lout : List (Sl (E × (Int × Str)))} {wb : E × (Int × Str) → Kn (E × (Int × Str)) ρ → Prop} {is : List Nat} (hp : ∀ j, PassesOwn (model (X j).prog (X j).w) (X j).A (X j).env (X j).xe) (hc : ∀ j, (X j).calm = true) (hk0 : -(2 ^ 63) ≤ k0) (hk1 : k0 < 2 ^ 63) (hP : ∀ j, (X j).prog = P ∧ (X j).w = w) (hg : ∀ j, Gl (X j) "enumerate") (hm : ∀ j, (X j).mg "enumerate" = none)
    (hL : L[i]? = some (.ox (dlR P w H00 z S) g)) (hN : ∀ j, (X j).N[i]? = some x) (hv : ∀ j, Vis (X j).env.scope x) (ht : TGt X K L (prR intR strR) (.Tuple es kk tpos) is Lin) (hb : TS X K R Lin Lout body wb) (hsub : Sub Prod.fst Lout L)
    (hd : (x == ("__debug__" : Str)) = false := by decide) (hcd : (x == ("__classdict__" : Str)) = false := by decide) (hs2 : ∀ j, starEach [.Name x p5] (X j).env = [(false, eval (.Name x p5) (X j).env)] := by intro _; rfl)
    (hs : ∀ j y, foldedSetIterable (.Call (.Name "enumerate" p) [.Name x p5] [⟨some "start", .Constant (.int k0) j0 p3, p4⟩] pos2) (X j).env y = pure y := by intro _ _; rfl) :
    TS1 X K R L L (.For (.Tuple es kk tpos) (.Call (.Name "enumerate" p) [.Name x p5] [⟨some "start", .Constant (.int k0) j0 p3, p4⟩] pos2) body [] pos) (fun env k => wFor wb ((g env).zipIdx.map fun q => (k0 + (q.2 : Int), q.1.1)) env k) := by
  obtain ⟨gt, pg, fg⟩ := ht.ex
  obtain ⟨t, pb, fb⟩ := hb.ex
  refine ⟨fun e k k' hn hr hw => wFor.mono hb.mono _ e k k' hn hr hw, _, fun j => ps_for (hp j) (hc j) (by
    have q := pi_enumD (elts := es) (kk := kk) (j := j0) (k := k0) (tpos := tpos) (pos := pos2) (p := p) (p3 := p3) (p4 := p4) hk0 hk1 (hg j) (hm j) (pa_cons (pe_var (hN j) (hv j) hd hcd) pa_nil (hs2 j)) (hs2 j)
    rw [(hP j).1, (hP j).2] at q
    exact q) (pg j) (pb j) (hs j), fun c σ H env own D s hw => ?_⟩
  obtain ⟨d, o, q1, q2, q3, q4, ed, eo, pr, nf⟩ := s.slot i _ hL
  subst ed eo
  refine ⟨.ref z.d, q2, z.d, z.ob, z.kvs, rfl, q4, ?_⟩
  have ll := Paired.length pr
  have P1 := s.pin
  generalize hxs : ((g env).zipIdx.map fun q => (k0 + (q.2 : Int), q.1.1)) = xs at hw
  have lx : xs.length = z.kvs.length := by rw [← hxs, List.length_map, List.length_zipIdx, ll]
  refine for_it (J := IteD (dsO P w z.d z.kvs) z.d z.ob z.kvs k0) (n := xs.length) (G := fun H' => H' z.d = some (.frz z.ob (dsO P w z.d z.kvs))) (Y := fun i H v H' => (IteD (dsO P w z.d z.kvs) z.d z.ob z.kvs k0).yld i H v H') ⟨fun i H lt hq => ⟨hq, by omega⟩, fun H hq => ⟨hq, lx⟩, fun i H x H' _ _ y => y⟩ (fun i σ' H' => ∃ e' own', St K (pinB c own H) L σ' H' e' own' ∧ wFor wb (xs.drop i) e' (kon K R L c D)) ⟨env, own, s.pinned, hw⟩ (fun i' σ' H' _ ⟨e', own', s', _⟩ => ?_) (fun i' v σ' H2 H3 hi zz y => ?_) (fun σ' H' ⟨e', own', s', hw'⟩ => ?_)
  · obtain ⟨d', o', r1, r2, r3, r4, ed', eo', _⟩ := s'.slot i _ hL
    subst ed' eo'
    exact r4
  · obtain ⟨e', own', s', hw'⟩ := zz
    obtain ⟨T, key, u, rfl, hT, rfl, hkv⟩ := y
    obtain ⟨x2, hx2, rx⟩ := Paired.at2 pr hkv
    have hx' : xs[i']? = some (k0 + (i' : Int), x2.1) := by
      rw [← hxs, List.getElem?_map, List.getElem?_zipIdx, hx2]
      simp
    have ed : xs.drop i' = (k0 + (i' : Int), x2.1) :: xs.drop (i' + 1) := by
      obtain ⟨q1, q2⟩ := List.getElem?_eq_some_iff.mp hx'
      rw [← q2]
      exact List.drop_eq_getElem_cons q1
    rw [ed] at hw'
    have s2 := s'.ex (s'.exSame (Same.new (o := .tup [.int (k0 + (i' : Nat)), kV key]) hT))
    have rx' : (prR intR strR).r K (Wb (pinB c own H) own') (upd H2 T (.tup [.int (k0 + (i' : Nat)), kV key])) (.ref T) (k0 + (i' : Int), x2.1) := ⟨T, _, _, rfl, TW.of (s'.fresh hT) upd_same, rfl, by
      show kV key = V.str x2.1
      rw [show key = Sum.inr x2.1 from rx.1]
      rfl⟩
    refine fg _ σ' _ e' own' (k0 + (i' : Int), x2.1) _ _ s2 rx' fun σ3 own3 s3 _ => ?_
    exact fb _ σ3 _ (e', _) own3 _ s3 (hb.mono _ ⟨fun e2 => wFor wb (xs.drop (i' + 1)) e2.1 (kon K R L c D), (kon K R L c D).rt⟩ _ (fun e2 h2 σ4 H4 own4 s4 => ⟨e2.1, _, s4.sub hsub, h2⟩) (fun r hr => R.pin P1 hr) hw')
  · rw [List.drop_eq_nil_of_le (Nat.le_refl _)] at hw'
    exact hw' σ' H' own' (St.unpin P1 s')
end
/-! ### a value and a new dict are told -/
def retPD {α β : Type} (A : Rp α) (P : Program) (w : World) (S : Rp β) : RetR (α × List (Str × β)) := ⟨fun K c Q r => ∀ v H', (Bk c H' ∧ ∃ t d kvs v1, v = .ref t ∧ TW K (fun a => c.W a ∨ a = d) H' t [v1, .ref d] ∧ A.r K (fun a => c.W a ∨ a = d) H' v1 r.1 ∧ c.H0 d = none ∧ ¬ c.B d ∧ H' d = some (dsO P w d kvs) ∧ Paired (DSp K (fun a => c.W a ∨ a = d) H' S) kvs r.2) → Q v H',
  by
    rintro K c c' Q x p k v H' ⟨h1, t, d, kvs, v1, e, tw, ra, n, nb, h, q⟩
    exact k v H' ⟨h1.pin p, t, d, kvs, v1, e, by rw [← p.W]; exact tw, by rw [← p.W]; exact ra, p.none nb n, fun z => nb (by rw [p.B]; exact z), h, by rw [← p.W]; exact q⟩⟩
section
variable {E α β ρ τ ι : Type} {X : ι → Cx} {K : PySem.W.Frag} {L L' : List (Sl E)} {A0 : Rp α} {S : Rp β} {P : Program} {w : World} {g : E → List (Str × β)} {ea : Expr} {j : Nat} {x y : Str} {wa : E → (α → Prop) → Prop}
theorem ts_retPD {k0 : Nat} {p2 px pos : Pos} (hL : L[j]? = some (.ox (dsR P w S) g)) (hN : ∀ i, (X i).N[j]? = some y) (hv : ∀ i, Vis (X i).env.scope y) (ha : TX X K L A0 ea wa) (hd : (y == ("__debug__" : Str)) = false := by decide) (hcd : (y == ("__classdict__" : Str)) = false := by decide)
    (hs : ∀ i, starEach [ea, .Name y px] (X i).env = (false, eval ea (X i).env) :: starEach [.Name y px] (X i).env := by intro _; rfl) (hs2 : ∀ i, starEach [.Name y px] (X i).env = (false, eval (.Name y px) (X i).env) :: starEach [] (X i).env := by intro _; rfl) :
    TS1 X K (retPD A0 P w S) L L' (.Return (some (.Tuple [ea, .Name y px] k0 p2)) pos) (fun env k => wa env fun a => k.rt (a, g env)) := by
  obtain ⟨t, p, f⟩ := ha.ex
  refine ⟨fun e k k' _ hr hw => ha.mono _ _ _ (fun a h => hr _ h) hw, _, fun i => ps_ret (pe_tup (pa_cons (p i) (pa_cons (pe_var (hN i) (hv i) hd hcd) pa_nil (hs2 i)) (hs i))), fun c σ H env own D s hw => ?_⟩
  refine f c σ H env own _ s (ha.mono _ _ _ (fun a hk v1 H1 x1 r1 => ?_) hw)
  have s1 := s.ex x1
  obtain ⟨d, o, q1, q2, q3, q4, kvs, rfl, pr⟩ := s1.slot j _ hL
  refine ⟨.ref d, q2, by show 2 ≤ sizeLine; decide, fun t0 ht => hk _ _ ⟨s.bk (x1.trans (s1.exSame (Same.new ht))), t0, d, kvs, v1, rfl, ?_, ?_, q3.1, fun z => ?_, ?_, ?_⟩⟩
  · refine TW.of (fun z => ?_) upd_same
    rcases z with z | z
    · exact s1.fresh ht (.inl z)
    · subst z
      rw [q4] at ht
      cases ht
  · refine A0.mono (fun b u nb hb => ⟨fun z => nb ?_, Same.new ht b u hb⟩) r1
    rcases z with z | z
    · exact .inl z
    · exact .inr ⟨j, by rw [z]; exact q1⟩
  · exact q3.2 (s1.bw _ z)
  · exact Same.new ht d _ q4
  · refine Paired.imp2 (fun _ _ ⟨a, b⟩ => ⟨a, S.mono (fun b u nb hb => ⟨fun z => nb ?_, Same.new ht b u hb⟩) b⟩) pr
    rcases z with z | z
    · exact .inl z
    · exact .inr ⟨j, by rw [z]; exact q1⟩
/-- x, y = f(..), which may raise -/
theorem ts_callPD {R : RetR ρ} {EX : XK} {A : Ar τ} {k i : Nat} {f : Str} {e : Expr} {es : List Expr} {px py pt pos p pos2 : Pos} {kt : Nat} {set : E → α × List (Str × β) → E} {wsp : τ → ((Er ⊕ (α × List (Str × β))) → Prop) → Prop} {wt : E → (τ → Prop) → Prop}
    (cl : ∀ i, Ca (X i).prog (X i).w (X i).K (X i).mg (X i).base (L2.CX (X i).prog (X i).w) k f (spX K A (retPD A0 P w S) wsp)) (mw : ∀ x k k', (∀ y, k y → k' y) → wsp x k → wsp x k') (hr : ∀ i, Room k (X i).A) (hg : ∀ i, Gl (X i) f) (tk : ∀ i, Takes (X i) (WOut EX)) (ha : TA X K L A (e :: es) wt)
    (ne : i ≠ j) (hc : ∀ k, (X k).calm = true) (hN : ∀ k, (X k).N.Nodup) (hi : ∀ k, (X k).N[i]? = some x) (hj : ∀ k, (X k).N[j]? = some y) (hx : ∀ k, Loc (X k).env.scope x) (hy : ∀ k, Loc (X k).env.scope y) (ok1 : okI L i = true) (ok2 : okI L j = true)
    (hsub : Sub (fun e : E × (α × List (Str × β)) => set e.1 e.2) (((lift (α × List (Str × β)) L).set j (.ox (dsR P w S) fun e => e.2.2)).set i (.im A0 fun e => e.2.1)) L')
    (hK : ∀ k, (X k).K = K := by intro _; rfl) (hf : ∀ k, (X k).fn x = true ∨ (X k).env.scope.names.lookup x = some .local := by intro _; first | exact .inl rfl | exact .inr rfl) (hf2 : ∀ k, (X k).fn y = true ∨ (X k).env.scope.names.lookup y = some .local := by intro _; first | exact .inl rfl | exact .inr rfl)
    (hdb : (f == ("__debug__" : Str)) = false := by decide) (he : ∀ i, starEach (e :: es) (X i).env = (false, eval e (X i).env) :: starEach es (X i).env := by intro _; rfl) (hpl : ∀ i, (backTo pos2 (starEach es (X i).env)).any (·.1) = false := by intro _; rfl)
    (hs : ∀ k, swapsWithSole [.Tuple [.Name x px, .Name y py] kt pt] (.Call (.Name f p) (e :: es) [] pos2) pos.line (X k).env = pure false := by intro _; rfl)
    (hw : ∀ k, swappedStores [.Tuple [.Name x px, .Name y py] kt pt] (.Call (.Name f p) (e :: es) [] pos2) (X k).env = pure none := by intro _; rfl)
    (h0 : ∀ k, (assignEach [.Tuple [.Name x px, .Name y py] kt pt] (X k).env).map (·.2) = [assign (.Tuple [.Name x px, .Name y py] kt pt) (X k).env] := by intro _; rfl)
    (hn : ∀ j, (assignEach [.Name x px, .Name y py] (X j).env).length = 2 := by intro _; rfl) (hst : ∀ j, (assignEach [.Name x px, .Name y py] (X j).env).findIdx? (·.1) = none := by intro _; rfl)
    (hp3 : ∀ j, (assignEach [.Name x px, .Name y py] (X j).env).map (·.2) = assign (.Name x px) (X j).env :: (assignEach [.Name y py] (X j).env).map (·.2) := by intro _; rfl) (hp4 : ∀ j, (assignEach [.Name y py] (X j).env).map (·.2) = assign (.Name y py) (X j).env :: (assignEach [] (X j).env).map (·.2) := by intro _; rfl) :
    TS1 X K (retX R EX) L L' (.Assign [.Tuple [.Name x px, .Name y py] kt pt] (.Call (.Name f p) (e :: es) [] pos2) pos) (fun env kn => wt env fun q => wsp q fun r => match r with | .inl er => kn.rt (.inl er) | .inr z => kn.nx (set env z)) := by
  obtain ⟨t, pta, ft⟩ := ha.ex
  refine ⟨fun e k k' hn hr' hw => ha.mono _ _ _ (fun q hq => mw _ _ _ (fun r hr => ?_) hq) hw, _, fun k => by
    have q := ps_asg (pe_caS (p := p) (pos := pos2) (E := WE (WOut EX)) (cl k) (hr k) (hg k) (fun σ => passAt (tk k) σ) (pta k) hdb (he k) (hpl k)) (pg_tup (k := kt) (pos := pt) (hc k) (pgs_cons (pg_name (i := i) (hN k) (hi k) (hx k) (hf k)) (pgs_cons (pg_name (i := j) (hN k) (hj k) (hy k) (hf2 k)) pgs_nil (hp4 k)) (hp3 k)) (hn k) (hst k)) (hs k) (hw k) (h0 k)
    rw [hK k] at q
    exact q, fun c σ H env own D s hw => ?_⟩
  · cases r
    · exact hr' _ hr
    · exact hn _ hr
  · refine ft c σ H env own _ s (ha.mono _ _ _ (fun q hq vs H1 x1 ok => ?_) hw)
    have s1 := s.ex x1
    refine ⟨Wb c own, q, fun a z => s1.hasW z, bof_sr s1 ok, mw _ _ _ (fun r hr => ?_) hq⟩
    match r, hr with
    | .inl er, hr => exact fun d H' b q => hr d H' ((s1.ex (s1.exRefl)).bk (Bk.ex s1 ok b)) q
    | .inr z, hr =>
      rintro v H' ⟨b, t0, d, kvs, v1, rfl, tw, ra, n, nb, hd, pr⟩
      have x2 := Bk.ex s1 ok b
      refine ⟨t0, _, rfl, tw.sq, rfl, v1, _, rfl, _, _, rfl, rfl, ?_⟩
      have s2 := s1.lift z
      have s3 := s2.setX ⟨fun a o na => x2.st a o fun q => na (Sr.lift.mpr q), fun a q => x2.sr a (Sr.lift.mp q)⟩ (okI_lift ok2) (dsR P w S) (fun e => e.2.2) n hd ⟨kvs, rfl, pr⟩
      have less : ∀ a, Wb c (putO own j (some d)) a → Wb c own a ∨ a = d := fun a q => by
        rcases q with q | ⟨l, q⟩
        · exact .inl (.inl q)
        · by_cases h : l = j
          · subst h
            rw [putO_self] at q
            exact .inr (Option.some.inj q).symm
          · rw [putO_ne h] at q
            exact .inl (.inr ⟨l, q⟩)
      have s4 := s3.setI (by
        obtain ⟨s0, e0, n0⟩ := okI_lift (α := α × List (Str × β)) ok1
        exact ⟨s0, by rw [List.getElem?_set_ne (Ne.symm ne)]; exact e0, n0⟩) A0 (fun e => e.2.1) (A0.mono (Ge.less less) ra)
      have eσ : (σ.set j (some (V.ref d))).set i (some v1) = (σ.set i (some v1)).set j (some (V.ref d)) := List.set_comm _ _ (Ne.symm ne)
      rw [eσ] at s4
      exact hr _ _ _ (s4.sub hsub)
end
/-! ### two kinds in one -/
def sumR {α β : Type} (S : Rp α) (T : Rp β) : Rp (α ⊕ β) := ⟨fun K W H v x => match x with | .inl y => S.r K W H v y | .inr y => T.r K W H v y, fun {K W W' H H' v x} g h => match x, h with | .inl _, h => S.mono g h | .inr _, h => T.mono g h⟩
def getL {α β : Type} (d : α) : α ⊕ β → α | .inl x => x | .inr _ => d
def getR {α β : Type} (d : β) : α ⊕ β → β | .inl _ => d | .inr x => x
section
variable {E α β ρ ι : Type} {X : ι → Cx} {K : PySem.W.Frag} {R : RetR ρ} {L L' LA LB : List (Sl E)} {S : Rp α} {T : Rp β} {e : Expr} {ss : List Stmt} {i : Nat} {g : E → α ⊕ β}
theorem tx_inl {wa : E → (α → Prop) → Prop} (h : TX X K L S e wa) : TX X K L (sumR S T) e (fun env k => wa env fun x => k (.inl x)) := by
  obtain ⟨t, p, f⟩ := h.ex
  exact ⟨fun e k k' hk hw => h.mono _ _ _ (fun x hx => hk _ hx) hw, t, p, fun c σ H env own Q s hw => f c σ H env own Q s (h.mono _ _ _ (fun x hx v H' x' r => hx v H' x' r) hw)⟩
theorem tx_inr {wa : E → (β → Prop) → Prop} (h : TX X K L T e wa) : TX X K L (sumR S T) e (fun env k => wa env fun x => k (.inr x)) := by
  obtain ⟨t, p, f⟩ := h.ex
  exact ⟨fun e k k' hk hw => h.mono _ _ _ (fun x hx => hk _ hx) hw, t, p, fun c σ H env own Q s hw => f c σ H env own Q s (h.mono _ _ _ (fun x hx v H' x' r => hx v H' x' r) hw)⟩
theorem St.asI {K : PySem.W.Frag} {c : Bc} {σ : L2.St} {H : Hp} {env : E} {own : Own} {α' : Type} {S' : Rp α'} {g' : E → α'} (s : St K c L σ H env own) (hL : L[i]? = some (.im (sumR S T) g)) (hr : ∀ v, (sumR S T).r K (Wb c own) H v (g env) → S'.r K (Wb c own) H v (g' env)) : St K c (L.set i (.im S' g')) σ H env own := by
  have il : i < L.length := (List.getElem?_eq_some_iff.mp hL).1
  refine ⟨by simp [s.len], s.stay, s.dom, s.bw, fun b hb => ?_, s.inj, fun j hj => ?_, fun j sl' hj => ?_⟩
  · obtain ⟨j, q1, q2⟩ := s.bs b hb
    have ne : j ≠ i := fun z => by
      subst z
      rw [hL] at q1
      cases q1
    exact ⟨j, by rw [List.getElem?_set_ne (Ne.symm ne)]; exact q1, q2⟩
  · have ne : j ≠ i := fun z => by
      subst z
      rw [List.getElem?_eq_none_iff, List.length_set] at hj
      omega
    rw [List.getElem?_set_ne (Ne.symm ne)] at hj
    exact s.out j hj
  · by_cases h : j = i
    · subst h
      rw [List.getElem?_set_self il] at hj
      cases hj
      obtain ⟨q1, v, q2, q3⟩ := s.slot j _ hL
      exact ⟨q1, v, q2, hr v q3⟩
    · rw [List.getElem?_set_ne (Ne.symm h)] at hj
      exact s.slot j sl' hj
/-- statements, typed by which of two kinds a name has -/
theorem ts_caseS (da : α) (db : β) {wA wB : E → Kn E ρ → Prop} (hL : L[i]? = some (.im (sumR S T) g)) (hA : L.set i (.im S fun e => getL da (g e)) = LA) (hB : L.set i (.im T fun e => getR db (g e)) = LB) (h1 : TS X K R LA L' ss wA) (h2 : TS X K R LB L' ss wB) :
    TS X K R L L' ss (fun env k => match g env with | .inl _ => wA env k | .inr _ => wB env k) := by
  subst hA hB
  obtain ⟨t1, p1, f1⟩ := h1.ex
  obtain ⟨t2, p2, f2⟩ := h2.ex
  refine ⟨fun e k k' hn hr hw => ?_, _, fun j => PSs.or (p1 j) (p2 j), fun c σ H env own D s hw => ?_⟩
  · cases h : g e with
    | inl x =>
      rw [h] at hw
      exact h1.mono _ _ _ hn hr hw
    | inr x =>
      rw [h] at hw
      exact h2.mono _ _ _ hn hr hw
  · cases h : g env with
    | inl x =>
      rw [h] at hw
      exact .inl (f1 c σ H env own D (s.asI hL fun v q => by
        rw [h] at q ⊢
        exact q) hw)
    | inr x =>
      rw [h] at hw
      exact .inr (f2 c σ H env own D (s.asI hL fun v q => by
        rw [h] at q ⊢
        exact q) hw)
end
end Tx
/-! isinstance(x, (list, tuple)); a text's sign drawn -/
namespace Tx
open PySem PySem.Spec PyProof.Rows L2 Gx En
def rEqNil (K : PySem.W.Frag) : R2 := fun x y H Q => ∃ a b xs, x = .ref a ∧ y = .ref b ∧ SqL K H a xs ∧ SqL K H b [] ∧ Q (.bl xs.isEmpty) H
theorem op_eqNil {X : Cx} (hu : X.A.units < cLine) : OpR X (compareOp .Eq) (rEqNil X.K) := by
  intro pins s σ H x y v u Q I rx ry h
  obtain ⟨a, b, xs, rfl, rfl, ha, hb, q⟩ := h
  cases rx
  cases ry
  obtain ⟨us, r, pl, _⟩ := I.list ha
  obtain ⟨us2, r2, pl2, _⟩ := I.list hb
  cases r2
  cases r with
  | nil =>
    have z := SeqAt.eq_listAt (prog := X.prog) (w := X.w) (A := X.A) (E := X.xe) (s := s) (e := fun _ => true) (Q := EP X pins σ Q) pl.isList pl2.isList rfl hu (fun j h1 => absurd h1 (Nat.not_lt_zero j)) ⟨.bl _, H, I, rfl, q⟩
    exact z
  | cons r t => exact SeqAt.eq_list_lengthsAt pl.isList pl2.isList (by simp) hu ⟨.bl _, H, I, rfl, q⟩
theorem op_eqNilK {X : Cx} {K : PySem.W.Frag} (h : X.K = K) (hu : X.A.units < cLine) : OpR X (compareOp .Eq) (rEqNil K) := h ▸ op_eqNil hu
theorem v_eqNil {α β : Type} {K : PySem.W.Frag} {S : Rp α} {T : Rp β} : VR2 K (lstR S) (lstR T) boolR (rEqNil K) (fun xs ys k => ys = [] ∧ k xs.isEmpty) := ⟨fun x y k k' h h2 => ⟨h2.1, h _ h2.2⟩, fun W H xs ys v u Q fr r1 r2 ⟨e0, q⟩ => by
  subst e0
  obtain ⟨a, vs, rfl, n, e, p⟩ := r1
  obtain ⟨b, us, rfl, n', e', p'⟩ := r2
  cases p'
  refine ⟨a, b, vs, rfl, rfl, SqL.of e, SqL.of e', ?_⟩
  have z := q (.bl xs.isEmpty) H (Same.refl _) rfl
  cases p <;> exact z⟩
theorem entR.nn : NN entR := by
  rintro K W H v x ⟨a, w, l, rfl, _⟩
  exact nofun
section
variable {E α β : Type} {ι : Type} {X : ι → Cx} {K : PySem.W.Frag} {W : WX} {L : List (Sl E)} {S : Rp α} {T : Rp β} {e : Expr}
theorem txx_inr {w : E → ((Er ⊕ β) → Prop) → Prop} (h : TXx X W K L T e w) : TXx X W K L (sumR S T) e (fun env k => w env fun r => match r with | .inl er => k (.inl er) | .inr x => k (.inr (.inr x))) := by
  obtain ⟨t, p, f⟩ := h.ex
  refine ⟨fun e k k' hk hw => h.mono _ _ _ (fun x hx => ?_) hw, t, p, fun c σ H env own Q s hw => f c σ H env own Q s (h.mono _ _ _ (fun x hx => ?_) hw)⟩
  · cases x <;> exact hk _ hx
  · match x, hx with
    | .inl x, hx => exact hx
    | .inr x, hx => exact fun v H' x' r => hx v H' x' r
/-- a chain's value -/
theorem tx_chainG {E α β γ : Type} {ι : Type} {X : ι → Cx} {K : PySem.W.Frag} {L : List (Sl E)} {S : Rp α} {T : Rp β} {U : Rp γ} {a b cc : Expr} {pos : Pos} {op op' : CmpOp} {r r' : R2} {wa : E → (α → Prop) → Prop} {wb : E → (β → Prop) → Prop} {wc : E → (γ → Prop) → Prop} {w1 : α → β → (Bool → Prop) → Prop} {w2 : β → γ → (Bool → Prop) → Prop} (ho : ∀ i, OpR (X i) (compareOp op) r) (ho' : ∀ i, OpR (X i) (compareOp op') r') (v : VR2 K S T boolR r w1) (v' : VR2 K T U boolR r' w2) (hf : Flat T) (ha : TX X K L S a wa) (hb : TX X K L T b wb) (hc : TX X K L U cc wc) (hm : lastMarks [op, op'] [b, cc] = false := by rfl) :
    TX X K L boolR (.Compare a [op, op'] [b, cc] pos) (fun env k => wa env fun x => wb env fun y => w1 x y fun z => if z = true then wc env fun u => w2 y u k else k false) := by
  obtain ⟨t1, p1, f1⟩ := ha.ex
  obtain ⟨t2, p2, f2⟩ := hb.ex
  obtain ⟨t3, p3, f3⟩ := hc.ex
  refine ⟨fun e k k' h hw => ha.mono _ _ _ (fun x hx => hb.mono _ _ _ (fun y hy => v.mono _ _ _ _ (fun z hz => ?_) hy) hx) hw, _, fun i => pe_chain (ho i) (ho' i) (p1 i) (p2 i) (p3 i) hm, fun c σ H env own Q s hw => ?_⟩
  · cases z
    · exact h _ hz
    · exact hc.mono _ _ _ (fun u hu => v'.mono _ _ _ _ h hu) hz
  · refine f1 c σ H env own _ s (ha.mono _ _ _ (fun x hx v1 H1 x1 r1 => ?_) hw)
    refine f2 c σ H1 env own _ (s.ex x1) (hb.mono _ _ _ (fun y hy v2 H2 x2 r2 => ?_) hx)
    have s2 := (s.ex x1).ex x2
    refine v.run (Wb c own) H2 x y v1 v2 _ (fun l hl => s2.fresh hl) (S.mono x2.ge r1) r2 (v.mono _ _ _ _ (fun z hz z' H3 k3 r3 => ?_) hy)
    have s3 := s2.ex (s2.exSame k3)
    refine ⟨z, r3, ?_⟩
    cases z
    · exact hz _ _ (x1.trans (x2.trans (s2.exSame k3))) rfl
    · refine f3 c σ H3 env own _ s3 (hc.mono _ _ _ (fun u hu v4 H4 x4 r4 => ?_) hz)
      have s4 := s3.ex x4
      refine v'.run (Wb c own) H4 y u v2 v4 _ (fun l hl => s4.fresh hl) (hf r2) r4 (v'.mono _ _ _ _ (fun z2 hz2 z2' H5 k5 r5 => ?_) hu)
      exact hz2 _ _ (x1.trans (x2.trans ((s2.exSame k3).trans (x4.trans (s4.exSame k5))))) r5
/-- a draw out of a text -/
def wPickS : Str × Unit → (Str → Prop) → Prop := fun x k => 0 < x.1.length ∧ x.1.length < 1000000 ∧ ∀ c ∈ x.1.cps.toList, k ⟨#[c]⟩
theorem wPickS_mono : ∀ x k k', (∀ y, k y → k' y) → wPickS x k → wPickS x k' := fun _ _ _ h ⟨a, b, c⟩ => ⟨a, b, fun r h1 => h _ (c r h1)⟩
theorem b_pickS {K : PySem.W.Frag} : ∀ vs H Q E, spT K (.src (.cons strR .nil)) (retI strR) wPickS vs H Q E → spPick K vs H Q E := fun vs H Q E ⟨W, x, d, ⟨p, us, e, ⟨wp, sp⟩, v, us', e2, r, e3⟩, h1, h2, q⟩ => by
  subst e e2
  rw [show us' = [] from e3, show v = V.str _ from r] at *
  exact ⟨p, .str x.1, rfl, sp, .inr ⟨x.1, rfl, h1, h2, fun c o hc so => q c hc _ _ ⟨bk1 (fun a => bof1 (nos1 nos0)) (fun b o hb h => by rw [upd_ne hb]; exact h) (SrcAt.put so), rfl⟩⟩⟩
end
section
variable {E α : Type} {ι : Type} {X : ι → Cx} {K : PySem.W.Frag} {L : List (Sl E)} {S : Rp α} {e : Expr} {pos p p2 p3 p4 : Pos} {wa : E → (List α → Prop) → Prop}
theorem call_isiTK {X : Cx} {K : PySem.W.Frag} (h : X.K = K) : CallR X (.builtin "isinstance") (rIsiT K) := h ▸ call_isiT
theorem tx_isiLT {k0 : Nat} (hK : ∀ i, (X i).K = K) (hg : ∀ i, Gl (X i) "isinstance") (hm : ∀ i, (X i).mg "isinstance" = none) (hb : bootBuiltins "isinstance" = some (.builtin "isinstance")) (hg1 : ∀ i, Gl (X i) "list") (hm1 : ∀ i, (X i).mg "list" = none) (hb1 : bootBuiltins "list" = some (.type "list")) (hg2 : ∀ i, Gl (X i) "tuple") (hm2 : ∀ i, (X i).mg "tuple" = none) (hb2 : bootBuiltins "tuple" = some (.type "tuple")) (h : TX X K L (lstR S) e wa)
    (he : ∀ i, starEach [e, .Tuple [.Name "list" p2, .Name "tuple" p3] k0 p4] (X i).env = (false, eval e (X i).env) :: starEach [.Tuple [.Name "list" p2, .Name "tuple" p3] k0 p4] (X i).env := by intro _; rfl)
    (he2 : ∀ i, starEach [.Tuple [.Name "list" p2, .Name "tuple" p3] k0 p4] (X i).env = (false, eval (.Tuple [.Name "list" p2, .Name "tuple" p3] k0 p4) (X i).env) :: starEach [] (X i).env := by intro _; rfl)
    (he3 : ∀ i, starEach [.Name "list" p2, .Name "tuple" p3] (X i).env = (false, eval (.Name "list" p2) (X i).env) :: starEach [.Name "tuple" p3] (X i).env := by intro _; rfl) (he4 : ∀ i, starEach [.Name "tuple" p3] (X i).env = (false, eval (.Name "tuple" p3) (X i).env) :: starEach [] (X i).env := by intro _; rfl)
    (hpl : ∀ i, (backTo pos (starEach [.Tuple [.Name "list" p2, .Name "tuple" p3] k0 p4] (X i).env)).any (·.1) = false := by intro _; rfl) :
    TX X K L boolR (.Call (.Name "isinstance" p) [e, .Tuple [.Name "list" p2, .Name "tuple" p3] k0 p4] [] pos) (fun env k => wa env fun _ => k true) := by
  obtain ⟨t, pt, f⟩ := h.ex
  refine ⟨fun e k k' hk hw => h.mono _ _ _ (fun x hx => hk _ hx) hw, _, fun i => pe_callB (call_isiTK (hK i)) (hg i) (hm i) hb (pa_cons (pt i) (pa_cons (pe_tup (pa_cons (pe_bltn (v := .ty "list") (hg1 i) (hm1 i) hb1 rfl) (pa_cons (pe_bltn (v := .ty "tuple") (hg2 i) (hm2 i) hb2 rfl) pa_nil (he4 i)) (he3 i))) pa_nil (he2 i)) (he i)) (by decide) (by decide) (he i) (hpl i), fun c σ H env own Q s hw => ?_⟩
  refine f c σ H env own _ s (h.mono _ _ _ (fun x hx v H1 x1 r => ?_) hw)
  have s1 := s.ex x1
  refine ⟨by show 2 ≤ sizeLine; decide, fun t1 ht => ?_⟩
  have sm := Same.new (o := .tup [V.ty "list", V.ty "tuple"]) ht
  obtain ⟨a, vs, rfl, n, e1, p1⟩ := r
  have e2 : (upd H1 t1 (.tup [V.ty "list", V.ty "tuple"])) a = some (.lst vs) := sm a _ e1
  exact ⟨.ref a, t1, _, _, _, true, rfl, upd_same, .cons (.ty _) (.cons (.ty _) .nil), tyx_list (SqL.of e2), kitAny_cons (b := true) (kit_ty (by decide +kernel)) (fun z => nomatch z) (fun _ => rfl), hx _ _ (x1.trans (s1.exSame sm)) rfl⟩
end
end Tx
/-! calls that do not raise; what isinstance says of menus and bases; texts among data -/
namespace Tx
open PySem PySem.Spec PyProof.Rows L2 Gx En
theorem fn_calm {P : Program} {w : World} {K : PySem.W.Frag} {mg : Str → Option Value} {base : Heap} {k : Nat} {f : Addr} {fd : FuncData} {ps : List Str} {sp : Sp} (F : FnOk P w K mg base (L2.CX P w) k f fd ps sp) : FnOk P w K mg base CX0 k f fd ps (fun vs H Q _ => sp vs H Q (fun _ _ _ => False)) :=
  ⟨fun vs H Q E h => F.len vs H Q _ h, fun A outer s H args us vs Q E hr he hb hv hs => codeAny_mono (F.run A outer s H args us vs Q _ hr he hb hv hs) fun r s' h => by
    match r, h with
    | .ok (.ret u), h => exact h
    | .error e, h =>
      obtain ⟨a, B, H', cls, d, _, _, _, _, _, _, _, z⟩ := h
      exact z.elim⟩
def wCalm {τ ρ : Type} (w : τ → ((Er ⊕ ρ) → Prop) → Prop) : τ → (ρ → Prop) → Prop := fun x k => w x fun r => match r with | .inl _ => False | .inr b => k b
theorem wCalm_mono {τ ρ : Type} {w : τ → ((Er ⊕ ρ) → Prop) → Prop} (mw : ∀ x k k', (∀ y, k y → k' y) → w x k → w x k') : ∀ x k k', (∀ y, k y → k' y) → wCalm w x k → wCalm w x k' := fun x k k' h hw => mw x _ _ (fun r hr => match r, hr with | .inr b, hr => h b hr) hw
theorem ca_calm {P : Program} {w : World} {K : PySem.W.Frag} {mg : Str → Option Value} {base : Heap} {k : Nat} {f : Str} {τ ρ : Type} {A : Ar τ} {R : RetR ρ} {wb : τ → ((Er ⊕ ρ) → Prop) → Prop} (c : Ca P w K mg base (L2.CX P w) k f (spX K A R wb)) (mw : ∀ x k k', (∀ y, k y → k' y) → wb x k → wb x k') : Ca P w K mg base CX0 k f (spT K A R (wCalm wb)) := by
  obtain ⟨a, fd, ps, F, hb, hm, hk⟩ := c.ex
  refine ⟨a, fd, ps, (fn_calm F).imp (fun vs H Q E h => ?_), hb, hm, hk⟩
  obtain ⟨W, x, d, ok, hw⟩ := h
  exact ⟨W, x, d, ok, mw x _ _ (fun r hr => match r, hr with | .inr b, hr => hr) hw⟩
section
variable {E α : Type} {ι : Type} {X : ι → Cx} {K : PySem.W.Frag} {L : List (Sl E)} {S : Rp α} {e : Expr} {pos p p2 : Pos}
theorem isi_LT0 : IsI K (lstR S) "tuple" (fun _ => false) := ⟨fun {W H v x} h => by
  obtain ⟨a, vs, rfl, n, h, p⟩ := h
  exact ⟨_, TyX.base (.lst h), kit_ty (by decide +kernel)⟩⟩
theorem isi_BL : IsI K baseR "list" (fun _ => false) := ⟨fun {W H v x} h => by
  obtain ⟨a, t, w, rfl, h, _⟩ := h
  exact ⟨_, tyx_tup h.sq, kit_ty (by decide +kernel)⟩⟩
theorem isi_BT : IsI K baseR "tuple" (fun _ => true) := ⟨fun {W H v x} h => by
  obtain ⟨a, t, w, rfl, h, _⟩ := h
  exact ⟨_, tyx_tup h.sq, kit_ty (by decide +kernel)⟩⟩
theorem isi_ML (B : InstB K "Menu") (c : Cls K (He.ga K "Menu")) (hk : PySem.W.kitOne K (.ref (He.ga K "Menu")) (.type "list") = some false) : IsI K menuR "list" (fun _ => false) := ⟨fun {W H v x} h => by
  obtain ⟨m, rfl, hm⟩ := menuR.is h
  obtain ⟨dx, t1, t2, d1, d2, d3, k1, k3, hm, _⟩ := hm
  exact ⟨_, B.ty c hm, hk⟩⟩
theorem tx_sw {wn : E → (List Str → Prop) → Prop} (ha : TX X K L (lstR strR) e wn) : TX X K L (lstR vdR) e (fun env k => wn env fun xs => k (xs.map fun z => (V.str z, PyData.str z))) := by
  obtain ⟨t, p, f⟩ := ha.ex
  refine ⟨fun e k k' h hw => ha.mono _ _ _ (fun xs hx => h _ hx) hw, t, p, fun c σ H env own Q s hw => f c σ H env own Q s (ha.mono _ _ _ (fun xs hx v H1 x1 r => ?_) hw)⟩
  obtain ⟨a, vs, rfl, n, e1, p1⟩ := r
  exact hx _ _ x1 ⟨a, vs, rfl, n, e1, swP p1⟩
end
end Tx
/-! statements one after the other, in two parts -/
namespace Tx
open PySem PySem.Spec PyProof.Rows L2 Gx En
theorem execs_app {env : Env} {bs : List Stmt} : ∀ as : List Stmt, execs (as ++ bs) env = (do match ← execs as env with | .next => execs bs env | f => pure f)
  | [] => by
    show execs bs env = (pure Flow.next >>= fun f => match f with | .next => execs bs env | f => pure f)
    rw [pure_bind]
  | a :: as => by
    show execs (a :: (as ++ bs)) env = _
    rw [execs_cons, execs_cons, bind_assoc]
    congr 1
    funext f
    cases f with
    | next => exact execs_app as
    | ret v => exact (pure_bind _ _).symm
    | brk => exact (pure_bind _ _).symm
    | cont => exact (pure_bind _ _).symm
theorem pss_app {X : Cx} {as bs : List Stmt} {t u : L2.TS} (h1 : PSs X as t) (h2 : PSs X bs u) : PSs X (as ++ bs) (tSeq t u) := by
  refine ⟨fun pins s σ H D I h => ?_⟩
  rw [execs_app]
  refine wpAny_bind (thn (h1.run pins s σ H { D with nx := u D } I h) fun f s1 q => ?_)
  cases f with
  | next =>
    obtain ⟨σ', H', I', q⟩ := q
    exact h2.run pins s1 σ' H' D I' q
  | ret v => exact wpAny_pure q
  | brk => exact wpAny_pure q
  | cont => exact wpAny_pure q
end Tx
namespace K50
open PySem PySem.Spec PyProof.Rows L2 Gx
section
variable {P : Program} {w : World} {K : PySem.W.Frag} {mg : Str → Option Value} {base : Heap}
theorem ways (F : Facts K mg) (H : Hp) : SqT K H (He.ga K "WAYS_BACK") ((["top", "place"] : List Str).map V.str) := tupB_ok (He.ba (He.ba (He.ba F.e0).2).2).1 H
theorem letters (c : Nat) (h : 97 ≤ c ∧ c ≤ 122) : decide (c ∈ (Str.ofString "abcdefghijklmnopqrstuvwxyz").cps.toList) = true := by
  have all : ∀ k : Fin 26, decide (97 + k.val ∈ (Str.ofString "abcdefghijklmnopqrstuvwxyz").cps.toList) = true := by decide +kernel
  have := all ⟨c - 97, by omega⟩
  rwa [show 97 + (c - 97) = c from by omega] at this
theorem ca_is_name (F : Facts K mg) : Ca P w K mg base CX0 1 "is_name" (spIsName) := by
  obtain ⟨fd, D⟩ := fun_is_name F
  refine ⟨_, fd, ["value"], D.ok sc_is_name (fun vs H Q E h => ?_) (fun cdv A outer s H vs Q E hr h => ?_), D.bindsN fun _ _ _ _ _ _ us hl => match us, hl with | [_], _ => rfl, g_is_name F, D.kp⟩
  · obtain ⟨_, rfl, _⟩ := h
    rfl
  · have hu := hu_of hr
    skip
    refine ⟨_, PSs.nox (pss_cons (ps_if (PW.pt (pw_or (pt_not (pt_val (pe_callB call_isi (by rfl) (z_isinstance F) (by decide +kernel) (pa_cons (pv 0) (pa_cons (pe_bltn (v := .ty "str") (by rfl) (z_str F) (by decide +kernel) rfl) pa_nil))))) (pw_or1 (pt_not (pt_chain op_le op_le pe_int (pe_callB call_len (by rfl) (z_len F) boot_len (pa_cons (pv 0) pa_nil)) (pe_globI rfl (gi_MOST_LETTERS F))))))) (pss_one (ps_ret pe_bl)) pss_nil)
    (pss_one (ps_ret (pe_callB (cr_all rfl) (by rfl) (z_all F) (by decide +kernel) (pa_cons (pe_lc (own := [("letter", 1)]) (g := gName 1) rfl sc_is_name.nd (pi_str (pv 0)) (blkOk_by (own := [("letter", 1)]) (N := ["value", "letter"]) (sc := defScope s_is_name) (by decide +kernel)) (fun _ _ _ _ _ => (pg_name (i := 1) sc_is_name.nd rfl (Or.inl rfl))) (fun _ _ _ _ _ => pts_nil) (fun _ _ _ _ _ => (pe_cmpR op_in_sign (pv 1) (pe_globS rfl (gi_LETTERS F)) (by rfl)))) pa_nil))))), ?_⟩
    obtain ⟨x, rfl, ⟨n1, n8, nc⟩, q⟩ := h
    have hl : (x.length : Nat) ≤ sizeLine := by rw [sizeLine_eq]; omega
    refine ⟨_, rfl, .str x, .ty "str", _, _, _, rfl, .ty _, .base (.str x), kit_ty (r := true) (by decide +kernel), ?_⟩
    refine ⟨_, rfl, ?_⟩
    refine ⟨_, rfl, _, _, rfl, ⟨hl, rfl⟩, 1, _, rfl, rfl, _, rfl, ?_⟩
    have c1 : decide ((1 : Int) ≤ (x.length : Int)) = true := decide_eq_true (by omega)
    rw [c1]
    refine ⟨_, _, rfl, rfl, _, rfl, ?_⟩
    have c2 : decide ((x.length : Int) ≤ 8) = true := decide_eq_true (by omega)
    rw [c2]
    refine ⟨_, rfl, _, rfl, fun D hD => ?_⟩
    refine lc_it walk_str (fun i H' => Same H H' ∧ H' D = some (.lst (List.replicate i (.bl true)))) ⟨Same.new hD, upd_same⟩ (fun _ _ _ _ => trivial) (fun i v H1 H2 hi z y => ?_) (fun H' z => ?_)
    · obtain ⟨rfl, c, hc, rfl⟩ := y
      refine ⟨rfl, ?_⟩
      refine ⟨_, rfl, c, _, rfl, rfl, ?_⟩
      have hm : c ∈ x.cps.toList := by
        rw [← Array.getElem?_toList] at hc
        exact List.mem_of_getElem? hc
      have ha : decide (c ∈ (Str.ofString "abcdefghijklmnopqrstuvwxyz").cps.toList) = true := letters c (nc c hm)
      rw [ha]
      exact ⟨_, z.2, by rw [List.length_replicate]; exact Nat.lt_of_lt_of_le hi hl, ⟨Same.over z.1 hD, by rw [upd_same, List.replicate_succ']⟩⟩
    · refine ⟨D, List.replicate x.length true, rfl, SqL.of (by rw [List.map_replicate]; exact z.2), ?_⟩
      rw [show (List.replicate x.length true).all id = true from by simp]
      exact q _ z.1
theorem ca_are_different (F : Facts K mg) : Ca P w K mg base CX0 1 "are_different" (spDiff K) := by
  obtain ⟨fd, D⟩ := fun_are_different F
  refine ⟨_, fd, ["names"], D.ok sc_are_different (fun vs H Q E h => ?_) (fun cdv A outer s H vs Q E hr h => ?_), D.bindsN fun _ _ _ _ _ _ us hl => match us, hl with | [_], _ => rfl, g_are_different F, D.kp⟩
  · obtain ⟨_, _, rfl, _⟩ := h
    rfl
  · have hu := hu_of hr
    skip
    refine ⟨_, PSs.nox (pss_one (ps_ret (pe_cmpR op_eq (pe_lenSetT rfl rfl (z_len F) rfl (z_set F) (pv 0)) (pe_callB call_len (by rfl) (z_len F) boot_len (pa_cons (pv 0) pa_nil)) (nomark _)))), ?_⟩
    obtain ⟨v, xs, rfl, ⟨a, rfl, hs⟩, l, nd, q⟩ := h
    refine ⟨_, rfl, a, xs, rfl, hs, l, fun n h1 h2 => ?_⟩
    refine ⟨_, rfl, _, xs.length, rfl, ?_, ?_⟩
    · rcases hs with hs | hs
      · exact .inl ⟨_, hs, by simp⟩
      · exact .inr ⟨_, hs, by simp⟩
    refine ⟨rfl, ?_⟩
    rw [h2.mpr nd]
    simpa using q
theorem ca_are_names (F : Facts K mg) : Ca P w K mg base CX0 2 "are_names" (spThings K) := by
  obtain ⟨fd, D⟩ := fun_are_names F
  refine ⟨_, fd, ["row"], D.ok sc_are_names (fun vs H Q E h => ?_) (fun cdv A outer s H vs Q E hr h => ?_), D.bindsN fun _ _ _ _ _ _ us hl => match us, hl with | [_], _ => rfl, g_are_names F, D.kp⟩
  · obtain ⟨_, _, rfl, _⟩ := h
    rfl
  · have hu := hu_of hr
    skip
    refine ⟨_, PSs.nox (pss_one (ps_ret (pe_and (pe_cmpR op_gt (pe_callB call_len (by rfl) (z_len F) boot_len (pa_cons (pv 0) pa_nil)) pe_int (nomark _)) (pe_and (pe_callB (cr_all rfl) (by rfl) (z_all F) (by decide +kernel) (pa_cons (pe_lc (own := [("entry", 1)]) (g := gName 1) rfl sc_are_names.nd (pi_or (pi_list (pv 0)) (pi_tup (pv 0))) (blkOk_by (own := [("entry", 1)]) (N := ["row", "entry"]) (sc := defScope s_are_names) (by decide +kernel)) (fun _ _ _ _ _ => (pg_name (i := 1) sc_are_names.nd rfl (Or.inl rfl))) (fun _ _ _ _ _ => pts_nil) (fun _ _ _ _ _ => (pe_ca (ca_is_name F) (hr.mono (by decide)) rfl pass0 (pa_cons (pv 1) pa_nil)))) pa_nil)) (pe_one (pe_ca (ca_are_different F) (hr.mono (by decide)) rfl pass0 (pa_cons (pv 0) pa_nil))))))), ?_⟩
    obtain ⟨v, xs, rfl, hs, l1, l5, nm, nd, q⟩ := h
    have s1 : Same H H := Same.refl H
    obtain ⟨a, rfl, hs⟩ := hs
    have hln : (∃ ys, SqL K H a ys ∧ xs.length = ys.length) ∨ ∃ ys, SqT K H a ys ∧ xs.length = ys.length := hs.elim (fun h => .inl ⟨_, h, by simp⟩) (fun h => .inr ⟨_, h, by simp⟩)
    refine ⟨_, rfl, _, xs.length, rfl, hln, _, _, rfl, rfl, ?_⟩
    have c1 : decide ((0 : Int) < (xs.length : Int)) = true := decide_eq_true (by omega)
    refine ⟨_, rfl, ?_⟩
    rw [c1]
    have hz : (xs.map V.str).length ≤ sizeLine := by rw [sizeLine_eq, List.length_map]; omega
    rcases hs with hs | hs
    · have SQ : Sq K H (.ref a) xs := ⟨a, rfl, .inl (SqL.same hs s1)⟩
      refine .inl ⟨_, rfl, a, rfl, ⟨_, SqL.same hs s1⟩, fun D hD => lc_yes walk_list hD hz (fun H4 k => SqL.same (SqL.same hs s1) k) (fun x hx H5 R k r => ?_) fun H4 k e => ?_⟩
      rotate_left
      refine ⟨D, List.replicate (xs.map V.str).length true, rfl, SqL.of (by rw [List.map_replicate]; exact e), ?_⟩
      rw [show (List.replicate (xs.map V.str).length true).all id = true from by simp]
      rotate_right
      · obtain ⟨y, hy, rfl⟩ := List.mem_map.mp hx
        exact ⟨rfl, _, rfl, y, rfl, nm y hy, r⟩
      · refine ⟨_, rfl, ?_⟩
        exact ⟨_, rfl, _, xs, rfl, SQ.same k, by omega, nd, q _ (s1.trans k)⟩
    · have SQ : Sq K H (.ref a) xs := ⟨a, rfl, .inr (SqT.same hs s1)⟩
      refine .inr ⟨_, rfl, a, rfl, ⟨_, SqT.same hs s1⟩, fun D hD => lc_yes walk_tup hD hz (fun H4 k => SqT.same (SqT.same hs s1) k) (fun x hx H5 R k r => ?_) fun H4 k e => ?_⟩
      rotate_left
      refine ⟨D, List.replicate (xs.map V.str).length true, rfl, SqL.of (by rw [List.map_replicate]; exact e), ?_⟩
      rw [show (List.replicate (xs.map V.str).length true).all id = true from by simp]
      rotate_right
      · obtain ⟨y, hy, rfl⟩ := List.mem_map.mp hx
        exact ⟨rfl, _, rfl, y, rfl, nm y hy, r⟩
      · refine ⟨_, rfl, ?_⟩
        exact ⟨_, rfl, _, xs, rfl, SQ.same k, by omega, nd, q _ (s1.trans k)⟩
theorem ca_are_things (F : Facts K mg) : Ca P w K mg base CX0 3 "are_things" (spThings K) := by
  obtain ⟨fd, D⟩ := fun_are_things F
  refine ⟨_, fd, ["value"], D.ok sc_are_things (fun vs H Q E h => ?_) (fun cdv A outer s H vs Q E hr h => ?_), D.bindsN fun _ _ _ _ _ _ us hl => match us, hl with | [_], _ => rfl, g_are_things F, D.kp⟩
  · obtain ⟨_, _, rfl, _⟩ := h
    rfl
  · have hu := hu_of hr
    skip
    refine ⟨_, PSs.nox (pss_one (ps_ret (pe_and (pe_callB call_isiT (by rfl) (z_isinstance F) (by decide +kernel) (pa_cons (pv 0) (pa_cons (pe_tup (pa_cons (pe_bltn (v := .ty "list") (by rfl) (z_list F) (by decide +kernel) rfl) (pa_cons (pe_bltn (v := .ty "tuple") (by rfl) (z_tuple F) (by decide +kernel) rfl) pa_nil))) pa_nil))) (pe_and (pe_cmpR op_le (pe_callB call_len (by rfl) (z_len F) boot_len (pa_cons (pv 0) pa_nil)) (pe_globI rfl (gi_MOST_THINGS F)) (nomark _)) (pe_one (pe_ca (ca_are_names F) (hr.mono (by decide)) rfl pass0 (pa_cons (pv 0) pa_nil))))))), ?_⟩
    obtain ⟨v, xs, rfl, hs, l1, l5, nm, nd, q⟩ := h
    refine ⟨_, rfl, (by show 2 ≤ sizeLine; decide), fun t1 h1 => ?_⟩
    generalize g1 : upd _ t1 _ = H1
    obtain ⟨s1, e1, _⟩ := laid g1 h1
    obtain ⟨T, ty, ki⟩ := (hs.same s1).ty
    refine ⟨_, t1, _, T, _, true, rfl, e1, .cons (.ty _) (.cons (.ty _) .nil), ty, ki, ?_⟩
    refine ⟨_, rfl, ?_⟩
    obtain ⟨a, rfl, hs⟩ := hs
    have hln : (∃ ys, SqL K H1 a ys ∧ xs.length = ys.length) ∨ ∃ ys, SqT K H1 a ys ∧ xs.length = ys.length := hs.elim (fun h => .inl ⟨_, SqL.same h s1, by simp⟩) (fun h => .inr ⟨_, SqT.same h s1, by simp⟩)
    refine ⟨_, rfl, _, xs.length, rfl, hln, _, _, rfl, rfl, ?_⟩
    have c2 : decide ((xs.length : Int) ≤ 5) = true := decide_eq_true (by omega)
    refine ⟨_, rfl, ?_⟩
    rw [c2]
    exact ⟨_, rfl, _, xs, rfl, ⟨a, rfl, hs.imp (fun h => SqL.same h s1) (fun h => SqT.same h s1)⟩, l1, l5, nm, nd, fun H7 k7 => q _ (s1.trans k7)⟩
theorem ca_is_row_of (F : Facts K mg) : Ca P w K mg base CX0 2 "is_row_of" (spRow K) := by
  obtain ⟨fd, D⟩ := fun_is_row_of F
  refine ⟨_, fd, ["value", "names"], D.ok sc_is_row_of (fun vs H Q E h => ?_) (fun cdv A outer s H vs Q E hr h => ?_), D.bindsN fun _ _ _ _ _ _ us hl => match us, hl with | [_, _], _ => rfl, g_is_row_of F, D.kp⟩
  · obtain ⟨_, _, _, _, rfl, _⟩ := h
    rfl
  · have hu := hu_of hr
    skip
    refine ⟨_, PSs.nox (pss_cons (ps_if (PW.pt (pw_or (pt_not (pt_val (pe_callB call_isiT (by rfl) (z_isinstance F) (by decide +kernel) (pa_cons (pv 0) (pa_cons (pe_tup (pa_cons (pe_bltn (v := .ty "list") (by rfl) (z_list F) (by decide +kernel) rfl) (pa_cons (pe_bltn (v := .ty "tuple") (by rfl) (z_tuple F) (by decide +kernel) rfl) pa_nil))) pa_nil))))) (pw_or1 (pt_cmpR op_gt (pe_callB call_len (by rfl) (z_len F) boot_len (pa_cons (pv 0) pa_nil)) (pe_callB call_len (by rfl) (z_len F) boot_len (pa_cons (pv 1) pa_nil)) (nomark _))))) (pss_one (ps_ret pe_bl)) pss_nil)
    (pss_one (ps_ret (pe_and (pe_callB (cr_all rfl) (by rfl) (z_all F) (by decide +kernel) (pa_cons (pe_lc (own := [("entry", 2)]) (g := gName 2) rfl sc_is_row_of.nd (pi_or (pi_list (pv 0)) (pi_tup (pv 0))) (blkOk_by (own := [("entry", 2)]) (N := ["value", "names", "entry"]) (sc := defScope s_is_row_of) (by decide +kernel)) (fun _ _ _ _ _ => (pg_name (i := 2) sc_is_row_of.nd rfl (Or.inl rfl))) (fun _ _ _ _ _ => pts_nil) (fun _ _ _ _ _ => (pe_cmpR (op_in_seqK (K := K) rfl) (pv 2) (pv 1) (by rfl)))) pa_nil)) (pe_one (pe_ca (ca_are_different F) (hr.mono (by decide)) rfl pass0 (pa_cons (pv 0) pa_nil))))))), ?_⟩
    obtain ⟨v, ns, xs, ys, rfl, hs, hn, ly, sub, nd, q⟩ := h
    refine ⟨_, rfl, (by show 2 ≤ sizeLine; decide), fun t1 h1 => ?_⟩
    generalize g1 : upd _ t1 _ = H1
    obtain ⟨s1, e1, _⟩ := laid g1 h1
    obtain ⟨T, ty, ki⟩ := (hs.same s1).ty
    refine ⟨_, t1, _, T, _, true, rfl, e1, .cons (.ty _) (.cons (.ty _) .nil), ty, ki, ?_⟩
    refine ⟨_, rfl, ?_⟩
    obtain ⟨a, rfl, hs⟩ := hs
    have hln : (∃ ys, SqL K H1 a ys ∧ xs.length = ys.length) ∨ ∃ ys, SqT K H1 a ys ∧ xs.length = ys.length := hs.elim (fun h => .inl ⟨_, SqL.same h s1, by simp⟩) (fun h => .inr ⟨_, SqT.same h s1, by simp⟩)
    obtain ⟨b, rfl, hn⟩ := hn
    have hln2 : (∃ zs, SqL K H1 b zs ∧ ys.length = zs.length) ∨ ∃ zs, SqT K H1 b zs ∧ ys.length = zs.length := hn.elim (fun h => .inl ⟨_, SqL.same h s1, by simp⟩) (fun h => .inr ⟨_, SqT.same h s1, by simp⟩)
    have le := nodup_len nd sub
    refine ⟨_, rfl, _, xs.length, rfl, hln, _, rfl, _, ys.length, rfl, hln2, ?_⟩
    refine ⟨_, _, rfl, rfl, _, rfl, ?_⟩
    have c2 : decide ((ys.length : Int) < (xs.length : Int)) = false := decide_eq_false (by omega)
    rw [c2]
    have hz : (xs.map V.str).length ≤ sizeLine := by rw [sizeLine_eq, List.length_map]; omega
    rcases hs with hs | hs
    · have SQ : Sq K H1 (.ref a) xs := ⟨a, rfl, .inl (SqL.same hs s1)⟩
      refine .inl ⟨_, rfl, a, rfl, ⟨_, SqL.same hs s1⟩, fun D hD => lc_yes walk_list hD hz (fun H4 k => SqL.same (SqL.same hs s1) k) (fun x hx H5 R k r => ?_) fun H4 k e => ?_⟩
      rotate_left
      refine ⟨D, List.replicate (xs.map V.str).length true, rfl, SqL.of (by rw [List.map_replicate]; exact e), ?_⟩
      rw [show (List.replicate (xs.map V.str).length true).all id = true from by simp]
      rotate_right
      · obtain ⟨y, hy, rfl⟩ := List.mem_map.mp hx
        refine ⟨rfl, _, rfl, _, rfl, b, _, rfl, hn.imp (fun h => SqL.same h (s1.trans k)) (fun h => SqT.same h (s1.trans k)), rfl, flat_texts ys, ?_⟩
        rw [show (if false = true then !inV (.str y) (ys.map V.str) else inV (.str y) (ys.map V.str)) = true from by rw [in_texts]; simp [sub y hy]]
        exact r _ (Same.refl _)
      · refine ⟨_, rfl, ?_⟩
        exact ⟨_, rfl, _, xs, rfl, SQ.same k, by omega, nd, q _ (s1.trans k)⟩
    · have SQ : Sq K H1 (.ref a) xs := ⟨a, rfl, .inr (SqT.same hs s1)⟩
      refine .inr ⟨_, rfl, a, rfl, ⟨_, SqT.same hs s1⟩, fun D hD => lc_yes walk_tup hD hz (fun H4 k => SqT.same (SqT.same hs s1) k) (fun x hx H5 R k r => ?_) fun H4 k e => ?_⟩
      rotate_left
      refine ⟨D, List.replicate (xs.map V.str).length true, rfl, SqL.of (by rw [List.map_replicate]; exact e), ?_⟩
      rw [show (List.replicate (xs.map V.str).length true).all id = true from by simp]
      rotate_right
      · obtain ⟨y, hy, rfl⟩ := List.mem_map.mp hx
        refine ⟨rfl, _, rfl, _, rfl, b, _, rfl, hn.imp (fun h => SqL.same h (s1.trans k)) (fun h => SqT.same h (s1.trans k)), rfl, flat_texts ys, ?_⟩
        rw [show (if false = true then !inV (.str y) (ys.map V.str) else inV (.str y) (ys.map V.str)) = true from by rw [in_texts]; simp [sub y hy]]
        exact r _ (Same.refl _)
      · refine ⟨_, rfl, ?_⟩
        exact ⟨_, rfl, _, xs, rfl, SQ.same k, by omega, nd, q _ (s1.trans k)⟩
theorem ca_is_weather_entry (F : Facts K mg) : Ca P w K mg base CX0 3 "is_weather_entry" (spEntry K) := by
  obtain ⟨fd, D⟩ := fun_is_weather_entry F
  refine ⟨_, fd, ["value", "things", "weathers"], D.ok sc_is_weather_entry (fun vs H Q E h => ?_) (fun cdv A outer s H vs Q E hr h => ?_), D.bindsN fun _ _ _ _ _ _ us hl => match us, hl with | [_, _, _], _ => rfl, g_is_weather_entry F, D.kp⟩
  · obtain ⟨_, _, _, _, _, _, rfl, _⟩ := h
    rfl
  · have hu := hu_of hr
    skip
    refine ⟨_, PSs.nox (pss_cons (ps_if (PW.pt (pw_or (pt_not (pt_val (pe_callB call_isi (by rfl) (z_isinstance F) (by decide +kernel) (pa_cons (pv 0) (pa_cons (pe_bltn (v := .ty "tuple") (by rfl) (z_tuple F) (by decide +kernel) rfl) pa_nil))))) (pw_or1 (pt_cmpR op_ne (pe_callB call_len (by rfl) (z_len F) boot_len (pa_cons (pv 0) pa_nil)) pe_int (nomark _))))) (pss_one (ps_ret pe_bl)) pss_nil)
    (pss_cons (ps_asg (pv 0) (pg_tup rfl (pgs_cons (pg_name (i := 3) sc_is_weather_entry.nd rfl (Or.inl rfl)) (pgs_cons (pg_name (i := 4) sc_is_weather_entry.nd rfl (Or.inl rfl)) (pgs_cons (pg_name (i := 5) sc_is_weather_entry.nd rfl (Or.inl rfl)) pgs_nil)))))
    (pss_cons (ps_if (PW.pt (pw_or (pt_not (pt_val (pe_ca (ca_is_row_of F) (hr.mono (by decide)) rfl pass0 (pa_cons (pv 3) (pa_cons (pv 1) pa_nil))))) (pw_or1 (pt_not (pt_val (pe_ca (ca_is_row_of F) (hr.mono (by decide)) rfl pass0 (pa_cons (pv 5) (pa_cons (pv 2) pa_nil)))))))) (pss_one (ps_ret pe_bl)) pss_nil)
    (pss_one (ps_ret (pe_and (pe_cmpR (op_in_seqK (K := K) rfl) (pv 4) (pe_glob (v := .ref (He.ga K "WAYS_BACK")) rfl (g_WAYS_BACK F) rfl) (by rfl)) (pe_one (pe_cmpR op_gt (pe_callB call_len (by rfl) (z_len F) boot_len (pa_cons (pv 5) pa_nil)) pe_int (nomark _))))))))), ?_⟩
    obtain ⟨v, tv, wv, e, ts, ns, rfl, ⟨t, w2, l2, rfl, ht, hw, hl⟩, hT, hN, lt, ln, we, q⟩ := h
    refine ⟨_, rfl, _, .ty "tuple", _, _, true, rfl, .ty _, tyx_tup ht, kit_ty (by decide +kernel), ?_⟩
    refine ⟨_, rfl, ?_⟩
    refine ⟨_, rfl, _, 3, rfl, .inr ⟨_, ht, rfl⟩, rfl, ?_⟩
    refine ⟨_, rfl, ?_⟩
    refine iteNS (by decide) ?_
    refine ⟨_, rfl, t, _, rfl, ht, rfl, ?_⟩
    refine ⟨_, _, rfl, _, _, rfl, _, _, rfl, rfl, ?_⟩
    have lw : e.wishes.length ≤ ts.length := nodup_len we.wd we.w
    refine ⟨_, rfl, _, rfl, _, _, _, _, rfl, hw, hT, lt, we.w, we.wd, fun H1 k1 => ?_⟩
    refine ⟨_, rfl, ?_⟩
    refine ⟨_, rfl, _, rfl, _, _, _, _, rfl, hl.same k1, hN.same k1, ln, we.l, we.ld, fun H2 k2 => ?_⟩
    refine ⟨_, rfl, ?_⟩
    refine ⟨_, rfl, _, _, rfl, .inr (ways F H2), rfl, flat_texts _, ?_⟩
    have c1 : inV (.str e.back) ((["top", "place"] : List Str).map V.str) = true := by
      rw [in_texts]
      exact decide_eq_true (by rcases we.b with h | h <;> rw [h] <;> simp)
    have c3 : (if false = true then !inV (.str e.back) ((["top", "place"] : List Str).map V.str) else inV (.str e.back) ((["top", "place"] : List Str).map V.str)) = true := c1
    refine ⟨_, rfl, ?_⟩
    rw [c3]
    obtain ⟨b, rfl, hl⟩ := hl
    have hln : (∃ zs, SqL K H2 b zs ∧ e.later.length = zs.length) ∨ ∃ zs, SqT K H2 b zs ∧ e.later.length = zs.length := hl.elim (fun h => .inl ⟨_, SqL.same h (k1.trans k2), by simp⟩) (fun h => .inr ⟨_, SqT.same h (k1.trans k2), by simp⟩)
    refine ⟨_, rfl, _, e.later.length, rfl, hln, _, _, rfl, rfl, ?_⟩
    have c2 : decide ((0 : Int) < (e.later.length : Int)) = true := decide_eq_true (by have := List.length_pos_iff.mpr we.l0; omega)
    show Q (V.bl (decide ((0 : Int) < (e.later.length : Int)))) H2
    rw [c2]
    exact q _ (k1.trans k2)
theorem ca_are_weathers (F : Facts K mg) : Ca P w K mg base CX0 4 "are_weathers" (spWeathers K) := by
  obtain ⟨fd, D⟩ := fun_are_weathers F
  refine ⟨_, fd, ["value", "things"], D.ok sc_are_weathers (fun vs H Q E h => ?_) (fun cdv A outer s H vs Q E hr h => ?_), D.bindsN fun _ _ _ _ _ _ us hl => match us, hl with | [_, _], _ => rfl, g_are_weathers F, D.kp⟩
  · obtain ⟨_, _, _, _, rfl, _⟩ := h
    rfl
  · have hu := hu_of hr
    skip
    refine ⟨_, PSs.nox (pss_cons (ps_if (PW.pt (pw_or (pt_not (pt_val (pe_callB call_isi (by rfl) (z_isinstance F) (by decide +kernel) (pa_cons (pv 0) (pa_cons (pe_bltn (v := .ty "dict") (by rfl) (z_dict F) (by decide +kernel) rfl) pa_nil))))) (pw_or1 (pt_not (pt_chain op_le op_le pe_int (pe_callB call_lenD (by rfl) (z_len F) boot_len (pa_cons (pv 0) pa_nil)) (pe_globI rfl (gi_MOST_WEATHERS F))))))) (pss_one (ps_ret pe_bl)) pss_nil)
    (pss_cons (ps_set (i := 2) sc_are_weathers.nd rfl (Or.inr rfl) (pe_callTy (call_list_dK rfl) (by rfl) (z_list F) (by decide +kernel) (pa_cons (pv 0) pa_nil)))
    (pss_one (ps_ret (pe_callB (cr_all rfl) (by rfl) (z_all F) (by decide +kernel) (pa_cons (pe_lc (own := [("name", 3)]) (g := gName 3) rfl sc_are_weathers.nd (pi_list (pv 2)) (blkOk_by (own := [("name", 3)]) (N := ["value", "things", "names", "name"]) (sc := defScope s_are_weathers) (by decide +kernel)) (fun _ _ _ _ _ => (pg_name (i := 3) sc_are_weathers.nd rfl (Or.inl rfl))) (fun _ _ _ _ _ => pts_nil) (fun _ _ _ _ _ => (pe_and (pe_ca (ca_is_name F) (hr.mono (by decide)) rfl pass0 (pa_cons (pv 3) pa_nil)) (pe_one (pe_ca (ca_is_weather_entry F) (hr.mono (by decide)) rfl pass0 (pa_cons (pe_dget hu (pv 0) (pv 3) (fun _ _ => rfl)) (pa_cons (pv 1) (pa_cons (pv 2) pa_nil)))))))) pa_nil)))))), ?_⟩
    obtain ⟨d, tv, b, kvs, rfl, hd, he, ht, wf, q⟩ := h
    have hk := he.keys
    have hlen : kvs.length = b.ws.length := by simpa using congrArg List.length hk
    have a1 := wf.w1
    have a4 := wf.w4
    refine ⟨_, rfl, _, .ty "dict", _, _, true, rfl, .ty _, .base (.dK hd), kit_ty (by decide +kernel), ?_⟩
    refine ⟨_, rfl, ?_⟩
    refine ⟨_, rfl, d, kvs, rfl, hd, 1, _, rfl, rfl, _, rfl, ?_⟩
    have c1 : decide ((1 : Int) ≤ (kvs.length : Int)) = true := decide_eq_true (by omega)
    rw [c1]
    refine ⟨_, _, rfl, rfl, _, rfl, ?_⟩
    have c2 : decide ((kvs.length : Int) ≤ 4) = true := decide_eq_true (by omega)
    rw [c2]
    refine ⟨_, rfl, d, kvs, rfl, hd, fun p h1 => ?_⟩
    have ek : (kvs.map fun kv => kV kv.1) = b.names.map V.str := by
      have e := congrArg (List.map kV) hk
      rw [List.map_map, List.map_map] at e
      unfold Bs.names
      rw [List.map_map]
      exact e
    rw [ek]
    generalize g1 : upd _ p _ = H1
    obtain ⟨s1, e1, _⟩ := laid g1 h1
    have hz : (b.names.map V.str).length ≤ sizeLine := by rw [sizeLine_eq]; unfold Bs.names; simp; omega
    have ln : b.names.length < 1000 := by unfold Bs.names; simp; omega
    refine ⟨_, rfl, p, rfl, ⟨_, SqL.of e1⟩, fun D hD => lc_yes walk_list hD hz (fun H4 k => SqL.same (SqL.of e1) k) (fun x hx H5 R k r => ?_) fun H4 k e => ?_⟩
    · obtain ⟨y, hy, rfl⟩ := List.mem_map.mp hx
      refine ⟨rfl, _, rfl, y, rfl, wf.wn y hy, fun H6 k6 => ?_⟩
      refine ⟨_, rfl, ?_⟩
      obtain ⟨en, hen, rfl⟩ := List.mem_map.mp hy
      obtain ⟨i, hi, ei⟩ := List.mem_iff_getElem.mp hen
      have nd : (kvs.map (·.1)).Nodup := by
        rw [hk]
        have := wf.wd
        unfold Bs.names at this
        rw [show (b.ws.map fun e => (Sum.inr e.name : Key)) = (b.ws.map Ent.name).map Sum.inr from by rw [List.map_map]; rfl]
        exact List.Pairwise.map _ (fun a b h e => h (Sum.inr.inj e)) this
      have hi2 : i < kvs.length := by omega
      have eki : kvs[i]? = some kvs[i] := List.getElem?_eq_getElem hi2
      obtain ⟨en2, f1, f2, f3⟩ := Paired.at2 he eki
      have f4 : en2 = en := by
        rw [List.getElem?_eq_getElem hi, ei] at f1
        exact (Option.some.inj f1).symm
      subst f4
      have gv : valV kvs (.inr en2.name) = some kvs[i].2 := valV_at (i := i) nd (by rw [eki, ← f2])
      have S6 : Same H H6 := s1.trans (k.trans k6)
      refine ⟨_, rfl, _, rfl, d, kvs[i].2, rfl, by rw [← gv]; exact DGet.k (k := .inr en2.name) (S6 _ _ hd), _, rfl, _, rfl, ?_⟩
      exact ⟨_, _, _, en2, _, _, rfl, f3.same S6, ht.same S6, ⟨p, rfl, .inl (SqL.of ((k.trans k6) _ _ e1))⟩, by have := wf.t5; omega, ln, wf.we en2 hen, fun H7 k7 => r _ (k6.trans k7)⟩
    · refine ⟨D, List.replicate (b.names.map V.str).length true, rfl, SqL.of (by rw [List.map_replicate]; exact e), ?_⟩
      rw [show (List.replicate (b.names.map V.str).length true).all id = true from by simp]
      exact q _ (s1.trans k)
end
end K50
namespace K50
open PySem PySem.Spec PyProof.Rows L2 Gx
section
variable {P : Program} {w : World} {K : PySem.W.Frag} {mg : Str → Option Value} {base : Heap}
theorem exb (F : Facts K mg) : ExB K "BadWeather" "value" := exB_ok (He.ba F.e0).1
theorem menuTy (F : Facts K mg) {T : String} (h : T ∈ ["NoneType", "bool", "int", "str", "list", "tuple", "dict"]) : PySem.W.kitOne K (.type T) (.ref (He.ga K "Menu")) = some false ∧ PySem.W.notFirst K (He.ga K "Menu") (.type T) = true := by
  have e := List.all_eq_true.mp (He.ba (He.ba (He.ba (He.ba F.e0).2).2).2).1 T h
  exact ⟨of_decide_eq_true (He.ba e).1, (He.ba e).2⟩
theorem menuI (F : Facts K mg) : InstB K "Menu" := instB_ok (He.ba (He.ba (He.ba (He.ba F.e0).2).2).2).2
theorem ex_BadWeather (F : Facts K mg) : ∃ fI fd, ExK P w K mg base "BadWeather" (He.ga K "BadWeather") "value" fI fd := by
  obtain ⟨fd, D⟩ := fun_BadWeather_init F
  have B := exb F
  refine ⟨_, fd, B.T, B.i, B.t, D.ok sc_BadWeather_init (fun vs H Q E h => ?_) (fun cdv A outer s H vs Q E hr h => ?_), D.bindsN fun _ _ _ _ _ _ us hl => match us, hl with | [_, _], _ => rfl, kb_one D (fun _ _ _ _ _ _ _ _ => rfl), g_BadWeather F⟩
  · obtain ⟨_, _, rfl, _⟩ := h
    rfl
  · obtain ⟨a, v, rfl, ha, q⟩ := h
    exact ⟨_, PSs.nox (pss_one (ps_ost (pv 0) (pv 1))), _, rfl, _, rfl, a, _, rfl, B.T, B.no, .inl ⟨ha, q⟩⟩
theorem ex_BadText (F : Facts K mg) : ∃ fI fd, ExK P w K mg base "BadText" (He.ga K "BadText") "line" fI fd := by
  obtain ⟨fd, D⟩ := fun_BadText_init F
  have B := exb_BadText F
  refine ⟨_, fd, B.T, B.i, B.t, D.ok sc_BadText_init (fun vs H Q E h => ?_) (fun cdv A outer s H vs Q E hr h => ?_), D.bindsN fun _ _ _ _ _ _ us hl => match us, hl with | [_, _], _ => rfl, kb_one D (fun _ _ _ _ _ _ _ _ => rfl), g_BadText F⟩
  · obtain ⟨_, _, rfl, _⟩ := h
    rfl
  · obtain ⟨a, v, rfl, ha, q⟩ := h
    exact ⟨_, PSs.nox (pss_one (ps_ost (pv 0) (pv 1))), _, rfl, _, rfl, a, _, rfl, B.T, B.no, .inl ⟨ha, q⟩⟩
theorem paired_eq {f : Ent → V} : ∀ {kvs : List (Key × V)} {ws : List Ent}, Paired (fun (p : Key × V) (e : Ent) => p.1 = .inr e.name ∧ p.2 = f e) kvs ws → kvs = ws.map fun e => (Sum.inr e.name, f e)
  | _, _, .nil => rfl
  | (a, b) :: _, _, .cons ⟨h1, h2⟩ t => by
    simp only at h1 h2
    rw [List.map_cons, ← paired_eq t, h1, h2]
theorem tups_of {K : PySem.W.Frag} {H : Hp} {f : Ent → List Str} : ∀ {kvs : List (Key × V)} {ws : List Ent}, Paired (fun (p : Key × V) (e : Ent) => p.1 = .inr e.name ∧ ∃ a, p.2 = V.ref a ∧ SqT K H a ((f e).map V.str)) kvs ws → TupsAt K H kvs (ws.map fun e => (e.name, f e))
  | _, _, .nil => .nil
  | _, _, .cons h t => .cons h (tups_of t)
theorem mk_Menu (F : Facts K mg) : CaI P w K mg base CX0 5 "Menu" (He.ga K "Menu") (spInitF K) := by
  obtain ⟨fd, D⟩ := fun_Menu_init F
  refine ⟨_, fd, ["self", "things", "weathers"], D.ok sc_Menu_init (fun vs H Q E h => ?_) (fun cdv A outer s H vs Q E hr h => ?_), D.bindsN fun _ _ _ _ _ _ us hl => match us, hl with | [_, _, _], _ => rfl, mkr_Menu F, g_Menu F⟩
  · obtain ⟨_, _, _, _, _, _, rfl, _⟩ := h
    rfl
  · have hu := hu_of hr
    skip
    refine ⟨_, PSs.nox (pss_cons (ps_if (pt_not (pt_val (pe_ca (ca_are_things F) (hr.mono (by decide)) rfl pass0 (pa_cons (pv 1) pa_nil)))) (pss_one ps_never) pss_nil)
    (pss_cons (ps_if (pt_not (pt_val (pe_ca (ca_are_weathers F) (hr.mono (by decide)) rfl pass0 (pa_cons (pv 2) (pa_cons (pv 1) pa_nil))))) (pss_one ps_never) pss_nil)
    (pss_cons (ps_fld (pv 0) (pe_callTy (call_tuple_ofK (K := K) rfl) (by rfl) (z_tuple F) (by decide +kernel) (pa_cons (pv 1) pa_nil)) rfl)
    (pss_cons (ps_fld (pv 0) (pe_callTy (call_tupleD rfl) (by rfl) (z_tuple F) (by decide +kernel) (pa_cons (pv 2) pa_nil)) rfl)
    (pss_cons (ps_fld (pv 0) (pe_lock (pe_dc (own := [("name", 3)]) (tt := tYes) (g := gName 3) rfl sc_Menu_init.nd (pi_keys (pv 2)) (blkOk_by (own := [("name", 3)]) (N := ["self", "things", "weathers", "name"]) (sc := defScope s_Menu_init) (by decide +kernel)) (fun _ _ _ _ _ => (pg_name (i := 3) sc_Menu_init.nd rfl (Or.inl rfl))) (fun _ _ _ _ _ => pts_nil) (fun _ _ _ _ _ => (pv 3)) (fun _ _ _ _ _ => (pe_callTy (call_tuple_ofK (K := K) rfl) (by rfl) (z_tuple F) (by decide +kernel) (pa_cons (pe_ix (ix_tupK (K := K) rfl) (pe_dget hu (pv 2) (pv 3) (fun _ _ => rfl)) pe_int (fun _ _ => rfl)) pa_nil))))) rfl)
    (pss_cons (ps_fld (pv 0) (pe_lock (pe_dc (own := [("name", 3)]) (tt := tYes) (g := gName 3) rfl sc_Menu_init.nd (pi_keys (pv 2)) (blkOk_by (own := [("name", 3)]) (N := ["self", "things", "weathers", "name"]) (sc := defScope s_Menu_init) (by decide +kernel)) (fun _ _ _ _ _ => (pg_name (i := 3) sc_Menu_init.nd rfl (Or.inl rfl))) (fun _ _ _ _ _ => pts_nil) (fun _ _ _ _ _ => (pv 3)) (fun _ _ _ _ _ => (pe_ix (ix_tupK (K := K) rfl) (pe_dget hu (pv 2) (pv 3) (fun _ _ => rfl)) pe_int (fun _ _ => rfl))))) rfl)
    (pss_one (ps_fld (pv 0) (pe_lock (pe_dc (own := [("name", 3)]) (tt := tYes) (g := gName 3) rfl sc_Menu_init.nd (pi_keys (pv 2)) (blkOk_by (own := [("name", 3)]) (N := ["self", "things", "weathers", "name"]) (sc := defScope s_Menu_init) (by decide +kernel)) (fun _ _ _ _ _ => (pg_name (i := 3) sc_Menu_init.nd rfl (Or.inl rfl))) (fun _ _ _ _ _ => pts_nil) (fun _ _ _ _ _ => (pv 3)) (fun _ _ _ _ _ => (pe_callTy (call_tuple_ofK (K := K) rfl) (by rfl) (z_tuple F) (by decide +kernel) (pa_cons (pe_ix (ix_tupK (K := K) rfl) (pe_dget hu (pv 2) (pv 3) (fun _ _ => rfl)) pe_int (fun _ _ => rfl)) pa_nil))))) rfl)))))))), ?_⟩
    obtain ⟨m, dx, tv, d, b, kvs, rfl, hm, hdx, hd, he, ht, wf, q⟩ := h
    refine ⟨_, rfl, tv, b.things, rfl, ht, wf.t1, wf.t5, wf.tn, wf.td, fun H1 k1 => ?_⟩
    refine ⟨_, rfl, ?_⟩
    refine ⟨_, rfl, _, rfl, d, tv, b, kvs, rfl, k1 _ _ hd, he.same k1, ht.same k1, wf, fun H2 k2 => ?_⟩
    refine ⟨_, rfl, ?_⟩
    refine ⟨_, rfl, ?_⟩
    dsimp only [tNil]
    refine tupOf (ht.same (k1.trans k2)) fun t1 H3 k3 e3 => ?_
    have S3 : Same H H3 := k1.trans (k2.trans k3)
    refine ⟨_, rfl, m, _, dx, _, rfl, S3 _ _ hm, cls_Menu F, no_Menu_things F, (by decide), ?_⟩
    have kp4 : Kp m H (upd H3 m (.ins (He.ga K "Menu") dx (putF "_things" (.ref t1) []))) := (Same.kp S3).trans Kp.put
    have E3 : SqT K (upd H3 m (.ins (He.ga K "Menu") dx (putF "_things" (.ref t1) []))) t1 (b.things.map V.str) := SqT.kp e3 Kp.put (NoSq.ins (S3 _ _ hm))
    generalize g4 : upd H3 m _ = H4 at kp4 E3 ⊢
    have m4 : H4 m = some (.ins (He.ga K "Menu") dx [("_things", .ref t1)]) := by rw [← g4]; exact upd_same
    have nm : ∀ {a o}, H a = some o → (∀ C dx fs, o ≠ .ins C dx fs) → a ≠ m := fun {a o} e n z => by rw [z, hm] at e; cases e; exact n _ _ _ rfl
    have hd4 : H4 d = some (.dK kvs) := kp4 _ _ (nm hd (by intros; simp)) hd
    have he4 : EntsAt K H4 kvs b.ws := he.kp kp4 (NoSq.ins hm)
    refine ⟨_, rfl, d, kvs, rfl, hd4, fun t2 n5 => ?_⟩
    have hk := he.keys
    have ek : (kvs.map fun kv => kV kv.1) = b.names.map V.str := by
      have e := congrArg (List.map kV) hk
      rw [List.map_map, List.map_map] at e
      unfold Bs.names
      rw [List.map_map]
      exact e
    rw [ek]
    generalize g5 : upd H4 t2 _ = H5
    obtain ⟨k5, e5, _⟩ := laid g5 n5
    have E1_5 := SqT.same E3 k5
    have E2_5 : SqT K H5 t2 (b.names.map V.str) := .inl (.inl e5)
    have kp5 := kp4.trans (Same.kp k5)
    refine ⟨_, rfl, m, _, dx, _, rfl, k5 _ _ m4, cls_Menu F, no_Menu_weathers F, (by simp), ?_⟩
    have mm5 : H5 m = some (.ins (He.ga K "Menu") dx [("_things", .ref t1)]) := k5 _ _ m4
    have kp6 : Kp m H (upd H5 m (.ins (He.ga K "Menu") dx (putF "_weathers" (.ref t2) [("_things", .ref t1)]))) := kp5.trans Kp.put
    have E1_6 : SqT K (upd H5 m (.ins (He.ga K "Menu") dx (putF "_weathers" (.ref t2) [("_things", .ref t1)]))) t1 (b.things.map V.str) := SqT.kp E1_5 Kp.put (NoSq.ins mm5)
    have E2_6 : SqT K (upd H5 m (.ins (He.ga K "Menu") dx (putF "_weathers" (.ref t2) [("_things", .ref t1)]))) t2 (b.names.map V.str) := SqT.kp E2_5 Kp.put (NoSq.ins mm5)
    have m6 : (upd H5 m (.ins (He.ga K "Menu") dx (putF "_weathers" (.ref t2) [("_things", .ref t1)]))) m = some (.ins (He.ga K "Menu") dx [("_things", .ref t1), ("_weathers", .ref t2)]) := upd_same
    generalize upd H5 m (.ins (He.ga K "Menu") dx (putF "_weathers" (.ref t2) [("_things", .ref t1)])) = H6 at kp6 E1_6 E2_6 m6 ⊢
    have few : b.ws.length < 1000 := by have := wf.w4; omega
    have hlen : kvs.length = b.ws.length := by simpa using congrArg List.length hk
    have ndk : (kvs.map (·.1)).Nodup := by
      rw [hk]
      have h1 := wf.wd
      unfold Bs.names at h1
      rw [show (b.ws.map fun e => (Sum.inr e.name : Key)) = (b.ws.map Ent.name).map Sum.inr from by rw [List.map_map]; rfl]
      exact List.Pairwise.map _ (fun a b h e => h (Sum.inr.inj e)) h1
    have d_6 : H6 d = some (.dK kvs) := kp6 _ _ (nm hd (by intros; simp)) hd
    refine ⟨d, _, d_6, trivial, fun od => ?_⟩
    have he_6 : EntsAt K (upd H6 d (.frz od (.dK kvs))) kvs b.ws := (he.kp kp6 (NoSq.ins hm)).kp Kp.put (NoSq.dK d_6)
    have lk_6 : (upd H6 d (.frz od (.dK kvs))) d = some (.frz od (.dK kvs)) := upd_same
    refine ⟨_, rfl, d, od, rfl, .inl ⟨kvs, upd_same, fun d1 nD => dc_ents hk wf.wd few lk_6 nD (fun H z e => ∃ a, z = V.ref a ∧ SqT K H a (e.wishes.map V.str)) (fun _ _ _ _ k ⟨_, ea⟩ ⟨a, e, h⟩ => ⟨a, e, SqT.kp h k (NoSq.dK ea)⟩) (fun e hme H5' R k r => ?_) fun H5' k1x k eD pp => ?_⟩⟩
    · obtain ⟨i, hi, ei⟩ := List.mem_iff_getElem.mp hme
      have hi2 : i < kvs.length := by omega
      have eki : kvs[i]? = some kvs[i] := List.getElem?_eq_getElem hi2
      obtain ⟨e2, f1, f2, f3⟩ := Paired.at2 he_6 eki
      have f4 : e2 = e := by
        rw [List.getElem?_eq_getElem hi, ei] at f1
        exact (Option.some.inj f1).symm
      subst f4
      have gv : valV kvs (.inr e2.name) = some kvs[i].2 := valV_at (i := i) ndk (by rw [eki, ← f2])
      obtain ⟨t, w2, l2, ez, ht2, hw, hl2⟩ := f3.same k
      refine ⟨rfl, _, rfl, ?_⟩
      refine ⟨_, rfl, _, rfl, d, _, rfl, .inl ⟨kvs, .inr e2.name, .inr ⟨od, k _ _ lk_6⟩, rfl, gv.symm⟩, t, _, 0, _, ez, rfl, ht2, rfl, ?_⟩
      dsimp only [tNil]
      refine tupOf hw fun a H3 k3 e3 => r _ _ k3 ⟨a, rfl, e3⟩
    refine ⟨k _ _ lk_6, ?_⟩
    have s_6 : Same H6 (upd H5' d (.dK kvs)) := unlock k d_6
    have ned : d1 ≠ d := fun z => by rw [z, lk_6] at nD; cases nD
    have eD2 : (upd H5' d (.dK kvs)) d1 = some (.dK k1x) := by rw [upd_ne ned]; exact eD
    have N_d1 : H d1 = none := by
      rcases hq : H d1 with _ | o
      · rfl
      · have dm : d ≠ m := nm hd (by intros; simp)
        have nm2 : d1 ≠ m := fun z => by rw [z, upd_ne (Ne.symm dm), m6] at nD; cases nD
        have h2 := kp6 _ _ nm2 hq
        rw [upd_ne ned, h2] at nD
        cases nD
    have pp2 : TupsAt K (upd H5' d (.dK kvs)) k1x (b.ws.map fun e => (e.name, e.wishes)) := tups_of (Paired.imp2 (fun _ _ ⟨q, a, e, z⟩ => ⟨q, a, e, SqT.kp z Kp.put (NoSq.fdK (k _ _ lk_6))⟩) pp)
    have mk6 := s_6 _ _ m6
    have kk6 : Kp m H (upd H5' d (.dK kvs)) := kp6.trans (Same.kp s_6)
    have E1_7 := SqT.same E1_6 s_6
    have E2_7 := SqT.same E2_6 s_6
    clear k eD pp ned
    generalize upd H5' d (.dK kvs) = H7 at s_6 eD2 mk6 kk6 E1_7 E2_7 pp2 ⊢
    have D1_7 := eD2
    have P1_7 := pp2
    refine ⟨_, rfl, m, _, dx, _, rfl, mk6, cls_Menu F, no_Menu_wishes F, (by simp), ?_⟩
    have mm7 : H7 m = some (.ins (He.ga K "Menu") dx [("_things", .ref t1), ("_weathers", .ref t2)]) := mk6
    have kp8 : Kp m H (upd H7 m (.ins (He.ga K "Menu") dx (putF "_wishes" (.ref d1) [("_things", .ref t1), ("_weathers", .ref t2)]))) := kk6.trans Kp.put
    have E1_8 : SqT K (upd H7 m (.ins (He.ga K "Menu") dx (putF "_wishes" (.ref d1) [("_things", .ref t1), ("_weathers", .ref t2)]))) t1 (b.things.map V.str) := SqT.kp E1_7 Kp.put (NoSq.ins mm7)
    have E2_8 : SqT K (upd H7 m (.ins (He.ga K "Menu") dx (putF "_wishes" (.ref d1) [("_things", .ref t1), ("_weathers", .ref t2)]))) t2 (b.names.map V.str) := SqT.kp E2_7 Kp.put (NoSq.ins mm7)
    have D1_8 : (upd H7 m (.ins (He.ga K "Menu") dx (putF "_wishes" (.ref d1) [("_things", .ref t1), ("_weathers", .ref t2)]))) d1 = some (.dK k1x) := Kp.put _ _ (ne_of D1_7 mm7 (by intro z; cases z)) D1_7
    have P1_8 : TupsAt K (upd H7 m (.ins (He.ga K "Menu") dx (putF "_wishes" (.ref d1) [("_things", .ref t1), ("_weathers", .ref t2)]))) k1x (b.ws.map fun e => (e.name, e.wishes)) := TupsAt.kp P1_7 Kp.put (NoSq.ins mm7)
    have m8 : (upd H7 m (.ins (He.ga K "Menu") dx (putF "_wishes" (.ref d1) [("_things", .ref t1), ("_weathers", .ref t2)]))) m = some (.ins (He.ga K "Menu") dx [("_things", .ref t1), ("_weathers", .ref t2), ("_wishes", .ref d1)]) := upd_same
    generalize upd H7 m (.ins (He.ga K "Menu") dx (putF "_wishes" (.ref d1) [("_things", .ref t1), ("_weathers", .ref t2)])) = H8 at kp8 E1_8 E2_8 D1_8 P1_8 m8 ⊢
    have d_8 : H8 d = some (.dK kvs) := kp8 _ _ (nm hd (by intros; simp)) hd
    refine ⟨d, _, d_8, trivial, fun od => ?_⟩
    have he_8 : EntsAt K (upd H8 d (.frz od (.dK kvs))) kvs b.ws := (he.kp kp8 (NoSq.ins hm)).kp Kp.put (NoSq.dK d_8)
    have lk_8 : (upd H8 d (.frz od (.dK kvs))) d = some (.frz od (.dK kvs)) := upd_same
    refine ⟨_, rfl, d, od, rfl, .inl ⟨kvs, upd_same, fun d2 nD => dc_ents hk wf.wd few lk_8 nD (fun _ z e => z = .str e.back) (fun _ _ _ _ _ _ h => h) (fun e hme H5' R k r => ?_) fun H5' k2x k eD pp => ?_⟩⟩
    · obtain ⟨i, hi, ei⟩ := List.mem_iff_getElem.mp hme
      have hi2 : i < kvs.length := by omega
      have eki : kvs[i]? = some kvs[i] := List.getElem?_eq_getElem hi2
      obtain ⟨e2, f1, f2, f3⟩ := Paired.at2 he_8 eki
      have f4 : e2 = e := by
        rw [List.getElem?_eq_getElem hi, ei] at f1
        exact (Option.some.inj f1).symm
      subst f4
      have gv : valV kvs (.inr e2.name) = some kvs[i].2 := valV_at (i := i) ndk (by rw [eki, ← f2])
      obtain ⟨t, w2, l2, ez, ht2, hw, hl2⟩ := f3.same k
      refine ⟨rfl, _, rfl, ?_⟩
      refine ⟨_, rfl, _, rfl, d, _, rfl, .inl ⟨kvs, .inr e2.name, .inr ⟨od, k _ _ lk_8⟩, rfl, gv.symm⟩, t, _, 1, _, ez, rfl, ht2, rfl, ?_⟩
      exact r _ _ (Same.refl _) rfl
    refine ⟨k _ _ lk_8, ?_⟩
    have s_8 : Same H8 (upd H5' d (.dK kvs)) := unlock k d_8
    have ned : d2 ≠ d := fun z => by rw [z, lk_8] at nD; cases nD
    have eD2 : (upd H5' d (.dK kvs)) d2 = some (.dK k2x) := by rw [upd_ne ned]; exact eD
    have N_d2 : H d2 = none := by
      rcases hq : H d2 with _ | o
      · rfl
      · have dm : d ≠ m := nm hd (by intros; simp)
        have nm2 : d2 ≠ m := fun z => by rw [z, upd_ne (Ne.symm dm), m8] at nD; cases nD
        have h2 := kp8 _ _ nm2 hq
        rw [upd_ne ned, h2] at nD
        cases nD
    have pp2 : k2x = b.ws.map fun e => (Sum.inr e.name, V.str e.back) := paired_eq pp
    rw [pp2] at eD2
    have mk8 := s_8 _ _ m8
    have kk8 : Kp m H (upd H5' d (.dK kvs)) := kp8.trans (Same.kp s_8)
    have E1_9 := SqT.same E1_8 s_8
    have E2_9 := SqT.same E2_8 s_8
    have D1_9 := s_8 _ _ D1_8
    have P1_9 := TupsAt.same P1_8 s_8
    clear k eD pp ned 
    generalize upd H5' d (.dK kvs) = H9 at s_8 eD2 mk8 kk8 E1_9 E2_9 D1_9 P1_9 ⊢
    have D2_9 := eD2
    refine ⟨_, rfl, m, _, dx, _, rfl, mk8, cls_Menu F, no_Menu_back F, (by simp), ?_⟩
    have mm9 : H9 m = some (.ins (He.ga K "Menu") dx [("_things", .ref t1), ("_weathers", .ref t2), ("_wishes", .ref d1)]) := mk8
    have kp10 : Kp m H (upd H9 m (.ins (He.ga K "Menu") dx (putF "_back" (.ref d2) [("_things", .ref t1), ("_weathers", .ref t2), ("_wishes", .ref d1)]))) := kk8.trans Kp.put
    have E1_10 : SqT K (upd H9 m (.ins (He.ga K "Menu") dx (putF "_back" (.ref d2) [("_things", .ref t1), ("_weathers", .ref t2), ("_wishes", .ref d1)]))) t1 (b.things.map V.str) := SqT.kp E1_9 Kp.put (NoSq.ins mm9)
    have E2_10 : SqT K (upd H9 m (.ins (He.ga K "Menu") dx (putF "_back" (.ref d2) [("_things", .ref t1), ("_weathers", .ref t2), ("_wishes", .ref d1)]))) t2 (b.names.map V.str) := SqT.kp E2_9 Kp.put (NoSq.ins mm9)
    have D1_10 : (upd H9 m (.ins (He.ga K "Menu") dx (putF "_back" (.ref d2) [("_things", .ref t1), ("_weathers", .ref t2), ("_wishes", .ref d1)]))) d1 = some (.dK k1x) := Kp.put _ _ (ne_of D1_9 mm9 (by intro z; cases z)) D1_9
    have P1_10 : TupsAt K (upd H9 m (.ins (He.ga K "Menu") dx (putF "_back" (.ref d2) [("_things", .ref t1), ("_weathers", .ref t2), ("_wishes", .ref d1)]))) k1x (b.ws.map fun e => (e.name, e.wishes)) := TupsAt.kp P1_9 Kp.put (NoSq.ins mm9)
    have D2_10 : (upd H9 m (.ins (He.ga K "Menu") dx (putF "_back" (.ref d2) [("_things", .ref t1), ("_weathers", .ref t2), ("_wishes", .ref d1)]))) d2 = some (.dK (b.ws.map fun e => (Sum.inr e.name, V.str e.back))) := Kp.put _ _ (ne_of D2_9 mm9 (by intro z; cases z)) D2_9
    have m10 : (upd H9 m (.ins (He.ga K "Menu") dx (putF "_back" (.ref d2) [("_things", .ref t1), ("_weathers", .ref t2), ("_wishes", .ref d1)]))) m = some (.ins (He.ga K "Menu") dx [("_things", .ref t1), ("_weathers", .ref t2), ("_wishes", .ref d1), ("_back", .ref d2)]) := upd_same
    generalize upd H9 m (.ins (He.ga K "Menu") dx (putF "_back" (.ref d2) [("_things", .ref t1), ("_weathers", .ref t2), ("_wishes", .ref d1)])) = H10 at kp10 E1_10 E2_10 D1_10 P1_10 D2_10 m10 ⊢
    have d_10 : H10 d = some (.dK kvs) := kp10 _ _ (nm hd (by intros; simp)) hd
    refine ⟨d, _, d_10, trivial, fun od => ?_⟩
    have he_10 : EntsAt K (upd H10 d (.frz od (.dK kvs))) kvs b.ws := (he.kp kp10 (NoSq.ins hm)).kp Kp.put (NoSq.dK d_10)
    have lk_10 : (upd H10 d (.frz od (.dK kvs))) d = some (.frz od (.dK kvs)) := upd_same
    refine ⟨_, rfl, d, od, rfl, .inl ⟨kvs, upd_same, fun d3 nD => dc_ents hk wf.wd few lk_10 nD (fun H z e => ∃ a, z = V.ref a ∧ SqT K H a (e.later.map V.str)) (fun _ _ _ _ k ⟨_, ea⟩ ⟨a, e, h⟩ => ⟨a, e, SqT.kp h k (NoSq.dK ea)⟩) (fun e hme H5' R k r => ?_) fun H5' k3x k eD pp => ?_⟩⟩
    · obtain ⟨i, hi, ei⟩ := List.mem_iff_getElem.mp hme
      have hi2 : i < kvs.length := by omega
      have eki : kvs[i]? = some kvs[i] := List.getElem?_eq_getElem hi2
      obtain ⟨e2, f1, f2, f3⟩ := Paired.at2 he_10 eki
      have f4 : e2 = e := by
        rw [List.getElem?_eq_getElem hi, ei] at f1
        exact (Option.some.inj f1).symm
      subst f4
      have gv : valV kvs (.inr e2.name) = some kvs[i].2 := valV_at (i := i) ndk (by rw [eki, ← f2])
      obtain ⟨t, w2, l2, ez, ht2, hw, hl2⟩ := f3.same k
      refine ⟨rfl, _, rfl, ?_⟩
      refine ⟨_, rfl, _, rfl, d, _, rfl, .inl ⟨kvs, .inr e2.name, .inr ⟨od, k _ _ lk_10⟩, rfl, gv.symm⟩, t, _, 2, _, ez, rfl, ht2, rfl, ?_⟩
      dsimp only [tNil]
      refine tupOf hl2 fun a H3 k3 e3 => r _ _ k3 ⟨a, rfl, e3⟩
    refine ⟨k _ _ lk_10, ?_⟩
    have s_10 : Same H10 (upd H5' d (.dK kvs)) := unlock k d_10
    have ned : d3 ≠ d := fun z => by rw [z, lk_10] at nD; cases nD
    have eD2 : (upd H5' d (.dK kvs)) d3 = some (.dK k3x) := by rw [upd_ne ned]; exact eD
    have N_d3 : H d3 = none := by
      rcases hq : H d3 with _ | o
      · rfl
      · have dm : d ≠ m := nm hd (by intros; simp)
        have nm2 : d3 ≠ m := fun z => by rw [z, upd_ne (Ne.symm dm), m10] at nD; cases nD
        have h2 := kp10 _ _ nm2 hq
        rw [upd_ne ned, h2] at nD
        cases nD
    have pp2 : TupsAt K (upd H5' d (.dK kvs)) k3x (b.ws.map fun e => (e.name, e.later)) := tups_of (Paired.imp2 (fun _ _ ⟨q, a, e, z⟩ => ⟨q, a, e, SqT.kp z Kp.put (NoSq.fdK (k _ _ lk_10))⟩) pp)
    have mk10 := s_10 _ _ m10
    have kk10 : Kp m H (upd H5' d (.dK kvs)) := kp10.trans (Same.kp s_10)
    have E1_11 := SqT.same E1_10 s_10
    have E2_11 := SqT.same E2_10 s_10
    have D1_11 := s_10 _ _ D1_10
    have P1_11 := TupsAt.same P1_10 s_10
    have D2_11 := s_10 _ _ D2_10
    clear k eD pp ned
    generalize upd H5' d (.dK kvs) = H11 at s_10 eD2 mk10 kk10 E1_11 E2_11 D1_11 P1_11 D2_11 pp2 ⊢
    have D3_11 := eD2
    have P3_11 := pp2
    refine ⟨_, rfl, m, _, dx, _, rfl, mk10, cls_Menu F, no_Menu_later F, (by simp), ?_⟩
    have mm11 : H11 m = some (.ins (He.ga K "Menu") dx [("_things", .ref t1), ("_weathers", .ref t2), ("_wishes", .ref d1), ("_back", .ref d2)]) := mk10
    have kp12 : Kp m H (upd H11 m (.ins (He.ga K "Menu") dx (putF "_later" (.ref d3) [("_things", .ref t1), ("_weathers", .ref t2), ("_wishes", .ref d1), ("_back", .ref d2)]))) := kk10.trans Kp.put
    have E1_12 : SqT K (upd H11 m (.ins (He.ga K "Menu") dx (putF "_later" (.ref d3) [("_things", .ref t1), ("_weathers", .ref t2), ("_wishes", .ref d1), ("_back", .ref d2)]))) t1 (b.things.map V.str) := SqT.kp E1_11 Kp.put (NoSq.ins mm11)
    have E2_12 : SqT K (upd H11 m (.ins (He.ga K "Menu") dx (putF "_later" (.ref d3) [("_things", .ref t1), ("_weathers", .ref t2), ("_wishes", .ref d1), ("_back", .ref d2)]))) t2 (b.names.map V.str) := SqT.kp E2_11 Kp.put (NoSq.ins mm11)
    have D1_12 : (upd H11 m (.ins (He.ga K "Menu") dx (putF "_later" (.ref d3) [("_things", .ref t1), ("_weathers", .ref t2), ("_wishes", .ref d1), ("_back", .ref d2)]))) d1 = some (.dK k1x) := Kp.put _ _ (ne_of D1_11 mm11 (by intro z; cases z)) D1_11
    have P1_12 : TupsAt K (upd H11 m (.ins (He.ga K "Menu") dx (putF "_later" (.ref d3) [("_things", .ref t1), ("_weathers", .ref t2), ("_wishes", .ref d1), ("_back", .ref d2)]))) k1x (b.ws.map fun e => (e.name, e.wishes)) := TupsAt.kp P1_11 Kp.put (NoSq.ins mm11)
    have D2_12 : (upd H11 m (.ins (He.ga K "Menu") dx (putF "_later" (.ref d3) [("_things", .ref t1), ("_weathers", .ref t2), ("_wishes", .ref d1), ("_back", .ref d2)]))) d2 = some (.dK (b.ws.map fun e => (Sum.inr e.name, V.str e.back))) := Kp.put _ _ (ne_of D2_11 mm11 (by intro z; cases z)) D2_11
    have D3_12 : (upd H11 m (.ins (He.ga K "Menu") dx (putF "_later" (.ref d3) [("_things", .ref t1), ("_weathers", .ref t2), ("_wishes", .ref d1), ("_back", .ref d2)]))) d3 = some (.dK k3x) := Kp.put _ _ (ne_of D3_11 mm11 (by intro z; cases z)) D3_11
    have P3_12 : TupsAt K (upd H11 m (.ins (He.ga K "Menu") dx (putF "_later" (.ref d3) [("_things", .ref t1), ("_weathers", .ref t2), ("_wishes", .ref d1), ("_back", .ref d2)]))) k3x (b.ws.map fun e => (e.name, e.later)) := TupsAt.kp P3_11 Kp.put (NoSq.ins mm11)
    have m12 : (upd H11 m (.ins (He.ga K "Menu") dx (putF "_later" (.ref d3) [("_things", .ref t1), ("_weathers", .ref t2), ("_wishes", .ref d1), ("_back", .ref d2)]))) m = some (.ins (He.ga K "Menu") dx [("_things", .ref t1), ("_weathers", .ref t2), ("_wishes", .ref d1), ("_back", .ref d2), ("_later", .ref d3)]) := upd_same
    generalize upd H11 m (.ins (He.ga K "Menu") dx (putF "_later" (.ref d3) [("_things", .ref t1), ("_weathers", .ref t2), ("_wishes", .ref d1), ("_back", .ref d2)])) = H12 at kp12 E1_12 E2_12 D1_12 P1_12 D2_12 D3_12 P3_12 m12 ⊢
    have dx12 := kp12 _ _ (nm hdx (by intros; simp)) hdx
    exact q _ kp12 ⟨dx, t1, t2, d1, d2, d3, k1x, k3x, m12, dx12, E1_12, E2_12, D1_12, P1_12, D2_12, D3_12, P3_12, N_d1, N_d2, N_d3⟩
end
end K50
namespace K50
open PySem PySem.Spec PyProof.Rows L2 Gx
section
variable {P : Program} {w : World} {K : PySem.W.Frag} {mg : Str → Option Value} {base : Heap}
theorem cm_Menu_check_weather (F : Facts K mg) : CaM P w K mg base (L2.CX P w) 3 (He.ga K "Menu") "_check_weather" (spCheck K) := by
  obtain ⟨fd, D⟩ := fun_Menu_check_weather F
  refine ⟨_, fd, ["self", "value"], D.ok sc_Menu_check_weather (fun vs H Q E h => ?_) (fun cdv A outer s H vs Q E hr h => ?_), D.bindsN fun _ _ _ _ _ _ us hl => match us, hl with | [_, _], _ => rfl, me_Menu_check_weather F, cls_Menu F⟩
  · obtain ⟨_, _, _, rfl, _⟩ := h
    rfl
  · have hu := hu_of hr
    have hr2 : Room 2 _ := hr.mono (by decide)
    refine ⟨_, (pss_one (ps_if (pt_cmpR (op_notInT (Room.u1 hr)) (pv 1) (pe_fld (pv 0) rfl) (by rfl)) (pss_one (ps_raise rfl (takes_of rfl rfl rfl rfl) (pmk_exV (ex_BadWeather F) hr2 rfl (pa_cons (pv 1) pa_nil)))) pss_nil)), ?_⟩
    obtain ⟨m, b, x, rfl, hM, h⟩ := h
    obtain ⟨dx, t1, t2, d1, d2, d3, k1, k3, hm, hdx, h1, h2, h3, h4, h5, h6, h7⟩ := hM
    refine ⟨_, rfl, _, rfl, m, _, dx, _, _, rfl, hm, cls_Menu F, no_Menu_weathers F, rfl, ?_⟩
    have raise : BadX K H b x → OutW K H x E → ∀ (Z : Prop), True := fun _ _ _ => trivial
    rcases h with ⟨z, rfl, hz, q⟩ | ⟨bad, out⟩
    · refine ⟨t2, b.names, rfl, h2, .inl ⟨z, rfl, ?_⟩⟩
      rw [decide_eq_true hz]
      exact ⟨_, rfl, q⟩
    · have c : (∃ z, x = .str z ∧ z ∉ b.names) ∨ NoStr K H x := bad.symm
      have tail : ∀ (a : Addr), H a = none → ∀ d, upd H a (exo a (He.ga K "BadWeather") none) d = none → d ≠ a → H d = none := fun a na d nd ne => by rwa [upd_ne ne] at nd
      rcases c with ⟨z, rfl, hz⟩ | ns
      · refine ⟨t2, b.names, rfl, h2, .inl ⟨z, rfl, ?_⟩⟩
        rw [decide_eq_false hz]
        refine ⟨_, rfl, _, rfl, (by simp), fun a na => ⟨a, _, rfl, upd_same, fun d nd ne => ⟨rfl, d, _, upd_same, ?_, tail a na d nd ne, raised na (tail a na d nd ne) ne fun H' k e => out d H' (tail a na d nd ne) k e⟩⟩⟩
        rw [upd_ne ne]
        exact upd_same
      · refine ⟨t2, b.names, rfl, h2, .inr ⟨ns, ?_⟩⟩
        refine ⟨_, rfl, _, rfl, (by simp), fun a na => ⟨a, _, rfl, upd_same, fun d nd ne => ⟨rfl, d, _, upd_same, ?_, tail a na d nd ne, raised na (tail a na d nd ne) ne fun H' k e => out d H' (tail a na d nd ne) k e⟩⟩⟩
        rw [upd_ne ne]
        exact upd_same
theorem cm_Menu_wishes (F : Facts K mg) : CaM P w K mg base (L2.CX P w) 4 (He.ga K "Menu") "wishes" (spWishes K) := by
  obtain ⟨fd, D⟩ := fun_Menu_wishes F
  refine ⟨_, fd, ["self", "weather"], D.ok sc_Menu_wishes (fun vs H Q E h => ?_) (fun cdv A outer s H vs Q E hr h => ?_), D.bindsN fun _ _ _ _ _ _ us hl => match us, hl with | [_, _], _ => rfl, me_Menu_wishes F, cls_Menu F⟩
  · obtain ⟨_, _, _, rfl, _⟩ := h
    rfl
  · have hu := hu_of hr
    skip
    refine ⟨_, (pss_cons (ps_expr (pe_cm (cm_Menu_check_weather F) (hr.mono (by decide)) (passes_call (takes_of rfl rfl rfl rfl) fun _ _ _ _ h => h) (pv 0) (pa_cons (pv 1) pa_nil)))
    (pss_one (ps_ret (pe_callTy call_list_of (by rfl) (z_list F) (by decide +kernel) (pa_cons (pe_dget hu (pe_fld (pv 0) rfl) (pv 1) (fun _ _ => rfl)) pa_nil))))), ?_⟩
    obtain ⟨m, b, x, rfl, hM, nd, h⟩ := h
    have hM2 := hM
    obtain ⟨dx, t1, t2, d1, d2, d3, k1, k3, hm, hdx, h1, h2, h3, h4, h5, h6, h7⟩ := hM
    refine ⟨_, rfl, m, dx, _, rfl, hm, rfl, _, rfl, m, b, x, rfl, hM2, ?_⟩
    rcases h with ⟨e, he, rfl, q⟩ | ⟨bad, out⟩
    · refine .inl ⟨e.name, rfl, List.mem_map.mpr ⟨e, he, rfl⟩, ?_⟩
      obtain ⟨a, gv, ha⟩ := h4.get (f := Ent.wishes) nd he
      refine ⟨_, rfl, m, _, dx, _, _, rfl, hm, cls_Menu F, no_Menu_wishes F, rfl, _, rfl, d1, _, rfl, .inl ⟨_, .inr e.name, .inl h3, rfl, gv.symm⟩, ?_⟩
      exact ⟨a, _, rfl, .inr ha, q⟩
    · exact .inr ⟨bad, out⟩
theorem cm_Menu_back (F : Facts K mg) : CaM P w K mg base (L2.CX P w) 4 (He.ga K "Menu") "back" (spBack K) := by
  obtain ⟨fd, D⟩ := fun_Menu_back F
  refine ⟨_, fd, ["self", "weather"], D.ok sc_Menu_back (fun vs H Q E h => ?_) (fun cdv A outer s H vs Q E hr h => ?_), D.bindsN fun _ _ _ _ _ _ us hl => match us, hl with | [_, _], _ => rfl, me_Menu_back F, cls_Menu F⟩
  · obtain ⟨_, _, _, rfl, _⟩ := h
    rfl
  · have hu := hu_of hr
    skip
    refine ⟨_, (pss_cons (ps_expr (pe_cm (cm_Menu_check_weather F) (hr.mono (by decide)) (passes_call (takes_of rfl rfl rfl rfl) fun _ _ _ _ h => h) (pv 0) (pa_cons (pv 1) pa_nil)))
    (pss_one (ps_ret (pe_dget hu (pe_fld (pv 0) rfl) (pv 1) (fun _ _ => rfl))))), ?_⟩
    obtain ⟨m, b, x, rfl, hM, nd, h⟩ := h
    have hM2 := hM
    obtain ⟨dx, t1, t2, d1, d2, d3, k1, k3, hm, hdx, h1, h2, h3, h4, h5, h6, h7⟩ := hM
    refine ⟨_, rfl, m, dx, _, rfl, hm, rfl, _, rfl, m, b, x, rfl, hM2, ?_⟩
    rcases h with ⟨e, he, rfl, q⟩ | ⟨bad, out⟩
    · refine .inl ⟨e.name, rfl, List.mem_map.mpr ⟨e, he, rfl⟩, ?_⟩
      have gv := back_get nd he
      refine ⟨_, rfl, m, _, dx, _, _, rfl, hm, cls_Menu F, no_Menu_back F, rfl, _, rfl, d2, _, rfl, .inl ⟨_, .inr e.name, .inl h5, rfl, gv.symm⟩, ?_⟩
      exact q
    · exact .inr ⟨bad, out⟩
theorem cm_Menu_later (F : Facts K mg) : CaM P w K mg base (L2.CX P w) 4 (He.ga K "Menu") "later" (spLater K) := by
  obtain ⟨fd, D⟩ := fun_Menu_later F
  refine ⟨_, fd, ["self", "weather"], D.ok sc_Menu_later (fun vs H Q E h => ?_) (fun cdv A outer s H vs Q E hr h => ?_), D.bindsN fun _ _ _ _ _ _ us hl => match us, hl with | [_, _], _ => rfl, me_Menu_later F, cls_Menu F⟩
  · obtain ⟨_, _, _, rfl, _⟩ := h
    rfl
  · have hu := hu_of hr
    skip
    refine ⟨_, (pss_cons (ps_expr (pe_cm (cm_Menu_check_weather F) (hr.mono (by decide)) (passes_call (takes_of rfl rfl rfl rfl) fun _ _ _ _ h => h) (pv 0) (pa_cons (pv 1) pa_nil)))
    (pss_one (ps_ret (pe_callTy call_list_of (by rfl) (z_list F) (by decide +kernel) (pa_cons (pe_dget hu (pe_fld (pv 0) rfl) (pv 1) (fun _ _ => rfl)) pa_nil))))), ?_⟩
    obtain ⟨m, b, x, rfl, hM, nd, h⟩ := h
    have hM2 := hM
    obtain ⟨dx, t1, t2, d1, d2, d3, k1, k3, hm, hdx, h1, h2, h3, h4, h5, h6, h7⟩ := hM
    refine ⟨_, rfl, m, dx, _, rfl, hm, rfl, _, rfl, m, b, x, rfl, hM2, ?_⟩
    rcases h with ⟨e, he, rfl, q⟩ | ⟨bad, out⟩
    · refine .inl ⟨e.name, rfl, List.mem_map.mpr ⟨e, he, rfl⟩, ?_⟩
      obtain ⟨a, gv, ha⟩ := h7.get (f := Ent.later) nd he
      refine ⟨_, rfl, m, _, dx, _, _, rfl, hm, cls_Menu F, no_Menu_later F, rfl, _, rfl, d3, _, rfl, .inl ⟨_, .inr e.name, .inl h6, rfl, gv.symm⟩, ?_⟩
      exact ⟨a, _, rfl, .inr ha, q⟩
    · exact .inr ⟨bad, out⟩
end
end K50
namespace K50
open PySem PySem.Spec PyProof.Rows L2 Gx
section
variable {P : Program} {w : World} {K : PySem.W.Frag} {mg : Str → Option Value} {base : Heap}
theorem cm_Menu_eq (F : Facts K mg) : CaM P w K mg base (CX0) 1 (He.ga K "Menu") "__eq__" (spEqM K) := by
  obtain ⟨fd, D⟩ := fun_Menu_eq F
  refine ⟨_, fd, ["self", "other"], D.ok sc_Menu_eq (fun vs H Q E h => ?_) (fun cdv A outer s H vs Q E hr h => ?_), D.bindsN fun _ _ _ _ _ _ us hl => match us, hl with | [_, _], _ => rfl, me_Menu_eq F, cls_Menu F⟩
  · obtain ⟨_, _, _, rfl, _⟩ := h
    rfl
  · have hu := hu_of hr
    skip
    refine ⟨_, PSs.nox (pss_one (ps_ret (pe_and (pe_callB call_isi (by rfl) (z_isinstance F) (by decide +kernel) (pa_cons (pv 1) (pa_cons (pe_glob (v := .ref (He.ga K "Menu")) rfl (g_Menu F) rfl) pa_nil))) (pe_and (pe_cmpR (op_eqD hr.units) (pe_fld (pv 0) rfl) (pe_fld (pv 1) rfl) (nomark _)) (pe_and (pe_cmpR (op_eqD hr.units) (pe_fld (pv 0) rfl) (pe_fld (pv 1) rfl) (nomark _)) (pe_and (pe_cmpR (op_eqDD (Room.u65 hr)) (pe_fld (pv 0) rfl) (pe_fld (pv 1) rfl) (nomark _)) (pe_and (pe_cmpR (op_eqDD (Room.u65 hr)) (pe_fld (pv 0) rfl) (pe_fld (pv 1) rfl) (nomark _)) (pe_one (pe_cmpR (op_eqDD (Room.u65 hr)) (pe_fld (pv 0) rfl) (pe_fld (pv 1) rfl) (nomark _)))))))))), ?_⟩
    obtain ⟨m, y, b, rfl, hM, h⟩ := h
    rcases h with ⟨m2, c, rfl, gM, wf, wg, q⟩ | ⟨⟨T, ty, hT⟩, q⟩
    · obtain ⟨dx, t1, t2, d1, d2, d3, k1, k3, hm, hdx, h1, h2, h3, h4, h5, h6, h7⟩ := hM
      obtain ⟨ex, u1, u2, e1, e2, e3, j1, j3, gm, gdx, g1, g2, g3, g4, g5, g6, g7⟩ := gM
      have c1 : decide (b.things = c.things) = false → decide (b = c) = false := fun e => by
        rw [← eqB_eq, eqB, e]
        rfl
      have c2 : decide (b.things = c.things) = true → decide (b.names = c.names) = false → decide (b = c) = false := fun e f => by
        rw [← eqB_eq, eqB, e, f]
        rfl
      have c3 : decide (b.things = c.things) = true → decide (b.names = c.names) = true → decide (b.ws.map Ent.wishes = c.ws.map Ent.wishes) = false → decide (b = c) = false := fun e f i => by
        rw [← eqB_eq, eqB, e, f, i]
        rfl
      have c4 : decide (b.things = c.things) = true → decide (b.names = c.names) = true → decide (b.ws.map Ent.wishes = c.ws.map Ent.wishes) = true → decide (b.ws.map Ent.back = c.ws.map Ent.back) = false → decide (b = c) = false := fun e f i j => by
        rw [← eqB_eq, eqB, e, f, i, j]
        rfl
      have c5 : decide (b.things = c.things) = true → decide (b.names = c.names) = true → decide (b.ws.map Ent.wishes = c.ws.map Ent.wishes) = true → decide (b.ws.map Ent.back = c.ws.map Ent.back) = true → decide (b = c) = decide (b.ws.map Ent.later = c.ws.map Ent.later) := fun e f i j => by
        rw [← eqB_eq, eqB, e, f, i, j]
        rfl
      refine ⟨_, rfl, _, .ref (He.ga K "Menu"), _, _, true, rfl, .own _, (menuI F).ty (cls_Menu F) gm, (menuI F).kit, ?_⟩
      refine ⟨_, rfl, ?_⟩
      refine ⟨_, rfl, m, _, dx, _, _, rfl, hm, cls_Menu F, no_Menu_things F, rfl, _, rfl, m2, _, ex, _, _, rfl, gm, cls_Menu F, no_Menu_things F, rfl, _, _, dp_t h1, dp_t g1, shape_t wf.okT, shape_t wg.okT, ?_⟩
      rw [eqv_t]
      refine ⟨_, rfl, ?_⟩
      cases z1 : decide (b.things = c.things) with
      | false =>
        rw [c1 z1] at q
        exact q
      | true =>
      refine ⟨_, rfl, m, _, dx, _, _, rfl, hm, cls_Menu F, no_Menu_weathers F, rfl, _, rfl, m2, _, ex, _, _, rfl, gm, cls_Menu F, no_Menu_weathers F, rfl, _, _, dp_t h2, dp_t g2, shape_t wf.okN, shape_t wg.okN, ?_⟩
      rw [eqv_t]
      refine ⟨_, rfl, ?_⟩
      cases z2 : decide (b.names = c.names) with
      | false =>
        rw [c2 z1 z2] at q
        exact q
      | true =>
      have nn : b.names = c.names := of_decide_eq_true z2
      have kw : ∀ {f f2 : Ent → List Str} {x y : List (Key × V)}, TupsAt K H x (b.ws.map fun e => (e.name, f e)) → TupsAt K H y (c.ws.map fun e => (e.name, f2 e)) → x.map (·.1) = y.map (·.1) ∧ (y.map (·.1)).Nodup := fun {f f2 x y} h k => by
        have p1 : (b.ws.map fun e => (e.name, f e)).map (·.1) = b.names := by rw [List.map_map]; rfl
        have p2 : (c.ws.map fun e => (e.name, f2 e)).map (·.1) = c.names := by rw [List.map_map]; rfl
        rw [h.keys, k.keys, p1, p2, nn]
        exact ⟨rfl, nodup_inr wg.wd⟩
      have dw : ∀ {d : Bs} (f : Ent → List Str), (d.ws.map fun e => (e.name, f e)).map (fun p => dT p.2) = (d.ws.map f).map dT := fun {d} f => by rw [List.map_map, List.map_map]; rfl
      have sh : ∀ {d : Bs} (f : Ent → List Str), (∀ e ∈ d.ws, ∀ x ∈ f e, okS x) → ∀ z ∈ (d.ws.map f).map dT, SeqAt.shaped z = true := fun {d} f h z hz => by
        obtain ⟨l, hl, rfl⟩ := List.mem_map.mp hz
        obtain ⟨e, he, rfl⟩ := List.mem_map.mp hl
        exact shape_t (h e he)
      have kk := kw (f := Ent.wishes) (f2 := Ent.wishes) h4 g4
      have w1 := h4.dp
      have w2 := g4.dp
      rw [dw Ent.wishes] at w1 w2
      refine ⟨_, rfl, m, _, dx, _, _, rfl, hm, cls_Menu F, no_Menu_wishes F, rfl, _, rfl, m2, _, ex, _, _, rfl, gm, cls_Menu F, no_Menu_wishes F, rfl, d1, e1, k1, j1, _, _, rfl, rfl, h3, g3, kk.1, kk.2, w1, w2, sh _ (fun e he => (wf.okW he).1), sh _ (fun e he => (wg.okW he).1), ?_⟩
      rw [eqv_ts]
      refine ⟨_, rfl, ?_⟩
      cases z3 : decide (b.ws.map Ent.wishes = c.ws.map Ent.wishes) with
      | false =>
        rw [c3 z1 z2 z3] at q
        exact q
      | true =>
      have bk : ∀ d : Bs, (d.ws.map fun e => ((Sum.inr e.name : Key), V.str e.back)).map (·.2) = (d.ws.map Ent.back).map V.str := fun d => by rw [List.map_map, List.map_map]; rfl
      have bk1 : ∀ d : Bs, (d.ws.map fun e => ((Sum.inr e.name : Key), V.str e.back)).map (·.1) = d.names.map Sum.inr := fun d => by unfold Bs.names; rw [List.map_map, List.map_map]; rfl
      have bd : ∀ d : Bs, DpAll K H ((d.ws.map fun e => ((Sum.inr e.name : Key), V.str e.back)).map (·.2)) ((d.ws.map Ent.back).map .str) := fun d => by rw [bk d]; exact dp_strs _
      have bs : ∀ {d : Bs}, WF d → ∀ z ∈ (d.ws.map Ent.back).map PyData.str, SeqAt.shaped z = true := fun {d} wd z hz => by
        obtain ⟨l, hl, rfl⟩ := List.mem_map.mp hz
        obtain ⟨e, he, rfl⟩ := List.mem_map.mp hl
        exact shape_s (wd.okW he).2.1
      refine ⟨_, rfl, m, _, dx, _, _, rfl, hm, cls_Menu F, no_Menu_back F, rfl, _, rfl, m2, _, ex, _, _, rfl, gm, cls_Menu F, no_Menu_back F, rfl, d2, e2, _, _, _, _, rfl, rfl, h5, g5, by rw [bk1, bk1, nn], by rw [bk1]; exact nodup_inr wg.wd, bd b, bd c, bs wf, bs wg, ?_⟩
      rw [eqv_strs]
      refine ⟨_, rfl, ?_⟩
      cases z4 : decide (b.ws.map Ent.back = c.ws.map Ent.back) with
      | false =>
        rw [c4 z1 z2 z3 z4] at q
        exact q
      | true =>
      rw [c5 z1 z2 z3 z4] at q
      have kl := kw (f := Ent.later) (f2 := Ent.later) h7 g7
      have v1 := h7.dp
      have v2 := g7.dp
      rw [dw Ent.later] at v1 v2
      refine ⟨_, rfl, m, _, dx, _, _, rfl, hm, cls_Menu F, no_Menu_later F, rfl, _, rfl, m2, _, ex, _, _, rfl, gm, cls_Menu F, no_Menu_later F, rfl, d3, e3, k3, j3, _, _, rfl, rfl, h6, g6, kl.1, kl.2, v1, v2, sh _ (fun e he => (wf.okW he).2.2), sh _ (fun e he => (wg.okW he).2.2), ?_⟩
      rw [eqv_ts]
      exact q
    · refine ⟨_, rfl, _, .ref (He.ga K "Menu"), _, _, false, rfl, .own _, ty, (menuTy F hT).1, ?_⟩
      exact ⟨_, rfl, q⟩
end
end K50
namespace K50
open PySem PySem.Spec PyProof.Rows L2 Gx
section
variable {P : Program} {w : World} {K : PySem.W.Frag} {mg : Str → Option Value} {base : Heap}
theorem seqIx {r : Int} {n : Nat} (h0 : 0 ≤ r) (h1 : r < n) : seqIndex? r n = some r.toNat := by
  unfold seqIndex?
  simp only [show ¬ r < 0 from by omega, if_false]
  rw [if_pos]
  simp only [Bool.and_eq_true, decide_eq_true_eq]
  exact ⟨h0, h1⟩
theorem erase_mapF {α β : Type} (f : α → β) : ∀ (xs : List α) (i : Nat), (xs.map f).eraseIdx i = (xs.eraseIdx i).map f
  | [], i => by simp
  | a :: xs, 0 => by simp
  | a :: xs, i + 1 => by simp [erase_mapF f xs i]
theorem erase_map (xs : List Str) (i : Nat) : (xs.map V.str).eraseIdx i = (xs.eraseIdx i).map V.str := erase_mapF _ xs i
theorem perm_erase {α : Type} : ∀ {xs : List α} {i : Nat} {x : α}, xs[i]? = some x → xs.Perm (x :: xs.eraseIdx i)
  | [], i, x, h => by simp at h
  | a :: xs, 0, x, h => by
    simp at h
    subst h
    simp
  | a :: xs, i + 1, x, h => by
    simp only [List.getElem?_cons_succ] at h
    rw [List.eraseIdx_cons_succ]
    exact (List.Perm.cons a (perm_erase h)).trans (List.Perm.swap x a _)
theorem ca_law_draw (F : Facts K mg) : Ca P w K mg base CX0 1 "_law_draw" (spDraw) := by
  obtain ⟨fd, D⟩ := fun_law_draw F
  refine ⟨_, fd, ["source", "span"], D.ok sc_law_draw (fun vs H Q E h => ?_) (fun cdv A outer s H vs Q E hr h => ?_), D.bindsN fun _ _ _ _ _ _ us hl => match us, hl with | [_, _], _ => rfl, g__law_draw F, D.kp⟩
  · obtain ⟨_, _, rfl, _⟩ := h
    rfl
  · have hu := hu_of hr
    skip
    refine ⟨_, PSs.nox (pss_cons (ps_if (pt_cmpR op_ge (pe_ix (ix_listK (K := K) rfl) (pv 0) pe_int (fun _ _ => rfl)) (pv 1) (nomark _)) (pss_cons (ps_set (i := 2) sc_law_draw.nd rfl (Or.inl rfl) (pe_op op_mod (pe_callTy call_int1 (by rfl) (z_int F) (by decide +kernel) (pa_cons (pe_ix (ix_listK (K := K) rfl) (pv 0) pe_int (fun _ _ => rfl)) pa_nil)) (pv 1)))
    (pss_cons (ps_asg (pe_op op_fdiv (pe_ix (ix_listK (K := K) rfl) (pv 0) pe_int (fun _ _ => rfl)) (pv 1)) (pg_sub (pv 0) pe_int set_list))
    (pss_one (ps_ret (pv 2))))) pss_nil)
    (pss_cons (ps_asg (pe_op op_mod (pe_callTy call_int1 (by rfl) (z_int F) (by decide +kernel) (pa_cons (pe_op op_add (pe_op op_mul (pe_ix (ix_listK (K := K) rfl) (pv 0) pe_int (fun _ _ => rfl)) pe_int) pe_int) pa_nil)) pe_int) (pg_sub (pv 0) pe_int set_list))
    (pss_one (ps_ret (pe_op op_mod (pe_callTy call_int1 (by rfl) (z_int F) (by decide +kernel) (pa_cons (pe_op op_fdiv (pe_op op_mod (pe_callTy call_int1 (by rfl) (z_int F) (by decide +kernel) (pa_cons (pe_op op_powW (pe_callTy call_int1 (by rfl) (z_int F) (by decide +kernel) (pa_cons (pe_ix (ix_listK (K := K) rfl) (pv 0) pe_int (fun _ _ => rfl)) pa_nil)) pe_int) pa_nil)) pe_int) pe_int) pa_nil)) (pv 1)))))), ?_⟩
    obtain ⟨p, k, rfl, ⟨x, y, hp, hx, hy, hy2⟩, k0, k1, q⟩ := h
    refine ⟨_, rfl, p, _, 0, .int x, rfl, rfl, SqL.of hp, rfl, _, rfl, x, k, rfl, rfl, _, rfl, ?_⟩
    refine ite2 (fun c => ?_) (fun c => ?_)
    · refine ⟨_, rfl, p, _, 0, .int x, rfl, rfl, SqL.of hp, rfl, .inl ⟨x, rfl, ?_⟩⟩
      refine ⟨_, rfl, x, k, rfl, rfl, k0, ?_⟩
      refine ⟨_, rfl, p, _, 0, .int x, rfl, rfl, SqL.of hp, rfl, _, rfl, x, k, rfl, rfl, ⟨k0, k1⟩, ?_⟩
      refine ⟨_, rfl, p, _, 0, 0, rfl, rfl, hp, rfl, ?_⟩
      exact ⟨_, rfl, q _ _ (Int.emod_nonneg _ (by omega)) (Int.emod_lt_of_pos _ k0) ⟨_, y, rfl, Int.ediv_nonneg hx (by omega), hy, hy2⟩⟩
    · have z0 := Int.emod_nonneg (y * 48271 + 7129) (by decide : (2147483647 : Int) ≠ 0)
      have z1 := Int.emod_lt_of_pos (y * 48271 + 7129) (by decide : (0 : Int) < 2147483647)
      refine ⟨_, rfl, p, _, 1, .int y, rfl, rfl, SqL.of hp, rfl, y, 48271, rfl, rfl, .inl ⟨by omega, by omega⟩, _, 7129, rfl, rfl, .inl ⟨_, rfl, _, 2147483647, rfl, rfl, by dsimp only; omega, ?_⟩⟩
      refine ⟨_, rfl, p, _, 1, 1, rfl, rfl, hp, rfl, ?_⟩
      refine ⟨_, rfl, p, _, 1, .int _, rfl, rfl, SqL.of upd_same, rfl, .inl ⟨_, rfl, _, 5, rfl, rfl, ⟨by decide, ?_⟩, .inl ⟨_, rfl, _, 1000000007, rfl, rfl, by dsimp only; omega, _, 31, rfl, rfl, ⟨by decide, by decide⟩, .inl ⟨_, rfl, _, rfl, _, k, rfl, rfl, k0, ?_⟩⟩⟩⟩
      · have b := bits_of_lt (a := (y * 48271 + 7129) % 2147483647) (k := 31) (by omega)
        omega
      · exact q _ _ (Int.emod_nonneg _ (by omega)) (Int.emod_lt_of_pos _ k0) ⟨x, _, rfl, hx, z0, by omega⟩
theorem ca_law_source (F : Facts K mg) : Ca P w K mg base CX0 1 "_law_source" (spSource K) := by
  obtain ⟨fd, D⟩ := fun_law_source F
  refine ⟨_, fd, ["script", "start"], D.ok sc_law_source (fun vs H Q E h => ?_) (fun cdv A outer s H vs Q E hr h => ?_), D.bindsN fun _ _ _ _ _ _ us hl => match us, hl with | [_, _], _ => rfl, g__law_source F, D.kp⟩
  · obtain ⟨_, _, _, rfl, _⟩ := h
    rfl
  · have hu := hu_of hr
    skip
    refine ⟨_, PSs.nox (pss_cons (ps_set (i := 2) sc_law_source.nd rfl (Or.inl rfl) (pe_op op_add pe_int (pv 1)))
    (pss_cons (ps_for PassesOwn.never rfl (pi_list (pv 0)) (pg_name (i := 3) sc_law_source.nd rfl (Or.inl rfl))
      (pss_one (ps_set (i := 2) sc_law_source.nd rfl (Or.inl rfl) (pe_op op_add (pe_op op_mod (pe_callTy call_int1 (by rfl) (z_int F) (by decide +kernel) (pa_cons (pe_op op_powW (pe_callTy call_int1 (by rfl) (z_int F) (by decide +kernel) (pa_cons (pe_op op_add (pe_op op_mul (pv 2) pe_int) (pe_callTy call_int1 (by rfl) (z_int F) (by decide +kernel) (pa_cons (pv 3) pa_nil))) pa_nil)) pe_int) pa_nil)) pe_int) pe_int))))
    (pss_cons (ps_set (i := 4) sc_law_source.nd rfl (Or.inl rfl) pe_int)
    (pss_cons (ps_if (PW.pt (pw_and (pt_cmpR op_lt (pv 1) (pe_callB call_len (by rfl) (z_len F) boot_len (pa_cons (pv 0) pa_nil)) (nomark _)) (pw_and1 (pt_cmpR op_ge (pe_ix (ix_listK (K := K) rfl) (pv 0) (pv 1) (fun _ _ => rfl)) (pe_op op_powW pe_int pe_int) (nomark _))))) (pss_one (ps_set (i := 4) sc_law_source.nd rfl (Or.inl rfl) (pe_op op_sub (pe_ix (ix_listK (K := K) rfl) (pv 0) (pv 1) (fun _ _ => rfl)) (pe_op op_powW pe_int pe_int)))) pss_nil)
    (pss_one (ps_ret (pe_lst (pa_cons (pv 4) (pa_cons (pv 2) pa_nil))))))))), ?_⟩
    obtain ⟨a, ns, st, rfl, hS, hl, hb, s0, s1, q⟩ := h
    refine ⟨_, rfl, 83, st, rfl, rfl, ?_⟩
    refine ⟨_, rfl, a, rfl, ⟨_, hS⟩, ?_⟩
    refine for_list (K := K) (xs := ns.map V.int) (fun i σ H' => ∃ (m : Int) (c : Option V), 0 ≤ m ∧ m < 2147483648 ∧ H' = H ∧ σ = [some (.ref a), some (.int st), some (.int m), c, none]) ⟨_, none, by omega, by omega, rfl, rfl⟩ (fun i σ H' _ p => ?_) (fun i x σ H' hx p => ?_) (fun σ H' p => ?_)
    · obtain ⟨m, c, _, _, rfl, _⟩ := p
      exact hS
    · obtain ⟨m, c, m0, m1, rfl, rfl⟩ := p
      rw [List.getElem?_map] at hx
      obtain ⟨z, hz, rfl⟩ := Option.map_eq_some_iff.mp hx
      refine ⟨_, rfl, m, 90007, rfl, rfl, .inl ⟨by omega, by omega⟩, _, rfl, .inl ⟨z, rfl, _, z, rfl, rfl, .inl ⟨_, rfl, _, 3, rfl, rfl, ⟨by decide, ?_⟩, .inl ⟨_, rfl, _, 2147483563, rfl, rfl, by dsimp only; omega, _, 1, rfl, rfl, ?_⟩⟩⟩⟩
      · have b := Gx.bits_add (bits_mono (bits_of_lt (a := m * 90007) (k := 49) (by omega)) (by decide : 49 ≤ 1048576)) (hb z (List.mem_of_getElem? hz))
        omega
      · have h0 := Int.emod_nonneg ((m * 90007 + z) ^ (3 : Int).toNat) (by decide : (2147483563 : Int) ≠ 0)
        have h1 := Int.emod_lt_of_pos ((m * 90007 + z) ^ (3 : Int).toNat) (by decide : (0 : Int) < 2147483563)
        exact ⟨_, some (.int z), by omega, by omega, rfl, rfl⟩
    · obtain ⟨m, c, m0, m1, rfl, rfl⟩ := p
      have fin : ∀ (o : Int), 0 ≤ o → ∀ l, H' l = none → Q (.ref l) (upd H' l (.lst [.int o, .int m])) := fun o h0 l hl => q _ _ hl ⟨o, m, rfl, h0, m0, m1⟩
      refine ⟨_, rfl, _, rfl, _, _, rfl, .inl ⟨_, hS, rfl⟩, st, _, rfl, rfl, _, rfl, ?_⟩
      refine ite2 (fun c => ?_) (fun c => ?_)
      · have c2 : st < (ns.map V.int).length := of_decide_eq_true c
        rw [List.length_map] at c2
        have hz : ns[st.toNat]? = some (ns[st.toNat]'(by omega)) := List.getElem?_eq_getElem _
        have hat : atI (ns.map V.int) st = some (.int (ns[st.toNat]'(by omega))) := by
          have e := atI_nat (xs := ns.map V.int) (j := st.toNat) (v := .int (ns[st.toNat]'(by omega))) (by rw [List.getElem?_map, hz]; rfl)
          rwa [Int.toNat_of_nonneg s0] at e
        refine ⟨_, rfl, _, rfl, a, _, st, _, rfl, rfl, hS, hat, 10, 18, rfl, rfl, ⟨by decide, by decide⟩, _, _, rfl, rfl, _, rfl, ?_⟩
        refine ite2 (fun d => ?_) (fun d => ?_)
        · have d2 := of_decide_eq_true d
          refine ⟨_, rfl, _, rfl, a, _, st, _, rfl, rfl, hS, hat, 10, 18, rfl, rfl, ⟨by decide, by decide⟩, _, _, rfl, rfl, ?_⟩
          exact ⟨_, rfl, _, rfl, (by show 2 ≤ sizeLine; decide), fin _ (by omega)⟩
        · exact ⟨_, rfl, _, rfl, (by show 2 ≤ sizeLine; decide), fin 0 (by omega)⟩
      · exact ⟨_, rfl, _, rfl, (by show 2 ≤ sizeLine; decide), fin 0 (by omega)⟩
theorem ca_law_pick (F : Facts K mg) : Ca P w K mg base CX0 2 "_law_pick" (spPick K) := by
  obtain ⟨fd, D⟩ := fun_law_pick F
  refine ⟨_, fd, ["source", "some"], D.ok sc_law_pick (fun vs H Q E h => ?_) (fun cdv A outer s H vs Q E hr h => ?_), D.bindsN fun _ _ _ _ _ _ us hl => match us, hl with | [_, _], _ => rfl, g__law_pick F, D.kp⟩
  · obtain ⟨_, _, rfl, _⟩ := h
    rfl
  · have hu := hu_of hr
    skip
    refine ⟨_, PSs.nox (pss_one (ps_ret (pe_ix ix_seq (pv 1) (pe_ca (ca_law_draw F) (hr.mono (by decide)) rfl pass0 (pa_cons (pv 0) (pa_cons (pe_callB call_len (by rfl) (z_len F) boot_len (pa_cons (pv 1) pa_nil)) pa_nil))) (fun _ _ => rfl)))), ?_⟩
    obtain ⟨p, w2, rfl, hs, h⟩ := h
    have hs0 := hs
    obtain ⟨sx, sy, sp, _⟩ := hs
    rcases h with ⟨b, vs, rfl, hv, h0, h1, ne, q⟩ | ⟨z, rfl, h0, h1, q⟩
    · refine ⟨_, rfl, _, rfl, _, rfl, _, _, rfl, .inl ⟨_, hv, rfl⟩, ?_⟩
      refine ⟨p, _, rfl, hs0, by omega, by omega, fun r o r0 r1 ho => ?_⟩
      have e : vs[r.toNat]? = some (vs[r.toNat]'(by omega)) := List.getElem?_eq_getElem _
      have hat := atI_nat e
      rw [Int.toNat_of_nonneg r0] at hat
      have hv2 : SqL K (upd H p o) b vs := by
        rcases hv with (hv | ⟨ob, hv⟩) | hv
        · exact .inl (.inl (by rw [upd_ne ne]; exact hv))
        · exact .inl (.inr ⟨ob, by rw [upd_ne ne]; exact hv⟩)
        · exact .inr hv
      exact .inl ⟨b, vs, r, _, rfl, rfl, hv2, hat, q _ o (List.mem_of_getElem? e) ho⟩
    · have hz : z.length ≤ sizeLine := Nat.le_trans (Nat.le_of_lt h1) (by decide)
      refine ⟨_, rfl, _, rfl, _, rfl, _, _, rfl, ⟨hz, rfl⟩, ?_⟩
      refine ⟨p, _, rfl, hs0, by omega, by omega, fun r o r0 r1 ho => ?_⟩
      have zl : z.cps.toList.length = z.length := by rw [Array.length_toList]; rfl
      have e : z.cps.toList[r.toNat]? = some (z.cps.toList[r.toNat]'(by omega)) := List.getElem?_eq_getElem _
      have hat := atI_nat e
      rw [Int.toNat_of_nonneg r0] at hat
      exact .inr (.inr ⟨z, r, _, rfl, rfl, hz, hat, q _ o (List.mem_of_getElem? e) ho⟩)
theorem ca_law_mixed (F : Facts K mg) : Ca P w K mg base CX0 2 "_law_mixed" (spMixed K) := by
  obtain ⟨fd, D⟩ := fun_law_mixed F
  refine ⟨_, fd, ["source", "some"], D.ok sc_law_mixed (fun vs H Q E h => ?_) (fun cdv A outer s H vs Q E hr h => ?_), D.bindsN fun _ _ _ _ _ _ us hl => match us, hl with | [_, _], _ => rfl, g__law_mixed F, D.kp⟩
  · obtain ⟨_, _, _, rfl, _⟩ := h
    rfl
  · have hu := hu_of hr
    skip
    refine ⟨_, PSs.nox (pss_cons (ps_par (i := 2) (j := 3) (by rfl) sc_law_mixed.nd rfl rfl (by decide) rfl rfl (pa_cons (pe_callTy call_list_of (by rfl) (z_list F) (by decide +kernel) (pa_cons (pv 1) pa_nil)) (pa_cons (pe_lst pa_nil) pa_nil)) (by rfl))
    (pss_cons (ps_while PassesOwn.never (pt_cmpR (op_neD hr.units) (pv 2) (pe_lst pa_nil) (nomark _))
      (pss_one (ps_expr (pe_bm PySem.F.plainAttrs_list PySem.F.slot_list_append PySem.F.type_list_append mt_append (pv 3) (pa_cons (pe_bm PySem.F.plainAttrs_list PySem.F.slot_list_pop PySem.F.type_list_pop mt_popAt (pv 2) (pa_cons (pe_ca (ca_law_draw F) (hr.mono (by decide)) rfl pass0 (pa_cons (pv 0) (pa_cons (pe_callB call_len (by rfl) (z_len F) boot_len (pa_cons (pv 2) pa_nil)) pa_nil))) pa_nil)) pa_nil)))))
    (pss_one (ps_ret (pv 3))))), ?_⟩
    obtain ⟨p, a, xs, rfl, hs, nap, hx, few, ok, q⟩ := h
    refine ⟨_, rfl, a, _, rfl, hx, fun l n1 => ?_⟩
    generalize g1 : upd _ l _ = H1
    obtain ⟨k1, e1, _⟩ := laid g1 n1
    refine ⟨(by show 0 ≤ sizeLine; decide), fun f n2 => ?_⟩
    generalize g2 : upd _ f _ = H2
    obtain ⟨k2, e2, _⟩ := laid g2 n2
    have lp : l ≠ p := hs.old n1
    have fp : f ≠ p := (hs.same k1).old n2
    have lf : l ≠ f := fun z => by rw [z, n2] at e1; cases e1
    have n2' : H f = none := none_old k1 n2
    refine ⟨_, _, rfl, ?_⟩
    refine while_by (fun σ H' => ∃ lot found : List Str, σ = [some (.ref p), some (.ref a), some (.ref l), some (.ref f)] ∧ Kp p H H' ∧ SrcAt H' p ∧ H' l = some (.lst (lot.map V.str)) ∧ H' f = some (.lst (found.map V.str)) ∧ (found ++ lot).Perm xs) (fun _ H' => match H' l with | some (.lst ys) => ys.length | _ => 0)
      ⟨xs, [], rfl, Same.kp (k1.trans k2), (hs.same k1).same k2, k2 _ _ e1, e2, by simp⟩ (fun σ H' z => ?_) (fun σ H' Q1 Q2 m c => ?_)
    · obtain ⟨lot, found, rfl, kp, s2, hl, hf, pm⟩ := z
      have okl : ∀ x ∈ lot, okS x := fun x hx => ok x (pm.mem_iff.mp (List.mem_append_right _ hx))
      refine ⟨_, rfl, (by show 0 ≤ sizeLine; decide), fun t nt => ?_⟩
      generalize gt : upd _ t _ = H3
      obtain ⟨kt, et, _⟩ := laid gt nt
      refine ⟨.list (lot.map .str), .list [], .lst (SqL.of (kt _ _ hl)) (dp_strs lot), .lst (SqL.of et) .nil, ?_, by decide +kernel, ?_⟩
      · unfold SeqAt.shaped
        rw [Bool.and_eq_true]
        refine ⟨by simp only [PyData.canLay0]; exact lay_str okl, decide_eq_true ?_⟩
        simp only [PyData.depth, depth_str]
        omega
      refine ⟨_, rfl, ?_⟩
      have s3 := s2.same kt
      have kp3 : Kp p H H3 := kp.trans (Same.kp kt)
      have hl3 := kt _ _ hl
      have hf3 := kt _ _ hf
      cases lot with
      | nil =>
        have e : (!PyData.eqv (.list (([] : List Str).map .str)) (.list [])) = false := by decide +kernel
        rw [e]
        refine ⟨_, rfl, ?_⟩
        rw [List.append_nil] at pm
        exact q _ _ found kp3 s3 hf3 pm n2'
      | cons x0 rest =>
        have e : (!PyData.eqv (.list ((x0 :: rest).map .str)) (.list [])) = true := by simp [PyData.eqv, PyData.eqvAll]
        rw [e]
        have ll : (x0 :: rest).length ≤ xs.length := by rw [← pm.length_eq, List.length_append]; omega
        have ll2 : found.length ≤ xs.length := by rw [← pm.length_eq, List.length_append]; omega
        refine ⟨_, rfl, .inl ⟨rfl, _, SqL.of hf3⟩, ?_⟩
        refine ⟨_, rfl, .inl ⟨rfl, _, SqL.of hl3⟩, ?_⟩
        refine ⟨_, rfl, _, rfl, _, _, rfl, .inl ⟨_, SqL.of hl3, rfl⟩, ?_⟩
        have lm : ((x0 :: rest).map V.str).length = rest.length + 1 := by simp
        refine ⟨p, _, rfl, s3, by rw [lm]; omega, by rw [lm]; simp only [List.length_cons] at ll; omega, fun r o r0 r1 ho => ?_⟩
        rw [lm] at r1
        have rn : r.toNat < (x0 :: rest).length := by simp only [List.length_cons]; omega
        have er : (x0 :: rest)[r.toNat]? = some ((x0 :: rest)[r.toNat]) := List.getElem?_eq_getElem rn
        have s4 : SrcAt (upd H3 p o) p := SrcAt.put ho
        have hl4 : (upd H3 p o) l = some (.lst ((x0 :: rest).map V.str)) := by rw [upd_ne lp]; exact hl3
        have hf4 : (upd H3 p o) f = some (.lst (found.map V.str)) := by rw [upd_ne fp]; exact hf3
        have kp4 : Kp p H (upd H3 p o) := kp3.trans Kp.put
        generalize upd H3 p o = H4 at s4 hl4 hf4 kp4 ⊢
        refine ⟨l, _, r, r.toNat, .str ((x0 :: rest)[r.toNat]), rfl, rfl, hl4, by omega, by simp only [List.length_cons] at ll; omega, ?_, by rw [List.getElem?_map, er]; rfl, ?_⟩
        · rw [lm]
          exact seqIx r0 (by simp only [List.length_cons] at rn; omega)
        have hf5 : (upd H4 l (.lst (((x0 :: rest).map V.str).eraseIdx r.toNat))) f = some (.lst (found.map V.str)) := by rw [upd_ne (Ne.symm lf)]; exact hf4
        refine ⟨f, _, _, rfl, rfl, hf5, by rw [List.length_map]; exact Nat.lt_of_lt_of_le (by omega : found.length < 1000) (by decide), ?_⟩
        have em : ((x0 :: rest).map V.str).eraseIdx r.toNat = ((x0 :: rest).eraseIdx r.toNat).map V.str := erase_map _ _
        have h4n : H l = none := n1
        refine ⟨⟨(x0 :: rest).eraseIdx r.toNat, found ++ [(x0 :: rest)[r.toNat]], rfl, fun b ob nb eb => ?_, ?_, ?_, ?_, ?_⟩, ?_⟩
        · have b1 : b ≠ f := ne_of_none eb n2'
          have b2 : b ≠ l := ne_of_none eb h4n
          rw [upd_ne b1, upd_ne b2]
          exact kp4 _ _ nb eb
        · obtain ⟨u, v, eu, hu⟩ := s4
          exact ⟨u, v, by rw [upd_ne (Ne.symm fp), upd_ne (Ne.symm lp)]; exact eu, hu⟩
        · rw [upd_ne lf, upd_same, em]
        · rw [upd_same, List.map_append]
          rfl
        · rw [List.append_assoc]
          refine List.Perm.trans (List.Perm.append_left found ?_) pm
          exact (perm_erase er).symm
        · show (match (upd _ f _) l with | some (.lst ys) => ys.length | _ => 0) < (match H' l with | some (.lst ys) => ys.length | _ => 0)
          rw [upd_ne lf, upd_same, hl, em]
          simp only [List.length_map, List.length_eraseIdx]
          rw [if_pos rn]
          simp only [List.length_cons]
          omega
    · obtain ⟨v, hv, sz, f⟩ := c
      exact ⟨v, hv, sz, fun l hl => by
        obtain ⟨d, e, h1, h2, h3, h4, k, hk, q⟩ := f l hl
        exact ⟨d, e, h1, h2, h3, h4, k, hk, m _ _ q⟩⟩
end
end K50
namespace K50
open PySem PySem.Spec PyProof.Rows L2 Gx
section
variable {P : Program} {w : World} {K : PySem.W.Frag} {mg : Str → Option Value} {base : Heap}
def nine : List Str := ["a", "b", "c", "hat", "coat", "things", "top", "place", "abcdefgh"]
def nmB (x : Str) : Bool := decide (1 ≤ x.length) && (decide (x.length ≤ 8) && x.cps.toList.all fun c => decide (97 ≤ c) && decide (c ≤ 122))
theorem nmB_ok {x : Str} (h : nmB x = true) : NM x := by
  unfold nmB at h
  simp only [Bool.and_eq_true, decide_eq_true_eq, List.all_eq_true] at h
  exact ⟨h.1, h.2.1, fun c hc => h.2.2 c hc⟩
theorem nine_nm : ∀ x ∈ nine, NM x := by
  have h : nine.all nmB = true := by decide +kernel
  exact fun x hx => nmB_ok (List.all_eq_true.mp h x hx)
theorem nine_ok : ∀ x ∈ nine, okS x := fun x hx => (nine_nm x hx).ok
theorem cut_take {xs : List V} {k : Int} (h : 0 ≤ k) : cutV xs none (some k) = xs.take k.toNat := by
  unfold cutV
  have e : HT.sIx xs.length xs.length (some k) = min k.toNat xs.length := by
    have := HT.sIx_nat xs.length xs.length k.toNat
    rwa [Int.toNat_of_nonneg h] at this
  rw [e, HT.sIx_none, List.drop_zero, Nat.sub_zero]
  rcases Nat.le_total k.toNat xs.length with l | l
  · rw [Nat.min_eq_left l]
  · rw [Nat.min_eq_right l, List.take_length, List.take_of_length_le l]
theorem ixn {r : Int} {n : Nat} (h0 : 0 ≤ r) (h1 : r < n) : ixN n r = some r.toNat := by
  unfold ixN
  simp [h0, h1]
theorem nodup_set {α : Type} : ∀ {xs : List α} (i : Nat) {x : α}, xs.Nodup → x ∉ xs → (xs.set i x).Nodup
  | [], i, x, _, _ => by simp
  | a :: xs, 0, x, nd, h => by
    simp only [List.set_cons_zero, List.nodup_cons]
    exact ⟨fun z => h (List.mem_cons_of_mem _ z), (List.nodup_cons.mp nd).2⟩
  | a :: xs, i + 1, x, nd, h => by
    simp only [List.set_cons_succ, List.nodup_cons]
    refine ⟨fun z => ?_, nodup_set i (List.nodup_cons.mp nd).2 (fun z => h (List.mem_cons_of_mem _ z))⟩
    rcases List.mem_or_eq_of_mem_set z with z | z
    · exact (List.nodup_cons.mp nd).1 z
    · exact h (z ▸ List.mem_cons_self)
theorem SqL.kne {K : PySem.W.Frag} {H H' : Hp} {p a : Addr} {xs : List V} (h : SqL K H a xs) (k : Kp p H H') (n : a ≠ p) : SqL K H' a xs := by
  rcases h with (h | ⟨o, h⟩) | h
  · exact .inl (.inl (k _ _ n h))
  · exact .inl (.inr ⟨o, k _ _ n h⟩)
  · exact .inr h
theorem len_snoc (z : Str) (d : Nat) : (z ++ (⟨#[d]⟩ : Str)).length = z.length + 1 := by
  show (z.cps ++ #[d]).size = z.cps.size + 1
  simp
theorem mem_snoc {z : Str} {d e : Nat} (h : e ∈ (z ++ (⟨#[d]⟩ : Str)).cps.toList) : e ∈ z.cps.toList ∨ e = d := by
  have h2 : e ∈ (z.cps ++ #[d]).toList := h
  simpa using h2
theorem abc (e : Nat) (h : e ∈ (Str.ofString "abcdefghijklmnopqrstuvwxyz").cps.toList) : 97 ≤ e ∧ e ≤ 122 := by
  have all : (Str.ofString "abcdefghijklmnopqrstuvwxyz").cps.toList.all (fun c => decide (97 ≤ c) && decide (c ≤ 122)) = true := by decide +kernel
  have := List.all_eq_true.mp all e h
  simpa using this
theorem nine_nd : nine.Nodup := by decide +kernel
theorem ca_law_word (F : Facts K mg) : Ca P w K mg base CX0 3 "_law_word" (spWord) := by
  obtain ⟨fd, D⟩ := fun_law_word F
  refine ⟨_, fd, ["source"], D.ok sc_law_word (fun vs H Q E h => ?_) (fun cdv A outer s H vs Q E hr h => ?_), D.bindsN fun _ _ _ _ _ _ us hl => match us, hl with | [_], _ => rfl, g__law_word F, D.kp⟩
  · obtain ⟨_, rfl, _⟩ := h
    rfl
  · have hu := hu_of hr
    skip
    refine ⟨_, PSs.nox (pss_cons (ps_set (i := 1) sc_law_word.nd rfl (Or.inl rfl) pe_str)
    (pss_cons (ps_for PassesOwn.never rfl (pi_range1 rfl (z_range F) (pa_cons (pe_op op_add pe_int (pe_ca (ca_law_draw F) (hr.mono (by decide)) rfl pass0 (pa_cons (pv 0) (pa_cons pe_int pa_nil)))) pa_nil)) (pg_name (i := 2) sc_law_word.nd rfl (Or.inl rfl))
      (pss_one (ps_set (i := 1) sc_law_word.nd rfl (Or.inl rfl) (pe_op op_add_str (pv 1) (pe_ca (ca_law_pick F) (hr.mono (by decide)) rfl pass0 (pa_cons (pv 0) (pa_cons pe_str pa_nil)))))))
    (pss_one (ps_ret (pv 1))))), ?_⟩
    obtain ⟨p, rfl, hs, q⟩ := h
    refine ⟨_, rfl, p, 8, rfl, hs, by decide, by decide, fun r o r0 r1 ho => ?_⟩
    refine ⟨_, _, rfl, rfl, ?_⟩
    have rn : (1 + r).toNat ≤ 8 := by omega
    refine ⟨1 + r, rfl, by omega, by omega, for_range (n := (1 + r).toNat) (fun i σ H' => ∃ (z : Str) (c : Option V), σ = [some (.ref p), some (.str z), c] ∧ Kp p H H' ∧ SrcAt H' p ∧ z.length = i ∧ ∀ c ∈ z.cps.toList, 97 ≤ c ∧ c ≤ 122) ⟨"", none, rfl, Kp.put, SrcAt.put ho, rfl, fun c h => by cases h⟩ (fun i σ H' hi z => ?_) (fun σ H' z => ?_)⟩
    · obtain ⟨z, c, rfl, kp, s2, hl, hc⟩ := z
      refine ⟨_, rfl, _, rfl, p, .str "abcdefghijklmnopqrstuvwxyz", rfl, s2, .inr ⟨_, rfl, by decide +kernel, by decide +kernel, fun d o2 hd ho2 => ?_⟩⟩
      refine ⟨_, _, rfl, rfl, ?_, ?_⟩
      · show z.length + 1 ≤ sizeLine
        rw [hl, sizeLine_eq]
        omega
      refine ⟨_, _, rfl, kp.trans Kp.put, SrcAt.put ho2, ?_, ?_⟩
      · show (z ++ (⟨#[d]⟩ : Str)).length = i + 1
        rw [← hl]
        exact len_snoc z d
      · intro e he
        rcases mem_snoc he with h | h
        · exact hc e h
        · subst h
          exact abc e hd
    · obtain ⟨z, c, rfl, kp, s2, hl, hc⟩ := z
      exact ⟨_, rfl, q _ z kp s2 ⟨by omega, by omega, hc⟩⟩
theorem ca_law_names (F : Facts K mg) : Ca P w K mg base CX0 4 "_law_names" (spNames K) := by
  obtain ⟨fd, D⟩ := fun_law_names F
  refine ⟨_, fd, ["source", "many"], D.ok sc_law_names (fun vs H Q E h => ?_) (fun cdv A outer s H vs Q E hr h => ?_), D.bindsN fun _ _ _ _ _ _ us hl => match us, hl with | [_, _], _ => rfl, g__law_names F, D.kp⟩
  · obtain ⟨_, _, rfl, _⟩ := h
    rfl
  · have hu := hu_of hr
    skip
    refine ⟨_, PSs.nox (pss_cons (ps_set (i := 2) sc_law_names.nd rfl (Or.inl rfl) (pe_ca (ca_law_mixed F) (hr.mono (by decide)) rfl pass0 (pa_cons (pv 0) (pa_cons (pe_lst (pa_cons pe_str (pa_cons pe_str (pa_cons pe_str (pa_cons pe_str (pa_cons pe_str (pa_cons pe_str (pa_cons pe_str (pa_cons pe_str (pa_cons pe_str pa_nil)))))))))) pa_nil))))
    (pss_cons (ps_set (i := 3) sc_law_names.nd rfl (Or.inl rfl) (pe_ca (ca_law_word F) (hr.mono (by decide)) rfl pass0 (pa_cons (pv 0) pa_nil)))
    (pss_cons (ps_if (pt_cmpR (op_notIn_seqK (K := K) rfl) (pv 3) (pv 2) (by rfl)) (pss_one (ps_asg (pv 3) (pg_sub (pv 2) (pe_ca (ca_law_draw F) (hr.mono (by decide)) rfl pass0 (pa_cons (pv 0) (pa_cons (pv 1) pa_nil))) set_list))) pss_nil)
    (pss_one (ps_ret (pe_slice sl_list (pv 2) po_none (po_some (pv 1)))))))), ?_⟩
    obtain ⟨p, many, rfl, hs, m1, m5, q⟩ := h
    refine ⟨_, rfl, (by show 9 ≤ sizeLine; decide), fun a na => ?_⟩
    generalize g1 : upd _ a _ = H1
    obtain ⟨k1, e1, _⟩ := laid g1 na
    refine ⟨p, a, nine, rfl, hs.same k1, hs.old na, .inl (SqL.of e1), by decide, nine_ok, fun H2 l ys k2 s2 e2 pm n2 => ?_⟩
    refine ⟨_, rfl, p, rfl, s2, fun H3 x k3 s3 nx => ?_⟩
    have lp : l ≠ p := (hs.same k1).old n2
    have kpA : Kp p H H3 := (Same.kp k1).trans (k2.trans k3)
    have e3 := k3 _ _ lp e2
    have yl : ys.length = 9 := pm.length_eq
    have yn : ys.Nodup := pm.nodup_iff.mpr nine_nd
    have ym : ∀ y ∈ ys, NM y := fun y hy => nine_nm y (pm.mem_iff.mp hy)
    refine ⟨_, rfl, _, rfl, l, _, rfl, .inl (SqL.of e3), rfl, flat_texts ys, ?_⟩
    rw [show (if true = true then !inV (.str x) (ys.map V.str) else inV (.str x) (ys.map V.str)) = !decide (x ∈ ys) from by rw [in_texts]; rfl]
    refine ⟨_, rfl, ?_⟩
    by_cases hx : x ∈ ys
    · rw [decide_eq_true hx]
      have KP := kpA
      have SR := s3
      have HL := e3
      have ZL := yl
      have ZN := yn
      have ZM := ym
      refine ⟨_, rfl, _, rfl, many, rfl, l, _, rfl, SqL.of HL, fun t nt => ?_⟩
      rw [cut_take (by omega : 0 ≤ many), ← List.map_take]
      have nt0 : H t = none := Kp.none KP hs nt SR
      exact q _ t _ (KP.trans (Same.kp (Same.new nt))) (SR.same (Same.new nt)) upd_same (by rw [List.length_take, ZL]; omega) (List.Sublist.nodup (List.take_sublist _ _) ZN) (fun y hy => ZM y (List.mem_of_mem_take hy)) nt0
    · rw [decide_eq_false hx]
      refine ⟨_, rfl, _, rfl, _, rfl, _, rfl, p, many, rfl, s3, by omega, by omega, fun r o r0 r1 ho => ?_⟩
      have rl : r.toNat < ys.length := by omega
      have e4 : (upd H3 p o) l = some (.lst (ys.map V.str)) := by rw [upd_ne lp]; exact e3
      refine ⟨l, _, r, r.toNat, rfl, rfl, e4, ixn r0 (by rw [List.length_map]; omega), ?_⟩
      rw [← List.map_set]
      have KP : Kp p H (upd (upd H3 p o) l (.lst ((ys.set r.toNat x).map V.str))) := fun b ob nb eb => by
        have b1 : b ≠ l := ne_of_none (k1 _ _ eb) n2
        rw [upd_ne b1, upd_ne nb]
        exact kpA _ _ nb eb
      have SR : SrcAt (upd (upd H3 p o) l (.lst ((ys.set r.toNat x).map V.str))) p := by
        obtain ⟨u, v, eu, hu⟩ := SrcAt.put (H := H3) (p := p) ho
        exact ⟨u, v, by rw [upd_ne (Ne.symm lp)]; exact eu, hu⟩
      have HL : (upd (upd H3 p o) l (.lst ((ys.set r.toNat x).map V.str))) l = some (.lst ((ys.set r.toNat x).map V.str)) := upd_same
      have ZL : (ys.set r.toNat x).length = 9 := by rw [List.length_set]; exact yl
      have ZN := nodup_set r.toNat yn hx
      have ZM : ∀ y ∈ ys.set r.toNat x, NM y := fun y hy => (List.mem_or_eq_of_mem_set hy).elim (ym y) (fun e => e ▸ nx)
      generalize upd (upd H3 p o) l (.lst ((ys.set r.toNat x).map V.str)) = H5 at KP SR HL ⊢
      refine ⟨_, rfl, _, rfl, many, rfl, l, _, rfl, SqL.of HL, fun t nt => ?_⟩
      rw [cut_take (by omega : 0 ≤ many), ← List.map_take]
      have nt0 : H t = none := Kp.none KP hs nt SR
      exact q _ t _ (KP.trans (Same.kp (Same.new nt))) (SR.same (Same.new nt)) upd_same (by rw [List.length_take, ZL]; omega) (List.Sublist.nodup (List.take_sublist _ _) ZN) (fun y hy => ZM y (List.mem_of_mem_take hy)) nt0
theorem ca_law_some (F : Facts K mg) : Ca P w K mg base CX0 3 "_law_some" (spSome K) := by
  obtain ⟨fd, D⟩ := fun_law_some F
  refine ⟨_, fd, ["source", "names", "least"], D.ok sc_law_some (fun vs H Q E h => ?_) (fun cdv A outer s H vs Q E hr h => ?_), D.bindsN fun _ _ _ _ _ _ us hl => match us, hl with | [_, _, _], _ => rfl, g__law_some F, D.kp⟩
  · obtain ⟨_, _, _, _, rfl, _⟩ := h
    rfl
  · have hu := hu_of hr
    skip
    refine ⟨_, PSs.nox (pss_one (ps_ret (pe_callTy (call_tuple_ofK (K := K) rfl) (by rfl) (z_tuple F) (by decide +kernel) (pa_cons (pe_slice sl_list (pe_ca (ca_law_mixed F) (hr.mono (by decide)) rfl pass0 (pa_cons (pv 0) (pa_cons (pv 1) pa_nil))) po_none (po_some (pe_op op_add (pv 2) (pe_ca (ca_law_draw F) (hr.mono (by decide)) rfl pass0 (pa_cons (pv 0) (pa_cons (pe_op op_sub (pe_op op_add (pe_callB call_len (by rfl) (z_len F) boot_len (pa_cons (pv 1) pa_nil)) pe_int) (pv 2)) pa_nil)))))) pa_nil)))), ?_⟩
    obtain ⟨p, a, xs, least, rfl, hs, nap, hx, nd, ok, l0, l1, l5, q⟩ := h
    refine ⟨_, rfl, _, rfl, p, a, xs, rfl, hs, nap, hx, by omega, ok, fun H2 l ys k2 s2 e2 pm n2 => ?_⟩
    have yl : ys.length = xs.length := pm.length_eq
    have lp : l ≠ p := hs.old n2
    have ln : (∃ zs, SqL K H2 a zs ∧ xs.length = zs.length) ∨ ∃ zs, SqT K H2 a zs ∧ xs.length = zs.length := hx.elim (fun h => .inl ⟨_, SqL.kne h k2 nap, by simp⟩) (fun h => .inr ⟨_, SqT.src h k2 hs, by simp⟩)
    refine ⟨_, rfl, _, rfl, _, rfl, _, xs.length, rfl, ln, _, _, rfl, rfl, _, rfl, _, _, rfl, rfl, p, _, rfl, s2, by omega, by omega, fun r o r0 r1 ho => ?_⟩
    refine ⟨_, _, rfl, rfl, _, rfl, l, _, rfl, SqL.of (by rw [upd_ne lp]; exact e2), fun t nt => ?_⟩
    rw [cut_take (by omega : 0 ≤ least + r), ← List.map_take]
    generalize g3 : upd _ t _ = H3
    obtain ⟨k3, e3, _⟩ := laid g3 nt
    refine ⟨t, _, rfl, .inl ⟨SqL.of e3, fun u nu => ?_⟩⟩
    generalize g4 : upd _ u _ = H4
    obtain ⟨k4, e4, _⟩ := laid g4 nu
    refine q _ u _ ((k2.trans Kp.put).trans (Same.kp (k3.trans k4))) (((SrcAt.put ho).same k3).same k4) (.inl (.inl e4)) (List.Sublist.nodup (List.take_sublist _ _) (pm.nodup_iff.mpr nd)) (fun y hy => pm.mem_iff.mp (List.mem_of_mem_take hy)) ?_
    rw [List.length_take]
    omega
end
end K50
namespace K50
open PySem PySem.Spec PyProof.Rows L2 Gx
section
variable {P : Program} {w : World} {K : PySem.W.Frag} {mg : Str → Option Value} {base : Heap}
theorem SqT.lst {K : PySem.W.Frag} {m a : Addr} {H H' : Hp} {xs ys : List V} (h : SqT K H a xs) (k : Kp m H H') (e : H m = some (.lst ys)) : SqT K H' a xs := by
  rcases h with h | h
  · have ne : a ≠ m := fun z => by
      subst z
      rcases h with h | ⟨o, h⟩ <;> rw [e] at h <;> cases h
    rcases h with h | ⟨o, h⟩
    · exact .inl (.inl (k _ _ ne h))
    · exact .inl (.inr ⟨o, k _ _ ne h⟩)
  · exact .inr h
theorem EAt.lst {K : PySem.W.Frag} {m : Addr} {H H' : Hp} {ys : List V} {v : V} {e : Ent} (h : EAt K H v e) (k : Kp m H H') (q : H m = some (.lst ys)) : EAt K H' v e := by
  obtain ⟨a, w, l, rfl, h1, h2, h3⟩ := h
  exact ⟨a, w, l, rfl, SqT.lst h1 k q, SqT.lst h2 k q, SqT.lst h3 k q⟩
theorem ca_law_base (F : Facts K mg) : Ca P w K mg base CX0 5 "_law_base" (spBase K) := by
  obtain ⟨fd, D⟩ := fun_law_base F
  refine ⟨_, fd, ["source", "most"], D.ok sc_law_base (fun vs H Q E h => ?_) (fun cdv A outer s H vs Q E hr h => ?_), D.bindsN fun _ _ _ _ _ _ us hl => match us, hl with | [_, _], _ => rfl, g__law_base F, D.kp⟩
  · obtain ⟨_, _, rfl, _⟩ := h
    rfl
  · have hu := hu_of hr
    skip
    refine ⟨_, PSs.nox (pss_cons (ps_set (i := 2) sc_law_base.nd rfl (Or.inl rfl) (pe_callTy (call_tuple_ofK (K := K) rfl) (by rfl) (z_tuple F) (by decide +kernel) (pa_cons (pe_ca (ca_law_names F) (hr.mono (by decide)) rfl pass0 (pa_cons (pv 0) (pa_cons (pe_op op_add pe_int (pe_ca (ca_law_draw F) (hr.mono (by decide)) rfl pass0 (pa_cons (pv 0) (pa_cons (pv 1) pa_nil)))) pa_nil))) pa_nil)))
    (pss_cons (ps_par (i := 4) (j := 5) (by rfl) sc_law_base.nd rfl rfl (by decide) rfl rfl (pa_cons (pe_ca (ca_law_names F) (hr.mono (by decide)) rfl pass0 (pa_cons (pv 0) (pa_cons (pe_op op_add pe_int (pe_ca (ca_law_draw F) (hr.mono (by decide)) rfl pass0 (pa_cons (pv 0) (pa_cons pe_int pa_nil)))) pa_nil))) (pa_cons (pe_lst pa_nil) pa_nil)) (by rfl))
    (pss_cons (ps_for PassesOwn.never rfl (pi_list (pv 4)) (pg_name (i := 3) sc_law_base.nd rfl (Or.inl rfl))
      (pss_cons (ps_set (i := 6) sc_law_base.nd rfl (Or.inl rfl) (pe_ca (ca_law_pick F) (hr.mono (by decide)) rfl pass0 (pa_cons (pv 0) (pa_cons (pe_lst (pa_cons pe_str (pa_cons pe_str (pa_cons pe_str pa_nil)))) pa_nil))))
    (pss_one (ps_expr (pe_bm PySem.F.plainAttrs_list PySem.F.slot_list_append PySem.F.type_list_append mt_append (pv 5) (pa_cons (pe_tup (pa_cons (pv 3) (pa_cons (pe_ca (ca_law_some F) (hr.mono (by decide)) rfl pass0 (pa_cons (pv 0) (pa_cons (pv 2) (pa_cons pe_int pa_nil)))) (pa_cons (pv 6) (pa_cons (pe_ca (ca_law_some F) (hr.mono (by decide)) rfl pass0 (pa_cons (pv 0) (pa_cons (pv 4) (pa_cons pe_int pa_nil)))) pa_nil))))) pa_nil))))))
    (pss_one (ps_ret (pe_tup (pa_cons (pv 2) (pa_cons (pe_callTy (call_tuple_ofK (K := K) rfl) (by rfl) (z_tuple F) (by decide +kernel) (pa_cons (pv 5) pa_nil)) pa_nil)))))))), ?_⟩
    obtain ⟨p, most, rfl, hs, m1, m5, q⟩ := h
    refine ⟨_, rfl, _, rfl, _, rfl, p, most, rfl, hs, by omega, by omega, fun r o r0 r1 ho => ?_⟩
    refine ⟨_, _, rfl, rfl, ?_⟩
    have s1 : SrcAt (upd H p o) p := SrcAt.put ho
    have kp1 : Kp p H (upd H p o) := Kp.put
    generalize upd H p o = H1 at s1 kp1 ⊢
    refine ⟨p, 1 + r, rfl, s1, by omega, by omega, fun H2 a things k2 s2 e2 tl tn tm n2 => ?_⟩
    refine ⟨a, _, rfl, .inl ⟨SqL.of e2, fun tt n3 => ?_⟩⟩
    generalize g3 : upd _ tt _ = H3
    obtain ⟨k3, e3, _⟩ := laid g3 n3
    have s3 := s2.same k3
    have ttp : tt ≠ p := s2.old n3
    refine ⟨_, rfl, _, rfl, p, 4, rfl, s3, by decide, by decide, fun r2 o2 r20 r21 ho2 => ?_⟩
    refine ⟨_, _, rfl, rfl, ?_⟩
    have s4 : SrcAt (upd H3 p o2) p := SrcAt.put ho2
    have T4 : SqT K (upd H3 p o2) tt (things.map V.str) := SqT.src (.inl (.inl e3)) Kp.put s3
    have kp4 : Kp p H (upd H3 p o2) := ((kp1.trans k2).trans (Same.kp k3)).trans Kp.put
    generalize upd H3 p o2 = H4 at s4 T4 kp4 ⊢
    refine ⟨p, 1 + r2, rfl, s4, by omega, by omega, fun H5 nl names k5 s5 e5 nln nn nmm n5 => ?_⟩
    refine ⟨(by show 0 ≤ sizeLine; decide), fun wl n6 => ?_⟩
    have T5 := SqT.src T4 k5 s4
    have nlp : nl ≠ p := s4.old n5
    have kp5 : Kp p H H5 := kp4.trans k5
    generalize g6 : upd _ wl _ = H6
    obtain ⟨k6, e6, _⟩ := laid g6 n6
    have wlp : wl ≠ p := s5.old n6
    have wlH : H wl = none := Kp.none kp5 hs n6 s5
    have wnl : nl ≠ wl := fun z => by rw [z, n6] at e5; cases e5
    refine ⟨_, _, rfl, ?_⟩
    have E6 := k6 _ _ e5
    have T6 := SqT.same T5 k6
    have s6 := s5.same k6
    have kp6 : Kp p H H6 := kp5.trans (Same.kp k6)
    have nl4 : names.length ≤ 4 := by omega
    have nl1 : 1 ≤ names.length := by omega
    refine ⟨_, rfl, nl, rfl, ⟨_, SqL.of E6⟩, for_list (K := K) (xs := names.map V.str) (fun i σ H' => ∃ (es : List V) (ws : List Ent) (c d : Option V), σ = [some (.ref p), some (.int most), some (.ref tt), c, some (.ref nl), some (.ref wl), d] ∧ Kp p H H' ∧ SrcAt H' p ∧ H' nl = some (.lst (names.map V.str)) ∧ SqT K H' tt (things.map V.str) ∧
      H' wl = some (.lst es) ∧ Paired (EAt K H') es ws ∧ ws.map Ent.name = names.take i ∧ ∀ e ∈ ws, WE things names e) ⟨[], [], none, none, rfl, kp6, s6, E6, T6, e6, .nil, rfl, fun e h => by cases h⟩ (fun i σ H' _ z => ?_) (fun i x σ H' hx z => ?_) (fun σ H' z => ?_)⟩
    · obtain ⟨es, ws, c, d, rfl, z1, z2, z3, z4, z5, z6, z7, z8⟩ := z
      exact SqL.of z3
    · obtain ⟨es, ws, c, d, rfl, z1, z2, z3, z4, z5, z6, z7, z8⟩ := z
      rw [List.getElem?_map] at hx
      obtain ⟨nm, hnm, rfl⟩ := Option.map_eq_some_iff.mp hx
      have hi : i < names.length := (List.getElem?_eq_some_iff.mp hnm).1
      refine ⟨_, rfl, (by show 3 ≤ sizeLine; decide), fun b1 nb1 => ?_⟩
      generalize gb : upd _ b1 _ = G1
      obtain ⟨j1, f1, _⟩ := laid gb nb1
      refine ⟨p, _, rfl, z2.same j1, .inl ⟨b1, _, rfl, SqL.of f1, by decide, by decide, z2.old nb1, fun bk o3 hbk ho3 => ?_⟩⟩
      have hbk2 : ∃ bs : Str, bk = .str bs ∧ (bs = "top" ∨ bs = "place") := by
        simp only [List.mem_cons, List.not_mem_nil, or_false] at hbk
        rcases hbk with h | h | h <;> exact ⟨_, h, by simp⟩
      obtain ⟨bs, rfl, hbs⟩ := hbk2
      have kA : Kp p H' (upd G1 p o3) := (Same.kp j1).trans Kp.put
      have sA : SrcAt (upd G1 p o3) p := SrcAt.put ho3
      generalize upd G1 p o3 = G2 at kA sA ⊢
      have wA : G2 wl = some (.lst es) := kA _ _ wlp z5
      have nA : G2 nl = some (.lst (names.map V.str)) := kA _ _ nlp z3
      have tA := SqT.src z4 kA z2
      refine ⟨_, rfl, .inl ⟨rfl, _, SqL.of wA⟩, ?_⟩
      refine ⟨_, rfl, _, rfl, _, rfl, p, tt, things, 0, rfl, sA, ttp, .inr tA, tn, fun x hx => (tm x hx).ok, by decide, by omega, by omega, fun G3 t1 y1 kB sB tB ndB sbB _ => ?_⟩
      have wB := kB _ _ wlp wA
      have nB := kB _ _ nlp nA
      refine ⟨_, rfl, _, rfl, _, rfl, p, nl, names, 1, rfl, sB, nlp, .inl (SqL.of nB), nn, fun x hx => (nmm x hx).ok, by decide, by omega, by omega, fun G4 t2 y2 kC sC tC ndC sbC lC => ?_⟩
      have wC := kC _ _ wlp wB
      have nC := kC _ _ nlp nB
      have tB2 := SqT.src tB kC sB
      refine ⟨(by show 4 ≤ sizeLine; decide), fun u nu => ?_⟩
      generalize gu : upd _ u _ = G5
      obtain ⟨j5, f5, _⟩ := laid gu nu
      have wD := j5 _ _ wC
      have kD : Kp p H' G5 := ((kA.trans kB).trans kC).trans (Same.kp j5)
      have le : es.length = i := by rw [Paired.length z6, ← List.length_map (f := Ent.name), z7, List.length_take]; omega
      refine ⟨wl, _, _, rfl, rfl, wD, Nat.lt_of_lt_of_le (by omega : es.length < 1000) (by decide), ?_⟩
      have kE : Kp wl G5 (upd G5 wl (.lst (es ++ [.ref u]))) := Kp.put
      refine ⟨es ++ [.ref u], ws ++ [⟨nm, y1, bs, y2⟩], some (.str nm), some (.str bs), rfl, fun b ob nb eb => ?_, ?_, ?_, ?_, upd_same, ?_, ?_, ?_⟩
      · have b2 : b ≠ wl := ne_of_none eb wlH
        rw [upd_ne b2]
        exact kD _ _ nb (z1 _ _ nb eb)
      · obtain ⟨x1, x2, x3, x4⟩ := sC.same j5
        exact ⟨x1, x2, by rw [upd_ne (Ne.symm wlp)]; exact x3, x4⟩
      · rw [upd_ne wnl]
        exact j5 _ _ nC
      · exact SqT.lst (SqT.src z4 kD z2) kE wD
      · refine Paired.snoc (Paired.imp2 (fun _ _ h => EAt.lst (h.src kD z2) kE wD) z6) ⟨u, t1, t2, rfl, .inl (.inl (kE _ _ (fun z => by rw [z, wD] at f5; cases f5) f5)), SqT.lst (SqT.same tB2 j5) kE wD, SqT.lst (SqT.same tC j5) kE wD⟩
      · rw [List.map_append, z7, List.take_succ, hnm]
        rfl
      · intro e he
        rcases List.mem_append.mp he with he | he
        · exact z8 e he
        · simp at he
          subst he
          exact ⟨sbB, ndB, sbC, ndC, fun z => by simp only at z; rw [z] at lC; simp at lC, hbs⟩
    · obtain ⟨es, ws, c, d, rfl, z1, z2, z3, z4, z5, z6, z7, z8⟩ := z
      rw [List.length_map, List.take_length] at z7
      refine ⟨_, rfl, _, rfl, wl, es, rfl, .inl ⟨SqL.of z5, fun u nu => ?_⟩⟩
      generalize gu : upd _ u _ = G1
      obtain ⟨j1, f1, _⟩ := laid gu nu
      refine ⟨(by show 2 ≤ sizeLine; decide), fun t nt => ?_⟩
      generalize gt : upd _ t _ = G2
      obtain ⟨j2, f2, _⟩ := laid gt nt
      have j := j1.trans j2
      have wl4 : ws.length = names.length := by rw [← z7, List.length_map]
      exact q _ t ⟨things, ws⟩ (z1.trans (Same.kp j)) (z2.same j) ⟨tt, u, es, .inl (.inl f2), SqT.same z4 j, .inl (.inl (j2 _ _ f1)), Paired.imp2 (fun _ _ h => h.same j) z6⟩
        ⟨by show 1 ≤ things.length; omega, by show things.length ≤ 5; omega, tm, tn, by show 1 ≤ ws.length; omega, by show ws.length ≤ 4; omega, by unfold Bs.names; rw [z7]; exact nmm, by unfold Bs.names; rw [z7]; exact nn, by unfold Bs.names; rw [z7]; exact z8⟩
end
end K50
namespace K50
open PySem PySem.Spec PyProof.Rows L2 Gx
section
variable {P : Program} {w : World} {K : PySem.W.Frag} {mg : Str → Option Value} {base : Heap}
theorem Paired.impM {α β : Type} {R S : α → β → Prop} : ∀ {xs : List α} {ys : List β}, (∀ a b, b ∈ ys → R a b → S a b) → Paired R xs ys → Paired S xs ys
  | _, _, _, .nil => .nil
  | _, _, f, .cons h t => .cons (f _ _ List.mem_cons_self h) (Paired.impM (fun a b hb => f a b (List.mem_cons_of_mem _ hb)) t)
theorem ca_law_made (F : Facts K mg) : Ca P w K mg base CX0 7 "_law_made" (spMade K) := by
  obtain ⟨fd, D⟩ := fun_law_made F
  refine ⟨_, fd, ["base"], D.ok sc_law_made (fun vs H Q E h => ?_) (fun cdv A outer s H vs Q E hr h => ?_), D.bindsN fun _ _ _ _ _ _ us hl => match us, hl with | [_], _ => rfl, g__law_made F, D.kp⟩
  · obtain ⟨_, _, rfl, _⟩ := h
    rfl
  · have hu := hu_of hr
    skip
    refine ⟨_, PSs.nox (pss_cons (ps_par (i := 3) (j := 4) (by rfl) sc_law_made.nd rfl rfl (by decide) rfl rfl (pa_cons (pe_callTy call_list_of (by rfl) (z_list F) (by decide +kernel) (pa_cons (pe_ix (ix_tupK (K := K) rfl) (pv 0) pe_int (fun _ _ => rfl)) pa_nil)) (pa_cons pe_dnewK pa_nil)) (by rfl))
    (pss_cons (ps_for PassesOwn.never rfl (pi_tup (pe_ix (ix_tupK (K := K) rfl) (pv 0) pe_int (fun _ _ => rfl))) (pg_tup rfl (pgs_cons (pg_name (i := 2) sc_law_made.nd rfl (Or.inl rfl)) (pgs_cons (pg_name (i := 5) sc_law_made.nd rfl (Or.inl rfl)) (pgs_cons (pg_name (i := 6) sc_law_made.nd rfl (Or.inl rfl)) (pgs_cons (pg_name (i := 7) sc_law_made.nd rfl (Or.inl rfl)) pgs_nil)))))
      (pss_one (ps_dput hu (pv 4) (pv 2) (pe_tup (pa_cons (pe_callTy call_list_of (by rfl) (z_list F) (by decide +kernel) (pa_cons (pv 5) pa_nil)) (pa_cons (pv 6) (pa_cons (pe_callTy call_list_of (by rfl) (z_list F) (by decide +kernel) (pa_cons (pv 7) pa_nil)) pa_nil)))) rfl)))
    (pss_cons (ps_set (i := 1) sc_law_made.nd rfl (Or.inl rfl) (pe_mk (mk_Menu F) (hr.mono (by decide)) rfl pass0 (pa_cons (pv 3) (pa_cons (pv 4) pa_nil))))
    (pss_cons (ps_for PassesOwn.never rfl (pi_list (pe_callTy (call_list_dK rfl) (by rfl) (z_list F) (by decide +kernel) (pa_cons (pv 4) pa_nil))) (pg_name (i := 2) sc_law_made.nd rfl (Or.inl rfl))
      (pss_cons (ps_expr (pe_bm PySem.F.plainAttrs_list PySem.F.slot_list_append PySem.F.type_list_append mt_append (pe_ix (ix_tupK (K := K) rfl) (pe_dget hu (pv 4) (pv 2) (fun _ _ => rfl)) pe_int (fun _ _ => rfl)) (pa_cons pe_str pa_nil)))
    (pss_one (ps_expr (pe_bm PySem.F.plainAttrs_list PySem.F.slot_list_append PySem.F.type_list_append mt_append (pe_ix (ix_tupK (K := K) rfl) (pe_dget hu (pv 4) (pv 2) (fun _ _ => rfl)) pe_int (fun _ _ => rfl)) (pa_cons pe_str pa_nil))))))
    (pss_cons (ps_expr (pe_bm0 PySem.F.plainAttrs_dict PySem.F.slot_dict_clear PySem.F.type_dict_clear mtd_clear (pv 4)))
    (pss_cons (ps_expr (pe_bm0 PySem.F.plainAttrs_list PySem.F.slot_list_clear PySem.F.type_list_clear mt_clear (pv 3)))
    (pss_one (ps_ret (pv 1))))))))), ?_⟩
    obtain ⟨t, b, rfl, hb, wf, q⟩ := h
    have hb0 := hb
    obtain ⟨th, wt, es, h1, h2, h3, h4⟩ := hb
    refine ⟨_, rfl, t, _, 0, _, rfl, rfl, h1, rfl, th, _, rfl, .inr h2, fun l nl => ?_⟩
    generalize g1 : upd _ l _ = H1
    obtain ⟨k1, e1, _⟩ := laid g1 nl
    intro d nd
    generalize g2 : upd _ d _ = H2
    obtain ⟨k2, e2, _⟩ := laid g2 nd
    have ld : l ≠ d := fun z => by rw [z, nd] at e1; cases e1
    have ndH : H d = none := none_old k1 nd
    have few := wf.w4
    refine ⟨_, _, rfl, ?_⟩
    refine ⟨_, rfl, t, _, 1, _, rfl, rfl, SqT.same h1 (k1.trans k2), rfl, wt, rfl, ⟨_, SqT.same h3 (k1.trans k2)⟩, for_tup (K := K) (xs := es) (fun i σ H' => ∃ (kvs : List (Key × V)) (c2 c5 c6 c7 : Option V), σ = [some (.ref t), none, c2, some (.ref l), some (.ref d), c5, c6, c7] ∧ Same H H' ∧ H' l = some (.lst (b.things.map V.str)) ∧ H' d = some (.dK kvs) ∧ Paired (XAt K H H') kvs (b.ws.take i))
      ⟨[], none, none, none, none, rfl, k1.trans k2, k2 _ _ e1, e2, by rw [List.take_zero]; exact .nil⟩ (fun i σ H' _ z => ?_) (fun i x σ H' hx z => ?_) (fun σ H' z => ?_)⟩
    · obtain ⟨kvs, c2, c5, c6, c7, rfl, z1, z2, z3, z4⟩ := z
      exact SqT.same h3 z1
    · obtain ⟨kvs, c2, c5, c6, c7, rfl, z1, z2, z3, z4⟩ := z
      obtain ⟨e, he, a, w1, l1, rfl, f1, f2, f3⟩ := Paired.at2 h4 hx
      have hi : i < b.ws.length := (List.getElem?_eq_some_iff.mp he).1
      refine ⟨a, _, rfl, SqT.same f1 z1, rfl, _, _, rfl, _, _, rfl, _, _, rfl, _, _, rfl, rfl, ?_⟩
      refine ⟨_, rfl, w1, _, rfl, .inr (SqT.same f2 z1), fun p1 n1 => ?_⟩
      generalize g3 : upd _ p1 _ = G1
      obtain ⟨j1, q1, _⟩ := laid g3 n1
      refine ⟨_, rfl, _, rfl, l1, _, rfl, .inr (SqT.same f3 (z1.trans j1)), fun p2 n2 => ?_⟩
      generalize g4 : upd _ p2 _ = G2
      obtain ⟨j2, q2, _⟩ := laid g4 n2
      refine ⟨(by show 3 ≤ sizeLine; decide), fun u nu => ?_⟩
      generalize g5 : upd _ u _ = G3
      obtain ⟨j3, q3, _⟩ := laid g5 nu
      have j := j1.trans (j2.trans j3)
      have d3 := j _ _ z3
      have lk : kvs.length = i := by rw [Paired.length z4, List.length_take]; omega
      have fresh : (Sum.inr e.name : Key) ∉ kvs.map (·.1) := by
        rw [Paired.map1 (fun _ _ q => q.1) z4]
        intro hm
        obtain ⟨nm, hn, h5⟩ := List.mem_map.mp hm
        cases h5
        rw [List.map_take] at hn
        obtain ⟨y, hy, ey⟩ := List.mem_iff_getElem.mp hn
        rw [List.length_take] at hy
        rw [List.getElem_take] at ey
        have e1 : (b.ws.map Ent.name)[y]? = some e.name := by rw [List.getElem?_eq_getElem (by rw [List.length_map]; omega), ey]
        have e2 : (b.ws.map Ent.name)[i]? = some e.name := by rw [List.getElem?_map, he]; rfl
        have nd2 := wf.wd
        unfold Bs.names at nd2
        have := nodup_inj nd2 e1 e2
        omega
      refine ⟨_, rfl, _, rfl, d, _, rfl, DPut.k (k := .inr e.name) d3 (by rw [lk]; exact Nat.lt_of_lt_of_le (by omega : i < 5) (by decide)), ?_⟩
      rw [putK_new fresh]
      refine ⟨_, _, _, _, _, rfl, Same.over (z1.trans j) ndH, ?_, upd_same, ?_⟩
      · rw [upd_ne ld]
        exact j _ _ z2
      · rw [List.take_succ, he]
        have dk : ∀ {a : Addr} {o : HO}, G3 a = some o → (∀ ks, o ≠ .dK ks) → (upd G3 d (.dK (kvs ++ [(Sum.inr e.name, .ref u)]))) a = some o := fun {a o} q n => by
          rw [upd_ne (fun z => by rw [z, d3] at q; cases q; exact n _ rfl)]
          exact q
        refine Paired.snoc (Paired.imp2 (fun _ _ h => XAt.dic (h.same j) Kp.put d3) z4) ⟨rfl, u, p1, p2, rfl, .inl (.inl (dk q3 (by intros; simp))), none_old z1 n1, none_old (z1.trans j1) n2, dk ((j2.trans j3) _ _ q1) (by intros; simp), dk (j3 _ _ q2) (by intros; simp)⟩
    · obtain ⟨kvs, c2, c5, c6, c7, rfl, z1, z2, z3, z4⟩ := z
      have el : es.length = b.ws.length := Paired.length h4
      rw [el, List.take_length] at z4
      refine ⟨_, rfl, _, rfl, fun m dx nm ndx ne => ?_⟩
      generalize gL : upd (upd H' dx (.own m)) m _ = HL
      have sl : Same H' HL := fun a o h => by rw [← gL, upd_ne (ne_of_none h nm), upd_ne (ne_of_none h ndx)]; exact h
      have a1 : HL m = some (.ins (He.ga K "Menu") dx []) := by rw [← gL]; exact upd_same
      have a2 : HL dx = some (.own m) := by rw [← gL, upd_ne ne]; exact upd_same
      refine ⟨m, dx, .ref l, d, b, kvs, rfl, a1, a2, sl _ _ z3, Paired.imp2 (fun _ _ h => (h.same sl).ent) z4, ⟨l, rfl, .inl (SqL.of (sl _ _ z2))⟩, wf, fun H7 kp isF => ⟨rfl, ?_⟩⟩
      have s7 : Same H' H7 := fun a o h => kp _ _ (ne_of_none h nm) (sl _ _ h)
      have d7 := s7 _ _ z3
      refine ⟨_, rfl, d, kvs, rfl, d7, fun q2 n2 => ?_⟩
      generalize g3 : upd _ q2 _ = H8
      obtain ⟨k8, e8, _⟩ := laid g3 n2
      have q2H : H q2 = none := none_old (z1.trans s7) n2
      have q2L : HL q2 = none := by
        rcases hq : HL q2 with _ | o
        · rfl
        · have nmq : q2 ≠ m := fun z => by
            obtain ⟨x1, x2, x3, x4, x5, x6, x7, x8, y1, _⟩ := isF
            rw [z, y1] at n2
            cases n2
          rw [kp _ _ nmq hq] at n2
          cases n2
      have five : ∀ e ∈ b.ws, e.wishes.length ≤ 5 ∧ e.later.length ≤ 5 := fun e he => by
        have h5 := wf.we e he
        have h6 := nodup_len h5.wd h5.w
        have h7 := nodup_len h5.ld h5.l
        have h8 := wf.t5
        unfold Bs.names at h7
        rw [List.length_map] at h7
        omega
      have L8 : Paired (LAt K (fun a => H a = none ∧ a ≠ q2) H8 5) kvs b.ws := Paired.impM (fun p e he h => LAt.same (XAt.l (h.same s7) n2 (five e he).1 (five e he).2) k8) z4
      refine ⟨q2, rfl, ⟨_, SqL.of e8⟩, for_list (K := K) (xs := kvs.map fun kv => kV kv.1) (fun i σ G => ∃ (c2 c5 c6 c7 : Option V) (ys : List V), σ = [some (.ref t), some (.ref m), c2, some (.ref l), some (.ref d), c5, c6, c7] ∧ Same H G ∧ IsMF K HL G m b ∧ G l = some (.lst ys) ∧ G d = some (.dK kvs) ∧ G q2 = some (.lst (kvs.map fun kv => kV kv.1)) ∧ Paired (LAt K (fun a => H a = none ∧ a ≠ q2) G (5 + 2 * i)) kvs b.ws)
        ⟨_, _, _, _, _, rfl, z1.trans (s7.trans k8), isF.same k8, (s7.trans k8) _ _ z2, k8 _ _ d7, e8, L8⟩ (fun i σ G _ z => ?_) (fun i x σ G hx z => ?_) (fun σ G z => ?_)⟩
      · obtain ⟨c2, c5, c6, c7, ys, rfl, y1, y2, y3, y4, y5, y6⟩ := z
        exact SqL.of y5
      · obtain ⟨c2, c5, c6, c7, ys, rfl, y1, y2, y3, y4, y5, y6⟩ := z
        rw [List.getElem?_map] at hx
        obtain ⟨pr, hpr, rfl⟩ := Option.map_eq_some_iff.mp hx
        obtain ⟨e, he, ek, tt, w, l2, et, st, fw, fl, ⟨yw, hw, lw⟩, yl, hl, ll⟩ := Paired.at2 y6 hpr
        have hi : i < kvs.length := (List.getElem?_eq_some_iff.mp hpr).1
        have lk : kvs.length = b.ws.length := Paired.length z4
        have ndk : (kvs.map (·.1)).Nodup := by
          rw [Paired.map1 (fun _ _ q => q.1) z4]
          exact nodup_inr wf.wd
        have gv : valV kvs pr.1 = some (.ref tt) := by
          rw [← et]
          exact valV_at (i := i) ndk hpr
        have step : ∀ {G : Hp} {q : Addr} {xs : List V} {N : Nat}, Same H G → IsMF K HL G m b → (∃ ys, G l = some (.lst ys)) → G d = some (.dK kvs) → G q2 = some (.lst (kvs.map fun kv => kV kv.1)) → Paired (LAt K (fun a => H a = none ∧ a ≠ q2) G N) kvs b.ws → H q = none → q ≠ q2 → G q = some (.lst xs) → xs.length ≤ N →
            Same H (upd G q (.lst (xs ++ [.str "late"]))) ∧ IsMF K HL (upd G q (.lst (xs ++ [.str "late"]))) m b ∧ (∃ ys, (upd G q (.lst (xs ++ [.str "late"]))) l = some (.lst ys)) ∧ (upd G q (.lst (xs ++ [.str "late"]))) d = some (.dK kvs) ∧ (upd G q (.lst (xs ++ [.str "late"]))) q2 = some (.lst (kvs.map fun kv => kV kv.1)) ∧
              Paired (LAt K (fun a => H a = none ∧ a ≠ q2) (upd G q (.lst (xs ++ [.str "late"]))) (N + 1)) kvs b.ws := fun {G q xs N} v1 v2 v3 v4 v5 v6 v7 v8 v9 v10 => by
          refine ⟨Same.over v1 v7, v2.lst Kp.put v9, ?_, ?_, ?_, Paired.imp2 (fun _ _ h => LAt.app h v9 v10) v6⟩
          · by_cases c : l = q
            · exact ⟨_, by rw [c]; exact upd_same⟩
            · obtain ⟨ys, hy⟩ := v3
              exact ⟨ys, by rw [upd_ne c]; exact hy⟩
          · rw [upd_ne (fun z => by rw [← z, v4] at v9; cases v9)]
            exact v4
          · rw [upd_ne (Ne.symm v8)]
            exact v5
        have small : (5 + 2 * i) + 1 < 1000 := by omega
        refine ⟨_, rfl, _, rfl, d, .ref tt, rfl, by rw [← gv]; exact DGet.k y4, tt, _, 0, .ref w, rfl, rfl, st, rfl, .inl ⟨rfl, _, SqL.of hw⟩, w, _, _, rfl, rfl, hw, Nat.lt_of_lt_of_le (by omega : yw.length < 1000) (by decide), ?_⟩
        obtain ⟨x1, x2, x3, x4, x5, x6⟩ := step y1 y2 ⟨ys, y3⟩ y4 y5 y6 fw.1 fw.2 hw lw
        generalize upd G w (.lst (yw ++ [.str "late"])) = G1 at x1 x2 x3 x4 x5 x6 ⊢
        obtain ⟨e', he', ek', tt', w', l2', et', st', fw', fl', _, yl', hl', ll'⟩ := Paired.at2 x6 hpr
        rw [et] at et'
        cases et'
        refine ⟨_, rfl, _, rfl, d, .ref tt, rfl, by rw [← gv]; exact DGet.k x4, tt, _, 2, .ref l2', rfl, rfl, st', rfl, .inl ⟨rfl, _, SqL.of hl'⟩, l2', _, _, rfl, rfl, hl', Nat.lt_of_lt_of_le (by omega : yl'.length < 1000) (by decide), ?_⟩
        obtain ⟨u1, u2, ⟨u3, u3'⟩, u4, u5, u6⟩ := step x1 x2 x3 x4 x5 x6 fl'.1 fl'.2 hl' ll'
        exact ⟨_, _, _, _, u3, rfl, u1, u2, u3', u4, u5, Paired.imp2 (fun _ _ h => LAt.mono h (by omega)) u6⟩
      · obtain ⟨c2, c5, c6, c7, ys, rfl, y1, y2, y3, y4, y5, y6⟩ := z
        refine ⟨_, rfl, .inr (.inr (.inl ⟨rfl, .inl ⟨_, y4⟩⟩)), d, kvs, rfl, rfl, y4, ?_⟩
        have i1 := y2.dic (Kp.put (o := .dK [])) y4 (sl _ _ z3)
        have o1 := Same.over y1 ndH (o := .dK [])
        have l1 : (upd G d (.dK [])) l = some (.lst ys) := by rw [upd_ne ld]; exact y3
        generalize upd G d (.dK []) = G1 at i1 o1 l1 ⊢
        refine ⟨_, rfl, .inl ⟨rfl, _, SqL.of l1⟩, l, ys, rfl, rfl, l1, ?_⟩
        exact ⟨_, rfl, q _ m (Same.over o1 nl) (i1.lst Kp.put l1).is (none_old z1 nm)⟩
end
end K50
namespace K50
open PySem PySem.Spec PyProof.Rows L2 Gx Tx Px
section
variable {P : Program} {w : World} {K : PySem.W.Frag} {mg : Str → Option Value} {base : Heap}
theorem op_neM {X : Cx} {CX : CXT} {n : Nat} {C : Addr} {sp : Sp} {E : XK} (c : CaM X.prog X.w X.K X.mg X.base CX n C "__eq__" sp) (ho : PySem.W.subIn X.K (.ref C) (.type "object") = some true)
    (hd : PySem.W.findIn X.K (.ref C) "__ne__" = some (some (.builtin "object.__ne__"))) (hx : Passes CX X E) (hr : Room (n + 1) X.A) (hu : X.A.units + 1 < cLine) : OpR X (compareOp .NotEq) (rOwn X.K C sp E true) := by
  obtain ⟨f, fd, ps, F, hb, hm, cl⟩ := c.ex
  exact op_neO F hm.at_ hm.fn ho hd hb hx hr hu
theorem v_neM (F : Facts K mg) {E : XK} : VR2 K menuR menuR boolR (rOwn K (He.ga K "Menu") (spEqM K) E true) (fun b c k => WF b ∧ WF c ∧ k (!decide (b = c))) := ⟨fun x y k k' h h2 => ⟨h2.1, h2.2.1, h _ h2.2.2⟩, fun W H x y v u Q fr r1 r2 ⟨w1, w2, q⟩ => by
  obtain ⟨m, rfl, h1⟩ := menuR.is r1
  obtain ⟨m2, rfl, h2⟩ := menuR.is r2
  have h1' := h1
  have h2' := h2
  obtain ⟨dx, t1, t2, d1, d2, d3, k1, k3, hm, _⟩ := h1
  obtain ⟨ex, u1, u2, e1, e2, e3, j1, j3, gm, _⟩ := h2
  refine ⟨m, dx, _, _, rfl, hm, (menuI F).ty (cls_Menu F) gm, (menuI F).first, m, _, x, rfl, h1', .inl ⟨m2, y, rfl, h2', w1, w2, _, rfl, q _ H (Same.refl _) ?_⟩⟩
  show V.bl (true != decide (x = y)) = V.bl (!decide (x = y))
  cases decide (x = y) <;> rfl⟩
end
abbrev Loc_is_nameS := Unit
noncomputable def d_is_nameS : { wb : (Str × Unit) × Loc_is_nameS → Kn ((Str × Unit) × Loc_is_nameS) Bool → Prop // ∀ {P : Program} {ww : World} {K : PySem.W.Frag} {mg : Str → Option Value} {base : Heap}, Facts K mg → Ca P ww K mg base CX0 1 "is_name" (spT K (.cons strR .nil) (retI boolR) (wT (() : Loc_is_nameS) wb)) } :=
  ⟨_, fun {P ww K mg base} F => by
    obtain ⟨fd, D⟩ := fun_is_name F
    refine ⟨_, fd, ["value"], D.ok sc_is_name (fun vs H Q E h => spT_len h) (fun cdv A outer s H vs Q E hr h => ?_), D.bindsN fun _ _ _ _ _ _ us hl => match us, hl with | [_], _ => rfl, g_is_name F, D.kp⟩
    have hu := hu_of hr
    refine body_wT (K := K) (A := (.cons strR .nil)) (R := retI boolR) (Λ := Loc_is_nameS) (l0 := ()) (L' := [.im strR (fun e => e.1.1), .any]) (n := 1) (ts_cons (ts_if (TTW.tt (tw_or (tt_not (TX.val (tx_isi isi_SS (fun _ => rfl) (fun _ => rfl) (fun _ => z_isinstance F) (fun _ => rfl) (fun _ => z_str F) (by decide +kernel) (by decide +kernel) (tx_im (i := 0) rfl (fun _ => rfl) (fun _ => Or.inl rfl))))) (tw_one_or (tt_not (tt_chain (fun _ => op_le) (fun _ => op_le) v_B0 v_B0 tx_int (tx_callB (fun _ => call_lenK rfl) vc_lenS (fun _ => rfl) (fun _ => z_len F) boot_len (ta_cons (tx_im (i := 0) rfl (fun _ => rfl) (fun _ => Or.inl rfl)) ta_nil)) (tx_gi (fun _ => rfl) (fun _ => gi_MOST_LETTERS F))))))) (ts_cons (ts_ret tx_bl) ts_nil) ts_nil)
    (ts_cons (ts_ret (tx_callB (fun _ => cr_allK rfl rfl) vc_all (fun _ => rfl) (fun _ => z_all F) (by decide +kernel) (ta_cons (TN.tx (tn_comp (bown := [("letter", 1)]) (fun _ => rfl) (fun _ => sc_is_name.nd) (it_str (tx_im (i := 0) rfl (fun _ => rfl) (fun _ => Or.inl rfl))) (fun _ => blkOk_by (own := [("letter", 1)]) (N := ["value", "letter"]) (sc := defScope s_is_name) (by decide +kernel)) (allB rfl) (by decide) (tgt_name (i := 1) (fun _ => sc_is_name.nd) (fun _ => rfl) (fun _ => Or.inl rfl) rfl) tc_no (tx_cmp (fun _ => op_inSign) (v_inSign false) (tx_im (i := 1) rfl (fun _ => rfl) (fun _ => by first | exact Or.inl rfl | exact Or.inr (Or.inl rfl) | exact Or.inr (Or.inr rfl))) (tx_gs (fun _ => rfl) (fun _ => gi_LETTERS F)) (by rfl)))) ta_nil))) ts_nil)) (by first | decide | exact Nat.le_of_ble_eq_true rfl) rfl (by exact h)⟩
noncomputable def w_is_nameS := wT (() : Loc_is_nameS) d_is_nameS.1
theorem mw_is_nameS : ∀ x k k', (∀ y, k y → k' y) → w_is_nameS x k → w_is_nameS x k' := up_mono
theorem ca_is_nameS {P : Program} {ww : World} {K : PySem.W.Frag} {mg : Str → Option Value} {base : Heap} (F : Facts K mg) : Ca P ww K mg base CX0 1 "is_name" (spT K (.cons strR .nil) (retI boolR) w_is_nameS) := d_is_nameS.2 F
abbrev Loc_are_differentL := Unit
noncomputable def d_are_differentL : { wb : ((List Str) × Unit) × Loc_are_differentL → Kn (((List Str) × Unit) × Loc_are_differentL) Bool → Prop // ∀ {P : Program} {ww : World} {K : PySem.W.Frag} {mg : Str → Option Value} {base : Heap}, Facts K mg → Ca P ww K mg base CX0 1 "are_different" (spT K (.cons (lstR strR) .nil) (retI boolR) (wT (() : Loc_are_differentL) wb)) } :=
  ⟨_, fun {P ww K mg base} F => by
    obtain ⟨fd, D⟩ := fun_are_different F
    refine ⟨_, fd, ["names"], D.ok sc_are_different (fun vs H Q E h => spT_len h) (fun cdv A outer s H vs Q E hr h => ?_), D.bindsN fun _ _ _ _ _ _ us hl => match us, hl with | [_], _ => rfl, g_are_different F, D.kp⟩
    have hu := hu_of hr
    refine body_wT (K := K) (A := (.cons (lstR strR) .nil)) (R := retI boolR) (Λ := Loc_are_differentL) (l0 := ()) (L' := [.im (lstR strR) (fun e => e.1.1)]) (n := 0) (ts_cons (ts_ret (tx_cmp (fun _ => op_eq) v_eqI (tx_lenset (fun _ => rfl) (fun _ => rfl) (fun _ => z_len F) (fun _ => rfl) (fun _ => z_set F) (tx_im (i := 0) rfl (fun _ => rfl) (fun _ => Or.inl rfl))) (tx_callB (fun _ => call_lenK rfl) vc_lenL (fun _ => rfl) (fun _ => z_len F) boot_len (ta_cons (tx_im (i := 0) rfl (fun _ => rfl) (fun _ => Or.inl rfl)) ta_nil)) (nomark _))) ts_nil) (by first | decide | exact Nat.le_of_ble_eq_true rfl) rfl (by exact h)⟩
noncomputable def w_are_differentL := wT (() : Loc_are_differentL) d_are_differentL.1
theorem mw_are_differentL : ∀ x k k', (∀ y, k y → k' y) → w_are_differentL x k → w_are_differentL x k' := up_mono
theorem ca_are_differentL {P : Program} {ww : World} {K : PySem.W.Frag} {mg : Str → Option Value} {base : Heap} (F : Facts K mg) : Ca P ww K mg base CX0 1 "are_different" (spT K (.cons (lstR strR) .nil) (retI boolR) w_are_differentL) := d_are_differentL.2 F
abbrev Loc_are_namesL := Unit
noncomputable def d_are_namesL : { wb : ((List Str) × Unit) × Loc_are_namesL → Kn (((List Str) × Unit) × Loc_are_namesL) Bool → Prop // ∀ {P : Program} {ww : World} {K : PySem.W.Frag} {mg : Str → Option Value} {base : Heap}, Facts K mg → Ca P ww K mg base CX0 2 "are_names" (spT K (.cons (lstR strR) .nil) (retI boolR) (wT (() : Loc_are_namesL) wb)) } :=
  ⟨_, fun {P ww K mg base} F => by
    obtain ⟨fd, D⟩ := fun_are_names F
    refine ⟨_, fd, ["row"], D.ok sc_are_names (fun vs H Q E h => spT_len h) (fun cdv A outer s H vs Q E hr h => ?_), D.bindsN fun _ _ _ _ _ _ us hl => match us, hl with | [_], _ => rfl, g_are_names F, D.kp⟩
    have hu := hu_of hr
    refine body_wT (K := K) (A := (.cons (lstR strR) .nil)) (R := retI boolR) (Λ := Loc_are_namesL) (l0 := ()) (L' := [.im (lstR strR) (fun e => e.1.1), .any]) (n := 1) (ts_cons (ts_ret (tx_and3 (tx_cmp (fun _ => op_gt) v_B0 (tx_callB (fun _ => call_lenK rfl) vc_lenL (fun _ => rfl) (fun _ => z_len F) boot_len (ta_cons (tx_im (i := 0) rfl (fun _ => rfl) (fun _ => Or.inl rfl)) ta_nil)) tx_int (nomark _)) (tx_callB (fun _ => cr_allK rfl rfl) vc_all (fun _ => rfl) (fun _ => z_all F) (by decide +kernel) (ta_cons (TN.tx (tn_comp (bown := [("entry", 1)]) (fun _ => rfl) (fun _ => sc_are_names.nd) (it_list (tx_im (i := 0) rfl (fun _ => rfl) (fun _ => Or.inl rfl))) (fun _ => blkOk_by (own := [("entry", 1)]) (N := ["row", "entry"]) (sc := defScope s_are_names) (by decide +kernel)) (allB rfl) (by decide) (tgt_name (i := 1) (fun _ => sc_are_names.nd) (fun _ => rfl) (fun _ => Or.inl rfl) rfl) tc_no (tx_call (k := 1) (fun _ => ca_is_nameS F) (mw_is_nameS) (fun _ => hr.mono (by decide)) (fun _ => rfl) (ta_cons (tx_im (i := 1) rfl (fun _ => rfl) (fun _ => by first | exact Or.inl rfl | exact Or.inr (Or.inl rfl) | exact Or.inr (Or.inr rfl))) ta_nil)))) ta_nil)) (tx_call (k := 1) (fun _ => ca_are_differentL F) (mw_are_differentL) (fun _ => hr.mono (by decide)) (fun _ => rfl) (ta_cons (tx_im (i := 0) rfl (fun _ => rfl) (fun _ => Or.inl rfl)) ta_nil)))) ts_nil) (by first | decide | exact Nat.le_of_ble_eq_true rfl) rfl (by exact h)⟩
noncomputable def w_are_namesL := wT (() : Loc_are_namesL) d_are_namesL.1
theorem mw_are_namesL : ∀ x k k', (∀ y, k y → k' y) → w_are_namesL x k → w_are_namesL x k' := up_mono
theorem ca_are_namesL {P : Program} {ww : World} {K : PySem.W.Frag} {mg : Str → Option Value} {base : Heap} (F : Facts K mg) : Ca P ww K mg base CX0 2 "are_names" (spT K (.cons (lstR strR) .nil) (retI boolR) w_are_namesL) := d_are_namesL.2 F
abbrev Loc_are_thingsL := Unit
noncomputable def d_are_thingsL : { wb : ((List Str) × Unit) × Loc_are_thingsL → Kn (((List Str) × Unit) × Loc_are_thingsL) Bool → Prop // ∀ {P : Program} {ww : World} {K : PySem.W.Frag} {mg : Str → Option Value} {base : Heap}, Facts K mg → Ca P ww K mg base CX0 3 "are_things" (spT K (.cons (lstR strR) .nil) (retI boolR) (wT (() : Loc_are_thingsL) wb)) } :=
  ⟨_, fun {P ww K mg base} F => by
    obtain ⟨fd, D⟩ := fun_are_things F
    refine ⟨_, fd, ["value"], D.ok sc_are_things (fun vs H Q E h => spT_len h) (fun cdv A outer s H vs Q E hr h => ?_), D.bindsN fun _ _ _ _ _ _ us hl => match us, hl with | [_], _ => rfl, g_are_things F, D.kp⟩
    have hu := hu_of hr
    refine body_wT (K := K) (A := (.cons (lstR strR) .nil)) (R := retI boolR) (Λ := Loc_are_thingsL) (l0 := ()) (L' := [.im (lstR strR) (fun e => e.1.1)]) (n := 0) (ts_cons (ts_ret (tx_and3 (tx_isiLT (fun _ => rfl) (fun _ => rfl) (fun _ => z_isinstance F) (by decide +kernel) (fun _ => rfl) (fun _ => z_list F) (by decide +kernel) (fun _ => rfl) (fun _ => z_tuple F) (by decide +kernel) (tx_im (i := 0) rfl (fun _ => rfl) (fun _ => Or.inl rfl))) (tx_cmp (fun _ => op_le) v_B0 (tx_callB (fun _ => call_lenK rfl) vc_lenL (fun _ => rfl) (fun _ => z_len F) boot_len (ta_cons (tx_im (i := 0) rfl (fun _ => rfl) (fun _ => Or.inl rfl)) ta_nil)) (tx_gi (fun _ => rfl) (fun _ => gi_MOST_THINGS F)) (nomark _)) (tx_call (k := 2) (fun _ => ca_are_namesL F) (mw_are_namesL) (fun _ => hr.mono (by decide)) (fun _ => rfl) (ta_cons (tx_im (i := 0) rfl (fun _ => rfl) (fun _ => Or.inl rfl)) ta_nil)))) ts_nil) (by first | decide | exact Nat.le_of_ble_eq_true rfl) rfl (by exact h)⟩
noncomputable def w_are_thingsL := wT (() : Loc_are_thingsL) d_are_thingsL.1
theorem mw_are_thingsL : ∀ x k k', (∀ y, k y → k' y) → w_are_thingsL x k → w_are_thingsL x k' := up_mono
theorem ca_are_thingsL {P : Program} {ww : World} {K : PySem.W.Frag} {mg : Str → Option Value} {base : Heap} (F : Facts K mg) : Ca P ww K mg base CX0 3 "are_things" (spT K (.cons (lstR strR) .nil) (retI boolR) w_are_thingsL) := d_are_thingsL.2 F
abbrev Loc_is_row_ofL := Unit
noncomputable def d_is_row_ofL : { wb : ((List Str) × (List Str) × Unit) × Loc_is_row_ofL → Kn (((List Str) × (List Str) × Unit) × Loc_is_row_ofL) Bool → Prop // ∀ {P : Program} {ww : World} {K : PySem.W.Frag} {mg : Str → Option Value} {base : Heap}, Facts K mg → Ca P ww K mg base CX0 2 "is_row_of" (spT K (.cons (lstR strR) (.cons (lstR strR) .nil)) (retI boolR) (wT (() : Loc_is_row_ofL) wb)) } :=
  ⟨_, fun {P ww K mg base} F => by
    obtain ⟨fd, D⟩ := fun_is_row_of F
    refine ⟨_, fd, ["value", "names"], D.ok sc_is_row_of (fun vs H Q E h => spT_len h) (fun cdv A outer s H vs Q E hr h => ?_), D.bindsN fun _ _ _ _ _ _ us hl => match us, hl with | [_, _], _ => rfl, g_is_row_of F, D.kp⟩
    have hu := hu_of hr
    refine body_wT (K := K) (A := (.cons (lstR strR) (.cons (lstR strR) .nil))) (R := retI boolR) (Λ := Loc_is_row_ofL) (l0 := ()) (L' := [.im (lstR strR) (fun e => e.1.1), .im (lstR strR) (fun e => e.1.2.1), .any]) (n := 1) (ts_cons (ts_if (TTW.tt (tw_or (tt_not (TX.val (tx_isiLT (fun _ => rfl) (fun _ => rfl) (fun _ => z_isinstance F) (by decide +kernel) (fun _ => rfl) (fun _ => z_list F) (by decide +kernel) (fun _ => rfl) (fun _ => z_tuple F) (by decide +kernel) (tx_im (i := 0) rfl (fun _ => rfl) (fun _ => Or.inl rfl))))) (tw_one_or (tt_cmp (fun _ => op_gt) v_B0 (tx_callB (fun _ => call_lenK rfl) vc_lenL (fun _ => rfl) (fun _ => z_len F) boot_len (ta_cons (tx_im (i := 0) rfl (fun _ => rfl) (fun _ => Or.inl rfl)) ta_nil)) (tx_callB (fun _ => call_lenK rfl) vc_lenL (fun _ => rfl) (fun _ => z_len F) boot_len (ta_cons (tx_im (i := 1) rfl (fun _ => rfl) (fun _ => Or.inr (Or.inl rfl))) ta_nil)) (nomark _))))) (ts_cons (ts_ret tx_bl) ts_nil) ts_nil)
    (ts_cons (ts_ret (tx_and (tx_callB (fun _ => cr_allK rfl rfl) vc_all (fun _ => rfl) (fun _ => z_all F) (by decide +kernel) (ta_cons (TN.tx (tn_comp (bown := [("entry", 2)]) (fun _ => rfl) (fun _ => sc_is_row_of.nd) (it_list (tx_im (i := 0) rfl (fun _ => rfl) (fun _ => Or.inl rfl))) (fun _ => blkOk_by (own := [("entry", 2)]) (N := ["value", "names", "entry"]) (sc := defScope s_is_row_of) (by decide +kernel)) (allB rfl) (by decide) (tgt_name (i := 2) (fun _ => sc_is_row_of.nd) (fun _ => rfl) (fun _ => Or.inl rfl) rfl) tc_no (tx_cmp (fun _ => (op_in_seqK rfl)) v_inL (tx_im (i := 2) rfl (fun _ => rfl) (fun _ => by first | exact Or.inl rfl | exact Or.inr (Or.inl rfl) | exact Or.inr (Or.inr rfl))) (tx_im (i := 1) rfl (fun _ => rfl) (fun _ => by first | exact Or.inl rfl | exact Or.inr (Or.inl rfl) | exact Or.inr (Or.inr rfl))) (by rfl)))) ta_nil)) (tx_call (k := 1) (fun _ => ca_are_differentL F) (mw_are_differentL) (fun _ => hr.mono (by decide)) (fun _ => rfl) (ta_cons (tx_im (i := 0) rfl (fun _ => rfl) (fun _ => Or.inl rfl)) ta_nil)))) ts_nil)) (by first | decide | exact Nat.le_of_ble_eq_true rfl) rfl (by exact h)⟩
noncomputable def w_is_row_ofL := wT (() : Loc_is_row_ofL) d_is_row_ofL.1
theorem mw_is_row_ofL : ∀ x k k', (∀ y, k y → k' y) → w_is_row_ofL x k → w_is_row_ofL x k' := up_mono
theorem ca_is_row_ofL {P : Program} {ww : World} {K : PySem.W.Frag} {mg : Str → Option Value} {base : Heap} (F : Facts K mg) : Ca P ww K mg base CX0 2 "is_row_of" (spT K (.cons (lstR strR) (.cons (lstR strR) .nil)) (retI boolR) w_is_row_ofL) := d_is_row_ofL.2 F
structure Loc_menu_text where
  lines : (List (List Str)) := []
noncomputable def d_menu_text : { wb : (Bs × Unit) × Loc_menu_text → Kn ((Bs × Unit) × Loc_menu_text) Str → Prop // ∀ {P : Program} {ww : World} {K : PySem.W.Frag} {mg : Str → Option Value} {base : Heap}, Facts K mg → Ca P ww K mg base CX0 5 "menu_text" (spT K (.cons menuR .nil) (retI strR) (wT ({} : Loc_menu_text) wb)) } :=
  ⟨_, fun {P ww K mg base} F => by
    obtain ⟨fd, D⟩ := fun_menu_text F
    refine ⟨_, fd, ["menu"], D.ok sc_menu_text (fun vs H Q E h => spT_len h) (fun cdv A outer s H vs Q E hr h => ?_), D.bindsN fun _ _ _ _ _ _ us hl => match us, hl with | [_], _ => rfl, g_menu_text F, D.kp⟩
    have hu := hu_of hr
    refine body_wT (K := K) (A := (.cons menuR .nil)) (R := retI strR) (Λ := Loc_menu_text) (l0 := {}) (L' := [.im menuR (fun e => e.1.1), .ow (lstR strR) (fun e => e.2.lines), .any, .any]) (n := 3) (ts_cons (ts_own (i := 1) (set := (fun e y => (e.1, { e.2 with lines := y }))) (L' := [.im menuR (fun e => e.1.1), .ow (lstR strR) (fun e => e.2.lines), .any, .any]) (fun _ => sc_menu_text.nd) (fun _ => rfl) (fun _ => (Or.inl rfl)) (tn_lst (ta_cons (TN.tx (tn_op (fun _ => op_cat) v_cat (TN.tx (tn_lst (ta_cons tx_str ta_nil) (lo_cons lo_nil))) (TN.tx (tn_callTy (fun _ => call_listK rfl) vc_listT (fun _ => rfl) (fun _ => z_list F) (by decide +kernel) (ta_cons (tx_mget (p_things F) (q_things F) (cls_Menu F) (no_Menu_things F) (fun _ => hr.mono (by decide)) (fun _ => rfl) m_things (tx_im (i := 0) rfl (fun _ => rfl) (fun _ => Or.inl rfl))) ta_nil))))) ta_nil) (lo_cons lo_nil)) (okI_lift rfl) (.im (fun _ => rfl) (.ow (fun _ => rfl) (.any rfl (.any rfl .nil)))))
    (ts_cons (ts_for (fun _ => PassesOwn.never) (fun _ => rfl) (it_tup (tx_mget (p_weathers F) (q_weathers F) (cls_Menu F) (no_Menu_weathers F) (fun _ => hr.mono (by decide)) (fun _ => rfl) m_weathers (tx_im (i := 0) rfl (fun _ => rfl) (fun _ => Or.inl rfl)))) (tgt_name (i := 2) (fun _ => sc_menu_text.nd) (fun _ => rfl) (fun _ => (Or.inl rfl)) rfl)
    (ts_cons (ts_append (i := 1) (set := (fun e y => ((e.1.1, { e.1.2 with lines := y }), e.2))) (L' := [.im menuR (fun e => e.1.1.1), .ow (lstR strR) (fun e => e.1.2.lines), .im strR (fun e => e.2), .any]) rfl (fun _ => rfl) (fun _ => Or.inl rfl) (TN.tx (tn_op (fun _ => op_cat) v_cat (TN.tx (tn_op (fun _ => op_cat) v_cat (TN.tx (tn_op (fun _ => op_cat) v_cat (TN.tx (tn_lst (ta_cons (tx_im (i := 2) rfl (fun _ => rfl) (fun _ => Or.inl rfl)) (ta_cons (tx_mback (n := 4) (fun _ => cm_Menu_back F) (fun _ _ _ _ _ => rfl) (fun _ => hr.mono (by decide)) (tx_im (i := 0) rfl (fun _ => rfl) (fun _ => Or.inl rfl)) (tx_im (i := 2) rfl (fun _ => rfl) (fun _ => Or.inl rfl))) (ta_cons tx_str ta_nil))) (lo_cons (lo_cons (lo_cons lo_nil))))) (TN.tx (tn_mlist (n := 4) (g := Ent.wishes) (fun _ => cm_Menu_wishes F) (fun _ _ _ _ _ => rfl) (fun _ => hr.mono (by decide)) hsp_wishes (tx_im (i := 0) rfl (fun _ => rfl) (fun _ => Or.inl rfl)) (tx_im (i := 2) rfl (fun _ => rfl) (fun _ => Or.inl rfl)))))) (TN.tx (tn_lst (ta_cons tx_str ta_nil) (lo_cons lo_nil))))) (TN.tx (tn_mlist (n := 4) (g := Ent.later) (fun _ => cm_Menu_later F) (fun _ _ _ _ _ => rfl) (fun _ => hr.mono (by decide)) hsp_later (tx_im (i := 0) rfl (fun _ => rfl) (fun _ => Or.inl rfl)) (tx_im (i := 2) rfl (fun _ => rfl) (fun _ => Or.inl rfl)))))) (.im (fun _ => rfl) (.ow (fun _ => rfl) (.im (fun _ => rfl) (.any rfl .nil))))) ts_nil)
    (.im (fun _ => rfl) (.ow (fun _ => rfl) (.any rfl (.any rfl .nil)))))
    (ts_cons (TS1.pre (L := [.im menuR (fun e => e.1.1), .im (lstR (lstR strR)) (fun e => e.2.lines), .any, .any]) (.im (fun _ => rfl) (.fr (fun _ => rfl) (.any rfl (.any rfl .nil)))) (ts_ret (tx_join tx_str (TN.tx (tn_comp (bown := [("words", 3)]) (fun _ => rfl) (fun _ => sc_menu_text.nd) (it_list (tx_im (i := 1) rfl (fun _ => rfl) (fun _ => Or.inl rfl))) (fun _ => blkOk_by (own := [("words", 3)]) (N := ["menu", "lines", "name", "words"]) (sc := defScope s_menu_text) (by decide +kernel)) (allB rfl) (by decide) (tgt_name (i := 3) (fun _ => sc_menu_text.nd) (fun _ => rfl) (fun _ => Or.inl rfl) rfl) tc_no (tx_join tx_str (tx_im (i := 3) rfl (fun _ => rfl) (fun _ => by first | exact Or.inl rfl | exact Or.inr (Or.inl rfl) | exact Or.inr (Or.inr rfl))))))))) ts_nil))) (by first | decide | exact Nat.le_of_ble_eq_true rfl) rfl (by exact h)⟩
noncomputable def w_menu_text := wT ({} : Loc_menu_text) d_menu_text.1
theorem mw_menu_text : ∀ x k k', (∀ y, k y → k' y) → w_menu_text x k → w_menu_text x k' := up_mono
theorem ca_menu_text {P : Program} {ww : World} {K : PySem.W.Frag} {mg : Str → Option Value} {base : Heap} (F : Facts K mg) : Ca P ww K mg base CX0 5 "menu_text" (spT K (.cons menuR .nil) (retI strR) w_menu_text) := d_menu_text.2 F
structure Loc_things_in where
  things : (List Str) := []
noncomputable def d_things_in : { wb : ((List Str) × Unit) × Loc_things_in → Kn (((List Str) × Unit) × Loc_things_in) (Option (List Str)) → Prop // ∀ {P : Program} {ww : World} {K : PySem.W.Frag} {mg : Str → Option Value} {base : Heap}, Facts K mg → Ca P ww K mg base CX0 4 "things_in" (spT K (.cons (lstR strR) .nil) (retI (optR (lstR strR))) (wT ({} : Loc_things_in) wb)) } :=
  ⟨_, fun {P ww K mg base} F => by
    obtain ⟨fd, D⟩ := fun_things_in F
    refine ⟨_, fd, ["words"], D.ok sc_things_in (fun vs H Q E h => spT_len h) (fun cdv A outer s H vs Q E hr h => ?_), D.bindsN fun _ _ _ _ _ _ us hl => match us, hl with | [_], _ => rfl, g_things_in F, D.kp⟩
    have hu := hu_of hr
    refine body_wT (K := K) (A := (.cons (lstR strR) .nil)) (R := retI (optR (lstR strR))) (Λ := Loc_things_in) (l0 := {}) (L' := [.im (lstR strR) (fun e => e.1.1), .im (lstR strR) (fun e => e.2.things)]) (n := 1) (ts_cons (ts_set (i := 1) (set := (fun e y => (e.1, { e.2 with things := y }))) (L' := [.im (lstR strR) (fun e => e.1.1), .im (lstR strR) (fun e => e.2.things)]) (fun _ => sc_things_in.nd) (fun _ => rfl) (fun _ => (Or.inl rfl)) (TN.tx (tn_slice (tx_im (i := 0) rfl (fun _ => rfl) (fun _ => Or.inl rfl)) (to_some tx_int) to_none)) (okI_lift rfl) (.im (fun _ => rfl) (.im (fun _ => rfl) .nil)))
    (ts_cons (ts_if (TTW.tt (tw_or (tt_cmp (fun _ => op_ne) v_neS (tx_ix (fun _ => (ix_listK rfl)) v_ixL (tx_im (i := 0) rfl (fun _ => rfl) (fun _ => Or.inl rfl)) tx_int (fun _ _ => rfl)) tx_str (nomark _)) (tw_one_or (tt_not (TX.val (tx_call (k := 3) (fun _ => ca_are_thingsL F) (mw_are_thingsL) (fun _ => hr.mono (by decide)) (fun _ => rfl) (ta_cons (tx_im (i := 1) rfl (fun _ => rfl) (fun _ => Or.inl rfl)) ta_nil))))))) (ts_cons (ts_ret tx_noneO) ts_nil) ts_nil)
    (ts_cons (ts_ret (tx_someO lstR.nn (tx_im (i := 1) rfl (fun _ => rfl) (fun _ => Or.inl rfl)))) ts_nil))) (by first | decide | exact Nat.le_of_ble_eq_true rfl) rfl (by exact h)⟩
noncomputable def w_things_in := wT ({} : Loc_things_in) d_things_in.1
theorem mw_things_in : ∀ x k k', (∀ y, k y → k' y) → w_things_in x k → w_things_in x k' := up_mono
theorem ca_things_in {P : Program} {ww : World} {K : PySem.W.Frag} {mg : Str → Option Value} {base : Heap} (F : Facts K mg) : Ca P ww K mg base CX0 4 "things_in" (spT K (.cons (lstR strR) .nil) (retI (optR (lstR strR))) w_things_in) := d_things_in.2 F
structure Loc_entry_in where
  rows : (List Str) := []
  middle : Int := 0
  wishes : (List Str) := []
  later : (List Str) := []
noncomputable def d_entry_in : { wb : ((List Str) × (List Str) × Unit) × Loc_entry_in → Kn (((List Str) × (List Str) × Unit) × Loc_entry_in) (Option ((List Str) × Str × (List Str))) → Prop // ∀ {P : Program} {ww : World} {K : PySem.W.Frag} {mg : Str → Option Value} {base : Heap}, Facts K mg → Ca P ww K mg base CX0 3 "entry_in" (spT K (.cons (lstR strR) (.cons (lstR strR) .nil)) (retI (optR (triR (lstR strR) strR (lstR strR)))) (wT ({} : Loc_entry_in) wb)) } :=
  ⟨_, fun {P ww K mg base} F => by
    obtain ⟨fd, D⟩ := fun_entry_in F
    refine ⟨_, fd, ["words", "things"], D.ok sc_entry_in (fun vs H Q E h => spT_len h) (fun cdv A outer s H vs Q E hr h => ?_), D.bindsN fun _ _ _ _ _ _ us hl => match us, hl with | [_, _], _ => rfl, g_entry_in F, D.kp⟩
    have hu := hu_of hr
    refine body_wT (K := K) (A := (.cons (lstR strR) (.cons (lstR strR) .nil))) (R := retI (optR (triR (lstR strR) strR (lstR strR)))) (Λ := Loc_entry_in) (l0 := {}) (L' := [.im (lstR strR) (fun e => e.1.1), .im (lstR strR) (fun e => e.1.2.1), .im (lstR strR) (fun e => e.2.rows), .im intR (fun e => e.2.middle), .im (lstR strR) (fun e => e.2.wishes), .im (lstR strR) (fun e => e.2.later)]) (n := 4) (ts_cons (ts_if (TTW.tt (tw_or (tt_cmp (fun _ => op_lt) v_B0 (tx_callB (fun _ => call_lenK rfl) vc_lenL (fun _ => rfl) (fun _ => z_len F) boot_len (ta_cons (tx_im (i := 0) rfl (fun _ => rfl) (fun _ => Or.inl rfl)) ta_nil)) tx_int (nomark _)) (tw_or (tt_not (TX.val (tx_call (k := 1) (fun _ => ca_is_nameS F) (mw_is_nameS) (fun _ => hr.mono (by decide)) (fun _ => rfl) (ta_cons (tx_ix (fun _ => (ix_listK rfl)) v_ixL (tx_im (i := 0) rfl (fun _ => rfl) (fun _ => Or.inl rfl)) tx_int (fun _ _ => rfl)) ta_nil)))) (tw_or (tt_cmp (fun _ => (op_notIn_seqK rfl)) v_ninT (tx_ix (fun _ => (ix_listK rfl)) v_ixL (tx_im (i := 0) rfl (fun _ => rfl) (fun _ => Or.inl rfl)) tx_int (fun _ _ => rfl)) (tx_gt (fun _ => rfl) (fun _ => g_WAYS_BACK F) (ways F)) (by rfl)) (tw_one_or (tt_cmp (fun _ => op_ne) v_neS (tx_ix (fun _ => (ix_listK rfl)) v_ixL (tx_im (i := 0) rfl (fun _ => rfl) (fun _ => Or.inl rfl)) tx_int (fun _ _ => rfl)) tx_str (nomark _))))))) (ts_cons (ts_ret tx_noneO) ts_nil) ts_nil)
    (ts_cons (ts_set (i := 2) (set := (fun e y => (e.1, { e.2 with rows := y }))) (L' := [.im (lstR strR) (fun e => e.1.1), .im (lstR strR) (fun e => e.1.2.1), .im (lstR strR) (fun e => e.2.rows), .any, .any, .any]) (fun _ => sc_entry_in.nd) (fun _ => rfl) (fun _ => (Or.inl rfl)) (TN.tx (tn_slice (tx_im (i := 0) rfl (fun _ => rfl) (fun _ => Or.inl rfl)) (to_some tx_int) to_none)) (okI_lift rfl) (.im (fun _ => rfl) (.im (fun _ => rfl) (.im (fun _ => rfl) (.any rfl (.any rfl (.any rfl .nil)))))))
    (ts_cons (ts_if (tt_cmp (fun _ => (op_notIn_seqK rfl)) v_ninL tx_str (tx_im (i := 2) rfl (fun _ => rfl) (fun _ => Or.inl rfl)) (by rfl)) (ts_cons (ts_ret tx_noneO) ts_nil) ts_nil)
    (ts_cons (ts_set (i := 3) (set := (fun e y => (e.1, { e.2 with middle := y }))) (L' := [.im (lstR strR) (fun e => e.1.1), .im (lstR strR) (fun e => e.1.2.1), .im (lstR strR) (fun e => e.2.rows), .im intR (fun e => e.2.middle), .any, .any]) (fun _ => sc_entry_in.nd) (fun _ => rfl) (fun _ => (Or.inl rfl)) (tx_index (tx_im (i := 2) rfl (fun _ => rfl) (fun _ => Or.inl rfl)) tx_str) (okI_lift rfl) (.im (fun _ => rfl) (.im (fun _ => rfl) (.im (fun _ => rfl) (.im (fun _ => rfl) (.any rfl (.any rfl .nil)))))))
    (ts_cons (ts_parII (i := 4) (j := 5) (set := fun e y => (e.1, { e.2 with wishes := y.1, later := y.2 })) (L' := [.im (lstR strR) (fun e => e.1.1), .im (lstR strR) (fun e => e.1.2.1), .im (lstR strR) (fun e => e.2.rows), .im intR (fun e => e.2.middle), .im (lstR strR) (fun e => e.2.wishes), .im (lstR strR) (fun e => e.2.later)]) (fun _ => rfl) (fun _ => sc_entry_in.nd) (fun _ => rfl) (fun _ => rfl) (by decide) (fun _ => rfl) (fun _ => rfl) (TN.tx (tn_slice (tx_im (i := 2) rfl (fun _ => rfl) (fun _ => Or.inl rfl)) to_none (to_some (tx_im (i := 3) rfl (fun _ => rfl) (fun _ => Or.inl rfl))))) (TN.tx (tn_slice (tx_im (i := 2) rfl (fun _ => rfl) (fun _ => Or.inl rfl)) (to_some (tx_op (fun _ => op_add) v_I0 (tx_im (i := 3) rfl (fun _ => rfl) (fun _ => Or.inl rfl)) tx_int)) to_none)) rfl rfl (.im (fun _ => rfl) (.im (fun _ => rfl) (.im (fun _ => rfl) (.im (fun _ => rfl) (.im (fun _ => rfl) (.im (fun _ => rfl) .nil)))))) (by intro _; rfl))
    (ts_cons (ts_if (TTW.tt (tw_or (tt_not (TX.val (tx_call (k := 2) (fun _ => ca_is_row_ofL F) (mw_is_row_ofL) (fun _ => hr.mono (by decide)) (fun _ => rfl) (ta_cons (tx_im (i := 4) rfl (fun _ => rfl) (fun _ => Or.inl rfl)) (ta_cons (tx_im (i := 1) rfl (fun _ => rfl) (fun _ => Or.inl rfl)) ta_nil))))) (tw_one_or (tt_not (TX.val (tx_call (k := 2) (fun _ => ca_are_namesL F) (mw_are_namesL) (fun _ => hr.mono (by decide)) (fun _ => rfl) (ta_cons (tx_im (i := 5) rfl (fun _ => rfl) (fun _ => Or.inl rfl)) ta_nil))))))) (ts_cons (ts_ret tx_noneO) ts_nil) ts_nil)
    (ts_cons (ts_ret (tx_someO triR.nn (tx_tup (ta_cons (tx_im (i := 4) rfl (fun _ => rfl) (fun _ => Or.inl rfl)) (ta_cons (tx_ix (fun _ => (ix_listK rfl)) v_ixL (tx_im (i := 0) rfl (fun _ => rfl) (fun _ => Or.inl rfl)) tx_int (fun _ _ => rfl)) (ta_cons (tx_im (i := 5) rfl (fun _ => rfl) (fun _ => Or.inl rfl)) ta_nil))) tu_tri))) ts_nil))))))) (by first | decide | exact Nat.le_of_ble_eq_true rfl) rfl (by exact h)⟩
noncomputable def w_entry_in := wT ({} : Loc_entry_in) d_entry_in.1
theorem mw_entry_in : ∀ x k k', (∀ y, k y → k' y) → w_entry_in x k → w_entry_in x k' := up_mono
theorem ca_entry_in {P : Program} {ww : World} {K : PySem.W.Frag} {mg : Str → Option Value} {base : Heap} (F : Facts K mg) : Ca P ww K mg base CX0 3 "entry_in" (spT K (.cons (lstR strR) (.cons (lstR strR) .nil)) (retI (optR (triR (lstR strR) strR (lstR strR)))) w_entry_in) := d_entry_in.2 F
structure Loc_read_lines where
  things : (Option (List Str)) := none
  weathers : (List (Str × ((List Str) × Str × (List Str)))) := []
  entry : (Option ((List Str) × Str × (List Str))) := none
noncomputable def d_read_lines : { wb : ((List (List Str)) × Unit) × Loc_read_lines → Kn (((List (List Str)) × Unit) × Loc_read_lines) (Er ⊕ ((List Str) × List (Str × ((List Str) × Str × (List Str))))) → Prop // ∀ {P : Program} {ww : World} {K : PySem.W.Frag} {mg : Str → Option Value} {base : Heap}, Facts K mg → Ca P ww K mg base (L2.CX P ww) 5 "read_lines" (spX K (.cons (lstR (lstR strR)) .nil) (retPD (lstR strR) P ww (triR (lstR strR) strR (lstR strR))) (wT ({} : Loc_read_lines) wb)) } :=
  ⟨_, fun {P ww K mg base} F => by
    obtain ⟨fd, D⟩ := fun_read_lines F
    refine ⟨_, fd, ["lines"], D.ok sc_read_lines (fun vs H Q E h => spX_len h) (fun cdv A outer s H vs Q E hr h => ?_), D.bindsN fun _ _ _ _ _ _ us hl => match us, hl with | [_], _ => rfl, g_read_lines F, D.kp⟩
    have hu := hu_of hr
    have tk : Takes (cxOf (L2.CX P ww) P ww K mg base ["lines", "things", "weathers", "number", "words", "entry"] "read_lines" (defScope s_read_lines) (He.ga K "read_lines") cdv A outer s H E) (WOut E) := takes_of rfl rfl rfl rfl
    refine body_X (K := K) (A := (.cons (lstR (lstR strR)) .nil)) (R := retPD (lstR strR) P ww (triR (lstR strR) strR (lstR strR))) (Λ := Loc_read_lines) (l0 := {}) (L' := [.im (lstR (lstR strR)) (fun e => e.1.1), .im (optR (lstR strR)) (fun e => e.2.things), .ox (dsR P ww (triR (lstR strR) strR (lstR strR))) (fun e => e.2.weathers), .any, .any, .any]) (n := 5) (ts_cons (ts_lift1 (ts_set (i := 1) (set := (fun e y => (e.1, { e.2 with things := y }))) (L' := [.im (lstR (lstR strR)) (fun e => e.1.1), .im (optR (lstR strR)) (fun e => e.2.things), .any, .any, .any, .any]) (fun _ => sc_read_lines.nd) (fun _ => rfl) (fun _ => (Or.inl rfl)) (tx_call (k := 4) (fun _ => ca_things_in F) (mw_things_in) (fun _ => hr.mono (by decide)) (fun _ => rfl) (ta_cons (tx_ix (fun _ => (ix_listK rfl)) v_ixL (tx_im (i := 0) rfl (fun _ => rfl) (fun _ => Or.inl rfl)) tx_int (fun _ _ => rfl)) ta_nil)) (okI_lift rfl) (.im (fun _ => rfl) (.im (fun _ => rfl) (.any rfl (.any rfl (.any rfl (.any rfl .nil))))))))
    (ts_cons (ts_if (tt_cmp (fun _ => op_isN) v_isN (tx_im (i := 1) rfl (fun _ => rfl) (fun _ => Or.inl rfl)) tx_non (nomark _)) (ts_cons (ts_raise (f := "line") id (fun r => r) (fun _ => rfl) (fun _ => rfl) (fun _ => tk) (fun _ => ex_BadText F) (fun _ => hr.mono (by decide)) (fun _ => rfl) (tx_v V.int (fun r => r) tx_int)) ts_nil) ts_nil)
    (ts_cons (ts_lift1 (ts_newS (i := 2) (set := (fun e y => (e.1, { e.2 with weathers := y }))) (L' := [.im (lstR (lstR strR)) (fun e => e.1.1), .im (optR (lstR strR)) (fun e => e.2.things), .ox (dsR P ww (triR (lstR strR) strR (lstR strR))) (fun e => e.2.weathers), .any, .any, .any]) (fun _ => ⟨rfl, rfl⟩) (fun _ => sc_read_lines.nd) (fun _ => rfl) (fun _ => (Or.inl rfl)) (okI_lift rfl) (.im (fun _ => rfl) (.im (fun _ => rfl) (.ox (fun _ => rfl) (.any rfl (.any rfl (.any rfl .nil))))))))
    (ts_cons (ts_for (fun _ => passes_of rfl) (fun _ => rfl) (it_enumLK (Int.le_of_sub_nonneg (by decide)) (by decide) (fun _ => rfl) (fun _ => z_enumerate F) (TN.tx (tn_slice (tx_im (i := 0) rfl (fun _ => rfl) (fun _ => Or.inl rfl)) (to_some tx_int) to_none))) (tgt_tup (is := [3, 4]) unp_pr (fun _ => (pgs_cons (pg_name (i := 3) sc_read_lines.nd rfl (Or.inl rfl)) (pgs_cons (pg_name (i := 4) sc_read_lines.nd rfl (Or.inl rfl)) pgs_nil))) (fun _ => rfl) rfl (allB rfl))
    (ts_cons (ts_lift1 (ts_set (i := 5) (set := (fun e y => ((e.1.1, { e.1.2 with entry := y }), e.2))) (L' := [.im (lstR (lstR strR)) (fun e => e.1.1.1), .im (optR (lstR strR)) (fun e => e.1.2.things), .ox (dsR P ww (triR (lstR strR) strR (lstR strR))) (fun e => e.1.2.weathers), .im intR (fun e => e.2.1), .im (lstR strR) (fun e => e.2.2), .im (optR (triR (lstR strR) strR (lstR strR))) (fun e => e.1.2.entry)]) (fun _ => sc_read_lines.nd) (fun _ => rfl) (fun _ => (Or.inl rfl)) (tx_call (k := 3) (fun _ => ca_entry_in F) (mw_entry_in) (fun _ => hr.mono (by decide)) (fun _ => rfl) (ta_cons (tx_im (i := 4) rfl (fun _ => rfl) (fun _ => Or.inl rfl)) (ta_cons (tx_some (tx_im (i := 1) rfl (fun _ => rfl) (fun _ => Or.inl rfl))) ta_nil))) (okI_lift rfl) (.im (fun _ => rfl) (.im (fun _ => rfl) (.ox (fun _ => rfl) (.im (fun _ => rfl) (.im (fun _ => rfl) (.im (fun _ => rfl) .nil))))))))
    (ts_cons (ts_if (TTW.tt (tw_or (tt_cmp (fun _ => op_isN) v_isN (tx_im (i := 5) rfl (fun _ => rfl) (fun _ => Or.inl rfl)) tx_non (nomark _)) (tw_or (tt_inS false (i := 2) rfl (fun _ => rfl) (fun _ => Or.inl rfl) (fun _ => ⟨rfl, rfl⟩) (fun _ => Nat.lt_of_le_of_lt (Nat.add_le_add_left (by decide) _) (Room.u65 hr)) (tx_ix (fun _ => (ix_listK rfl)) v_ixL (tx_im (i := 4) rfl (fun _ => rfl) (fun _ => Or.inl rfl)) tx_int (fun _ _ => rfl))) (tw_one_or (tt_cmp (fun _ => op_eq) v_eqI (tx_lenS (i := 2) rfl (fun _ => rfl) (fun _ => Or.inl rfl) (fun _ => ⟨rfl, rfl⟩) (fun _ => rfl) (fun _ => z_len F)) (tx_gi (fun _ => rfl) (fun _ => gi_MOST_WEATHERS F)) (nomark _)))))) (ts_cons (ts_raise (f := "line") id (fun r => r) (fun _ => rfl) (fun _ => rfl) (fun _ => tk) (fun _ => ex_BadText F) (fun _ => hr.mono (by decide)) (fun _ => rfl) (tx_v V.int (fun r => r) (tx_im (i := 3) rfl (fun _ => rfl) (fun _ => Or.inl rfl)))) ts_nil) ts_nil)
    (ts_cons (ts_lift1 (ts_putS (i := 2) (T := fun _ => True) (set := (fun e y => ((e.1.1, { e.1.2 with weathers := y }), e.2))) (L' := [.im (lstR (lstR strR)) (fun e => e.1.1.1), .im (optR (lstR strR)) (fun e => e.1.2.things), .ox (dsR P ww (triR (lstR strR) strR (lstR strR))) (fun e => e.1.2.weathers), .im intR (fun e => e.2.1), .im (lstR strR) (fun e => e.2.2), .im (optR (triR (lstR strR) strR (lstR strR))) (fun e => e.1.2.entry)]) rfl (fun _ => rfl) (fun _ => Or.inl rfl) (fun _ => ⟨rfl, rfl⟩) (fun _ => Nat.lt_of_le_of_lt (Nat.add_le_add_left (by decide) _) (Room.u65 hr)) (tx_some (tx_im (i := 5) rfl (fun _ => rfl) (fun _ => Or.inl rfl))) (tx_ix (fun _ => (ix_listK rfl)) v_ixL (tx_im (i := 4) rfl (fun _ => rfl) (fun _ => Or.inl rfl)) tx_int (fun _ _ => rfl)) (.im (fun _ => rfl) (.im (fun _ => rfl) (.ox (fun _ => rfl) (.im (fun _ => rfl) (.im (fun _ => rfl) (.im (fun _ => rfl) .nil)))))))) ts_nil)))
    (.im (fun _ => rfl) (.im (fun _ => rfl) (.ox (fun _ => rfl) (.any rfl (.any rfl (.any rfl .nil)))))))
    (ts_cons (ts_lift1 (ts_retPD (j := 2) rfl (fun _ => rfl) (fun _ => Or.inl rfl) (tx_some (tx_im (i := 1) rfl (fun _ => rfl) (fun _ => Or.inl rfl))))) ts_nil))))) (by first | decide | exact Nat.le_of_ble_eq_true rfl) rfl (by exact h)⟩
noncomputable def w_read_lines := wT ({} : Loc_read_lines) d_read_lines.1
theorem mw_read_lines : ∀ x k k', (∀ y, k y → k' y) → w_read_lines x k → w_read_lines x k' := up_mono
theorem ca_read_lines {P : Program} {ww : World} {K : PySem.W.Frag} {mg : Str → Option Value} {base : Heap} (F : Facts K mg) : Ca P ww K mg base (L2.CX P ww) 5 "read_lines" (spX K (.cons (lstR (lstR strR)) .nil) (retPD (lstR strR) P ww (triR (lstR strR) strR (lstR strR))) w_read_lines) := d_read_lines.2 F
structure Loc_read_menu where
  things : (List Str) := []
  weathers : (List (Str × ((List Str) × Str × (List Str)))) := []
noncomputable def d_read_menu : { wb : (Str × Unit) × Loc_read_menu → Kn ((Str × Unit) × Loc_read_menu) (Er ⊕ Bs) → Prop // ∀ {P : Program} {ww : World} {K : PySem.W.Frag} {mg : Str → Option Value} {base : Heap}, Facts K mg → Ca P ww K mg base (L2.CX P ww) 7 "read_menu" (spX K (.cons strR .nil) (retI menuR) (wT ({} : Loc_read_menu) wb)) } :=
  ⟨_, fun {P ww K mg base} F => by
    obtain ⟨fd, D⟩ := fun_read_menu F
    refine ⟨_, fd, ["text"], D.ok sc_read_menu (fun vs H Q E h => spX_len h) (fun cdv A outer s H vs Q E hr h => ?_), D.bindsN fun _ _ _ _ _ _ us hl => match us, hl with | [_], _ => rfl, g_read_menu F, D.kp⟩
    have hu := hu_of hr
    have tk : Takes (cxOf (L2.CX P ww) P ww K mg base ["text", "things", "weathers", "number", "name", "line", "weather"] "read_menu" (defScope s_read_menu) (He.ga K "read_menu") cdv A outer s H E) (WOut E) := takes_of rfl rfl rfl rfl
    refine body_X (K := K) (A := (.cons strR .nil)) (R := retI menuR) (Λ := Loc_read_menu) (l0 := {}) (L' := [.im strR (fun e => e.1.1), .im (lstR strR) (fun e => e.2.things), .any, .any, .any, .any, .any]) (n := 6) (ts_cons (ts_if (tt_not (TX.val (tx_isi isi_SS (fun _ => rfl) (fun _ => rfl) (fun _ => z_isinstance F) (fun _ => rfl) (fun _ => z_str F) (by decide +kernel) (by decide +kernel) (tx_im (i := 0) rfl (fun _ => rfl) (fun _ => Or.inl rfl))))) (ts_cons (ts_raise (f := "line") id (fun r => r) (fun _ => rfl) (fun _ => rfl) (fun _ => tk) (fun _ => ex_BadText F) (fun _ => hr.mono (by decide)) (fun _ => rfl) (tx_v V.int (fun r => r) tx_int)) ts_nil) ts_nil)
    (ts_cons (ts_callPD (i := 1) (j := 2) (k := 5) (set := fun e y => (e.1, { e.2 with things := y.1, weathers := y.2 })) (L' := [.im strR (fun e => e.1.1), .im (lstR strR) (fun e => e.2.things), .ox (dsR P ww (triR (lstR strR) strR (lstR strR))) (fun e => e.2.weathers), .any, .any, .any, .any]) (fun _ => ca_read_lines F) (mw_read_lines) (fun _ => hr.mono (by decide)) (fun _ => rfl) (fun _ => tk) (ta_cons (TN.tx (tn_comp (bown := [("line", 5)]) (fun _ => rfl) (fun _ => sc_read_menu.nd) (it_list (TN.tx (tx_split (tx_im (i := 0) rfl (fun _ => rfl) (fun _ => Or.inl rfl)) tx_str))) (fun _ => blkOk_by (own := [("line", 5)]) (N := ["text", "things", "weathers", "number", "name", "line", "weather"]) (sc := defScope s_read_menu) (by decide +kernel)) (allB rfl) (by decide) (tgt_name (i := 5) (fun _ => sc_read_menu.nd) (fun _ => rfl) (fun _ => Or.inl rfl) rfl) tc_no (TN.tx (tx_split (tx_im (i := 5) rfl (fun _ => rfl) (fun _ => by first | exact Or.inl rfl | exact Or.inr (Or.inl rfl) | exact Or.inr (Or.inr rfl))) tx_str)))) ta_nil) (by decide) (fun _ => rfl) (fun _ => sc_read_menu.nd) (fun _ => rfl) (fun _ => rfl) (fun _ => (Or.inl rfl)) (fun _ => (Or.inr rfl)) rfl rfl (.im (fun _ => rfl) (.im (fun _ => rfl) (.ox (fun _ => rfl) (.any rfl (.any rfl (.any rfl (.any rfl .nil))))))))
    (ts_cons (ts_if (tt_not (tt_truthS (i := 2) rfl (fun _ => rfl) (fun _ => Or.inr (Or.inl rfl)) (fun _ => ⟨rfl, rfl⟩))) (ts_cons (ts_raise (f := "line") id (fun r => r) (fun _ => rfl) (fun _ => rfl) (fun _ => tk) (fun _ => ex_BadText F) (fun _ => hr.mono (by decide)) (fun _ => rfl) (tx_v V.int (fun r => r) tx_int)) ts_nil) ts_nil)
    (ts_lockS (i := 2) rfl (fun _ => rfl) (fun z0 => ⟨_, (ts_cons (ts_forDL (i := 2) (fun _ => passes_of rfl) (fun _ => rfl) (Int.le_of_sub_nonneg (by decide)) (by decide) (fun _ => ⟨rfl, rfl⟩) (fun _ => rfl) (fun _ => z_enumerate F) rfl (fun _ => rfl) (fun _ => Or.inr (Or.inl rfl)) (tgt_tup (is := [3, 4]) unp_pr (fun _ => (pgs_cons (pg_name (i := 3) sc_read_menu.nd rfl (Or.inl rfl)) (pgs_cons (pg_name (i := 4) sc_read_menu.nd rfl (Or.inl rfl)) pgs_nil))) (fun _ => rfl) rfl (allB rfl))
    (ts_cons (ts_if (tt_view (L2 := [.im strR (fun e => e.1.1.1), .im (lstR strR) (fun e => e.1.2.things), .im (ftR P ww (triR (lstR strR) strR (lstR strR))) (fun e => e.1.2.weathers), .im intR (fun e => e.2.1), .im strR (fun e => e.2.2), .any, .any]) (.im (fun _ => rfl) (.im (fun _ => rfl) (.fx id (fun _ => rfl) dl_ft (.im (fun _ => rfl) (.im (fun _ => rfl) (.any rfl (.any rfl .nil))))))) (tt_not (TX.val (tx_callB (fun _ => cr_allK rfl rfl) vc_all (fun _ => rfl) (fun _ => z_all F) (by decide +kernel) (ta_cons (TN.tx (tn_comp (bown := [("weather", 6)]) (fun _ => rfl) (fun _ => sc_read_menu.nd) (it_list (tx_prj (n := 2) unp_tri (.succ (.succ .zero)) (tx_fget (fun _ => ⟨rfl, rfl⟩) (tx_im (i := 2) rfl (fun _ => rfl) (fun _ => Or.inr (Or.inl rfl))) (tx_im (i := 4) rfl (fun _ => rfl) (fun _ => Or.inl rfl)) (fun _ _ => rfl)))) (fun _ => blkOk_by (own := [("weather", 6)]) (N := ["text", "things", "weathers", "number", "name", "line", "weather"]) (sc := defScope s_read_menu) (by decide +kernel)) (allB rfl) (by decide) (tgt_name (i := 6) (fun _ => sc_read_menu.nd) (fun _ => rfl) (fun _ => Or.inl rfl) rfl) tc_no (tx_inF (fun _ => ⟨rfl, rfl⟩) (tx_im (i := 6) rfl (fun _ => rfl) (fun _ => by first | exact Or.inl rfl | exact Or.inr (Or.inl rfl) | exact Or.inr (Or.inr rfl))) (tx_im (i := 2) rfl (fun _ => rfl) (fun _ => by first | exact Or.inl rfl | exact Or.inr (Or.inl rfl) | exact Or.inr (Or.inr rfl)))))) ta_nil))))) (ts_cons (ts_raise (f := "line") id (fun r => r) (fun _ => rfl) (fun _ => rfl) (fun _ => tk) (fun _ => ex_BadText F) (fun _ => hr.mono (by decide)) (fun _ => rfl) (tx_v V.int (fun r => r) (tx_im (i := 3) rfl (fun _ => rfl) (fun _ => Or.inl rfl)))) ts_nil) ts_nil) ts_nil)
    (.im (fun _ => rfl) (.im (fun _ => rfl) (.ox (fun _ => rfl) (.any rfl (.any rfl (.any rfl (.any rfl .nil))))))))
    (ts_cons (TS1.unlockS (i := 2) (L1 := [.im strR (fun e => e.1.1), .im (lstR strR) (fun e => e.2.things), .im (dicR (triR (lstR strR) strR (lstR strR))) (fun e => e.2.weathers), .any, .any, .any, .any]) rfl rfl (fun _ => ⟨rfl, rfl⟩) (fun _ => rfl) (ts_lift1 (ts_ret (tx_menu sq_l sq_l sq_l (fun _ => mk_Menu F) (fun _ => hr.mono (by decide)) (fun _ => rfl) (ta_cons (tx_im (i := 1) rfl (fun _ => rfl) (fun _ => Or.inl rfl)) (ta_cons (tx_im (i := 2) rfl (fun _ => rfl) (fun _ => Or.inr (Or.inl rfl))) ta_nil)))))) ts_nil)), rfl⟩))))) (by first | decide | exact Nat.le_of_ble_eq_true rfl) rfl (by exact h)⟩
noncomputable def w_read_menu := wT ({} : Loc_read_menu) d_read_menu.1
theorem mw_read_menu : ∀ x k k', (∀ y, k y → k' y) → w_read_menu x k → w_read_menu x k' := up_mono
theorem ca_read_menu {P : Program} {ww : World} {K : PySem.W.Frag} {mg : Str → Option Value} {base : Heap} (F : Facts K mg) : Ca P ww K mg base (L2.CX P ww) 7 "read_menu" (spX K (.cons strR .nil) (retI menuR) w_read_menu) := d_read_menu.2 F
abbrev Loc_read_menuW := Unit
noncomputable def d_read_menuW : { wb : ((V × PyData) × Unit) × Loc_read_menuW → Kn (((V × PyData) × Unit) × Loc_read_menuW) (Er ⊕ Bs) → Prop // ∀ {P : Program} {ww : World} {K : PySem.W.Frag} {mg : Str → Option Value} {base : Heap}, Facts K mg → Ca P ww K mg base (L2.CX P ww) 7 "read_menu" (spX K (.cons vdR .nil) (retI menuR) (wT (() : Loc_read_menuW) wb)) } :=
  ⟨_, fun {P ww K mg base} F => by
    obtain ⟨fd, D⟩ := fun_read_menu F
    refine ⟨_, fd, ["text"], D.ok sc_read_menu (fun vs H Q E h => spX_len h) (fun cdv A outer s H vs Q E hr h => ?_), D.bindsN fun _ _ _ _ _ _ us hl => match us, hl with | [_], _ => rfl, g_read_menu F, D.kp⟩
    have hu := hu_of hr
    have tk : Takes (cxOf (L2.CX P ww) P ww K mg base ["text", "things", "weathers", "number", "name", "line", "weather"] "read_menu" (defScope s_read_menu) (He.ga K "read_menu") cdv A outer s H E) (WOut E) := takes_of rfl rfl rfl rfl
    refine body_X (K := K) (A := (.cons vdR .nil)) (R := retI menuR) (Λ := Loc_read_menuW) (l0 := ()) (L' := [.im vdR (fun e => e.1.1), .any, .any, .any, .any, .any, .any]) (n := 6) (ts_cons (ts_if (tt_not (TX.val (tx_isi (isi_dS isd_vd) (fun _ => rfl) (fun _ => rfl) (fun _ => z_isinstance F) (fun _ => rfl) (fun _ => z_str F) (by decide +kernel) (by decide +kernel) (tx_im (i := 0) rfl (fun _ => rfl) (fun _ => Or.inl rfl))))) (ts_cons (ts_raise (f := "line") id (fun r => r) (fun _ => rfl) (fun _ => rfl) (fun _ => tk) (fun _ => ex_BadText F) (fun _ => hr.mono (by decide)) (fun _ => rfl) (tx_v V.int (fun r => r) tx_int)) ts_nil) ts_nil) ts_any) (by first | decide | exact Nat.le_of_ble_eq_true rfl) rfl (by exact h)⟩
noncomputable def w_read_menuW := wT (() : Loc_read_menuW) d_read_menuW.1
theorem mw_read_menuW : ∀ x k k', (∀ y, k y → k' y) → w_read_menuW x k → w_read_menuW x k' := up_mono
theorem ca_read_menuW {P : Program} {ww : World} {K : PySem.W.Frag} {mg : Str → Option Value} {base : Heap} (F : Facts K mg) : Ca P ww K mg base (L2.CX P ww) 7 "read_menu" (spX K (.cons vdR .nil) (retI menuR) w_read_menuW) := d_read_menuW.2 F
abbrev Loc_law_tuples := Unit
noncomputable def d_law_tuples : { wb : (Bs × Unit) × Loc_law_tuples → Kn ((Bs × Unit) × Loc_law_tuples) Bs → Prop // ∀ {P : Program} {ww : World} {K : PySem.W.Frag} {mg : Str → Option Value} {base : Heap}, Facts K mg → Ca P ww K mg base CX0 7 "_law_tuples" (spT K (.cons baseR .nil) (retI menuR) (wT (() : Loc_law_tuples) wb)) } :=
  ⟨_, fun {P ww K mg base} F => by
    obtain ⟨fd, D⟩ := fun_law_tuples F
    refine ⟨_, fd, ["base"], D.ok sc_law_tuples (fun vs H Q E h => spT_len h) (fun cdv A outer s H vs Q E hr h => ?_), D.bindsN fun _ _ _ _ _ _ us hl => match us, hl with | [_], _ => rfl, g__law_tuples F, D.kp⟩
    have hu := hu_of hr
    refine body_wT (K := K) (A := (.cons baseR .nil)) (R := retI menuR) (Λ := Loc_law_tuples) (l0 := ()) (L' := [.im baseR (fun e => e.1.1), .any, .any, .any, .any]) (n := 4) (ts_cons (ts_ret (tx_menu sq_t sq_t sq_t (fun _ => mk_Menu F) (fun _ => hr.mono (by decide)) (fun _ => rfl) (ta_cons (tx_prj (n := 0) unp_base .zero (tx_im (i := 0) rfl (fun _ => rfl) (fun _ => Or.inl rfl))) (ta_cons (tx_callTy (fun _ => call_dictPK rfl rfl) vc_dictS (fun _ => rfl) (fun _ => z_dict F) (by decide +kernel) (ta_cons (TN.tx (tn_comp (bown := [("name", 1), ("wishes", 2), ("back", 3), ("later", 4)]) (fun _ => rfl) (fun _ => sc_law_tuples.nd) (it_tup (tx_prj (n := 1) unp_base (.succ .zero) (tx_im (i := 0) rfl (fun _ => rfl) (fun _ => Or.inl rfl)))) (fun _ => blkOk_by (own := [("name", 1), ("wishes", 2), ("back", 3), ("later", 4)]) (N := ["base", "name", "wishes", "back", "later"]) (sc := defScope s_law_tuples) (by decide +kernel)) (allB rfl) (by decide) (tgt_tup (is := [1, 2, 3, 4]) unp_ent (fun _ => (pgs_cons (pg_name (i := 1) sc_law_tuples.nd rfl (Or.inl rfl)) (pgs_cons (pg_name (i := 2) sc_law_tuples.nd rfl (Or.inl rfl)) (pgs_cons (pg_name (i := 3) sc_law_tuples.nd rfl (Or.inl rfl)) (pgs_cons (pg_name (i := 4) sc_law_tuples.nd rfl (Or.inl rfl)) pgs_nil))))) (fun _ => rfl) rfl (allB rfl)) tc_no (tx_tup (ta_cons (tx_im (i := 1) rfl (fun _ => rfl) (fun _ => by first | exact Or.inl rfl | exact Or.inr (Or.inl rfl) | exact Or.inr (Or.inr rfl))) (ta_cons (tx_tup (ta_cons (tx_im (i := 2) rfl (fun _ => rfl) (fun _ => by first | exact Or.inl rfl | exact Or.inr (Or.inl rfl) | exact Or.inr (Or.inr rfl))) (ta_cons (tx_im (i := 3) rfl (fun _ => rfl) (fun _ => by first | exact Or.inl rfl | exact Or.inr (Or.inl rfl) | exact Or.inr (Or.inr rfl))) (ta_cons (tx_im (i := 4) rfl (fun _ => rfl) (fun _ => by first | exact Or.inl rfl | exact Or.inr (Or.inl rfl) | exact Or.inr (Or.inr rfl))) ta_nil))) tu_tri) ta_nil)) tu_pr))) ta_nil)) ta_nil)))) ts_nil) (by first | decide | exact Nat.le_of_ble_eq_true rfl) rfl (by exact h)⟩
noncomputable def w_law_tuples := wT (() : Loc_law_tuples) d_law_tuples.1
theorem mw_law_tuples : ∀ x k k', (∀ y, k y → k' y) → w_law_tuples x k → w_law_tuples x k' := up_mono
theorem ca_law_tuples {P : Program} {ww : World} {K : PySem.W.Frag} {mg : Str → Option Value} {base : Heap} (F : Facts K mg) : Ca P ww K mg base CX0 7 "_law_tuples" (spT K (.cons baseR .nil) (retI menuR) w_law_tuples) := d_law_tuples.2 F
abbrev Loc_law_is_name := Unit
noncomputable def d_law_is_name : { wb : (Str × Unit) × Loc_law_is_name → Kn ((Str × Unit) × Loc_law_is_name) Bool → Prop // ∀ {P : Program} {ww : World} {K : PySem.W.Frag} {mg : Str → Option Value} {base : Heap}, Facts K mg → Ca P ww K mg base CX0 1 "_law_is_name" (spT K (.cons strR .nil) (retI boolR) (wT (() : Loc_law_is_name) wb)) } :=
  ⟨_, fun {P ww K mg base} F => by
    obtain ⟨fd, D⟩ := fun_law_is_name F
    refine ⟨_, fd, ["word"], D.ok sc_law_is_name (fun vs H Q E h => spT_len h) (fun cdv A outer s H vs Q E hr h => ?_), D.bindsN fun _ _ _ _ _ _ us hl => match us, hl with | [_], _ => rfl, g__law_is_name F, D.kp⟩
    have hu := hu_of hr
    refine body_wT (K := K) (A := (.cons strR .nil)) (R := retI boolR) (Λ := Loc_law_is_name) (l0 := ()) (L' := [.im strR (fun e => e.1.1), .any]) (n := 1) (ts_cons (ts_ret (tx_and (tx_chainG (fun _ => op_le) (fun _ => op_le) v_B0 v_B0 intR.flat tx_int (tx_callB (fun _ => call_lenK rfl) vc_lenS (fun _ => rfl) (fun _ => z_len F) boot_len (ta_cons (tx_im (i := 0) rfl (fun _ => rfl) (fun _ => Or.inl rfl)) ta_nil)) tx_int) (tx_cmp (fun _ => (op_eqNilK rfl (Nat.lt_of_succ_lt (Room.u1 hr)))) v_eqNil (TN.tx (tn_comp (bown := [("sign", 1)]) (fun _ => rfl) (fun _ => sc_law_is_name.nd) (it_str (tx_im (i := 0) rfl (fun _ => rfl) (fun _ => Or.inl rfl))) (fun _ => blkOk_by (own := [("sign", 1)]) (N := ["word", "sign"]) (sc := defScope s_law_is_name) (by decide +kernel)) (allB rfl) (by decide) (tgt_name (i := 1) (fun _ => sc_law_is_name.nd) (fun _ => rfl) (fun _ => Or.inl rfl) rfl) (tc_one (tt_not (tt_chainG (fun _ => op_leS) (fun _ => op_leS) v_leS v_leS strR.flat tx_str (tx_im (i := 1) rfl (fun _ => rfl) (fun _ => by first | exact Or.inl rfl | exact Or.inr (Or.inl rfl) | exact Or.inr (Or.inr rfl))) tx_str))) (tx_im (i := 1) rfl (fun _ => rfl) (fun _ => by first | exact Or.inl rfl | exact Or.inr (Or.inl rfl) | exact Or.inr (Or.inr rfl))))) (TN.tx (tn_lst ta_nil (lo_nil (S := datR)))) (nomark _)))) ts_nil) (by first | decide | exact Nat.le_of_ble_eq_true rfl) rfl (by exact h)⟩
noncomputable def w_law_is_name := wT (() : Loc_law_is_name) d_law_is_name.1
theorem mw_law_is_name : ∀ x k k', (∀ y, k y → k' y) → w_law_is_name x k → w_law_is_name x k' := up_mono
theorem ca_law_is_name {P : Program} {ww : World} {K : PySem.W.Frag} {mg : Str → Option Value} {base : Heap} (F : Facts K mg) : Ca P ww K mg base CX0 1 "_law_is_name" (spT K (.cons strR .nil) (retI boolR) w_law_is_name) := d_law_is_name.2 F
structure Loc_law_lines where
  found : (List Str) := []
noncomputable def d_law_lines : { wb : (Bs × Unit) × Loc_law_lines → Kn ((Bs × Unit) × Loc_law_lines) (List Str) → Prop // ∀ {P : Program} {ww : World} {K : PySem.W.Frag} {mg : Str → Option Value} {base : Heap}, Facts K mg → Ca P ww K mg base CX0 1 "_law_lines" (spT K (.cons baseR .nil) (retN strR) (wT ({} : Loc_law_lines) wb)) } :=
  ⟨_, fun {P ww K mg base} F => by
    obtain ⟨fd, D⟩ := fun_law_lines F
    refine ⟨_, fd, ["base"], D.ok sc_law_lines (fun vs H Q E h => spT_len h) (fun cdv A outer s H vs Q E hr h => ?_), D.bindsN fun _ _ _ _ _ _ us hl => match us, hl with | [_], _ => rfl, g__law_lines F, D.kp⟩
    have hu := hu_of hr
    refine body_wT (K := K) (A := (.cons baseR .nil)) (R := retN strR) (Λ := Loc_law_lines) (l0 := {}) (L' := [.im baseR (fun e => e.1.1), .ow strR (fun e => e.2.found), .any, .any, .any, .any]) (n := 5) (ts_cons (ts_own (i := 1) (set := (fun e y => (e.1, { e.2 with found := y }))) (L' := [.im baseR (fun e => e.1.1), .ow strR (fun e => e.2.found), .any, .any, .any, .any]) (fun _ => sc_law_lines.nd) (fun _ => rfl) (fun _ => (Or.inl rfl)) (tn_lst (ta_cons (tx_joinT tx_str (tx_op (fun _ => op_catBK rfl) v_catT (tx_tup (ta_cons tx_str ta_nil) (tu_of (lo_cons lo_nil))) (tx_prj (n := 0) unp_base .zero (tx_im (i := 0) rfl (fun _ => rfl) (fun _ => Or.inl rfl))))) ta_nil) (lo_cons lo_nil)) (okI_lift rfl) (.im (fun _ => rfl) (.ow (fun _ => rfl) (.any rfl (.any rfl (.any rfl (.any rfl .nil)))))))
    (ts_cons (ts_for (fun _ => PassesOwn.never) (fun _ => rfl) (it_tup (tx_prj (n := 1) unp_base (.succ .zero) (tx_im (i := 0) rfl (fun _ => rfl) (fun _ => Or.inl rfl)))) (tgt_tup (is := [2, 3, 4, 5]) unp_ent (fun _ => (pgs_cons (pg_name (i := 2) sc_law_lines.nd rfl (Or.inl rfl)) (pgs_cons (pg_name (i := 3) sc_law_lines.nd rfl (Or.inl rfl)) (pgs_cons (pg_name (i := 4) sc_law_lines.nd rfl (Or.inl rfl)) (pgs_cons (pg_name (i := 5) sc_law_lines.nd rfl (Or.inl rfl)) pgs_nil))))) (fun _ => rfl) rfl (allB rfl))
    (ts_cons (ts_append (i := 1) (set := (fun e y => ((e.1.1, { e.1.2 with found := y }), e.2))) (L' := [.im baseR (fun e => e.1.1.1), .ow strR (fun e => e.1.2.found), .im strR (fun e => e.2.name), .im (tupR strR) (fun e => e.2.wishes), .im strR (fun e => e.2.back), .im (tupR strR) (fun e => e.2.later)]) rfl (fun _ => rfl) (fun _ => Or.inl rfl) (tx_joinT tx_str (tx_op (fun _ => op_catBK rfl) v_catT (tx_op (fun _ => op_catBK rfl) v_catT (tx_op (fun _ => op_catBK rfl) v_catT (tx_tup (ta_cons (tx_im (i := 2) rfl (fun _ => rfl) (fun _ => Or.inl rfl)) (ta_cons (tx_im (i := 4) rfl (fun _ => rfl) (fun _ => Or.inl rfl)) (ta_cons tx_str ta_nil))) (tu_of (lo_cons (lo_cons (lo_cons lo_nil))))) (tx_im (i := 3) rfl (fun _ => rfl) (fun _ => Or.inl rfl))) (tx_tup (ta_cons tx_str ta_nil) (tu_of (lo_cons lo_nil)))) (tx_im (i := 5) rfl (fun _ => rfl) (fun _ => Or.inl rfl)))) (.im (fun _ => rfl) (.ow (fun _ => rfl) (.im (fun _ => rfl) (.im (fun _ => rfl) (.im (fun _ => rfl) (.im (fun _ => rfl) .nil))))))) ts_nil)
    (.im (fun _ => rfl) (.ow (fun _ => rfl) (.any rfl (.any rfl (.any rfl (.any rfl .nil)))))))
    (ts_cons (ts_retO (i := 1) rfl (fun _ => rfl) (fun _ => Or.inl rfl)) ts_nil))) (by first | decide | exact Nat.le_of_ble_eq_true rfl) rfl (by exact h)⟩
noncomputable def w_law_lines := wT ({} : Loc_law_lines) d_law_lines.1
theorem mw_law_lines : ∀ x k k', (∀ y, k y → k' y) → w_law_lines x k → w_law_lines x k' := up_mono
theorem ca_law_lines {P : Program} {ww : World} {K : PySem.W.Frag} {mg : Str → Option Value} {base : Heap} (F : Facts K mg) : Ca P ww K mg base CX0 1 "_law_lines" (spT K (.cons baseR .nil) (retN strR) w_law_lines) := d_law_lines.2 F
structure Loc_law_weather where
  words : (List Str) := []
  at_ : Int := 0
  wishes : (List Str) := []
  later : (List Str) := []
noncomputable def d_law_weather : { wb : (Str × (List Str) × Unit) × Loc_law_weather → Kn ((Str × (List Str) × Unit) × Loc_law_weather) (Option Ent) → Prop // ∀ {P : Program} {ww : World} {K : PySem.W.Frag} {mg : Str → Option Value} {base : Heap}, Facts K mg → Ca P ww K mg base CX0 2 "_law_weather" (spT K (.cons strR (.cons (lstR strR) .nil)) (retI (optR entR)) (wT ({} : Loc_law_weather) wb)) } :=
  ⟨_, fun {P ww K mg base} F => by
    obtain ⟨fd, D⟩ := fun_law_weather F
    refine ⟨_, fd, ["line", "things"], D.ok sc_law_weather (fun vs H Q E h => spT_len h) (fun cdv A outer s H vs Q E hr h => ?_), D.bindsN fun _ _ _ _ _ _ us hl => match us, hl with | [_, _], _ => rfl, g__law_weather F, D.kp⟩
    have hu := hu_of hr
    refine body_wT (K := K) (A := (.cons strR (.cons (lstR strR) .nil))) (R := retI (optR entR)) (Λ := Loc_law_weather) (l0 := {}) (L' := [.im strR (fun e => e.1.1), .im (lstR strR) (fun e => e.1.2.1), .im (lstR strR) (fun e => e.2.words), .im intR (fun e => e.2.at_), .im (lstR strR) (fun e => e.2.wishes), .im (lstR strR) (fun e => e.2.later), .any]) (n := 5) (ts_cons (ts_set (i := 2) (set := (fun e y => (e.1, { e.2 with words := y }))) (L' := [.im strR (fun e => e.1.1), .im (lstR strR) (fun e => e.1.2.1), .im (lstR strR) (fun e => e.2.words), .any, .any, .any, .any]) (fun _ => sc_law_weather.nd) (fun _ => rfl) (fun _ => (Or.inl rfl)) (TN.tx (tx_split (tx_im (i := 0) rfl (fun _ => rfl) (fun _ => Or.inl rfl)) tx_str)) (okI_lift rfl) (.im (fun _ => rfl) (.im (fun _ => rfl) (.im (fun _ => rfl) (.any rfl (.any rfl (.any rfl (.any rfl .nil))))))))
    (ts_cons (ts_if (TTW.tt (tw_or (tt_cmp (fun _ => op_lt) v_B0 (tx_callB (fun _ => call_lenK rfl) vc_lenL (fun _ => rfl) (fun _ => z_len F) boot_len (ta_cons (tx_im (i := 2) rfl (fun _ => rfl) (fun _ => Or.inl rfl)) ta_nil)) tx_int (nomark _)) (tw_one_or (tt_cmp (fun _ => op_ne) v_neI (tx_callB (fun _ => call_lenK rfl) vc_lenL (fun _ => rfl) (fun _ => z_len F) boot_len (ta_cons (TN.tx (tn_comp (bown := [("word", 6)]) (fun _ => rfl) (fun _ => sc_law_weather.nd) (it_list (tx_im (i := 2) rfl (fun _ => rfl) (fun _ => Or.inl rfl))) (fun _ => blkOk_by (own := [("word", 6)]) (N := ["line", "things", "words", "at", "wishes", "later", "word"]) (sc := defScope s_law_weather) (by decide +kernel)) (allB rfl) (by decide) (tgt_name (i := 6) (fun _ => sc_law_weather.nd) (fun _ => rfl) (fun _ => Or.inl rfl) rfl) (tc_one (tt_cmp (fun _ => op_eq) v_eqS (tx_im (i := 6) rfl (fun _ => rfl) (fun _ => by first | exact Or.inl rfl | exact Or.inr (Or.inl rfl) | exact Or.inr (Or.inr rfl))) tx_str (nomark _))) (tx_im (i := 6) rfl (fun _ => rfl) (fun _ => by first | exact Or.inl rfl | exact Or.inr (Or.inl rfl) | exact Or.inr (Or.inr rfl))))) ta_nil)) tx_int (nomark _))))) (ts_cons (ts_ret tx_noneO) ts_nil) ts_nil)
    (ts_cons (ts_set (i := 3) (set := (fun e y => (e.1, { e.2 with at_ := y }))) (L' := [.im strR (fun e => e.1.1), .im (lstR strR) (fun e => e.1.2.1), .im (lstR strR) (fun e => e.2.words), .im intR (fun e => e.2.at_), .any, .any, .any]) (fun _ => sc_law_weather.nd) (fun _ => rfl) (fun _ => (Or.inl rfl)) (tx_index (tx_im (i := 2) rfl (fun _ => rfl) (fun _ => Or.inl rfl)) tx_str) (okI_lift rfl) (.im (fun _ => rfl) (.im (fun _ => rfl) (.im (fun _ => rfl) (.im (fun _ => rfl) (.any rfl (.any rfl (.any rfl .nil))))))))
    (ts_cons (ts_parII (i := 4) (j := 5) (set := fun e y => (e.1, { e.2 with wishes := y.1, later := y.2 })) (L' := [.im strR (fun e => e.1.1), .im (lstR strR) (fun e => e.1.2.1), .im (lstR strR) (fun e => e.2.words), .im intR (fun e => e.2.at_), .im (lstR strR) (fun e => e.2.wishes), .im (lstR strR) (fun e => e.2.later), .any]) (fun _ => rfl) (fun _ => sc_law_weather.nd) (fun _ => rfl) (fun _ => rfl) (by decide) (fun _ => rfl) (fun _ => rfl) (TN.tx (tn_slice (tx_im (i := 2) rfl (fun _ => rfl) (fun _ => Or.inl rfl)) (to_some tx_int) (to_some (tx_im (i := 3) rfl (fun _ => rfl) (fun _ => Or.inl rfl))))) (TN.tx (tn_slice (tx_im (i := 2) rfl (fun _ => rfl) (fun _ => Or.inl rfl)) (to_some (tx_op (fun _ => op_add) v_I0 (tx_im (i := 3) rfl (fun _ => rfl) (fun _ => Or.inl rfl)) tx_int)) to_none)) rfl rfl (.im (fun _ => rfl) (.im (fun _ => rfl) (.im (fun _ => rfl) (.im (fun _ => rfl) (.im (fun _ => rfl) (.im (fun _ => rfl) (.any rfl .nil))))))) (by intro _; rfl))
    (ts_cons (ts_if (TTW.tt (tw_or (tt_not (TX.val (tx_call (k := 1) (fun _ => ca_law_is_name F) (mw_law_is_name) (fun _ => hr.mono (by decide)) (fun _ => rfl) (ta_cons (tx_ix (fun _ => (ix_listK rfl)) v_ixL (tx_im (i := 2) rfl (fun _ => rfl) (fun _ => Or.inl rfl)) tx_int (fun _ _ => rfl)) ta_nil)))) (tw_or (tt_cmp (fun _ => (op_notIn_seqK rfl)) v_ninT (tx_ix (fun _ => (ix_listK rfl)) v_ixL (tx_im (i := 2) rfl (fun _ => rfl) (fun _ => Or.inl rfl)) tx_int (fun _ _ => rfl)) (tx_tup (ta_cons tx_str (ta_cons tx_str ta_nil)) (tu_of (lo_cons (lo_cons lo_nil)))) (by rfl)) (tw_or (tt_cmp (fun _ => op_ne) v_neS (tx_ix (fun _ => (ix_listK rfl)) v_ixL (tx_im (i := 2) rfl (fun _ => rfl) (fun _ => Or.inl rfl)) tx_int (fun _ _ => rfl)) tx_str (nomark _)) (tw_one_or (tt_cmp (fun _ => op_lt) v_B0 (tx_im (i := 3) rfl (fun _ => rfl) (fun _ => Or.inl rfl)) tx_int (nomark _))))))) (ts_cons (ts_ret tx_noneO) ts_nil) ts_nil)
    (ts_cons (ts_if (TTW.tt (tw_or (tt_cmp (fun _ => (op_neNilK rfl (Nat.lt_of_succ_lt (Room.u1 hr)))) v_neNil (TN.tx (tn_comp (bown := [("word", 6)]) (fun _ => rfl) (fun _ => sc_law_weather.nd) (it_list (tx_im (i := 4) rfl (fun _ => rfl) (fun _ => Or.inl rfl))) (fun _ => blkOk_by (own := [("word", 6)]) (N := ["line", "things", "words", "at", "wishes", "later", "word"]) (sc := defScope s_law_weather) (by decide +kernel)) (allB rfl) (by decide) (tgt_name (i := 6) (fun _ => sc_law_weather.nd) (fun _ => rfl) (fun _ => Or.inl rfl) rfl) (tc_one (tt_cmp (fun _ => (op_notIn_seqK rfl)) v_ninL (tx_im (i := 6) rfl (fun _ => rfl) (fun _ => by first | exact Or.inl rfl | exact Or.inr (Or.inl rfl) | exact Or.inr (Or.inr rfl))) (tx_im (i := 1) rfl (fun _ => rfl) (fun _ => by first | exact Or.inl rfl | exact Or.inr (Or.inl rfl) | exact Or.inr (Or.inr rfl))) (by rfl))) (tx_im (i := 6) rfl (fun _ => rfl) (fun _ => by first | exact Or.inl rfl | exact Or.inr (Or.inl rfl) | exact Or.inr (Or.inr rfl))))) (TN.tx (tn_lst ta_nil (lo_nil (S := datR)))) (nomark _)) (tw_one_or (tt_cmp (fun _ => op_ne) v_neI (tx_lenset (fun _ => rfl) (fun _ => rfl) (fun _ => z_len F) (fun _ => rfl) (fun _ => z_set F) (tx_im (i := 4) rfl (fun _ => rfl) (fun _ => Or.inl rfl))) (tx_callB (fun _ => call_lenK rfl) vc_lenL (fun _ => rfl) (fun _ => z_len F) boot_len (ta_cons (tx_im (i := 4) rfl (fun _ => rfl) (fun _ => Or.inl rfl)) ta_nil)) (nomark _))))) (ts_cons (ts_ret tx_noneO) ts_nil) ts_nil)
    (ts_cons (ts_if (TTW.tt (tw_or (tt_cmp (fun _ => (op_eqNilK rfl (Nat.lt_of_succ_lt (Room.u1 hr)))) v_eqNil (tx_im (i := 5) rfl (fun _ => rfl) (fun _ => Or.inl rfl)) (TN.tx (tn_lst ta_nil (lo_nil (S := datR)))) (nomark _)) (tw_or (tt_cmp (fun _ => op_ne) v_neI (tx_lenset (fun _ => rfl) (fun _ => rfl) (fun _ => z_len F) (fun _ => rfl) (fun _ => z_set F) (tx_im (i := 5) rfl (fun _ => rfl) (fun _ => Or.inl rfl))) (tx_callB (fun _ => call_lenK rfl) vc_lenL (fun _ => rfl) (fun _ => z_len F) boot_len (ta_cons (tx_im (i := 5) rfl (fun _ => rfl) (fun _ => Or.inl rfl)) ta_nil)) (nomark _)) (tw_one_or (tt_cmp (fun _ => (op_neNilK rfl (Nat.lt_of_succ_lt (Room.u1 hr)))) v_neNil (TN.tx (tn_comp (bown := [("word", 6)]) (fun _ => rfl) (fun _ => sc_law_weather.nd) (it_list (tx_im (i := 5) rfl (fun _ => rfl) (fun _ => Or.inl rfl))) (fun _ => blkOk_by (own := [("word", 6)]) (N := ["line", "things", "words", "at", "wishes", "later", "word"]) (sc := defScope s_law_weather) (by decide +kernel)) (allB rfl) (by decide) (tgt_name (i := 6) (fun _ => sc_law_weather.nd) (fun _ => rfl) (fun _ => Or.inl rfl) rfl) (tc_one (tt_not (TX.val (tx_call (k := 1) (fun _ => ca_law_is_name F) (mw_law_is_name) (fun _ => hr.mono (by decide)) (fun _ => rfl) (ta_cons (tx_im (i := 6) rfl (fun _ => rfl) (fun _ => by first | exact Or.inl rfl | exact Or.inr (Or.inl rfl) | exact Or.inr (Or.inr rfl))) ta_nil))))) (tx_im (i := 6) rfl (fun _ => rfl) (fun _ => by first | exact Or.inl rfl | exact Or.inr (Or.inl rfl) | exact Or.inr (Or.inr rfl))))) (TN.tx (tn_lst ta_nil (lo_nil (S := datR)))) (nomark _)))))) (ts_cons (ts_ret tx_noneO) ts_nil) ts_nil)
    (ts_cons (ts_ret (tx_someO entR.nn (tx_tup (ta_cons (tx_ix (fun _ => (ix_listK rfl)) v_ixL (tx_im (i := 2) rfl (fun _ => rfl) (fun _ => Or.inl rfl)) tx_int (fun _ _ => rfl)) (ta_cons (tx_callTy (fun _ => call_tuple_ofK rfl) vc_tupL (fun _ => rfl) (fun _ => z_tuple F) (by decide +kernel) (ta_cons (tx_im (i := 4) rfl (fun _ => rfl) (fun _ => Or.inl rfl)) ta_nil)) (ta_cons (tx_ix (fun _ => (ix_listK rfl)) v_ixL (tx_im (i := 2) rfl (fun _ => rfl) (fun _ => Or.inl rfl)) tx_int (fun _ _ => rfl)) (ta_cons (tx_callTy (fun _ => call_tuple_ofK rfl) vc_tupL (fun _ => rfl) (fun _ => z_tuple F) (by decide +kernel) (ta_cons (tx_im (i := 5) rfl (fun _ => rfl) (fun _ => Or.inl rfl)) ta_nil)) ta_nil)))) tu_ent))) ts_nil)))))))) (by first | decide | exact Nat.le_of_ble_eq_true rfl) rfl (by exact h)⟩
noncomputable def w_law_weather := wT ({} : Loc_law_weather) d_law_weather.1
theorem mw_law_weather : ∀ x k k', (∀ y, k y → k' y) → w_law_weather x k → w_law_weather x k' := up_mono
theorem ca_law_weather {P : Program} {ww : World} {K : PySem.W.Frag} {mg : Str → Option Value} {base : Heap} (F : Facts K mg) : Ca P ww K mg base CX0 2 "_law_weather" (spT K (.cons strR (.cons (lstR strR) .nil)) (retI (optR entR)) w_law_weather) := d_law_weather.2 F
structure Loc_law_dueS where
  lines : (List Str) := []
  things : (List Str) := []
  rows : (List Ent) := []
  told : (Option Ent) := none
noncomputable def d_law_dueS : { wb : (Str × Unit) × Loc_law_dueS → Kn ((Str × Unit) × Loc_law_dueS) ((List Int) ⊕ Bs) → Prop // ∀ {P : Program} {ww : World} {K : PySem.W.Frag} {mg : Str → Option Value} {base : Heap}, Facts K mg → Ca P ww K mg base CX0 3 "_law_due" (spT K (.cons strR .nil) (retI (sumR (lstR intR) baseR)) (wT ({} : Loc_law_dueS) wb)) } :=
  ⟨_, fun {P ww K mg base} F => by
    obtain ⟨fd, D⟩ := fun_law_due F
    refine ⟨_, fd, ["text"], D.ok sc_law_due (fun vs H Q E h => spT_len h) (fun cdv A outer s H vs Q E hr h => ?_), D.bindsN fun _ _ _ _ _ _ us hl => match us, hl with | [_], _ => rfl, g__law_due F, D.kp⟩
    have hu := hu_of hr
    refine body_wT (K := K) (A := (.cons strR .nil)) (R := retI (sumR (lstR intR) baseR)) (Λ := Loc_law_dueS) (l0 := {}) (L' := [.im strR (fun e => e.1.1), .im (lstR strR) (fun e => e.2.lines), .im (lstR strR) (fun e => e.2.things), .im (lstR entR) (fun e => e.2.rows), .any, .any, .any, .any, .any]) (n := 8) (ts_cons (ts_if (tt_not (TX.val (tx_isi isi_SS (fun _ => rfl) (fun _ => rfl) (fun _ => z_isinstance F) (fun _ => rfl) (fun _ => z_str F) (by decide +kernel) (by decide +kernel) (tx_im (i := 0) rfl (fun _ => rfl) (fun _ => Or.inl rfl))))) (ts_cons (ts_ret (tx_inl (TN.tx (tn_lst (ta_cons tx_int ta_nil) (lo_cons lo_nil))))) ts_nil) ts_nil)
    (ts_cons (ts_set (i := 1) (set := (fun e y => (e.1, { e.2 with lines := y }))) (L' := [.im strR (fun e => e.1.1), .im (lstR strR) (fun e => e.2.lines), .any, .any, .any, .any, .any, .any, .any]) (fun _ => sc_law_due.nd) (fun _ => rfl) (fun _ => (Or.inl rfl)) (TN.tx (tx_split (tx_im (i := 0) rfl (fun _ => rfl) (fun _ => Or.inl rfl)) tx_str)) (okI_lift rfl) (.im (fun _ => rfl) (.im (fun _ => rfl) (.any rfl (.any rfl (.any rfl (.any rfl (.any rfl (.any rfl (.any rfl .nil))))))))))
    (ts_cons (ts_set (i := 2) (set := (fun e y => (e.1, { e.2 with things := y }))) (L' := [.im strR (fun e => e.1.1), .im (lstR strR) (fun e => e.2.lines), .im (lstR strR) (fun e => e.2.things), .any, .any, .any, .any, .any, .any]) (fun _ => sc_law_due.nd) (fun _ => rfl) (fun _ => (Or.inl rfl)) (TN.tx (tx_split (tx_ix (fun _ => (ix_listK rfl)) v_ixL (tx_im (i := 1) rfl (fun _ => rfl) (fun _ => Or.inl rfl)) tx_int (fun _ _ => rfl)) tx_str)) (okI_lift rfl) (.im (fun _ => rfl) (.im (fun _ => rfl) (.im (fun _ => rfl) (.any rfl (.any rfl (.any rfl (.any rfl (.any rfl (.any rfl .nil))))))))))
    (ts_cons (ts_if (TTW.tt (tw_or (tt_cmp (fun _ => op_ne) v_neS (tx_ix (fun _ => (ix_listK rfl)) v_ixL (tx_im (i := 2) rfl (fun _ => rfl) (fun _ => Or.inl rfl)) tx_int (fun _ _ => rfl)) tx_str (nomark _)) (tw_or (tt_not (tt_chain (fun _ => op_le) (fun _ => op_le) v_B0 v_B0 tx_int (tx_callB (fun _ => call_lenK rfl) vc_lenL (fun _ => rfl) (fun _ => z_len F) boot_len (ta_cons (tx_im (i := 2) rfl (fun _ => rfl) (fun _ => Or.inl rfl)) ta_nil)) tx_int)) (tw_one_or (tt_cmp (fun _ => op_ne) v_neI (tx_lenset (fun _ => rfl) (fun _ => rfl) (fun _ => z_len F) (fun _ => rfl) (fun _ => z_set F) (TN.tx (tn_slice (tx_im (i := 2) rfl (fun _ => rfl) (fun _ => Or.inl rfl)) (to_some tx_int) to_none))) (tx_op (fun _ => op_sub) v_I0 (tx_callB (fun _ => call_lenK rfl) vc_lenL (fun _ => rfl) (fun _ => z_len F) boot_len (ta_cons (tx_im (i := 2) rfl (fun _ => rfl) (fun _ => Or.inl rfl)) ta_nil)) tx_int) (nomark _)))))) (ts_cons (ts_ret (tx_inl (TN.tx (tn_lst (ta_cons tx_int ta_nil) (lo_cons lo_nil))))) ts_nil) ts_nil)
    (ts_cons (ts_if (tt_cmp (fun _ => (op_neNilK rfl (Nat.lt_of_succ_lt (Room.u1 hr)))) v_neNil (TN.tx (tn_comp (bown := [("word", 7)]) (fun _ => rfl) (fun _ => sc_law_due.nd) (it_list (TN.tx (tn_slice (tx_im (i := 2) rfl (fun _ => rfl) (fun _ => Or.inl rfl)) (to_some tx_int) to_none))) (fun _ => blkOk_by (own := [("word", 7)]) (N := ["text", "lines", "things", "rows", "at", "told", "row", "word", "one"]) (sc := defScope s_law_due) (by decide +kernel)) (allB rfl) (by decide) (tgt_name (i := 7) (fun _ => sc_law_due.nd) (fun _ => rfl) (fun _ => Or.inl rfl) rfl) (tc_one (tt_not (TX.val (tx_call (k := 1) (fun _ => ca_law_is_name F) (mw_law_is_name) (fun _ => hr.mono (by decide)) (fun _ => rfl) (ta_cons (tx_im (i := 7) rfl (fun _ => rfl) (fun _ => by first | exact Or.inl rfl | exact Or.inr (Or.inl rfl) | exact Or.inr (Or.inr rfl))) ta_nil))))) (tx_im (i := 7) rfl (fun _ => rfl) (fun _ => by first | exact Or.inl rfl | exact Or.inr (Or.inl rfl) | exact Or.inr (Or.inr rfl))))) (TN.tx (tn_lst ta_nil (lo_nil (S := datR)))) (nomark _)) (ts_cons (ts_ret (tx_inl (TN.tx (tn_lst (ta_cons tx_int ta_nil) (lo_cons lo_nil))))) ts_nil) ts_nil)
    (ts_cons (ts_own (i := 3) (set := (fun e y => (e.1, { e.2 with rows := y }))) (L' := [.im strR (fun e => e.1.1), .im (lstR strR) (fun e => e.2.lines), .im (lstR strR) (fun e => e.2.things), .ow entR (fun e => e.2.rows), .any, .any, .any, .any, .any]) (fun _ => sc_law_due.nd) (fun _ => rfl) (fun _ => (Or.inr rfl)) (tn_lst ta_nil (lo_nil (S := entR))) (okI_lift rfl) (.im (fun _ => rfl) (.im (fun _ => rfl) (.im (fun _ => rfl) (.ow (fun _ => rfl) (.any rfl (.any rfl (.any rfl (.any rfl (.any rfl .nil))))))))))
    (ts_cons (ts_for (fun _ => PassesOwn.never) (fun _ => rfl) (it_range2 (fun _ => rfl) (fun _ => z_range F) (ta_cons tx_int (ta_cons (tx_callB (fun _ => call_lenK rfl) vc_lenL (fun _ => rfl) (fun _ => z_len F) boot_len (ta_cons (tx_im (i := 1) rfl (fun _ => rfl) (fun _ => Or.inl rfl)) ta_nil)) ta_nil))) (tgt_name (i := 4) (fun _ => sc_law_due.nd) (fun _ => rfl) (fun _ => (Or.inl rfl)) rfl)
    (ts_cons (ts_set (i := 5) (set := (fun e y => ((e.1.1, { e.1.2 with told := y }), e.2))) (L' := [.im strR (fun e => e.1.1.1), .im (lstR strR) (fun e => e.1.2.lines), .im (lstR strR) (fun e => e.1.2.things), .ow entR (fun e => e.1.2.rows), .im intR (fun e => e.2), .im (optR entR) (fun e => e.1.2.told), .any, .any, .any]) (fun _ => sc_law_due.nd) (fun _ => rfl) (fun _ => (Or.inl rfl)) (tx_call (k := 2) (fun _ => ca_law_weather F) (mw_law_weather) (fun _ => hr.mono (by decide)) (fun _ => rfl) (ta_cons (tx_ix (fun _ => (ix_listK rfl)) v_ixL (tx_im (i := 1) rfl (fun _ => rfl) (fun _ => Or.inl rfl)) (tx_im (i := 4) rfl (fun _ => rfl) (fun _ => Or.inl rfl)) (fun _ _ => rfl)) (ta_cons (TN.tx (tn_slice (tx_im (i := 2) rfl (fun _ => rfl) (fun _ => Or.inl rfl)) (to_some tx_int) to_none)) ta_nil))) (okI_lift rfl) (.im (fun _ => rfl) (.im (fun _ => rfl) (.im (fun _ => rfl) (.ow (fun _ => rfl) (.im (fun _ => rfl) (.im (fun _ => rfl) (.any rfl (.any rfl (.any rfl .nil))))))))))
    (ts_cons (ts_if (tt_view (L2 := [.im strR (fun e => e.1.1.1), .im (lstR strR) (fun e => e.1.2.lines), .im (lstR strR) (fun e => e.1.2.things), .im (lstR entR) (fun e => e.1.2.rows), .im intR (fun e => e.2), .im (optR entR) (fun e => e.1.2.told), .any, .any, .any]) (.im (fun _ => rfl) (.im (fun _ => rfl) (.im (fun _ => rfl) (.fr (fun _ => rfl) (.im (fun _ => rfl) (.im (fun _ => rfl) (.any rfl (.any rfl (.any rfl .nil))))))))) (TTW.tt (tw_or (tt_cmp (fun _ => op_isN) v_isN (tx_im (i := 5) rfl (fun _ => rfl) (fun _ => Or.inl rfl)) tx_non (nomark _)) (tw_or (tt_cmp (fun _ => (op_in_seqK rfl)) v_inL (tx_prj (n := 0) unp_ent .zero (tx_some (tx_im (i := 5) rfl (fun _ => rfl) (fun _ => Or.inl rfl)))) (TN.tx (tn_comp (bown := [("row", 6)]) (fun _ => rfl) (fun _ => sc_law_due.nd) (it_list (tx_im (i := 3) rfl (fun _ => rfl) (fun _ => Or.inr (Or.inl rfl)))) (fun _ => blkOk_by (own := [("row", 6)]) (N := ["text", "lines", "things", "rows", "at", "told", "row", "word", "one"]) (sc := defScope s_law_due) (by decide +kernel)) (allB rfl) (by decide) (tgt_name (i := 6) (fun _ => sc_law_due.nd) (fun _ => rfl) (fun _ => Or.inl rfl) rfl) tc_no (tx_prj (n := 0) unp_ent .zero (tx_im (i := 6) rfl (fun _ => rfl) (fun _ => by first | exact Or.inl rfl | exact Or.inr (Or.inl rfl) | exact Or.inr (Or.inr rfl)))))) (by rfl)) (tw_one_or (tt_cmp (fun _ => op_eq) v_eqI (tx_callB (fun _ => call_lenK rfl) vc_lenL (fun _ => rfl) (fun _ => z_len F) boot_len (ta_cons (tx_im (i := 3) rfl (fun _ => rfl) (fun _ => Or.inr (Or.inl rfl))) ta_nil)) tx_int (nomark _))))))) (ts_cons (ts_ret (tx_inl (TN.tx (tn_lst (ta_cons (tx_op (fun _ => op_add) v_I0 (tx_im (i := 4) rfl (fun _ => rfl) (fun _ => Or.inl rfl)) tx_int) ta_nil) (lo_cons lo_nil))))) ts_nil) ts_nil)
    (ts_cons (ts_append (i := 3) (set := (fun e y => ((e.1.1, { e.1.2 with rows := y }), e.2))) (L' := [.im strR (fun e => e.1.1.1), .im (lstR strR) (fun e => e.1.2.lines), .im (lstR strR) (fun e => e.1.2.things), .ow entR (fun e => e.1.2.rows), .im intR (fun e => e.2), .im (optR entR) (fun e => e.1.2.told), .any, .any, .any]) rfl (fun _ => rfl) (fun _ => Or.inr (Or.inl rfl)) (tx_some (tx_im (i := 5) rfl (fun _ => rfl) (fun _ => Or.inl rfl))) (.im (fun _ => rfl) (.im (fun _ => rfl) (.im (fun _ => rfl) (.ow (fun _ => rfl) (.im (fun _ => rfl) (.im (fun _ => rfl) (.any rfl (.any rfl (.any rfl .nil)))))))))) ts_nil)))
    (.im (fun _ => rfl) (.im (fun _ => rfl) (.im (fun _ => rfl) (.ow (fun _ => rfl) (.any rfl (.any rfl (.any rfl (.any rfl (.any rfl .nil))))))))))
    (ts_cons (ts_if (tt_view (L2 := [.im strR (fun e => e.1.1), .im (lstR strR) (fun e => e.2.lines), .im (lstR strR) (fun e => e.2.things), .im (lstR entR) (fun e => e.2.rows), .any, .any, .any, .any, .any]) (.im (fun _ => rfl) (.im (fun _ => rfl) (.im (fun _ => rfl) (.fr (fun _ => rfl) (.any rfl (.any rfl (.any rfl (.any rfl (.any rfl .nil))))))))) (tt_cmp (fun _ => (op_eqNilK rfl (Nat.lt_of_succ_lt (Room.u1 hr)))) v_eqNil (tx_im (i := 3) rfl (fun _ => rfl) (fun _ => Or.inr (Or.inl rfl))) (TN.tx (tn_lst ta_nil (lo_nil (S := datR)))) (nomark _))) (ts_cons (ts_ret (tx_inl (TN.tx (tn_lst (ta_cons tx_int ta_nil) (lo_cons lo_nil))))) ts_nil) ts_nil)
    (ts_cons (TS1.pre (L := [.im strR (fun e => e.1.1), .im (lstR strR) (fun e => e.2.lines), .im (lstR strR) (fun e => e.2.things), .im (lstR entR) (fun e => e.2.rows), .any, .any, .any, .any, .any]) (.im (fun _ => rfl) (.im (fun _ => rfl) (.im (fun _ => rfl) (.fr (fun _ => rfl) (.any rfl (.any rfl (.any rfl (.any rfl (.any rfl .nil))))))))) (ts_for (fun _ => PassesOwn.never) (fun _ => rfl) (it_enum (fun _ => rfl) (fun _ => z_enumerate F) (tx_im (i := 3) rfl (fun _ => rfl) (fun _ => Or.inr (Or.inl rfl)))) (tgt_tup (is := [4, 6]) unp_pr (fun _ => (pgs_cons (pg_name (i := 4) sc_law_due.nd rfl (Or.inl rfl)) (pgs_cons (pg_name (i := 6) sc_law_due.nd rfl (Or.inl rfl)) pgs_nil))) (fun _ => rfl) rfl (allB rfl))
    (ts_cons (ts_if (tt_cmp (fun _ => (op_neNilK rfl (Nat.lt_of_succ_lt (Room.u1 hr)))) v_neNil (TN.tx (tn_comp (bown := [("word", 7)]) (fun _ => rfl) (fun _ => sc_law_due.nd) (it_tup (tx_prj (n := 3) unp_ent (.succ (.succ (.succ .zero))) (tx_im (i := 6) rfl (fun _ => rfl) (fun _ => Or.inl rfl)))) (fun _ => blkOk_by (own := [("word", 7)]) (N := ["text", "lines", "things", "rows", "at", "told", "row", "word", "one"]) (sc := defScope s_law_due) (by decide +kernel)) (allB rfl) (by decide) (tgt_name (i := 7) (fun _ => sc_law_due.nd) (fun _ => rfl) (fun _ => Or.inl rfl) rfl) (tc_one (tt_cmp (fun _ => (op_notIn_seqK rfl)) v_ninL (tx_im (i := 7) rfl (fun _ => rfl) (fun _ => by first | exact Or.inl rfl | exact Or.inr (Or.inl rfl) | exact Or.inr (Or.inr rfl))) (TN.tx (tn_comp (bown := [("one", 8)]) (fun _ => rfl) (fun _ => sc_law_due.nd) (it_list (tx_im (i := 3) rfl (fun _ => rfl) (fun _ => by first | exact Or.inl rfl | exact Or.inr (Or.inl rfl) | exact Or.inr (Or.inr rfl)))) (fun _ => blkOk_by (own := [("one", 8)]) (N := ["text", "lines", "things", "rows", "at", "told", "row", "word", "one"]) (by rfl)) (allB rfl) (by decide) (tgt_name (i := 8) (fun _ => sc_law_due.nd) (fun _ => rfl) (fun _ => Or.inl rfl) rfl) tc_no (tx_prj (n := 0) unp_ent .zero (tx_im (i := 8) rfl (fun _ => rfl) (fun _ => by first | exact Or.inl rfl | exact Or.inr (Or.inl rfl) | exact Or.inr (Or.inr rfl)))))) (by rfl))) (tx_im (i := 7) rfl (fun _ => rfl) (fun _ => by first | exact Or.inl rfl | exact Or.inr (Or.inl rfl) | exact Or.inr (Or.inr rfl))))) (TN.tx (tn_lst ta_nil (lo_nil (S := datR)))) (nomark _)) (ts_cons (ts_ret (tx_inl (TN.tx (tn_lst (ta_cons (tx_op (fun _ => op_add) v_I0 (tx_im (i := 4) rfl (fun _ => rfl) (fun _ => Or.inl rfl)) tx_int) ta_nil) (lo_cons lo_nil))))) ts_nil) ts_nil) ts_nil)
    (.im (fun _ => rfl) (.im (fun _ => rfl) (.im (fun _ => rfl) (.im (fun _ => rfl) (.any rfl (.any rfl (.any rfl (.any rfl (.any rfl .nil)))))))))))
    (ts_cons (ts_ret (tx_inr (tx_tup (ta_cons (tx_callTy (fun _ => call_tuple_ofK rfl) vc_tupL (fun _ => rfl) (fun _ => z_tuple F) (by decide +kernel) (ta_cons (TN.tx (tn_slice (tx_im (i := 2) rfl (fun _ => rfl) (fun _ => Or.inl rfl)) (to_some tx_int) to_none)) ta_nil)) (ta_cons (tx_callTy (fun _ => call_tuple_ofK rfl) vc_tupL (fun _ => rfl) (fun _ => z_tuple F) (by decide +kernel) (ta_cons (tx_im (i := 3) rfl (fun _ => rfl) (fun _ => Or.inr (Or.inl rfl))) ta_nil)) ta_nil)) tu_base))) ts_nil)))))))))) (by first | decide | exact Nat.le_of_ble_eq_true rfl) rfl (by exact h)⟩
noncomputable def w_law_dueS := wT ({} : Loc_law_dueS) d_law_dueS.1
theorem mw_law_dueS : ∀ x k k', (∀ y, k y → k' y) → w_law_dueS x k → w_law_dueS x k' := up_mono
theorem ca_law_dueS {P : Program} {ww : World} {K : PySem.W.Frag} {mg : Str → Option Value} {base : Heap} (F : Facts K mg) : Ca P ww K mg base CX0 3 "_law_due" (spT K (.cons strR .nil) (retI (sumR (lstR intR) baseR)) w_law_dueS) := d_law_dueS.2 F
abbrev Loc_law_dueW := Unit
noncomputable def d_law_dueW : { wb : ((V × PyData) × Unit) × Loc_law_dueW → Kn (((V × PyData) × Unit) × Loc_law_dueW) ((List Int) ⊕ Bs) → Prop // ∀ {P : Program} {ww : World} {K : PySem.W.Frag} {mg : Str → Option Value} {base : Heap}, Facts K mg → Ca P ww K mg base CX0 3 "_law_due" (spT K (.cons vdR .nil) (retI (sumR (lstR intR) baseR)) (wT (() : Loc_law_dueW) wb)) } :=
  ⟨_, fun {P ww K mg base} F => by
    obtain ⟨fd, D⟩ := fun_law_due F
    refine ⟨_, fd, ["text"], D.ok sc_law_due (fun vs H Q E h => spT_len h) (fun cdv A outer s H vs Q E hr h => ?_), D.bindsN fun _ _ _ _ _ _ us hl => match us, hl with | [_], _ => rfl, g__law_due F, D.kp⟩
    have hu := hu_of hr
    refine body_wT (K := K) (A := (.cons vdR .nil)) (R := retI (sumR (lstR intR) baseR)) (Λ := Loc_law_dueW) (l0 := ()) (L' := [.im vdR (fun e => e.1.1), .any, .any, .any, .any, .any, .any, .any, .any]) (n := 8) (ts_cons (ts_if (tt_not (TX.val (tx_isi (isi_dS isd_vd) (fun _ => rfl) (fun _ => rfl) (fun _ => z_isinstance F) (fun _ => rfl) (fun _ => z_str F) (by decide +kernel) (by decide +kernel) (tx_im (i := 0) rfl (fun _ => rfl) (fun _ => Or.inl rfl))))) (ts_cons (ts_ret (tx_inl (TN.tx (tn_lst (ta_cons tx_int ta_nil) (lo_cons lo_nil))))) ts_nil) ts_nil) ts_any) (by first | decide | exact Nat.le_of_ble_eq_true rfl) rfl (by exact h)⟩
noncomputable def w_law_dueW := wT (() : Loc_law_dueW) d_law_dueW.1
theorem mw_law_dueW : ∀ x k k', (∀ y, k y → k' y) → w_law_dueW x k → w_law_dueW x k' := up_mono
theorem ca_law_dueW {P : Program} {ww : World} {K : PySem.W.Frag} {mg : Str → Option Value} {base : Heap} (F : Facts K mg) : Ca P ww K mg base CX0 3 "_law_due" (spT K (.cons vdR .nil) (retI (sumR (lstR intR) baseR)) w_law_dueW) := d_law_dueW.2 F
abbrev Loc_law_toldS := Unit
noncomputable def d_law_toldS : { wb : (Str × Unit) × Loc_law_toldS → Kn ((Str × Unit) × Loc_law_toldS) ((List V) ⊕ Bs) → Prop // ∀ {P : Program} {ww : World} {K : PySem.W.Frag} {mg : Str → Option Value} {base : Heap}, Facts K mg → Ca P ww K mg base CX0 8 "_law_told" (spT K (.cons strR .nil) (retI (sumR (lstR vR) menuR)) (wT (() : Loc_law_toldS) wb)) } :=
  ⟨_, fun {P ww K mg base} F => by
    obtain ⟨fd, D⟩ := fun_law_told F
    refine ⟨_, fd, ["text"], D.ok sc_law_told (fun vs H Q E h => spT_len h) (fun cdv A outer s H vs Q E hr h => ?_), D.bindsN fun _ _ _ _ _ _ us hl => match us, hl with | [_], _ => rfl, g__law_told F, D.kp⟩
    have hu := hu_of hr
    refine body_wT (K := K) (A := (.cons strR .nil)) (R := retI (sumR (lstR vR) menuR)) (Λ := Loc_law_toldS) (l0 := ()) (L' := [.im strR (fun e => e.1.1), .any]) (n := 1) (ts_cons (ts_try (i := 1) (f := "line") (L' := [.im strR (fun e => e.1.1), .any]) rfl rfl sc_law_told.nd rfl rfl ⟨rfl, by decide, .inl (g_BadText F)⟩ rfl (exm_BadText F) rfl (okI_lift rfl) (fun W => ⟨_, (tst_ret (txx_inr (txx_call (k := 7) (fun _ => ca_read_menu F) (mw_read_menu) (fun _ => hr.mono (by decide)) (fun _ => rfl) (fun i => trF.takes i) (ta_cons (tx_im (i := 0) rfl (fun _ => rfl) (fun _ => Or.inl rfl)) ta_nil)))), rfl⟩)
    (fun a cls d => ⟨[.im strR (fun e => e.1.1.1), .im (errR a (He.ga K "BadText") cls d "line") (fun e => e.2)], _, (ts_cons (ts_ret (tx_inl (TN.tx (tn_lst (ta_cons (tx_errV (i := 1) rfl (exb_BadText F).X (exb_BadText F).no rfl rfl (Or.inl rfl)) ta_nil) (lo_cons lo_nil))))) ts_nil), (.im (fun _ => rfl) (.any rfl .nil)), rfl⟩)) ts_nil) (by first | decide | exact Nat.le_of_ble_eq_true rfl) rfl (by exact h)⟩
noncomputable def w_law_toldS := wT (() : Loc_law_toldS) d_law_toldS.1
theorem mw_law_toldS : ∀ x k k', (∀ y, k y → k' y) → w_law_toldS x k → w_law_toldS x k' := up_mono
theorem ca_law_toldS {P : Program} {ww : World} {K : PySem.W.Frag} {mg : Str → Option Value} {base : Heap} (F : Facts K mg) : Ca P ww K mg base CX0 8 "_law_told" (spT K (.cons strR .nil) (retI (sumR (lstR vR) menuR)) w_law_toldS) := d_law_toldS.2 F
abbrev Loc_law_toldW := Unit
noncomputable def d_law_toldW : { wb : ((V × PyData) × Unit) × Loc_law_toldW → Kn (((V × PyData) × Unit) × Loc_law_toldW) ((List V) ⊕ Bs) → Prop // ∀ {P : Program} {ww : World} {K : PySem.W.Frag} {mg : Str → Option Value} {base : Heap}, Facts K mg → Ca P ww K mg base CX0 8 "_law_told" (spT K (.cons vdR .nil) (retI (sumR (lstR vR) menuR)) (wT (() : Loc_law_toldW) wb)) } :=
  ⟨_, fun {P ww K mg base} F => by
    obtain ⟨fd, D⟩ := fun_law_told F
    refine ⟨_, fd, ["text"], D.ok sc_law_told (fun vs H Q E h => spT_len h) (fun cdv A outer s H vs Q E hr h => ?_), D.bindsN fun _ _ _ _ _ _ us hl => match us, hl with | [_], _ => rfl, g__law_told F, D.kp⟩
    have hu := hu_of hr
    refine body_wT (K := K) (A := (.cons vdR .nil)) (R := retI (sumR (lstR vR) menuR)) (Λ := Loc_law_toldW) (l0 := ()) (L' := [.im vdR (fun e => e.1.1), .any]) (n := 1) (ts_cons (ts_try (i := 1) (f := "line") (L' := [.im vdR (fun e => e.1.1), .any]) rfl rfl sc_law_told.nd rfl rfl ⟨rfl, by decide, .inl (g_BadText F)⟩ rfl (exm_BadText F) rfl (okI_lift rfl) (fun W => ⟨_, (tst_ret (txx_inr (txx_call (k := 7) (fun _ => ca_read_menuW F) (mw_read_menuW) (fun _ => hr.mono (by decide)) (fun _ => rfl) (fun i => trF.takes i) (ta_cons (tx_im (i := 0) rfl (fun _ => rfl) (fun _ => Or.inl rfl)) ta_nil)))), rfl⟩)
    (fun a cls d => ⟨[.im vdR (fun e => e.1.1.1), .im (errR a (He.ga K "BadText") cls d "line") (fun e => e.2)], _, (ts_cons (ts_ret (tx_inl (TN.tx (tn_lst (ta_cons (tx_errV (i := 1) rfl (exb_BadText F).X (exb_BadText F).no rfl rfl (Or.inl rfl)) ta_nil) (lo_cons lo_nil))))) ts_nil), (.im (fun _ => rfl) (.any rfl .nil)), rfl⟩)) ts_nil) (by first | decide | exact Nat.le_of_ble_eq_true rfl) rfl (by exact h)⟩
noncomputable def w_law_toldW := wT (() : Loc_law_toldW) d_law_toldW.1
theorem mw_law_toldW : ∀ x k k', (∀ y, k y → k' y) → w_law_toldW x k → w_law_toldW x k' := up_mono
theorem ca_law_toldW {P : Program} {ww : World} {K : PySem.W.Frag} {mg : Str → Option Value} {base : Heap} (F : Facts K mg) : Ca P ww K mg base CX0 8 "_law_told" (spT K (.cons vdR .nil) (retI (sumR (lstR vR) menuR)) w_law_toldW) := d_law_toldW.2 F
structure Loc_law_bent where
  at_ : Int := 0
  sign : Str := ""
  lines : (List Str) := []
  spot : Int := 0
  words : (List Str) := []
  place : Int := 0
  word : Str := ""
  rows : (List (List Str)) := []
  some : (List Str) := []
noncomputable def d_law_bent : { wb : (Str × Unit) × Loc_law_bent → Kn ((Str × Unit) × Loc_law_bent) Str → Prop // ∀ {P : Program} {ww : World} {K : PySem.W.Frag} {mg : Str → Option Value} {base : Heap}, Facts K mg → Ca P ww K mg base CX0 3 "_law_bent" (spT K (.src (.cons strR .nil)) (retI strR) (wT ({} : Loc_law_bent) wb)) } :=
  ⟨_, fun {P ww K mg base} F => by
    obtain ⟨fd, D⟩ := fun_law_bent F
    refine ⟨_, fd, ["source", "text"], D.ok sc_law_bent (fun vs H Q E h => spT_len h) (fun cdv A outer s H vs Q E hr h => ?_), D.bindsN fun _ _ _ _ _ _ us hl => match us, hl with | [_, _], _ => rfl, g__law_bent F, D.kp⟩
    have hu := hu_of hr
    refine body_wT (K := K) (A := (.src (.cons strR .nil))) (R := retI strR) (Λ := Loc_law_bent) (l0 := {}) (L' := [.sr, .im strR (fun e => e.1.1), .im (lstR strR) (fun e => e.2.lines), .im intR (fun e => e.2.spot), .im (lstR strR) (fun e => e.2.words), .im intR (fun e => e.2.place), .im strR (fun e => e.2.word), .im (lstR (lstR strR)) (fun e => e.2.rows), .im (lstR strR) (fun e => e.2.some), .im intR (fun e => e.2.at_), .im strR (fun e => e.2.sign), .any]) (n := 10) (ts_cons (ts_parII (i := 9) (j := 10) (set := fun e y => (e.1, { e.2 with at_ := y.1, sign := y.2 })) (L' := [.sr, .im strR (fun e => e.1.1), .any, .any, .any, .any, .any, .any, .any, .im intR (fun e => e.2.at_), .im strR (fun e => e.2.sign), .any]) (fun _ => rfl) (fun _ => sc_law_bent.nd) (fun _ => rfl) (fun _ => rfl) (by decide) (fun _ => rfl) (fun _ => rfl) (tx_call (k := 1) (fun _ => ca_imp (ca_law_draw F) b_draw) (wDraw_mono) (fun _ => hr.mono (by decide)) (fun _ => rfl) (ta_src (i := 0) rfl (fun _ => rfl) (fun _ => Or.inl rfl) (ta_cons (tx_op (fun _ => op_add) v_I0 (tx_callB (fun _ => call_lenK rfl) vc_lenS (fun _ => rfl) (fun _ => z_len F) boot_len (ta_cons (tx_im (i := 1) rfl (fun _ => rfl) (fun _ => Or.inl rfl)) ta_nil)) tx_int) ta_nil))) (tx_call (k := 2) (fun _ => ca_imp (ca_law_pick F) b_pickS) (wPickS_mono) (fun _ => hr.mono (by decide)) (fun _ => rfl) (ta_src (i := 0) rfl (fun _ => rfl) (fun _ => Or.inl rfl) (ta_cons tx_str ta_nil))) rfl rfl (.sr (.im (fun _ => rfl) (.any rfl (.any rfl (.any rfl (.any rfl (.any rfl (.any rfl (.any rfl (.im (fun _ => rfl) (.im (fun _ => rfl) (.any rfl .nil)))))))))))) (by intro _; rfl))
    (ts_cons (ts_set (i := 2) (set := (fun e y => (e.1, { e.2 with lines := y }))) (L' := [.sr, .im strR (fun e => e.1.1), .im (lstR strR) (fun e => e.2.lines), .any, .any, .any, .any, .any, .any, .im intR (fun e => e.2.at_), .im strR (fun e => e.2.sign), .any]) (fun _ => sc_law_bent.nd) (fun _ => rfl) (fun _ => (Or.inl rfl)) (TN.tx (tx_split (tx_im (i := 1) rfl (fun _ => rfl) (fun _ => Or.inl rfl)) tx_str)) (okI_lift rfl) (.sr (.im (fun _ => rfl) (.im (fun _ => rfl) (.any rfl (.any rfl (.any rfl (.any rfl (.any rfl (.any rfl (.im (fun _ => rfl) (.im (fun _ => rfl) (.any rfl .nil)))))))))))))
    (ts_cons (ts_set (i := 3) (set := (fun e y => (e.1, { e.2 with spot := y }))) (L' := [.sr, .im strR (fun e => e.1.1), .im (lstR strR) (fun e => e.2.lines), .im intR (fun e => e.2.spot), .any, .any, .any, .any, .any, .im intR (fun e => e.2.at_), .im strR (fun e => e.2.sign), .any]) (fun _ => sc_law_bent.nd) (fun _ => rfl) (fun _ => (Or.inl rfl)) (tx_call (k := 1) (fun _ => ca_imp (ca_law_draw F) b_draw) (wDraw_mono) (fun _ => hr.mono (by decide)) (fun _ => rfl) (ta_src (i := 0) rfl (fun _ => rfl) (fun _ => Or.inl rfl) (ta_cons (tx_callB (fun _ => call_lenK rfl) vc_lenL (fun _ => rfl) (fun _ => z_len F) boot_len (ta_cons (tx_im (i := 2) rfl (fun _ => rfl) (fun _ => Or.inl rfl)) ta_nil)) ta_nil))) (okI_lift rfl) (.sr (.im (fun _ => rfl) (.im (fun _ => rfl) (.im (fun _ => rfl) (.any rfl (.any rfl (.any rfl (.any rfl (.any rfl (.im (fun _ => rfl) (.im (fun _ => rfl) (.any rfl .nil)))))))))))))
    (ts_cons (ts_set (i := 4) (set := (fun e y => (e.1, { e.2 with words := y }))) (L' := [.sr, .im strR (fun e => e.1.1), .im (lstR strR) (fun e => e.2.lines), .im intR (fun e => e.2.spot), .im (lstR strR) (fun e => e.2.words), .any, .any, .any, .any, .im intR (fun e => e.2.at_), .im strR (fun e => e.2.sign), .any]) (fun _ => sc_law_bent.nd) (fun _ => rfl) (fun _ => (Or.inl rfl)) (TN.tx (tx_split (tx_ix (fun _ => (ix_listK rfl)) v_ixL (tx_im (i := 2) rfl (fun _ => rfl) (fun _ => Or.inl rfl)) (tx_im (i := 3) rfl (fun _ => rfl) (fun _ => Or.inl rfl)) (fun _ _ => rfl)) tx_str)) (okI_lift rfl) (.sr (.im (fun _ => rfl) (.im (fun _ => rfl) (.im (fun _ => rfl) (.im (fun _ => rfl) (.any rfl (.any rfl (.any rfl (.any rfl (.im (fun _ => rfl) (.im (fun _ => rfl) (.any rfl .nil)))))))))))))
    (ts_cons (ts_set (i := 5) (set := (fun e y => (e.1, { e.2 with place := y }))) (L' := [.sr, .im strR (fun e => e.1.1), .im (lstR strR) (fun e => e.2.lines), .im intR (fun e => e.2.spot), .im (lstR strR) (fun e => e.2.words), .im intR (fun e => e.2.place), .any, .any, .any, .im intR (fun e => e.2.at_), .im strR (fun e => e.2.sign), .any]) (fun _ => sc_law_bent.nd) (fun _ => rfl) (fun _ => (Or.inl rfl)) (tx_call (k := 1) (fun _ => ca_imp (ca_law_draw F) b_draw) (wDraw_mono) (fun _ => hr.mono (by decide)) (fun _ => rfl) (ta_src (i := 0) rfl (fun _ => rfl) (fun _ => Or.inl rfl) (ta_cons (tx_op (fun _ => op_add) v_I0 (tx_callB (fun _ => call_lenK rfl) vc_lenL (fun _ => rfl) (fun _ => z_len F) boot_len (ta_cons (tx_im (i := 4) rfl (fun _ => rfl) (fun _ => Or.inl rfl)) ta_nil)) tx_int) ta_nil))) (okI_lift rfl) (.sr (.im (fun _ => rfl) (.im (fun _ => rfl) (.im (fun _ => rfl) (.im (fun _ => rfl) (.im (fun _ => rfl) (.any rfl (.any rfl (.any rfl (.im (fun _ => rfl) (.im (fun _ => rfl) (.any rfl .nil)))))))))))))
    (ts_cons (ts_set (i := 6) (set := (fun e y => (e.1, { e.2 with word := y }))) (L' := [.sr, .im strR (fun e => e.1.1), .im (lstR strR) (fun e => e.2.lines), .im intR (fun e => e.2.spot), .im (lstR strR) (fun e => e.2.words), .im intR (fun e => e.2.place), .im strR (fun e => e.2.word), .any, .any, .im intR (fun e => e.2.at_), .im strR (fun e => e.2.sign), .any]) (fun _ => sc_law_bent.nd) (fun _ => rfl) (fun _ => (Or.inl rfl)) (tx_call (k := 2) (fun _ => ca_imp (ca_law_pick F) b_pick) (wPick_mono) (fun _ => hr.mono (by decide)) (fun _ => rfl) (ta_src (i := 0) rfl (fun _ => rfl) (fun _ => Or.inl rfl) (ta_cons (TN.tx (tn_lst (ta_cons tx_str (ta_cons tx_str (ta_cons tx_str (ta_cons tx_str (ta_cons tx_str (ta_cons tx_str (ta_cons tx_str (ta_cons tx_str (ta_cons tx_str (ta_cons (tx_ix (fun _ => (ix_listK rfl)) v_ixL (tx_im (i := 4) rfl (fun _ => rfl) (fun _ => Or.inl rfl)) tx_int (fun _ _ => rfl)) (ta_cons (tx_ix (fun _ => (ix_listK rfl)) v_ixL (tx_im (i := 4) rfl (fun _ => rfl) (fun _ => Or.inl rfl)) (tx_neg tx_int) (fun _ _ => rfl)) ta_nil))))))))))) (lo_cons (lo_cons (lo_cons (lo_cons (lo_cons (lo_cons (lo_cons (lo_cons (lo_cons (lo_cons (lo_cons lo_nil))))))))))))) ta_nil))) (okI_lift rfl) (.sr (.im (fun _ => rfl) (.im (fun _ => rfl) (.im (fun _ => rfl) (.im (fun _ => rfl) (.im (fun _ => rfl) (.im (fun _ => rfl) (.any rfl (.any rfl (.im (fun _ => rfl) (.im (fun _ => rfl) (.any rfl .nil)))))))))))))
    (ts_cons (ts_set (i := 4) (set := (fun e y => (e.1, { e.2 with words := y }))) (L' := [.sr, .im strR (fun e => e.1.1), .im (lstR strR) (fun e => e.2.lines), .im intR (fun e => e.2.spot), .im (lstR strR) (fun e => e.2.words), .im intR (fun e => e.2.place), .im strR (fun e => e.2.word), .any, .any, .im intR (fun e => e.2.at_), .im strR (fun e => e.2.sign), .any]) (fun _ => sc_law_bent.nd) (fun _ => rfl) (fun _ => (Or.inl rfl)) (TN.tx (tn_op (fun _ => op_cat) v_cat (TN.tx (tn_op (fun _ => op_cat) v_cat (TN.tx (tn_slice (tx_im (i := 4) rfl (fun _ => rfl) (fun _ => Or.inl rfl)) to_none (to_some (tx_im (i := 5) rfl (fun _ => rfl) (fun _ => Or.inl rfl))))) (TN.tx (tn_lst (ta_cons (tx_im (i := 6) rfl (fun _ => rfl) (fun _ => Or.inl rfl)) ta_nil) (lo_cons lo_nil))))) (TN.tx (tn_slice (tx_im (i := 4) rfl (fun _ => rfl) (fun _ => Or.inl rfl)) (to_some (tx_op (fun _ => op_add) v_I0 (tx_im (i := 5) rfl (fun _ => rfl) (fun _ => Or.inl rfl)) (tx_call (k := 1) (fun _ => ca_imp (ca_law_draw F) b_draw) (wDraw_mono) (fun _ => hr.mono (by decide)) (fun _ => rfl) (ta_src (i := 0) rfl (fun _ => rfl) (fun _ => Or.inl rfl) (ta_cons tx_int ta_nil))))) to_none)))) (okI_lift rfl) (.sr (.im (fun _ => rfl) (.im (fun _ => rfl) (.im (fun _ => rfl) (.im (fun _ => rfl) (.im (fun _ => rfl) (.im (fun _ => rfl) (.any rfl (.any rfl (.im (fun _ => rfl) (.im (fun _ => rfl) (.any rfl .nil)))))))))))))
    (ts_cons (ts_set (i := 7) (set := (fun e y => (e.1, { e.2 with rows := y }))) (L' := [.sr, .im strR (fun e => e.1.1), .im (lstR strR) (fun e => e.2.lines), .im intR (fun e => e.2.spot), .im (lstR strR) (fun e => e.2.words), .im intR (fun e => e.2.place), .im strR (fun e => e.2.word), .im (lstR (lstR strR)) (fun e => e.2.rows), .any, .im intR (fun e => e.2.at_), .im strR (fun e => e.2.sign), .any]) (fun _ => sc_law_bent.nd) (fun _ => rfl) (fun _ => (Or.inl rfl)) (TN.tx (tn_lst (ta_cons (TN.tx (tn_op (fun _ => op_cat) v_cat (TN.tx (tn_op (fun _ => op_cat) v_cat (TN.tx (tn_slice (tx_im (i := 2) rfl (fun _ => rfl) (fun _ => Or.inl rfl)) to_none (to_some (tx_im (i := 3) rfl (fun _ => rfl) (fun _ => Or.inl rfl))))) (TN.tx (tn_lst (ta_cons (tx_join tx_str (tx_im (i := 4) rfl (fun _ => rfl) (fun _ => Or.inl rfl))) ta_nil) (lo_cons lo_nil))))) (TN.tx (tn_slice (tx_im (i := 2) rfl (fun _ => rfl) (fun _ => Or.inl rfl)) (to_some (tx_op (fun _ => op_add) v_I0 (tx_im (i := 3) rfl (fun _ => rfl) (fun _ => Or.inl rfl)) tx_int)) to_none)))) (ta_cons (TN.tx (tn_op (fun _ => op_cat) v_cat (TN.tx (tn_op (fun _ => op_cat) v_cat (TN.tx (tn_slice (tx_im (i := 2) rfl (fun _ => rfl) (fun _ => Or.inl rfl)) to_none (to_some (tx_im (i := 3) rfl (fun _ => rfl) (fun _ => Or.inl rfl))))) (TN.tx (tn_lst (ta_cons (tx_join tx_str (tx_im (i := 4) rfl (fun _ => rfl) (fun _ => Or.inl rfl))) ta_nil) (lo_cons lo_nil))))) (TN.tx (tn_slice (tx_im (i := 2) rfl (fun _ => rfl) (fun _ => Or.inl rfl)) (to_some (tx_im (i := 3) rfl (fun _ => rfl) (fun _ => Or.inl rfl))) to_none)))) ta_nil)) (lo_cons (lo_cons lo_nil)))) (okI_lift rfl) (.sr (.im (fun _ => rfl) (.im (fun _ => rfl) (.im (fun _ => rfl) (.im (fun _ => rfl) (.im (fun _ => rfl) (.im (fun _ => rfl) (.im (fun _ => rfl) (.any rfl (.im (fun _ => rfl) (.im (fun _ => rfl) (.any rfl .nil)))))))))))))
    (ts_cons (ts_set (i := 7) (set := (fun e y => (e.1, { e.2 with rows := y }))) (L' := [.sr, .im strR (fun e => e.1.1), .im (lstR strR) (fun e => e.2.lines), .im intR (fun e => e.2.spot), .im (lstR strR) (fun e => e.2.words), .im intR (fun e => e.2.place), .im strR (fun e => e.2.word), .im (lstR (lstR strR)) (fun e => e.2.rows), .any, .im intR (fun e => e.2.at_), .im strR (fun e => e.2.sign), .any]) (fun _ => sc_law_bent.nd) (fun _ => rfl) (fun _ => (Or.inl rfl)) (TN.tx (tn_op (fun _ => op_cat) v_cat (tx_im (i := 7) rfl (fun _ => rfl) (fun _ => Or.inl rfl)) (TN.tx (tn_lst (ta_cons (TN.tx (tn_op (fun _ => op_cat) v_cat (TN.tx (tn_slice (tx_im (i := 2) rfl (fun _ => rfl) (fun _ => Or.inl rfl)) to_none (to_some (tx_im (i := 3) rfl (fun _ => rfl) (fun _ => Or.inl rfl))))) (TN.tx (tn_slice (tx_im (i := 2) rfl (fun _ => rfl) (fun _ => Or.inl rfl)) (to_some (tx_op (fun _ => op_add) v_I0 (tx_im (i := 3) rfl (fun _ => rfl) (fun _ => Or.inl rfl)) tx_int)) to_none)))) (ta_cons (TN.tx (tn_op (fun _ => op_cat) v_cat (tx_im (i := 2) rfl (fun _ => rfl) (fun _ => Or.inl rfl)) (TN.tx (tn_slice (tx_im (i := 2) rfl (fun _ => rfl) (fun _ => Or.inl rfl)) (to_some (tx_neg tx_int)) to_none)))) (ta_cons (TN.tx (tn_op (fun _ => op_cat) v_cat (tx_im (i := 2) rfl (fun _ => rfl) (fun _ => Or.inl rfl)) (TN.tx (tn_lst (ta_cons tx_str ta_nil) (lo_cons lo_nil))))) (ta_cons (TN.tx (tn_revL (tx_im (i := 2) rfl (fun _ => rfl) (fun _ => Or.inl rfl)))) ta_nil)))) (lo_cons (lo_cons (lo_cons (lo_cons lo_nil)))))))) (okI_lift rfl) (.sr (.im (fun _ => rfl) (.im (fun _ => rfl) (.im (fun _ => rfl) (.im (fun _ => rfl) (.im (fun _ => rfl) (.im (fun _ => rfl) (.im (fun _ => rfl) (.any rfl (.im (fun _ => rfl) (.im (fun _ => rfl) (.any rfl .nil)))))))))))))
    (ts_cons (ts_set (i := 8) (set := (fun e y => (e.1, { e.2 with some := y }))) (L' := [.sr, .im strR (fun e => e.1.1), .im (lstR strR) (fun e => e.2.lines), .im intR (fun e => e.2.spot), .im (lstR strR) (fun e => e.2.words), .im intR (fun e => e.2.place), .im strR (fun e => e.2.word), .im (lstR (lstR strR)) (fun e => e.2.rows), .im (lstR strR) (fun e => e.2.some), .im intR (fun e => e.2.at_), .im strR (fun e => e.2.sign), .any]) (fun _ => sc_law_bent.nd) (fun _ => rfl) (fun _ => (Or.inl rfl)) (TN.tx (tn_lst (ta_cons (tx_op (fun _ => op_add_str) v_addS (tx_op (fun _ => op_add_str) v_addS (tx_sliceS (tx_im (i := 1) rfl (fun _ => rfl) (fun _ => Or.inl rfl)) to_none (to_some (tx_im (i := 9) rfl (fun _ => rfl) (fun _ => Or.inl rfl)))) (tx_im (i := 10) rfl (fun _ => rfl) (fun _ => Or.inl rfl))) (tx_sliceS (tx_im (i := 1) rfl (fun _ => rfl) (fun _ => Or.inl rfl)) (to_some (tx_im (i := 9) rfl (fun _ => rfl) (fun _ => Or.inl rfl))) to_none)) (ta_cons (tx_op (fun _ => op_add_str) v_addS (tx_sliceS (tx_im (i := 1) rfl (fun _ => rfl) (fun _ => Or.inl rfl)) to_none (to_some (tx_im (i := 9) rfl (fun _ => rfl) (fun _ => Or.inl rfl)))) (tx_sliceS (tx_im (i := 1) rfl (fun _ => rfl) (fun _ => Or.inl rfl)) (to_some (tx_op (fun _ => op_add) v_I0 (tx_im (i := 9) rfl (fun _ => rfl) (fun _ => Or.inl rfl)) tx_int)) to_none)) ta_nil)) (lo_cons (lo_cons lo_nil)))) (okI_lift rfl) (.sr (.im (fun _ => rfl) (.im (fun _ => rfl) (.im (fun _ => rfl) (.im (fun _ => rfl) (.im (fun _ => rfl) (.im (fun _ => rfl) (.im (fun _ => rfl) (.im (fun _ => rfl) (.im (fun _ => rfl) (.im (fun _ => rfl) (.any rfl .nil)))))))))))))
    (ts_cons (ts_ret (tx_call (k := 2) (fun _ => ca_imp (ca_law_pick F) b_pick) (wPick_mono) (fun _ => hr.mono (by decide)) (fun _ => rfl) (ta_src (i := 0) rfl (fun _ => rfl) (fun _ => Or.inl rfl) (ta_cons (TN.tx (tn_op (fun _ => op_cat) v_cat (tx_im (i := 8) rfl (fun _ => rfl) (fun _ => Or.inl rfl)) (TN.tx (tn_comp (bown := [("row", 11)]) (fun _ => rfl) (fun _ => sc_law_bent.nd) (it_list (tx_im (i := 7) rfl (fun _ => rfl) (fun _ => Or.inl rfl))) (fun _ => blkOk_by (own := [("row", 11)]) (N := ["source", "text", "lines", "spot", "words", "place", "word", "rows", "some", "at", "sign", "row"]) (sc := defScope s_law_bent) (by decide +kernel)) (allB rfl) (by decide) (tgt_name (i := 11) (fun _ => sc_law_bent.nd) (fun _ => rfl) (fun _ => Or.inl rfl) rfl) tc_no (tx_join tx_str (tx_im (i := 11) rfl (fun _ => rfl) (fun _ => by first | exact Or.inl rfl | exact Or.inr (Or.inl rfl) | exact Or.inr (Or.inr rfl)))))))) ta_nil)))) ts_nil))))))))))) (by first | decide | exact Nat.le_of_ble_eq_true rfl) rfl (by exact h)⟩
noncomputable def w_law_bent := wT ({} : Loc_law_bent) d_law_bent.1
theorem mw_law_bent : ∀ x k k', (∀ y, k y → k' y) → w_law_bent x k → w_law_bent x k' := up_mono
theorem ca_law_bent {P : Program} {ww : World} {K : PySem.W.Frag} {mg : Str → Option Value} {base : Heap} (F : Facts K mg) : Ca P ww K mg base CX0 3 "_law_bent" (spT K (.src (.cons strR .nil)) (retI strR) w_law_bent) := d_law_bent.2 F
end K50
/-! texts split and joined by one sign -/
namespace Px
open PySem PySem.Spec PyProof.Rows L2 Gx Tx StrLaws PySem.Builtin.Str
/-- signs of a kind, counted -/
def mu (p : Nat → Bool) (x : Str) : Nat := x.cps.toList.countP p
def one (c : Nat) : Str := ⟨#[c]⟩
def Fre (c : Nat) (x : Str) : Prop := c ∉ x.cps.toList
theorem mu_app {p : Nat → Bool} {x y : Str} : mu p (x ++ y) = mu p x + mu p y := by
  unfold mu
  rw [Str.cps_append, Array.toList_append, List.countP_append]
theorem mu_one {p : Nat → Bool} {c : Nat} (h : p c = true) : mu p (one c) = 1 := by
  unfold mu one
  simp [h]
theorem mu_len {x : Str} : mu (fun _ => true) x = x.length := by
  unfold mu
  rw [List.countP_true, Array.length_toList]
  rfl
theorem join_cons {y a b : Str} {r : List Str} : Str.join y (a :: b :: r) = a ++ y ++ Str.join y (b :: r) := rfl
theorem mu_join {p : Nat → Bool} {c : Nat} (h : p c = true) : ∀ {ps : List Str}, ps ≠ [] → mu p (Str.join (one c) ps) + 1 = (ps.map (mu p)).sum + ps.length
  | [], h => absurd rfl h
  | [a], _ => by
    show mu p a + 1 = mu p a + 0 + 1
    omega
  | a :: b :: r, _ => by
    have ih := mu_join h (ps := b :: r) (by simp)
    rw [join_cons, mu_app, mu_app, mu_one h, List.map_cons, List.sum_cons, List.length_cons]
    omega
theorem at_one {x : Str} {c j : Nat} : At x (one c) x.length j ↔ x.cps.toList[j]? = some c := by
  have hn : x.cps.toList.length = x.length := by simp [Str.length]
  unfold At
  rw [subAt_eq]
  show j + 1 ≤ x.length ∧ (List.take 1 (List.drop j x.cps.toList) == [c]) = true ↔ _
  rw [← hn]
  generalize x.cps.toList = l
  constructor
  · intro ⟨h1, h2⟩
    have lt : j < l.length := by omega
    rw [List.drop_eq_getElem_cons lt, List.take_succ_cons, List.take_zero] at h2
    rw [List.getElem?_eq_getElem lt]
    have := eq_of_beq h2
    rw [List.cons.injEq] at this
    rw [this.1]
  · intro h
    obtain ⟨lt, e⟩ := List.getElem?_eq_some_iff.mp h
    refine ⟨by omega, ?_⟩
    rw [List.drop_eq_getElem_cons lt, List.take_succ_cons, List.take_zero, e]
    simp
theorem occ_all (x y : Str) (lim : Nat) : ∀ (n i : Nat) (st : Array Nat × Nat), y.length = 1 → st.fst.size ≤ i → st.snd ≤ i → i + n ≤ lim → (∀ j, j < i → At x y x.length j → j ∈ st.fst.toList) →
    ∀ j, j < i + n → At x y x.length j → j ∈ (forIn (List.range' i n) st (occBody x y x.length lim)).run.fst.toList
  | 0, i, st, _, _, _, _, h, j, hj, a => h j (by omega) a
  | n + 1, i, st, hy, h1, h2, h3, h, j, hj, a => by
    rw [List.range'_succ, List.forIn_cons]
    unfold occBody
    split
    · rename_i hc
      refine occ_all x y lim n (i + 1) _ hy ?_ ?_ (by omega) (fun j' hj' a' => ?_) j (by omega) a
      · show (st.fst.push i).size ≤ i + 1
        rw [Array.size_push]
        omega
      · show i + y.length ≤ i + 1
        omega
      · show j' ∈ (st.fst.push i).toList
        rw [Array.toList_push, List.mem_append]
        by_cases e : j' = i
        · exact .inr (by simp [e])
        · exact .inl (h j' (by omega) a')
    · rename_i hc
      refine occ_all x y lim n (i + 1) _ hy (by show st.fst.size ≤ i + 1; omega) (by show st.snd ≤ i + 1; omega) (by omega) (fun j' hj' a' => ?_) j (by omega) a
      show j' ∈ st.fst.toList
      by_cases e : j' = i
      · subst e
        exact absurd ⟨⟨⟨by omega, h2⟩, a'.1⟩, a'.2⟩ hc
      · exact h j' (by omega) a'
theorem chain_ge {x y : Str} {hi : Nat} : ∀ {cuts : List Nat} {a f : Nat}, ChainTo x y hi a cuts f → ∀ j ∈ cuts, a ≤ j
  | [], _, _, _, _, h => by cases h
  | c :: r, a, f, h, j, hj => by
    rcases List.mem_cons.mp hj with rfl | hj
    · exact h.1
    · have := chain_ge h.2.2 j hj
      have := h.1
      omega
theorem parts_free {x : Str} {c : Nat} : ∀ {cuts : List Nat} {a f : Nat}, ChainTo x (one c) x.length a cuts f → (∀ j, a ≤ j → At x (one c) x.length j → j ∈ cuts) → ∀ p ∈ partsFrom x 1 a cuts, Fre c p
  | [], a, f, h, hj, p, hp => by
    have hp : p ∈ [strSub x a x.length] := hp
    rw [List.mem_singleton] at hp
    subst hp
    intro hc
    rw [strSub_toList] at hc
    obtain ⟨i, hi⟩ := List.getElem?_of_mem (List.mem_of_mem_take hc)
    rw [List.getElem?_drop] at hi
    exact absurd (hj (a + i) (by omega) (at_one.mpr hi)) (by simp)
  | d :: r, a, f, h, hj, p, hp => by
    have hp : p ∈ strSub x a d :: partsFrom x 1 (d + 1) r := hp
    rcases List.mem_cons.mp hp with rfl | hp
    · intro hc
      rw [strSub_toList] at hc
      obtain ⟨i, hi⟩ := List.getElem?_of_mem hc
      have lt : i < d - a := by
        have := (List.getElem?_eq_some_iff.mp hi).1
        rw [List.length_take] at this
        omega
      rw [List.getElem?_take_of_lt lt, List.getElem?_drop] at hi
      rcases List.mem_cons.mp (hj (a + i) (by omega) (at_one.mpr hi)) with e | e
      · omega
      · have : d + 1 ≤ a + i := chain_ge h.2.2 _ e
        omega
    · refine parts_free h.2.2 (fun j h1 h2 => ?_) p hp
      have h1 : d + 1 ≤ j := h1
      rcases List.mem_cons.mp (hj j (by have := h.1; omega) h2) with e | e
      · omega
      · exact e
theorem kind_one {x : Str} {c : Nat} (hc : c < 256) : decide (Builtin.Str.strKind x < Builtin.Str.strKind (one c)) = false := by
  have h1 : Builtin.Str.strKind (one c) = 1 := by
    unfold Builtin.Str.strKind one
    simp [hc]
  have h2 : 1 ≤ Builtin.Str.strKind x := by
    unfold Builtin.Str.strKind
    split
    · omega
    · split <;> omega
  rw [h1]
  exact decide_eq_false (by omega)
theorem split_free {x : Str} {c : Nat} (hc : c < 256) : ∀ p ∈ Txt.split x (one c), Fre c p := by
  intro p hp
  unfold Txt.split at hp
  rw [kind_one hc, Bool.or_false] at hp
  have all : ∀ j, At x (one c) x.length j → j ∈ occurrences x (one c) 0 x.length (x.length + 1) := by
    intro j hj
    rw [occ_eq]
    refine occ_all x (one c) (x.length + 1) (x.length + 1 - 0) 0 _ rfl (by simp) (by simp) (by omega) (fun j h => by omega) j ?_ hj
    have := hj.1
    have : j + 1 ≤ x.length := this
    omega
  split at hp
  · rename_i h
    rw [List.mem_singleton] at hp
    subst hp
    intro hm
    have h : p.length < 1 := of_decide_eq_true h
    have : p.cps.toList.length = p.length := by simp [Str.length]
    have := List.length_pos_of_mem hm
    omega
  · split at hp
    · rename_i h
      rw [List.mem_singleton] at hp
      subst hp
      intro hm
      obtain ⟨i, hi⟩ := List.getElem?_of_mem hm
      have := all i (at_one.mpr hi)
      rw [List.isEmpty_iff] at h
      rw [h] at this
      cases this
    · obtain ⟨f, h⟩ := occ_chain x (one c) (x.length + 1)
      rw [partsBetween_eq] at hp
      exact parts_free h (fun j _ hj => all j hj) p hp
theorem split_ne {x : Str} {c : Nat} : Txt.split x (one c) ≠ [] := by
  unfold Txt.split
  split
  · simp
  · split
    · simp
    · rw [partsBetween_eq]
      obtain ⟨p, r, e⟩ := partsFrom_ne x (one c).length 0 (occurrences x (one c) 0 x.length (x.length + 1))
      rw [e]
      simp
theorem cut_one {c : Nat} : ∀ {a b s t : List Nat}, c ∉ a → c ∉ b → a ++ c :: s = b ++ c :: t → a = b ∧ s = t
  | [], [], s, t, _, _, h => by
    rw [List.nil_append, List.nil_append, List.cons.injEq] at h
    exact ⟨rfl, h.2⟩
  | [], y :: b, s, t, _, hb, h => by
    rw [List.nil_append, List.cons_append, List.cons.injEq] at h
    exact absurd (by rw [h.1]; exact List.mem_cons_self) hb
  | x :: a, [], s, t, ha, _, h => by
    rw [List.nil_append, List.cons_append, List.cons.injEq] at h
    exact absurd (by rw [h.1]; exact List.mem_cons_self) ha
  | x :: a, y :: b, s, t, ha, hb, h => by
    rw [List.cons_append, List.cons_append, List.cons.injEq] at h
    obtain ⟨e1, e2⟩ := cut_one (fun z => ha (List.mem_cons_of_mem _ z)) (fun z => hb (List.mem_cons_of_mem _ z)) h.2
    exact ⟨by rw [h.1, e1], e2⟩
theorem cps_inj {x y : Str} (h : x.cps.toList = y.cps.toList) : x = y := Str.ext' (Array.toList_inj.mp h)
theorem join_cps {c : Nat} {a b : Str} {r : List Str} : (Str.join (one c) (a :: b :: r)).cps.toList = a.cps.toList ++ c :: (Str.join (one c) (b :: r)).cps.toList := by
  rw [join_cons, Str.cps_append, Str.cps_append, Array.toList_append, Array.toList_append]
  show a.cps.toList ++ [c] ++ _ = _
  rw [List.append_assoc]
  rfl
theorem join_inj {c : Nat} : ∀ {ps qs : List Str}, ps ≠ [] → qs ≠ [] → (∀ p ∈ ps, Fre c p) → (∀ p ∈ qs, Fre c p) → Str.join (one c) ps = Str.join (one c) qs → ps = qs
  | [], _, h, _, _, _, _ => absurd rfl h
  | _, [], _, h, _, _, _ => absurd rfl h
  | [a], [b], _, _, _, _, h => by
    have h : a = b := h
    rw [h]
  | [a], b :: d :: r, _, _, h1, _, h => by
    have e := congrArg (fun z : Str => z.cps.toList) h
    rw [join_cps] at e
    have e : a.cps.toList = _ := e
    exact absurd (by rw [e]; simp) (h1 a List.mem_cons_self)
  | a :: d :: r, [b], _, _, _, h1, h => by
    have e := congrArg (fun z : Str => z.cps.toList) h
    rw [join_cps] at e
    have e : _ = b.cps.toList := e
    exact absurd (by rw [← e]; simp) (h1 b List.mem_cons_self)
  | a :: d :: r, b :: g :: t, _, _, h1, h2, h => by
    have e := congrArg (fun z : Str => z.cps.toList) h
    rw [join_cps, join_cps] at e
    obtain ⟨e1, e2⟩ := cut_one (h1 a List.mem_cons_self) (h2 b List.mem_cons_self) e
    rw [cps_inj e1, join_inj (by simp) (by simp) (fun p hp => h1 p (List.mem_cons_of_mem _ hp)) (fun p hp => h2 p (List.mem_cons_of_mem _ hp)) (cps_inj e2)]
theorem join_eq {y : Str} {ps : List Str} : Txt.join y ps = Str.join y ps := glued_eq_join y ps
theorem split_join {c : Nat} (hc : c < 256) {ps : List Str} (h : ps ≠ []) (hf : ∀ p ∈ ps, Fre c p) : Txt.split (Txt.join (one c) ps) (one c) = ps := by
  refine join_inj split_ne h (split_free hc) hf ?_
  rw [join_split, join_eq]
/-- the signs of what a text is split into -/
theorem mu_split {p : Nat → Bool} {c : Nat} (h : p c = true) {x : Str} : mu p x + 1 = ((Txt.split x (one c)).map (mu p)).sum + (Txt.split x (one c)).length := by
  have := mu_join h (ps := Txt.split x (one c)) split_ne
  rwa [join_split] at this
theorem mu_joinT {p : Nat → Bool} {c : Nat} (h : p c = true) {ps : List Str} (hn : ps ≠ []) : mu p (Txt.join (one c) ps) + 1 = (ps.map (mu p)).sum + ps.length := by
  rw [join_eq]
  exact mu_join h hn
theorem mu_mem {p : Nat → Bool} {x : Str} : ∀ {ps : List Str}, x ∈ ps → mu p x + ps.length ≤ (ps.map (mu p)).sum + ps.length
  | [], h => by cases h
  | y :: ps, h => by
    rw [List.map_cons, List.sum_cons, List.length_cons]
    rcases List.mem_cons.mp h with rfl | h
    · omega
    · have := mu_mem (p := p) h
      omega
theorem split_mu {p : Nat → Bool} {c : Nat} (h : p c = true) {x y : Str} (hy : y ∈ Txt.split x (one c)) : mu p y ≤ mu p x := by
  have a := mu_split h (x := x)
  have b := mu_mem (p := p) hy
  have d := List.length_pos_of_mem hy
  omega
theorem split_len {p : Nat → Bool} {c : Nat} (h : p c = true) {x : Str} : (Txt.split x (one c)).length ≤ mu p x + 1 := by
  have a := mu_split h (x := x)
  omega
end Px
namespace K50
open PySem PySem.Spec PyProof.Rows L2 Gx Tx Px
instance nmD : DecidablePred NM := fun x => by unfold NM; infer_instance
theorem cntR_le : ∀ xs : List Str, cntR xs ≤ xs.length
  | [] => Nat.le_refl 0
  | x :: xs => by
    have := cntR_le xs
    show (if x ∈ xs then cntR xs else cntR xs + 1) ≤ xs.length + 1
    split <;> omega
theorem cntR_nd : ∀ xs : List Str, cntR xs = xs.length ↔ xs.Nodup
  | [] => ⟨fun _ => .nil, fun _ => rfl⟩
  | x :: xs => by
    have le := cntR_le xs
    have ih := cntR_nd xs
    rw [List.nodup_cons]
    show (if x ∈ xs then cntR xs else cntR xs + 1) = xs.length + 1 ↔ _
    split
    · rename_i h
      exact ⟨fun z => by omega, fun z => absurd h z.1⟩
    · rename_i h
      rw [← ih]
      exact ⟨fun z => ⟨h, by omega⟩, fun z => by omega⟩
theorem cnt_nodup {xs : List Str} : Gx.cnt xs = xs.length ↔ xs.Nodup := by
  unfold Gx.cnt
  have := cntR_nd xs.reverse
  rw [List.length_reverse] at this
  rw [this]
  exact (List.reverse_perm xs).nodup_iff
theorem atI0 {α : Type} {x : α} {xs : List α} : atI (x :: xs) 0 = some x := by
  rw [show (0 : Int) = ((0 : Nat) : Int) from rfl, atI_cast]; rfl
theorem atI1 {α : Type} {x y : α} {xs : List α} : atI (x :: y :: xs) 1 = some y := by
  rw [show (1 : Int) = ((1 : Nat) : Int) from rfl, atI_cast]; rfl
theorem atI2 {α : Type} {x y z : α} {xs : List α} : atI (x :: y :: z :: xs) 2 = some z := by
  rw [show (2 : Int) = ((2 : Nat) : Int) from rfl, atI_cast]; rfl
theorem letters_mem {c : Nat} : c ∈ ("abcdefghijklmnopqrstuvwxyz" : Str).cps.toList ↔ 97 ≤ c ∧ c ≤ 122 := by
  have e : ("abcdefghijklmnopqrstuvwxyz" : Str).cps.toList = List.range' 97 26 := by decide +kernel
  rw [e, List.mem_range'_1]
  omega
def lowB (x : Str) : Bool := x.cps.toList.all fun c => decide (97 ≤ c ∧ c ≤ 122)
theorem low_all {x : Str} : (((x.cps.toList.map fun c => (⟨#[c]⟩ : Str)).map lowB).all id) = decide (∀ c ∈ x.cps.toList, 97 ≤ c ∧ c ≤ 122) := by
  rw [Bool.eq_iff_iff, List.all_eq_true, decide_eq_true_eq]
  simp [lowB]
theorem big_line {n : Nat} (h : n ≤ 100000) : n ≤ sizeLine := Nat.le_trans h (by unfold sizeLine; omega)
theorem signs_len {x : Str} : (x.cps.toList.map fun c => (⟨#[c]⟩ : Str)).length = x.length := by
  rw [List.length_map]
  simp [Str.length]
theorem nm_dec {x : Str} (h1 : 1 ≤ x.length) (h2 : x.length ≤ 8) : decide (NM x) = decide (∀ c ∈ x.cps.toList, 97 ≤ c ∧ c ≤ 122) := by
  rw [decide_eq_decide]
  exact ⟨fun h => h.2.2, fun h => ⟨h1, h2, h⟩⟩
theorem r_is_nameS {x : Str} (hl : x.length ≤ 100000) {k : Bool → Prop} (hk : k (decide (NM x))) : w_is_nameS (x, ()) k := by
  unfold w_is_nameS wT d_is_nameS
  refine up_of fun k' hm => ?_
  dsimp only
  have q := hm _ hk
  rw [if_neg (by simp)]
  refine ⟨big_line hl, ?_⟩
  by_cases c1 : 1 ≤ x.length
  · rw [if_pos (decide_eq_true (by omega))]
    by_cases c2 : x.length ≤ 8
    · rw [if_neg (by simp; omega)]
      refine ⟨big_line (by rw [signs_len]; exact hl), wComp_flt (fun _ => true) lowB (fun _ _ k h => h) (fun y hy k h => ?_) ?_⟩
      · obtain ⟨c, hc, rfl⟩ := List.mem_map.mp hy
        refine ⟨c, rfl, ?_⟩
        rw [if_neg (by decide)]
        have e : lowB ⟨#[c]⟩ = decide (c ∈ ("abcdefghijklmnopqrstuvwxyz" : Str).cps.toList) := by
          rw [Bool.eq_iff_iff]
          simp only [decide_eq_true_eq]
          rw [letters_mem]
          simp [lowB]
        rw [e] at h
        exact h
      · rw [List.filter_eq_self.mpr (fun _ _ => rfl), List.nil_append, low_all, ← nm_dec c1 c2]
        exact q
    · rw [if_pos (by simp; omega)]
      rw [decide_eq_false (fun h => c2 h.2.1)] at q
      exact q
  · rw [if_neg (by simp; omega), if_pos (by decide)]
    rw [decide_eq_false (fun h => c1 h.1)] at q
    exact q
theorem lt_one {a b : Nat} : ((⟨#[a]⟩ : Str).cps.toList < (⟨#[b]⟩ : Str).cps.toList) ↔ a < b := by
  show ([a] < [b]) ↔ _
  rw [List.cons_lt_cons_iff]
  simp
theorem sign_a : ("a" : Str) = ⟨#[97]⟩ := by decide +kernel
theorem sign_z : ("z" : Str) = ⟨#[122]⟩ := by decide +kernel
theorem r_law_is_name {x : Str} (hl : x.length ≤ 100000) {k : Bool → Prop} (hk : k (decide (NM x))) : w_law_is_name (x, ()) k := by
  unfold w_law_is_name wT d_law_is_name
  refine up_of fun k' hm => ?_
  dsimp only
  have q := hm _ hk
  refine ⟨big_line hl, ?_⟩
  by_cases c1 : 1 ≤ x.length
  · rw [if_pos (decide_eq_true (by omega))]
    by_cases c2 : x.length ≤ 8
    · rw [if_pos (by simp; omega)]
      refine ⟨big_line (by rw [signs_len]; exact hl), wComp_flt (fun y => !lowB y) id (fun y hy k h => ?_) (fun _ _ k h => h) ⟨rfl, ?_⟩⟩
      · obtain ⟨c, hc, rfl⟩ := List.mem_map.mp hy
        dsimp only
        rw [sign_a, sign_z]
        by_cases h1 : 97 ≤ c
        · rw [if_pos (by rw [decide_eq_false (fun z => by have := lt_one.mp z; omega)]; rfl)]
          have e : (!lowB ⟨#[c]⟩) = (!!decide ((⟨#[122]⟩ : Str).cps.toList < (⟨#[c]⟩ : Str).cps.toList)) := by
            rw [Bool.not_not, Bool.eq_iff_iff, decide_eq_true_eq, lt_one]
            simp [lowB, h1]
          rw [e] at h
          exact h
        · rw [if_neg (by rw [decide_eq_true (lt_one.mpr (by omega))]; decide)]
          have e : (!lowB ⟨#[c]⟩) = !false := by
            simp [lowB, h1]
          rw [e] at h
          exact h
      · rw [List.map_id, List.nil_append]
        have e : (List.filter (fun y => !lowB y) (x.cps.toList.map fun c => (⟨#[c]⟩ : Str))).isEmpty = decide (NM x) := by
          rw [nm_dec c1 c2, Bool.eq_iff_iff, List.isEmpty_iff, List.filter_eq_nil_iff, decide_eq_true_eq]
          simp [lowB]
        rw [e]
        exact q
    · rw [if_neg (by simp; omega)]
      rw [decide_eq_false (fun h => c2 h.2.1)] at q
      exact q
  · rw [if_neg (by simp; omega), if_neg (by decide)]
    rw [decide_eq_false (fun h => c1 h.1)] at q
    exact q
theorem r_are_differentL {xs : List Str} (hl : xs.length < 1000) {k : Bool → Prop} (hk : k (decide xs.Nodup)) : w_are_differentL (xs, ()) k := by
  unfold w_are_differentL wT d_are_differentL
  refine up_of fun k' hm => ?_
  dsimp only
  refine ⟨hl, ?_⟩
  have e : decide (((Gx.cnt xs : Nat) : Int) = (xs.length : Int)) = decide xs.Nodup := by
    rw [decide_eq_decide, ← cnt_nodup]
    omega
  rw [e]
  exact hm _ hk
def NamesP (xs : List Str) : Prop := xs ≠ [] ∧ (∀ x ∈ xs, NM x) ∧ xs.Nodup
instance : DecidablePred NamesP := fun x => by unfold NamesP; infer_instance
theorem all_map {α : Type} {p : α → Bool} {xs : List α} : ((xs.map p).all id) = decide (∀ x ∈ xs, p x = true) := by
  rw [Bool.eq_iff_iff, List.all_eq_true, decide_eq_true_eq]
  simp
theorem r_are_namesL {xs : List Str} (hl : xs.length < 1000) (hx : ∀ x ∈ xs, x.length ≤ 100000) {k : Bool → Prop} (hk : k (decide (NamesP xs))) : w_are_namesL (xs, ()) k := by
  unfold w_are_namesL wT d_are_namesL
  refine up_of fun k' hm => ?_
  dsimp only
  have q := hm _ hk
  by_cases c : xs = []
  · rw [if_neg (by simp [c])]
    rw [decide_eq_false (fun h => h.1 c)] at q
    exact q
  · have := List.length_pos_iff.mpr c
    rw [if_pos (decide_eq_true (by omega))]
    refine ⟨le_line (by omega), wComp_flt (fun _ => true) (fun x => decide (NM x)) (fun _ _ k h => h) (fun y hy k h => r_is_nameS (hx y hy) h) ?_⟩
    rw [List.filter_eq_self.mpr (fun _ _ => rfl), List.nil_append, all_map]
    by_cases c2 : ∀ x ∈ xs, NM x
    · rw [if_pos (decide_eq_true fun x h => decide_eq_true (c2 x h))]
      refine r_are_differentL hl ?_
      have e : decide xs.Nodup = decide (NamesP xs) := by
        rw [decide_eq_decide]
        exact ⟨fun h => ⟨c, c2, h⟩, fun h => h.2.2⟩
      rw [e]
      exact q
    · rw [if_neg (by simpa using c2)]
      rw [decide_eq_false (fun h => c2 h.2.1)] at q
      exact q
theorem r_are_thingsL {xs : List Str} (hl : xs.length < 1000) (hx : ∀ x ∈ xs, x.length ≤ 100000) {k : Bool → Prop} (hk : k (decide (xs.length ≤ 5 ∧ NamesP xs))) : w_are_thingsL (xs, ()) k := by
  unfold w_are_thingsL wT d_are_thingsL
  refine up_of fun k' hm => ?_
  dsimp only
  have q := hm _ hk
  rw [if_pos rfl]
  by_cases c : xs.length ≤ 5
  · rw [if_pos (decide_eq_true (by omega))]
    refine r_are_namesL hl hx ?_
    have e : decide (xs.length ≤ 5 ∧ NamesP xs) = decide (NamesP xs) := by
      rw [decide_eq_decide]
      exact ⟨fun h => h.2, fun h => ⟨c, h⟩⟩
    rw [← e]
    exact q
  · rw [if_neg (by simp; omega)]
    rw [decide_eq_false (fun h => c h.1)] at q
    exact q
theorem r_is_row_ofL {xs ts : List Str} (hl : xs.length < 1000) {k : Bool → Prop} (hk : k (decide ((∀ x ∈ xs, x ∈ ts) ∧ xs.Nodup))) : w_is_row_ofL (xs, ts, ()) k := by
  unfold w_is_row_ofL wT d_is_row_ofL
  refine up_of fun k' hm => ?_
  dsimp only
  have q := hm _ hk
  rw [if_neg (by simp)]
  by_cases c : ts.length < xs.length
  · rw [if_pos (decide_eq_true (by omega))]
    rw [decide_eq_false (fun h => by have := nodup_len h.2 h.1; omega)] at q
    exact q
  · rw [if_neg (by simp; omega)]
    refine ⟨le_line (by omega), wComp_flt (fun _ => true) (fun x => decide (x ∈ ts)) (fun _ _ k h => h) (fun y hy k h => h) ?_⟩
    rw [List.filter_eq_self.mpr (fun _ _ => rfl), List.nil_append, all_map]
    by_cases c2 : ∀ x ∈ xs, x ∈ ts
    · rw [if_pos (decide_eq_true fun x h => decide_eq_true (c2 x h))]
      refine r_are_differentL hl ?_
      have e : decide xs.Nodup = decide ((∀ x ∈ xs, x ∈ ts) ∧ xs.Nodup) := by
        rw [decide_eq_decide]
        exact ⟨fun h => ⟨c2, h⟩, fun h => h.2⟩
      rw [e]
      exact q
    · rw [if_neg (by simpa using c2)]
      rw [decide_eq_false (fun h => c2 h.1)] at q
      exact q
/-! ## lines read -/
def thP : List Str → Option (List Str)
  | w :: ts => if w = "things" ∧ ts.length ≤ 5 ∧ NamesP ts then some ts else none
  | [] => none
theorem r_things_in {w : Str} {ts : List Str} (hl : ts.length < 1000) (hx : ∀ x ∈ ts, x.length ≤ 100000) {k : Option (List Str) → Prop} (hk : k (thP (w :: ts))) : w_things_in (w :: ts, ()) k := by
  unfold w_things_in wT d_things_in
  refine up_of fun k' hm => ?_
  dsimp only
  have q := hm _ hk
  have ec : cutL (w :: ts) (some 1) none = ts := cut_lo (k := 1) (by simp)
  rw [ec]
  refine ⟨w, atI0, ?_⟩
  have q : k' (if w = "things" ∧ ts.length ≤ 5 ∧ NamesP ts then some ts else none) := q
  by_cases c : w = "things"
  · rw [if_neg (by simpa using c)]
    refine r_are_thingsL hl hx ?_
    by_cases c2 : ts.length ≤ 5 ∧ NamesP ts
    · rw [if_pos ⟨c, c2⟩] at q
      rw [decide_eq_true c2, if_neg (by decide)]
      exact q
    · rw [if_neg (fun z => c2 z.2)] at q
      rw [decide_eq_false c2, if_pos (by decide)]
      exact q
  · rw [if_neg (fun z => c z.1)] at q
    rw [if_pos (by simpa using c), if_pos rfl]
    exact q
def wiP (r : List Str) : List Str := r.take (idxS r ">")
def laP (r : List Str) : List Str := r.drop (idxS r ">" + 1)
def GoodP (ts : List Str) (n b c : Str) (r : List Str) : Prop := NM n ∧ (b = "top" ∨ b = "place") ∧ c = ":" ∧ (">" : Str) ∈ r ∧ ((∀ x ∈ wiP r, x ∈ ts) ∧ (wiP r).Nodup) ∧ NamesP (laP r)
instance {ts n b c r} : Decidable (GoodP ts n b c r) := by unfold GoodP; infer_instance
def entP (ts : List Str) : List Str → Option Ent
  | n :: b :: c :: r => if GoodP ts n b c r then some ⟨n, wiP r, b, laP r⟩ else none
  | _ => none
theorem ent_no {ts : List Str} {n b c : Str} {r : List Str} (h : ¬ GoodP ts n b c r) : entP ts (n :: b :: c :: r) = none := if_neg h
theorem ent_yes {ts : List Str} {n b c : Str} {r : List Str} (h : GoodP ts n b c r) : entP ts (n :: b :: c :: r) = some ⟨n, wiP r, b, laP r⟩ := if_pos h
theorem r_entry_in {ts : List Str} : ∀ {ws : List Str}, ws.length < 1000 → (∀ x ∈ ws, x.length ≤ 100000) → ∀ {k : Option (List Str × Str × List Str) → Prop}, k ((entP ts ws).map fun e => (e.wishes, e.back, e.later)) → w_entry_in (ws, ts, ()) k
  | [], hl, hx, k, hk => by
    unfold w_entry_in wT d_entry_in
    refine up_of fun k' hm => ?_
    dsimp only
    rw [if_pos (by simp), if_pos rfl]
    exact hm _ hk
  | [a], hl, hx, k, hk => by
    unfold w_entry_in wT d_entry_in
    refine up_of fun k' hm => ?_
    dsimp only
    rw [if_pos (by simp), if_pos rfl]
    exact hm _ hk
  | [a, b], hl, hx, k, hk => by
    unfold w_entry_in wT d_entry_in
    refine up_of fun k' hm => ?_
    dsimp only
    rw [if_pos (by simp), if_pos rfl]
    exact hm _ hk
  | n :: b :: c :: r, hl, hx, k, hk => by
    unfold w_entry_in wT d_entry_in
    refine up_of fun k' hm => ?_
    dsimp only
    have q := hm _ hk
    have ec : cutL (n :: b :: c :: r) (some 3) none = r := cut_lo (k := 3) (by simp)
    have lr : r.length < 1000 := by simp only [List.length_cons] at hl; omega
    rw [ec]
    have no : ¬ GoodP ts n b c r → k' none := fun h => by
      rw [ent_no h] at q
      exact q
    rw [if_neg (by simp; omega)]
    refine ⟨n, atI0, r_is_nameS (hx n List.mem_cons_self) ?_⟩
    by_cases c1 : NM n
    · rw [decide_eq_true c1, if_neg (by decide)]
      refine ⟨b, atI1, ?_⟩
      by_cases c2 : b = "top" ∨ b = "place"
      · rw [if_neg (by rw [decide_eq_true (by rcases c2 with rfl | rfl <;> simp)]; decide)]
        refine ⟨c, atI2, ?_⟩
        by_cases c3 : c = ":"
        · rw [if_neg (by simpa using c3)]
          by_cases c4 : (">" : Str) ∈ r
          · rw [if_neg (by simpa using c4)]
            have lt := idxS_lt c4
            rw [cut_hi (by omega), show ((idxS r ">" : Nat) : Int) + 1 = ((idxS r ">" + 1 : Nat) : Int) from by omega, cut_lo (by omega)]
            have lw : (wiP r).length < 1000 := by unfold wiP; rw [List.length_take]; omega
            have ll : (laP r).length < 1000 := by unfold laP; rw [List.length_drop]; omega
            have hl2 : ∀ x ∈ laP r, x.length ≤ 100000 := fun x h => hx x (List.mem_cons_of_mem _ (List.mem_cons_of_mem _ (List.mem_cons_of_mem _ (List.mem_of_mem_drop h))))
            refine ⟨c4, r_is_row_ofL (xs := wiP r) lw ?_⟩
            by_cases c5 : (∀ x ∈ wiP r, x ∈ ts) ∧ (wiP r).Nodup
            · rw [decide_eq_true c5, if_neg (by decide)]
              refine r_are_namesL (xs := laP r) ll hl2 ?_
              by_cases c6 : NamesP (laP r)
              · rw [decide_eq_true c6, if_neg (by decide)]
                rw [ent_yes ⟨c1, c2, c3, c4, c5, c6⟩] at q
                exact ⟨b, atI1, q⟩
              · rw [decide_eq_false c6, if_pos (by decide)]
                exact no fun h => c6 h.2.2.2.2.2
            · rw [decide_eq_false c5, if_pos (by decide), if_pos rfl]
              exact no fun h => c5 h.2.2.2.2.1
          · rw [if_pos (by simpa using c4)]
            exact no fun h => c4 h.2.2.2.1
        · rw [if_pos (by simpa using c3)]
          exact no fun h => c3 h.2.2.1
      · rw [if_pos (by simpa using c2), if_pos rfl]
        exact no fun h => c2 h.2.1
    · rw [decide_eq_false c1, if_pos (by decide), if_pos rfl]
      exact no fun h => c1 h.1
end K50
namespace K50
open PySem PySem.Spec PyProof.Rows L2 Gx Tx Px
theorem cut_mid {α : Type} {xs : List α} {a b : Nat} (h1 : a ≤ xs.length) (h2 : b ≤ xs.length) : cutL xs (some (a : Int)) (some (b : Int)) = (xs.drop a).take (b - a) := by
  unfold cutL HT.sIx
  simp only
  rw [if_neg (by omega), if_neg (by omega), Int.toNat_natCast, Int.toNat_natCast, Nat.min_eq_left h1, Nat.min_eq_left h2]
def bl : Str := " "
theorem bl_one : (" " : Str) = one 32 := by decide +kernel
theorem nl_one : ("\n" : Str) = one 10 := by decide +kernel
theorem bl_len : ((" " : Str).length == 0) = false := by decide +kernel
theorem nl_len : (("\n" : Str).length == 0) = false := by decide +kernel
theorem nm_ne {x y : Str} (h : NM x) (hy : ¬ NM y) : x ≠ y := fun z => hy (z ▸ h)
theorem no_gt : ¬ NM (">" : Str) := by decide +kernel
theorem r_split {r : List Str} (h : (">" : Str) ∈ r) : r = wiP r ++ (">" : Str) :: laP r := by
  have lt := idxS_lt h
  have e := idxS_at h
  obtain ⟨_, e2⟩ := List.getElem?_eq_some_iff.mp e
  unfold wiP laP
  conv => lhs; rw [← List.take_append_drop (idxS r ">") r, List.drop_eq_getElem_cons lt, e2]
theorem flt_gt {xs : List Str} (h : ∀ x ∈ xs, NM x) : xs.filter (fun x : Str => decide (x = (">" : Str))) = [] :=
  List.filter_eq_nil_iff.mpr fun x hx z => nm_ne (h x hx) no_gt (of_decide_eq_true z)
theorem good_cnt {ts : List Str} (ht : ∀ t ∈ ts, NM t) {n b c : Str} {r : List Str} (g : GoodP ts n b c r) : ((n :: b :: c :: r).filter fun x : Str => decide (x = (">" : Str))).length = 1 ∧ 5 ≤ (n :: b :: c :: r).length := by
  obtain ⟨g1, g2, g3, g4, g5, g6⟩ := g
  have e := r_split g4
  have hb : b ≠ (">" : Str) := by rcases g2 with rfl | rfl <;> decide +kernel
  have hc : c ≠ (">" : Str) := by rw [g3]; decide +kernel
  have a : (n :: b :: c :: r) = [n, b, c] ++ wiP r ++ [(">" : Str)] ++ laP r := by
    conv => lhs; rw [e]
    simp
  constructor
  · rw [a, List.filter_append, List.filter_append, List.filter_append, flt_gt g6.2.1, flt_gt (fun x h => ht x (g5.1 x h))]
    simp [nm_ne g1 no_gt, hb, hc]
  · rw [a]
    have := List.length_pos_iff.mpr g6.1
    simp only [List.length_append, List.length_cons, List.length_nil]
    omega
theorem idx3 {n b c : Str} {r : List Str} (h1 : n ≠ (">" : Str)) (h2 : b ≠ (">" : Str)) (h3 : c ≠ (">" : Str)) : idxS (n :: b :: c :: r) ">" = idxS r ">" + 3 := by
  rw [idxS_cons_ne h1, idxS_cons_ne h2, idxS_cons_ne h3]
theorem r_law_weather {line : Str} {ts : List Str} (ht : ∀ t ∈ ts, NM t) (h1 : line.length ≤ 100000) {ws : List Str} (ew : Txt.split line " " = ws) (hl : ws.length < 1000) (hx : ∀ x ∈ ws, x.length ≤ 100000) {k : Option Ent → Prop} (hk : k (entP ts ws)) : w_law_weather (line, ts, ()) k := by
  unfold w_law_weather wT d_law_weather
  refine up_of fun k' hm => ?_
  dsimp only
  have q := hm _ hk
  clear hk hm
  rw [ew]
  refine ⟨bl_len, by unfold sizeLine; omega, ?_⟩
  by_cases c0 : ws.length < 5
  · rw [if_pos (decide_eq_true (by omega)), if_pos rfl]
    have e : entP ts ws = none := by
      match ws, c0 with
      | [], _ => rfl
      | [_], _ => rfl
      | [_, _], _ => rfl
      | n :: b :: c :: r, c0 => exact ent_no fun g => by have := (good_cnt ht g).2; omega
    rw [e] at q
    exact q
  · rw [if_neg (by simp; omega)]
    refine ⟨le_line (by omega), wComp_flt (fun x : Str => decide (x = (">" : Str))) id (fun _ _ k h => h) (fun _ _ k h => h) ?_⟩
    rw [List.nil_append, List.map_id]
    match ws, c0 with
    | [], c0 => exact absurd (by simp) c0
    | [_], c0 => exact absurd (by simp) c0
    | [_, _], c0 => exact absurd (by simp) c0
    | n :: b :: c :: r, c0 =>
    have no : ¬ GoodP ts n b c r → k' none := fun h => by
      rw [ent_no h] at q
      exact q
    by_cases cc : ((n :: b :: c :: r).filter fun x : Str => decide (x = (">" : Str))).length = 1
    · rw [if_neg (by rw [decide_eq_true (by omega)]; decide)]
      have gtm : (">" : Str) ∈ n :: b :: c :: r := by
        obtain ⟨y, hy⟩ := List.exists_mem_of_ne_nil _ (fun z : (n :: b :: c :: r).filter (fun x : Str => decide (x = (">" : Str))) = [] => by rw [z] at cc; cases cc)
        rw [List.mem_filter] at hy
        rw [← of_decide_eq_true hy.2]
        exact hy.1
      refine ⟨gtm, n, atI0, r_law_is_name (hx n List.mem_cons_self) ?_⟩
      by_cases c1 : NM n
      · rw [decide_eq_true c1, if_neg (by decide)]
        refine ⟨b, atI1, ?_⟩
        by_cases c2 : b = "top" ∨ b = "place"
        · rw [if_neg (by rw [decide_eq_true (by rcases c2 with rfl | rfl <;> simp)]; decide)]
          refine ⟨c, atI2, ?_⟩
          by_cases c3 : c = ":"
          · rw [if_neg (by simpa using c3)]
            have hn := nm_ne c1 no_gt
            have hb : b ≠ (">" : Str) := by rcases c2 with rfl | rfl <;> decide +kernel
            have hc : c ≠ (">" : Str) := by rw [c3]; decide +kernel
            have c4 : (">" : Str) ∈ r := by
              rcases List.mem_cons.mp gtm with h | h
              · exact absurd h.symm hn
              · rcases List.mem_cons.mp h with h | h
                · exact absurd h.symm hb
                · rcases List.mem_cons.mp h with h | h
                  · exact absurd h.symm hc
                  · exact h
            rw [idx3 hn hb hc]
            have lt := idxS_lt c4
            have lr : r.length < 1000 := by simp only [List.length_cons] at hl; omega
            have ea : cutL (n :: b :: c :: r) (some 3) (some ((idxS r ">" + 3 : Nat) : Int)) = wiP r := by
              rw [show (3 : Int) = ((3 : Nat) : Int) from rfl, cut_mid (by simp) (by simp only [List.length_cons]; omega)]
              rw [Nat.add_sub_cancel]
              rfl
            have eb : cutL (n :: b :: c :: r) (some (((idxS r ">" + 3 : Nat) : Int) + 1)) none = laP r := by
              rw [show ((idxS r ">" + 3 : Nat) : Int) + 1 = ((idxS r ">" + 1 + 3 : Nat) : Int) from by omega, cut_lo (by simp only [List.length_cons]; omega)]
              rfl
            rw [ea, eb]
            have lw : (wiP r).length < 1000 := by unfold wiP; rw [List.length_take]; omega
            have ll : (laP r).length < 1000 := by unfold laP; rw [List.length_drop]; omega
            have hl2 : ∀ x ∈ laP r, x.length ≤ 100000 := fun x h => hx x (List.mem_cons_of_mem _ (List.mem_cons_of_mem _ (List.mem_cons_of_mem _ (List.mem_of_mem_drop h))))
            rw [if_neg (by simp; omega)]
            refine ⟨le_line (by omega), wComp_flt (fun x => !decide (x ∈ ts)) id (fun _ _ k h => h) (fun _ _ k h => h) ⟨rfl, ?_⟩⟩
            rw [List.nil_append, List.map_id]
            by_cases c5 : ∀ x ∈ wiP r, x ∈ ts
            · rw [if_neg (by rw [List.filter_eq_nil_iff.mpr fun x h => by simpa using c5 x h]; decide)]
              refine ⟨lw, ?_⟩
              by_cases c6 : (wiP r).Nodup
              · rw [if_neg (by rw [cnt_nodup.mpr c6]; simp)]
                refine ⟨rfl, ?_⟩
                by_cases c7 : laP r = []
                · rw [if_pos (by rw [c7]; rfl), if_pos rfl]
                  exact no fun h => h.2.2.2.2.2.1 c7
                · rw [if_neg (by rw [List.isEmpty_iff]; exact c7)]
                  refine ⟨ll, ?_⟩
                  by_cases c8 : (laP r).Nodup
                  · rw [if_neg (by rw [cnt_nodup.mpr c8]; simp)]
                    refine ⟨le_line (by omega), wComp_flt (fun x => !decide (NM x)) id (fun y hy k h => r_law_is_name (hl2 y hy) h) (fun _ _ k h => h) ⟨rfl, ?_⟩⟩
                    rw [List.nil_append, List.map_id]
                    by_cases c9 : ∀ x ∈ laP r, NM x
                    · rw [if_neg (by rw [List.filter_eq_nil_iff.mpr fun x h => by simpa using c9 x h]; decide)]
                      rw [ent_yes ⟨c1, c2, c3, c4, ⟨c5, c6⟩, c7, c9, c8⟩] at q
                      exact ⟨n, atI0, b, atI1, q⟩
                    · rw [if_pos (by
                        cases e : ((laP r).filter fun x => !decide (NM x)).isEmpty
                        · rfl
                        · rw [List.isEmpty_iff, List.filter_eq_nil_iff] at e
                          exact absurd (fun x h => by simpa using e x h) c9)]
                      exact no fun h => c9 h.2.2.2.2.2.2.1
                  · rw [if_pos (by rw [decide_eq_false (fun z => c8 (cnt_nodup.mp (by omega)))]; rfl), if_pos rfl]
                    exact no fun h => c8 h.2.2.2.2.2.2.2
              · rw [if_pos (by rw [decide_eq_false (fun z => c6 (cnt_nodup.mp (by omega)))]; rfl)]
                exact no fun h => c6 h.2.2.2.2.1.2
            · rw [if_pos (by
                cases e : ((wiP r).filter fun x => !decide (x ∈ ts)).isEmpty
                · rfl
                · rw [List.isEmpty_iff, List.filter_eq_nil_iff] at e
                  exact absurd (fun x h => by simpa using e x h) c5), if_pos rfl]
              exact no fun h => c5 h.2.2.2.2.1.1
          · rw [if_pos (by simpa using c3)]
            have no' := no fun h => c3 h.2.2.1
            first
            | exact no'
            | (rw [if_pos rfl]; exact no')
        · rw [if_pos (by simpa using c2), if_pos rfl]
          exact no fun h => c2 h.2.1
      · rw [decide_eq_false c1, if_pos (by decide), if_pos rfl]
        exact no fun h => c1 h.1
    · rw [if_pos (by rw [decide_eq_false (fun z => cc (by omega))]; rfl)]
      exact no fun g => cc (good_cnt ht g).1
end K50
namespace K50
open PySem PySem.Spec PyProof.Rows L2 Gx Tx Px
def rowsP (ts : List Str) : List (List Str) → Nat → List Ent → Nat ⊕ List Ent
  | [], _, acc => .inr acc
  | ws :: rest, n, acc => match entP ts ws with
    | none => .inl n
    | some e => if e.name ∈ acc.map Ent.name ∨ acc.length = 4 then .inl n else rowsP ts rest (n + 1) (acc ++ [e])
def latP (names : List Str) : List Ent → Nat → Option Nat
  | [], _ => none
  | e :: es, n => if ∀ x ∈ e.later, x ∈ names then latP names es (n + 1) else some n
def tupE (e : Ent) : Str × List Str × Str × List Str := (e.name, e.wishes, e.back, e.later)
def badT (n : Nat) : Er := { cls := "BadText", f := "line", v := V.int (n : Int) }
def linesP : List (List Str) → Nat ⊕ (List Str × List Ent)
  | [] => .inl 1
  | l0 :: rest => match thP l0 with
    | none => .inl 1
    | some ts => match rowsP ts rest 2 [] with
      | .inl n => .inl n
      | .inr rows => .inr (ts, rows)
def readP (lines : List (List Str)) : Nat ⊕ Bs := match linesP lines with
  | .inl n => .inl n
  | .inr (ts, rows) => if rows = [] then .inl 2 else match latP (rows.map Ent.name) rows 2 with
    | some n => .inl n
    | none => .inr ⟨ts, rows⟩
def EntOk (ts : List Str) (e : Ent) : Prop := NM e.name ∧ (e.back = "top" ∨ e.back = "place") ∧ ((∀ x ∈ e.wishes, x ∈ ts) ∧ e.wishes.Nodup) ∧ NamesP e.later
def RowsOk (ts : List Str) (rows : List Ent) : Prop := (∀ e ∈ rows, EntOk ts e) ∧ (rows.map Ent.name).Nodup ∧ rows.length ≤ 4
def Fits (ws : List Str) : Prop := ws ≠ [] ∧ ws.length < 1000 ∧ ∀ x ∈ ws, x.length ≤ 100000
theorem entP_some {ts : List Str} : ∀ {ws : List Str} {e : Ent}, entP ts ws = some e → ∃ n b c r, ws = n :: b :: c :: r ∧ GoodP ts n b c r ∧ e = ⟨n, wiP r, b, laP r⟩
  | [], e, h => by cases h
  | [_], e, h => by cases h
  | [_, _], e, h => by cases h
  | n :: b :: c :: r, e, h => by
    by_cases g : GoodP ts n b c r
    · rw [ent_yes g] at h
      exact ⟨n, b, c, r, rfl, g, (Option.some.inj h).symm⟩
    · rw [ent_no g] at h
      cases h
theorem entP_ok {ts ws : List Str} {e : Ent} (h : entP ts ws = some e) : EntOk ts e ∧ ∃ r, ws = e.name :: r := by
  obtain ⟨n, b, c, r, e1, g, rfl⟩ := entP_some h
  exact ⟨⟨g.1, g.2.1, g.2.2.2.2.1, g.2.2.2.2.2⟩, _, e1⟩
theorem rows_nil {ts : List Str} : RowsOk ts [] := ⟨fun e h => absurd h List.not_mem_nil, List.nodup_nil, Nat.zero_le _⟩
theorem rows_snoc {ts : List Str} {acc : List Ent} {e : Ent} (a : RowsOk ts acc) (h : EntOk ts e) (hn : ¬ (e.name ∈ acc.map Ent.name ∨ acc.length = 4)) : RowsOk ts (acc ++ [e]) := by
  obtain ⟨a1, a2, a3⟩ := a
  refine ⟨fun f hf => ?_, ?_, ?_⟩
  · rw [List.mem_append, List.mem_singleton] at hf
    rcases hf with hf | rfl
    · exact a1 f hf
    · exact h
  · rw [List.map_append, List.map_cons, List.map_nil, List.nodup_append]
    refine ⟨a2, by simp, fun x hx y hy z => ?_⟩
    rw [List.mem_singleton] at hy
    subst hy
    subst z
    exact hn (.inl hx)
  · rw [List.length_append]
    simp only [List.length_cons, List.length_nil]
    have : acc.length ≠ 4 := fun z => hn (.inr z)
    omega
theorem rows_ok {ts : List Str} : ∀ {ls : List (List Str)} {n : Nat} {acc rows : List Ent}, RowsOk ts acc → rowsP ts ls n acc = .inr rows → RowsOk ts rows
  | [], n, acc, rows, a, h => by
    unfold rowsP at h
    rw [← Sum.inr.inj h]
    exact a
  | ws :: ls, n, acc, rows, a, h => by
    unfold rowsP at h
    split at h
    · cases h
    · rename_i e he
      split at h
      · cases h
      · rename_i hn
        exact rows_ok (rows_snoc a (entP_ok he).1 hn) h
theorem entP_len {ts ws : List Str} {e : Ent} (h : entP ts ws = some e) : e.later.length ≤ ws.length := by
  obtain ⟨n, b, c, r, rfl, g, rfl⟩ := entP_some h
  show (laP r).length ≤ _
  unfold laP
  rw [List.length_drop]
  simp only [List.length_cons]
  omega
theorem rows_len {ts : List Str} {B : Nat} : ∀ {ls : List (List Str)} {n : Nat} {acc rows : List Ent}, (∀ e ∈ acc, e.later.length ≤ B) → (∀ ws ∈ ls, ws.length ≤ B) → rowsP ts ls n acc = .inr rows → ∀ e ∈ rows, e.later.length ≤ B
  | [], n, acc, rows, a, _, h => by
    unfold rowsP at h
    rw [← Sum.inr.inj h]
    exact a
  | ws :: ls, n, acc, rows, a, hw, h => by
    unfold rowsP at h
    split at h
    · cases h
    · rename_i e he
      split at h
      · cases h
      · refine rows_len (fun f hf => ?_) (fun w h => hw w (List.mem_cons_of_mem _ h)) h
        rw [List.mem_append, List.mem_singleton] at hf
        rcases hf with hf | rfl
        · exact a f hf
        · exact Nat.le_trans (entP_len he) (hw ws List.mem_cons_self)
theorem lines_len {l0 : List Str} {rest : List (List Str)} {ts : List Str} {rows : List Ent} {B : Nat} (hw : ∀ ws ∈ rest, ws.length ≤ B) (h : linesP (l0 :: rest) = .inr (ts, rows)) : ∀ e ∈ rows, e.later.length ≤ B := by
  unfold linesP at h
  dsimp only at h
  split at h
  · cases h
  · split at h
    · cases h
    · rename_i hr
      have e := Sum.inr.inj h
      rw [Prod.mk.injEq] at e
      rw [← e.2]
      exact rows_len (fun e h => by cases h) hw hr
theorem getK_none {acc : List Ent} {x : Str} : (getK (acc.map tupE) x).isSome = decide (x ∈ acc.map Ent.name) := by
  unfold getK
  rw [Option.isSome_map, Bool.eq_iff_iff, decide_eq_true_eq, List.find?_isSome]
  constructor
  · intro ⟨y, hy, q⟩
    obtain ⟨e, he, rfl⟩ := List.mem_map.mp hy
    exact List.mem_map.mpr ⟨e, he, of_decide_eq_true q⟩
  · intro h
    obtain ⟨e, he, rfl⟩ := List.mem_map.mp h
    exact ⟨tupE e, List.mem_map.mpr ⟨e, he, rfl⟩, decide_eq_true rfl⟩
theorem getK_some : ∀ {acc : List Ent} {e : Ent}, (acc.map Ent.name).Nodup → e ∈ acc → getK (acc.map tupE) e.name = some (e.wishes, e.back, e.later)
  | [], e, _, h => by cases h
  | f :: acc, e, nd, h => by
    have nd' := nd
    rw [List.map_cons, List.nodup_cons] at nd
    by_cases c : f.name = e.name
    · have : f = e := ent_unique nd' List.mem_cons_self h c
      subst this
      unfold getK
      rw [List.map_cons, List.find?_cons_of_pos (by exact decide_eq_true rfl)]
      rfl
    · have he : e ∈ acc := by
        rcases List.mem_cons.mp h with rfl | h
        · exact absurd rfl c
        · exact h
      have ih := getK_some nd.2 he
      unfold getK at ih ⊢
      rw [List.map_cons, List.find?_cons_of_neg (by rw [decide_eq_true_eq]; exact c)]
      exact ih
def outL (z : Nat ⊕ (List Str × List Ent)) : Er ⊕ (List Str × List (Str × List Str × Str × List Str)) := z.elim (fun n => .inl (badT n)) fun z => .inr (z.1, z.2.map tupE)
theorem r_read_lines {l0 : List Str} {rest : List (List Str)} (f0 : Fits l0) (fr : ∀ ws ∈ rest, Fits ws) {k : Er ⊕ (List Str × List (Str × List Str × Str × List Str)) → Prop} (hk : k (outL (linesP (l0 :: rest)))) : w_read_lines (l0 :: rest, ()) k := by
  unfold w_read_lines wT d_read_lines
  refine up_of fun k' hm => ?_
  dsimp only
  have q := hm _ hk
  clear hk hm
  obtain ⟨f1, f2, f3⟩ := f0
  cases l0 with
  | nil => exact absurd rfl f1
  | cons w ts0 =>
  refine ⟨w :: ts0, atI0, r_things_in (by simp only [List.length_cons] at f2; omega) (fun x h => f3 x (List.mem_cons_of_mem _ h)) ?_⟩
  unfold linesP at q
  dsimp only at q
  cases ht : thP (w :: ts0) with
  | none =>
    rw [ht] at q
    refine (if_pos (show (none : Option (List Str)).isNone = true from rfl)).mpr ?_
    exact q
  | some ts =>
    rw [ht] at q
    rw [if_neg (by simp)]
    have ec : cutL ((w :: ts0) :: rest) (some 1) none = rest := cut_lo (k := 1) (by simp)
    rw [ec]
    obtain ⟨R, eR⟩ : ∃ R, rowsP ts rest 2 [] = R := ⟨_, rfl⟩
    dsimp only at q
    rw [eR] at q
    refine wFor_rem (fun rem e => ∃ tl n acc, rem = (tl.zipIdx n).map (fun q : List Str × Nat => (2 + (q.2 : Int), q.1)) ∧ e.2.things = some ts ∧ e.2.weathers = acc.map tupE ∧ RowsOk ts acc ∧ (∀ ws ∈ tl, Fits ws) ∧ rowsP ts tl (n + 2) acc = R) (fun x rem e kn ⟨tl, n, acc, i1, i2, i3, i4, i5, i6⟩ hn hr => ?st) (fun e ⟨tl, n, acc, i1, i2, i3, i4, i5, i6⟩ => ?dn) ⟨rest, 0, [], rfl, rfl, rfl, rows_nil, fr, eR⟩
    case dn =>
      have : tl = [] := by
        cases tl with
        | nil => rfl
        | cons a b => simp at i1
      subst this
      unfold rowsP at i6
      rw [← i6] at q
      refine ⟨ts, i2, ?_⟩
      rw [i3]
      exact q
    case st =>
      cases tl with
      | nil => simp at i1
      | cons ws tl =>
      rw [List.zipIdx_cons, List.map_cons, List.cons.injEq] at i1
      obtain ⟨rfl, i1⟩ := i1
      obtain ⟨g1, g2, g3⟩ := i5 ws List.mem_cons_self
      refine ⟨ts, i2, r_entry_in g2 g3 ?_⟩
      unfold rowsP at i6
      have bad : R = .inl (n + 2) → kn.rt (Sum.inl { cls := "BadText", f := "line", v := id (V.int (2 + (n : Int))) }) := fun z => by
        rw [z] at q
        refine hr _ ?_
        have q : k' (.inl (badT (n + 2))) := q
        have e : badT (n + 2) = { cls := "BadText", f := "line", v := id (V.int (2 + (n : Int))) } := by
          unfold badT
          congr 2
          omega
        rw [e] at q
        exact q
      cases he : entP ts ws with
      | none =>
        rw [he] at i6
        rw [Option.map_none]
        refine (if_pos (show (none : Option (List Str × Str × List Str)).isNone = true from rfl)).mpr ?_
        rw [if_pos rfl]
        exact bad i6.symm
      | some en =>
        rw [he] at i6
        obtain ⟨ok, r, er⟩ := entP_ok he
        rw [Option.map_some, if_neg (by simp)]
        refine ⟨en.name, by rw [er]; exact atI0, ?_⟩
        dsimp only at i6
        have gs : (getK e.2.weathers en.name).isSome = decide (en.name ∈ acc.map Ent.name) := by rw [i3, getK_none]
        by_cases c1 : en.name ∈ acc.map Ent.name
        · rw [if_pos (.inl c1)] at i6
          rw [if_pos (by rw [gs, decide_eq_true c1]; rfl), if_pos rfl]
          exact bad i6.symm
        · rw [if_neg (by rw [gs, decide_eq_false c1]; decide)]
          by_cases c2 : acc.length = 4
          · rw [if_pos (.inr c2)] at i6
            rw [if_pos (by rw [i3, List.length_map]; exact decide_eq_true (by omega))]
            exact bad i6.symm
          · have cn : ¬ (en.name ∈ acc.map Ent.name ∨ acc.length = 4) := fun z => z.elim c1 c2
            rw [if_neg cn] at i6
            rw [if_neg (by rw [i3, List.length_map, decide_eq_true_eq]; omega)]
            refine ⟨_, rfl, en.name, by rw [er]; exact atI0, ?_, ?_, hn _ ⟨tl, n + 1, acc ++ [en], i1, i2, ?_, rows_snoc i4 ok cn, fun ws h => i5 ws (List.mem_cons_of_mem _ h), ?_⟩⟩
            · rw [decide_eq_false c1] at gs
              show getK e.2.weathers en.name = none
              cases hz : getK e.2.weathers en.name with
              | none => rfl
              | some z => rw [hz] at gs; cases gs
            · rw [i3, List.length_map]
              have := i4.2.2
              unfold sizeLine
              omega
            · show e.2.weathers ++ [(en.name, _)] = _
              rw [i3, List.map_append]
              rfl
            · rw [show n + 1 + 2 = n + 2 + 1 from by omega]
              exact i6
theorem ents_tup {rows : List Ent} : entsOf id id (rows.map tupE) = rows := by
  unfold entsOf
  rw [List.map_map]
  conv => rhs; rw [← List.map_id rows]
  rfl
def wordsP (x : Str) : List (List Str) := (Txt.split x "\n").map fun l => Txt.split l " "
def sepB (c : Nat) : Bool := c == 32 || c == 10
def Small (x : Str) : Prop := x.length ≤ 90000 ∧ mu sepB x + 1 < 1000
theorem small_line {x l : Str} (h : Small x) (hl : l ∈ Txt.split x "\n") : l.length ≤ 90000 ∧ mu sepB l ≤ mu sepB x := by
  rw [nl_one] at hl
  have a := split_mu (p := fun _ => true) (c := 10) rfl hl
  have b := split_mu (p := sepB) (c := 10) rfl hl
  rw [mu_len, mu_len] at a
  exact ⟨by have := h.1; omega, b⟩
theorem small_fits {x l : Str} (h : Small x) (hl : l ∈ Txt.split x "\n") : Fits (Txt.split l " ") := by
  obtain ⟨a, b⟩ := small_line h hl
  have h2 := h.2
  rw [bl_one]
  refine ⟨split_ne, ?_, fun w hw => ?_⟩
  · have := split_len (p := sepB) (c := 32) rfl (x := l)
    omega
  · have := split_mu (p := fun _ => true) (c := 32) rfl hw
    rw [mu_len, mu_len] at this
    omega
theorem small_lines {x : Str} (h : Small x) : (Txt.split x "\n").length < 1000 := by
  rw [nl_one]
  have := split_len (p := sepB) (c := 10) rfl (x := x)
  have := h.2
  omega
def outM (z : Nat ⊕ Bs) : Er ⊕ Bs := z.elim (fun n => .inl (badT n)) .inr
theorem lat_none {names : List Str} : ∀ {es : List Ent} {n : Nat}, latP names es n = none → ∀ e ∈ es, ∀ x ∈ e.later, x ∈ names
  | [], _, _, e, h => by cases h
  | f :: es, n, hl, e, h => by
    unfold latP at hl
    split at hl
    · rename_i hf
      rcases List.mem_cons.mp h with rfl | h
      · exact hf
      · exact lat_none hl e h
    · cases hl
theorem read_wf {ts : List Str} {rows : List Ent} (ht : ts.length ≤ 5 ∧ NamesP ts) (ok : RowsOk ts rows) (hn : rows ≠ []) (hl : latP (rows.map Ent.name) rows 2 = none) : WF ⟨ts, rows⟩ := by
  obtain ⟨o1, o2, o3⟩ := ok
  refine ⟨List.length_pos_iff.mpr ht.2.1, ht.1, ht.2.2.1, ht.2.2.2, List.length_pos_iff.mpr hn, o3, fun x hx => ?_, o2, fun e he => ?_⟩
  · obtain ⟨e, he, rfl⟩ := List.mem_map.mp hx
    exact (o1 e he).1
  · obtain ⟨p1, p2, p3, p4⟩ := o1 e he
    exact ⟨p3.1, p3.2, lat_none hl e he, p4.2.2, p4.1, p2⟩
theorem thP_some : ∀ {l : List Str} {ts : List Str}, thP l = some ts → l = ("things" : Str) :: ts ∧ ts.length ≤ 5 ∧ NamesP ts
  | [], ts, h => by cases h
  | w :: l, ts, h => by
    have h : (if w = ("things" : Str) ∧ l.length ≤ 5 ∧ NamesP l then some l else none) = some ts := h
    by_cases c : w = ("things" : Str) ∧ l.length ≤ 5 ∧ NamesP l
    · rw [if_pos c] at h
      have := Option.some.inj h
      subst this
      exact ⟨by rw [c.1], c.2⟩
    · rw [if_neg c] at h
      cases h
theorem lines_ok {ls : List (List Str)} {ts : List Str} {rows : List Ent} (h : linesP ls = .inr (ts, rows)) : (ts.length ≤ 5 ∧ NamesP ts) ∧ RowsOk ts rows := by
  unfold linesP at h
  split at h
  · cases h
  · split at h
    · cases h
    · rename_i ts' ht
      split at h
      · cases h
      · rename_i rows' hr
        have e := Sum.inr.inj h
        rw [Prod.mk.injEq] at e
        obtain ⟨rfl, rfl⟩ := e
        exact ⟨(thP_some ht).2, rows_ok rows_nil hr⟩
theorem r_read_menu {x : Str} (sm : Small x) {k : Er ⊕ Bs → Prop} (hk : k (outM (readP (wordsP x)))) : w_read_menu (x, ()) k := by
  unfold w_read_menu wT d_read_menu
  refine up_of fun k' hm => ?_
  dsimp only
  have q := hm _ hk
  clear hk hm
  have s1 := sm.1
  rw [if_neg (by decide)]
  refine ⟨nl_len, by unfold sizeLine; omega, le_line (by have := small_lines sm; omega), ?_⟩
  refine wComp_flt (fun _ => true) (fun l => Txt.split l " ") (fun _ _ k h => h) (fun l hl k h => ⟨bl_len, ?_, h⟩) ?_
  · have := (small_line sm hl).1
    show l.length + 2 ≤ _
    unfold sizeLine
    omega
  rw [List.filter_eq_self.mpr (fun _ _ => rfl), List.nil_append]
  show w_read_lines (wordsP x, ()) _
  have fits : ∀ ws ∈ wordsP x, Fits ws := fun ws h => by
    obtain ⟨l, hl, rfl⟩ := List.mem_map.mp h
    exact small_fits sm hl
  cases hw : wordsP x with
  | nil =>
    have := congrArg List.length hw
    unfold wordsP at this
    rw [List.length_map, nl_one] at this
    exact absurd (List.length_eq_zero_iff.mp this) split_ne
  | cons l0 rest =>
  rw [hw] at fits q
  refine r_read_lines (fits l0 List.mem_cons_self) (fun ws h => fits ws (List.mem_cons_of_mem _ h)) ?_
  unfold readP at q
  cases hp : linesP (l0 :: rest) with
  | inl n =>
    rw [hp] at q
    exact q
  | inr z =>
    obtain ⟨ts, rows⟩ := z
    rw [hp] at q
    obtain ⟨tk, ok⟩ := lines_ok hp
    dsimp only at q
    show if (!!(rows.map tupE).isEmpty) = true then _ else _
    by_cases c : rows = []
    · rw [if_pos c] at q
      rw [if_pos (by rw [c]; rfl)]
      exact q
    · rw [if_neg c] at q
      rw [if_neg (by rw [Bool.not_not, List.isEmpty_iff, List.map_eq_nil_iff]; exact c)]
      obtain ⟨R, eR⟩ : ∃ R, latP (rows.map Ent.name) rows 2 = R := ⟨_, rfl⟩
      rw [eR] at q
      refine wFor_rem (fun rem e => ∃ tl n, rem = ((tl.map tupE).zipIdx n).map (fun q => (2 + (q.2 : Int), q.1.1)) ∧ e.2.things = ts ∧ e.2.weathers = rows.map tupE ∧ (∀ f ∈ tl, f ∈ rows) ∧ latP (rows.map Ent.name) tl (n + 2) = R) (fun y rem e kn ⟨tl, n, i1, i2, i3, i4, i5⟩ hn hr => ?st) (fun e ⟨tl, n, i1, i2, i3, i4, i5⟩ => ?dn) ⟨rows, 0, rfl, rfl, rfl, fun _ h => h, eR⟩
      case dn =>
        have : tl = [] := by
          cases tl with
          | nil => rfl
          | cons a b => simp at i1
        subst this
        unfold latP at i5
        rw [← i5] at q
        show WF ⟨id e.2.things, entsOf id id e.2.weathers⟩ ∧ k' (Sum.inr ⟨id e.2.things, entsOf id id e.2.weathers⟩)
        rw [i2, i3, ents_tup]
        exact ⟨read_wf tk ok c (by rw [eR, ← i5]), q⟩
      case st =>
        cases tl with
        | nil => simp at i1
        | cons f tl =>
        rw [List.map_cons, List.zipIdx_cons, List.map_cons, List.cons.injEq] at i1
        obtain ⟨rfl, i1⟩ := i1
        have hf := i4 f List.mem_cons_self
        have lf : f.later.length ≤ 1000 := lines_len (fun ws h => Nat.le_of_lt (fits ws (List.mem_cons_of_mem _ h)).2.1) hp f hf
        refine ⟨(f.wishes, f.back, f.later), by rw [i3]; exact getK_some ok.2.1 hf, le_line lf, ?_⟩
        refine wComp_flt (fun _ => true) (fun z => decide (z ∈ rows.map Ent.name)) (fun _ _ k h => h) (fun z _ k h => ?_) ?_
        · show k (getK e.2.weathers z).isSome
          rw [i3, getK_none]
          exact h
        rw [List.filter_eq_self.mpr (fun _ _ => rfl), List.nil_append, all_map]
        unfold latP at i5
        by_cases cl : ∀ z ∈ f.later, z ∈ rows.map Ent.name
        · rw [if_pos cl] at i5
          rw [if_neg (by rw [decide_eq_true (fun z h => decide_eq_true (cl z h))]; decide)]
          exact hn _ ⟨tl, n + 1, i1, i2, i3, fun g h => i4 g (List.mem_cons_of_mem _ h), by rw [show n + 1 + 2 = n + 2 + 1 from by omega]; exact i5⟩
        · rw [if_neg cl] at i5
          rw [if_pos (by rw [decide_eq_false (fun z => cl fun y h => of_decide_eq_true (z y h))]; rfl)]
          rw [← i5] at q
          refine hr _ ?_
          have q : k' (.inl (badT (n + 2))) := q
          have e : badT (n + 2) = { cls := "BadText", f := "line", v := id (V.int (2 + (n : Int))) } := by
            unfold badT
            congr 2
            omega
          rw [e] at q
          exact q
end K50
namespace K50
open PySem PySem.Spec PyProof.Rows L2 Gx Tx Px
def outD (z : Nat ⊕ Bs) : List Int ⊕ Bs := z.elim (fun n : Nat => .inl [(n : Int)]) .inr
theorem flt_emp {α : Type} {p : α → Bool} {xs : List α} : ((xs.filter fun x => !p x).isEmpty) = decide (∀ x ∈ xs, p x = true) := by
  rw [Bool.eq_iff_iff, List.isEmpty_iff, List.filter_eq_nil_iff, decide_eq_true_eq]
  simp
theorem r_law_dueS {x : Str} (sm : Small x) {k : List Int ⊕ Bs → Prop} (hk : k (outD (readP (wordsP x)))) : w_law_dueS (x, ()) k := by
  unfold w_law_dueS wT d_law_dueS
  refine up_of fun k' hm => ?_
  dsimp only
  have q := hm _ hk
  clear hk hm
  have s1 := sm.1
  have sl := small_lines sm
  rw [if_neg (by decide)]
  refine ⟨nl_len, by unfold sizeLine; omega, ?_⟩
  have fl := fun l (h : l ∈ Txt.split x "\n") => small_line sm h
  have ff := fun l (h : l ∈ Txt.split x "\n") => small_fits sm h
  have ew : wordsP x = (Txt.split x "\n").map fun l => Txt.split l " " := rfl
  rw [ew] at q
  clear ew
  cases hL : Txt.split x "\n" with
  | nil => rw [nl_one] at hL; exact absurd hL split_ne
  | cons a0 as =>
  rw [hL] at q sl fl ff
  rw [List.map_cons] at q
  have l0 := (fl a0 List.mem_cons_self).1
  obtain ⟨f1, f2, f3⟩ := ff a0 List.mem_cons_self
  refine ⟨a0, atI0, bl_len, by unfold sizeLine; omega, ?_⟩
  cases hW : Txt.split a0 " " with
  | nil => exact absurd hW f1
  | cons w ts =>
  rw [hW] at q f2 f3
  refine ⟨w, atI0, ?_⟩
  have ec : cutL (w :: ts) (some 1) none = ts := cut_lo (k := 1) (by simp)
  rw [ec]
  have lt : ts.length < 1000 := by simp only [List.length_cons] at f2; omega
  have no : ¬ (w = ("things" : Str) ∧ ts.length ≤ 5 ∧ NamesP ts) → k' (.inl [1]) := fun h => by
    have e : thP (w :: ts) = none := if_neg h
    unfold readP linesP at q
    dsimp only at q
    rw [e] at q
    exact q
  by_cases c1 : w = ("things" : Str)
  · rw [if_neg (by simpa using c1)]
    by_cases c2 : 1 ≤ ts.length
    · rw [if_pos (by rw [decide_eq_true_eq]; simp only [List.length_cons]; omega)]
      by_cases c3 : ts.length ≤ 5
      · rw [if_neg (by rw [decide_eq_true (by simp only [List.length_cons]; omega)]; decide)]
        refine ⟨lt, ?_⟩
        by_cases c4 : ts.Nodup
        · rw [if_neg (by rw [cnt_nodup.mpr c4, decide_eq_true (by simp only [List.length_cons]; omega)]; decide)]
          refine ⟨le_line (by omega), wComp_flt (fun x => !decide (NM x)) id (fun y hy k h => r_law_is_name (f3 y (List.mem_cons_of_mem _ hy)) h) (fun _ _ k h => h) ⟨rfl, ?_⟩⟩
          rw [List.nil_append, List.map_id, flt_emp]
          by_cases c5 : ∀ x ∈ ts, NM x
          · rw [if_neg (by rw [decide_eq_true (fun y h => decide_eq_true (c5 y h))]; decide)]
            have tk : ts.length ≤ 5 ∧ NamesP ts := ⟨c3, fun z => by rw [z] at c2; exact absurd c2 (by decide), c5, c4⟩
            have et : thP (w :: ts) = some ts := if_pos ⟨c1, tk⟩
            unfold readP linesP at q
            dsimp only at q
            rw [et] at q
            dsimp only at q
            refine ⟨⟨by omega, by omega, by omega, by omega⟩, ?_⟩
            have er : (List.range (((a0 :: as).length : Int) - 1).toNat).map (fun m : Nat => 1 + (m : Int)) = (List.range' 0 as.length).map (fun m : Nat => 1 + (m : Int)) := by
              rw [show (((a0 :: as).length : Int) - 1).toNat = as.length from by simp only [List.length_cons]; omega, List.range_eq_range']
            rw [er]
            obtain ⟨R, eR⟩ : ∃ R, rowsP ts (as.map fun l => Txt.split l " ") 2 [] = R := ⟨_, rfl⟩
            have hlen : ∀ rows, R = .inr rows → ∀ e ∈ rows, e.later.length ≤ 1000 := fun rows z => rows_len (fun e h => absurd h List.not_mem_nil) (fun ws h => by
              obtain ⟨l, hl, rfl⟩ := List.mem_map.mp h
              exact Nat.le_of_lt (ff l (List.mem_cons_of_mem _ hl)).2.1) (eR.trans z)
            have hok : ∀ rows, R = .inr rows → RowsOk ts rows := fun rows z => rows_ok rows_nil (eR.trans z)
            rw [eR] at q
            refine wFor_rem (fun rem e => ∃ tl n acc, rem = (List.range' n tl.length).map (fun m : Nat => 1 + (m : Int)) ∧ e.2.lines = a0 :: as ∧ as.drop n = tl ∧ e.2.things = w :: ts ∧ e.2.rows = acc ∧ RowsOk ts acc ∧ rowsP ts (tl.map fun l => Txt.split l " ") (n + 2) acc = R) (fun y rem e kn ⟨tl, n, acc, i1, i2, i3, i4, i5, i6, i7⟩ hn hr => ?st) (fun e ⟨tl, n, acc, i1, i2, i3, i4, i5, i6, i7⟩ => ?dn) ⟨as, 0, [], rfl, rfl, rfl, rfl, rfl, rows_nil, eR⟩
            case dn =>
              have : tl = [] := by
                cases tl with
                | nil => rfl
                | cons a b => simp [List.range'_succ] at i1
              subst this
              refine ⟨rfl, ?_⟩
              rw [List.map_nil] at i7
              unfold rowsP at i7
              rw [← i7] at q
              dsimp only at q
              show if e.2.rows.isEmpty = true then _ else _
              by_cases c : acc = []
              · rw [if_pos c] at q
                rw [if_pos (by rw [i5, c]; rfl)]
                exact q
              · rw [if_neg c] at q
                rw [if_neg (by rw [i5, List.isEmpty_iff]; exact c)]
                obtain ⟨R2, eR2⟩ : ∃ R2, latP (acc.map Ent.name) acc 2 = R2 := ⟨_, rfl⟩
                rw [eR2] at q
                rw [i5]
                refine wFor_rem (fun rem e => ∃ tl n, rem = (tl.zipIdx n).map (fun q : Ent × Nat => ((q.2 : Int), q.1)) ∧ e.2.things = w :: ts ∧ e.2.rows = acc ∧ (∀ f ∈ tl, f ∈ acc) ∧ latP (acc.map Ent.name) tl (n + 2) = R2) (fun y rem e kn ⟨tl, n, j1, j2, j3, j4, j5⟩ hn hr => ?st2) (fun e ⟨tl, n, j1, j2, j3, j4, j5⟩ => ?dn2) ⟨acc, 0, rfl, i4, i5, fun _ h => h, eR2⟩
                case dn2 =>
                  have : tl = [] := by
                    cases tl with
                    | nil => rfl
                    | cons a b => simp at j1
                  subst this
                  unfold latP at j5
                  rw [← j5] at q
                  show k' (.inr ⟨cutL e.2.things (some 1) none, e.2.rows⟩)
                  rw [j2, j3, ec]
                  exact q
                case st2 =>
                  cases tl with
                  | nil => simp at j1
                  | cons f tl =>
                  rw [List.zipIdx_cons, List.map_cons, List.cons.injEq] at j1
                  obtain ⟨rfl, j1⟩ := j1
                  have hf := j4 f List.mem_cons_self
                  refine ⟨le_line (hlen acc i7.symm f hf), wComp_flt (fun z => !decide (z ∈ acc.map Ent.name)) id (fun z _ k h => ?_) (fun _ _ k h => h) ⟨rfl, ?_⟩⟩
                  · show e.2.rows.length ≤ sizeLine ∧ _
                    rw [j3]
                    refine ⟨le_line (by have := i6.2.2; omega), wComp_flt (fun _ => true) Ent.name (fun _ _ k h => h) (fun _ _ k h => h) ?_⟩
                    rw [List.filter_eq_self.mpr (fun _ _ => rfl), List.nil_append]
                    exact h
                  rw [List.nil_append, List.map_id, flt_emp]
                  unfold latP at j5
                  by_cases cl : ∀ z ∈ f.later, z ∈ acc.map Ent.name
                  · rw [if_pos cl] at j5
                    rw [if_neg (by rw [decide_eq_true (fun z h => decide_eq_true (cl z h))]; decide)]
                    exact hn _ ⟨tl, n + 1, j1, j2, j3, fun g h => j4 g (List.mem_cons_of_mem _ h), by rw [show n + 1 + 2 = n + 2 + 1 from by omega]; exact j5⟩
                  · rw [if_neg cl] at j5
                    rw [if_pos (by rw [decide_eq_false (fun z => cl fun y h => of_decide_eq_true (z y h))]; rfl)]
                    rw [← j5] at q
                    refine hr _ ?_
                    have q : k' (.inl [((n + 2 : Nat) : Int)]) := q
                    exact q
            case st =>
              cases tl with
              | nil => simp at i1
              | cons l tl =>
              rw [List.length_cons, List.range'_succ, List.map_cons, List.cons.injEq] at i1
              obtain ⟨rfl, i1⟩ := i1
              have hat : as[n]? = some l := by
                have := congrArg (fun z : List Str => z[0]?) i3
                rw [List.getElem?_drop] at this
                exact this
              have hmem : l ∈ a0 :: as := List.mem_cons_of_mem _ (List.mem_of_getElem? hat)
              obtain ⟨g1, g2, g3⟩ := ff l hmem
              refine ⟨l, ?_, ?_⟩
              · show atI e.2.lines (1 + (n : Int)) = some l
                rw [i2, show 1 + (n : Int) = ((n + 1 : Nat) : Int) from by omega, atI_cast, List.getElem?_cons_succ]
                exact hat
              show w_law_weather (l, cutL e.2.things (some 1) none, ()) _
              rw [i4, ec]
              refine r_law_weather c5 (by have := (fl l hmem).1; omega) rfl g2 g3 ?_
              rw [List.map_cons] at i7
              unfold rowsP at i7
              have bad : R = .inl (n + 2) → kn.rt (Sum.inl [1 + (n : Int) + 1]) := fun z => by
                rw [z] at q
                refine hr _ ?_
                have q : k' (.inl [((n + 2 : Nat) : Int)]) := q
                rw [show ((n + 2 : Nat) : Int) = 1 + (n : Int) + 1 from by omega] at q
                exact q
              have dnext : as.drop (n + 1) = tl := by
                rw [← List.drop_drop, i3]
                rfl
              cases he : entP ts (Txt.split l " ") with
              | none =>
                rw [he] at i7
                refine (if_pos (show (none : Option Ent).isNone = true from rfl)).mpr ?_
                rw [if_pos rfl]
                exact bad i7.symm
              | some en =>
                rw [he] at i7
                obtain ⟨ok, r, er⟩ := entP_ok he
                dsimp only at i7
                rw [if_neg (by simp)]
                refine ⟨en, rfl, le_line (by show e.2.rows.length ≤ 1000; rw [i5]; have := i6.2.2; omega), wComp_flt (fun _ => true) Ent.name (fun _ _ k h => h) (fun _ _ k h => h) ?_⟩
                rw [List.filter_eq_self.mpr (fun _ _ => rfl), List.nil_append]
                show if decide (en.name ∈ e.2.rows.map Ent.name) = true then _ else _
                by_cases d1 : en.name ∈ acc.map Ent.name
                · rw [if_pos (.inl d1)] at i7
                  rw [if_pos (by rw [i5]; exact decide_eq_true d1), if_pos rfl]
                  exact bad i7.symm
                · rw [if_neg (by rw [i5, decide_eq_true_eq]; exact d1)]
                  show if decide ((e.2.rows.length : Int) = 4) = true then _ else _
                  by_cases d2 : acc.length = 4
                  · rw [if_pos (.inr d2)] at i7
                    rw [if_pos (by rw [i5]; exact decide_eq_true (by omega))]
                    exact bad i7.symm
                  · have cn : ¬ (en.name ∈ acc.map Ent.name ∨ acc.length = 4) := fun z => z.elim d1 d2
                    rw [if_neg cn] at i7
                    rw [if_neg (by rw [i5, decide_eq_true_eq]; omega)]
                    refine ⟨en, rfl, ?_, hn _ ⟨tl, n + 1, acc ++ [en], i1, i2, dnext, rfl, ?_, rows_snoc i6 ok cn, ?_⟩⟩
                    · show e.2.rows.length < sizeLine
                      rw [i5]
                      have := i6.2.2
                      unfold sizeLine
                      omega
                    · show e.2.rows ++ [en] = _
                      rw [i5]
                    · rw [show n + 1 + 2 = n + 2 + 1 from by omega]
                      exact i7
          · rw [if_pos (by rw [decide_eq_false (fun z => c5 fun y h => of_decide_eq_true (z y h))]; rfl)]
            exact no fun h => c5 h.2.2.2.1
        · rw [if_pos (by rw [decide_eq_false (fun z => c4 (cnt_nodup.mp (by simp only [List.length_cons] at z; omega)))]; rfl)]
          exact no fun h => c4 h.2.2.2.2
      · rw [if_pos (by rw [decide_eq_false (by simp only [List.length_cons]; omega)]; rfl), if_pos rfl]
        exact no fun h => c3 h.2.1
    · rw [if_neg (by rw [decide_eq_true_eq]; simp only [List.length_cons]; omega)]
      have no' := no fun h => c2 (List.length_pos_iff.mpr h.2.2.1)
      first
      | exact no'
      | (rw [if_pos (by decide), if_pos rfl]; exact no')
      | (rw [if_pos (by decide)]; exact no')
  · rw [if_pos (by simpa using c1), if_pos rfl]
    exact no fun h => c1 h.1
end K50
namespace K50
open PySem PySem.Spec PyProof.Rows L2 Gx Tx Px
def headW (b : Bs) : List Str := [("things" : Str)] ++ b.things
def wordsE (e : Ent) : List Str := [e.name, e.back, (":" : Str)] ++ e.wishes ++ [(">" : Str)] ++ e.later
def rowsW (b : Bs) : List (List Str) := headW b :: b.ws.map wordsE
def linesT (b : Bs) : List Str := (rowsW b).map fun ws => Txt.join " " ws
def textP (b : Bs) : Str := Txt.join "\n" (linesT b)
def Wd (w : Str) : Prop := w.length ≤ 8 ∧ Fre 32 w ∧ Fre 10 w
def WdsOk (ws : List Str) : Prop := ws ≠ [] ∧ ws.length ≤ 20 ∧ ∀ w ∈ ws, Wd w
instance {c} : DecidablePred (Fre c) := fun x => by unfold Fre; infer_instance
instance : DecidablePred Wd := fun x => by unfold Wd; infer_instance
theorem wd_nm {w : Str} (h : NM w) : Wd w := ⟨h.2.1, fun z => by have := h.2.2 32 z; omega, fun z => by have := h.2.2 10 z; omega⟩
theorem wd_back {w : Str} (h : w = "top" ∨ w = "place") : Wd w := by rcases h with rfl | rfl <;> decide +kernel
theorem later_len {b : Bs} (wf : WF b) {e : Ent} (he : e ∈ b.ws) : e.later.length ≤ 4 := by
  refine Nat.le_trans (nodup_len (wf.we e he).ld (wf.we e he).l) ?_
  unfold Bs.names
  rw [List.length_map]
  exact wf.w4
theorem wish_len5 {b : Bs} (wf : WF b) {e : Ent} (he : e ∈ b.ws) : e.wishes.length ≤ 5 := Nat.le_trans (nodup_len (wf.we e he).wd (wf.we e he).w) wf.t5
theorem ok_head {b : Bs} (wf : WF b) : WdsOk (headW b) := by
  refine ⟨by simp [headW], ?_, fun w h => ?_⟩
  · unfold headW
    rw [List.length_append]
    have := wf.t5
    simp only [List.length_cons, List.length_nil]
    omega
  · unfold headW at h
    rw [List.mem_append, List.mem_singleton] at h
    rcases h with rfl | h
    · decide +kernel
    · exact wd_nm (wf.tn w h)
theorem ok_ent {b : Bs} (wf : WF b) {e : Ent} (he : e ∈ b.ws) : WdsOk (wordsE e) := by
  have we := wf.we e he
  refine ⟨by simp [wordsE], ?_, fun w h => ?_⟩
  · unfold wordsE
    have := later_len wf he
    have := wish_len5 wf he
    simp only [List.length_append, List.length_cons, List.length_nil]
    omega
  · unfold wordsE at h
    simp only [List.mem_append, List.mem_cons, List.not_mem_nil, or_false] at h
    rcases h with (((rfl | rfl | rfl) | h) | rfl) | h
    · exact wd_nm (wf.wn _ (List.mem_map.mpr ⟨e, he, rfl⟩))
    · exact wd_back we.b
    · decide +kernel
    · exact wd_nm (wf.tn w (we.w w h))
    · decide +kernel
    · exact wd_nm (wf.wn w (we.l w h))
theorem sum_le {f : Str → Nat} {B : Nat} : ∀ {xs : List Str}, (∀ x ∈ xs, f x ≤ B) → (xs.map f).sum ≤ B * xs.length
  | [], _ => Nat.zero_le _
  | x :: xs, h => by
    rw [List.map_cons, List.sum_cons, List.length_cons, Nat.mul_add, Nat.mul_one]
    have := h x List.mem_cons_self
    have := sum_le (f := f) (B := B) (xs := xs) fun y hy => h y (List.mem_cons_of_mem _ hy)
    omega
theorem bl_len1 : (" " : Str).length = 1 := by decide +kernel
theorem nl_len1 : ("\n" : Str).length = 1 := by decide +kernel
theorem join_fits {ws : List Str} (h : WdsOk ws) : (ws.map fun x => x.length).sum + ws.length * (" " : Str).length ≤ 16777216 := by
  have := sum_le (f := fun x : Str => x.length) (B := 8) (xs := ws) fun x hx => (h.2.2 x hx).1
  have := h.2.1
  rw [bl_len1]
  omega
theorem mu_line {p : Nat → Bool} (hp : p 32 = true) {ws : List Str} (h : ws ≠ []) : mu p (Txt.join " " ws) + 1 = (ws.map (mu p)).sum + ws.length := by
  rw [bl_one]
  exact mu_joinT hp h
theorem len_line {ws : List Str} (h : WdsOk ws) : (Txt.join " " ws).length + 1 ≤ 180 := by
  have a := mu_line (p := fun _ => true) rfl h.1
  rw [mu_len] at a
  have := sum_le (f := mu fun _ => true) (B := 8) (xs := ws) fun x hx => by rw [mu_len]; exact (h.2.2 x hx).1
  have := h.2.1
  omega
theorem sep_line {ws : List Str} (h : WdsOk ws) : mu sepB (Txt.join " " ws) + 1 ≤ 20 := by
  have a := mu_line (p := sepB) rfl h.1
  have := sum_le (f := mu sepB) (B := 0) (xs := ws) fun x hx => by
    have := (h.2.2 x hx).2
    refine Nat.le_of_eq ?_
    unfold mu
    rw [List.countP_eq_zero]
    intro c hc z
    unfold sepB at z
    rw [Bool.or_eq_true] at z
    rcases z with z | z
    · exact this.1 (by rw [← eq_of_beq z]; exact hc)
    · exact this.2 (by rw [← eq_of_beq z]; exact hc)
  have := h.2.1
  omega
theorem ok_rows {b : Bs} (wf : WF b) : ∀ ws ∈ rowsW b, WdsOk ws := fun ws h => by
  unfold rowsW at h
  rcases List.mem_cons.mp h with rfl | h
  · exact ok_head wf
  · obtain ⟨e, he, rfl⟩ := List.mem_map.mp h
    exact ok_ent wf he
theorem rows_n {b : Bs} (wf : WF b) : (rowsW b).length ≤ 5 := by
  unfold rowsW
  rw [List.length_cons, List.length_map]
  have := wf.w4
  omega
theorem lines_len5 {b : Bs} (wf : WF b) : (linesT b).length ≤ 5 := by
  unfold linesT
  rw [List.length_map]
  exact rows_n wf
theorem lines_each {b : Bs} (wf : WF b) : ∀ l ∈ linesT b, l.length + 1 ≤ 180 ∧ mu sepB l + 1 ≤ 20 := fun l h => by
  obtain ⟨ws, hw, rfl⟩ := List.mem_map.mp h
  exact ⟨len_line (ok_rows wf ws hw), sep_line (ok_rows wf ws hw)⟩
theorem text_fits {b : Bs} (wf : WF b) : ((linesT b).map fun x => x.length).sum + (linesT b).length * ("\n" : Str).length ≤ 16777216 := by
  have := sum_le (f := fun x : Str => x.length) (B := 180) (xs := linesT b) fun x hx => by have := (lines_each wf x hx).1; omega
  have := lines_len5 wf
  rw [nl_len1]
  omega
theorem lines_ne {b : Bs} : linesT b ≠ [] := by unfold linesT rowsW; simp
theorem text_small {b : Bs} (wf : WF b) : (textP b).length + 1 ≤ 1000 ∧ mu sepB (textP b) + 1 ≤ 100 := by
  unfold textP
  rw [nl_one]
  have l5 := lines_len5 wf
  constructor
  · have a := mu_joinT (p := fun _ => true) (c := 10) rfl (lines_ne (b := b))
    rw [mu_len] at a
    have := sum_le (f := mu fun _ => true) (B := 179) (xs := linesT b) fun x hx => by rw [mu_len]; have := (lines_each wf x hx).1; omega
    omega
  · have a := mu_joinT (p := sepB) (c := 10) rfl (lines_ne (b := b))
    have := sum_le (f := mu sepB) (B := 19) (xs := linesT b) fun x hx => by have := (lines_each wf x hx).2; omega
    omega
theorem r_law_lines {b : Bs} (wf : WF b) {k : List Str → Prop} (hk : k (linesT b)) : w_law_lines (b, ()) k := by
  unfold w_law_lines wT d_law_lines
  refine up_of fun k' hm => ?_
  dsimp only
  have q := hm _ hk
  clear hk hm
  have t5 := wf.t5
  refine ⟨le_line (by simp only [List.length_cons, List.length_nil]; omega), join_fits (ok_head wf), ?_⟩
  refine wFor_rem (fun rem e => (∀ f ∈ rem, f ∈ b.ws) ∧ e.2.found ++ rem.map (fun f => Txt.join " " (wordsE f)) = linesT b) (fun f rem e kn ⟨i1, i2⟩ hn _ => ?st) (fun e ⟨_, i2⟩ => ?dn) ⟨fun _ h => h, ?«in»⟩
  case «in» =>
    unfold linesT rowsW
    rw [List.map_cons, List.map_map]
    rfl
  case dn =>
    rw [List.map_nil, List.append_nil] at i2
    show k' e.2.found
    rw [i2]
    exact q
  case st =>
    have hf := i1 f List.mem_cons_self
    have l4 := later_len wf hf
    have w5 := wish_len5 wf hf
    have l5 := lines_len5 wf
    have lf : e.2.found.length ≤ 5 := by
      have := congrArg List.length i2
      rw [List.length_append] at this
      omega
    refine ⟨le_line (by simp only [List.length_cons, List.length_nil]; omega), le_line (by simp only [List.length_append, List.length_cons, List.length_nil]; omega), le_line (by simp only [List.length_append, List.length_cons, List.length_nil]; omega), join_fits (ok_ent wf hf), by show e.2.found.length < _; unfold sizeLine; omega, hn _ ⟨fun g h => i1 g (List.mem_cons_of_mem _ h), ?_⟩⟩
    rw [← i2, List.map_cons]
    show (e.2.found ++ [_]) ++ _ = _
    rw [List.append_assoc]
    rfl
theorem r_menu_text {b : Bs} (wf : WF b) {k : Str → Prop} (hk : k (textP b)) : w_menu_text (b, ()) k := by
  unfold w_menu_text wT d_menu_text
  refine up_of fun k' hm => ?_
  dsimp only
  have q := hm _ hk
  clear hk hm
  have t5 := wf.t5
  refine ⟨le_line (by simp only [List.length_cons, List.length_nil]; omega), ?_⟩
  refine wFor_rem (fun rem e => e.1.1 = b ∧ ∃ es : List Ent, rem = es.map Ent.name ∧ (∀ f ∈ es, f ∈ b.ws) ∧ e.2.lines ++ es.map wordsE = rowsW b) (fun x rem e kn ⟨i0, es, i1, i2, i3⟩ hn _ => ?st) (fun e ⟨i0, es, i1, i2, i3⟩ => ?dn) ⟨rfl, b.ws, rfl, fun _ h => h, rfl⟩
  case dn =>
    have : es = [] := by
      cases es with
      | nil => rfl
      | cons a b => cases i1
    subst this
    rw [List.map_nil, List.append_nil] at i3
    show e.2.lines.length ≤ sizeLine ∧ _
    rw [i3]
    refine ⟨le_line (by have := rows_n wf; omega), wComp_flt (fun _ => true) (fun ws => Txt.join " " ws) (fun _ _ k h => h) (fun ws hw k h => ⟨join_fits (ok_rows wf ws hw), h⟩) ?_⟩
    rw [List.filter_eq_self.mpr (fun _ _ => rfl), List.nil_append]
    exact ⟨text_fits wf, q⟩
  case st =>
    cases es with
    | nil => cases i1
    | cons f es =>
    rw [List.map_cons, List.cons.injEq] at i1
    obtain ⟨rfl, i1⟩ := i1
    have hf := i2 f List.mem_cons_self
    have l4 := later_len wf hf
    have w5 := wish_len5 wf hf
    have lf : e.2.lines.length ≤ 5 := by
      have := congrArg List.length i3
      rw [List.length_append] at this
      have := rows_n wf
      omega
    show e.1.1.names.Nodup ∧ _
    rw [i0]
    refine ⟨wf.wd, f, hf, rfl, wf.wd, f, hf, rfl, le_line (by simp only [List.length_cons, List.length_nil]; omega), le_line (by simp only [List.length_append, List.length_cons, List.length_nil]; omega), wf.wd, f, hf, rfl, le_line (by simp only [List.length_append, List.length_cons, List.length_nil]; omega), by show e.2.lines.length < _; unfold sizeLine; omega, hn _ ⟨i0, es, i1, fun g h => i2 g (List.mem_cons_of_mem _ h), ?_⟩⟩
    rw [← i3, List.map_cons]
    show (e.2.lines ++ [_]) ++ _ = _
    rw [List.append_assoc]
    rfl
/-! ## read back -/
theorem fre_join {c d : Nat} (h : c ≠ d) : ∀ {ws : List Str}, ws ≠ [] → (∀ w ∈ ws, Fre c w) → Fre c (Str.join (one d) ws)
  | [], h, _ => absurd rfl h
  | [a], _, h => h a List.mem_cons_self
  | a :: b :: r, _, hw => by
    intro z
    rw [join_cps, List.mem_append] at z
    rcases z with z | z
    · exact hw a List.mem_cons_self z
    · rcases List.mem_cons.mp z with z | z
      · exact h z
      · exact fre_join h (by simp) (fun w hh => hw w (List.mem_cons_of_mem _ hh)) z
theorem words_text {b : Bs} (wf : WF b) : wordsP (textP b) = rowsW b := by
  unfold wordsP textP
  rw [nl_one, split_join (by decide) lines_ne (fun l hl => by
    obtain ⟨ws, hw, rfl⟩ := List.mem_map.mp hl
    have ok := ok_rows wf ws hw
    rw [bl_one, join_eq]
    exact fre_join (by decide) ok.1 fun w h => (ok.2.2 w h).2.2)]
  unfold linesT
  rw [List.map_map]
  conv => rhs; rw [← List.map_id (rowsW b)]
  refine List.map_congr_left fun ws hw => ?_
  have ok := ok_rows wf ws hw
  show Txt.split (Txt.join " " ws) " " = ws
  rw [bl_one]
  exact split_join (by decide) ok.1 fun w h => (ok.2.2 w h).2.1
theorem idx_gt : ∀ {xs ys : List Str}, (∀ x ∈ xs, x ≠ (">" : Str)) → idxS (xs ++ (">" : Str) :: ys) ">" = xs.length
  | [], ys, _ => idxS_cons_self
  | x :: xs, ys, h => by
    rw [List.cons_append, idxS_cons_ne (h x List.mem_cons_self), idx_gt fun y hy => h y (List.mem_cons_of_mem _ hy)]
    rfl
theorem ent_back {b : Bs} (wf : WF b) {e : Ent} (he : e ∈ b.ws) : entP b.things (wordsE e) = some e := by
  have we := wf.we e he
  have ei := idx_gt (xs := e.wishes) (ys := e.later) fun x hx => nm_ne (wf.tn x (we.w x hx)) no_gt
  have ea : wordsE e = e.name :: e.back :: (":" : Str) :: (e.wishes ++ (">" : Str) :: e.later) := by
    unfold wordsE
    simp
  have e1 : wiP (e.wishes ++ (">" : Str) :: e.later) = e.wishes := by
    unfold wiP
    rw [ei, List.take_append_of_le_length (Nat.le_refl _), List.take_of_length_le (Nat.le_refl _)]
  have e2 : laP (e.wishes ++ (">" : Str) :: e.later) = e.later := by
    unfold laP
    rw [ei, ← List.drop_drop, List.drop_append_of_le_length (Nat.le_refl _), List.drop_length, List.nil_append]
    rfl
  rw [ea, ent_yes ⟨wf.wn _ (List.mem_map.mpr ⟨e, he, rfl⟩), we.b, rfl, by simp, by rw [e1]; exact ⟨we.w, we.wd⟩, by rw [e2]; exact ⟨we.l0, fun x hx => wf.wn x (we.l x hx), we.ld⟩⟩, e1, e2]
theorem rows_back {b : Bs} (wf : WF b) : ∀ {tl acc : List Ent} {n : Nat}, acc ++ tl = b.ws → rowsP b.things (tl.map wordsE) n acc = .inr b.ws
  | [], acc, n, h => by
    rw [List.append_nil] at h
    show Sum.inr acc = _
    rw [h]
  | e :: tl, acc, n, h => by
    have he : e ∈ b.ws := by rw [← h]; simp
    have nd := wf.wd
    unfold Bs.names at nd
    rw [← h, List.map_append, List.map_cons, List.nodup_append] at nd
    have l4 := wf.w4
    rw [← h, List.length_append, List.length_cons] at l4
    rw [List.map_cons]
    unfold rowsP
    rw [ent_back wf he]
    dsimp only
    rw [if_neg (fun z => z.elim (fun z => nd.2.2 _ z _ List.mem_cons_self rfl) (fun z => by omega))]
    exact rows_back wf (by rw [List.append_assoc]; exact h)
theorem lat_ok {names : List Str} : ∀ {es : List Ent} {n : Nat}, (∀ e ∈ es, ∀ x ∈ e.later, x ∈ names) → latP names es n = none
  | [], _, _ => rfl
  | e :: es, n, h => by
    unfold latP
    rw [if_pos (h e List.mem_cons_self)]
    exact lat_ok fun f hf => h f (List.mem_cons_of_mem _ hf)
theorem read_back {b : Bs} (wf : WF b) : readP (wordsP (textP b)) = .inr b := by
  rw [words_text wf]
  have hp : linesP (rowsW b) = .inr (b.things, b.ws) := by
    unfold rowsW linesP
    dsimp only
    have et : thP (headW b) = some b.things := if_pos ⟨rfl, wf.t5, fun z => by have := wf.t1; have z : b.things = [] := z; rw [z] at this; exact absurd this (by decide), wf.tn, wf.td⟩
    rw [et]
    dsimp only
    rw [rows_back wf (acc := []) rfl]
  unfold readP
  rw [hp]
  dsimp only
  rw [if_neg (fun z => by have := wf.w1; rw [z] at this; exact absurd this (by decide)), show b.ws.map Ent.name = b.names from rfl, lat_ok fun e he x hx => (wf.we e he).l x hx]
end K50
namespace K50
open PySem PySem.Spec PyProof.Rows L2 Gx Tx Px
section
variable {P : Program} {w : World} {K : PySem.W.Frag} {mg : Str → Option Value} {base : Heap}
theorem op_eqM {X : Cx} {CX : CXT} {n : Nat} {C : Addr} {sp : Sp} {E : XK} (c : CaM X.prog X.w X.K X.mg X.base CX n C "__eq__" sp) (hx : Passes CX X E) (hr : Room n X.A) : OpR X (compareOp .Eq) (rOwn X.K C sp E false) := by
  obtain ⟨f, fd, ps, F, hb, hm, cl⟩ := c.ex
  exact op_eqO F hm.at_ hm.fn hb hx hr
theorem v_eqM (F : Facts K mg) {E : XK} : VR2 K menuR menuR boolR (rOwn K (He.ga K "Menu") (spEqM K) E false) (fun b c k => WF b ∧ WF c ∧ k (decide (b = c))) := ⟨fun x y k k' h h2 => ⟨h2.1, h2.2.1, h _ h2.2.2⟩, fun W H x y v u Q fr r1 r2 ⟨w1, w2, q⟩ => by
  obtain ⟨m, rfl, h1⟩ := menuR.is r1
  obtain ⟨m2, rfl, h2⟩ := menuR.is r2
  have h1' := h1
  have h2' := h2
  obtain ⟨dx, t1, t2, d1, d2, d3, k1, k3, hm, _⟩ := h1
  obtain ⟨ex, u1, u2, e1, e2, e3, j1, j3, gm, _⟩ := h2
  refine ⟨m, dx, _, _, rfl, hm, (menuI F).ty (cls_Menu F) gm, (menuI F).first, m, _, x, rfl, h1', .inl ⟨m2, y, rfl, h2', w1, w2, _, rfl, q _ H (Same.refl _) ?_⟩⟩
  show V.bl (false != decide (x = y)) = V.bl (decide (x = y))
  cases decide (x = y) <;> rfl⟩
end
theorem mw_read_menuN : ∀ x k k', (∀ y, k y → k' y) → wCalm w_read_menu x k → wCalm w_read_menu x k' := wCalm_mono mw_read_menu
theorem ca_read_menuN {P : Program} {ww : World} {K : PySem.W.Frag} {mg : Str → Option Value} {base : Heap} (F : Facts K mg) : Ca P ww K mg base CX0 7 "read_menu" (spT K (.cons strR .nil) (retI menuR) (wCalm w_read_menu)) := ca_calm (ca_read_menu F) mw_read_menu
def forBody : Stmt → List Stmt
  | .For _ _ b _ _ => b
  | _ => []
structure Loc_t_head where
  typed : (List Str) := []
noncomputable def d_t_head : { wb : V × Loc_t_head → Kn (V × Loc_t_head) Bool → Prop // ∀ {P : Program} {ww : World} {K : PySem.W.Frag} {mg : Str → Option Value} {base : Heap}, Facts K mg → ∀ (cdv : Value) (A : Around) (outer : List Env) (s : Shared) (H : Hp) (E : XK), (A.deeper (PyProof.Rows.envOfC "law" (defScope s_law) s.heap.objs.size (He.ga K "law") cdv)).guards = some [] → Room 9 (A.deeper (PyProof.Rows.envOfC "law" (defScope s_law) s.heap.objs.size (He.ga K "law") cdv)) → TS (fun _ : Unit => (cxOf CX0 P ww K mg base ["script", "typed", "start", "source", "some", "turn", "thing", "base", "text", "bent", "menu", "told", "due", "name"] "law" (defScope s_law) (He.ga K "law") cdv A outer s H E).nox) K (retI boolR) ([.im vR (fun e => e.1), .any, .any, .any, .any, .any, .any, .any, .any, .any, .any, .any, .any, .any] : List (Sl (V × Loc_t_head))) [.im vR (fun e => e.1), .ow strR (fun e => e.2.typed), .any, .any, .any, .any, .any, .any, .any, .any, .any, .any, .any, .any] ([(defBody s_law).getD 0 (.Pass ⟨0, 0, 0, 0⟩), (defBody s_law).getD 1 (.Pass ⟨0, 0, 0, 0⟩), (defBody s_law).getD 2 (.Pass ⟨0, 0, 0, 0⟩), (defBody s_law).getD 3 (.Pass ⟨0, 0, 0, 0⟩), (defBody s_law).getD 4 (.Pass ⟨0, 0, 0, 0⟩)]) wb } :=
  ⟨_, fun {P ww K mg base} F cdv A outer s H E hg hr => by
    have hu := hu_of hr
    have hb := (show TS (fun _ : Unit => (cxOf CX0 P ww K mg base ["script", "typed", "start", "source", "some", "turn", "thing", "base", "text", "bent", "menu", "told", "due", "name"] "law" (defScope s_law) (He.ga K "law") cdv A outer s H E).nox) K (retI boolR) ([.im vR (fun e => e.1), .any, .any, .any, .any, .any, .any, .any, .any, .any, .any, .any, .any, .any] : List (Sl (V × Loc_t_head))) [.im vR (fun e => e.1), .ow strR (fun e => e.2.typed), .any, .any, .any, .any, .any, .any, .any, .any, .any, .any, .any, .any] ([(defBody s_law).getD 0 (.Pass ⟨0, 0, 0, 0⟩), (defBody s_law).getD 1 (.Pass ⟨0, 0, 0, 0⟩), (defBody s_law).getD 2 (.Pass ⟨0, 0, 0, 0⟩), (defBody s_law).getD 3 (.Pass ⟨0, 0, 0, 0⟩), (defBody s_law).getD 4 (.Pass ⟨0, 0, 0, 0⟩)]) _ from (ts_cons (ts_own (i := 1) (set := (fun e y => (e.1, { e.2 with typed := y }))) (L' := [.im vR (fun e => e.1), .ow strR (fun e => e.2.typed), .any, .any, .any, .any, .any, .any, .any, .any, .any, .any, .any, .any]) (fun _ => sc_law.nd) (fun _ => rfl) (fun _ => (Or.inl rfl)) (tn_lst (ta_cons tx_str (ta_cons tx_str (ta_cons tx_str (ta_cons tx_str (ta_cons tx_str (ta_cons tx_str ta_nil)))))) (lo_cons (lo_cons (lo_cons (lo_cons (lo_cons (lo_cons lo_nil))))))) (okI_lift rfl) (.im (fun _ => rfl) (.ow (fun _ => rfl) (.any rfl (.any rfl (.any rfl (.any rfl (.any rfl (.any rfl (.any rfl (.any rfl (.any rfl (.any rfl (.any rfl (.any rfl .nil)))))))))))))))
    (ts_cons (ts_own (i := 1) (set := (fun e y => (e.1, { e.2 with typed := y }))) (L' := [.im vR (fun e => e.1), .ow strR (fun e => e.2.typed), .any, .any, .any, .any, .any, .any, .any, .any, .any, .any, .any, .any]) (fun _ => sc_law.nd) (fun _ => rfl) (fun _ => (Or.inl rfl)) (tn_view (L2 := [.im vR (fun e => e.1), .im (lstR strR) (fun e => e.2.typed), .any, .any, .any, .any, .any, .any, .any, .any, .any, .any, .any, .any]) strR.flat (.im (fun _ => rfl) (.fr (fun _ => rfl) (.any rfl (.any rfl (.any rfl (.any rfl (.any rfl (.any rfl (.any rfl (.any rfl (.any rfl (.any rfl (.any rfl (.any rfl .nil)))))))))))))) (tn_op (fun _ => op_cat) v_cat (tx_im (i := 1) rfl (fun _ => rfl) (fun _ => Or.inl rfl)) (TN.tx (tn_lst (ta_cons tx_str (ta_cons tx_str (ta_cons tx_str (ta_cons tx_str ta_nil)))) (lo_cons (lo_cons (lo_cons (lo_cons lo_nil)))))))) (okI_lift rfl) (.im (fun _ => rfl) (.ow (fun _ => rfl) (.any rfl (.any rfl (.any rfl (.any rfl (.any rfl (.any rfl (.any rfl (.any rfl (.any rfl (.any rfl (.any rfl (.any rfl .nil)))))))))))))))
    (ts_cons (ts_append (i := 1) (set := (fun e y => (e.1, { e.2 with typed := y }))) (L' := [.im vR (fun e => e.1), .ow strR (fun e => e.2.typed), .any, .any, .any, .any, .any, .any, .any, .any, .any, .any, .any, .any]) rfl (fun _ => rfl) (fun _ => Or.inl rfl) (tx_op (fun _ => op_add_str) v_addS tx_str (tx_join tx_str (TN.tx (tn_comp (bown := [("name", 13)]) (fun _ => rfl) (fun _ => sc_law.nd) (it_list (TN.tx (tn_lst (ta_cons tx_str (ta_cons tx_str (ta_cons tx_str (ta_cons tx_str (ta_cons tx_str ta_nil))))) (lo_cons (lo_cons (lo_cons (lo_cons (lo_cons lo_nil)))))))) (fun _ => blkOk_by (own := [("name", 13)]) (N := ["script", "typed", "start", "source", "some", "turn", "thing", "base", "text", "bent", "menu", "told", "due", "name"]) (sc := defScope s_law) (by decide +kernel)) (allB rfl) (by decide) (tgt_name (i := 13) (fun _ => sc_law.nd) (fun _ => rfl) (fun _ => Or.inl rfl) rfl) tc_no (tx_op (fun _ => op_add_str) v_addS (tx_op (fun _ => op_add_str) v_addS (tx_im (i := 13) rfl (fun _ => rfl) (fun _ => by first | exact Or.inl rfl | exact Or.inr (Or.inl rfl) | exact Or.inr (Or.inr rfl))) tx_str) (tx_im (i := 13) rfl (fun _ => rfl) (fun _ => by first | exact Or.inl rfl | exact Or.inr (Or.inl rfl) | exact Or.inr (Or.inr rfl)))))))) (.im (fun _ => rfl) (.ow (fun _ => rfl) (.any rfl (.any rfl (.any rfl (.any rfl (.any rfl (.any rfl (.any rfl (.any rfl (.any rfl (.any rfl (.any rfl (.any rfl .nil)))))))))))))))
    (ts_cons (ts_own (i := 1) (set := (fun e y => (e.1, { e.2 with typed := y }))) (L' := [.im vR (fun e => e.1), .ow strR (fun e => e.2.typed), .any, .any, .any, .any, .any, .any, .any, .any, .any, .any, .any, .any]) (fun _ => sc_law.nd) (fun _ => rfl) (fun _ => (Or.inl rfl)) (tn_view (L2 := [.im vR (fun e => e.1), .im (lstR strR) (fun e => e.2.typed), .any, .any, .any, .any, .any, .any, .any, .any, .any, .any, .any, .any]) strR.flat (.im (fun _ => rfl) (.fr (fun _ => rfl) (.any rfl (.any rfl (.any rfl (.any rfl (.any rfl (.any rfl (.any rfl (.any rfl (.any rfl (.any rfl (.any rfl (.any rfl .nil)))))))))))))) (tn_op (fun _ => op_cat) v_cat (tx_im (i := 1) rfl (fun _ => rfl) (fun _ => Or.inl rfl)) (TN.tx (tn_lst (ta_cons tx_str (ta_cons tx_str ta_nil)) (lo_cons (lo_cons lo_nil)))))) (okI_lift rfl) (.im (fun _ => rfl) (.ow (fun _ => rfl) (.any rfl (.any rfl (.any rfl (.any rfl (.any rfl (.any rfl (.any rfl (.any rfl (.any rfl (.any rfl (.any rfl (.any rfl .nil)))))))))))))))
    (ts_cons (ts_append (i := 1) (set := (fun e y => (e.1, { e.2 with typed := y }))) (L' := [.im vR (fun e => e.1), .ow strR (fun e => e.2.typed), .any, .any, .any, .any, .any, .any, .any, .any, .any, .any, .any, .any]) rfl (fun _ => rfl) (fun _ => Or.inl rfl) tx_str (.im (fun _ => rfl) (.ow (fun _ => rfl) (.any rfl (.any rfl (.any rfl (.any rfl (.any rfl (.any rfl (.any rfl (.any rfl (.any rfl (.any rfl (.any rfl (.any rfl .nil))))))))))))))) ts_nil))))))
    exact hb⟩
structure Loc_t_law where
  some : (List Str) := []
  base : Bs := ⟨[], []⟩
  text : Str := ""
  bent : Str := ""
  menu : Bs := ⟨[], []⟩
  told1 : Bs := ⟨[], []⟩
  due : ((List Int) ⊕ Bs) := (.inl [])
  told : ((List V) ⊕ Bs) := (.inl [])
noncomputable def d_t_law : { wb : (V × List Str) × Loc_t_law → Kn ((V × List Str) × Loc_t_law) Bool → Prop // ∀ {P : Program} {ww : World} {K : PySem.W.Frag} {mg : Str → Option Value} {base : Heap}, Facts K mg → ∀ (cdv : Value) (A : Around) (outer : List Env) (s : Shared) (H : Hp) (E : XK), (A.deeper (PyProof.Rows.envOfC "law" (defScope s_law) s.heap.objs.size (He.ga K "law") cdv)).guards = some [] → Room 9 (A.deeper (PyProof.Rows.envOfC "law" (defScope s_law) s.heap.objs.size (He.ga K "law") cdv)) → TS (fun _ : Unit => (cxOf CX0 P ww K mg base ["script", "typed", "start", "source", "some", "turn", "thing", "base", "text", "bent", "menu", "told", "due", "name"] "law" (defScope s_law) (He.ga K "law") cdv A outer s H E).nox) K (retI boolR) ([.im vR (fun e => e.1.1), .im (lstR strR) (fun e => e.1.2), .any, .sr, .any, .any, .any, .any, .any, .any, .any, .any, .any, .any] : List (Sl ((V × List Str) × Loc_t_law))) [.im vR (fun e => e.1.1), .im (lstR strR) (fun e => e.1.2), .any, .sr, .im (lstR strR) (fun e => e.2.some), .any, .any, .any, .any, .any, .any, .any, .any, .any] ([(forBody ((defBody s_law).getD 5 (.Pass ⟨0, 0, 0, 0⟩))).getD 1 (.Pass ⟨0, 0, 0, 0⟩), (forBody ((defBody s_law).getD 5 (.Pass ⟨0, 0, 0, 0⟩))).getD 2 (.Pass ⟨0, 0, 0, 0⟩), (forBody ((defBody s_law).getD 5 (.Pass ⟨0, 0, 0, 0⟩))).getD 3 (.Pass ⟨0, 0, 0, 0⟩)]) wb } :=
  ⟨_, fun {P ww K mg base} F cdv A outer s H E hg hr => by
    have hu := hu_of hr
    have hb := (show TS (fun _ : Unit => (cxOf CX0 P ww K mg base ["script", "typed", "start", "source", "some", "turn", "thing", "base", "text", "bent", "menu", "told", "due", "name"] "law" (defScope s_law) (He.ga K "law") cdv A outer s H E).nox) K (retI boolR) ([.im vR (fun e => e.1.1), .im (lstR strR) (fun e => e.1.2), .any, .sr, .any, .any, .any, .any, .any, .any, .any, .any, .any, .any] : List (Sl ((V × List Str) × Loc_t_law))) [.im vR (fun e => e.1.1), .im (lstR strR) (fun e => e.1.2), .any, .sr, .im (lstR strR) (fun e => e.2.some), .any, .any, .any, .any, .any, .any, .any, .any, .any] ([(forBody ((defBody s_law).getD 5 (.Pass ⟨0, 0, 0, 0⟩))).getD 1 (.Pass ⟨0, 0, 0, 0⟩), (forBody ((defBody s_law).getD 5 (.Pass ⟨0, 0, 0, 0⟩))).getD 2 (.Pass ⟨0, 0, 0, 0⟩), (forBody ((defBody s_law).getD 5 (.Pass ⟨0, 0, 0, 0⟩))).getD 3 (.Pass ⟨0, 0, 0, 0⟩)]) _ from (ts_cons (ts_own (i := 4) (set := (fun e y => (e.1, { e.2 with some := y }))) (L' := [.im vR (fun e => e.1.1), .im (lstR strR) (fun e => e.1.2), .any, .sr, .ow strR (fun e => e.2.some), .any, .any, .any, .any, .any, .any, .any, .any, .any]) (fun _ => sc_law.nd) (fun _ => rfl) (fun _ => (Or.inl rfl)) (tn_callTy (fun _ => call_listK rfl) vc_listL (fun _ => rfl) (fun _ => z_list F) (by decide +kernel) (ta_cons (tx_im (i := 1) rfl (fun _ => rfl) (fun _ => Or.inl rfl)) ta_nil)) (okI_lift rfl) (.im (fun _ => rfl) (.im (fun _ => rfl) (.any rfl (.sr (.ow (fun _ => rfl) (.any rfl (.any rfl (.any rfl (.any rfl (.any rfl (.any rfl (.any rfl (.any rfl (.any rfl .nil)))))))))))))))
    (ts_cons (ts_for (fun _ => PassesOwn.never) (fun _ => rfl) (it_range1 (fun _ => rfl) (fun _ => z_range F) tx_int) (tgt_name (i := 5) (fun _ => sc_law.nd) (fun _ => rfl) (fun _ => (Or.inl rfl)) rfl)
    (ts_cons (ts_set (i := 7) (set := (fun e y => ((e.1.1, { e.1.2 with base := y }), e.2))) (L' := [.im vR (fun e => e.1.1.1), .im (lstR strR) (fun e => e.1.1.2), .any, .sr, .ow strR (fun e => e.1.2.some), .im intR (fun e => e.2), .any, .im baseR (fun e => e.1.2.base), .any, .any, .any, .any, .any, .any]) (fun _ => sc_law.nd) (fun _ => rfl) (fun _ => (Or.inl rfl)) (tx_call (k := 5) (fun _ => ca_imp (ca_law_base F) b_base) (wBase_mono) (fun _ => hr.mono (by decide)) (fun _ => rfl) (ta_src (i := 3) rfl (fun _ => rfl) (fun _ => Or.inl rfl) (ta_cons tx_int ta_nil))) (okI_lift rfl) (.im (fun _ => rfl) (.im (fun _ => rfl) (.any rfl (.sr (.ow (fun _ => rfl) (.im (fun _ => rfl) (.any rfl (.im (fun _ => rfl) (.any rfl (.any rfl (.any rfl (.any rfl (.any rfl (.any rfl .nil)))))))))))))))
    (ts_cons (ts_set (i := 8) (set := (fun e y => ((e.1.1, { e.1.2 with text := y }), e.2))) (L' := [.im vR (fun e => e.1.1.1), .im (lstR strR) (fun e => e.1.1.2), .any, .sr, .ow strR (fun e => e.1.2.some), .im intR (fun e => e.2), .any, .im baseR (fun e => e.1.2.base), .im strR (fun e => e.1.2.text), .any, .any, .any, .any, .any]) (fun _ => sc_law.nd) (fun _ => rfl) (fun _ => (Or.inl rfl)) (tx_join tx_str (TN.tx (tn_call (k := 1) (fun _ => ca_law_lines F) (mw_law_lines) (fun _ => hr.mono (by decide)) (fun _ => rfl) (ta_cons (tx_im (i := 7) rfl (fun _ => rfl) (fun _ => Or.inl rfl)) ta_nil)))) (okI_lift rfl) (.im (fun _ => rfl) (.im (fun _ => rfl) (.any rfl (.sr (.ow (fun _ => rfl) (.im (fun _ => rfl) (.any rfl (.im (fun _ => rfl) (.im (fun _ => rfl) (.any rfl (.any rfl (.any rfl (.any rfl (.any rfl .nil)))))))))))))))
    (ts_cons (ts_set (i := 9) (set := (fun e y => ((e.1.1, { e.1.2 with bent := y }), e.2))) (L' := [.im vR (fun e => e.1.1.1), .im (lstR strR) (fun e => e.1.1.2), .any, .sr, .ow strR (fun e => e.1.2.some), .im intR (fun e => e.2), .any, .im baseR (fun e => e.1.2.base), .im strR (fun e => e.1.2.text), .im strR (fun e => e.1.2.bent), .any, .any, .any, .any]) (fun _ => sc_law.nd) (fun _ => rfl) (fun _ => (Or.inl rfl)) (tx_call (k := 3) (fun _ => ca_law_bent F) (mw_law_bent) (fun _ => hr.mono (by decide)) (fun _ => rfl) (ta_src (i := 3) rfl (fun _ => rfl) (fun _ => Or.inl rfl) (ta_cons (tx_im (i := 8) rfl (fun _ => rfl) (fun _ => Or.inl rfl)) ta_nil))) (okI_lift rfl) (.im (fun _ => rfl) (.im (fun _ => rfl) (.any rfl (.sr (.ow (fun _ => rfl) (.im (fun _ => rfl) (.any rfl (.im (fun _ => rfl) (.im (fun _ => rfl) (.im (fun _ => rfl) (.any rfl (.any rfl (.any rfl (.any rfl .nil)))))))))))))))
    (ts_cons (ts_own (i := 4) (set := (fun e y => ((e.1.1, { e.1.2 with some := y }), e.2))) (L' := [.im vR (fun e => e.1.1.1), .im (lstR strR) (fun e => e.1.1.2), .any, .sr, .ow strR (fun e => e.1.2.some), .im intR (fun e => e.2), .any, .im baseR (fun e => e.1.2.base), .im strR (fun e => e.1.2.text), .im strR (fun e => e.1.2.bent), .any, .any, .any, .any]) (fun _ => sc_law.nd) (fun _ => rfl) (fun _ => (Or.inl rfl)) (tn_view (L2 := [.im vR (fun e => e.1.1.1), .im (lstR strR) (fun e => e.1.1.2), .any, .sr, .im (lstR strR) (fun e => e.1.2.some), .im intR (fun e => e.2), .any, .im baseR (fun e => e.1.2.base), .im strR (fun e => e.1.2.text), .im strR (fun e => e.1.2.bent), .any, .any, .any, .any]) strR.flat (.im (fun _ => rfl) (.im (fun _ => rfl) (.any rfl (.sr (.fr (fun _ => rfl) (.im (fun _ => rfl) (.any rfl (.im (fun _ => rfl) (.im (fun _ => rfl) (.im (fun _ => rfl) (.any rfl (.any rfl (.any rfl (.any rfl .nil)))))))))))))) (tn_op (fun _ => op_cat) v_cat (tx_im (i := 4) rfl (fun _ => rfl) (fun _ => Or.inl rfl)) (TN.tx (tn_lst (ta_cons (tx_im (i := 8) rfl (fun _ => rfl) (fun _ => Or.inl rfl)) (ta_cons (tx_im (i := 9) rfl (fun _ => rfl) (fun _ => Or.inl rfl)) (ta_cons (tx_call (k := 3) (fun _ => ca_law_bent F) (mw_law_bent) (fun _ => hr.mono (by decide)) (fun _ => rfl) (ta_src (i := 3) rfl (fun _ => rfl) (fun _ => Or.inl rfl) (ta_cons (tx_im (i := 9) rfl (fun _ => rfl) (fun _ => Or.inl rfl)) ta_nil))) ta_nil))) (lo_cons (lo_cons (lo_cons lo_nil))))))) (okI_lift rfl) (.im (fun _ => rfl) (.im (fun _ => rfl) (.any rfl (.sr (.ow (fun _ => rfl) (.im (fun _ => rfl) (.any rfl (.im (fun _ => rfl) (.im (fun _ => rfl) (.im (fun _ => rfl) (.any rfl (.any rfl (.any rfl (.any rfl .nil)))))))))))))))
    (ts_cons (ts_if (TTW.tt (tw_or (tt_cmp (fun _ => op_ne) v_neS (tx_call (k := 5) (fun _ => ca_menu_text F) (mw_menu_text) (fun _ => hr.mono (by decide)) (fun _ => rfl) (ta_cons (tx_call (k := 7) (fun _ => ca_imp (ca_law_made F) b_made) (wMade_mono) (fun _ => hr.mono (by decide)) (fun _ => rfl) (ta_cons (tx_im (i := 7) rfl (fun _ => rfl) (fun _ => Or.inl rfl)) ta_nil)) ta_nil)) (tx_im (i := 8) rfl (fun _ => rfl) (fun _ => Or.inl rfl)) (nomark _)) (tw_one_or (tt_cmp (fun _ => op_ne) v_neS (tx_call (k := 5) (fun _ => ca_menu_text F) (mw_menu_text) (fun _ => hr.mono (by decide)) (fun _ => rfl) (ta_cons (tx_call (k := 7) (fun _ => ca_law_tuples F) (mw_law_tuples) (fun _ => hr.mono (by decide)) (fun _ => rfl) (ta_cons (tx_im (i := 7) rfl (fun _ => rfl) (fun _ => Or.inl rfl)) ta_nil)) ta_nil)) (tx_im (i := 8) rfl (fun _ => rfl) (fun _ => Or.inl rfl)) (nomark _))))) (ts_cons (ts_ret tx_bl) ts_nil) ts_nil)
    (ts_cons (ts_parII (i := 10) (j := 11) (set := fun e y => ((e.1.1, { e.1.2 with menu := y.1, told1 := y.2 }), e.2)) (L' := [.im vR (fun e => e.1.1.1), .im (lstR strR) (fun e => e.1.1.2), .any, .sr, .ow strR (fun e => e.1.2.some), .im intR (fun e => e.2), .any, .im baseR (fun e => e.1.2.base), .im strR (fun e => e.1.2.text), .im strR (fun e => e.1.2.bent), .im menuR (fun e => e.1.2.menu), .im menuR (fun e => e.1.2.told1), .any, .any]) (fun _ => rfl) (fun _ => sc_law.nd) (fun _ => rfl) (fun _ => rfl) (by decide) (fun _ => rfl) (fun _ => rfl) (tx_call (k := 7) (fun _ => ca_imp (ca_law_made F) b_made) (wMade_mono) (fun _ => hr.mono (by decide)) (fun _ => rfl) (ta_cons (tx_im (i := 7) rfl (fun _ => rfl) (fun _ => Or.inl rfl)) ta_nil)) (tx_call (k := 7) (fun _ => ca_read_menuN F) (mw_read_menuN) (fun _ => hr.mono (by decide)) (fun _ => rfl) (ta_cons (tx_im (i := 8) rfl (fun _ => rfl) (fun _ => Or.inl rfl)) ta_nil)) rfl rfl (.im (fun _ => rfl) (.im (fun _ => rfl) (.any rfl (.sr (.ow (fun _ => rfl) (.im (fun _ => rfl) (.any rfl (.im (fun _ => rfl) (.im (fun _ => rfl) (.im (fun _ => rfl) (.im (fun _ => rfl) (.im (fun _ => rfl) (.any rfl (.any rfl .nil)))))))))))))) (by intro _; rfl))
    (ts_cons (ts_if (TTW.tt (tw_or (tt_not (tt_cmp (fun _ => (op_eqM (cm_Menu_eq F) pass0 (hr.mono (by decide)))) (v_eqM F) (tx_im (i := 11) rfl (fun _ => rfl) (fun _ => Or.inl rfl)) (tx_call (k := 7) (fun _ => ca_law_tuples F) (mw_law_tuples) (fun _ => hr.mono (by decide)) (fun _ => rfl) (ta_cons (tx_im (i := 7) rfl (fun _ => rfl) (fun _ => Or.inl rfl)) ta_nil)) (nomark _))) (tw_or (tt_not (tt_cmp (fun _ => (op_eqM (cm_Menu_eq F) pass0 (hr.mono (by decide)))) (v_eqM F) (tx_im (i := 10) rfl (fun _ => rfl) (fun _ => Or.inl rfl)) (tx_im (i := 11) rfl (fun _ => rfl) (fun _ => Or.inl rfl)) (nomark _))) (tw_one_or (tt_not (tt_cmp (fun _ => (op_eqM (cm_Menu_eq F) pass0 (hr.mono (by decide)))) (v_eqM F) (tx_call (k := 7) (fun _ => ca_read_menuN F) (mw_read_menuN) (fun _ => hr.mono (by decide)) (fun _ => rfl) (ta_cons (tx_im (i := 8) rfl (fun _ => rfl) (fun _ => Or.inl rfl)) ta_nil)) (tx_im (i := 11) rfl (fun _ => rfl) (fun _ => Or.inl rfl)) (nomark _))))))) (ts_cons (ts_ret tx_bl) ts_nil) ts_nil)
    (ts_cons (ts_if (tt_cmp (fun _ => (op_neD hr.units)) (v_neD dat_ls) (TN.tx (tn_lst (ta_cons (tx_call (k := 5) (fun _ => ca_menu_text F) (mw_menu_text) (fun _ => hr.mono (by decide)) (fun _ => rfl) (ta_cons (tx_im (i := 10) rfl (fun _ => rfl) (fun _ => Or.inl rfl)) ta_nil)) (ta_cons (tx_call (k := 5) (fun _ => ca_menu_text F) (mw_menu_text) (fun _ => hr.mono (by decide)) (fun _ => rfl) (ta_cons (tx_im (i := 10) rfl (fun _ => rfl) (fun _ => Or.inl rfl)) ta_nil)) (ta_cons (tx_call (k := 5) (fun _ => ca_menu_text F) (mw_menu_text) (fun _ => hr.mono (by decide)) (fun _ => rfl) (ta_cons (tx_im (i := 11) rfl (fun _ => rfl) (fun _ => Or.inl rfl)) ta_nil)) (ta_cons (tx_call (k := 5) (fun _ => ca_menu_text F) (mw_menu_text) (fun _ => hr.mono (by decide)) (fun _ => rfl) (ta_cons (tx_im (i := 11) rfl (fun _ => rfl) (fun _ => Or.inl rfl)) ta_nil)) ta_nil)))) (lo_cons (lo_cons (lo_cons (lo_cons lo_nil)))))) (TN.tx (tn_op (fun _ => op_rep) v_rep (TN.tx (tn_lst (ta_cons (tx_im (i := 8) rfl (fun _ => rfl) (fun _ => Or.inl rfl)) ta_nil) (lo_cons lo_nil))) tx_int)) (nomark _)) (ts_cons (ts_ret tx_bl) ts_nil) ts_nil) ts_nil))))))))
    (.im (fun _ => rfl) (.im (fun _ => rfl) (.any rfl (.sr (.ow (fun _ => rfl) (.any rfl (.any rfl (.any rfl (.any rfl (.any rfl (.any rfl (.any rfl (.any rfl (.any rfl .nil)))))))))))))))
    (ts_cons (TS1.pre (L := [.im vR (fun e => e.1.1), .im (lstR strR) (fun e => e.1.2), .any, .sr, .im (lstR strR) (fun e => e.2.some), .any, .any, .any, .any, .any, .any, .any, .any, .any]) (.im (fun _ => rfl) (.im (fun _ => rfl) (.any rfl (.sr (.fr (fun _ => rfl) (.any rfl (.any rfl (.any rfl (.any rfl (.any rfl (.any rfl (.any rfl (.any rfl (.any rfl .nil)))))))))))))) (ts_for (fun _ => PassesOwn.never) (fun _ => rfl) (it_list (TN.tx (tn_op (fun _ => op_cat) v_cat (tx_sw (tx_im (i := 4) rfl (fun _ => rfl) (fun _ => Or.inl rfl))) (TN.tx (tn_lst (ta_cons (tx_vd isd_n tx_non) (ta_cons (tx_vd isd_i tx_int) (ta_cons (tx_vd (isd_l isd_s) (TN.tx (tn_lst (ta_cons tx_str ta_nil) (lo_cons lo_nil)))) (ta_cons (tx_vd (isd_t isd_s) (tx_tup (ta_cons tx_str ta_nil) (tu_of (lo_cons lo_nil)))) (ta_cons (tx_vd isd_d tx_dict0) (ta_cons (tx_vd isd_b tx_bl) ta_nil)))))) (lo_cons (lo_cons (lo_cons (lo_cons (lo_cons (lo_cons lo_nil))))))))))) (tgt_name (i := 6) (fun _ => sc_law.nd) (fun _ => rfl) (fun _ => (Or.inl rfl)) rfl)
    (ts_split (b := fun e => isS (e.2).2)
    (ts_cons (ts_parII (i := 12) (j := 11) (set := fun e y => ((e.1.1, { e.1.2 with due := y.1, told := y.2 }), e.2)) (L' := [.im vR (fun e => e.1.1.1), .im (lstR strR) (fun e => e.1.1.2), .any, .sr, .im (lstR strR) (fun e => e.1.2.some), .any, .im vdR (fun e => e.2), .any, .any, .any, .any, .im (sumR (lstR vR) menuR) (fun e => e.1.2.told), .im (sumR (lstR intR) baseR) (fun e => e.1.2.due), .any]) (fun _ => rfl) (fun _ => sc_law.nd) (fun _ => rfl) (fun _ => rfl) (by decide) (fun _ => rfl) (fun _ => rfl) (tx_call (k := 3) (fun _ => ca_law_dueS F) (mw_law_dueS) (fun _ => hr.mono (by decide)) (fun _ => rfl) (ta_cons (tx_asW as_s (tx_im (i := 6) rfl (fun _ => rfl) (fun _ => Or.inl rfl))) ta_nil)) (tx_call (k := 8) (fun _ => ca_law_toldS F) (mw_law_toldS) (fun _ => hr.mono (by decide)) (fun _ => rfl) (ta_cons (tx_asW as_s (tx_im (i := 6) rfl (fun _ => rfl) (fun _ => Or.inl rfl))) ta_nil)) rfl rfl (.im (fun _ => rfl) (.im (fun _ => rfl) (.any rfl (.sr (.im (fun _ => rfl) (.any rfl (.im (fun _ => rfl) (.any rfl (.any rfl (.any rfl (.any rfl (.im (fun _ => rfl) (.im (fun _ => rfl) (.any rfl .nil)))))))))))))) (by intro _; rfl))
    (ts_caseS (i := 12) (LA := ([.im vR (fun e => e.1.1.1), .im (lstR strR) (fun e => e.1.1.2), .any, .sr, .im (lstR strR) (fun e => e.1.2.some), .any, .im vdR (fun e => e.2), .any, .any, .any, .any, .im (sumR (lstR vR) menuR) (fun e => e.1.2.told), .im (lstR intR) (fun e => (getL [] (e.1.2.due))), .any] : List (Sl (((V × List Str) × Loc_t_law) × (V × PyData))))) (LB := ([.im vR (fun e => e.1.1.1), .im (lstR strR) (fun e => e.1.1.2), .any, .sr, .im (lstR strR) (fun e => e.1.2.some), .any, .im vdR (fun e => e.2), .any, .any, .any, .any, .im (sumR (lstR vR) menuR) (fun e => e.1.2.told), .im baseR (fun e => (getR ⟨[], []⟩ (e.1.2.due))), .any] : List (Sl (((V × List Str) × Loc_t_law) × (V × PyData))))) [] ⟨[], []⟩ rfl rfl rfl
    (ts_caseS (i := 11) [] ⟨[], []⟩ rfl rfl rfl (TS.sub (L2 := ([.im vR (fun e => e.1.1.1), .im (lstR strR) (fun e => e.1.1.2), .any, .sr, .im (lstR strR) (fun e => e.1.2.some), .any, .im vdR (fun e => e.2), .any, .any, .any, .any, .any, .any, .any] : List (Sl (((V × List Str) × Loc_t_law) × (V × PyData))))) (ts_cons (ts_if (TTW.tt (tw_and (TX.val (tx_isi isi_LL (fun _ => rfl) (fun _ => rfl) (fun _ => z_isinstance F) (fun _ => rfl) (fun _ => z_list F) (by decide +kernel) (by decide +kernel) (tx_im (i := 12) rfl (fun _ => rfl) (fun _ => Or.inl rfl)))) (tw_one_and (tt_cmp (fun _ => (op_neD hr.units)) v_neDD (tx_fl (tx_im (i := 11) rfl (fun _ => rfl) (fun _ => Or.inl rfl))) (tx_d (isd_l isd_i) (tx_im (i := 12) rfl (fun _ => rfl) (fun _ => Or.inl rfl))) (nomark _))))) (ts_cons (ts_ret tx_bl) ts_nil) ts_nil)
    (ts_cons (ts_if (TTW.tt (tw_and (TX.val (tx_isi isi_LT0 (fun _ => rfl) (fun _ => rfl) (fun _ => z_isinstance F) (fun _ => rfl) (fun _ => z_tuple F) (by decide +kernel) (by decide +kernel) (tx_im (i := 12) rfl (fun _ => rfl) (fun _ => Or.inl rfl)))) (tw_one_and tt_any))) (ts_cons (ts_ret tx_bl) ts_nil) ts_nil) ts_nil)) (.im (fun _ => rfl) (.im (fun _ => rfl) (.any rfl (.sr (.im (fun _ => rfl) (.any rfl (.im (fun _ => rfl) (.any rfl (.any rfl (.any rfl (.any rfl (.any rfl (.any rfl (.any rfl .nil))))))))))))))) ts_any)
    (ts_caseS (i := 11) [] ⟨[], []⟩ rfl rfl rfl ts_any (TS.sub (L2 := ([.im vR (fun e => e.1.1.1), .im (lstR strR) (fun e => e.1.1.2), .any, .sr, .im (lstR strR) (fun e => e.1.2.some), .any, .im vdR (fun e => e.2), .any, .any, .any, .any, .any, .any, .any] : List (Sl (((V × List Str) × Loc_t_law) × (V × PyData))))) (ts_cons (ts_if (TTW.tt (tw_and (TX.val (tx_isi isi_BL (fun _ => rfl) (fun _ => rfl) (fun _ => z_isinstance F) (fun _ => rfl) (fun _ => z_list F) (by decide +kernel) (by decide +kernel) (tx_im (i := 12) rfl (fun _ => rfl) (fun _ => Or.inl rfl)))) (tw_one_and tt_any))) (ts_cons (ts_ret tx_bl) ts_nil) ts_nil)
    (ts_cons (ts_if (TTW.tt (tw_and (TX.val (tx_isi isi_BT (fun _ => rfl) (fun _ => rfl) (fun _ => z_isinstance F) (fun _ => rfl) (fun _ => z_tuple F) (by decide +kernel) (by decide +kernel) (tx_im (i := 12) rfl (fun _ => rfl) (fun _ => Or.inl rfl)))) (tw_one_and (TTW.tt (tw_or (TX.val (tx_isi (isi_ML (menuI F) (cls_Menu F) (kit_Menu_list F)) (fun _ => rfl) (fun _ => rfl) (fun _ => z_isinstance F) (fun _ => rfl) (fun _ => z_list F) (by decide +kernel) (by decide +kernel) (tx_im (i := 11) rfl (fun _ => rfl) (fun _ => Or.inl rfl)))) (tw_one_or (tt_cmp (fun _ => (op_neM (cm_Menu_eq F) (menuI F).obj (menuI F).ne (pass0) (hr.mono (by decide)) hu)) (v_neM F) (tx_im (i := 11) rfl (fun _ => rfl) (fun _ => Or.inl rfl)) (tx_call (k := 7) (fun _ => ca_imp (ca_law_made F) b_made) (wMade_mono) (fun _ => hr.mono (by decide)) (fun _ => rfl) (ta_cons (tx_im (i := 12) rfl (fun _ => rfl) (fun _ => Or.inl rfl)) ta_nil)) (nomark _)))))))) (ts_cons (ts_ret tx_bl) ts_nil) ts_nil) ts_nil)) (.im (fun _ => rfl) (.im (fun _ => rfl) (.any rfl (.sr (.im (fun _ => rfl) (.any rfl (.im (fun _ => rfl) (.any rfl (.any rfl (.any rfl (.any rfl (.any rfl (.any rfl (.any rfl .nil))))))))))))))))))
    (ts_cons (ts_parII (i := 12) (j := 11) (set := fun e y => ((e.1.1, { e.1.2 with due := y.1, told := y.2 }), e.2)) (L' := [.im vR (fun e => e.1.1.1), .im (lstR strR) (fun e => e.1.1.2), .any, .sr, .im (lstR strR) (fun e => e.1.2.some), .any, .im vdR (fun e => e.2), .any, .any, .any, .any, .im (sumR (lstR vR) menuR) (fun e => e.1.2.told), .im (sumR (lstR intR) baseR) (fun e => e.1.2.due), .any]) (fun _ => rfl) (fun _ => sc_law.nd) (fun _ => rfl) (fun _ => rfl) (by decide) (fun _ => rfl) (fun _ => rfl) (tx_call (k := 3) (fun _ => ca_law_dueW F) (mw_law_dueW) (fun _ => hr.mono (by decide)) (fun _ => rfl) (ta_cons (tx_im (i := 6) rfl (fun _ => rfl) (fun _ => Or.inl rfl)) ta_nil)) (tx_call (k := 8) (fun _ => ca_law_toldW F) (mw_law_toldW) (fun _ => hr.mono (by decide)) (fun _ => rfl) (ta_cons (tx_im (i := 6) rfl (fun _ => rfl) (fun _ => Or.inl rfl)) ta_nil)) rfl rfl (.im (fun _ => rfl) (.im (fun _ => rfl) (.any rfl (.sr (.im (fun _ => rfl) (.any rfl (.im (fun _ => rfl) (.any rfl (.any rfl (.any rfl (.any rfl (.im (fun _ => rfl) (.im (fun _ => rfl) (.any rfl .nil)))))))))))))) (by intro _; rfl))
    (ts_caseS (i := 12) (LA := ([.im vR (fun e => e.1.1.1), .im (lstR strR) (fun e => e.1.1.2), .any, .sr, .im (lstR strR) (fun e => e.1.2.some), .any, .im vdR (fun e => e.2), .any, .any, .any, .any, .im (sumR (lstR vR) menuR) (fun e => e.1.2.told), .im (lstR intR) (fun e => (getL [] (e.1.2.due))), .any] : List (Sl (((V × List Str) × Loc_t_law) × (V × PyData))))) (LB := ([.im vR (fun e => e.1.1.1), .im (lstR strR) (fun e => e.1.1.2), .any, .sr, .im (lstR strR) (fun e => e.1.2.some), .any, .im vdR (fun e => e.2), .any, .any, .any, .any, .im (sumR (lstR vR) menuR) (fun e => e.1.2.told), .im baseR (fun e => (getR ⟨[], []⟩ (e.1.2.due))), .any] : List (Sl (((V × List Str) × Loc_t_law) × (V × PyData))))) [] ⟨[], []⟩ rfl rfl rfl
    (ts_caseS (i := 11) [] ⟨[], []⟩ rfl rfl rfl (TS.sub (L2 := ([.im vR (fun e => e.1.1.1), .im (lstR strR) (fun e => e.1.1.2), .any, .sr, .im (lstR strR) (fun e => e.1.2.some), .any, .im vdR (fun e => e.2), .any, .any, .any, .any, .any, .any, .any] : List (Sl (((V × List Str) × Loc_t_law) × (V × PyData))))) (ts_cons (ts_if (TTW.tt (tw_and (TX.val (tx_isi isi_LL (fun _ => rfl) (fun _ => rfl) (fun _ => z_isinstance F) (fun _ => rfl) (fun _ => z_list F) (by decide +kernel) (by decide +kernel) (tx_im (i := 12) rfl (fun _ => rfl) (fun _ => Or.inl rfl)))) (tw_one_and (tt_cmp (fun _ => (op_neD hr.units)) v_neDD (tx_fl (tx_im (i := 11) rfl (fun _ => rfl) (fun _ => Or.inl rfl))) (tx_d (isd_l isd_i) (tx_im (i := 12) rfl (fun _ => rfl) (fun _ => Or.inl rfl))) (nomark _))))) (ts_cons (ts_ret tx_bl) ts_nil) ts_nil)
    (ts_cons (ts_if (TTW.tt (tw_and (TX.val (tx_isi isi_LT0 (fun _ => rfl) (fun _ => rfl) (fun _ => z_isinstance F) (fun _ => rfl) (fun _ => z_tuple F) (by decide +kernel) (by decide +kernel) (tx_im (i := 12) rfl (fun _ => rfl) (fun _ => Or.inl rfl)))) (tw_one_and tt_any))) (ts_cons (ts_ret tx_bl) ts_nil) ts_nil) ts_nil)) (.im (fun _ => rfl) (.im (fun _ => rfl) (.any rfl (.sr (.im (fun _ => rfl) (.any rfl (.im (fun _ => rfl) (.any rfl (.any rfl (.any rfl (.any rfl (.any rfl (.any rfl (.any rfl .nil))))))))))))))) ts_any)
    (ts_caseS (i := 11) [] ⟨[], []⟩ rfl rfl rfl ts_any (TS.sub (L2 := ([.im vR (fun e => e.1.1.1), .im (lstR strR) (fun e => e.1.1.2), .any, .sr, .im (lstR strR) (fun e => e.1.2.some), .any, .im vdR (fun e => e.2), .any, .any, .any, .any, .any, .any, .any] : List (Sl (((V × List Str) × Loc_t_law) × (V × PyData))))) (ts_cons (ts_if (TTW.tt (tw_and (TX.val (tx_isi isi_BL (fun _ => rfl) (fun _ => rfl) (fun _ => z_isinstance F) (fun _ => rfl) (fun _ => z_list F) (by decide +kernel) (by decide +kernel) (tx_im (i := 12) rfl (fun _ => rfl) (fun _ => Or.inl rfl)))) (tw_one_and tt_any))) (ts_cons (ts_ret tx_bl) ts_nil) ts_nil)
    (ts_cons (ts_if (TTW.tt (tw_and (TX.val (tx_isi isi_BT (fun _ => rfl) (fun _ => rfl) (fun _ => z_isinstance F) (fun _ => rfl) (fun _ => z_tuple F) (by decide +kernel) (by decide +kernel) (tx_im (i := 12) rfl (fun _ => rfl) (fun _ => Or.inl rfl)))) (tw_one_and (TTW.tt (tw_or (TX.val (tx_isi (isi_ML (menuI F) (cls_Menu F) (kit_Menu_list F)) (fun _ => rfl) (fun _ => rfl) (fun _ => z_isinstance F) (fun _ => rfl) (fun _ => z_list F) (by decide +kernel) (by decide +kernel) (tx_im (i := 11) rfl (fun _ => rfl) (fun _ => Or.inl rfl)))) (tw_one_or (tt_cmp (fun _ => (op_neM (cm_Menu_eq F) (menuI F).obj (menuI F).ne (pass0) (hr.mono (by decide)) hu)) (v_neM F) (tx_im (i := 11) rfl (fun _ => rfl) (fun _ => Or.inl rfl)) (tx_call (k := 7) (fun _ => ca_imp (ca_law_made F) b_made) (wMade_mono) (fun _ => hr.mono (by decide)) (fun _ => rfl) (ta_cons (tx_im (i := 12) rfl (fun _ => rfl) (fun _ => Or.inl rfl)) ta_nil)) (nomark _)))))))) (ts_cons (ts_ret tx_bl) ts_nil) ts_nil) ts_nil)) (.im (fun _ => rfl) (.im (fun _ => rfl) (.any rfl (.sr (.im (fun _ => rfl) (.any rfl (.im (fun _ => rfl) (.any rfl (.any rfl (.any rfl (.any rfl (.any rfl (.any rfl (.any rfl .nil)))))))))))))))))))
    (.im (fun _ => rfl) (.im (fun _ => rfl) (.any rfl (.sr (.im (fun _ => rfl) (.any rfl (.any rfl (.any rfl (.any rfl (.any rfl (.any rfl (.any rfl (.any rfl (.any rfl .nil)))))))))))))))) ts_nil))))
    exact hb⟩
end K50
namespace K50
open PySem PySem.Spec PyProof.Rows L2 Gx Tx Px
def Wt (f : Str → Nat) (xs : List Str) : Nat := (xs.map f).sum + xs.length
theorem wt_app {f : Str → Nat} {a b : List Str} : Wt f (a ++ b) = Wt f a + Wt f b := by
  unfold Wt
  rw [List.map_append, List.sum_append, List.length_append]
  omega
theorem wt_one {f : Str → Nat} {x : Str} : Wt f [x] = f x + 1 := by
  unfold Wt
  rw [List.map_cons, List.map_nil, List.sum_cons, List.sum_nil]
  rfl
theorem wt_td {f : Str → Nat} {xs : List Str} (k : Nat) : Wt f (xs.take k) + Wt f (xs.drop k) = Wt f xs := by
  rw [← wt_app, List.take_append_drop]
theorem wt_drop {f : Str → Nat} {xs : List Str} (k d : Nat) : Wt f (xs.drop (k + d)) ≤ Wt f (xs.drop k) := by
  have := wt_td (f := f) (xs := xs.drop k) d
  rw [List.drop_drop] at this
  omega
theorem wt_len {f : Str → Nat} {xs : List Str} : xs.length ≤ Wt f xs := by unfold Wt; omega
theorem cut_lo2 {α : Type} {xs : List α} {k : Nat} : cutL xs (some (k : Int)) none = xs.drop k := by
  by_cases h : k ≤ xs.length
  · exact cut_lo h
  · unfold cutL HT.sIx
    simp only
    rw [if_neg (by omega), Int.toNat_natCast, Nat.min_eq_right (by omega), List.drop_length, List.drop_eq_nil_of_le (by omega), List.take_nil]
theorem cut_len {α : Type} {xs : List α} {lo hi : Option Int} : (cutL xs lo hi).length ≤ xs.length := by
  unfold cutL
  rw [List.length_take, List.length_drop]
  omega
theorem wt_cut {f : Str → Nat} {xs : List Str} {lo hi : Option Int} : Wt f (cutL xs lo hi) ≤ Wt f xs := by
  unfold cutL
  have a := wt_td (f := f) (xs := xs) (HT.sIx xs.length 0 lo)
  have b := wt_td (f := f) (xs := xs.drop (HT.sIx xs.length 0 lo)) (HT.sIx xs.length xs.length hi - HT.sIx xs.length 0 lo)
  omega
theorem mu_cutS {p : Nat → Bool} {z : Str} {lo hi : Option Int} : mu p (cutS z lo hi) ≤ mu p z := by
  unfold mu cutS
  exact List.Sublist.countP_le ((List.take_sublist _ _).trans (List.drop_sublist _ _))
theorem len_cutS {z : Str} {lo hi : Option Int} : (cutS z lo hi).length ≤ z.length := by
  have := mu_cutS (p := fun _ => true) (z := z) (lo := lo) (hi := hi)
  rwa [mu_len, mu_len] at this
theorem len_app {x y : Str} : (x ++ y).length = x.length + y.length := by
  have := mu_app (p := fun _ => true) (x := x) (y := y)
  rwa [mu_len, mu_len, mu_len] at this
theorem wt_rev {f : Str → Nat} : ∀ {xs : List Str}, Wt f xs.reverse = Wt f xs
  | [] => rfl
  | x :: xs => by
    rw [List.reverse_cons, wt_app, wt_rev, wt_one, ← List.singleton_append, wt_app, wt_one]
    omega
theorem mu_joinW {p : Nat → Bool} (h10 : p 10 = true) {ps : List Str} : mu p (Txt.join "\n" ps) ≤ Wt (mu p) ps := by
  by_cases c : ps = []
  · subst c
    exact Nat.le_of_eq rfl
  · rw [nl_one]
    have := mu_joinT h10 c
    unfold Wt
    omega
def Bd (s t : Str) : Prop := ∀ p : Nat → Bool, p 32 = true → p 10 = true → mu p t + 1 ≤ 3 * (mu p s + 1) + 16
theorem r_law_bent {s : Str} (hs : s.length ≤ 20000) {k : Str → Prop} (hk : ∀ t, Bd s t → k t) : w_law_bent (s, ()) k := by
  unfold w_law_bent wT d_law_bent
  refine up_of fun k' hm => ?_
  dsimp only
  have q := fun t h => hm t (hk t h)
  clear hk hm
  have wl : ∀ {p : Nat → Bool}, p 10 = true → Wt (mu p) (Txt.split s "\n") = mu p s + 1 := fun h => by
    rw [nl_one]
    exact (mu_split h).symm
  have ww : ∀ {p : Nat → Bool} {x : Str}, p 32 = true → Wt (mu p) (Txt.split x " ") = mu p x + 1 := fun h => by
    rw [bl_one]
    exact (mu_split h).symm
  have nl : Txt.split s "\n" ≠ [] := by rw [nl_one]; exact split_ne
  have ll : (Txt.split s "\n").length ≤ 20001 := by
    have a := wl (p := fun _ => true) rfl
    have := wt_len (f := mu fun _ => true) (xs := Txt.split s "\n")
    rw [mu_len] at a
    omega
  have lp := List.length_pos_iff.mpr nl
  refine ⟨big_line (by omega), ⟨by omega, by omega, fun u u0 u1 => ?_⟩⟩
  refine ⟨by decide +kernel, by decide +kernel, fun c hc => ?_⟩
  refine ⟨nl_len, by unfold sizeLine; omega, ⟨by omega, by omega, fun y y0 y1 => ?_⟩⟩
  dsimp only at u1 y1
  obtain ⟨n, rfl⟩ : ∃ n : Nat, y = (n : Int) := ⟨y.toNat, by omega⟩
  have ln : n < (Txt.split s "\n").length := by omega
  obtain ⟨x, hx⟩ : ∃ x, (Txt.split s "\n")[n]? = some x := ⟨_, List.getElem?_eq_getElem ln⟩
  have mx := List.mem_of_getElem? hx
  have xl : ∀ {p : Nat → Bool}, p 10 = true → mu p x ≤ mu p s := fun h => by
    rw [nl_one] at mx
    exact split_mu h mx
  have lx : x.length ≤ 20000 := by
    have := xl (p := fun _ => true) rfl
    rw [mu_len, mu_len] at this
    omega
  have nw : Txt.split x " " ≠ [] := by rw [bl_one]; exact split_ne
  have lw : (Txt.split x " ").length ≤ 20001 := by
    have a := ww (p := fun _ => true) (x := x) rfl
    have := wt_len (f := mu fun _ => true) (xs := Txt.split x " ")
    rw [mu_len] at a
    omega
  have lwp := List.length_pos_iff.mpr nw
  refine ⟨x, by rw [atI_cast]; exact hx, bl_len, by unfold sizeLine; omega, ⟨by omega, by omega, fun z z0 z1 => ?_⟩⟩
  dsimp only at z1
  obtain ⟨m, rfl⟩ : ∃ m : Nat, z = (m : Int) := ⟨z.toNat, by omega⟩
  have lm : m ≤ (Txt.split x " ").length := by omega
  obtain ⟨w0, hw0⟩ : ∃ w, (Txt.split x " ")[0]? = some w := ⟨_, List.getElem?_eq_getElem lwp⟩
  obtain ⟨w1, hw1⟩ : ∃ w, (Txt.split x " ")[(Txt.split x " ").length - 1]? = some w := ⟨_, List.getElem?_eq_getElem (by omega)⟩
  refine ⟨w0, by rw [show (0 : Int) = ((0 : Nat) : Int) from rfl, atI_cast]; exact hw0, w1, by rw [atI_last (n := (Txt.split x " ").length - 1) (by omega)]; exact hw1, ?_⟩
  refine ⟨by show 0 < 11; decide, by show 11 < 1000000; decide, fun wd hwd => ?_⟩
  have mw : ∀ {p : Nat → Bool}, p 32 = true → mu p wd ≤ mu p x + 6 := fun {p} h => by
    have inw : wd ∈ Txt.split x " " → mu p wd ≤ mu p x := fun z => by
      rw [bl_one] at z
      exact split_mu h z
    have cst : wd.length ≤ 6 → mu p wd ≤ 6 := fun z => by
      have : mu p wd ≤ wd.cps.toList.length := List.countP_le_length
      have e : wd.cps.toList.length = wd.length := by simp [Str.length]
      omega
    simp only [List.mem_cons, List.not_mem_nil, or_false] at hwd
    rcases hwd with rfl | rfl | rfl | rfl | rfl | rfl | rfl | rfl | rfl | rfl | rfl
    · exact Nat.le_trans (cst (by decide +kernel)) (by omega)
    · exact Nat.le_trans (cst (by decide +kernel)) (by omega)
    · exact Nat.le_trans (cst (by decide +kernel)) (by omega)
    · exact Nat.le_trans (cst (by decide +kernel)) (by omega)
    · exact Nat.le_trans (cst (by decide +kernel)) (by omega)
    · exact Nat.le_trans (cst (by decide +kernel)) (by omega)
    · exact Nat.le_trans (cst (by decide +kernel)) (by omega)
    · exact Nat.le_trans (cst (by decide +kernel)) (by omega)
    · exact Nat.le_trans (cst (by decide +kernel)) (by omega)
    · exact Nat.le_trans (inw (List.mem_of_getElem? hw0)) (by omega)
    · exact Nat.le_trans (inw (List.mem_of_getElem? hw1)) (by omega)
  have c1 := cut_len (xs := Txt.split x " ") (lo := none) (hi := some (m : Int))
  refine ⟨big_line (by simp only [List.length_cons, List.length_nil]; omega), ⟨by decide, by decide, fun d d0 d1 => ?_⟩⟩
  dsimp only at d1
  obtain ⟨d, rfl⟩ : ∃ e : Nat, d = (e : Int) := ⟨d.toNat, by omega⟩
  have e1 : cutL (Txt.split x " ") none (some (m : Int)) = (Txt.split x " ").take m := cut_hi lm
  have e2 : cutL (Txt.split x " ") (some ((m : Int) + (d : Int))) none = (Txt.split x " ").drop (m + d) := by
    rw [show (m : Int) + (d : Int) = ((m + d : Nat) : Int) from by omega]
    exact cut_lo2
  have e3 : cutL (Txt.split s "\n") none (some (n : Int)) = (Txt.split s "\n").take n := cut_hi (by omega)
  have e4 : cutL (Txt.split s "\n") (some ((n : Int) + 1)) none = (Txt.split s "\n").drop (n + 1) := by
    rw [show (n : Int) + 1 = ((n + 1 : Nat) : Int) from by omega]
    exact cut_lo2
  have e5 : cutL (Txt.split s "\n") (some (n : Int)) none = (Txt.split s "\n").drop n := cut_lo2
  rw [e1, e2, e3, e4, e5]
  have hW : ∀ {p : Nat → Bool}, p 32 = true → Wt (mu p) ((Txt.split x " ").take m ++ [wd] ++ (Txt.split x " ").drop (m + d)) ≤ 2 * mu p x + 8 := fun {p} h => by
    have a := wt_td (f := mu p) (xs := Txt.split x " ") m
    have b := wt_drop (f := mu p) (xs := Txt.split x " ") m d
    have c := ww (x := x) h
    have e := mw h
    rw [wt_app, wt_app, wt_one]
    omega
  generalize hws : (Txt.split x " ").take m ++ [wd] ++ (Txt.split x " ").drop (m + d) = words at hW
  have wne : words ≠ [] := by rw [← hws]; simp
  have wfit : (words.map fun x => x.length).sum + words.length * (" " : Str).length ≤ 16777216 := by
    have := hW (p := fun _ => true) rfl
    unfold Wt at this
    rw [mu_len] at this
    have e : words.map (mu fun _ => true) = words.map fun x => x.length := List.map_congr_left fun _ _ => mu_len
    rw [e] at this
    rw [bl_len1]
    omega
  have hl : ∀ {p : Nat → Bool}, p 32 = true → mu p (Txt.join " " words) ≤ 2 * mu p x + 7 := fun {p} h => by
    have := mu_line h wne
    have := hW h
    unfold Wt at this
    omega
  generalize Txt.join " " words = line at hl
  have t1 := List.length_take_le n (Txt.split s "\n")
  have t2 := List.length_take_le m (Txt.split x " ")
  have f1 := cut_len (xs := Txt.split s "\n") (lo := some (-1)) (hi := none)
  have f2 := len_cutS (z := s) (lo := none) (hi := some u)
  have f3 := len_cutS (z := s) (lo := some u) (hi := none)
  have f4 := len_cutS (z := s) (lo := some (u + 1)) (hi := none)
  have sg : (⟨#[c]⟩ : Str).length = 1 := rfl
  refine ⟨?_, wfit, ?_, ?_, wfit, ?_, ?_, ?_, ?_, ?_, ?_, ?_, ?_, ?_, ?_, ?_, ?_, ?_, ?_, ?_⟩
  all_goals try (refine big_line ?_; first | omega | (simp only [List.length_append, List.length_cons, List.length_nil, List.length_drop, len_app, sg]; omega))
  have row : ∀ r ∈ ([(Txt.split s "\n").take n ++ [line] ++ (Txt.split s "\n").drop (n + 1), (Txt.split s "\n").take n ++ [line] ++ (Txt.split s "\n").drop n] ++ [(Txt.split s "\n").take n ++ (Txt.split s "\n").drop (n + 1), Txt.split s "\n" ++ cutL (Txt.split s "\n") (some (-1)) none, Txt.split s "\n" ++ [("" : Str)], (Txt.split s "\n").reverse]), ∀ {p : Nat → Bool}, p 32 = true → p 10 = true → Wt (mu p) r ≤ 3 * (mu p s + 1) + 15 := fun r hr {p} h h' => by
    have a := wl h'
    have b := wt_td (f := mu p) (xs := Txt.split s "\n") n
    have e := wt_drop (f := mu p) (xs := Txt.split s "\n") n 1
    have g := hl h
    have i := xl h'
    have j := wt_cut (f := mu p) (xs := Txt.split s "\n") (lo := some (-1)) (hi := none)
    have z : mu p ("" : Str) = 0 := rfl
    simp only [List.mem_append, List.mem_cons, List.not_mem_nil, or_false] at hr
    rcases hr with (rfl | rfl) | rfl | rfl | rfl | rfl
    · rw [wt_app, wt_app, wt_one]; omega
    · rw [wt_app, wt_app, wt_one]; omega
    · rw [wt_app]; omega
    · rw [wt_app]; omega
    · rw [wt_app, wt_one, z]; omega
    · rw [wt_rev]; omega
  refine wComp_flt (fun _ => true) (fun r => Txt.join "\n" r) (fun _ _ k h => h) (fun r hr k h => ⟨?_, h⟩) ?_
  · have := row r hr (p := fun _ => true) rfl rfl
    unfold Wt at this
    rw [mu_len] at this
    have e : r.map (mu fun _ => true) = r.map fun x => x.length := List.map_congr_left fun _ _ => mu_len
    rw [e] at this
    show (r.map fun x => x.length).sum + r.length * _ ≤ _
    rw [nl_len1]
    omega
  · rw [List.filter_eq_self.mpr (fun _ _ => rfl), List.nil_append]
    refine ⟨big_line (by simp only [List.length_map, List.length_append, List.length_cons, List.length_nil]; omega), ?_⟩
    refine ⟨by simp only [List.length_map, List.length_append, List.length_cons, List.length_nil]; omega, by simp only [List.length_map, List.length_append, List.length_cons, List.length_nil]; omega, fun t ht => q t fun p h32 h10 => ?_⟩
    have ht : t ∈ [cutS s none (some u) ++ ⟨#[c]⟩ ++ cutS s (some u) none, cutS s none (some u) ++ cutS s (some (u + 1)) none] ++ _ := ht
    rw [List.mem_append] at ht
    rcases ht with ht | ht
    · have a1 := mu_cutS (p := p) (z := s) (lo := none) (hi := some u)
      have a2 := mu_cutS (p := p) (z := s) (lo := some u) (hi := none)
      have a3 := mu_cutS (p := p) (z := s) (lo := some (u + 1)) (hi := none)
      have a4 : mu p (⟨#[c]⟩ : Str) ≤ 1 := by
        have : mu p (⟨#[c]⟩ : Str) ≤ [c].length := List.countP_le_length
        exact this
      simp only [List.mem_cons, List.not_mem_nil, or_false] at ht
      rcases ht with rfl | rfl
      · rw [mu_app, mu_app]
        omega
      · rw [mu_app]
        omega
    · obtain ⟨r, hr, rfl⟩ := List.mem_map.mp ht
      have a := row r hr h32 h10
      have b := mu_joinW h10 (ps := r)
      omega
end K50
/-! the tables of days, with a sign -/
namespace Px
open PySem PySem.Spec PyProof.Rows L2 Gx Tx Pm
structure TabS (s : Int) (b : Bs) (p : List Str) (n : Nat) (T : List ((List Str × Str) × Int)) : Prop where
  snd : ∀ q x v, getK T (q, x) = some v → ∃ row, RowTo b p n q x row ∧ tripDigs b p row = v
  top : ∀ q x row, RowTo b p n q x row → ∃ v, getK T (q, x) = some v ∧ s * tripDigs b p row ≤ s * v
  nd : (T.map Prod.fst).Nodup
theorem TabS.zero {s : Int} {b : Bs} {p : List Str} {f : Str} (hf : firstP b = [f]) (fn : f ∈ b.names) : TabS s b p 0 [((p, f), 0)] := by
  refine ⟨fun q x v h => ?_, fun q x row h => ?_, by simp⟩
  · rw [getK_cons, getK_nil] at h
    split at h
    · rename_i c
      cases h
      cases c
      obtain ⟨e, he, rfl⟩ := List.mem_map.mp fn
      exact ⟨[], ⟨rfl, ⟨by rw [hf]; exact List.mem_singleton.mpr rfl, e, he, rfl, trivial⟩, rfl⟩, rfl⟩
    · cases h
  · obtain ⟨h1, h2, h3⟩ := h
    have e : row = [] := List.length_eq_zero_iff.mp h1
    subst e
    have h3 : p = q := h3
    subst h3
    obtain ⟨hx, _⟩ := h2
    rw [hf, List.mem_singleton] at hx
    subst hx
    exact ⟨0, by rw [getK_cons, if_pos rfl], Int.le_refl _⟩
structure NextS (s : Int) (b : Bs) (p : List Str) (n : Nat) (T : List ((List Str × Str) × Int)) (D : List Str → Ent → Str → Prop) (N : List ((List Str × Str) × Int)) : Prop where
  snd : ∀ q x v, getK N (q, x) = some v → ∃ row, RowTo b p (n + 1) q x row ∧ tripDigs b p row = v
  top : ∀ q e x z, D q e x → getK T (q, e.name) = some z → ∃ v, getK N (behindP q e.wishes e.back, x) = some v ∧ s * (z + (digsP q e.wishes : Int)) ≤ s * v
  nd : (N.map Prod.fst).Nodup
theorem NextS.put {s : Int} {b : Bs} (wf : WF b) {p : List Str} {n : Nat} {T N : List ((List Str × Str) × Int)} {D D' : List Str → Ent → Str → Prop} (ok : TabS s b p n T) (h : NextS s b p n T D N) {q : List Str} {e : Ent} (he : e ∈ b.ws) {x : Str} (hx : x ∈ e.later) {z : Int} (hz : getK T (q, e.name) = some z)
    (big : ∀ v, getK N (behindP q e.wishes e.back, x) = some v → s * v ≤ s * (z + (digsP q e.wishes : Int))) (hD : ∀ q' e' x', D' q' e' x' → D q' e' x' ∨ (q' = q ∧ e' = e ∧ x' = x)) : NextS s b p n T D' (setK N (behindP q e.wishes e.back, x) (z + (digsP q e.wishes : Int))) := by
  refine ⟨fun q' x' v hv => ?_, fun q' e' x' z' d hz' => ?_, keys_set h.nd⟩
  · rw [getK_set] at hv
    split at hv
    · rename_i c
      cases hv
      cases c
      obtain ⟨row, r1, r2⟩ := ok.snd _ _ _ hz
      obtain ⟨a1, a2⟩ := r1.next wf he hx
      exact ⟨_, a1, by rw [a2, r2]⟩
    · exact h.snd _ _ _ hv
  · rw [getK_set]
    rcases hD _ _ _ d with d | ⟨rfl, rfl, rfl⟩
    · obtain ⟨v, hv, le⟩ := h.top _ _ _ _ d hz'
      by_cases c : (behindP q' e'.wishes e'.back, x') = (behindP q e.wishes e.back, x)
      · rw [if_pos c]
        rw [c] at hv
        exact ⟨_, rfl, Int.le_trans le (big v hv)⟩
      · rw [if_neg c]
        exact ⟨v, hv, le⟩
    · rw [if_pos rfl]
      rw [hz] at hz'
      cases hz'
      exact ⟨_, rfl, Int.le_refl _⟩
theorem NextS.keep {s : Int} {b : Bs} {p : List Str} {n : Nat} {T N : List ((List Str × Str) × Int)} {D D' : List Str → Ent → Str → Prop} (h : NextS s b p n T D N) {q : List Str} {e : Ent} {x : Str} {z v : Int} (hz : getK T (q, e.name) = some z) (hv : getK N (behindP q e.wishes e.back, x) = some v) (le : s * (z + (digsP q e.wishes : Int)) ≤ s * v)
    (hD : ∀ q' e' x', D' q' e' x' → D q' e' x' ∨ (q' = q ∧ e' = e ∧ x' = x)) : NextS s b p n T D' N := by
  refine ⟨h.snd, fun q' e' x' z' d hz' => ?_, h.nd⟩
  rcases hD _ _ _ d with d | ⟨rfl, rfl, rfl⟩
  · exact h.top _ _ _ _ d hz'
  · rw [hz] at hz'
    cases hz'
    exact ⟨v, hv, le⟩
theorem NextS.done {s : Int} {b : Bs} (wf : WF b) {p : List Str} {n : Nat} {T N : List ((List Str × Str) × Int)} {D : List Str → Ent → Str → Prop} (ok : TabS s b p n T) (h : NextS s b p n T D N) (all : ∀ q e x z, e ∈ b.ws → getK T (q, e.name) = some z → x ∈ e.later → D q e x) : TabS s b p (n + 1) N := by
  refine ⟨h.snd, fun q x row r => ?_, h.nd⟩
  obtain ⟨q0, e, r0, he, r1, hx, rfl, rfl⟩ := r.split wf
  obtain ⟨z, hz, le⟩ := ok.top _ _ _ r1
  obtain ⟨v, hv, le2⟩ := h.top _ _ _ _ (all _ _ _ _ he hz hx) hz
  obtain ⟨_, a2⟩ := r1.next wf he hx
  refine ⟨v, hv, ?_⟩
  rw [a2, Int.mul_add]
  rw [Int.mul_add] at le2
  omega
end Px
/-! bounds of data; things that are no packings -/
namespace Px
open PySem PySem.Spec PyProof.Rows L2 Gx Tx
theorem _root_.Tx.Bn.nil {k n l : Nat} : Bn k n l [] := ⟨rfl, Nat.zero_le _, Nat.zero_le _, Nat.zero_le _⟩
theorem _root_.Tx.Bn.cons {k n l n' l' : Nat} {d : PyData} {ds : List PyData} (h : B1 k n l d) (g : Bn k n' l' ds) : Bn k (n + 2 + n') (l + l') (d :: ds) := by
  obtain ⟨h1, h2, h3, h4⟩ := h
  obtain ⟨g1, g2, g3, g4⟩ := g
  refine ⟨?_, ?_, ?_, ?_⟩
  · rw [PyData.showableAll, h1, g1]; rfl
  · rw [PyData.depthAll]; omega
  · rw [wds]; omega
  · rw [nlis]; omega
theorem _root_.Tx.Bn.app {k n l n' l' : Nat} {xs ys : List PyData} (h : Bn k n l xs) (g : Bn k n' l' ys) : Bn k (n + n') (l + l') (xs ++ ys) := by
  obtain ⟨h1, h2, h3, h4⟩ := h
  obtain ⟨g1, g2, g3, g4⟩ := g
  refine ⟨?_, ?_, ?_, ?_⟩
  · rw [showableAll_app, h1, g1]; rfl
  · rw [depthAll_app]; omega
  · rw [wds_app]; omega
  · rw [nls_app]; omega
theorem _root_.Tx.Bn.list {k n l : Nat} {ds : List PyData} (h : Bn k n l ds) : B1 (k + 1) (n + 2) (l + 1) (.list ds) := by
  obtain ⟨q1, q2, q3, q4⟩ := h
  refine ⟨?_, ?_, ?_, ?_⟩
  · rw [PyData.showable]; exact q1
  · rw [PyData.depth]; omega
  · rw [wd]; omega
  · rw [nli]; omega
theorem _root_.Tx.Bn.tup {k n l : Nat} {ds : List PyData} (h : Bn k n l ds) : B1 (k + 1) (n + 3) l (.tuple ds) := by
  obtain ⟨q1, q2, q3, q4⟩ := h
  refine ⟨?_, ?_, ?_, ?_⟩
  · rw [PyData.showable]; exact q1
  · rw [PyData.depth]; omega
  · rw [wd]; omega
  · rw [nli]; omega
/-! ### no rows of the things -/
end Px
namespace Px
open PySem PySem.Spec PyProof.Rows L2 Gx Tx
end Px
/-! numbers shown; small data compared -/
namespace Px
open PySem PySem.Spec PyProof.Rows L2 Gx Tx
end Px
namespace K50
open PySem PySem.Spec PyProof.Rows L2 Gx Tx Px
theorem splitW_t {E ρ : Type} {b : E → Bool} {w1 w2 : E → Kn E ρ → Prop} {e : E} {k : Kn E ρ} (h : b e = true) (q : w1 e k) : splitW b w1 w2 e k := by
  unfold splitW
  rw [if_pos h]
  exact q
theorem splitW_f {E ρ : Type} {b : E → Bool} {w1 w2 : E → Kn E ρ → Prop} {e : E} {k : Kn E ρ} (h : b e = false) (q : w2 e k) : splitW b w1 w2 e k := by
  unfold splitW
  rw [if_neg (by rw [h]; decide)]
  exact q
def outT (z : Nat ⊕ Bs) : List V ⊕ Bs := z.elim (fun n : Nat => .inl [V.int (n : Int)]) .inr
theorem r_law_toldS {x : Str} (sm : Small x) {k : List V ⊕ Bs → Prop} (hk : k (outT (readP (wordsP x)))) : w_law_toldS (x, ()) k := by
  unfold w_law_toldS wT d_law_toldS
  refine up_of fun k' hm => ?_
  dsimp only
  have q := hm _ hk
  refine r_read_menu sm ?_
  cases h : readP (wordsP x) with
  | inl n =>
    rw [h] at q
    exact ⟨rfl, rfl, q⟩
  | inr b =>
    rw [h] at q
    exact q
theorem r_law_dueW {w : V × PyData} (h : isS w.2 = false) {k : List Int ⊕ Bs → Prop} (hk : k (.inl [1])) : w_law_dueW (w, ()) k := by
  unfold w_law_dueW wT d_law_dueW
  refine up_of fun k' hm => ?_
  dsimp only
  rw [h, if_pos (show (!false) = true from rfl)]
  exact hm _ hk
theorem r_law_toldW {w : V × PyData} (h : isS w.2 = false) {k : List V ⊕ Bs → Prop} (hk : k (.inl [V.int 1])) : w_law_toldW (w, ()) k := by
  unfold w_law_toldW wT d_law_toldW
  refine up_of fun k' hm => ?_
  dsimp only
  unfold w_read_menuW wT d_read_menuW
  refine up_of fun k2 hm2 => ?_
  dsimp only
  rw [h, if_pos (show (!false) = true from rfl)]
  exact hm2 _ ⟨rfl, rfl, hm _ hk⟩
theorem r_law_tuples {b : Bs} (wf : WF b) {k : Bs → Prop} (hk : k b) : w_law_tuples (b, ()) k := by
  unfold w_law_tuples wT d_law_tuples
  refine up_of fun k' hm => ?_
  dsimp only
  have q := hm _ hk
  have w4 := wf.w4
  refine ⟨le_line (by omega), wComp_flt (fun _ => true) tupE (fun _ _ k h => h) (fun _ _ k h => h) ?_⟩
  rw [List.filter_eq_self.mpr (fun _ _ => rfl), List.nil_append]
  rw [ents_tup]
  refine ⟨?_, wf, q⟩
  rw [List.map_map]
  exact wf.wd
theorem read_inr {ls : List (List Str)} {c : Bs} (h : readP ls = .inr c) : WF c := by
  unfold readP at h
  split at h
  · cases h
  · rename_i ts rows hp
    obtain ⟨tk, ok⟩ := lines_ok hp
    split at h
    · cases h
    · rename_i hn
      split at h
      · cases h
      · rename_i hl
        have := Sum.inr.inj h
        subst this
        exact read_wf tk ok hn hl
theorem text_Small {b : Bs} (wf : WF b) : Small (textP b) := by
  have := text_small wf
  exact ⟨by omega, by omega⟩
theorem r_calm {b : Bs} (wf : WF b) {k : Bs → Prop} (hk : k b) : wCalm w_read_menu (textP b, ()) k := by
  show w_read_menu (textP b, ()) _
  refine r_read_menu (text_Small wf) ?_
  rw [read_back wf]
  exact hk
/-! ## texts as data -/
theorem all_join {Q : Nat → Prop} {d : Nat} (hd : Q d) : ∀ {ws : List Str}, (∀ w ∈ ws, ∀ c ∈ w.cps.toList, Q c) → ∀ c ∈ (Str.join (one d) ws).cps.toList, Q c
  | [], _, c, h => by cases h
  | [a], hw, c, h => hw a List.mem_cons_self c h
  | a :: b :: r, hw, c, h => by
    rw [join_cps, List.mem_append] at h
    rcases h with h | h
    · exact hw a List.mem_cons_self c h
    · rcases List.mem_cons.mp h with rfl | h
      · exact hd
      · exact all_join hd (fun w hh => hw w (List.mem_cons_of_mem _ hh)) c h
theorem ok_of {x : Str} (h : ∀ c ∈ x.cps.toList, c < 1000) : okS x := by
  unfold okS PyData.strOk
  rw [Array.all_eq_true]
  intro i hi
  have := h (x.cps[i]) (by simp)
  simp only [decide_eq_true_eq]
  omega
def Wc (w : Str) : Prop := ∀ c ∈ w.cps.toList, c < 1000
instance : DecidablePred Wc := fun x => by unfold Wc; infer_instance
theorem wc_nm {w : Str} (h : NM w) : Wc w := fun c hc => by have := h.2.2 c hc; omega
theorem wc_rows {b : Bs} (wf : WF b) : ∀ ws ∈ rowsW b, ∀ w ∈ ws, Wc w := fun ws h w hw => by
  unfold rowsW at h
  rcases List.mem_cons.mp h with rfl | h
  · unfold headW at hw
    rw [List.mem_append, List.mem_singleton] at hw
    rcases hw with rfl | hw
    · decide +kernel
    · exact wc_nm (wf.tn w hw)
  · obtain ⟨e, he, rfl⟩ := List.mem_map.mp h
    have we := wf.we e he
    unfold wordsE at hw
    simp only [List.mem_append, List.mem_cons, List.not_mem_nil, or_false] at hw
    rcases hw with (((rfl | rfl | rfl) | h) | rfl) | h
    · exact wc_nm (wf.wn _ (List.mem_map.mpr ⟨e, he, rfl⟩))
    · rcases we.b with z | z <;> (rw [z]; decide +kernel)
    · decide +kernel
    · exact wc_nm (wf.tn w (we.w w h))
    · decide +kernel
    · exact wc_nm (wf.wn w (we.l w h))
theorem ok_text {b : Bs} (wf : WF b) : okS (textP b) := by
  refine ok_of ?_
  unfold textP
  rw [nl_one, join_eq]
  refine all_join (Q := fun c => c < 1000) (by decide) fun l hl => ?_
  obtain ⟨ws, hw, rfl⟩ := List.mem_map.mp hl
  rw [bl_one, join_eq]
  exact all_join (Q := fun c => c < 1000) (by decide) fun w h => wc_rows wf ws hw w h
theorem shaped_i {i : Int} : SeqAt.shaped (.list [.int i]) = true := by
  unfold SeqAt.shaped
  simp [PyData.canLay0, PyData.canLayAll0, PyData.depth, PyData.depthAll]
theorem eqv_i {i : Int} : (PyData.list [.int i]).eqv (.list [.int i]) = true := by simp [PyData.eqv, PyData.eqvAll]
/-! ## the law's turn -/
def TyOk (ty : List Str) : Prop := ty.length ≤ 50 ∧ ∀ t ∈ ty, Small t
theorem bent_small {b : Bs} (wf : WF b) {t1 t2 : Str} (h1 : Bd (textP b) t1) (h2 : Bd t1 t2) : Small t1 ∧ Small t2 := by
  obtain ⟨a, c⟩ := text_small wf
  have p1 := h1 (fun _ => true) rfl rfl
  have p2 := h2 (fun _ => true) rfl rfl
  have q1 := h1 sepB rfl rfl
  have q2 := h2 sepB rfl rfl
  rw [mu_len, mu_len] at p1 p2
  exact ⟨⟨by omega, by omega⟩, ⟨by omega, by omega⟩⟩
theorem r_t_law (v0 : V) (ty : List Str) (hty : TyOk ty) (kn : Kn ((V × List Str) × Loc_t_law) Bool) (l0 : Loc_t_law) (h : ∀ e, e.1 = (v0, ty) → kn.nx e) : d_t_law.1 ((v0, ty), l0) kn := by
  unfold d_t_law
  dsimp only
  refine ⟨⟨by omega, by omega⟩, ?_⟩
  refine wFor_rem (fun rem e => e.1 = (v0, ty) ∧ e.2.some.length + 3 * rem.length ≤ 100 ∧ ∀ t ∈ e.2.some, Small t) (fun turn rest e k0 ⟨i0, i1, i2⟩ hn0 _ => ?turn) (fun e ⟨i0, i1, i2⟩ => ?after) ⟨rfl, by show ty.length + 3 * 6 ≤ 100; have := hty.1; omega, hty.2⟩
  case turn =>
    dsimp only
    refine ⟨by omega, by omega, fun b wf => ?_⟩
    refine r_law_lines wf ⟨text_fits wf, ?_⟩
    have ts := text_small wf
    rw [List.length_cons] at i1
    refine r_law_bent (s := textP b) (by omega) fun t1 h1 => ?_
    have l1 := h1 (fun _ => true) rfl rfl
    rw [mu_len, mu_len] at l1
    refine r_law_bent (by omega) fun t2 h2 => ?_
    obtain ⟨s1, s2⟩ := bent_small wf h1 h2
    refine ⟨le_line (by simp only [List.length_cons, List.length_nil]; omega), wf, r_menu_text wf ?_⟩
    rw [if_neg (by show ¬ (!decide (textP b = textP b)) = true; simp)]
    refine r_law_tuples wf (r_menu_text wf ?_)
    rw [if_neg (by show ¬ (!decide (textP b = textP b)) = true; simp)]
    refine ⟨wf, r_calm wf (r_law_tuples wf ⟨wf, wf, ?_⟩)⟩
    rw [if_neg (by simp)]
    refine ⟨wf, wf, ?_⟩
    rw [if_neg (by simp)]
    refine r_calm wf ⟨wf, wf, ?_⟩
    rw [if_neg (by simp)]
    refine r_menu_text wf (r_menu_text wf (r_menu_text wf (r_menu_text wf ⟨by omega, by omega, le_line (show 1 * 4 ≤ 1000 by decide), fun x hx => ?_, fun x hx => ?_, ?_⟩)))
    · simp only [List.mem_cons, List.not_mem_nil, or_false] at hx
      rcases hx with rfl | rfl | rfl | rfl <;> exact ok_text wf
    · have hx : x ∈ [textP b, textP b, textP b, textP b] := hx
      simp only [List.mem_cons, List.not_mem_nil, or_false] at hx
      rcases hx with rfl | rfl | rfl | rfl <;> exact ok_text wf
    · rw [if_neg (by
        show ¬ (!(PyData.list (List.map PyData.str [textP b, textP b, textP b, textP b])).eqv (PyData.list (List.map PyData.str [textP b, textP b, textP b, textP b]))) = true
        rw [eqv_l]
        simp)]
      refine hn0 _ ⟨i0, ?_, fun t ht => ?_⟩
      · show (e.2.some ++ [_, _, _]).length + 3 * rest.length ≤ 100
        rw [List.length_append]
        simp only [List.length_cons, List.length_nil]
        omega
      · have ht : t ∈ e.2.some ++ [textP b, t1, t2] := ht
        rw [List.mem_append] at ht
        rcases ht with ht | ht
        · exact i2 t ht
        · simp only [List.mem_cons, List.not_mem_nil, or_false] at ht
          rcases ht with rfl | rfl | rfl
          · exact text_Small wf
          · exact s1
          · exact s2
  case after =>
    dsimp only
    intro v1 v2 v3 v4 v5 v6
    refine ⟨le_line (by simp only [List.length_map, List.length_cons, List.length_nil]; omega), ?_⟩
    refine wFor_rem (fun rem e' => e'.1 = (v0, ty) ∧ ∀ w ∈ rem, isS w.2 = false ∨ ∃ x, w.2 = PyData.str x ∧ Small x) (fun w rest e' k1 ⟨j0, j1⟩ hn1 _ => ?one) (fun e' ⟨j0, _⟩ => h e' j0) ⟨i0, fun w hw => ?ws⟩
    case ws =>
      rw [List.mem_append] at hw
      rcases hw with hw | hw
      · obtain ⟨x, hx, rfl⟩ := List.mem_map.mp hw
        exact .inr ⟨x, rfl, i2 x hx⟩
      · simp only [List.mem_cons, List.not_mem_nil, or_false] at hw
        rcases hw with rfl | rfl | rfl | rfl | rfl | rfl <;> exact .inl rfl
    case one =>
      have j2 : ∀ w ∈ rest, isS w.2 = false ∨ ∃ x, w.2 = PyData.str x ∧ Small x := fun w hw => j1 w (List.mem_cons_of_mem _ hw)
      rcases j1 w List.mem_cons_self with hw | ⟨x, hw, sm⟩
      · refine splitW_f hw ?_
        refine r_law_dueW hw (r_law_toldW hw ?_)
        dsimp only
        rw [if_pos rfl]
        refine ⟨fun v hv => ?_, shaped_i, shaped_i, ?_⟩
        · have hv : v ∈ [V.int 1] := hv
          rw [List.mem_singleton] at hv
          subst hv
          rfl
        · rw [if_neg (by
            show ¬ (!(PyData.list [.int 1]).eqv (.list [.int 1])) = true
            rw [eqv_i]
            decide), if_neg (by decide), if_neg (by decide)]
          exact hn1 _ ⟨j0, j2⟩
      · refine splitW_t (by show isS w.2 = true; rw [hw]; rfl) ?_
        refine ⟨x, hw, r_law_dueS sm ⟨x, hw, r_law_toldS sm ?_⟩⟩
        cases hr : readP (wordsP x) with
        | inl n =>
          dsimp only [outD, outT, Sum.elim_inl]
          rw [if_pos rfl]
          refine ⟨fun v hv => ?_, shaped_i, shaped_i, ?_⟩
          · have hv : v ∈ [V.int (n : Int)] := hv
            rw [List.mem_singleton] at hv
            subst hv
            rfl
          · refine (if_neg ?_).mpr ?_
            · show ¬ (!(PyData.list [.int (n : Int)]).eqv (.list [.int (n : Int)])) = true
              rw [eqv_i]
              decide
            · rw [if_neg (by decide), if_neg (by decide)]
              exact hn1 _ ⟨j0, j2⟩
        | inr c =>
          have wf := read_inr hr
          dsimp only [outD, outT, Sum.elim_inr]
          rw [if_neg (by decide), if_neg (by decide), if_pos rfl, if_neg (by decide)]
          refine ⟨wf, wf, wf, ?_⟩
          refine (if_neg ?_).mpr ?_
          · show ¬ (!decide (c = c)) = true
            simp
          · exact hn1 _ ⟨j0, j2⟩
/-! ## the law's typed texts -/
def five : List Str := [("v" : Str), "w", "x", "y", "z"].map fun x => x ++ (" top : > " : Str) ++ x
def typedL : List Str := ([("" : Str), "things", "things a", "things a\nx top : > x", "things a\nx top : a > x x", "things a a\nx top : > x"] ++ [("things a\nx : > x" : Str), "things a\nx top : > y\ny place : > x", "things a\nx top : > y", "things a\n"] ++ [("things a\n" : Str) ++ Txt.join "\n" five] ++ [("things a\nx top : > y\ny top : > z\nx top : > x" : Str), "things a\nx top : > y\nz top : > abcdefghi"] ++ [("things a\nx top : > y\nz top : > z\nw top : > Z" : Str)])
instance : DecidablePred Small := fun x => by unfold Small; infer_instance
theorem typed_ok : TyOk typedL := ⟨by decide +kernel, by decide +kernel⟩
theorem r_t_head (v0 : V) (kn : Kn (V × Loc_t_head) Bool) (h : kn.nx (v0, { typed := typedL })) : d_t_head.1 (v0, {}) kn := by
  unfold d_t_head
  dsimp only
  refine ⟨le_line (by decide), le_line (by decide), ?_⟩
  refine wComp_flt (fun _ => true) (fun x : Str => x ++ (" top : > " : Str) ++ x) (fun _ _ k h => h) (fun x hx k h => ?_) ?_
  · have : x.length = 1 := by
      simp only [List.mem_cons, List.not_mem_nil, or_false] at hx
      rcases hx with rfl | rfl | rfl | rfl | rfl <;> decide +kernel
    have e : (" top : > " : Str).length = 9 := by decide +kernel
    refine ⟨?_, ?_, h⟩
    · exact le_line (by show x.length + _ ≤ _; omega)
    · exact le_line (by show (x ++ _).length + x.length ≤ _; rw [len_app]; omega)
  · rw [List.filter_eq_self.mpr (fun _ _ => rfl), List.nil_append]
    exact ⟨by decide +kernel, le_line (by decide +kernel), by decide +kernel, le_line (by decide), by decide +kernel, h⟩
end K50
namespace K50
open PySem PySem.Spec PyProof.Rows L2 Gx Tx Px Pm
theorem _root_.Gx.ScrAt.sm {K : PySem.W.Frag} {H H' : Hp} {a : Addr} {ns : List Int} (h : ScrAt K H a ns) (k : Same H H') : ScrAt K H' a ns := h.mono fun b o u e => k _ _ e
theorem _root_.Gx.SrcAt.of {H : Hp} {p : Addr} {o : HO} (h : SrcO o) (e : H p = some o) : SrcAt H p := by
  obtain ⟨x, y, rfl, r⟩ := h
  exact ⟨x, y, e, r⟩
def spLaw (K : PySem.W.Frag) : Sp := fun vs H Q _ => ∃ (a : Addr) (ns : List Int), vs = [.ref a] ∧ ScrAt K H a ns ∧ ns.length ≤ 63 ∧ (∀ z ∈ ns, Builtin.Int.intBits z ≤ 1048576) ∧ ∀ H', Q (.bl true) H'
section
variable {P : Program} {w : World} {K : PySem.W.Frag} {mg : Str → Option Value} {base : Heap}
theorem fn_law (F : Facts K mg) {fd : FuncData} (D : FunD K "law" "law" (defArgs s_law) (defBody s_law) (defScope s_law) [] [] (He.ga K "law") fd) : FnG P w K mg base CX0 10 (He.ga K "law") fd ["script"] (spLaw K) := by
  refine FnG.body D sc_law (fun vs H Q E h => ?_) (fun cdv A outer s H vs Q E hg hr h => ?_)
  · obtain ⟨_, _, rfl, _⟩ := h
    rfl
  · have hu := hu_of hr
    obtain ⟨tt, pt, ft⟩ := (d_t_law.2 F cdv A outer s H E hg hr).ex
    obtain ⟨tt1, pt1, ft1⟩ := (d_t_head.2 F cdv A outer s H E hg hr).ex
    refine ⟨_, PSs.nox (pss_app (as := [(defBody s_law).getD 0 (.Pass ⟨0, 0, 0, 0⟩), (defBody s_law).getD 1 (.Pass ⟨0, 0, 0, 0⟩), (defBody s_law).getD 2 (.Pass ⟨0, 0, 0, 0⟩), (defBody s_law).getD 3 (.Pass ⟨0, 0, 0, 0⟩), (defBody s_law).getD 4 (.Pass ⟨0, 0, 0, 0⟩)]) (bs := (defBody s_law).drop 5) (pt1 ()) (pss_cons (ps_for PassesOwn.never rfl (pi_range1 rfl (z_range F) (pa_cons (pe_callB (call_max2 rfl) (by rfl) (z_max F) (by decide +kernel) (pa_cons pe_int (pa_cons (pe_callB (call_min2 rfl) (by rfl) (z_min F) (by decide +kernel) (pa_cons pe_int (pa_cons (pe_callB call_len (by rfl) (z_len F) boot_len (pa_cons (pv 0) pa_nil)) pa_nil))) pa_nil))) pa_nil)) (pg_name (i := 2) sc_law.nd rfl (Or.inl rfl))
      (pss_cons (ps_set (i := 3) sc_law.nd rfl (Or.inl rfl) (pe_ca (ca_law_source F) (hr.mono (by decide)) rfl pass0 (pa_cons (pv 0) (pa_cons (pv 2) pa_nil))))
    (pt ())))
    (pss_one (ps_ret pe_bl)))), ?_⟩
    obtain ⟨a, ns, rfl, hS, hl, hb, q⟩ := h
    refine ft1 ⟨H, fun _ => False, fun _ => False⟩ _ H (.ref a, {}) (fun _ => none) _ ?_ (r_t_head _ _ ?_)
    · refine ⟨rfl, fun _ _ _ z => z, fun z e => e.elim, fun z e => e, fun z e => e.elim, (fun i j z e1 e2 => by cases e1), fun j hj => rfl, fun j sl hj => ?_⟩
      rcases j with _ | _ | _ | _ | _ | _ | _ | _ | _ | _ | _ | _ | _ | _ | j
      · cases hj
        exact ⟨rfl, .ref a, rfl, rfl⟩
      all_goals (cases hj <;> rfl)
    intro σ0 H0 own0 st0
    have hS0 : ScrAt K H0 a ns := hS.mono fun b o u e => st0.stay b _ (fun z => z) e
    have len0 : σ0.length = 14 := st0.len
    have s00 : σ0[0]? = some (some (.ref a)) := by
      obtain ⟨_, v, hv, rv⟩ := st0.slot 0 _ rfl
      have : v = V.ref a := rv
      rw [this] at hv
      exact hv
    have s01 : ∃ l, σ0[1]? = some (some (.ref l)) ∧ H0 l = some (.lst (typedL.map V.str)) := by
      obtain ⟨l, vs, _, hv, _, hl, pr⟩ := st0.slot 1 _ rfl
      refine ⟨l, hv, ?_⟩
      rw [← p_str pr]
      exact hl
    clear st0
    refine ⟨_, s00, _, _, rfl, .inl ⟨_, hS0.sq, rfl⟩, _, _, rfl, _, _, rfl, _, rfl, ?_, ?_, ?_⟩
    · repeat' split
      all_goals omega
    · repeat' split
      all_goals omega
    refine for_range (lo := 0) (fun i σ H' => ScrAt K H' a ns ∧ σ.length = 14 ∧ σ[0]? = some (some (.ref a)) ∧ ∃ l, σ[1]? = some (some (.ref l)) ∧ H' l = some (.lst (typedL.map V.str))) ⟨hS0, len0, s00, s01⟩ (fun i σ H' hi z => ?_) (fun σ H' z => q H')
    obtain ⟨hS', hlen, hs0, l, hs1, hl1⟩ := z
    have hi4 : i < 5 := by
      revert hi
      repeat' split
      all_goals omega
    have h0 : (σ.set 2 (some (.int (0 + (i : Int)))))[0]? = some (some (.ref a)) := by
      rw [List.getElem?_set_ne (by decide)]
      exact hs0
    have h1 : (σ.set 2 (some (.int (0 + (i : Int)))))[1]? = some (some (.ref l)) := by
      rw [List.getElem?_set_ne (by decide)]
      exact hs1
    have h2 : (σ.set 2 (some (.int (0 + (i : Int)))))[2]? = some (some (.int (0 + (i : Int)))) := List.getElem?_set_self (by omega)
    refine ⟨.ref a, h0, .int (0 + (i : Int)), h2, a, ns, _, rfl, hS'.sq, hl, hb, by omega, by omega, fun p o hp ho => ?_⟩
    have lp : l ≠ p := fun z => by
      rw [z, hp] at hl1
      cases hl1
    generalize g1 : upd _ p _ = H1
    obtain ⟨s1, e1, _⟩ := laid g1 hp
    have r1 : SrcAt H1 p := SrcAt.of ho e1
    have S1 := ScrAt.sm hS' s1
    have L1 : H1 l = some (.lst (typedL.map V.str)) := s1 _ _ hl1
    have r1' := r1
    obtain ⟨x1, y1, ep, _⟩ := r1'
    refine ft ⟨H1, fun z => z = p, fun z => z = p⟩ _ H1 ((.ref a, typedL), {}) (fun j => if j = 3 then some p else none) _ ?_ (r_t_law _ _ typed_ok _ _ fun e' he' => ?_)
    · refine ⟨by simp [hlen], fun _ _ _ z => z, fun z e => by rw [e]; exact .lst ep, fun z e => e, fun z e => ⟨3, rfl, by rw [e]; rfl⟩, fun i j z e1 e2 => ?_, fun j hj => ?_, fun j sl hj => ?_⟩
      · by_cases c1 : i = 3 <;> by_cases c2 : j = 3
        · rw [c1, c2]
        · rw [if_neg c2] at e2; cases e2
        · rw [if_neg c1] at e1; cases e1
        · rw [if_neg c1] at e1; cases e1
      · by_cases c : j = 3
        · subst c
          cases hj
        · rw [if_neg c]
      · rcases j with _ | _ | _ | _ | _ | _ | _ | _ | _ | _ | _ | _ | _ | _ | j
        · cases hj
          exact ⟨rfl, .ref a, by rw [List.getElem?_set_ne (by decide)]; exact h0, rfl⟩
        · cases hj
          refine ⟨rfl, .ref l, by rw [List.getElem?_set_ne (by decide)]; exact h1, l, typedL.map V.str, rfl, fun z => ?_, L1, strsP⟩
          rcases z with z | ⟨j, z⟩
          · exact lp z
          · dsimp only at z
            by_cases c : j = 3
            · rw [if_pos c] at z
              exact lp (Option.some.inj z).symm
            · rw [if_neg c] at z
              cases z
        · cases hj
          rfl
        · cases hj
          exact ⟨p, rfl, List.getElem?_set_self (by rw [List.length_set, hlen]; decide), .inl rfl, r1⟩
        all_goals (cases hj <;> rfl)
    · intro σ' H' own' st
      have keep : ScrAt K H' a ns := by
        refine S1.mono fun b o u e => st.stay b _ (fun z => ?_) e
        have z : b = p := z
        have e' : H1 b = some (.frz o u) := e
        rw [z, ep] at e'
        cases e'
      obtain ⟨_, v, hv, rv⟩ := st.slot 0 _ rfl
      have : v = e'.1.1 := rv
      rw [this, he'] at hv
      obtain ⟨_, v2, hv2, rv2⟩ := st.slot 1 _ rfl
      obtain ⟨l2, vs2, rfl, _, hl2, pr2⟩ := rv2
      have e2 : vs2 = e'.1.2.map V.str := p_str pr2
      rw [he'] at e2
      rw [e2] at hl2
      exact ⟨keep, st.len, hv, l2, hv2, hl2⟩
end
end K50
open PySem PySem.W PySem.Calls PyProof.Rows
set_option maxRecDepth 100000 in
set_option maxHeartbeats 0 in
theorem PySem.Challenge.cw_dugdays_k50_texts_of_menus_holds : PySem.Challenge.rw_dugdays_k50_texts_of_menus.Holds := by
  w_on; o_law
  refine HandSHeadRun.head_any (r := OpenLaw.row PySem.Challenge.rw_dugdays_k50_texts_of_menus) (q := view (OpenLaw.row PySem.Challenge.rw_dugdays_k50_texts_of_menus).prog [43]) (H := K50.hk) (ob := K50.ob) (M := 20000) (loose := K50.loose)
    (d := HandSHeadRun.topDef (OpenLaw.row PySem.Challenge.rw_dugdays_k50_texts_of_menus).prog 43) (kwd := []) K50.ob_eq (by kernel_rfl) (fun s => by kernel_rfl) K50.run (by kernel_rfl) (by kernel_rfl) (by kernel_rfl) (by rfl) (by first | assumption | decide +kernel) (by decide +kernel) ⟨rfl, rfl, rfl, rfl, rfl, by decide +kernel⟩ ?hw ?hc
  case hw => w_witness2
  case hc =>
    refine Gx.walk_G (l := PySem.Challenge.rw_dugdays_k50_texts_of_menus) (k := 10) (x := "script") (CX := fun _ => L2.CX0) rfl (by kernel_rfl) ⟨rfl, by decide, by decide⟩ ?F (fun _ _ _ _ _ z => z)
    intro w mg fa h Y G hmg0
    obtain ⟨K, KX, c⟩ := Y
    have F : K50.Facts K mg := ⟨c, h, KX, G⟩
    have hmg : mg ("law" : PySem.Str) = some (.ref fa) := by
      have e : (HandSHeadRun.topDef (OpenLaw.row PySem.Challenge.rw_dugdays_k50_texts_of_menus).prog 43).name = ("law" : PySem.Str) := by kernel_rfl
      rw [← e]
      exact hmg0
    have e := hmg.symm.trans (K50.g_law F)
    cases e
    obtain ⟨fd, D⟩ := K50.fun_law F
    exact ⟨K, fd, K50.spLaw K, KX, fun s u => D.bindsA (ps := ["script"]) (fun _ _ _ _ _ _ us hl => match us, hl with | [_], _ => rfl) s [u] rfl, fun H a ns h1 h2 h3 => ⟨a, ns, rfl, h3, h1, h2, fun _ => rfl⟩, fun base _ _ => K50.fn_law F D⟩
